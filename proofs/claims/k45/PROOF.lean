import PyProof.Rows.All
import Wide.All
import Wide.FinOn
import OpenK.KLine
import KE.RegKIsAll
import KE.KDictOf
import KE.KItem
import KE.LcSums
import KE.KBits
import PyProof.EqAt
import PyProof.EqKinds
import PyProof.TupleCall
import KE.RegKTryMore
import KE.KTryMore
import PySem.Challenge.RW_rowbreadth_k45_choices_made
set_option Elab.async false
set_option linter.all false
set_option maxRecDepth 100000
set_option maxHeartbeats 4000000
theorem Y {α:Sort _} {a:α}:a=a:=rfl
open Option renaming some→Z,none→O
open List renaming getElem?_eq_getElem→m6,getElem?_eq_some_iff→mF,getElem?_map→mJ,mem_cons→mM,mem_of_getElem?→mP,size_toArray→mQ,eq_nil_of_length_eq_zero→mS,replicate→mT,mem_singleton→mV,append_assoc→n8,range→nj,length_take→ny,cons_append→nB,mem_filter→nI,length_set→nJ,getElem?_set_ne→nV,take_add_one→nY,mem_range→nZ,map_cons→o5,mem_map→o9,take_length→oa,getElem?_append_right→oh,replicate_succ→oy,exists_cons_of_length_eq_add_one→oF,range_succ→oK,foldl_append→oN,mem_append→oO,map_map→oP,any_append→oY,filter_cons_of_neg→p7,length_range→pf,nodup_cons→pj,getElem_mem→pw,filter_append→py,getElem?_zip_eq_some→pB,mem_append_left→pE,flatten_cons→pK,map_congr_left→pR,filter_cons_of_pos→pS,length_replicate→pZ,mem_or_eq_of_mem_set→rE,filterMap_cons→rK,map_set→rL,map_append→rP,length_zip→rQ,length_eq_zero_iff→rR,find?_cons→rS,any_cons→rT,getElem_cons_succ→rZ,length_filter_le→sD,getElem?_eq_none→sE,lookup→sW,getElem_of_mem→sY,mem_filterMap→tG,filter_congr→tQ,sum_cons→tU,mem_singleton_self→tV,getElem?_cons_succ→tW,not_mem_nil→ua
open PyProof.Rows renaming boot_isinstance→m7,callWith_type1→ou,boot_list→oI,boot_max→sx
open Nat renaming le_refl→m8,le_trans→mL,ne_of_lt→nh,lt_of_le_of_lt→nk,zero_le→nK,add_le_add_left→o8,lt_irrefl→p6,add_mul→pA,succ_le_succ→rF,le_add_right→rG,add_assoc→rO,ne_of_gt→sy,le_of_ble_eq_true→sC,max_le→sO,one_mul→sU,min_eq_left→sV,zero_add→tE,le_max_right→u8
open PySem.Heap renaming get?_push_of_some→mD,lt_size→mH,get?_push_size→mX,SameBut→pL,size_push→rh
open PySem.W renaming kitOne→mE,nsIn→mG,keepIn→mR,findIn→ng,fnOf→o4,makesIn→oj,hideAll→om,kia_one→oJ,emptyDict→oW,codeIn→oX,specialIn→pe,takesIn→pG,instObj→pH,mroIn→rp,callWith_K→rN,hasDictIn→si,plainGet→sI,hideAll_none→sK,hideAll_get→sR,KeysLit→sS,of_hideAll→tz,isFn→tD
open PySem renaming sizeLine→mI,starEach→mO,mainGlobals→mW,Program→nQ,boot_len→o6,FuncData→og,wpAny_mono→oB,Spec→oC,foldedSetIterable→oH,wpAny_field→oM,compEnvC→oS,sysModules→oU,wpAny_truthy_bool→oZ,compareOp→pi,wpAny_seqItems→pN,wpAny_holding→pW,wpAny_setField_rec→rA,wpAny_Call_Name_kw→rB,wpAny_passesOwn→rC,letOwnedTupleGo→rD,mem_of_lookup→rH,wpAny_call_entry→rW,wpAny_execs_nil→su,tupleKind_room_in1→sv,binaryOp→sw,wpAny_pyIter_list→sL,keywordEach→sM,bootBuiltins→sP,attributeBase→tJ,assignEach→tL,sliceBounds→tO,codeAny→tP
open PySem.Value renaming ref→mK,none→rX,int→sQ
open PySem.F renaming plainAttrs_list→mU,type_list_append→mY,slot_list_append→mZ,slot_dict_get→px,slot_zip_next→pU,slot_tuple_iterator_next→rM,entry_dict_get→rY
open Bool renaming noConfusion→nz,and_eq_true→oo,eq_false_iff→ph,or_eq_false_iff→pF,false_eq_true→rV,eq_iff_iff→tw,false_and→tK,not_eq_true'→tR,or_false→tY
open Classical renaming byContradiction→nA
open PySem.Builtin.SmallTypes renaming ownedTupleIsFree→nO,nextOf→nP
open Option.some renaming inj→nR
open PySem.PyData renaming depthAll→ot,depth→p5
open Int renaming toNat_of_nonneg→oA,mul_le_mul_of_nonneg_right→oG,add_mul→sk,mul_nonneg→sr,natCast_mul→sZ,natCast_add→tj,le_refl→tm,eq_ofNat_of_zero_le→tX
open PySem.PassesOwn renaming never→oE
open Ne renaming symm→oQ
open False renaming elim→p4
open Nat.succ renaming inj→pd
open PySem.Challenge renaming rw_rowbreadth_k45_choices_made→pC
open Prod renaming fst→pD
open PySem.NameKind renaming free→pJ,cell→rJ
open And renaming intro→pM
open PySem.Builtin renaming bitXor→pP,bitAnd→pQ,bitOr→pX
open Option renaming map_eq_some_iff→pV,map_some→sT
open PySem.Builtin.Range renaming rangeSize→pY
open True renaming intro→rj
open PySem.Builtin.List renaming listTooLong→sf
open List.Sublist renaming refl→sj
open PySem.Calls renaming spliced_cons→sF,evalArgs_plain→tI
open Sum renaming inl→tS
open PySem.Str renaming ofString→tZ
open PySem.ScopeKind renaming function→u7
abbrev Fg:=PySem.W.Frag
abbrev Vl:=PySem.Value
abbrev Ad:=PySem.Addr
abbrev Sh:=PySem.Shared
abbrev J0:=PySem.Str->Option Vl
abbrev J5:=Vl->Sh->Prop
abbrev J6:=List Int
abbrev J7:=List (Ad×PySem.Obj)
abbrev J8:=List Vl
abbrev Ja:=Option Vl
abbrev Jb:=List PySem.Str
abbrev Jc:=List Ad
abbrev Jd:=List PySem.Expr
theorem Je {α:Type _} {β:Type _} {as:List α} {f:α->β}:(as.map f).length=as.length:=List.length_map ..
theorem Jf {α:Type _} {as bs:List α}:(as++bs).length=as.length+bs.length:=List.length_append ..
theorem Jg {α:Type _} {β:Type _} {f:α->β} {as bs:List α}:(as++bs).map f=as.map f++bs.map f:=rP ..
namespace PySem.W.Fast
def tw13145733918658581577:=0
def tw16108169876229479701:=0
def tw5984531561506732006:=0
def tw2215768402264244039:=0
def tw17902431308863096897:=0
def tw16592762264553091423:=0
def tw6070701905257918646:=0
def tw6364786353890997036:=0
def tw3073950272972416129:=0
def tw16493119935264101739:=0
def tw10363614012740701343:=0
def tw16221478614748952464:=0
def tw3480318735256249109:=0
def tw3608860311992772078:=0
def tw7166759006885161420:=0
def tw15938191630070252502:=0
def tw12063992876998529918:=0
def tw1291357722789523260:=0
def tw1558118068099901443:=0
def tw5107298790954182420:=0
def tw10659122239220391394:=0
def tw9105989434281392261:=0
def tw13611264093053378955:=0
def tw8630270632445348286:=0
def tw17508040825573159937:=0
def tw5276367976083526013:=0
def tw9288096416737033830:=0
def tw7473114398329751220:=0
def tw1776283788360131996:=0
def tw2086757280295521973:=0
def tw9208986705922157024:=0
def tw12900717463173503516:=0
def tw4909874262214245207:=0
def tw16049455600541161268:=0
def tw15093618362313366507:=0
def tw719895137562479951:=0
def tw17278885747172132193:=0
def tw14231901082363702704:=0
def tw14378486703032159809:=0
def tw9143682316658597830:=0
def tw8244738367676281946:=0
def tw13420672837809323962:=0
def tw628041791689786751:=0
def tw15062983183027417408:=0
def tw9003955592825482453:=0
def tw14552213523484087528:=0
def tw2176795082375306191:=0
def tw59692808305204272:=0
def tw16662179471000603126:=0
def tw2568520693223463186:=0
def tw18424615595508411437:=0
def tw11848137851194881677:=0
def tw3669934670186472902:=0
def tw6919406647124475602:=0
def tw5617593224658817930:=0
def tw2404823268569191436:=0
def tw10942713463642755850:=0
def tw7611746620952819870:=0
def tw16328001645884209240:=0
def tw6339794481115635337:=0
def tw9728424857853563785:=0
def tw3738372137535259282:=0
def tw15503964953339212193:=0
def tw11172637210773751561:=0
def tw5308837647504662915:=0
def tw14163155223737080720:=0
def tw2197370733667027238:=0
def tw14380185977382215898:=0
def tw9450352104912345635:=0
def tw12397525968879691836:=0
def tw1790632334278314453:=0
def tw5138267352091074296:=0
def tw4490116250337845343:=0
def tw15152320112911657297:=0
def tw15355066419680264575:=0
def tw3098045558379081225:=0
def tw16976843324673776557:=0
def tw12111981783230235474:=0
def tw18090765532821445938:=0
def tw3964005737804226278:=0
def tw11891578736694305591:=0
def tw10240011581708342791:=0
def tw10826828224481730484:=0
def tw7022257418642702385:=0
def tw14261365688399526695:=0
def tw5401827779502814469:=0
def tw17108972793483045184:=0
def tw13260891179623157299:=0
def tw2373908002098955842:=0
def tw8445295728072623769:=0
def tw522866061010062570:=0
def tw5660912196872634933:=0
def tw3854639923379020993:=0
def tw8101280089771553048:=0
def tw490178481064735372:=0
def tw4167696739283947515:=0
def tw13330569294948090528:=0
def tw2162445892532615513:=0
def tw8736212514918710960:=0
def tw590118711082952639:=0
def tw18304526659015777732:=0
def tw8180674828048195603:=0
def tw2248600723625435144:=0
def tw8545325980726343140:=0
def tw18206594831128215192:=0
def tw12686273561995967063:=0
def tw14841014622703770483:=0
def tw3589502952014821581:=0
def tw11017409351583940407:=0
def tw8612022351714606504:=0
def tw11146035817209407195:=0
def tw4122676538462006977:=0
def tw10956251033131293593:=0
def tw4987848563483972412:=0
def tw6761231360416870442:=0
def tw9274281423392861451:=0
def tw2292135225242501887:=0
def tw17559513113992092941:=0
def tw7969128940084328314:=0
def tw12370286028391098240:=0
def tw14170486624899042424:=0
def tw17365863531903960042:=0
def tw16689275700167687926:=0
def tw16458426971118160248:=0
def tw6822492291377578471:=0
def tw14722163947969906111:=0
def tw11224733685247044505:=0
def tw4394238255449436043:=0
def tw8286842412142056372:=0
def tw15575753557291019857:=0
def tw10056617777218233150:=0
def tw1100254938558088702:=0
def tw6630475288567534000:=0
def tw9891228410968728302:=0
def tw13000175880430327957:=0
def tw4430592016679356247:=0
def tw16962233436287032716:=0
def tw414921203469783051:=0
def tw14604354657294560508:=0
def tw7535203339294989422:=0
def tw2319390450741520368:=0
def tw9573748061382899624:=0
def tw9247657982638176974:=0
def tw1081097507756960606:=0
def tw8149635066796544732:=0
def tw16584628271900376258:=0
def tw10279039684583961037:=0
def tw6369234942828704043:=0
def tw5536468021468059621:=0
def tw16879959168760366267:=0
def tw8687397765660968111:=0
def tw14698487989557643383:=0
def tw11423162869174759309:=0
def tw10741683827447793359:=0
def tw1495294463753341523:=0
def tw7619040718483756512:=0
def tw3355342209581515686:=0
def tw12516293914257243977:=0
def tw3171700074790387862:=0
def tw1520596316638840036:=0
def tw3739320186577707753:=0
def tw17884697277742041778:=0
def tw5905514181149178817:=0
def tw11726321216809441059:=0
def tw13870688572496167256:=0
def tw5932546927744283058:=0
def tw7428077791931676110:=0
def tw16142733992598528076:=0
def tw15416186391073389849:=0
def tw12682864958034471815:=0
def tw3601954105737765025:=0
def tw4656914700031535796:=0
def tw14856957342265551078:=0
def tw6413960156064892569:=0
def tw3713481117161412211:=0
def tw2098347890264135867:=0
def tw5602141292536113247:=0
def tw16982656591615762963:=0
def tw15529931032593428931:=0
def tw18080342561002559365:=0
def tw2922710358601787423:=0
def tw14551475734639975386:=0
def tw16077792712148395389:=0
def tw14717656648837116238:=0
def tw17578326618290407635:=0
def tw1844846059922505824:=0
def tw13095794459855716344:=0
def tw4866980470642163442:=0
def tw12587899868934718846:=0
def tw14400070578582713214:=0
def tw564501141730484890:=0
def tw10506862561439559837:=0
def tw9388142219861118114:=0
def tw14024533872661461181:=0
def tw4064866798669427914:=0
def tw13234144911634908171:=0
def tw1477445829102101938:=0
def tw16996985878663643209:=0
def tw10994703573638627855:=0
def tw4875585114293784074:=0
def tw13377618705088473604:=0
def tw973510736644784582:=0
def tw14726782212243028299:=0
def tw17549132135611019305:=0
def tw10502161577465351506:=0
def tw10172811698066567230:=0
def tw15374035766959128231:=0
def tw7745211849764895418:=0
def tw7872968979175781630:=0
def tw12341550839114855737:=0
def tw4530838110902500592:=0
def tw16773922959633820154:=0
def tw8029975773251828731:=0
def tw959635701711262896:=0
def tw17884474056591498825:=0
def tw1089378009238339387:=0
def tw6967101220128323757:=0
def tw3625408179547903148:=0
def tw9834821986418592597:=0
def tw11146230173316313264:=0
def tw4796967060573850903:=0
def tw4186663033570871370:=0
def tw15853702354871625019:=0
def tw9967261435324181793:=0
def tw11401968576576548074:=0
def tw10488442467934922467:=0
def tw10061570329567541455:=0
def tw8813396988884483148:=0
def tw7828806025948341942:=0
def tw6688564514099066361:=0
def tw11528845795133949792:=0
def tw8333608859446050903:=0
def tw13859633698160641909:=0
def tw16095989455062263884:=0
def tw8233933252219885697:=0
def tw3682829142190554740:=0
def tw12970557591836364236:=0
def tw9635383672868483746:=0
def tw12479108564155493796:=0
def tw5834690806341776913:=0
def tw13742500380477197941:=0
def tw11289520195085989392:=0
def tw14751743960733808840:=0
def tw12223083313339267620:=0
def tw869164260231727971:=0
def tw14646684704048203235:=0
def tw6850039530930631586:=0
def tw13797856052215560466:=0
def tw3840694260097027666:=0
def tw3092166652138997669:=0
def tw12371635993336021705:=0
def tw3295862996717122460:=0
def tw17252047191023827186:=0
def tw16775433517704381602:=0
def tw7278909472266917949:=0
def tw13342682397553029699:=0
def tw14127892480877511107:=0
def tw2511345198373495806:=0
def tw2199317082937484959:=0
def tw5891725685757325633:=0
def tw13387021597651182469:=0
def tw11604056654858853692:=0
def tw9517241515838209454:=0
def tw14299577494191880851:=0
def tw5092306482742248940:=0
def tw15513376124909995503:=0
def tw10101665835689155142:=0
def tw9215868001146079708:=0
def tw2925146059997037473:=0
def tw1845138705685759601:=0
def tw9147329300127562415:=0
def tw14261489115795263265:=0
def tw13878759529318437695:=0
def tw4236775185447599887:=0
def tw8303500545481553582:=0
def tw12615616877995419423:=0
def tw11561722114613531271:=0
def tw17799829373579661603:=0
def tw13886798372657162608:=0
def tw6577856769893910995:=0
def tw9045246758717556806:=0
def tw14545207533748601970:=0
def tw139857574060261157:=0
def tw330690062353279287:=0
def tw5868620227251623514:=0
def tw14313098592789538323:=0
def tw16134430262025854328:=0
def tw5078393710896929244:=0
def tw7837901800715567269:=0
def tw7270008930857263366:=0
def tw18390290573610103166:=0
def tw6536815690324970220:=0
def tw6453502783537460242:=0
def tw5043631544323461700:=0
def tw1234375329180246069:=0
def tw2678947065701017557:=0
def tw17172696654288933189:=0
def tw7768595294768979512:=0
def tw9664468305342790275:=0
def tw10428480465702286739:=0
def tw12872835989232679341:=0
def tw13233941286336932752:=0
def tw17525881625122343999:=0
def tw1194969643177647789:=0
def tw8021272865891465746:=0
def tw3854696674527410800:=0
def tw15055084530487616488:=0
def tw14328118188161117673:=0
def tw13160529158309808311:=0
def tw11577604036876707568:=0
def tw2679077521116346566:=0
def tw7626727760503609005:=0
def tw2335355341356116260:=0
def tw17944836969546796857:=0
def tw9595446451271132890:=0
def tw13810452807519911827:=0
def tw4925115352239009457:=0
def tw17172418317358202697:=0
def tw957579747346165302:=0
def tw9378610438628375026:=0
def tw4989447239788164202:=0
def tw17375349783940038151:=0
def tw1908020417644914846:=0
def tw16486065239922535222:=0
def tw10613897384792724424:=0
def tw9204810864140736766:=0
def tw915225655215309491:=0
def tw4866569117725464928:=0
def tw1201386632816046233:=0
def tw9347104151409100751:=0
def tw3760180117570779028:=0
def tw3499669482591696911:=0
def tw840723462785201945:=0
def tw18160356660836249867:=0
def tw4660772993090975164:=0
def tw18019990171056880301:=0
def tw7830399432469765912:=0
def tw6087755774045947074:=0
def tw38101453876677551:=0
def tw18382806699138880927:=0
def tw8041185930965959898:=0
def tw17221421445316189715:=0
def tw8136898244744882089:=0
def tw5883642421289667369:=0
def tw13817056798254763273:=0
def tw12516684064783308562:=0
def tw12301703625864217892:=0
def tw7199531365234135895:=0
def tw7481869080175305798:=0
def tw7049146163320900390:=0
def tw3881740706272416348:=0
def tw3729416259963489437:=0
def tw14810240122389290411:=0
def tw14055877240999528932:=0
def tw10071408227660243032:=0
def tw7319596805517641410:=0
def tw3533202931771060035:=0
def tw8989222803518272811:=0
def tw2247576023547040973:=0
def tw1933821012867721198:=0
def tw16413074296304766783:=0
def tw10980139327298625600:=0
def tw10922352798126289722:=0
def tw14676894982770992416:=0
def tw10819678076749702282:=0
def tw15762981990412856189:=0
def tw11228924823445209404:=0
def tw9452143227228372978:=0
def tw13303677807374365182:=0
def tw10658714165821109241:=0
def tw4064815580727702386:=0
def tw2289131601343465230:=0
def tw6643685397349265767:=0
def tw14524292321764164414:=0
def tw9340479176311449410:=0
def tw8195982600799549599:=0
def tw342248676865099364:=0
def tw3002949682634230540:=0
def tw18239397865518509282:=0
def tw13415487568306139197:=0
def tw11875179864352729371:=0
def tw11083624838553685930:=0
def tw10449068431123101552:=0
def tw807186476770334900:=0
def tw11522547155148942167:=0
def tw11395674747845619475:=0
def tw5269589660717002072:=0
def tw3640774800660339346:=0
def tw14528854963551576240:=0
def tw14008177645973935337:=0
def tw4506147283380580711:=0
def tw16335743415216423167:=0
def tw10862853192729325138:=0
def tw9050915289717375799:=0
def tw9002001287884577962:=0
def tw94062378135398939:=0
def tw11263539763958651221:=0
def tw10775823535734791318:=0
def tw3118732182388800011:=0
def tw7647951641057702469:=0
def tw5242047068489944549:=0
def tw3753048784254842366:=0
def tw10312518652279764100:=0
def tw4016136796934522525:=0
def tw478326666213412021:=0
def tw18154362512523818380:=0
def tw8574500897840006254:=0
def tw7374427084861815821:=0
def tw1101135659944141712:=0
def tw13801992676593924724:=0
def tw12945289943511281427:=0
def tw12953100538529480928:=0
def tw10772266372923389325:=0
def tw938045536165333465:=0
def tw16915091444533587489:=0
def tw17442490497366966624:=0
def tw7086649656100558276:=0
def tw14177078089168258703:=0
def tw824747338357233210:=0
def tw8043441768005093218:=0
def tw9473757982392573516:=0
def tw5403704249451888628:=0
def tw15386004512637888829:=0
def tw13812638268041420968:=0
def tw10262388342412682896:=0
def tw4131857224691402248:=0
def tw11302598802040089786:=0
def tw9686357110131135382:=0
def tw8560937921114460672:=0
def tw5278754673418655724:=0
def tw1469224879771901867:=0
def tw17743401967732146967:=0
def tw4379289393275420072:=0
def tw9430907077838690357:=0
def tw7566454968594804012:=0
def tw1553026085939692233:=0
def tw16889020850725879195:=0
def tw7851150063759380196:=0
def tw14202721061833017907:=0
def tw9530839678571081066:=0
def tw16207193911203570452:=0
def tw4208476424534582319:=0
def tw14436697686156194421:=0
def tw9940942157989146186:=0
def tw3595937673097872127:=0
def tw13805344340234977843:=0
def tw10884209194029220117:=0
def tw10468480333969809853:=0
def tw9898935425374266665:=0
def tw9340763022473619072:=0
def tw933606785378427310:=0
def tw8903829799770986679:=0
def tw6184517347816531871:=0
def tw3570689732238691575:=0
def tw1936094076633109875:=0
def tw15979004938829163096:=0
def tw14476191861888742481:=0
def tw13480091796367077907:=0
def tw11848900507253161391:=0
def tw3955168819947267261:=0
def tw13280290953081697439:=0
def tw12443955896965923989:=0
def tw9530336135458454714:=0
def tw13433555763626699473:=0
def tw5668227088240575736:=0
def tw1855942840589870994:=0
def tw3428303561149254885:=0
def tw11403120013869238520:=0
def tw11251733869627458670:=0
def tw9251212725566864378:=0
def tw13131716230261562171:=0
def tw5285758208084892652:=0
def tw17341112408736475219:=0
def tw12409589225691201831:=0
def tw5082190773499816627:=0
def tw3649317740662739946:=0
def tw12605759749065795174:=0
def tw13291020113213801472:=0
def tw5841973405712424624:=0
def tw17407714266542779083:=0
def tw13330597263192751127:=0
def tw13956008101944781393:=0
def tw12870948072990437525:=0
def tw10876610597226461902:=0
def tw8374902300571336058:=0
def tw6809611716097738984:=0
def tw3560912285861206842:=0
def tw3472446190110883107:=0
def tw13613836259488112346:=0
def tw5426690150903500935:=0
def tw9818036445402434619:=0
def tw8006559463852241563:=0
def tw5152607841930140924:=0
def tw13587384265070881830:=0
def tw14463920019174845670:=0
def tw8120390638480153764:=0
def tw6640475737039845786:=0
def tw6232240987283176787:=0
def tw6151936521808792656:=0
def tw4268903360244491735:=0
def tw2264901019182667755:=0
def tw2106658112396743681:=0
def tw18067896966541474974:=0
def tw1774647649652573861:=0
def tw14959872566359679857:=0
def tw11242081466079759554:=0
def tw11162724542565832285:=0
def tw10804337521849970188:=0
def tw16860529669301777045:=0
def tw3196700361820097663:=0
def tw8333100081495893386:=0
def tw4240929532036475263:=0
def tw13018550057344497431:=0
def tw27536125354267937:=0
def tw2249546977516396769:=0
def tw9694048779005690765:=0
def tw4342958194345450128:=0
def tw2489402260115387684:=0
def tw18347876143603695059:=0
def tw17111425216170826887:=0
def tw1640379301396643177:=0
def tw11772766972283477757:=0
def tw7481373846700748599:=0
def tw8378981033764177033:=0
def tw7945817827193813968:=0
def tw6293417254361677110:=0
def tw4774880463374304284:=0
def tw3164726300958680037:=0
def tw23283879254391115:=0
def tw1521658314041261941:=0
def tw136114473316945957:=0
def tw11263652362719664613:=0
def tw7608193456720454686:=0
def tw6234459833535418882:=0
def tw2378719524590561787:=0
def tw15366599175865422291:=0
def tw14487327911893666938:=0
def tw10580541312975950840:=0
def tw10428261333215712413:=0
def tw2262861841440320157:=0
def tw988357412053184798:=0
def tw7327343508581678020:=0
def tw9409395406425081187:=0
def tw8584544572480765404:=0
def tw7662957064233273037:=0
def tw7353564279987788907:=0
def tw6663580933253748222:=0
def tw6527464390577549451:=0
def tw636260757593061702:=0
def tw5998077294050390467:=0
def tw5983463147957075833:=0
def tw4761326607783369648:=0
def tw33413920232002901:=0
def tw2575678311644733349:=0
def tw1924707575591051124:=0
def tw17261801343160767138:=0
def tw16989776846813789579:=0
def tw15475054982936910584:=0
def tw14621934551187432923:=0
def tw14512182384733406823:=0
def tw14511071837494773222:=0
def tw11665926754296383392:=0
def tw429842731289236821:=0
def tw10014798880444900472:=0
def tw7683814976740946059:=0
def tw664075984703823580:=0
def tw18407160055412312765:=0
def tw15517351033147760018:=0
def tw14157929470874756795:=0
def tw10829964429125688662:=0
def tw9195553670975529537:=0
def tw953734199006353497:=0
def tw5374356949654610019:=0
def tw17037293744920642730:=0
def tw12658211669030660571:=0
def tw10132110246636543949:=0
def tw13727217050396564981:=0
def tw12419334316182849793:=0
def tw17195583163683762250:=0
def tw9631255192433143865:=0
def tw8360155539010715326:=0
def tw7392587326619102779:=0
def tw6841671934170614571:=0
def tw6586927115481579768:=0
def tw6578776706231220711:=0
def tw5165784043807980346:=0
def tw4064277091796986672:=0
def tw2112492260813223792:=0
def tw16263831039960761682:=0
def tw1571406351936698360:=0
def tw14281117595559723811:=0
def tw11323211490656722830:=0
def tw10761453697860846103:=0
def tw16484784742553578861:=0
def tw120672333284503390:=0
def tw9408580165774967799:=0
def tw17408204979953234039:=0
def tw4802520914545067443:=0
def tw13856585178653835781:=0
def tw10177004576298517517:=0
def tw17530218893625216558:=0
def tw12637005717648888612:=0
def tw8917318571582854722:=0
def tw7685227909240356808:=0
def tw6514348156351406511:=0
def tw6358567042301392433:=0
def tw6007878278435014735:=0
def tw4082709888841717730:=0
def tw4027542048801082423:=0
def tw2780245376289792060:=0
def tw2684676448976861983:=0
def tw2299122338252270990:=0
def tw15942233628200967560:=0
def tw15847637791637327167:=0
def tw15642636332652554076:=0
def tw1542841672686471410:=0
def tw14720692073962718454:=0
def tw13379340435709304859:=0
def tw13213293785532522431:=0
def tw12204562928615225141:=0
def tw11955240997705715338:=0
def tw11173535526738898586:=0
def tw10162358208475682014:=0
def tw4655154790820767172:=0
def tw18051555933145437509:=0
def tw8617396520171548421:=0
def tw8525112403411139573:=0
def tw5187227547753426563:=0
def tw2001026620614665300:=0
def tw15719727378414757651:=0
def tw15697283940908253240:=0
def tw15631532553551873691:=0
def tw11619478959770142178:=0
def tw11213718328214227431:=0
def tw17455335228644935572:=0
def tw14906639586743239210:=0
def tw9938380370376546000:=0
def tw9916181193811792529:=0
def tw1826933838224827323:=0
def tw4413486845479542641:=0
def tw6891088813358941608:=0
def tw14513401992915037923:=0
def tw17421413037350932629:=0
def tw16507785045349711965:=0
def tw5793064731395362167:=0
def tw6071992616427816146:=0
def tw17549415930797237257:=0
def tw16178009234887003913:=0
def tw7108556125431174516:=0
def tw16771862517308447666:=0
def tw9101310229674559804:=0
def tw6302788239861633582:=0
def tw11329403437358399974:=0
def tw15081173534996507766:=0
def tw15367941411852415778:=0
def tw13851040441313311270:=0
def tw8856764142625678935:=0
def tw12044098615591247608:=0
def tw10773678434334518567:=0
def tw7628921999338537531:=0
def tw4987903666285036963:=0
def tw12497697030686711382:=0
def tw11634969585986522829:=0
def tw17483886150480134452:=0
def tw13347736960162083054:=0
def tw8992059556574252351:=0
def tw9299633569916830579:=0
def tw9854970834959297434:=0
def tw6539616074953391490:=0
def tw16284343891162565079:=0
def tw16323978204802827779:=0
def tw17604450394197749838:=0
def tw4275185142567941928:=0
def tw5318210765899842194:=0
def tw1006151707866008094:=0
def tw18082225644899076097:=0
def tw3029130733282923749:=0
def tw6162912214429802843:=0
def tw1660868510323498397:=0
def tw13383403627537780485:=0
def tw2269419000274665869:=0
def tw2049775702736774241:=0
def tw7599294950170091041:=0
def tw8316775631594542459:=0
def tw18273098162901773137:=0
def tw15708042444189751097:=0
def tw6112432757214140233:=0
def tw8620667289812149710:=0
def tw1194710535420574842:=0
def tw6636069301833340577:=0
def tw15412066606318575708:=0
def tw2638586944396379924:=0
def tw15692354164242280081:=0
def tw14168250070679235834:=0
def tw3495090570113635219:=0
def tw10362763422996140587:=0
def tw2348259229464233630:=0
def tw10133418462371800691:=0
def tw4714062647761929640:=0
def tw7791172776158421509:=0
def tw11034151812108665878:=0
def tw891556501708184885:=0
def tw14497490714336801152:=0
def tw3884984574074869241:=0
def tw6133567689578204417:=0
def tw13127640155434941225:=0
def tw18084898561836264265:=0
def tw8125894546679001510:=0
def tw13422279640340643839:=0
def tw6799348312254747487:=0
def tw14123494147243610189:=0
def tw6511968971619853630:=0
def tw2566673115342986442:=0
def tw15882204671866459982:=0
def tw6108306010350176675:=0
def tw2606940077689792348:=0
def tw7689236734189680521:=0
def tw18381674578333358128:=0
def tw6465574413415179339:=0
def tw17676854902222034908:=0
def tw2787375821625320883:=0
def tw18035741156472908187:=0
def tw13017520828693172946:=0
def tw15518816264012083842:=0
def tw2029360566239566453:=0
def tw184898911082895426:=0
def tw13764415653175017619:=0
def tw9573326771433661030:=0
def tw8774951409826041260:=0
def tw18021444137816911908:=0
def tw6240448644427116846:=0
def tw10889848487166691899:=0
def tw1359194795096108760:=0
def tw13568301521327502699:=0
def tw4769408712329088874:=0
def tw4816608475810084746:=0
def tw13916905860713505808:=0
def tw14376858400266742254:=0
def tw14326426727988130361:=0
def tw10332858555970436466:=0
def tw9495915962331626261:=0
def tw4743838833321170337:=0
def tw17511297699125104652:=0
def tw8487389920278376151:=0
def tw2199186792822748741:=0
def tw16837168035199292591:=0
def tw2208796023296575778:=0
def tw17400920530536129001:=0
def tw16645596309927740047:=0
def tw11859346185358764278:=0
def tw14421112819047941870:=0
def tw7360561695312582971:=0
def tw3846720630935588746:=0
def tw8938815598554920023:=0
def tw2769488375465740893:=0
def tw6789763890950649713:=0
def tw12385059752842273636:=0
def tw15732460149331354084:=0
def tw5047508783030136728:=0
def tw9065927529463688196:=0
def tw211077933414583897:=0
def tw1538296922915927205:=0
def tw12541216800565394716:=0
def tw2990952332315520570:=0
def tw11917840914149750493:=0
def tw2831210988723723611:=0
def tw1758033322538244235:=0
def tw6549217646227369587:=0
def tw7000752756541170760:=0
def tw2547717758368613653:=0
def tw14873623795100911509:=0
def tw7595643592241756649:=0
def tw4812919547461744102:=0
def tw7098625546588313393:=0
def tw1097781340151078899:=0
def tw10532267559555075839:=0
def tw10339788927421634846:=0
def tw17912556502409076285:=0
def tw1125784674360371254:=0
def tw16753966817813465621:=0
def tw8248427406458242244:=0
def tw1205703069199700475:=0
def tw5506476684617938912:=0
def tw15836631188411329059:=0
def tw3474599586921678228:=0
def tw11194805395210393783:=0
def tw6226006350416195967:=0
def tw9755037453014328811:=0
def tw1384699619201739549:=0
def tw2659422483272958832:=0
def tw2261366153063056138:=0
def tw8130952997813656514:=0
def tw6440730292391513867:=0
def tw11611959135943927520:=0
def tw9186924028945543363:=0
def tw2472673312403546020:=0
def tw14228723053850620526:=0
def tw824622704906418641:=0
def tw3145955614839687852:=0
def tw15666740110567130732:=0
def tw3479236202531181968:=0
def tw16030726831299323277:=0
def tw16541337478323256714:=0
def tw10105123178401189475:=0
def tw16387607229634229386:=0
def tw7068026703143025714:=0
def tw17701046931900911086:=0
def tw6537395499120944528:=0
def tw4446187983273168150:=0
def tw16665455258844298505:=0
def tw8510097591165492010:=0
def tw14218821170092728336:=0
def tw3792182492248863485:=0
def tw13674986453428366290:=0
def tw18234320561072401995:=0
def tw2548664152160813526:=0
def tw3093670911389889649:=0
def tw6419152782979857811:=0
def tw263227177713714558:=0
def tw86547958807392307:=0
end PySem.W.Fast
open PySem renaming wpAny_bind→q0x
open PySem renaming wpAny_pure→q0y
open Int renaming toNat_natCast→q0z
open List renaming getD_eq_getElem?_getD→q6x
open List renaming mem_cons_of_mem→q6y
open List renaming mem_cons_self→q6z
open Bool renaming false_ne_true→q7x
open List renaming mem_append_right→q7y
open Nat renaming lt_of_lt_of_le→q7z
open List renaming length_cons→q8x
open List renaming append_nil→q8y
open List renaming getElem?_set_self→q8z
open List renaming getElem?_append_left→q9x
section
open PySem PySem.W
def ckx {α : Type} (a : List α) (i : Nat) : List α := (a.drop i).take 64
def ckv (p : Addr × Obj) : Option Obj := Z p.2
theorem ck2 {α β γ : Type} {f : α → γ} {g : β → γ} {a : List α} {b : List β} {i : Nat} (x : (ckx a i).map f = (ckx b i).map g) (y : (a.drop (i + 64)).map f = (b.drop (i + 64)).map g) : (a.drop i).map f = (b.drop i).map g := by
  have h1 : ((a.drop i).take 64 ++ (a.drop i).drop 64).map f = ((b.drop i).take 64 ++ (b.drop i).drop 64).map g := by
    rw [rP, rP, List.drop_drop, List.drop_drop, y]
    exact congrArg (· ++ _) x
  rw [List.take_append_drop, List.take_append_drop] at h1
  exact h1
theorem ck_of {K : Params → Frag} {a : List Addr} (e : ∀ P, a = (K P).map (·.1)) (w : World) (s : Shared) (x : (((((ckx a 0).map s.heap.get?, (ckx a 64).map s.heap.get?), ((ckx a 128).map s.heap.get?, (ckx a 192).map s.heap.get?)), (((ckx a 256).map s.heap.get?, (ckx a 320).map s.heap.get?), ((ckx a 384).map s.heap.get?, (ckx a 448).map s.heap.get?))), ((((ckx a 512).map s.heap.get?, (ckx a 576).map s.heap.get?), ((ckx a 640).map s.heap.get?, (ckx a 704).map s.heap.get?)), (((ckx a 768).map s.heap.get?, (ckx a 832).map s.heap.get?), ((ckx a 896).map s.heap.get?, ((a).drop 960).map s.heap.get?)))) = (((((ckx (K w.params) 0).map ckv, (ckx (K w.params) 64).map ckv), ((ckx (K w.params) 128).map ckv, (ckx (K w.params) 192).map ckv)), (((ckx (K w.params) 256).map ckv, (ckx (K w.params) 320).map ckv), ((ckx (K w.params) 384).map ckv, (ckx (K w.params) 448).map ckv))), ((((ckx (K w.params) 512).map ckv, (ckx (K w.params) 576).map ckv), ((ckx (K w.params) 640).map ckv, (ckx (K w.params) 704).map ckv)), (((ckx (K w.params) 768).map ckv, (ckx (K w.params) 832).map ckv), ((ckx (K w.params) 896).map ckv, (((K w.params)).drop 960).map ckv))))) : InK K w s.heap :=
  InK.of e w s (ck2 (congrArg (·.1.1.1.1) x) (ck2 (congrArg (·.1.1.1.2) x) (ck2 (congrArg (·.1.1.2.1) x) (ck2 (congrArg (·.1.1.2.2) x) (ck2 (congrArg (·.1.2.1.1) x) (ck2 (congrArg (·.1.2.1.2) x) (ck2 (congrArg (·.1.2.2.1) x) (ck2 (congrArg (·.1.2.2.2) x) (ck2 (congrArg (·.2.1.1.1) x) (ck2 (congrArg (·.2.1.1.2) x) (ck2 (congrArg (·.2.1.2.1) x) (ck2 (congrArg (·.2.1.2.2) x) (ck2 (congrArg (·.2.2.1.1) x) (ck2 (congrArg (·.2.2.1.2) x) (ck2 (congrArg (·.2.2.2.1) x) (congrArg (·.2.2.2.2) x))))))))))))))))
local macro_rules
  | `(tactic| refine $h:ident (q := $q) (loose := $l) (Xt := $x) (XP := $xp) (Yf := $_:ident ($_:ident $k $a $e)) (Ya := $_) (YP := $_) (N := $n) $hl $_ $_ $rest*) => `(tactic| refine $h (q := $q) (loose := $l) (Xt := $x) (XP := $xp) (Yf := fun s => (((((ckx $a 0).map s.heap.get?, (ckx $a 64).map s.heap.get?), ((ckx $a 128).map s.heap.get?, (ckx $a 192).map s.heap.get?)), (((ckx $a 256).map s.heap.get?, (ckx $a 320).map s.heap.get?), ((ckx $a 384).map s.heap.get?, (ckx $a 448).map s.heap.get?))), ((((ckx $a 512).map s.heap.get?, (ckx $a 576).map s.heap.get?), ((ckx $a 640).map s.heap.get?, (ckx $a 704).map s.heap.get?)), (((ckx $a 768).map s.heap.get?, (ckx $a 832).map s.heap.get?), ((ckx $a 896).map s.heap.get?, (($a).drop 960).map s.heap.get?))))) (Ya := fun w => (((((ckx ($k w.params) 0).map ckv, (ckx ($k w.params) 64).map ckv), ((ckx ($k w.params) 128).map ckv, (ckx ($k w.params) 192).map ckv)), (((ckx ($k w.params) 256).map ckv, (ckx ($k w.params) 320).map ckv), ((ckx ($k w.params) 384).map ckv, (ckx ($k w.params) 448).map ckv))), ((((ckx ($k w.params) 512).map ckv, (ckx ($k w.params) 576).map ckv), ((ckx ($k w.params) 640).map ckv, (ckx ($k w.params) 704).map ckv)), (((ckx ($k w.params) 768).map ckv, (ckx ($k w.params) 832).map ckv), ((ckx ($k w.params) 896).map ckv, ((($k w.params)).drop 960).map ckv))))) (YP := InK $k) (N := $n) $hl (ck_of $e) InK.keeps $rest*)
open PyProof.Rows
set_option maxRecDepth 100000 in
set_option maxHeartbeats 0 in
open_top K45hd for PySem.Challenge.rw_rowbreadth_k45_choices_made
end
abbrev qA:Jb:=["maker","form","aim"]
abbrev qB:Jb:=["left","right"]
abbrev qC:Jb:=["bench","step"]
abbrev qE:Jb:=["bench","step","active"]
abbrev qF:Jb:=["maker","first","first_aim","second","second_aim"]
abbrev qG:Jb:=["self","group","seat","lane"]
abbrev qH:Jb:=["self","seat","mask","level","own"]
abbrev qI:Jb:=["form","functions"]
abbrev qJ:Jb:=["self","slot","lane"]
abbrev qK:Jb:=["first","second","functions"]
abbrev qL:Jb:=["_law_picked","_law_last","_law_number"]
abbrev qM:Jb:=["self","kind","address"]
abbrev qN:Jb:=["code","lengths","cells","lanes","dust","picks"]
abbrev qO:Jb:=["self","lengths","cells","lanes","dust","picks"]
abbrev qP:Jb:=["self","group","seat","lane","number"]
abbrev qQ:Jb:=["self","seat","active"]
abbrev qR:Jb:=["bench","sign","left","right","lane"]
abbrev qS:Jb:=["self","lengths","functions","steps"]
abbrev qT:Jb:=["self","lengths","functions","group"]
abbrev qU:Jb:=["self","sign","left","right"]
abbrev qV:Jb:=["_law_found","_law_cells","_law_refusal"]
abbrev qW:Jb:=["self","target","value","test"]
abbrev qX:Jb:=["_law_script","_law_at","_law_count"]
abbrev qY:Jb:=["left","right","lane","bench","step"]
abbrev qZ:Jb:=["self","test","left","right"]
abbrev Ua:Jb:=["program","step","number","group"]
abbrev Ub:Jb:=["program","steps","first","group"]
abbrev Uc:Jb:=["self","seat","active","numbers"]
abbrev Ud:Jb:=["left","right","lane","truths"]
abbrev Ue:Jb:=["bench","step","nought"]
abbrev Uf:Jb:=["self","row","place","number"]
abbrev Ug:Jb:=["self","slot","lane","number"]
abbrev Uh:Jb:=["_law_script","_law_k"]
abbrev Ui:Jb:=["_law_number","_law_k"]
abbrev Uj:Jb:=["self","mask","chosen"]
abbrev Uk:Jb:=["self","number"]
abbrev Ul:Jb:=["sign","left","right"]
abbrev Um:Jb:=["self","many","group"]
abbrev Uo:Jb:=["self","seat","mask"]
abbrev Up:Jb:=["self","row","place"]
abbrev Uq:Jb:=["_law_picked","_law_last"]
abbrev Ur:Jb:=["self","mask"]
abbrev Us:Jb:=["self","row"]
abbrev Ut:Jb:=["program","group"]
abbrev Uu:Jb:=["maker","step","mask"]
abbrev Uv:Jb:=["lane","bench","step"]
abbrev Uw:Jb:=["_law_cell"]
abbrev Ux:Jb:=["self","lengths"]
abbrev Uy:Jb:=["self","numbers"]
abbrev Uz:Jb:=["self","base"]
abbrev UA:Jb:=["lengths","row"]
namespace L2
open PySem PySem.Spec PyProof.Rows
abbrev Key:=Sum Int Str
def zb2:Key->Vl->Bool
 | .inl k,v=>Value.isInt k v
 | .inr x,v=>Value.isStrOf x v
def keyH (w:World):Key->Int
 | .inl k=>hashInt k
 | .inr x=>hashStr w x
theorem yl:∀ {k:Key} {v:Vl},zb2 k v=true->(∃ i t,k=tS i/\v=sQ i t)∨(∃ x t,k=Sum.inr x/\v=Value.str x t)
 | .inl i,v,h=>by
  obtain ⟨t,e⟩:=Value.isInt_shape (k:=i) (v:=v) h;exact .inl ⟨i,t,Y,e⟩
 | .inr x,v,h=>by
  obtain ⟨t,e⟩:=Value.isStrOf_shape (x:=x) (v:=v) h;exact .inr ⟨x,t,Y,e⟩
def keyIs_int (i:Int) (t:Tok):zb2 (.inl i) (.int i t)=true:=by simp [zb2,Value.isInt]
def keyIs_str (x:Str) (t:Tok):zb2 (.inr x) (.str x t)=true:=by simp [zb2,Value.isStrOf]
def key_ll (a b:Int):decide ((tS a:Key)=tS b)=(a == b):=by
 by_cases e:a=b
 .subst e;simp
 .have h:¬ (tS a:Key)=tS b:=λq=>e (Sum.inl.inj q)
  rw [decide_eq_false h];exact (beq_eq_false_iff_ne.mpr e).symm
def key_rr (a b:Str):decide ((Sum.inr a:Key)=Sum.inr b)=decide (a=b):=by
 by_cases e:a=b
 .subst e;simp
 .have h:¬ (Sum.inr a:Key)=Sum.inr b:=λq=>e (Sum.inr.inj q)
  rw [decide_eq_false h,decide_eq_false e]
def key_lr (a:Int) (b:Str):decide ((tS a:Key)=Sum.inr b)=false:=decide_eq_false (λq=>nomatch q)
def key_rl (a:Str) (b:Int):decide ((Sum.inr a:Key)=tS b)=false:=decide_eq_false (λq=>nomatch q)
def zK (prog:nQ) (w:World):PySem.KeyKind prog w Key where
 is:=zb2
 hash:=keyH w
 inj:=λv a b ha hb=>by
  rcases yl ha with ⟨i,t,rfl,rfl⟩ | ⟨x,t,rfl,rfl⟩
  .rcases yl hb with ⟨j,u,rfl,e⟩ | ⟨y,u,rfl,e⟩
   .injection e with e1 _;rw [e1]
   .exact nomatch e
  .rcases yl hb with ⟨j,u,rfl,e⟩ | ⟨y,u,rfl,e⟩
   .exact nomatch e
   .injection e with e1 _;rw [e1]
 byValue:=λk v h=>by
  rcases yl h with ⟨i,t,rfl,rfl⟩ | ⟨x,t,rfl,rfl⟩ <;> rfl
 pyHash:=λhv h=>by
  rcases yl hv with ⟨i,t,rfl,rfl⟩ | ⟨x,t,rfl,rfl⟩
  .exact wpAny_pyHash_int h
  .exact wpAny_pyHash_str h
 eqBool:=λhu hv h=>by
  rcases yl hu with ⟨i,t,rfl,rfl⟩ | ⟨x,t,rfl,rfl⟩
  .rcases yl hv with ⟨j,u,rfl,rfl⟩ | ⟨y,u,rfl,rfl⟩
   .rw [key_ll] at h;exact wpAny_eqBool_int h
   .rw [key_lr] at h;exact SeqAt.EqAt.int_str i t y u _ _ _ _ h
  .rcases yl hv with ⟨j,u,rfl,rfl⟩ | ⟨y,u,rfl,rfl⟩
   .rw [key_rl] at h;exact SeqAt.EqAt.str_int x t j u _ _ _ _ h
   .rw [key_rr] at h;exact wpAny_eqBool_str h
 «strs»:=λk x t v h=>by
  rcases yl h with ⟨i,u,rfl,e⟩ | ⟨y,u,rfl,e⟩
  .exact nomatch e
  .injection e with e1 _
   subst e1;cases v <;> rfl
def zeh (prog:nQ) (w:World) (i:Int) (t:Tok):(zK prog w).is (.inl i) (.int i t)=true:=keyIs_int i t
def zeg (prog:nQ) (w:World) (x:Str) (t:Tok):(zK prog w).is (.inr x) (.str x t)=true:=keyIs_str x t
inductive V where
 | non | bl (b:Bool) | int (i:Int) | str (x:Str) | byt (b:Array UInt8) | flt (b:UInt64) | ref (a:Ad) | ty (n:String)
 deriving DecidableEq
def RelV:V->Vl->Prop
 | .non,u=>u=rX
 | .bl b,u=>u=Value.bool b
 | .int i,u=>∃ t,u=sQ i t
 | .str x,u=>∃ t,u=Value.str x t
 | .byt b,u=>∃ t,u=Value.bytes b t
 | .flt b,u=>∃ t,u=Value.float b t
 | .ref a,u=>u=mK a
 | .ty n,u=>u=Value.type n
abbrev Vals:List V->J8->Prop:=Paired RelV
def Vals.length {xs:List V} {us:J8} (r:Vals xs us):xs.length=us.length:=Paired.length r
theorem Vals.get:∀ {xs:List V} {us:J8} {i:Nat} {x:V},Vals xs us->xs[i]?=Z x->∃ u,us[i]?=Z u/\RelV x u
 | _,_,_,_,.nil,e=>by simp at e
 | _,_,0,_,.cons r _,e=>by simp at e;subst e;exact ⟨_,Y,r⟩
 | _,_,i+1,x,.cons _ t,e=>by
  obtain ⟨u,h1,h2⟩:=Vals.get (i:=i) (x:=x) t (by simpa using e);exact ⟨u,by simpa using h1,h2⟩
theorem Vals.set {x:V} {u:Vl} (r:RelV x u):∀ {xs:List V} {us:J8} (i:Nat),Vals xs us->Vals (xs.set i x) (us.set i u)
 | _,_,_,.nil=>.nil
 | _,_,0,.cons _ t=>.cons r t
 | _,_,i+1,.cons q t=>.cons q (Vals.set r i t)
theorem Vals.append:∀ {xs ys:List V} {us ws:J8},Vals xs us->Vals ys ws->Vals (xs++ys) (us++ws)
 | _,_,_,_,.nil,s=>s
 | _,_,_,_,.cons r t,s=>.cons r (Vals.append t s)
theorem Vals.take:∀ {xs:List V} {us:J8} (n:Nat),Vals xs us->Vals (xs.take n) (us.take n)
 | _,_,0,_=>.nil
 | _,_,_+1,.nil=>.nil
 | _,_,n+1,.cons r t=>.cons r (Vals.take n t)
theorem Vals.drop:∀ {xs:List V} {us:J8} (n:Nat),Vals xs us->Vals (xs.drop n) (us.drop n)
 | _,_,0,r=>r
 | _,_,_+1,.nil=>.nil
 | _,_,n+1,.cons _ t=>Vals.drop n t
def RelO:Option V->Ja->Prop
 | some v,Z u=>RelV v u
 | none,O=>True
 | _,_=>False
def KV {κ:Type}:List (κ×V)->List (κ×Vl)->Prop:=Paired λ(p:κ×V) (q:κ×Vl)=>p.1=q.1/\RelV p.2 q.2
def kV:Key->V
 | .inl i=>.int i
 | .inr x=>.str x
inductive HO where
  | lst (xs:List V)
  | tup (xs:List V)
  | dK (mo:List (Key×V)) | dT (mo:List (List Key×V))
  | set (S:Int->Bool) (n:Nat)
  | ins (C dx:Ad) (fs:List (Str×V))
  | own (x:Ad)
  | xd (fs:List (Str×V))
  | met (f x:Ad)
  | rng (lo hi:Int)
  | frz (o:Obj) (u:HO)
  | tbl (ps:Array Vl)
  | ext (φ:Heap->Prop)
abbrev Hp:=Ad->Option HO
theorem Jl (l:List PySem.Str) (h:decide l.Nodup=true:=by decide +kernel):l.Nodup:=of_decide_eq_true h
abbrev Jh:=List (Key×V)
abbrev Ji:=List (Ad×HO)
abbrev Jj:=List V
abbrev Jk:=Option V
def upd (H:Hp) (a:Ad) (o:HO):Hp:=λb=>if b=a then Z o else H b
def zh {H:Hp} {a:Ad} {o:HO}:upd H a o a=Z o:=by unfold upd;rw [if_pos rfl]
def zj {H:Hp} {a b:Ad} {o:HO} (h:b≠a):upd H a o b=H b:=by unfold upd;rw [if_neg h]
def upd_upd {H:Hp} {a:Ad} {o u:HO}:upd (upd H a o) a u=upd H a u:=by
 funext b;unfold upd;split <;> rfl
def ne_of {H:Hp} {a b:Ad} {o u:HO} (h:H a=Z o) (h':H b=Z u) (d:o≠u):a≠b:=by
 intro e;subst e;rw [h] at h';exact d (nR h')
def zr {H:Hp} {a b:Ad} {o:HO} (h:H a=Z o) (h':H b=O):a≠b:=by
 intro e;subst e;rw [h] at h';cases h'
section
variable (P:nQ) (w:World)
def ObjOk (H:Hp) (h:Heap) (a:Ad):HO->Prop
 | .lst xs=>xs.length<=mI/\∃ (its:J8) (n:Nat),Vals xs its/\h.get? a=Z { cls:=.type "list",data:=.seq its.toArray n }
 | .tup xs=>xs.length<=mI/\∃ its:J8,Vals xs its/\IsTup h a its.toArray
 | .dK mo=>mo.length<=mI/\(a == oU)=false/\∃ vs,KV mo vs/\h.DictOf (zK P w) a vs
 | .dT mo=>mo.length<=mI/\(a == oU)=false/\∃ xs:List (List Key×Ad×Vl),
   Paired (λ(p:List Key×V) (q:List Key×Ad×Vl)=>p.1=q.1/\H q.2.1=Z (.tup (p.1.map kV))/\RelV p.2 q.2.2) mo xs /\
   ∃ o es ep,h.get? a=Z o/\o.ExactDict/\o.data=.dict es ep/\es.toList=xs.map (entryOfKey (tupleKind (zK P w)))/\(xs.map (·.1)).Nodup
 | .set S n=>h.SetOf (intKind P w) a S n
 | .ins C dx fs=>H dx=Z (.own a)/\fs.length<=1000/\dx≠a/\h.get? a=Z (pH C dx) /\
   ∃ mA,h.Ns1 dx mA/\(∀ f,RelO (fs.lookup f) (mA f))/\PySem.Within mA (fs.map (·.1))
 | .own _=>∃ o,h.get? a=Z o
 | .xd fs=>∃ mA,h.Ns1 a mA/\∀ f,RelO (fs.lookup f) (mA f)
 | .rng lo hi=>∃ t u v,h.get? a=Z { cls:=.type "range",data:=.fields #[.int lo t,.int hi u,.int 1 v] }
 | .frz o u=>h.get? a=Z o/\ObjOk H h a u
 | .tbl ps=>h.get? a=Z { cls:=.none,data:=.fields ps }
 | .met f x=>h.get? a=Z (PySem.W.methodObj (.ref f) (.ref x))
 | .ext φ=>φ h/\(∃ o,h.get? a=Z o)/\∀ h1 h2:Heap,φ h1->(∀ o,h1.get? a=Z o->h2.get? a=Z o)->φ h2
def HOk (H:Hp) (h:Heap):Prop:=∀ a o,H a=Z o->ObjOk P w H h a o
end
section
variable {P:nQ} {w:World} {H H':Hp} {h h':Heap} {a:Ad} {o:HO}
def ObjOk.lt (x:ObjOk P w H h a o):a<h.objs.size:=by
 cases o with
 | lst xs=>obtain ⟨_,_,_,_,e⟩:=x;exact mH e
 | tup xs=>obtain ⟨_,_,_,p⟩:=x;exact p.lt
 | dK mo=>obtain ⟨_,_,_,_,o,_,_,e,_⟩:=x;exact mH e
 | dT mo=>obtain ⟨_,_,_,_,o,_,_,e,_⟩:=x;exact mH e
 | set S n=>obtain ⟨o,_,_,_,e,_⟩:=x;exact mH e
 | ins C dx fs=>obtain ⟨_,_,_,e,_⟩:=x;exact mH e
 | own y=>obtain ⟨_,e⟩:=x;exact mH e
 | xd fs=>obtain ⟨_,⟨_,_,_,e,_⟩,_⟩:=x;exact mH e
 | rng lo hi=>obtain ⟨_,_,_,e⟩:=x;exact mH e
 | frz ob u=>obtain ⟨e,_⟩:=x;exact mH e
 | tbl ps=>exact mH (show h.get? a=Z _ from x)
 | met f y=>exact mH (show h.get? a=Z _ from x)
 | ext φ=>obtain ⟨_,⟨_,e⟩,_⟩:=x;exact mH e
theorem Paired.mapP {α β:Type} {F G:α->β->Prop}:∀ {l₁:List α} {l₂:List β},Paired F l₁ l₂->(∀ a b,F a b->G a b)->Paired G l₁ l₂
 | _,_,.nil,_=>.nil
 | _,_,.cons r t,f=>.cons (f _ _ r) (Paired.mapP t f)
def ObjOk.stay (x:ObjOk P w H h a o) (k:∀ b u,(b=a∨H b=Z (.own a))->h.get? b=Z u->h'.get? b=Z u)
  (ho:∀ b,H b=Z (.own a)->H' b=Z (.own a)) (ht:∀ b xs,H b=Z (.tup xs)->H' b=Z (.tup xs)):ObjOk P w H' h' a o:=by
 induction o with
 | lst xs=>obtain ⟨z,its,n,r,e⟩:=x;exact ⟨z,its,n,r,k _ _ (.inl rfl) e⟩
 | tup xs=>obtain ⟨z,its,r,ob,e,c⟩:=x;exact ⟨z,its,r,ob,k _ _ (.inl rfl) e,c⟩
 | dK mo=>obtain ⟨z,y,vs,r,ob,es,ep,e,c⟩:=x;exact ⟨z,y,vs,r,ob,es,ep,k _ _ (.inl rfl) e,c⟩
 | dT mo =>
  obtain ⟨z,y,xs,r,ob,es,ep,e,c⟩:=x;exact ⟨z,y,xs,Paired.mapP r λp q z=>⟨z.1,ht _ _ z.2.1,z.2.2⟩,ob,es,ep,k _ _ (.inl rfl) e,c⟩
 | set S n=>obtain ⟨ob,es,ep,t,e,c⟩:=x;exact ⟨ob,es,ep,t,k _ _ (.inl rfl) e,c⟩
 | ins C dx fs =>
  obtain ⟨d,z,ne,e,mA,⟨od,es,ep,e2,c⟩,r⟩:=x;exact ⟨ho _ d,z,ne,k _ _ (.inl rfl) e,mA,⟨od,es,ep,k _ _ (.inr d) e2,c⟩,r⟩
 | own y=>obtain ⟨ob,e⟩:=x;exact ⟨ob,k _ _ (.inl rfl) e⟩
 | xd fs=>obtain ⟨mA,⟨od,es,ep,e,c⟩,r⟩:=x;exact ⟨mA,⟨od,es,ep,k _ _ (.inl rfl) e,c⟩,r⟩
 | rng lo hi=>obtain ⟨t,u,v,e⟩:=x;exact ⟨t,u,v,k _ _ (.inl rfl) e⟩
 | frz ob u ih=>obtain ⟨e,q⟩:=x;exact ⟨k _ _ (.inl rfl) e,ih q⟩
 | tbl ps =>
  have e:h.get? a=Z { cls:=.none,data:=.fields ps }:=x;show h'.get? a=Z { cls:=.none,data:=.fields ps };exact k a _ (.inl rfl) e
 | met f y =>
  have e:h.get? a=Z (PySem.W.methodObj (.ref f) (.ref y)):=x;show h'.get? a=Z (PySem.W.methodObj (.ref f) (.ref y));exact k a _ (.inl rfl) e
 | ext φ=>obtain ⟨p,⟨o,e⟩,st⟩:=x;exact ⟨st _ _ p λo q=>k _ _ (.inl rfl) q,⟨o,k _ _ (.inl rfl) e⟩,st⟩
def HOk.lt (x:HOk P w H h) (e:H a=Z o):a<h.objs.size:=(x a o e).lt
def HOk.fresh (x:HOk P w H h) (e:h.objs.size<=a):H a=O:=by
 cases q:H a with
 | none=>rfl
 | some u=>exact absurd (q7z (x.lt q) e) (p6 _)
def HOk.kept (x:HOk P w H h) (k:∀ b u,h.get? b=Z u->h'.get? b=Z u):HOk P w H h':=λa o e =>
 (x a o e).stay (λb u _ q=>k b u q) (λ_ q=>q) λ_ _ q=>q
def HOk.laid (x:HOk P w H h) (k:∀ b u,h.get? b=Z u->h'.get? b=Z u) (hp:h.objs.size<=a) (new:ObjOk P w (upd H a o) h' a o):HOk P w (upd H a o) h':=λb u e=>by
 have hn:=x.fresh hp;by_cases hb:b=a
 .subst hb;rw [zh] at e;cases e;exact new
 .rw [zj hb] at e
  exact (x b u e).stay (λc v _ q=>k c v q) (λc q=>by rw [zj (zr q hn)];exact q) λc xs q=>by rw [zj (zr q hn)];exact q
end
def Rd (H:Hp) (a:Ad) (u:HO):Prop:=H a=Z u∨∃ o,H a=Z (.frz o u)
def Rd.ok {P:nQ} {w:World} {H:Hp} {h:Heap} {a:Ad} {u:HO} (r:Rd H a u) (x:HOk P w H h):ObjOk P w H h a u:=by
 rcases r with r | ⟨o,r⟩
 .exact x a u r
 .obtain ⟨_,q⟩:=x a _ r
  exact q
def Mut:Option HO->Prop
 | some (.lst _)=>True
 | some (.dK _)=>True
 | some (.dT _)=>True
 | some (.set _ _)=>True
 | some (.ins _ _ _)=>True
 | some (.ext _)=>True
 | _=>False
section
variable {P:nQ} {w:World} {H:Hp} {h h':Heap} {x e:Ad} {o':HO}
def HOk.write (ok:HOk P w H h) (mu:Mut (H x)) (he:e=x∨H e=Z (.own x)) (k:∀ b u,b≠e->h.get? b=Z u->h'.get? b=Z u) (heo:∃ u,h'.get? e=Z u)
  (new:ObjOk P w (upd H x o') h' x o'):HOk P w (upd H x o') h':=λb u q=>by
 have nown:∀ c y,H c=Z (.own y)->c≠x:=λc y r z=>by subst z;rw [r] at mu;exact mu
 have ntup:∀ c xs,H c=Z (.tup xs)->c≠x:=λc xs r z=>by subst z;rw [r] at mu;exact mu
 by_cases hb:b=x
 .subst hb;rw [zh] at q;cases q;exact new
 .rw [zj hb] at q
  by_cases hbe:b=e
  .have q':H b=Z (.own x):=by
    rcases he with z | z
    .exact absurd (hbe.trans z) hb
    .rw [hbe];exact z
   rw [q] at q';cases q';obtain ⟨v,hv⟩:=heo;exact ⟨v,by rw [hbe];exact hv⟩
  .refine (ok b u q).stay (λc v hc r=>k c v ?_ r) (λc r=>by rw [zj (nown c b r)];exact r) λc xs r=>by rw [zj (ntup c xs r)];exact r
   rcases hc with rfl | hc
   .exact hbe
   .rintro rfl
    rcases he with z | z
    .exact nown c b hc z
    .rw [hc] at z;cases z;exact hb rfl
end
structure Un (fs ex:Jc) (H H':Hp) (h h':Heap):Prop where
 keep:∀ b o,h.get? b=Z o->H b=O->b ∉ fs->b ∉ ex->h'.get? b=Z o
 slot:∀ b o,h.get? b=Z o->H b=O->b∈fs->b ∉ ex->∃ sl,h'.get? b=Z { o with slots:=sl }
 free:∀ b o,h.get? b=Z o->H b=O->b ∉ ex->H' b=O
 there:∀ b o,h.get? b=Z o->b ∉ ex->∃ o',h'.get? b=Z o'
 tups:∀ b xs,H b=Z (.tup xs)->H' b=Z (.tup xs)
 frzs:∀ b o u,H b=Z (.frz o u)->H' b=Z (.frz o u)
 tbls:∀ b ps,H b=Z (.tbl ps)->∃ more,H' b=Z (.tbl (ps++more))
section
variable {fs fs' ex ex':Jc} {H H1 H2:Hp} {h h1 h2 h':Heap} {a x e:Ad} {o:HO}
def Un.any (u:Un fs ex H H1 h h1) {b:Ad} {ob:Obj} (q:h.get? b=Z ob) (n:H b=O) (hx:b ∉ ex):∃ sl,h1.get? b=Z { ob with slots:=sl }:=by
 by_cases hb:b∈fs
 .exact u.slot b ob q n hb hx
 .exact ⟨ob.slots,u.keep b ob q n hb hx⟩
def Un.kept (k:∀ b u,h.get? b=Z u->h'.get? b=Z u):Un fs ex H H h h' :=
 ⟨λb ob q _ _ _=>k b ob q,λb ob q _ _ _=>⟨ob.slots,k b ob q⟩,λ_ _ _ n _=>n,λb ob q _=>⟨ob,k b ob q⟩,λ_ _ q=>q,λ_ _ _ q=>q,λ_ ps q=>⟨#[],by rw [q];simp⟩⟩
def Un.refl:Un fs ex H H h h:=Un.kept λ_ _ q=>q
def Un.laid (k:∀ b u,h.get? b=Z u->h'.get? b=Z u) (hp:h.objs.size<=a) (hn:H a=O):Un fs ex H (upd H a o) h h' where
 keep:=λb u q _ _ _=>k b u q
 slot:=λb u q _ _ _=>⟨u.slots,k b u q⟩
 free:=λb u q n _=>by rw [zj (nh (q7z (mH q) hp))];exact n
 there:=λb u q _=>⟨u,k b u q⟩
 tups:=λb xs q=>by rw [zj (zr q hn)];exact q
 frzs:=λb u xs q=>by rw [zj (zr q hn)];exact q
 tbls:=λb ps q=>⟨#[],by rw [zj (zr q hn),q];simp⟩
def Un.write (mu:Mut (H x)) (he:e=x∨H e=Z (.own x)) (k:∀ b u,b≠e->h.get? b=Z u->h'.get? b=Z u) (heo:∃ u,h'.get? e=Z u):Un fs ex H (upd H x o) h h':=by
 have hx:∀ b,H b=O->b≠x:=λb n z=>by subst z;rw [n] at mu;exact mu
 have hb:∀ b,H b=O->b≠e:=λb n z=>by
  subst z;rcases he with r | r
  .exact hx b n r
  .rw [n] at r;cases r
 have hm:∀ b u,H b=Z u->¬ Mut (Z u)->b≠x:=λb u q nm z=>by subst z;rw [q] at mu;exact nm mu
 refine ⟨λb u q n _ _=>k b u (hb b n) q,λb u q n _ _=>⟨u.slots,k b u (hb b n) q⟩,λb u q n _=>by rw [zj (hx b n)];exact n,λb u q _=>?_,
  λb xs q=>by rw [zj (hm b _ q λz=>z)];exact q,λb u xs q=>by rw [zj (hm b _ q λz=>z)];exact q,λb ps q=>⟨#[],by rw [zj (hm b _ q λz=>z),q];simp⟩⟩
 by_cases hbe:b=e
 .subst hbe;exact heo
 .exact ⟨u,k b u hbe q⟩
end
def trk (h:Heap) (H:Hp):Jc:=(nj h.objs.size).filter λa=>(H a).isSome
def hidT (h:Heap) (H:Hp):Heap:=om h (trk h H)
def hidT_size (h:Heap) (H:Hp):(hidT h H).objs.size=h.objs.size:=PySem.W.hideAll_size _ _
def hidT_get {h:Heap} {H:Hp} {b:Ad} {o:Obj} (e:h.get? b=Z o) (n:H b=O):(hidT h H).get? b=Z o :=
 sR _ e λhm=>by
  have q:(H b).isSome=true:=(nI.mp hm).2;rw [n] at q;simp at q
def of_hidT {h:Heap} {H:Hp} {b:Ad} {o:Obj} (e:(hidT h H).get? b=Z o):h.get? b=Z o/\H b=O:=by
 have e':h.get? b=Z o:=tz (trk h H) e;refine ⟨e',?_⟩
 cases q:H b with
 | none=>rfl
 | some x =>
  have hm:b∈trk h H:=nI.mpr ⟨nZ.mpr (mH e'),by simp [q]⟩;have z:(hidT h H).get? b=O:=sK (trk h H) hm;rw [z] at e;cases e
def X8 (g h:Heap) (L:Ad):J7:=(nj h.objs.size).filterMap λa=>if a=L∨(g.get? a).isSome=true then O else (h.get? a).map λo=>(a,o)
def zei {g h:Heap} {L a:Ad} {o:Obj} (h1:a≠L) (h2:g.get? a=O) (h3:h.get? a=Z o):(a,o)∈X8 g h L :=
 tG.mpr ⟨a,nZ.mpr (mH h3),by simp [h1,h2,h3]⟩
def zay {g h:Heap} {L:Ad} {p:Ad×Obj} (hp:p∈X8 g h L):p.1≠L/\g.get? p.1=O/\h.get? p.1=Z p.2:=by
 obtain ⟨b,_,e⟩:=tG.mp hp
 split at e
 .cases e
 .rename_i hn
  cases q:h.get? b with
  | none=>rw [q] at e;simp at e
  | some u =>
   rw [q] at e;simp only [sT,Option.some.injEq] at e;subst e;refine ⟨λz=>hn (.inl z),?_,q⟩;show g.get? b=O
   cases r:g.get? b with
   | none=>rfl
   | some v=>exact (hn (.inr (by simp [r]))).elim
def news_all {g h:Heap} {L:Ad}:News g L h (X8 g h L):=λp hp=>let ⟨a,b,c⟩:=zay hp;⟨c,a,b⟩
structure Mod (K:Fg) (mg:J0) (base:Heap):Prop where
 kin:K.In base
 glob:base.Ns mW mg
 blt:∃ mb,base.Ns builtinsNs mb/\∀ x:Str,x≠"__name__"->mb x=sP x
 nolimit:base.NoLimit
structure Cx where
 prog:nQ
 w:World
 K:Fg
 mg:J0
 base:Heap
 A:Around
 N:Jb
 s₀:Sh
 H₀:Hp
 env:Env
 outer:List Env
 stack:List Env
 ex:Jc
 fn:Str->Bool
 calm:Bool
 pn:J7
 xe:J5
def frs (l:List Env):Jc:=l.filterMap (·.frame)
abbrev Cx.fs (X:Cx):Jc:=frs X.outer
def Vis (sc:Scope) (x:Str):Prop:=sc.names.lookup x=Z .local∨sc.names.lookup x=Z .cell∨sc.names.lookup x=Z .free
def Loc (sc:Scope) (x:Str):Prop:=sc.names.lookup x=Z .local∨sc.names.lookup x=Z .cell
def Look (env:Env) (h:Heap) (m:J0) (x:Str) (u:Vl):Prop :=
 (env.kindOf x=Z .local/\m x=Z u)∨((env.kindOf x=Z .cell∨env.kindOf x=Z .free)/\∃ c,env.cells.lookup x=Z c/\h.IsCell c (Z u))
structure Cx.Ok (X:Cx):Prop where
 mod:Mod X.K X.mg X.base
 kind:X.env.scope.kind=.function
 glob:X.env.globals=mW
 blt:X.env.builtins=builtinsNs
 above:X.s₀.heap.objs.size<=X.env.locals
 inj:∀ x y c,X.env.cells.lookup x=Z c->X.env.cells.lookup y=Z c->x=y
 has:∀ x,(X.env.kindOf x=Z .cell∨X.env.kindOf x=Z .free)->∃ c,X.env.cells.lookup x=Z c
 cab:∀ x c,X.fn x=true->X.env.cells.lookup x=Z c->X.s₀.heap.objs.size<=c
 hd:X.calm=true->X.A.handled=O
 frames:X.A.frames=Z X.stack
 stk:X.stack=X.outer∨(X.stack=X.env::X.outer/\X.env.frame=Z X.env.locals)
 exf:∀ b∈X.ex,b≠X.env.locals/\∀ x c,X.env.cells.lookup x=Z c->c≠b
 bs:∀ b o,X.base.get? b=Z o->X.s₀.heap.get? b=Z o/\X.H₀ b=O
 bsz:X.base.objs.size<=X.s₀.heap.objs.size
 noex:∀ b o,X.base.get? b=Z o->b ∉ X.ex
 exfs:∀ b∈X.ex,b ∉ X.fs
 funs:X.s₀.heap.FunFrames X.base X.outer
 frf:∀ b∈X.fs,X.H₀ b=O
structure Inv (X:Cx) (mn:J7) (σ:List (Jk)) (H:Hp) (s:Sh):Prop where
 ok:X.Ok
 os:s.os=X.s₀.os
 bare:AllBare s.gens
 base:Un X.fs X.ex X.H₀ H X.s₀.heap s.heap
 loc:∃ m,s.heap.Ns X.env.locals m/\∀ (i:Nat) (x:Str) (v:V),X.N[i]?=Z x->σ[i]?=Z (Z v)->Vis X.env.scope x->∃ u,RelV v u/\Look X.env s.heap m x u
 cell:∀ x c,X.env.cells.lookup x=Z c->∃ v,s.heap.IsCell c v
 free:H X.env.locals=O
 freeC:∀ x c,X.env.cells.lookup x=Z c->H c=O
 pin:∀ p∈X.pn++mn,s.heap.get? p.1=Z p.2/\H p.1=O/\p.1≠X.env.locals/\p.1 ∉ X.fs/\∀ v,p.2.data≠.cell v
 hok:HOk X.prog X.w H s.heap
 len:σ.length=X.N.length
section
variable {X:Cx} {mn:J7} {σ:List (Jk)} {H H':Hp} {s:Sh} {h':Heap}
def Cx.Ok.nofr (ok:X.Ok) {b:Ad} {o:Obj} (e:X.base.get? b=Z o):b ∉ X.fs:=λhb=>by
 have:=(ok.funs.mem hb).1;rw [e] at this;cases this
def Inv.bs (I:Inv X mn σ H s):∀ b o,X.base.get? b=Z o->s.heap.get? b=Z o/\H b=O:=λb o e =>
 ⟨I.base.keep b o (I.ok.bs b o e).1 (I.ok.bs b o e).2 (I.ok.nofr e) (I.ok.noex b o e),I.base.free b o (I.ok.bs b o e).1 (I.ok.bs b o e).2 (I.ok.noex b o e)⟩
def Inv.bk (I:Inv X mn σ H s):∀ b o,X.base.get? b=Z o->s.heap.get? b=Z o:=λb o e=>(I.bs b o e).1
def Inv.mod (I:Inv X mn σ H s):Mod X.K X.mg X.base:=I.ok.mod
def Inv.kIn (I:Inv X mn σ H s):X.K.In s.heap:=I.ok.mod.kin.keeps I.bk
def Inv.lt (I:Inv X mn σ H s):X.env.locals<s.heap.objs.size:=let ⟨_,hn,_⟩:=I.loc;hn.lt
def Inv.sz (I:Inv X mn σ H s):X.s₀.heap.objs.size<=s.heap.objs.size:=mL I.ok.above (Nat.le_of_lt I.lt)
def Inv.nofs (I:Inv X mn σ H s) {a:Ad} (h:s.heap.objs.size<=a):a ∉ X.fs:=λhb=>by
 obtain ⟨_,o,ho,_⟩:=I.ok.funs.mem hb;exact absurd (q7z (mH ho) (mL I.sz h)) (p6 _)
def Inv.cne (I:Inv X mn σ H s):∀ x c,X.env.cells.lookup x=Z c->c≠X.env.locals:=λx c e z=>by
 obtain ⟨v,o,ho,hd⟩:=I.cell x c e;obtain ⟨m,⟨o',es,ep,ho',hd',_⟩,_⟩:=I.loc;rw [z,ho'] at ho;cases ho;rw [hd'] at hd;cases hd
def Inv.funs (I:Inv X mn σ H s):s.heap.FunFrames X.base X.outer:=by
 have all:∀ (l:List Env),(∀ b∈frs l,b∈X.fs)->X.s₀.heap.FunFrames X.base l->s.heap.FunFrames X.base l:=by
  intro l
  induction l with
  | nil=>intro _ _;trivial
  | cons env r ih =>
   intro hs hl;obtain ⟨hk,⟨L,o,hf,hn,ho,hd⟩,hr⟩:=hl;have hL:L∈X.fs:=hs L (by unfold frs;rw [rK,hf];exact q6z);obtain ⟨sl,e⟩:=I.base.slot L o ho (I.ok.frf L hL) hL λz=>I.ok.exfs L z hL;exact ⟨hk,⟨L,_,hf,hn,e,hd⟩,ih (λb hb=>hs b (by unfold frs;rw [rK,hf];exact q6y _ hb)) hr⟩
 exact all X.outer (λ_ hb=>hb) I.ok.funs
def Inv.stack (I:Inv X mn σ H s):s.heap.FunFrames X.base X.stack:=by
 rcases I.ok.stk with e | ⟨e,hf⟩
 .rw [e];exact I.funs
 .rw [e]
  obtain ⟨m,hn,_⟩:=I.loc;refine .cons (by rw [I.ok.kind];decide) hf hn ?_ I.funs;exact Heap.get?_none_of_le (mL I.ok.bsz I.ok.above)
def Inv.stkSub (I:Inv X mn σ H s):∀ b∈frs X.stack,b∈X.env.locals::X.fs:=λb hb=>by
 rcases I.ok.stk with e | ⟨e,hf⟩
 .rw [e] at hb;exact q6y _ hb
 .rw [e] at hb
  unfold frs at hb;rw [rK,hf] at hb;exact hb
def Inv.stkFree (I:Inv X mn σ H s):∀ b∈frs X.stack,H b=O:=λb hb=>by
 rcases mM.mp (I.stkSub b hb) with e | hb
 .rw [e];exact I.free
 .obtain ⟨_,o,ho,_⟩:=I.ok.funs.mem hb
  exact I.base.free b o ho (I.ok.frf b hb) λz=>I.ok.exfs b z hb
def Inv.step {g':Array GenState} {t':Nat} {d':Drawn} {ch:Jc} (I:Inv X mn σ H s)
  (hch:∀ b∈ch,(b∈X.ex∨X.s₀.heap.objs.size<=b)/\b≠X.env.locals/\(∀ x c,X.env.cells.lookup x=Z c->c≠b)/\∀ p∈X.pn++mn,p.1≠b)
  (keep:∀ b o,b≠X.env.locals->b ∉ X.fs->b ∉ ch->s.heap.get? b=Z o->H b=O->h'.get? b=Z o)
  (slot:∀ b o,b≠X.env.locals->b∈X.fs->b ∉ ch->s.heap.get? b=Z o->H b=O->∃ sl,h'.get? b=Z { o with slots:=sl }) (free:∀ b o,b ∉ ch->s.heap.get? b=Z o->H b=O->H' b=O)
  (there:∀ b o,b ∉ ch->s.heap.get? b=Z o->∃ o',h'.get? b=Z o')
  (tups:∀ b xs,H b=Z (.tup xs)->H' b=Z (.tup xs)) (frzs:∀ b o u,H b=Z (.frz o u)->H' b=Z (.frz o u)) (tbls:∀ b ps,H b=Z (.tbl ps)->∃ more,H' b=Z (.tbl (ps++more)))
  (ns:∀ m,s.heap.Ns X.env.locals m->h'.Ns X.env.locals m) (hok:HOk X.prog X.w H' h') (hg:AllBare g') :
  Inv X mn σ H' { s with heap:=h',gens:=g',drawn:=d',toks:=t' }:=by
 have neL:∀ b o,X.s₀.heap.get? b=Z o->b≠X.env.locals:=λb o e=>nh (q7z (mH e) I.ok.above)
 have neC:∀ b o,X.s₀.heap.get? b=Z o->b ∉ X.ex->b ∉ ch:=λb o e hx hb=>by
  rcases (hch b hb).1 with z | z
  .exact hx z
  .exact absurd (q7z (mH e) z) (p6 _)
 have cellK:∀ x c,X.env.cells.lookup x=Z c->∀ v,s.heap.IsCell c v->h'.IsCell c v:=λx c e v ⟨o,ho,hd⟩=>by
  have nch:c ∉ ch:=λz=>(hch c z).2.2.1 x c e rfl;by_cases hc:c∈X.fs
  .obtain ⟨sl,q⟩:=slot c o (I.cne x c e) hc nch ho (I.freeC x c e)
   exact ⟨_,q,hd⟩
  .exact ⟨o,keep c o (I.cne x c e) hc nch ho (I.freeC x c e),hd⟩
 refine ⟨I.ok,I.os,hg,⟨λb o e n hb hx=>?_,λb o e n hb hx=>?_,λb o e n hx=>?_,λb o e hx=>?_,λb xs e=>tups b xs (I.base.tups b xs e),λb o xs e=>frzs b o xs (I.base.frzs b o xs e),λb ps e=>?_⟩,?_,λx c e=>?_,?_,λx c e=>?_,λp hp=>?_,hok,I.len⟩
 .exact keep b o (neL b o e) hb (neC b o e hx) (I.base.keep b o e n hb hx) (I.base.free b o e n hx)
 .obtain ⟨sl,e1⟩:=I.base.slot b o e n hb hx
  obtain ⟨sl',e2⟩:=slot b _ (neL b o e) hb (neC b o e hx) e1 (I.base.free b o e n hx);exact ⟨sl',e2⟩
 .obtain ⟨o',e1⟩:=I.base.there b o e hx
  exact free b o' (neC b o e hx) e1 (I.base.free b o e n hx)
 .obtain ⟨o',e1⟩:=I.base.there b o e hx
  exact there b o' (neC b o e hx) e1
 .obtain ⟨m1,e1⟩:=I.base.tbls b ps e
  obtain ⟨m2,e2⟩:=tbls b _ e1;exact ⟨m1++m2,by rw [e2,Array.append_assoc]⟩
 .obtain ⟨m,hn,hl⟩:=I.loc
  refine ⟨m,ns m hn,λi x v e1 e2 e3=>?_⟩;obtain ⟨u,r,l⟩:=hl i x v e1 e2 e3;refine ⟨u,r,?_⟩;rcases l with l | ⟨k,c,e,z⟩
  .exact .inl l
  .exact .inr ⟨k,c,e,cellK x c e _ z⟩
 .obtain ⟨v,z⟩:=I.cell x c e
  exact ⟨v,cellK x c e v z⟩
 .obtain ⟨m,⟨o,_,_,ho,_⟩,_⟩:=I.loc
  exact free _ o (λz=>(hch _ z).2.1 rfl) ho I.free
 .obtain ⟨v,o,ho,hd⟩:=I.cell x c e
  exact free c o (λz=>(hch c z).2.2.1 x c e rfl) ho (I.freeC x c e)
 .obtain ⟨e,n,ne,nf,d⟩:=I.pin p hp
  have nch:p.1 ∉ ch:=λz=>(hch p.1 z).2.2.2 p hp rfl;exact ⟨keep p.1 p.2 ne nf nch e n,free p.1 p.2 nch e n,ne,nf,d⟩
def Inv.un {t':Nat} (I:Inv X mn σ H s) (u:Un X.fs [] H H' s.heap h') (hok:HOk X.prog X.w H' h'):Inv X mn σ H' { s with heap:=h',toks:=t' }:=by
 obtain ⟨m,⟨o,es,ep,ho,r⟩,_⟩:=id I.loc;obtain ⟨sl,hL⟩:=u.any ho I.free (by simp)
 exact I.step (g':=s.gens) (d':=s.drawn) (ch:=[]) (λ_ z=>nomatch z) (λb o _ hb _ e n=>u.keep b o e n hb (by simp)) (λb o _ hb _ e n=>u.slot b o e n hb (by simp)) (λb o _ e n=>u.free b o e n (by simp)) (λb o _ e=>u.there b o e (by simp)) u.tups u.frzs u.tbls (λm' hm=>by
  obtain ⟨o',es',ep',ho',r'⟩:=hm;rw [ho] at ho';cases ho';exact ⟨_,es',ep',hL,r'⟩) hok I.bare
def Inv.call {g':Array GenState} {t':Nat} {d':Drawn} {ch:Jc} (I:Inv X mn σ H s) (u:Un (frs X.stack) ch H H' s.heap h') (hok:HOk X.prog X.w H' h') (hg:AllBare g')
  (hch:∀ b∈ch,(b∈X.ex∨X.s₀.heap.objs.size<=b)/\b≠X.env.locals/\(∀ x c,X.env.cells.lookup x=Z c->c≠b)/\∀ p∈X.pn++mn,p.1≠b) :
  Inv X mn σ H' { s with heap:=h',gens:=g',drawn:=d',toks:=t' }:=by
 obtain ⟨m,⟨o,es,ep,ho,r⟩,_⟩:=id I.loc;obtain ⟨sl,hL⟩:=u.any ho I.free λz=>(hch _ z).2.1 rfl
 exact I.step (ch:=ch) hch (λb o hL hb hc e n=>u.keep b o e n (λz=>(mM.mp (I.stkSub b z)).elim hL hb) hc) (λb o _ _ hc e n=>u.any e n hc) (λb o hc e n=>u.free b o e n hc) (λb o hc e=>u.there b o e hc) u.tups u.frzs u.tbls (λm' hm=>by
  obtain ⟨o',es',ep',ho',r'⟩:=hm;rw [ho] at ho';cases ho';exact ⟨_,es',ep',hL,r'⟩) hok hg
def Inv.turned {t':Nat} {it:Ad} (I:Inv X mn σ H s) (k:∀ b o,b≠it->s.heap.get? b=Z o->h'.get? b=Z o) (hn:H it=O) (hL:it≠X.env.locals)
  (h1:it∈X.ex∨X.s₀.heap.objs.size<=it) (h2:∀ x c,X.env.cells.lookup x=Z c->c≠it) (h3:∀ p∈X.pn++mn,p.1≠it):Inv X mn σ H { s with heap:=h',toks:=t' }:=by
 have nit:∀ b u,H b=Z u->b≠it:=λb u e z=>by rw [z,hn] at e;cases e
 refine I.step (g':=s.gens) (d':=s.drawn) (ch:=[it]) (λb hb=>?_) (λb o _ _ hc e _=>k b o (λz=>hc (by simp [z])) e) (λb o _ _ hc e _=>⟨o.slots,k b o (λz=>hc (by simp [z])) e⟩) (λ_ _ _ _ n=>n)
  (λb o hc e=>⟨o,k b o (λz=>hc (by simp [z])) e⟩) (λ_ _ e=>e) (λ_ _ _ e=>e) (λb ps e=>⟨#[],by rw [e];simp⟩) (λm hm=>?_) (λb u e=>?_) I.bare
 .have e:b=it:=by simpa using hb
  subst e;exact ⟨h1,hL,h2,h3⟩
 .obtain ⟨o,es,ep,ho,r⟩:=hm
  exact ⟨o,es,ep,k _ o (oQ hL) ho,r⟩
 .refine (I.hok b u e).stay (λc v hc q=>k c v ?_ q) (λ_ q=>q) λ_ _ q=>q
  rcases hc with z | z
  .rw [z];exact nit b u e
  .exact nit c _ z
def Inv.tok (I:Inv X mn σ H s) (t:Nat):Inv X mn σ H { s with toks:=t }:=I.un (h':=s.heap) (t':=t) Un.refl I.hok
def Inv.kept {t':Nat} (I:Inv X mn σ H s) (k:∀ b u,s.heap.get? b=Z u->h'.get? b=Z u):Inv X mn σ H { s with heap:=h',toks:=t' }:=I.un (Un.kept k) (I.hok.kept k)
def Inv.laid {a:Ad} {o:HO} {t':Nat} (I:Inv X mn σ H s) (k:∀ b u,s.heap.get? b=Z u->h'.get? b=Z u) (hp:s.heap.objs.size<=a) (new:ObjOk X.prog X.w (upd H a o) h' a o) :
  Inv X mn σ (upd H a o) { s with heap:=h',toks:=t' }:=I.un (Un.laid k hp (I.hok.fresh hp)) (I.hok.laid k hp new)
def Inv.write {x e:Ad} {o:HO} {t':Nat} (I:Inv X mn σ H s) (mu:Mut (H x)) (he:e=x∨H e=Z (.own x)) (k:∀ b u,b≠e->s.heap.get? b=Z u->h'.get? b=Z u) (heo:∃ u,h'.get? e=Z u)
  (new:ObjOk X.prog X.w (upd H x o) h' x o):Inv X mn σ (upd H x o) { s with heap:=h',toks:=t' }:=I.un (Un.write mu he k heo) (I.hok.write mu he k heo new)
def Inv.pins_of {pins':J7} (I:Inv X mn σ H s) (h:∀ p∈pins',s.heap.get? p.1=Z p.2/\H p.1=O/\p.1≠X.env.locals/\p.1 ∉ X.fs/\∀ v,p.2.data≠.cell v):Inv X pins' σ H s :=
 ⟨I.ok,I.os,I.bare,I.base,I.loc,I.cell,I.free,I.freeC,λp hp=>(oO.mp hp).elim (λz=>I.pin p (pE _ z)) (h p),I.hok,I.len⟩
def zed {N:Jb} (hN:N.Nodup) {i j:Nat} {x:Str} (a:N[i]?=Z x) (b:N[j]?=Z x):i=j:=by
 obtain ⟨h1,e1⟩:=mF.mp a;obtain ⟨h2,e2⟩:=mF.mp b;exact (List.getElem_inj hN).mp (e1.trans e2.symm)
def Xs {M:Model} {A:Around} {E:J5} {i:Nat} {x:Str} {v:V} {u:Vl} {Q:Unit->Sh->Prop} (I:Inv X mn σ H s) (hN:X.N.Nodup) (hi:X.N[i]?=Z x) (hx:Loc X.env.scope x) (r:RelV v u)
  (h:∀ s',Inv X mn (σ.set i (Z v)) H s'->(∃ a,pL a s.heap s'.heap/\(a=X.env.locals∨X.env.cells.lookup x=Z a))->Q () s') (hf:X.fn x=true∨X.env.scope.names.lookup x=Z .local:=by first | exact .inl rfl | exact .inr rfl | assumption):wpAny M A (storeName X.env x u) Q E s:=by
 obtain ⟨m,hn,hl⟩:=id I.loc;have hcls:(X.env.scope.kind == .class || (X.env.scope.kind == .module && X.env.locals != X.env.globals))=false:=by rw [I.ok.kind];rfl
 have hiσ:i<σ.length:=by rw [I.len];exact (mF.mp hi).1
 have cne:=I.cne
 have tracked:∀ {a:Ad} {h':Heap},(∃ o,s.heap.get? a=Z o/\H a=O)->pL a s.heap h'->HOk X.prog X.w H h':=λ{a h'} ha hs b ob e=>by
  obtain ⟨_,_,hfree⟩:=ha;refine (I.hok b ob e).stay (λc w' hc q=>(hs.2 c ?_).trans q) (λ_ q=>q) λ_ _ q=>q;rintro rfl;rcases hc with rfl | hc
  .rw [hfree] at e;cases e
  .rw [hfree] at hc;cases hc
 rcases hx with hk | hk
 .refine wpAny_storeName_local hk hn (λh' hn' hs=>?_) hcls
  obtain ⟨oL,_,_,hoL,_⟩:=id hn;refine h _ ⟨I.ok,I.os,I.bare,⟨λb o e n hb hx=>?_,λb o e n hb hx=>?_,I.base.free,λb o e hx=>?_,I.base.tups,I.base.frzs,I.base.tbls⟩,⟨_,hn',λj y v' e1 e2 e3=>?_⟩,λy c e=>?_,I.free,I.freeC,λp hp=>?_,tracked ⟨oL,hoL,I.free⟩ hs,by simpa using I.len⟩ ⟨_,hs,.inl rfl⟩
  .exact (hs.2 b (nh (q7z (mH e) I.ok.above))).trans (I.base.keep b o e n hb hx)
  .obtain ⟨sl,e1⟩:=I.base.slot b o e n hb hx
   exact ⟨sl,(hs.2 b (nh (q7z (mH e) I.ok.above))).trans e1⟩
  .obtain ⟨o',e1⟩:=I.base.there b o e hx
   exact ⟨o',(hs.2 b (nh (q7z (mH e) I.ok.above))).trans e1⟩
  .by_cases hj:j=i
   .subst hj
    rw [hi] at e1;cases e1;rw [q8z hiσ] at e2;cases e2;exact ⟨u,r,.inl ⟨hk,by simp⟩⟩
   .rw [nV (oQ hj)] at e2
    obtain ⟨u',r',q⟩:=hl j y v' e1 e2 e3;refine ⟨u',r',?_⟩;rcases q with ⟨k,e⟩ | ⟨k,c,e,z⟩
    .refine .inl ⟨k,?_⟩
     have:y≠x:=λe=>hj (zed hN e1 (e ▸ hi));simp [this,e]
    .exact .inr ⟨k,c,e,z.sameBut hs (cne y c e)⟩
  .obtain ⟨w',z⟩:=I.cell y c e
   exact ⟨w',z.sameBut hs (cne y c e)⟩
  .obtain ⟨e,n,ne,nf,d⟩:=I.pin p hp
   exact ⟨(hs.2 p.1 ne).trans e,n,ne,nf,d⟩
 .have hfn:X.fn x=true:=by
   rcases hf with z | z
   .exact z
   .rw [z] at hk;cases hk
  obtain ⟨c,hc⟩:=I.ok.has x (.inl hk);obtain ⟨w',z⟩:=I.cell x c hc;refine wpAny_storeName_cell I.ok.kind hk hc z (λh' hc' hs=>?_);obtain ⟨oc,hoc,hocd⟩:=id z;refine h { s with heap:=h' } ⟨I.ok,I.os,I.bare,⟨λb o e n hb hx=>?_,λb o e n hb hx=>?_,I.base.free,λb o e hx=>?_,I.base.tups,I.base.frzs,I.base.tbls⟩,⟨m,hn.sameBut hs (oQ (cne x c hc)),λj y v' e1 e2 e3=>?_⟩,λy c' e=>?_,I.free,I.freeC,λp hp=>?_,tracked ⟨oc,hoc,I.freeC x c hc⟩ hs,by simpa using I.len⟩ ⟨c,hs,.inr hc⟩
  .exact (hs.2 b (nh (q7z (mH e) (I.ok.cab x c hfn hc)))).trans (I.base.keep b o e n hb hx)
  .obtain ⟨sl,e1⟩:=I.base.slot b o e n hb hx
   exact ⟨sl,(hs.2 b (nh (q7z (mH e) (I.ok.cab x c hfn hc)))).trans e1⟩
  .obtain ⟨o',e1⟩:=I.base.there b o e hx
   exact ⟨o',(hs.2 b (nh (q7z (mH e) (I.ok.cab x c hfn hc)))).trans e1⟩
  .by_cases hj:j=i
   .subst hj
    rw [hi] at e1;cases e1;rw [q8z hiσ] at e2;cases e2;exact ⟨u,r,.inr ⟨.inl hk,c,hc,hc'⟩⟩
   .rw [nV (oQ hj)] at e2
    obtain ⟨u',r',q⟩:=hl j y v' e1 e2 e3;refine ⟨u',r',?_⟩;rcases q with q | ⟨k,c',e,z'⟩
    .exact .inl q
    .refine .inr ⟨k,c',e,z'.sameBut hs ?_⟩
     rintro rfl;exact hj (zed hN e1 (I.ok.inj _ _ _ e hc ▸ hi))
  .by_cases hcc:c'=c
   .subst hcc;exact ⟨_,hc'⟩
   .obtain ⟨w2,z2⟩:=I.cell y c' e
    exact ⟨w2,z2.sameBut hs hcc⟩
  .obtain ⟨e,n,ne,nf,d⟩:=I.pin p hp
   refine ⟨(hs.2 p.1 ?_).trans e,n,ne,nf,d⟩;intro q;rw [q,hoc] at e;have q':oc=p.2:=nR e;exact d w' (by rw [← q'];exact hocd)
def zdp {M:Model} {A:Around} {E:J5} {i:Nat} {x:Str} {v:V} {u:Vl} {Q:Unit->Sh->Prop} (I:Inv X mn σ H s) (hN:X.N.Nodup) (hi:X.N[i]?=Z x) (hx:Loc X.env.scope x) (r:RelV v u)
  (h:∀ s',Inv X mn (σ.set i (Z v)) H s'->Q () s') (hf:X.fn x=true∨X.env.scope.names.lookup x=Z .local:=by first | exact .inl rfl | exact .inr rfl | assumption):wpAny M A (storeName X.env x u) Q E s :=
 Xs I hN hi hx r (λs' I' _=>h s' I') hf
def Inv.call' {s':Sh} {ch:Jc} (I:Inv X mn σ H s) (ho:s'.os=s.os) (u:Un (frs X.stack) ch H H' s.heap s'.heap) (hok:HOk X.prog X.w H' s'.heap) (hg:AllBare s'.gens)
  (hch:∀ b∈ch,(b∈X.ex∨X.s₀.heap.objs.size<=b)/\b≠X.env.locals/\(∀ x c,X.env.cells.lookup x=Z c->c≠b)/\∀ p∈X.pn++mn,p.1≠b):Inv X mn σ H' s':=by
 obtain ⟨h',g',d',t',o'⟩:=s';have e:o'=s.os:=ho;subst e;exact I.call (g':=g') (t':=t') (d':=d') u hok hg hch
end
abbrev XK:=Vl->Option Ad->Hp->Prop
abbrev St:=List (Jk)
abbrev VK:=V->Hp->Prop
abbrev TE:=St->Hp->VK->Prop
abbrev TT:=St->Hp->(Bool->Hp->Prop)->Prop
abbrev TA:=St->Hp->(Jj->Hp->Prop)->Prop
structure Ends where
 nx:St->Hp->Prop
 rt:VK
 bk:St->Hp->Prop:=λ_ _=>False
 ct:St->Hp->Prop:=λ_ _=>False
abbrev TS:=Ends->St->Hp->Prop
def EP (X:Cx) (mn:J7) (σ:St) (Q:VK) (u:Vl) (s':Sh):Prop:=∃ v H',Inv X mn σ H' s'/\RelV v u/\Q v H'
def TP (X:Cx) (mn:J7) (σ:St) (Q:Bool->Hp->Prop) (b:Bool) (s':Sh):Prop:=∃ H',Inv X mn σ H' s'/\Q b H'
def AP (X:Cx) (mn:J7) (σ:St) (Q:Jj->Hp->Prop) (us:J8) (s':Sh):Prop:=∃ vs H',Inv X mn σ H' s'/\Vals vs us/\Q vs H'
def SP (X:Cx) (mn:J7) (D:Ends) (f:Flow) (s':Sh):Prop :=
 match f with
 | .next=>∃ σ' H',Inv X mn σ' H' s'/\D.nx σ' H'
 | .brk=>∃ σ' H',Inv X mn σ' H' s'/\D.bk σ' H'
 | .cont=>∃ σ' H',Inv X mn σ' H' s'/\D.ct σ' H'
 | .ret u=>∃ v σ' H',Inv X mn σ' H' s'/\RelV v u/\D.rt v H'
def PE (X:Cx) (e:Expr) (t:TE):Prop :=
 ∀ (mn:J7) (s:Sh) (σ:St) (H:Hp) (Q:VK),Inv X mn σ H s->t σ H Q->wpAny (model X.prog X.w) X.A (eval e X.env) (EP X mn σ Q) X.xe s
def PT (X:Cx) (e:Expr) (t:TT):Prop :=
 ∀ (mn:J7) (s:Sh) (σ:St) (H:Hp) (Q:Bool->Hp->Prop),Inv X mn σ H s->t σ H Q->wpAny (model X.prog X.w) X.A (isTrue e X.env (eval e X.env)) (TP X mn σ Q) X.xe s
def PW (X:Cx) (e:Expr) (t:TT):Prop :=
 ∀ (whole:Sem Vl) (mn:J7) (s:Sh) (σ:St) (H:Hp) (Q:Bool->Hp->Prop),Inv X mn σ H s->t σ H Q->wpAny (model X.prog X.w) X.A (isTrue e X.env whole) (TP X mn σ Q) X.xe s
def PW.pt {X:Cx} {e:Expr} {t:TT} (h:PW X e t):PT X e t:=h _
def PA (X:Cx) (es:Jd) (t:TA):Prop :=
 ∀ (pos:Pos) (mn:J7) (s:Sh) (σ:St) (H:Hp) (Q:Jj->Hp->Prop),Inv X mn σ H s->t σ H Q->wpAny (model X.prog X.w) X.A (spliced (backTo pos (mO es X.env))) (AP X mn σ Q) X.xe s
def PS (X:Cx) (st:Stmt) (t:TS):Prop :=
 ∀ (mn:J7) (s:Sh) (σ:St) (H:Hp) (D:Ends),Inv X mn σ H s->t D σ H->wpAny (model X.prog X.w) X.A (exec st X.env) (SP X mn D) X.xe s
def PSs (X:Cx) (st:List Stmt) (t:TS):Prop :=
 ∀ (mn:J7) (s:Sh) (σ:St) (H:Hp) (D:Ends),Inv X mn σ H s->t D σ H->wpAny (model X.prog X.w) X.A (execs st X.env) (SP X mn D) X.xe s
def thn {α:Type} {t:Sem α} {Q Q':α->Sh->Prop} {M:Model} {A:Around} {E:J5} {s:Sh} (h:wpAny M A t Q E s) (hQ:∀ a s,Q a s->Q' a s):wpAny M A t Q' E s:=oB h hQ λ_ _ x=>x
section
variable {X:Cx}
inductive tVar (i:Nat) (σ:St) (H:Hp) (Q:VK):Prop
 | mk (v:_) (_:σ[i]?=Z (Z v)) (_:Q v H)
def tC (v:V):TE:=λ_ H Q=>Q v H
def pe_var {i:Nat} {x:Str} {pos:Pos} (hN:X.N[i]?=Z x) (hv:Vis X.env.scope x) (hd:(x == ("__debug__":Str))=false:=by decide) (hcd:(x == ("__classdict__":Str))=false:=by decide):PE X (.Name x pos) (tVar i):=by
 intro mn s σ H Q I h;obtain ⟨v,e,h⟩:=h;obtain ⟨m,hn,hl⟩:=I.loc;obtain ⟨u,r,l⟩:=hl i x v hN e hv;have fin:EP X mn σ Q u s:=⟨v,H,I,r,h⟩;rcases l with ⟨hk,hm⟩ | ⟨hk,c,hc,hcell⟩
 .exact wpAny_Name (wpAny_loadName_local I.ok.kind hk hn hm fin) hd
 .rcases hk with hk | hk
  .exact wpAny_Name (wpAny_loadName_cell I.ok.kind hk hc hcell fin) hd
  .exact wpAny_Name (wpAny_loadName_free I.ok.kind hk hc hcell fin hcd) hd
def zg {i j pos}:PE X (.Constant (.int i) j pos) (tC (.int i)):=λ_ _ _ H _ I h=>wpAny_Constant_int ⟨.int i,H,I.tok _,⟨_,Y⟩,h⟩
def YR {b j pos}:PE X (.Constant (.bool b) j pos) (tC (.bl b)):=λ_ _ _ H _ I h=>Constant_bool ⟨.bl b,H,I,Y,h⟩
def xB {j pos}:PE X (.Constant .none j pos) (tC .non):=λ_ _ _ H _ I h=>Constant_none ⟨.non,H,I,Y,h⟩
def zP {x j pos}:PE X (.Constant (.str x) j pos) (tC (.str x)):=λ_ _ _ H _ I h=>Calls.Constant_str ⟨.str x,H,I.tok _,⟨_,Y⟩,h⟩
def Gl (X:Cx) (x:Str):Prop:=X.env.kindOf x=Z .globalImplicit
def YF {E:J5} {mn:J7} {s:Sh} {σ:St} {H:Hp} {x:Str} {u:Vl} {pos:Pos} {Q:J5} (I:Inv X mn σ H s) (hg:Gl X x) (hm:X.mg x=Z u) (h:Q u s)
  (hd:(x == ("__debug__":Str))=false:=by decide):wpAny (model X.prog X.w) X.A (eval (.Name x pos) X.env) Q E s :=
 Calls.Name_function_global I.ok.kind hg (Calls.loadGlobal_global (by rw [I.ok.glob];exact I.mod.glob.keeps I.bk) hm h) hd
def Yk {E:J5} {mn:J7} {s:Sh} {σ:St} {H:Hp} {x:Str} {u:Vl} {pos:Pos} {Q:J5} (I:Inv X mn σ H s) (hg:Gl X x) (hm:X.mg x=O) (hv:sP x=Z u) (h:Q u s)
  (hn:x≠"__name__":=by decide) (hd:(x == ("__debug__":Str))=false:=by decide):wpAny (model X.prog X.w) X.A (eval (.Name x pos) X.env) Q E s:=by
 obtain ⟨mb,h1,h2⟩:=I.mod.blt;exact Calls.Name_function_global I.ok.kind hg (Calls.loadGlobal_builtin (by rw [I.ok.glob];exact I.mod.glob.keeps I.bk) hm (by rw [I.ok.blt];exact h1.keeps I.bk) ((h2 x hn).trans hv) h) hd
def pe_glob {x:Str} {v:V} {u:Vl} {pos:Pos} (hg:Gl X x) (hm:X.mg x=Z u) (r:RelV v u) (hd:(x == ("__debug__":Str))=false:=by decide):PE X (.Name x pos) (tC v) :=
 λ_ _ _ H _ I h=>YF I hg hm ⟨v,H,I,r,h⟩ hd
def pe_bltn {x:Str} {v:V} {u:Vl} {pos:Pos} (hg:Gl X x) (hm:X.mg x=O) (hv:sP x=Z u) (r:RelV v u) (hn:x≠"__name__":=by decide) (hd:(x == ("__debug__":Str))=false:=by decide):PE X (.Name x pos) (tC v) :=
 λ_ _ _ H _ I h=>Yk I hg hm hv ⟨v,H,I,r,h⟩ hn hd
variable {a b:Expr} {ta tb:TE} {pos:Pos}
def PC (X:Cx) (op:CmpOp) (a b:Expr) (t:TE):Prop :=
 ∀ (mn:J7) (s:Sh) (σ:St) (H:Hp) (Q:VK),Inv X mn σ H s->t σ H Q ->
  wpAny (model X.prog X.w) X.A (eval a X.env) (λv s₁=>wpAny (model X.prog X.w) X.A (eval b X.env) (λu s₂=>wpAny (model X.prog X.w) X.A (pi op v u) (EP X mn σ Q) X.xe s₂) X.xe s₁) X.xe s
inductive tB_S (Q:(Bool->Hp->Prop)) (x:V) (H1:Hp):Prop
 | mk (c:_) (_:x=.bl c) (_:Q c H1)
def tB (t:TE):TT:=λσ H Q=>t σ H λx H1=>tB_S Q x H1
def pt_cmp {op:CmpOp} {t:TE} (h:PC X op a b t) (h1:behindInMarks op b=false:=by first | exact nobehind _ (by decide) (by decide) | rfl):PT X (.Compare a [op] [b] pos) (tB t):=by
 intro mn s σ H Q I hw;refine wpAny_isTrue_Compare1 (thn (h mn s σ H _ I hw) λv s1 h1=>thn h1 λu s2 h2=>thn h2 λc s3 ⟨x,H1,I1,r1,q1⟩=>?_) h1;obtain ⟨d,rfl,q⟩:=q1;cases r1;exact oZ ⟨H1,I1,q⟩
def ya {e:Expr} {t:TE} (h:PE X e t) (he:∀ whole,isTrue e X.env whole=(do let v ← whole;standAt e.pos;holding [v] (truthy v)):=by intro _;rfl):PT X e (tB t):=by
 intro mn s σ H Q I hw;refine isTrue_plain (thn (h mn s σ H _ I hw) λv s1 ⟨x,H1,I1,r1,q1⟩=>?_) (he _);obtain ⟨d,rfl,q⟩:=q1;cases r1;exact oZ ⟨H1,I1,q⟩
variable {tA tB':TT} {rest:Jd}
def tAnd (t u:TT):TT:=λσ H Q=>t σ H λc H1=>if c=true then u σ H1 Q else Q false H1
def tOr (t u:TT):TT:=λσ H Q=>t σ H λc H1=>if c=true then Q true H1 else u σ H1 Q
def tNot (t:TT):TT:=λσ H Q=>t σ H λc H1=>Q (!c) H1
def zcx (ha:PT X a tA):PW X (.BoolOp .And [a] pos) tA:=by
 intro wh mn s σ H Q I h;refine isTrue_and (thn (ha mn s σ H Q I h) λc s1 e=>?_)
 cases c with
 | true=>exact isTrue_and_nil e
 | false=>exact e
def pw_or1 (ha:PT X a tA):PW X (.BoolOp .Or [a] pos) tA:=by
 intro wh mn s σ H Q I h;refine isTrue_or (thn (ha mn s σ H Q I h) λc s1 e=>?_)
 cases c with
 | false=>exact isTrue_or_nil e
 | true=>exact e
def pw_and (ha:PT X a tA) (hb:PW X (.BoolOp .And (b::rest) pos) tB'):PW X (.BoolOp .And (a::b::rest) pos) (tAnd tA tB'):=by
 intro wh mn s σ H Q I h;refine isTrue_and (thn (ha mn s σ H _ I h) λc s1 ⟨H1,I1,q1⟩=>?_)
 cases c with
 | true=>exact hb wh mn s1 σ H1 Q I1 q1
 | false=>exact ⟨H1,I1,q1⟩
def pw_or (ha:PT X a tA) (hb:PW X (.BoolOp .Or (b::rest) pos) tB'):PW X (.BoolOp .Or (a::b::rest) pos) (tOr tA tB'):=by
 intro wh mn s σ H Q I h;refine isTrue_or (thn (ha mn s σ H _ I h) λc s1 ⟨H1,I1,q1⟩=>?_)
 cases c with
 | true=>exact ⟨H1,I1,q1⟩
 | false=>exact hb wh mn s1 σ H1 Q I1 q1
def zaq (ha:PT X a tA):PT X (.UnaryOp .Not a pos) (tNot tA):=by
 intro mn s σ H Q I h;exact isTrue_not (ha mn s σ H (λc H1=>Q (!c) H1) I h)
inductive tAndV_S (tb:TE) (σ:St) (Q:VK) (x:V) (H1:Hp):Prop
 | mk (c:_) (_:x=.bl c) (_:if c=true then tb σ H1 Q else Q (.bl false) H1)
def tAndV (ta tb:TE):TE:=λσ H Q=>ta σ H λx H1=>tAndV_S tb σ Q x H1
inductive tOrV_S (tb:TE) (σ:St) (Q:VK) (x:V) (H1:Hp):Prop
 | mk (c:_) (_:x=.bl c) (_:if c=true then Q (.bl true) H1 else tb σ H1 Q)
def tOrV (ta tb:TE):TE:=λσ H Q=>ta σ H λx H1=>tOrV_S tb σ Q x H1
inductive tNotV_S (Q:VK) (x:V) (H1:Hp):Prop
 | mk (c:_) (_:x=.bl c) (_:Q (.bl (!c)) H1)
def tNotV (ta:TE):TE:=λσ H Q=>ta σ H λx H1=>tNotV_S Q x H1
def zc0 {op} {t:TE} (h:PE X a t):PE X (.BoolOp op [a] pos) t:=λmn s σ H Q I hw=>BoolOp_one (h mn s σ H Q I hw)
def zc1 (ha:PE X a ta) (hb:PE X (.BoolOp .And (b::rest) pos) tb):PE X (.BoolOp .And (a::b::rest) pos) (tAndV ta tb):=by
 intro mn s σ H Q I h;refine BoolOp_and (thn (ha mn s σ H _ I h) λv s1 ⟨x,H1,I1,r1,q1⟩=>?_);obtain ⟨c,rfl,q1⟩:=q1;cases r1;refine oZ ?_
 cases c with
 | true=>exact hb mn s1 σ H1 Q I1 q1
 | false=>exact ⟨.bl false,H1,I1,Y,q1⟩
def pe_or (ha:PE X a ta) (hb:PE X (.BoolOp .Or (b::rest) pos) tb):PE X (.BoolOp .Or (a::b::rest) pos) (tOrV ta tb):=by
 intro mn s σ H Q I h;refine BoolOp_or (thn (ha mn s σ H _ I h) λv s1 ⟨x,H1,I1,r1,q1⟩=>?_);obtain ⟨c,rfl,q1⟩:=q1;cases r1;refine oZ ?_
 cases c with
 | false=>exact hb mn s1 σ H1 Q I1 q1
 | true=>exact ⟨.bl true,H1,I1,Y,q1⟩
def pe_not (ha:PE X a ta):PE X (.UnaryOp .Not a pos) (tNotV ta):=by
 intro mn s σ H Q I h;refine UnaryOp_ (thn (ha mn s σ H _ I h) λv s1 ⟨x,H1,I1,r1,q1⟩=>?_);obtain ⟨c,rfl,q1⟩:=q1;cases r1;exact not_of (oZ ⟨.bl (!c),H1,I1,Y,q1⟩)
def tIf (t:TT) (ta tb:TE):TE:=λσ H Q=>t σ H λc H1=>if c=true then ta σ H1 Q else tb σ H1 Q
def zat {c:Expr} (hc:PT X c tA) (ha:PE X a ta) (hb:PE X b tb):PE X (.IfExp c a b pos) (tIf tA ta tb):=by
 intro mn s σ H Q I h;refine wpAny_IfExp (thn (hc mn s σ H _ I h) λd s1 ⟨H1,I1,q1⟩=>?_)
 cases d with
 | true=>exact ha mn s1 σ H1 Q I1 q1
 | false=>exact hb mn s1 σ H1 Q I1 q1
end
def SqL (K:Fg) (H:Hp) (a:Ad) (xs:Jj):Prop :=
 Rd H a (.lst xs) ∨
  ∃ (o:Obj) (its:Array Vl) (n:Nat),K.lookup a=Z o/\o.cls=.type "list"/\o.dict=O/\o.data=.seq its n/\its.size<=mI/\Vals xs its.toList
def SqT (K:Fg) (H:Hp) (a:Ad) (xs:Jj):Prop :=
 Rd H a (.tup xs) ∨
  ∃ (o:Obj) (its:Array Vl) (n:Nat),K.lookup a=Z o/\o.cls=.type "tuple"/\o.data=.seq its n/\its.size<=mI/\Vals xs its.toList
def absV:Vl->Jk
 | .none=>Z .non
 | .bool b=>Z (.bl b)
 | .int i _=>Z (.int i)
 | .str x _=>Z (.str x)
 | .bytes b _=>Z (.byt b)
 | .float b _=>Z (.flt b)
 | .ref a=>Z (.ref a)
 | .type n=>Z (.ty n)
 | _=>O
def RelV.abs {x:V} {u:Vl} (r:RelV x u):absV u=Z x:=by
 cases x with
 | non=>cases r;rfl
 | bl _=>cases r;rfl
 | int _=>obtain ⟨t,rfl⟩:=r;rfl
 | str _=>obtain ⟨t,rfl⟩:=r;rfl
 | byt _=>obtain ⟨t,rfl⟩:=r;rfl
 | flt _=>obtain ⟨t,rfl⟩:=r;rfl
 | ref _=>cases r;rfl
 | ty _=>cases r;rfl
def RelV.inj {x y:V} {u:Vl} (r:RelV x u) (q:RelV y u):x=y:=nR (r.abs.symm.trans q.abs)
theorem Vals.inj:∀ {xs ys:Jj} {us:J8},Vals xs us->Vals ys us->xs=ys
 | _,_,_,.nil,.nil=>rfl
 | _,_,_,.cons r t,.cons r' t'=>by rw [r.inj r',Vals.inj t t']
section
variable {X:Cx} {mn:J7} {σ:St} {H:Hp} {s:Sh} {a:Ad} {xs ys:Jj}
def SqL.of {K:Fg} (h:H a=Z (.lst xs)):SqL K H a xs:=.inl (.inl h)
def SqT.of {K:Fg} (h:H a=Z (.tup xs)):SqT K H a xs:=.inl (.inl h)
def Inv.list (I:Inv X mn σ H s) (h:SqL X.K H a xs):∃ its:J8,Vals xs its/\PlainL s.heap a its.toArray/\xs.length<=sizeLine:=by
 rcases h with h | ⟨o,its,n,hk,hc,hd,hs,hz,r⟩
 .obtain ⟨z,its,n,r,e⟩:=h.ok I.hok
  exact ⟨its,r,⟨_,n,e,Y,Y,Y⟩,z⟩
 .refine ⟨its.toList,r,⟨o,n,I.kIn a o hk,hc,hd,by simpa using hs⟩,?_⟩
  have e:=r.length;simp only [Array.length_toList] at e;omega
def Inv.tuple (I:Inv X mn σ H s) (h:SqT X.K H a xs):∃ its:J8,Vals xs its/\IsTup s.heap a its.toArray/\xs.length<=sizeLine:=by
 rcases h with h | ⟨o,its,n,hk,hc,hs,hz,r⟩
 .obtain ⟨z,its,r,p⟩:=h.ok I.hok
  exact ⟨its,r,p,z⟩
 .refine ⟨its.toList,r,⟨o,I.kIn a o hk,hc,n,by simpa using hs⟩,?_⟩
  have e:=r.length;simp only [Array.length_toList] at e;omega
def Inv.list_inj (I:Inv X mn σ H s) (h:SqL X.K H a xs) (h':SqL X.K H a ys):xs=ys:=by
 obtain ⟨its,r,⟨o,n,e,_,_,d⟩,_⟩:=I.list h;obtain ⟨its',r',⟨o',n',e',_,_,d'⟩,_⟩:=I.list h';rw [e] at e';cases e';rw [d] at d';injection d' with d1 _
 have:its=its':=by simpa using congrArg Array.toList d1
 subst this;exact r.inj r'
def Inv.tuple_inj (I:Inv X mn σ H s) (h:SqT X.K H a xs) (h':SqT X.K H a ys):xs=ys:=by
 obtain ⟨its,r,⟨o,e,_,n,d⟩,_⟩:=I.tuple h;obtain ⟨its',r',⟨o',e',_,n',d'⟩,_⟩:=I.tuple h';rw [e] at e';cases e';rw [d] at d';injection d' with d1 _
 have:its=its':=by simpa using congrArg Array.toList d1
 subst this;exact r.inj r'
end
abbrev Cx.wish (X:Cx) (E:J5):Cx:={ X with xe:=E }
abbrev Cx.nox (X:Cx):Cx:=X.wish λ_ _=>False
def Cx.Ok.wish {X:Cx} (ok:X.Ok) (E:J5):(X.wish E).Ok :=
 {ok with}
def Cx.Ok.unwish {X:Cx} {E:J5} (ok:(X.wish E).Ok):X.Ok :=
 {ok with}
section
variable {X:Cx} {mn:J7} {σ:St} {H:Hp} {s:Sh} {E:J5}
def Inv.wish (I:Inv X mn σ H s) (E:J5):Inv (X.wish E) mn σ H s:=⟨I.ok.wish E,I.os,I.bare,I.base,I.loc,I.cell,I.free,I.freeC,I.pin,I.hok,I.len⟩
def Inv.unwish (I:Inv (X.wish E) mn σ H s):Inv X mn σ H s:=⟨I.ok.unwish,I.os,I.bare,I.base,I.loc,I.cell,I.free,I.freeC,I.pin,I.hok,I.len⟩
def SP.unwish {D:Ends} {f:Flow} {s':Sh} (h:SP (X.wish E) mn D f s'):SP X mn D f s':=by
 cases f with
 | next=>obtain ⟨σ',H',I,q⟩:=h;exact ⟨σ',H',I.unwish,q⟩
 | brk=>obtain ⟨σ',H',I,q⟩:=h;exact ⟨σ',H',I.unwish,q⟩
 | cont=>obtain ⟨σ',H',I,q⟩:=h;exact ⟨σ',H',I.unwish,q⟩
 | ret u=>obtain ⟨v,σ',H',I,r,q⟩:=h;exact ⟨v,σ',H',I.unwish,r,q⟩
def PSs.nox {st:List Stmt} {t:TS} (h:PSs X.nox st t):PSs X st t:=λmn s σ H D I hw =>
 oB (h mn s σ H D (I.wish _) hw) (λ_ _ q=>q.unwish) λ_ _ z=>p4 z
end
section
variable {X:Cx} {st:Stmt} {rest:List Stmt} {t u:TS} {e:Expr} {te:TE} {pos:Pos}
def tNext:TS:=λD σ H=>D.nx σ H
def tSeq (t u:TS):TS:=λD σ H=>t { D with nx:=u D } σ H
def zC:PSs X [] tNext:=λ_ _ σ H _ I h=>su ⟨σ,H,I,h⟩
def zd (h1:PS X st t) (h2:PSs X rest u):PSs X (st::rest) (tSeq t u):=by
 intro mn s σ H D I h;refine wpAny_execs_cons (thn (h1 mn s σ H { D with nx:=u D } I h) λf s1 q=>?_)
 cases f with
 | next =>
  obtain ⟨σ',H',I',q⟩:=q;exact h2 mn s1 σ' H' D I' q
 | ret v=>exact q
 | brk=>exact q
 | cont=>exact q
def zf (h1:PS X st t):PSs X [st] t:=by
 intro mn s σ H D I h;refine wpAny_execs_cons (thn (h1 mn s σ H D I h) λf s1 q=>?_)
 cases f with
 | next=>exact su q
 | ret v=>exact q
 | brk=>exact q
 | cont=>exact q
def Inv.quiet {mn:J7} {σ:St} {H:Hp} {s:Sh} (I:Inv X mn σ H s):interactive X.env=false:=by simp [interactive,I.ok.kind]
def tDrop (te:TE):TS:=λD σ H=>te σ H λ_ H1=>D.nx σ H1
def zy (he:PE X e te) (hs:swapsWith e O pos.line X.env=pure false:=by rfl):PS X (.Expr e pos) (tDrop te):=by
 intro mn s σ H D I h;exact wpAny_Expr_any (thn (he mn s σ H _ I h) λv s1 ⟨x,H1,I1,r1,q1⟩=>⟨σ,H1,I1,q1⟩) I.quiet hs
def tRet (te:TE):TS:=λD σ H=>te σ H D.rt
def zm (he:PE X e te):PS X (.Return (Z e) pos) (tRet te):=by
 intro mn s σ H D I h;exact wpAny_Return_some (thn (he mn s σ H _ I h) λv s1 ⟨x,H1,I1,r1,q1⟩=>⟨x,σ,H1,I1,r1,q1⟩)
def tIfS (c:TT) (t u:TS):TS:=λD σ H=>c σ H λb H1=>if b=true then t D σ H1 else u D σ H1
def zO {c:Expr} {a b:List Stmt} {tc:TT} (hc:PT X c tc) (ha:PSs X a t) (hb:PSs X b u):PS X (.If c a b pos) (tIfS tc t u):=by
 intro mn s σ H D I h;refine wpAny_If (thn (hc mn s σ H _ I h) λd s1 ⟨H1,I1,q1⟩=>?_)
 cases d with
 | true=>exact ha mn s1 σ H1 D I1 q1
 | false=>exact hb mn s1 σ H1 D I1 q1
end
abbrev TG:=V->St->Hp->(St->Hp->Prop)->Prop
abbrev TGs:=Jj->St->Hp->(St->Hp->Prop)->Prop
def PG (X:Cx) (target:Expr) (t:TG):Prop :=
 ∀ (mn:J7) (s:Sh) (σ:St) (H:Hp) (v:V) (u:Vl) (Q:St->Hp->Prop),Inv X mn σ H s->RelV v u->t v σ H Q ->
  wpAny (model X.prog X.w) X.A (assign target X.env u) (λ_ s'=>∃ σ' H',Inv X mn σ' H' s'/\Q σ' H') X.xe s
def PGs (X:Cx) (ts:Jd) (t:TGs):Prop :=
 ∀ (mn:J7) (s:Sh) (σ:St) (H:Hp) (vs:Jj) (us:J8) (Q:St->Hp->Prop),Inv X mn σ H s->Vals vs us->t vs σ H Q ->
  wpAny (model X.prog X.w) X.A (assignInOrder ((tL ts X.env).map (·.2)) us) (λ_ s'=>∃ σ' H',Inv X mn σ' H' s'/\Q σ' H') X.xe s
abbrev TSet:=V->V->V->Hp->(Hp->Prop)->Prop
def PSet (X:Cx) (t:TSet):Prop :=
 ∀ (mn:J7) (s:Sh) (σ:St) (H:Hp) (o i v:V) (ov iv u:Vl) (Q:Hp->Prop),Inv X mn σ H s->RelV o ov->RelV i iv->RelV v u->t o i v H Q ->
  wpAny (model X.prog X.w) X.A (setItem ov iv u) (λ_ s'=>∃ H',Inv X mn σ H' s'/\Q H') X.xe s
section
variable {X:Cx} {pos:Pos}
def zb4 (i:Nat):TG:=λv σ H Q=>Q (σ.set i (Z v)) H
def zL {i:Nat} {x:Str} (hN:X.N.Nodup) (hi:X.N[i]?=Z x) (hx:Loc X.env.scope x) (hf:X.fn x=true∨X.env.scope.names.lookup x=Z .local:=by first | exact .inl rfl | exact .inr rfl | assumption):PG X (.Name x pos) (zb4 i):=by
 intro mn s σ H v u Q I r h;exact wpAny_assign_Name (zdp I hN hi hx r (λs' I'=>⟨_,H,I',h⟩) hf)
def oQz (i:Nat) {x:Str} (hN:X.N.Nodup) (hi:X.N[i]?=Z x:=by rfl) (hx:Loc X.env.scope x:=by exact Or.inl rfl) (hf:X.fn x=true∨X.env.scope.names.lookup x=Z .local:=by first | exact .inl rfl | exact .inr rfl | assumption):PG X (.Name x pos) (zb4 i):=zL hN hi hx hf
def gNil:TGs:=λvs σ H Q=>vs=[]/\Q σ H
inductive gCons (t:TG) (u:TGs) (vs:Jj) (σ:St) (H:Hp) (Q:(St->Hp->Prop)):Prop
 | mk (v r:_) (_:vs=v::r) (_:t v σ H λσ' H'=>u r σ' H' Q)
def Xg:PGs X [] gNil:=by
 intro mn s σ H vs us Q I r h;obtain ⟨e,h⟩:=h;subst e;cases r;exact assignInOrder_nil ⟨σ,H,I,h⟩
def yF {e:Expr} {es:Jd} {t:TG} {u:TGs} (h1:PG X e t) (h2:PGs X es u)
  (hs:(tL (e::es) X.env).map (·.2)=assign e X.env::(tL es X.env).map (·.2):=by rfl):PGs X (e::es) (gCons t u):=by
 intro mn s σ H vs us Q I r h;obtain ⟨v,vr,e1,h⟩:=h;subst e1
 cases r with
 | cons r rr =>
  rw [hs];refine assignInOrder_cons (thn (h1 mn s σ H _ _ _ I r h) λ_ s1 ⟨σ1,H1,I1,q1⟩=>?_);exact h2 mn s1 σ1 H1 _ _ Q I1 rr q1
inductive gTup (K:Fg) (n:Nat) (t:TGs) (v:V) (σ:St) (H:Hp) (Q:(St->Hp->Prop)):Prop
 | mk (a xs:_) (_:v=.ref a) (_:SqT K H a xs) (_:xs.length=n) (_:t xs σ H Q)
def pg_tup {es:Jd} {k:Nat} {t:TGs} {n:Nat} (hc:X.calm=true) (h:PGs X es t)
  (hn:(tL es X.env).length=n:=by rfl) (hst:(tL es X.env).findIdx? (·.1)=O:=by rfl):PG X (.Tuple es k pos) (gTup X.K n t):=by
 intro mn s σ H v u Q I r hw;obtain ⟨a,xs,e1,hq,hl,hw⟩:=hw;subst e1;cases r;obtain ⟨its,rv,ht,hz⟩:=I.tuple hq;refine assign_Tuple_tuple (I.ok.hd hc) ht (by simp [hn,← hl,rv.length]) hst λh' hx=>?_;have I1:Inv X mn σ H { s with heap:=h' }:=I.kept (t':=s.toks) λb o e=>hx b o (nh (mH e)) e;exact h mn _ σ H xs _ Q I1 (by simpa using rv) hw
def gSub (to ti:TE) (t:TSet):TG:=λv σ H Q=>to σ H λo H1=>ti σ H1 λi H2=>t o i v H2 λH3=>Q σ H3
def zas {o i:Expr} {to ti:TE} {t:TSet} (ho:PE X o to) (hi:PE X i ti) (hs:PSet X t)
  (ha:∀ v,assign (.Subscript o i pos) X.env v=(do
   let ov ← holding [v] (eval o X.env);let iv ← holding [v,ov] (eval i X.env)
   standAt pos
   holding [v,ov,iv] (setItem ov iv v)
   release [v,ov,iv] []):=by intro _;rfl):PG X (.Subscript o i pos) (gSub to ti t):=by
 intro mn s σ H v u Q I r h;rw [ha];refine q0x (pW (thn (ho mn s σ H _ I h) λov s1 ⟨x,H1,I1,r1,q1⟩=>?_));refine q0x (pW (thn (hi mn s1 σ H1 _ I1 q1) λiv s2 ⟨y,H2,I2,r2,q2⟩=>?_));refine q0x (wpAny_standAt (q0x (pW (thn (hs mn s2 σ H2 x y v ov iv u _ I2 r1 r2 r q2) λ_ s3 ⟨H3,I3,q3⟩=>?_))));exact wpAny_release ⟨σ,H3,I3,q3⟩
def tAsg (te:TE) (g:TG):TS:=λD σ H=>te σ H λx H1=>g x σ H1 D.nx
def zar {tg e:Expr} {te:TE} {g:TG} (he:PE X e te) (hg:PG X tg g) (hs:swapsWithSole [tg] e pos.line X.env=pure false:=by rfl) (hw:swappedStores [tg] e X.env=pure O:=by rfl)
  (h1:(tL [tg] X.env).map (·.2)=[assign tg X.env]:=by rfl):PS X (.Assign [tg] e pos) (tAsg te g):=by
 intro mn s σ H D I h;refine wpAny_Assign_stores (thn (he mn s σ H _ I h) λv s1 ⟨x,H1,I1,r1,q1⟩=>?_) hs hw;rw [h1];exact thn (hg mn s1 σ H1 x v _ I1 r1 q1) λ_ s2 q=>q
def zq {i:Nat} {x:Str} {e:Expr} {te:TE} {pos':Pos} (hN:X.N.Nodup) (hi:X.N[i]?=Z x) (hx:Loc X.env.scope x) (he:PE X e te) (hs:swapsWith e (Z (.Name x pos')) pos.line X.env=pure false:=by rfl) (hf:X.fn x=true∨X.env.scope.names.lookup x=Z .local:=by first | exact .inl rfl | exact .inr rfl | assumption) :
  PS X (.Assign [.Name x pos'] e pos) (tAsg te (zb4 i)):=by
 intro mn s σ H D I h;refine wpAny_Assign_Name (thn (he mn s σ H _ I h) λv s1 ⟨y,H1,I1,r1,q1⟩=>?_) hs;exact zdp I1 hN hi hx r1 (λs2 I2=>⟨_,H1,I2,q1⟩) hf
def oRz (i:Nat) {x:Str} {e:Expr} {te:TE} {pos':Pos} (hN:X.N.Nodup) (he:PE X e te) (hi:X.N[i]?=Z x:=by rfl) (hx:Loc X.env.scope x:=by exact Or.inl rfl) (hs:swapsWith e (Z (.Name x pos')) pos.line X.env=pure false:=by rfl) (hf:X.fn x=true∨X.env.scope.names.lookup x=Z .local:=by first | exact .inl rfl | exact .inr rfl | assumption):PS X (.Assign [.Name x pos'] e pos) (tAsg te (zb4 i)):=zq hN hi hx he hs hf
inductive tWhile (c:TT) (tb:TS) (D:Ends) (σ:St) (H:Hp):Prop
 | mk (W:Nat->St->Hp->Prop) (_:(∃ m,W m σ H)) (_:∀ m σ H,W m σ H->c σ H λb H1=>if b=true then ∃ N:St->Hp->Prop,(∀ σ' H',N σ' H'->∃ m',m'<m/\W m' σ' H')/\tb { D with nx:=N,ct:=N,bk:=D.nx } σ H1 else D.nx σ H1)
def ps_while {c:Expr} {body:List Stmt} {tc:TT} {tb:TS} (hp:PassesOwn (model X.prog X.w) X.A X.env X.xe) (hc:PT X c tc) (hb:PSs X body tb):PS X (.While c body [] pos) (tWhile tc tb):=by
 intro mn s σ H D I h;obtain ⟨W,⟨m0,w0⟩,turn⟩:=h;refine wpAny_While (codeAny_whileLoop (λn s'=>∃ σ' H',Inv X mn σ' H' s'/\W n σ' H') ?_ m0 ⟨σ,H,I,w0⟩);rintro n s1 ⟨σ1,H1,I1,w1⟩;refine rC hp (thn (hc mn s1 σ1 H1 _ I1 (turn n σ1 H1 w1)) λb s2 ⟨H2,I2,q2⟩=>?_)
 cases b with
 | true =>
  obtain ⟨N,hN,q2⟩:=q2;rw [if_pos rfl];refine rC hp (thn (hb mn s2 σ1 H2 _ I2 q2) λf s3 q3=>?_)
  cases f with
  | next =>
   obtain ⟨σ3,H3,I3,n3⟩:=q3;obtain ⟨m',hm,w3⟩:=hN σ3 H3 n3;exact ⟨m',hm,σ3,H3,I3,w3⟩
  | cont =>
   obtain ⟨σ3,H3,I3,n3⟩:=q3;obtain ⟨m',hm,w3⟩:=hN σ3 H3 n3;exact ⟨m',hm,σ3,H3,I3,w3⟩
  | brk=>exact q3
  | ret v=>exact q3
 | false =>
  rw [if_neg q7x];exact su ⟨σ1,H2,I2,q2⟩
end
structure It where
 go:Nat->Hp->Prop
 yld:Nat->Hp->V->Hp->Prop
 stop:Nat->Hp->Prop
def Yx (X:Cx) (mn:J7) (H:Hp) (b:Ad):Prop :=
 H b=O/\b≠X.env.locals/\b ∉ X.fs/\(b∈X.ex∨X.s₀.heap.objs.size<=b)/\(∀ x c,X.env.cells.lookup x=Z c->c≠b)/\∀ p∈X.pn++mn,p.1≠b
def Inv.fpOk {X:Cx} {mn:J7} {σ:St} {H H':Hp} {s:Sh} {b:Ad} (I:Inv X mn σ H s) (hb:s.heap.objs.size<=b) (hn:H' b=O):Yx X mn H' b:=by
 refine ⟨hn,sy (q7z I.lt hb),I.nofs hb,.inr (mL I.sz hb),λx c e z=>?_,λp hp z=>?_⟩
 .obtain ⟨v,q⟩:=I.cell x c e
  exact absurd (q7z q.lt (by rw [z];exact hb)) (p6 _)
 .exact absurd (q7z (mH (I.pin p hp).1) (by rw [z];exact hb)) (p6 _)
structure Turn (P:nQ) (w:World) (K:Fg) (tg:Expr) (J:It) (fp:Jc) (it:Ad) (tn:Nat->Heap->Prop):Prop where
 mem:it∈fp
 obj:∀ i h,tn i h->∀ b∈fp,∃ o,h.get? b=Z o/\∀ v,o.data≠.cell v
 keep:∀ i h h',tn i h->(∀ b∈fp,∀ o,h.get? b=Z o->h'.get? b=Z o)->tn i h'
 item:∀ (X:Cx),X.prog=P->X.w=w->X.K=K->X.calm=true->∀ (i:Nat) (mn:J7) (s:Sh) (σ:St) (H:Hp) (E:J5),Inv X mn σ H s->(∀ b∈fp,Yx X mn H b)->tn i s.heap->J.go i H ->
  wpAny (model P w) X.A (pyNext (.ref it)) (λr s1=>∃ u,r=Z u /\
   wpAny (model P w) X.A (rD tg (.ref it) u) (λ_ s2=>∃ x H',Inv X mn σ H' s2/\RelV x u/\J.yld i H x H'/\tn (i+1) s2.heap/\∀ b∈fp,H' b=O) E s1) E s
 done:∀ (X:Cx),X.prog=P->X.w=w->X.K=K->X.calm=true->∀ (i:Nat) (mn:J7) (s:Sh) (σ:St) (H:Hp) (E:J5),Inv X mn σ H s->(∀ b∈fp,Yx X mn H b)->tn i s.heap->J.stop i H ->
  wpAny (model P w) X.A (pyNext (.ref it)) (λr s1=>r=O/\Inv X mn σ H s1) E s
 self:∀ (A:Around) (i:Nat) (s:Sh) (Q:J5) (E:J5),tn i s.heap->Q (.ref it) s->wpAny (model P w) A (pyIter (.ref it)) Q E s
abbrev TI:=St->Hp->(It->Hp->Prop)->Prop
def PIE (X:Cx) (mn:J7) (σ:St) (tg:Expr) (R:It->Hp->Prop) (itv:Vl) (s2:Sh):Prop :=
 ∃ (it:Ad) (fp:Jc) (tn:Nat->Heap->Prop) (J:It) (H':Hp),itv=.ref it/\Inv X mn σ H' s2/\Turn X.prog X.w X.K tg J fp it tn/\tn 0 s2.heap/\(∀ b∈fp,Yx X mn H' b)/\R J H'
def PI (X:Cx) (tg iter:Expr) (wi:TI):Prop :=
 ∀ (mn:J7) (s:Sh) (σ:St) (H:Hp) (R:It->Hp->Prop),Inv X mn σ H s->wi σ H R ->
  wpAny (model X.prog X.w) X.A (eval iter X.env) (λv s1=>wpAny (model X.prog X.w) X.A (pyIter v) (PIE X mn σ tg R) X.xe s1) X.xe s
def go_of {M:Model} {A:Around} {E:J5} {s:Sh} {tg:Expr} {it:Ad} {u:Vl} {o:Obj} {n:String} {vs:Array Vl} {Q:Unit->Sh->Prop} (ho:s.heap.get? it=Z o) (hc:o.cls=.type n) (hd:o.data=.fields vs)
    (hn:["enumerate","zip","dict_itemiterator","dict_reverseitemiterator","odict_iterator","itertools.zip_longest","itertools.pairwise"].contains n=false) (hQ:Q () s):wpAny M A (rD tg (.ref it) u) Q E s:=by
  unfold rD;cases tg <;> first
    | exact q0y hQ
    | (cases u <;> first
        | exact q0y hQ
        | (refine q0x (wpAny_load ho ?_)
           rw [hc,hd];show wpAny M A (if (["enumerate","zip","dict_itemiterator","dict_reverseitemiterator","odict_iterator","itertools.zip_longest","itertools.pairwise"].contains n && vs[0]? == Z (rawInt _))=true then _ else _) Q E s;rw [if_neg (by intro h;rw [hn,tK] at h;cases h)];exact q0y hQ))
def Itl (K:Fg) (a:Ad):It :=
 ⟨λi H=>∃ xs x,SqL K H a xs/\xs[i]?=Z x,λi H x H'=>H'=H/\∀ xs,SqL K H a xs->xs[i]?=Z x,λi H=>∃ xs,SqL K H a xs/\xs.length<=i⟩
def Itr (lo:Int) (n:Nat):It:=⟨λi _=>i<n,λi H x H'=>H'=H/\x=.int (lo+i),λi _=>n<=i⟩
def turn_list {P:nQ} {w:World} {K:Fg} {tg:Expr} (a it:Ad):Turn P w K tg (Itl K a) [it] it (λi h=>h.IsListIter it a i) where
 mem:=by simp
 obj:=λi h st b hb=>by
  have e:b=it:=by simpa using hb
  subst e;obtain ⟨o,e,c,d⟩:=st;exact ⟨o,e,λv z=>by rw [d] at z;cases z⟩
 keep:=λi h h' st k=>st.at λo e=>k it (by simp) o e
 item:=by
  intro X hP hw hK hc i mn s σ H E I hf st hg;subst hP hw hK;obtain ⟨xs,x,hq,hx⟩:=hg;obtain ⟨its,rv,p,hz⟩:=I.list hq;obtain ⟨u,hu,ru⟩:=rv.get hx;obtain ⟨f0,f1,f2,f3,f4,f5⟩:=hf it (by simp);refine wpAny_pyNext_list_item st p.isList (x:=u) (by simpa using hu) λh' st' sb=>?_;have I1:Inv X mn σ H { s with heap:=h' }:=I.turned (t':=s.toks) (λb o hb e=>(sb.2 b hb).trans e) f0 f1 f3 f4 f5;obtain ⟨o,e,c,d⟩:=id st';exact ⟨u,Y,go_of (s:={ s with heap:=h' }) e c d (by decide) ⟨x,H,I1,ru,⟨Y,λys hy=>by rw [I.list_inj hy hq];exact hx⟩,st',λb hb=>(hf b hb).1⟩⟩
 done:=by
  intro X hP hw hK hc i mn s σ H E I hf st hg;subst hP hw hK;obtain ⟨xs,hq,hx⟩:=hg;obtain ⟨its,rv,p,hz⟩:=I.list hq;obtain ⟨f0,f1,f2,f3,f4,f5⟩:=hf it (by simp);have hl:=rv.length;exact wpAny_pyNext_list_end (I.ok.hd hc) st p.isList (by simp;omega) λh' eb=>⟨Y,I.turned (t':=s.toks) (λb o hb e=>eb b o hb e) f0 f1 f3 f4 f5⟩
 self:=λ_ _ _ _ _ st h=>wpAny_pyIter_listiter st h
def ze3 {P:nQ} {w:World} {K:Fg} {tg:Expr} (it:Ad) (lo:Int) (n:Nat):Turn P w K tg (Itr lo n) [it] it (λi h=>IsRangeIter h it (lo+(i:Nat)*1) ((n:Int)-(i:Nat)) 1) where
 mem:=by simp
 obj:=λi h st b hb=>by
  have e:b=it:=by simpa using hb
  subst e
  exact ⟨_,st,λv z=>by
   have z':Data.fields _=Data.cell v:=z;cases z'⟩
 keep:=λi h h' st k=>k it (by simp) _ st
 item:=by
  intro X hP hw hK hc i mn s σ H E I hf st hg;subst hP hw hK;obtain ⟨f0,f1,f2,f3,f4,f5⟩:=hf it (by simp);have W:=Walks.range (prog:=X.prog) (w:=X.w) (I.ok.hd hc) it lo 1 n;refine W.item i s _ _ hg st λv h' tk hv st' kk=>?_;obtain ⟨t,rfl⟩:=hv;have I1:Inv X mn σ H { s with heap:=h',toks:=tk }:=I.turned (λb o hb e=>kk b o (by simpa using hb) e) f0 f1 f3 f4 f5;refine ⟨_,Y,go_of (s:={ s with heap:=h',toks:=tk }) (n:="range_iterator") st' rfl rfl (by decide) ⟨.int (lo+i),H,I1,⟨t,?_⟩,⟨Y,Y⟩,st',λb hb=>(hf b hb).1⟩⟩;rw [Int.mul_one]
 done:=by
  intro X hP hw hK hc i mn s σ H E I hf st hg;subst hP hw hK;obtain ⟨f0,f1,f2,f3,f4,f5⟩:=hf it (by simp);exact wpAny_pyNext_range_end (I.ok.hd hc) st (by have:n<=i:=hg;omega) λh' eb=>⟨Y,I.turned (t':=s.toks) (λb o hb e=>eb b o hb e) f0 f1 f3 f4 f5⟩
 self:=λ_ _ _ _ _ st h=>wpAny_pyIter_rangeiter st h
section
variable {X:Cx} {tg:Expr}
inductive iList_S (K:Fg) (R:(It->Hp->Prop)) (x:V) (H1:Hp):Prop
 | mk (a:_) (_:x=.ref a) (_:(∃ xs,SqL K H1 a xs)) (_:R (Itl K a) H1)
def iList (K:Fg) (tl:TE):TI:=λσ H R=>tl σ H λx H1=>iList_S K R x H1
def Zq {l:Expr} {tl:TE} (hl:PE X l tl):PI X tg l (iList X.K tl):=by
 intro mn s σ H R I h;refine thn (hl mn s σ H _ I h) λv s1 ⟨x,H1,I1,r1,q1⟩=>?_;obtain ⟨a,e,⟨xs,hq⟩,q⟩:=q1;subst e;cases r1;obtain ⟨its,rv,p,hz⟩:=I1.list hq;refine sL p.isList ?_;refine ⟨s1.heap.objs.size,[s1.heap.objs.size],_,_,H1,Y,I1.kept (t':=s1.toks) λb o e=>mD _ e,turn_list a _,⟨_,mX _ rfl,Y,Y⟩,λb hb=>?_,q⟩;have e:b=s1.heap.objs.size:=by simpa using hb
 subst e;exact I1.fpOk (m8 _) (I1.hok.fresh (m8 _))
def zd2 {mn:J7} {σ:St} {H:Hp} {s:Sh} {R:It->Hp->Prop} {E:J5} {lo hi:Int} {t u v:Tok} {tk:Nat} (I:Inv X mn σ H s) (h1:-(2 ^ 62)<=lo) (h2:lo<2 ^ 62) (h3:-(2 ^ 62)<=hi) (h4:hi<2 ^ 62)
  (q:R (Itr lo (hi-lo).toNat) H):wpAny (model X.prog X.w) X.A (pyIter (.ref s.heap.objs.size)) (PIE X mn σ tg R) E { s with heap:=s.heap.push { cls:=.type "range",data:=.fields #[.int lo t,.int hi u,.int 1 v] },toks:=tk }:=by
 refine wpAny_pyIter_range (IsRange.new ..) (small_one h1 h2 h3 h4) ?_;have I1:Inv X mn σ H { s with heap:=s.heap.push { cls:=.type "range",data:=.fields #[.int lo t,.int hi u,.int 1 v] },toks:=tk }:=I.kept λb o e=>mD _ e
 refine ⟨(s.heap.push { cls:=.type "range",data:=.fields #[.int lo t,.int hi u,.int 1 v] }).objs.size,[(s.heap.push { cls:=.type "range",data:=.fields #[.int lo t,.int hi u,.int 1 v] }).objs.size],_,_,H,Y,
  I1.kept (t':=tk) λb o e=>mD _ e,ze3 _ lo (hi-lo).toNat,?_,λb hb=>?_,q⟩
 .have e1:lo+((0:Nat):Int)*1=lo:=by simp
  have e2:(((hi-lo).toNat:Nat):Int)-((0:Nat):Int)=pY lo hi 1:=by rw [rangeSize_one];split <;> omega
  show IsRangeIter _ _ (lo+((0:Nat):Int)*1) ((((hi-lo).toNat:Nat):Int)-((0:Nat):Int)) 1;rw [e1,e2];exact mX _ rfl
 .have e:b=(s.heap.push { cls:=.type "range",data:=.fields #[.int lo t,.int hi u,.int 1 v] }).objs.size:=by simpa using hb
  subst e;exact I1.fpOk (m8 _) (I1.hok.fresh (m8 _))
inductive iRng1_S (R:(It->Hp->Prop)) (vs:Jj) (H1:Hp):Prop
 | mk (j:Int) (_:vs=[.int j]) (_:-(2 ^ 62)<=j) (_:j<2 ^ 62) (_:R (Itr 0 j.toNat) H1)
def iRng1 (ta:TA):TI:=λσ H R=>ta σ H λvs H1=>iRng1_S R vs H1
inductive iRng2_S (R:(It->Hp->Prop)) (vs:Jj) (H1:Hp):Prop
 | mk (i j:Int) (_:vs=[.int i,.int j]) (_:(-(2 ^ 62)<=i/\i<2 ^ 62/\-(2 ^ 62)<=j/\j<2 ^ 62)) (_:R (Itr i (j-i).toNat) H1)
def iRng2 (ta:TA):TI:=λσ H R=>ta σ H λvs H1=>iRng2_S R vs H1
def xn {a:Expr} {ta:TA} {p pos:Pos} (hg:Gl X "range") (hm:X.mg "range"=O) (ha:PA X [a] ta) (hs:mO [a] X.env=[(false,eval a X.env)]:=by rfl):PI X tg (.Call (.Name "range" p) [a] [] pos) (iRng1 ta):=by
 intro mn s σ H R I h;refine Call_ (Yk I hg hm boot_range (ou (thn (ha pos mn s σ H _ I h) λus s1 ⟨vs,H1,I1,r1,q1⟩=>?_) hs rfl));obtain ⟨j,e,q1,q2,q⟩:=q1;subst e
 cases r1 with
 | cons r rr =>
  cases rr;obtain ⟨t,rfl⟩:=r;exact call_range_1 (zd2 I1 (by omega) (by omega) q1 q2 (by simpa using q))
def pi_range2 {a b:Expr} {ta:TA} {p pos:Pos} (hg:Gl X "range") (hm:X.mg "range"=O) (ha:PA X [a,b] ta) (hs:mO [a,b] X.env=[(false,eval a X.env),(false,eval b X.env)]:=by rfl) (hs2:mO [b] X.env=[(false,eval b X.env)]:=by rfl) :
  PI X tg (.Call (.Name "range" p) [a,b] [] pos) (iRng2 ta):=by
 intro mn s σ H R I h;refine Call_ (Yk I hg hm boot_range (ou (thn (ha pos mn s σ H _ I h) λus s1 ⟨vs,H1,I1,r1,q1⟩=>?_) (by rw [hs,hs2]) (by rw [hs2];rfl)));obtain ⟨i,j,e,⟨q1,q2,q3,q4⟩,q⟩:=q1;subst e
 cases r1 with
 | cons r rr =>
  cases rr with
  | cons r' rr =>
   cases rr;obtain ⟨t,rfl⟩:=r;obtain ⟨t',rfl⟩:=r';exact call_range_2 (zd2 I1 q1 q2 q3 q4 q)
inductive tFor_S (g:TG) (tb:TS) (D:Ends) (σ:St) (J:It) (H1:Hp):Prop
 | mk (W:Nat->Nat->St->Hp->Prop) (_:(∃ m,W 0 m σ H1)) (_:∀ i m σ H,W i m σ H->(J.stop i H/\D.nx σ H)∨(J.go i H/\∃ N:St->Hp->Prop,(∀ σ' H',N σ' H'->∃ m',m'<m/\W (i+1) m' σ' H')/\∀ x H',J.yld i H x H'->g x σ H' λσ2 H2=>tb { D with nx:=N,ct:=N,bk:=D.nx } σ2 H2))
def tFor (wi:TI) (g:TG) (tb:TS):TS:=λD σ H=>wi σ H λJ H1=>tFor_S g tb D σ J H1
def Xy (fp:Jc) (h:Heap):J7:=fp.filterMap λb=>(h.get? b).map λo=>(b,o)
def xK {fp:Jc} {h:Heap} {b:Ad} {o:Obj} (hb:b∈fp) (e:h.get? b=Z o):(b,o)∈Xy fp h:=tG.mpr ⟨b,hb,by rw [e];rfl⟩
def of_pinsAt {fp:Jc} {h:Heap} {p:Ad×Obj} (hp:p∈Xy fp h):p.1∈fp/\h.get? p.1=Z p.2:=by
 obtain ⟨b,hb,e⟩:=tG.mp hp
 cases q:h.get? b with
 | none=>rw [q] at e;cases e
 | some o =>
  rw [q] at e;have e':(b,o)=p:=nR e;subst e';exact ⟨hb,q⟩
def Inv.pinned {mn:J7} {σ:St} {H:Hp} {s:Sh} {fp:Jc} (I:Inv X mn σ H s) (hf:∀ b∈fp,Yx X mn H b) (ho:∀ b∈fp,∃ o,s.heap.get? b=Z o/\∀ v,o.data≠.cell v):Inv X (mn++Xy fp s.heap) σ H s :=
 I.pins_of λp hp=>(oO.mp hp).elim (λz=>I.pin p (q7y _ z)) λz=>by
  obtain ⟨hb,e⟩:=of_pinsAt z;obtain ⟨f0,f1,f2,_⟩:=hf p.1 hb;obtain ⟨o,e',d⟩:=ho p.1 hb;rw [e] at e';cases e';exact ⟨e,f0,f1,f2,d⟩
def Inv.unpinned {mn pl:J7} {σ:St} {H:Hp} {s:Sh} (I:Inv X (mn++pl) σ H s):Inv X mn σ H s:=I.pins_of λp hp=>I.pin p (q7y _ (pE _ hp))
def x8 {iter:Expr} {body:List Stmt} {wi:TI} {g:TG} {tb:TS} {pos:Pos} (hp:PassesOwn (model X.prog X.w) X.A X.env X.xe) (hc:X.calm=true) (hi:PI X tg iter wi) (hg:PG X tg g) (hb:PSs X body tb)
  (hs:∀ x,oH iter X.env x=pure x:=by intro _;rfl):PS X (.For tg iter body [] pos) (tFor wi g tb):=by
 intro mn s σ H D I h;refine wpAny_For (thn (hi mn s σ H _ I h) λv s1 h1=>thn h1 λitv s2 h2=>?_) hs;obtain ⟨it,fp,tn,J,H2,e,I2,T,st2,f2,W,⟨m0,w0⟩,turn⟩:=h2;subst e;have stat:∀ {H':Hp},(∀ b∈fp,H' b=O)->∀ b∈fp,Yx X mn H' b:=λhn b hb=>⟨hn b hb,(f2 b hb).2⟩;refine codeAny_forLoop_any (λn s'=>∃ i σ' H',Inv X mn σ' H' s'/\tn i s'.heap/\(∀ b∈fp,H' b=O)/\W i n σ' H') ?_ m0 ⟨0,σ,H2,I2,st2,λb hb=>(f2 b hb).1,w0⟩;rintro n s3 ⟨i,σ3,H3,I3,st3,fr3,w3⟩;rcases turn i n σ3 H3 w3 with ⟨stop,qn⟩ | ⟨go,N,hN,step⟩
 .refine rC hp (thn (T.done X rfl rfl rfl hc i mn s3 σ3 H3 X.xe I3 (stat fr3) st3 stop) λr s4 ⟨hr,I4⟩=>?_)
  subst hr;exact su ⟨σ3,H3,I4,qn⟩
 .refine rC hp (thn (T.item X rfl rfl rfl hc i mn s3 σ3 H3 X.xe I3 (stat fr3) st3 go) λr s4 ⟨u,hr,h4⟩=>?_)
  subst hr;refine rC hp (thn h4 λ_ s5 ⟨x,H5,I5,r5,y5,st5,fr5⟩=>?_);have I5':=I5.pinned (stat fr5) (T.obj _ _ st5);refine rC hp (thn (hg _ s5 σ3 H5 x u _ I5' r5 (step x H5 y5)) λ_ s6 ⟨σ6,H6,I6,q6⟩=>?_);refine rC hp (thn (hb _ s6 σ6 H6 _ I6 q6) λf s7 q7=>?_)
  have again:∀ {σ7:St} {H7:Hp},Inv X (mn++Xy fp s5.heap) σ7 H7 s7->N σ7 H7->∃ m,m<n/\∃ i σ' H',Inv X mn σ' H' s7/\tn i s7.heap/\(∀ b∈fp,H' b=O)/\W i m σ' H':=λ{σ7 H7} I7 n7=>by
   obtain ⟨m',hm,w7⟩:=hN σ7 H7 n7;refine ⟨m',hm,i+1,σ7,H7,I7.unpinned,T.keep _ _ _ st5 λb hb o e=>(I7.pin (b,o) (q7y _ (q7y _ (xK hb e)))).1,λb hb=>?_,w7⟩;obtain ⟨o,e,d⟩:=T.obj _ _ st5 b hb;exact (I7.pin (b,o) (q7y _ (q7y _ (xK hb e)))).2.1
  cases f with
  | next=>obtain ⟨σ7,H7,I7,n7⟩:=q7;exact again I7 n7
  | cont=>obtain ⟨σ7,H7,I7,n7⟩:=q7;exact again I7 n7
  | brk=>obtain ⟨σ7,H7,I7,q7⟩:=q7;exact ⟨σ7,H7,I7.unpinned,q7⟩
  | ret v=>obtain ⟨x7,σ7,H7,I7,r7,q7⟩:=q7;exact ⟨x7,σ7,H7,I7.unpinned,r7,q7⟩
end
def Xm {K:Fg} {a:Ad} {xs:Jj} {g:TG} {tb:TS} {D:Ends} {σ:St} {H:Hp} (Pv:Nat->St->Hp->Prop) (h0:Pv 0 σ H) (hl:∀ i σ H,i<=xs.length->Pv i σ H->SqL K H a xs)
  (hs:∀ i x σ H,xs[i]?=Z x->Pv i σ H->g x σ H λσ2 H2=>tb { D with nx:=Pv (i+1),ct:=Pv (i+1),bk:=D.nx } σ2 H2) (hd:∀ σ H,Pv xs.length σ H->D.nx σ H) :
  tFor_S g tb D σ (Itl K a) H:=by
 refine ⟨λi m σ H=>m=xs.length-i/\i<=xs.length/\Pv i σ H,⟨xs.length,by simp,nK _,h0⟩,?_⟩;rintro i m σ H ⟨rfl,hi,p⟩;have q:=hl i σ H hi p;by_cases hlt:i<xs.length
 .refine .inr ⟨⟨xs,xs[i],q,by simp [hlt]⟩,Pv (i+1),λσ' H' p'=>⟨xs.length-(i+1),by omega,Y,hlt,p'⟩,λx H' y=>?_⟩
  obtain ⟨e,y⟩:=y;subst e;exact hs i x σ _ (y xs q) p
 .have e:i=xs.length:=by omega
  subst e;exact .inl ⟨⟨xs,q,m8 _⟩,hd σ H p⟩
def Zu {lo:Int} {n:Nat} {g:TG} {tb:TS} {D:Ends} {σ:St} {H:Hp} (Pv:Nat->St->Hp->Prop) (h0:Pv 0 σ H)
  (hs:∀ i σ H,i<n->Pv i σ H->g (.int (lo+i)) σ H λσ2 H2=>tb { D with nx:=Pv (i+1),ct:=Pv (i+1),bk:=D.nx } σ2 H2) (hd:∀ σ H,Pv n σ H->D.nx σ H) :
  tFor_S g tb D σ (Itr lo n) H:=by
 refine ⟨λi m σ H=>m=n-i/\i<=n/\Pv i σ H,⟨n,by simp,nK _,h0⟩,?_⟩;rintro i m σ H ⟨rfl,hi,p⟩;by_cases hlt:i<n
 .refine .inr ⟨hlt,Pv (i+1),λσ' H' p'=>⟨n-(i+1),by omega,Y,hlt,p'⟩,λx H' y=>?_⟩
  obtain ⟨e,y⟩:=y;subst e y;exact hs i σ _ hlt p
 .have e:i=n:=by omega
  subst e;exact .inl ⟨m8 _,hd σ H p⟩
abbrev R2:=V->V->Hp->VK->Prop
def OpR (X:Cx) (f:Vl->Vl->Sem Vl) (r:R2):Prop :=
 ∀ (mn:J7) (s:Sh) (σ:St) (H:Hp) (x y:V) (v u:Vl) (Q:VK),Inv X mn σ H s->RelV x v->RelV y u->r x y H Q ->
  wpAny (model X.prog X.w) X.A (f v u) (EP X mn σ Q) X.xe s
def UnR (X:Cx) (f:Vl->Sem Vl) (r:V->Hp->VK->Prop):Prop :=
 ∀ (mn:J7) (s:Sh) (σ:St) (H:Hp) (x:V) (v:Vl) (Q:VK),Inv X mn σ H s->RelV x v->r x H Q ->
  wpAny (model X.prog X.w) X.A (f v) (EP X mn σ Q) X.xe s
def Yp (X:Cx) (f:Vl) (r:Jj->Hp->VK->Prop):Prop :=
 ∀ (mn:J7) (s:Sh) (σ:St) (H:Hp) (xs:Jj) (us:J8) (Q:VK),Inv X mn σ H s->Vals xs us->r xs H Q ->
  wpAny (model X.prog X.w) X.A (call f us) (EP X mn σ Q) X.xe s
def tOp (r:R2) (ta tb:TE):TE:=λσ H Q=>ta σ H λx H1=>tb σ H1 λy H2=>r x y H2 Q
def tUn (r:V->Hp->VK->Prop) (ta:TE):TE:=λσ H Q=>ta σ H λx H1=>r x H1 Q
inductive rI (C:Int->Int->Prop) (g:Int->Int->V) (x y:V) (H:Hp) (Q:VK):Prop
 | mk (i j:_) (_:x=.int i) (_:y=.int j) (_:C i j) (_:Q (g i j) H)
inductive rI0 (g:Int->Int->V) (x y:V) (H:Hp) (Q:VK):Prop
 | mk (i j:_) (_:x=.int i) (_:y=.int j) (_:Q (g i j) H)
inductive rU (g:Int->V) (x:V) (H:Hp) (Q:VK):Prop
 | mk (i:_) (_:x=.int i) (_:Q (g i) H)
section
variable {X:Cx} {a b c:Expr} {ta tb tc:TE} {pos:Pos}
def binT (ha:PE X a ta) (hb:PE X b tb) {mn:J7} {s:Sh} {σ:St} {H:Hp} {R:V->V->Hp->Prop} (I:Inv X mn σ H s)
  (h:ta σ H λx H1=>tb σ H1 λy H2=>R x y H2) {Q:J5} {f:Vl->Vl->Sem Vl}
  (hf:∀ v u s2 x y H2,Inv X mn σ H2 s2->RelV x v->RelV y u->R x y H2->wpAny (model X.prog X.w) X.A (f v u) Q X.xe s2) :
  wpAny (model X.prog X.w) X.A (eval a X.env) (λv s₁=>wpAny (model X.prog X.w) X.A (eval b X.env) (λu s₂=>wpAny (model X.prog X.w) X.A (f v u) Q X.xe s₂) X.xe s₁) X.xe s:=by
 refine thn (ha mn s σ H _ I h) λv s1 ⟨x,H1,I1,r1,q1⟩=>?_;refine thn (hb mn s1 σ H1 _ I1 q1) λu s2 ⟨y,H2,I2,r2,q2⟩=>?_;exact hf v u s2 x y H2 I2 r1 r2 q2
def zn {op:Operator} {r:R2} (ho:OpR X (sw op) r) (ha:PE X a ta) (hb:PE X b tb):PE X (.BinOp a op b pos) (tOp r ta tb):=by
 intro mn s σ H Q I h;exact wpAny_BinOp (binT ha hb I h λv u s2 x y H2 I2 rx ry q=>ho mn s2 σ H2 x y v u Q I2 rx ry q)
def pe_un {op:UnaryOp} {r:V->Hp->VK->Prop} (ho:UnR X (unaryOp op) r) (ha:PE X a ta):PE X (.UnaryOp op a pos) (tUn r ta):=by
 intro mn s σ H Q I h;exact UnaryOp_ (thn (ha mn s σ H _ I h) λv s1 ⟨x,H1,I1,r1,q1⟩=>ho mn s1 σ H1 x v Q I1 r1 q1)
def opI {f:Vl->Vl->Sem Vl} {C:Int->Int->Prop} {g:Int->Int->Int}
  (rule:∀ (i j:Int) (t u:Tok) (s:Sh) (Q:J5) (E:J5),C i j->Q (.int (g i j) s.toks) { s with toks:=s.toks+1 }->wpAny (model X.prog X.w) X.A (f (.int i t) (.int j u)) Q E s) :
  OpR X f (rI C λi j=>.int (g i j)):=by
 intro mn s σ H x y v u Q I rx ry h;obtain ⟨i,j,rfl,rfl,hc,q⟩:=h;obtain ⟨t,rfl⟩:=rx;obtain ⟨t',rfl⟩:=ry;exact rule i j t t' s _ _ hc ⟨.int (g i j),H,I.tok _,⟨_,Y⟩,q⟩
def opI0 {f:Vl->Vl->Sem Vl} {g:Int->Int->Int}
  (rule:∀ (i j:Int) (t u:Tok) (s:Sh) (Q:J5) (E:J5),Q (.int (g i j) s.toks) { s with toks:=s.toks+1 }->wpAny (model X.prog X.w) X.A (f (.int i t) (.int j u)) Q E s) :
  OpR X f (rI0 λi j=>.int (g i j)):=by
 intro mn s σ H x y v u Q I rx ry h;obtain ⟨i,j,rfl,rfl,q⟩:=h;obtain ⟨t,rfl⟩:=rx;obtain ⟨t',rfl⟩:=ry;exact rule i j t t' s _ _ ⟨.int (g i j),H,I.tok _,⟨_,Y⟩,q⟩
def opB0 {f:Vl->Vl->Sem Vl} {g:Int->Int->Bool}
  (rule:∀ (i j:Int) (t u:Tok) (s:Sh) (Q:J5) (E:J5),Q (.bool (g i j)) s->wpAny (model X.prog X.w) X.A (f (.int i t) (.int j u)) Q E s) :
  OpR X f (rI0 λi j=>.bl (g i j)):=by
 intro mn s σ H x y v u Q I rx ry h;obtain ⟨i,j,rfl,rfl,q⟩:=h;obtain ⟨t,rfl⟩:=rx;obtain ⟨t',rfl⟩:=ry;exact rule i j t t' s _ _ ⟨.bl (g i j),H,I,Y,q⟩
def CDiv (i j:Int):Prop:=0<j/\j<1073741824
def CMul (i j:Int):Prop:=(-(2 ^ 64)<i/\i<2 ^ 64)∨(-(2 ^ 64)<j/\j<2 ^ 64)
def CMul.ok {i j:Int} (h:CMul i j):IntMulOk i j:=by
 rcases h with ⟨h1,h2⟩ | ⟨h1,h2⟩
 .exact .of_left (intBits_le_64 h1 h2)
 .exact .of_right (intBits_le_64 h1 h2)
def zQ:OpR X (sw .Add) (rI0 λi j=>.int (i+j)):=opI0 λ_ _ _ _ _ _ _ q=>add_int q
def Z2:OpR X (sw .Sub) (rI0 λi j=>.int (i-j)):=opI0 λ_ _ _ _ _ _ _ q=>sub_int q
def yH:OpR X (sw .Mult) (rI CMul λi j=>.int (i*j)):=opI λ_ _ _ _ _ _ _ hc q=>mul_int q hc.ok
def xD:OpR X (sw .FloorDiv) (rI CDiv λi j=>.int (i / j)):=opI λi j _ _ _ _ _ hc q=>by
 have h1:(0:Int)<j:=hc.1;have h2:j<1073741824:=hc.2;exact floordiv_int (by omega) (by rw [Int.fdiv_eq_ediv_of_nonneg i (by omega)];exact q) (.inl (PyProof.noPylong_small (by omega)))
def yP:OpR X (sw .Mod) (rI (λ_ j=>0<j) λi j=>.int (i % j)):=opI λi j _ _ _ _ _ hc q=>by
 have h1:(0:Int)<j:=hc;exact mod_int' (by omega) (by rw [Int.fmod_eq_emod_of_nonneg i (by omega)];exact q)
def op_modN:OpR X (sw .Mod) (rI (λ_ j=>j≠0) λi j=>.int (i.fmod j)):=opI λ_ _ _ _ _ _ _ hc q=>mod_int' hc q
def op_and:OpR X (sw .BitAnd) (rI0 λi j=>.int (pQ i j)):=opI0 λ_ _ _ _ _ _ _ q=>and_int q
def op_or:OpR X (sw .BitOr) (rI0 λi j=>.int (pX i j)):=opI0 λ_ _ _ _ _ _ _ q=>or_int q
def op_xor:OpR X (sw .BitXor) (rI0 λi j=>.int (pP i j)):=opI0 λ_ _ _ _ _ _ _ q=>xor_int q
def unI {f:Vl->Sem Vl} {g:Int->Int}
  (rule:∀ (i:Int) (t:Tok) (s:Sh) (Q:J5) (E:J5),Q (.int (g i) s.toks) { s with toks:=s.toks+1 }->wpAny (model X.prog X.w) X.A (f (.int i t)) Q E s) :
  UnR X f (rU λi=>.int (g i)):=by
 intro mn s σ H x v Q I rx h;obtain ⟨i,rfl,q⟩:=h;obtain ⟨t,rfl⟩:=rx;exact rule i t s _ _ ⟨.int (g i),H,I.tok _,⟨_,Y⟩,q⟩
def zch:UnR X (unaryOp .USub) (rU λi=>.int (-i)):=unI λ_ _ _ _ _ q=>neg_int q
end
def scal:V->V->Bool
 | .non,.non=>true | .non,.int _=>true | .int _,.non=>true | .non,.bl _=>true | .bl _,.non=>true | .non,.str _=>true | .str _,.non=>true
 | .int _,.int _=>true | .bl _,.bl _=>true | .str _,.str _=>true | .byt _,.byt _=>true
 | .int _,.str _=>true | .str _,.int _=>true | .bl _,.str _=>true | .str _,.bl _=>true
 | _,_=>false
def rEq:R2:=λx y H Q=>scal x y=true/\Q (.bl (decide (x=y))) H
def rNe:R2:=λx y H Q=>scal x y=true/\Q (.bl (!decide (x=y))) H
def zdf {i j:Int}:decide (V.int i=V.int j)=(i == j):=by
 rw [tw];simp
def dec_bl {i j:Bool}:decide (V.bl i=V.bl j)=(i == j):=by
 rw [tw];simp
def dec_str {i j:Str}:decide (V.str i=V.str j)=(i == j):=by
 rw [tw];simp
def dec_byt {i j:Array UInt8}:decide (V.byt i=V.byt j)=(i.toList == j.toList):=by
 rw [tw];cases i;cases j;simp
section
variable {X:Cx} {a b c:Expr} {ta tb tc:TE} {pos:Pos}
def zY {mn:J7} {σ:St} {H:Hp} {s:Sh} {Q:VK} {k k':Bool} (I:Inv X mn σ H s) (q:Q (.bl k) H) (e:k=k'):EP X mn σ Q (.bool k') s:=by
 subst e;exact ⟨.bl k,H,I,Y,q⟩
def Zc:OpR X (pi .Eq) rEq:=by
 intro mn s σ H x y v u Q I rx ry h;obtain ⟨hs,q⟩:=h
 cases x with
 | non =>
  cases rx
  cases y with
  | non=>cases ry;exact PySem.EqNone.eq_none_none (zY I q (by simp))
  | bl j=>cases ry;exact PySem.EqNone.eq_none_bool (zY I q (by simp))
  | int j=>obtain ⟨t',rfl⟩:=ry;exact PySem.EqNone.eq_none_int (zY I q (by simp))
  | str j=>obtain ⟨t',rfl⟩:=ry;exact PySem.EqNone.eq_none_str (zY I q (by simp))
  | _=>exact absurd (show false=true from hs) q7x
 | bl i =>
  cases rx
  cases y with
  | non=>cases ry;exact PySem.EqNone.eq_bool_none (zY I q (by simp))
  | bl j=>cases ry;exact eq_bool (zY I q dec_bl)
  | str j=>obtain ⟨t',rfl⟩:=ry;exact PySem.EqMixed.eq_bool_str (zY I q (by simp))
  | _=>exact absurd (show false=true from hs) q7x
 | int i =>
  obtain ⟨t,rfl⟩:=rx
  cases y with
  | non=>cases ry;exact PySem.EqNone.eq_int_none (zY I q (by simp))
  | int j=>obtain ⟨t',rfl⟩:=ry;exact eq_int (zY I q zdf)
  | str j=>obtain ⟨t',rfl⟩:=ry;exact PySem.EqMixed.eq_int_str (zY I q (by simp))
  | _=>exact absurd (show false=true from hs) q7x
 | str i =>
  obtain ⟨t,rfl⟩:=rx
  cases y with
  | non=>cases ry;exact PySem.EqNone.eq_str_none (zY I q (by simp))
  | bl j=>cases ry;exact PySem.EqMixed.eq_str_bool (zY I q (by simp))
  | int j=>obtain ⟨t',rfl⟩:=ry;exact PySem.EqMixed.eq_str_int (zY I q (by simp))
  | str j=>obtain ⟨t',rfl⟩:=ry;exact eq_str (zY I q dec_str)
  | _=>exact absurd (show false=true from hs) q7x
 | byt i =>
  obtain ⟨t,rfl⟩:=rx
  cases y with
  | byt j=>obtain ⟨t',rfl⟩:=ry;exact PySem.W.eq_bytes (zY I q dec_byt)
  | _=>exact absurd (show false=true from hs) q7x
 | _=>cases y <;> exact absurd (show false=true from hs) q7x
def op_ne:OpR X (pi .NotEq) rNe:=by
 intro mn s σ H x y v u Q I rx ry h;obtain ⟨hs,q⟩:=h
 cases x with
 | non =>
  cases rx
  cases y with
  | non=>cases ry;exact PySem.EqNone.ne_none_none (zY I q (by simp))
  | bl j=>cases ry;exact PySem.EqNone.ne_none_bool (zY I q (by simp))
  | int j=>obtain ⟨t',rfl⟩:=ry;exact PySem.EqNone.ne_none_int (zY I q (by simp))
  | str j=>obtain ⟨t',rfl⟩:=ry;exact PySem.EqNone.ne_none_str (zY I q (by simp))
  | _=>exact absurd (show false=true from hs) q7x
 | bl i =>
  cases rx
  cases y with
  | non=>cases ry;exact PySem.EqNone.ne_bool_none (zY I q (by simp))
  | bl j=>cases ry;exact ne_bool (zY I q (congrArg not dec_bl))
  | str j=>obtain ⟨t',rfl⟩:=ry;exact PySem.EqMixed.ne_bool_str (zY I q (by simp))
  | _=>exact absurd (show false=true from hs) q7x
 | int i =>
  obtain ⟨t,rfl⟩:=rx
  cases y with
  | non=>cases ry;exact PySem.EqNone.ne_int_none (zY I q (by simp))
  | int j=>obtain ⟨t',rfl⟩:=ry;exact ne_int (zY I q (congrArg not zdf))
  | str j=>obtain ⟨t',rfl⟩:=ry;exact PySem.EqMixed.ne_int_str (zY I q (by simp))
  | _=>exact absurd (show false=true from hs) q7x
 | str i =>
  obtain ⟨t,rfl⟩:=rx
  cases y with
  | non=>cases ry;exact PySem.EqNone.ne_str_none (zY I q (by simp))
  | bl j=>cases ry;exact PySem.EqMixed.ne_str_bool (zY I q (by simp))
  | int j=>obtain ⟨t',rfl⟩:=ry;exact PySem.EqMixed.ne_str_int (zY I q (by simp))
  | str j=>obtain ⟨t',rfl⟩:=ry;exact ne_str (zY I q (congrArg not dec_str))
  | _=>exact absurd (show false=true from hs) q7x
 | byt i =>
  obtain ⟨t,rfl⟩:=rx
  cases y with
  | byt j=>obtain ⟨t',rfl⟩:=ry;exact PySem.W.ne_bytes (zY I q (congrArg not dec_byt))
  | _=>exact absurd (show false=true from hs) q7x
 | _=>cases y <;> exact absurd (show false=true from hs) q7x
def zbw:OpR X (pi .Lt) (rI0 λi j=>.bl (decide (i<j))):=opB0 λ_ _ _ _ _ _ _ q=>lt_int q
def op_le:OpR X (pi .LtE) (rI0 λi j=>.bl (decide (i<=j))):=opB0 λ_ _ _ _ _ _ _ q=>le_int q
def op_gt:OpR X (pi .Gt) (rI0 λi j=>.bl (decide (j<i))):=opB0 λ_ _ _ _ _ _ _ q=>gt_int q
def zaw:OpR X (pi .Is) (λx y H Q=>y=.non/\Q (.bl (decide (x=.non))) H):=by
 intro mn s σ H x y v u Q I rx ry h;obtain ⟨rfl,q⟩:=h;cases ry;refine is_none_gen (zY I q ?_);cases x <;> first
  | (cases rx;rfl)
  | (obtain ⟨t,rfl⟩:=rx;rfl)
def op_notN:OpR X (pi .IsNot) (λx y H Q=>y=.non/\Q (.bl (!decide (x=.non))) H):=by
 intro mn s σ H x y v u Q I rx ry h;obtain ⟨rfl,q⟩:=h;cases ry;refine isnot_none_gen (zY I q ?_);cases x <;> first
  | (cases rx;rfl)
  | (obtain ⟨t,rfl⟩:=rx;rfl)
def zM (b:Expr) {op:CmpOp} (h:op≠.In:=by decide) (h2:op≠.NotIn:=by decide):behindInMarks op b=false:=by
 have e1:(op == CmpOp.In)=false:=by cases op <;> first | rfl | exact absurd rfl h
 have e2:(op == CmpOp.NotIn)=false:=by cases op <;> first | rfl | exact absurd rfl h2
 cases b <;> simp [behindInMarks,e1,e2]
def xS {op:CmpOp} {r:R2} (ho:OpR X (pi op) r) (ha:PE X a ta) (hb:PE X b tb) (hm:behindInMarks op b=false):PE X (.Compare a [op] [b] pos) (tOp r ta tb):=by
 intro mn s σ H Q I h;exact wpAny_Compare1 (binT ha hb I h λv u s2 x y H2 I2 rx ry q=>ho mn s2 σ H2 x y v u Q I2 rx ry q) hm
inductive tTest_S (Q:(Bool->Hp->Prop)) (x:V) (H':Hp):Prop
 | mk (k:_) (_:x=.bl k) (_:Q k H')
def tTest (t:TE):TT:=λσ H Q=>t σ H λx H'=>tTest_S Q x H'
def zJ {op:CmpOp} {r:R2} (ho:OpR X (pi op) r) (ha:PE X a ta) (hb:PE X b tb) (hm:behindInMarks op b=false):PT X (.Compare a [op] [b] pos) (tTest (tOp r ta tb)):=by
 intro mn s σ H Q I h
 refine wpAny_isTrue_Compare1 (thn (ha mn s σ H _ I h) λv s1 ⟨x,H1,I1,r1,q1⟩=>thn (hb mn s1 σ H1 _ I1 q1) λu s2 ⟨y,H2,I2,r2,q2⟩ =>
  thn (ho mn s2 σ H2 x y v u _ I2 r1 r2 q2) λc s3 ⟨z,H3,I3,r3,k,e,q3⟩=>?_) hm
 subst e;cases r3;exact oZ ⟨H3,I3,q3⟩
def tChain (r r':R2) (ta tb tc:TE):TE:=λσ H Q=>ta σ H λx H1=>tb σ H1 λy H2=>r x y H2 λz H3=>∃ k,z=.bl k /\
 (if k=true then tc σ H3 λw' H4=>r' y w' H4 Q else Q (.bl false) H3)
def pt_chain {op op':CmpOp} {r r':R2} (ho:OpR X (pi op) r) (ho':OpR X (pi op') r') (ha:PE X a ta) (hb:PE X b tb) (hc:PE X c tc)
  (hm:lastMarks [op,op'] [b,c]=false:=by with_unfolding_all rfl):PT X (.Compare a [op,op'] [b,c] pos) (tTest (tChain r r' ta tb tc)):=by
 intro mn s σ H Q I h
 refine isTrue_chain (thn (ha mn s σ H _ I h) λv s1 ⟨x,H1,I1,r1,q1⟩=>test_link (thn (hb mn s1 σ H1 _ I1 q1) λu s2 ⟨y,H2,I2,r2,q2⟩ =>
  thn (ho mn s2 σ H2 x y v u _ I2 r1 r2 q2) λd s3 ⟨z,H3,I3,r3,k,e,q3⟩=>?_)) hm
 subst e;cases r3;refine oZ ?_
 cases k with
 | false =>
  obtain ⟨k',e',q'⟩:=q3;cases e';exact ite_ff ⟨H3,I3,q'⟩
 | true =>
  refine ite_tt (test_last (thn (hc mn s3 σ H3 _ I3 q3) λw' s4 ⟨z',H4,I4,r4,q4⟩=>thn (ho' mn s4 σ H4 y z' u w' _ I4 r2 r4 q4) λd' s5 ⟨z2,H5,I5,r5,k2,e2,q5⟩=>?_));subst e2;cases r5;exact oZ ⟨H5,I5,q5⟩
def zda:(sizeLine:Nat)<2 ^ 63:=by rw [sizeLine_eq];decide
def vals1 {x:V} {us:J8} (r:Vals [x] us):∃ u,us=[u]/\RelV x u:=by
 cases r with
 | cons r1 r2=>cases r2;exact ⟨_,Y,r1⟩
def vals2 {x y:V} {us:J8} (r:Vals [x,y] us):∃ u w',us=[u,w']/\RelV x u/\RelV y w':=by
 cases r with
 | cons r1 r2 =>
  cases r2 with
  | cons r3 r4=>cases r4;exact ⟨_,_,Y,r1,r3⟩
def YJ (hc:X.calm=true):Yp X (.builtin "max") (λxs H Q=>∃ i j,xs=[.int i,.int j]/\Q (.int (if j > i then j else i)) H):=by
 intro mn s σ H xs us Q I r h;obtain ⟨i,j,rfl,q⟩:=h;obtain ⟨u,w',rfl,⟨t,rfl⟩,⟨t',rfl⟩⟩:=vals2 r;refine max_two_ints (I.ok.hd hc) λh' tk k=>⟨_,H,I.kept k,?_,q⟩;by_cases hj:j > i
 .rw [if_pos hj,if_pos hj];exact ⟨_,Y⟩
 .rw [if_neg hj,if_neg hj];exact ⟨_,Y⟩
def zcb (hc:X.calm=true):Yp X (.builtin "min") (λxs H Q=>∃ i j,xs=[.int i,.int j]/\Q (.int (if j<i then j else i)) H):=by
 intro mn s σ H xs us Q I r h;obtain ⟨i,j,rfl,q⟩:=h;obtain ⟨u,w',rfl,⟨t,rfl⟩,⟨t',rfl⟩⟩:=vals2 r;refine min_two_ints (I.ok.hd hc) λh' tk k=>⟨_,H,I.kept k,?_,q⟩;by_cases hj:j<i
 .rw [if_pos hj,if_pos hj];exact ⟨_,Y⟩
 .rw [if_neg hj,if_neg hj];exact ⟨_,Y⟩
end
structure ObjM (h:Heap) (x dx C:Ad) (mA:J0):Prop where
 obj:h.get? x=Z (pH C dx)
 ns:h.Ns1 dx mA
 ne:dx≠x
def lookIn_ns {h:Heap} {dx:Ad} {mA:J0} (n:h.Ns1 dx mA):∃ od,h.get? dx=Z od/\∀ name,PySem.W.lookIn name od=Z (mA name):=by
 obtain ⟨o,es,ep,ho,hd,hk,_,hm⟩:=n;refine ⟨o,ho,λname=>?_⟩;have e:=hm name;unfold nsFind findBy at e;rw [← Array.find?_toList] at e;unfold PySem.W.lookIn;rw [hd];dsimp only
 split
 .rename_i y q
  rw [q] at e;exact congrArg Z e
 .rename_i q
  rw [q] at e
  have a:es.toList.any (·.refKey)=false:=by
   rw [List.any_eq_false];intro y hy;obtain ⟨z,t,hkey⟩:=hk y (Array.mem_toList_iff.mp hy);simp [DictEntry.refKey,hkey]
  have a':¬ es.toList.any (·.refKey)=true:=by rw [a];exact q7x
  rw [if_neg a'];exact congrArg Z e
def ObjM.look {h:Heap} {x dx C:Ad} {mA:J0} (I:ObjM h x dx C mA):∃ od,PySem.W.InstAt h x (pH C dx) C (Z od)/\∀ name,PySem.W.lookIn name od=Z (mA name) :=
 let ⟨od,ho,hl⟩:=lookIn_ns I.ns
 ⟨od,⟨I.obj,Y,Y,ho⟩,hl⟩
section
variable {prog:nQ} {w:World} {A:Around} {E:J5} {s:Sh} {K:Fg} {x dx C f:Ad} {mA:J0} {name:Str} {v:Vl}
def get_map {expr:Bool} {Q:J5} (X:K.In s.heap) (I:ObjM s.heap x dx C mA) (hg:sI K C name=true) (hh:si K C=true)
  (ha:ng K (.ref C) name=Z O) (hv:mA name=Z v) (hv':PySem.W.handedIn v=true) (h:Q v { s with toks:=s.toks+1 }) :
  wpAny (model prog w) A (getAttr (.ref x) name expr) Q E s:=by
 obtain ⟨od,J,hl⟩:=I.look;exact PySem.W.get_value X J (PySem.W.plainGet_of hg).1 (PySem.W.findObj_own hh ha rfl (by rw [hl,hv])) hv' h
def get_meth {pl:Sem Bool} {Q:Vl×J8->Sh->Prop} (X:K.In s.heap) (I:ObjM s.heap x dx C mA) (hg:sI K C name=true)
  (hf:ng K (.ref C) name=Z (Z (.ref f))) (ht:tD K (.ref f)=true) (hv:mA name=O) (h:Q (.ref f,[.ref x]) s) :
  wpAny (model prog w) A (getMethod (.ref x) name pl) Q E s:=by
 obtain ⟨od,J,hl⟩:=I.look;exact PySem.W.method_fn X J (PySem.W.plainGet_of hg).1 (PySem.W.plainGet_of hg).2 hf (beq_iff_eq.mp ht) (by show (PySem.W.lookIn name od).map (·.isSome)=Z false;rw [hl,hv];rfl) h
def set_map {ns:Jb} {Q:Unit->Sh->Prop} (X:K.In s.heap) (I:ObjM s.heap x dx C mA)
  (hs:ng K (.ref C) "__setattr__"=Z (Z (.builtin "object.__setattr__"))) (hp:PySem.W.plainOver K C=true) (ht:PySem.W.takerIn K C name=Z O) (hh:si K C=true)
  (hw:PySem.Within mA ns) (hsz:ns.length<=mI)
  (h:∀ h',ObjM h' x dx C (λy=>if y=name then Z v else mA y)->pL dx s.heap h'->Q () { s with heap:=h',toks:=s.toks+2 }) :
  wpAny (model prog w) A (setAttr (.ref x) name v) Q E s:=by
 obtain ⟨od,J,hl⟩:=I.look;refine PySem.W.set_plain X J hs (PySem.W.osa_open (s:={ s with toks:=s.toks+1 }) (r:=O) X J hp ht λb=>?_);obtain ⟨cd,hc,hd'⟩:=PySem.W.any_some hh;have hx:s.heap.get? x=Z ⟨.ref C,Z dx,.plain,#[]⟩:=I.obj;refine q0x (q0y (q0x (q0x (wpAny_loadPart hx (q0x (PySem.W.Looks.here (s:={ s with toks:=s.toks+1 }) (PySem.W.looks_clsIn X hc) ?_))))));rw [hd'];refine q0y (a:=Z dx) (q0x (q0y (q0x ?_)));refine wpAny_nsSet1 (s:={ s with toks:=s.toks+1 }) I.ns λh' hn2 hs2=>?_;obtain ⟨oD,esD,epD,hoD,hdD,hcD⟩:=hn2.count (PySem.Within.cons name v hw);refine q0x (wpAny_lookBehind hoD (by rw [hdD];exact pastItsLine_dict (mL hcD (by rw [q8x];omega))) ?_);exact q0y (h _ ⟨(hs2.2 _ (oQ I.ne)).trans I.obj,hn2,I.ne⟩ hs2)
def make_map {R:Result->Sh->Prop} {vs:J8} {kw:List (Str×Vl)} (X:K.In s.heap) (hm:oj K C=true)
  (hi:ng K (.ref C) "__init__"=Z (Z (.ref f))) (hf:PySem.W.typeIn K (.ref f)=Z (.type "function"))
  (h:tP (model prog w) (A.under (.builtin "type.__call__" ⟨.ref C::vs,kw⟩)) (.call (.ref f) ⟨.ref (s.heap.objs.size+1)::vs,kw⟩) (PySem.W.InitBack (s.heap.objs.size+1) R)
   { s with heap:=(s.heap.push oW).push (pH C s.heap.objs.size) }) :
  tP (model prog w) A (.call (.ref C) ⟨vs,kw⟩) R s:=by
 obtain ⟨hh,g,d,t,os⟩:=s;exact PySem.W.make_core (PySem.W.makes_of X hm) (PySem.W.looks_findIn X hi) (λself=>PySem.W.bind_fn X self hf) (.inl rfl) h
end
def zW (f:Str) (v:V):List (Str×V)->List (Str×V)
 | []=>[(f,v)]
 | (g,x)::r=>if g=f then (g,v)::r else (g,x)::zW f v r
theorem XN (f g:Str) (v:V):∀ fs:List (Str×V),(zW f v fs).lookup g=if g=f then Z v else fs.lookup g
 | []=>by
  show sW g [(f,v)]=_;by_cases h:g=f
  .have hb:(g == f)=true:=beq_iff_eq.mpr h
   simp only [sW,hb,if_pos h]
  .have hb:(g == f)=false:=beq_eq_false_iff_ne.mpr h
   simp only [sW,hb,if_neg h]
 | (k,x)::r=>by
  have ih:=XN f g v r;rw [show zW f v ((k,x)::r)=(if k=f then (k,v)::r else (k,x)::zW f v r) from rfl];by_cases hk:k=f
  .rw [if_pos hk]
   by_cases h:g=k
   .have hb:(g == k)=true:=beq_iff_eq.mpr h
    simp only [sW,hb,if_pos (h.trans hk)]
   .have hb:(g == k)=false:=beq_eq_false_iff_ne.mpr h
    simp only [sW,hb,if_neg (λe:g=f=>h (e.trans hk.symm))]
  .rw [if_neg hk]
   by_cases h:g=k
   .have hb:(g == k)=true:=beq_iff_eq.mpr h
    simp only [sW,hb,if_neg (λe:g=f=>hk (h.symm.trans e))]
   .have hb:(g == k)=false:=beq_eq_false_iff_ne.mpr h
    simp only [sW,hb];exact ih
theorem XF (f:Str) (v:V):∀ fs:List (Str×V),f∈(zW f v fs).map (·.1)/\∀ g,g∈fs.map (·.1)->g∈(zW f v fs).map (·.1)
 | []=>⟨by simp [zW],λg h=>by simp at h⟩
 | (k,x)::r=>by
  obtain ⟨i1,i2⟩:=XF f v r;rw [show zW f v ((k,x)::r)=(if k=f then (k,v)::r else (k,x)::zW f v r) from rfl];by_cases hk:k=f
  .rw [if_pos hk]
   subst hk;exact ⟨by simp,λg h=>by simpa using h⟩
  .rw [if_neg hk]
   refine ⟨?_,λg h=>?_⟩
   .rw [o5]
    exact q6y _ i1
   .rw [o5] at h ⊢
    rcases mM.mp h with e | e
    .exact mM.mpr (.inl e)
    .exact q6y _ (i2 g e)
theorem XO (f:Str) (v:V):∀ fs:List (Str×V),(zW f v fs).length<=fs.length+1
 | []=>by simp [zW]
 | (k,x)::r=>by
  have ih:=XO f v r;rw [show zW f v ((k,x)::r)=(if k=f then (k,v)::r else (k,x)::zW f v r) from rfl];by_cases hk:k=f
  .rw [if_pos hk,q8x,q8x];omega
  .rw [if_neg hk,q8x,q8x];omega
def RelO.some_of {v:V} {o:Ja} (r:RelO (Z v) o):∃ u,o=Z u/\RelV v u:=by
 cases o with
 | none=>exact (show False from r).elim
 | some u=>exact ⟨u,Y,r⟩
def RelO.none_of {o:Ja} (r:RelO O o):o=O:=by
 cases o with
 | none=>rfl
 | some u=>exact (show False from r).elim
def handed_of {v:V} {u:Vl} (r:RelV v u):PySem.W.handedIn u=true:=by
 cases v with
 | non=>cases (show u=rX from r);rfl
 | bl b=>cases (show u=Value.bool b from r);rfl
 | int i=>obtain ⟨t,e⟩:=(show ∃ t,u=sQ i t from r);cases e;rfl
 | str x=>obtain ⟨t,e⟩:=(show ∃ t,u=Value.str x t from r);cases e;rfl
 | byt b=>obtain ⟨t,e⟩:=(show ∃ t,u=Value.bytes b t from r);cases e;rfl
 | flt b=>obtain ⟨t,e⟩:=(show ∃ t,u=Value.float b t from r);cases e;rfl
 | ref a=>cases (show u=mK a from r);rfl
 | ty n=>cases (show u=Value.type n from r);rfl
section
variable {P:nQ} {w:World} {H H':Hp} {h h':Heap} {a C dx:Ad} {fs fs':List (Str×V)}
def X5 (hok:HOk P w H h) (e:H a=Z (.ins C dx fs)):∃ mA,ObjM h a dx C mA/\(∀ f,RelO (fs.lookup f) (mA f))/\PySem.Within mA (fs.map (·.1))/\fs.length<=1000/\H dx=Z (.own a):=by
 obtain ⟨d,z,ne,ob,mA,n,r,q⟩:=(show ObjOk P w H h a (.ins C dx fs) from hok a _ e);exact ⟨mA,⟨ob,n,ne⟩,r,q,z,d⟩
end
structure Cls (K:Fg) (C:Ad):Prop where
 pg:sI K C Str.empty=true
 hd:si K C=true
 po:PySem.W.plainOver K C=true
 sa:ng K (.ref C) "__setattr__"=Z (Z (.builtin "object.__setattr__"))
def Cls.get {K:Fg} {C:Ad} (c:Cls K C) (f:Str):sI K C f=true:=c.pg
def NoAttr (K:Fg) (C:Ad) (f:Str):Prop:=ng K (.ref C) f=Z O
def NoAttr.taker {K:Fg} {C:Ad} {f:Str} (n:NoAttr K C f):PySem.W.takerIn K C f=Z O:=by
 unfold PySem.W.takerIn;rw [show ng K (.ref C) f=Z O from n];rfl
structure Meth (K:Fg) (C:Ad) (m:Str) (f:Ad):Prop where
 at_:ng K (.ref C) m=Z (Z (.ref f))
 fn:tD K (.ref f)=true
 kp:mR K (.ref f)=true
section
variable {X:Cx} {mn:J7} {σ:St} {H:Hp} {s:Sh} {a C dx:Ad} {fs:List (Str×V)} {f:Str} {v:V} {A:Around} {E:J5}
def zfs {b:Bool} {Q:J5} (I:Inv X mn σ H s) (e:H a=Z (.ins C dx fs)) (c:Cls X.K C) (n:NoAttr X.K C f) (l:fs.lookup f=Z v)
  (h:∀ u s',Inv X mn σ H s'->RelV v u->Q u s'):wpAny (model X.prog X.w) A (getAttr (.ref a) f b) Q E s:=by
 obtain ⟨mA,O0_,r,_,_,_⟩:=X5 I.hok e;obtain ⟨u,hu,ru⟩:=RelO.some_of (v:=v) (o:=mA f) (by rw [← l];exact r f);exact get_map I.kIn O0_ (c.get f) c.hd n hu (handed_of ru) (h u _ (I.tok _) ru)
def za5 {m:Str} {g:Ad} {pl:Sem Bool} {Q:Vl×J8->Sh->Prop} (I:Inv X mn σ H s) (e:H a=Z (.ins C dx fs)) (c:Cls X.K C) (k:Meth X.K C m g) (l:fs.lookup m=O)
  (h:Q (.ref g,[.ref a]) s):wpAny (model X.prog X.w) A (getMethod (.ref a) m pl) Q E s:=by
 obtain ⟨mA,O0_,r,_,_,_⟩:=X5 I.hok e;have hn:mA m=O:=RelO.none_of (by rw [← l];exact r m);exact get_meth I.kIn O0_ (c.get m) k.at_ k.fn hn h
def ze7 {y:V} {u:Vl} {Q:Unit->Sh->Prop} (I:Inv X mn σ H s) (e:H a=Z (.ins C dx fs)) (c:Cls X.K C) (n:NoAttr X.K C f) (hl:fs.length<1000) (ry:RelV y u)
  (h:∀ s',Inv X mn σ (upd H a (.ins C dx (zW f y fs))) s'->Q () s'):wpAny (model X.prog X.w) A (setAttr (.ref a) f u) Q E s:=by
 obtain ⟨mA,O0_,r,wi,_,ho⟩:=X5 I.hok e;have hz:(fs.map (·.1)).length<=sizeLine:=by rw [Je,sizeLine_eq];omega
 refine set_map I.kIn O0_ c.sa c.po n.taker c.hd wi hz λh' O' sb=>h _ ?_;have hd:∃ o,h'.get? dx=Z o:=let ⟨o,_,_,e',_⟩:=O'.ns;⟨o,e'⟩;refine I.write (x:=a) (e:=dx) (by rw [e];exact rj) (.inr ho) (λb q hb z=>(sb.2 b hb).trans z) hd ?_;refine ⟨by rw [zj O0_.ne];exact ho,?_,O0_.ne,O'.obj,_,O'.ns,λg=>?_,λg hg=>?_⟩
 .have:=XO f y fs;omega
 .show RelO ((zW f y fs).lookup g) (if g=f then Z u else mA g)
  rw [XN];by_cases q:g=f
  .rw [if_pos q,if_pos q];exact ry
  .rw [if_neg q,if_neg q];exact r g
 .by_cases q:g=f
  .rw [q];exact (XF f y fs).1
  .refine (XF f y fs).2 g (wi g λz=>hg ?_)
   show (if g=f then Z u else mA g)=O;rw [if_neg q];exact z
def Inv.made (I:Inv X mn σ H s):Inv X mn σ (upd (upd H s.heap.objs.size (.own (s.heap.objs.size+1))) (s.heap.objs.size+1) (.ins C s.heap.objs.size []))
  { s with heap:=(s.heap.push oW).push (pH C s.heap.objs.size) }:=by
 have e1:(s.heap.push oW).get? s.heap.objs.size=Z oW:=mX s.heap rfl
 have e2:((s.heap.push oW).push (pH C s.heap.objs.size)).get? (s.heap.objs.size+1)=Z (pH C s.heap.objs.size):=by
  have:=mX (s.heap.push oW) (o:=pH C s.heap.objs.size) rfl
  rwa [rh] at this
 have e3:(s.heap.push oW).Ns s.heap.objs.size (λ_=>O):=⟨oW,#[],_,e1,Y,(λe he=>absurd he (by simp)),λ_=>rfl⟩;have I1:=I.laid (a:=s.heap.objs.size) (o:=.own (s.heap.objs.size+1)) (h':=s.heap.push oW) (t':=s.toks) (λb u q=>mD _ q) (m8 _) ⟨_,e1⟩;refine I1.laid (a:=s.heap.objs.size+1) (o:=.ins C s.heap.objs.size []) (t':=s.toks) (λb u q=>mD _ q) (Nat.le_of_eq (rh _ _)) ?_;have ne:s.heap.objs.size≠s.heap.objs.size+1:=nh (Nat.lt_succ_self _);refine ⟨by rw [zj ne,zh],nK _,ne,e2,λ_=>O,(Heap.Ns1.of_empty e3).at λo q=>mD _ q,λ_=>rj,λy hy=>absurd rfl hy⟩
def attr_of {prog:nQ} {w:World} {env:Env} {e:Expr} {f:Str} {pos:Pos} {s:Sh} {Q:J5} (hb:tJ e f env (eval e env)=eval e env)
  (h:wpAny (model prog w) A (eval e env) (λo s₁=>wpAny (model prog w) A (getAttr o f true) Q E s₁) E s):wpAny (model prog w) A (eval (.Attribute e f pos) env) Q E s :=
 Attribute_any_ h (by rw [arm_eval_Attribute,hb])
end
inductive tFld_S (K:Fg) (f:Str) (Q:VK) (x:V) (H1:Hp):Prop
 | mk (a C:_) (dx fs v:_) (_:x=.ref a) (_:H1 a=Z (.ins C dx fs)) (_:Cls K C) (_:NoAttr K C f) (_:fs.lookup f=Z v) (_:Q v H1)
def tFld (K:Fg) (ta:TE) (f:Str):TE:=λσ H Q=>ta σ H λx H1=>tFld_S K f Q x H1
inductive sFld_S (K:Fg) (f:Str) (D:Ends) (σ:St) (y x:V) (H2:Hp):Prop
 | mk (a C:_) (dx fs:_) (_:x=.ref a) (_:H2 a=Z (.ins C dx fs)) (_:Cls K C) (_:NoAttr K C f) (_:fs.length<1000) (_:D.nx σ (upd H2 a (.ins C dx (zW f y fs))))
def sFld (K:Fg) (ta tv:TE) (f:Str):TS:=λD σ H=>tv σ H λy H1=>ta σ H1 λx H2=>sFld_S K f D σ y x H2
section
variable {X:Cx} {o e value:Expr} {f:Str} {pos pos' tpos:Pos} {ta tv:TE}
def zi (he:PE X e ta) (hb:tJ e f X.env (eval e X.env)=eval e X.env):PE X (.Attribute e f pos) (tFld X.K ta f):=by
 intro mn s σ H Q I h;refine attr_of hb (thn (he mn s σ H _ I h) λu s1 ⟨x,H1,I1,rx,a,C,dx,fs,v,ex,ea,c,n,l,q⟩=>?_);subst ex;obtain rfl:u=mK a:=rx;exact zfs I1 ea c n l λu' s2 I2 ru=>⟨v,H1,I2,ru,q⟩
def zt (ha:PE X o ta) (hv:PE X value tv) (hs:swapsWith value (Z (.Attribute o f pos')) pos.line X.env=pure false):PS X (.Assign [.Attribute o f pos'] value pos) (sFld X.K ta tv f):=by
 intro mn s σ H D I h;refine plainObj_wpAny_Assign_Attribute (thn (hv mn s σ H _ I h) λu s1 ⟨y,H1,I1,ry,q⟩=>thn (ha mn s1 σ H1 _ I1 q) λov s2 ⟨x,H2,I2,rx,a,C,dx,fs,ex,ea,c,n,l,q2⟩=>?_) hs;subst ex;obtain rfl:ov=mK a:=rx;exact ze7 I2 ea c n l ry λs3 I3=>⟨σ,_,I3,q2⟩
end
section
variable {X:Cx} {mn:J7} {σ:St} {H:Hp} {s:Sh} {A:Around} {E:J5} {Q:J5} {c:Vl} {b:Bool}
inductive TyOf (K:Fg) (H:Hp):V->Vl->Prop where
 | non:TyOf K H .non (.type "NoneType")
 | bl (x:Bool):TyOf K H (.bl x) (.type "bool")
 | int (i:Int):TyOf K H (.int i) (.type "int")
 | str (x:Str):TyOf K H (.str x) (.type "str")
 | flt (x:UInt64):TyOf K H (.flt x) (.type "float")
 | lst {a:Ad} {xs:Jj} (e:H a=Z (.lst xs)):TyOf K H (.ref a) (.type "list")
 | frz {a:Ad} {o:Obj} {xs:Jj} (e:H a=Z (.frz o (.lst xs))):TyOf K H (.ref a) (.type "list")
 | tup {a:Ad} {xs:Jj} (e:H a=Z (.tup xs)):TyOf K H (.ref a) (.type "tuple")
 | dK {a:Ad} {mo:Jh} (e:H a=Z (.dK mo)):TyOf K H (.ref a) (.type "dict")
 | dT {a:Ad} {mo:List (List Key×V)} (e:H a=Z (.dT mo)):TyOf K H (.ref a) (.type "dict")
 | ins {a C dx:Ad} {fs:List (Str×V)} (e:H a=Z (.ins C dx fs)) (cl:Cls K C) (ha:ng K (.ref C) "__class__"=Z (Z (.builtin "object.__class__")))
   (hn:pe K (.builtin "object.__class__") "__get__"=Z (Z (.builtin "getset_descriptor.__get__"))) (htk:pG K (.builtin "object.__class__")=Z true)
   (hm:rp K C (.type "object")=Z true):TyOf K H (.ref a) (.ref C)
def isinst_ok {x:V} {u t:Vl} (I:Inv X mn σ H s) (rx:RelV x u) (ty:TyOf X.K H x t) (e:mE X.K t c=Z b) (h:∀ tk,Q (.bool b) { s with toks:=tk }) :
  wpAny (model X.prog X.w) A (call (.builtin "isinstance") [u,c]) Q E s:=by
 cases ty with
 | non=>cases (show u=rX from rx);exact oJ PySem.W.kitx_none I.kIn rj e (λz=>nomatch z) h
 | bl y=>cases (show u=Value.bool y from rx);exact oJ PySem.W.kitx_bool I.kIn rj e (λz=>nomatch z) h
 | int i=>obtain ⟨t,q⟩:=(show ∃ t,u=sQ i t from rx);cases q;exact oJ PySem.W.kitx_int I.kIn rj e (λz=>nomatch z) h
 | str y=>obtain ⟨t,q⟩:=(show ∃ t,u=Value.str y t from rx);cases q;exact oJ PySem.W.kitx_str I.kIn rj e (λz=>nomatch z) h
 | flt y=>obtain ⟨t,q⟩:=(show ∃ t,u=Value.float y t from rx);cases q;exact oJ PySem.W.kitx_float I.kIn rj e (λz=>nomatch z) h
 | @lst a xs ea =>
  cases (show u=mK a from rx);obtain ⟨_,_,n,_,h1⟩:=(show ObjOk X.prog X.w H s.heap a (.lst xs) from I.hok a _ ea);exact oJ PySem.W.kitx_list I.kIn ⟨_,h1,Y⟩ e (λz=>nomatch z) h
 | @frz a ob xs ea =>
  cases (show u=mK a from rx);obtain ⟨_,_,_,n,_,h1⟩:=(show ObjOk X.prog X.w H s.heap a (.frz ob (.lst xs)) from I.hok a _ ea);exact oJ PySem.W.kitx_list I.kIn ⟨_,h1,Y⟩ e (λz=>nomatch z) h
 | @tup a xs ea =>
  cases (show u=mK a from rx);obtain ⟨_,_,_,p⟩:=(show ObjOk X.prog X.w H s.heap a (.tup xs) from I.hok a _ ea);obtain ⟨o,h1,h2,_⟩:=p;exact oJ PySem.W.kitx_tuple I.kIn ⟨o,h1,h2⟩ e (λz=>nomatch z) h
 | @dK a mo ea =>
  cases (show u=mK a from rx);obtain ⟨_,_,vs,_,p⟩:=(show ObjOk X.prog X.w H s.heap a (.dK mo) from I.hok a _ ea);obtain ⟨o,es,ep,h1,h2,_⟩:=p;exact oJ PySem.W.kitx_dict I.kIn ⟨o,h1,h2.1⟩ e (λz=>nomatch z) h
 | @dT a mo ea =>
  cases (show u=mK a from rx);obtain ⟨_,_,xs,_,o,es,ep,h1,h2,_⟩:=(show ObjOk X.prog X.w H s.heap a (.dT mo) from I.hok a _ ea);exact oJ PySem.W.kitx_dict I.kIn ⟨o,h1,h2.1⟩ e (λz=>nomatch z) h
 | @ins a C dx fs ea cl ha hn htk hm =>
  cases (show u=mK a from rx);obtain ⟨mA,O0_,_⟩:=X5 I.hok ea;obtain ⟨od,J,_⟩:=O0_.look;exact oJ (PySem.W.kitx_own (cl.get _) cl.hd ha hn htk hm) I.kIn J e (λz=>nomatch z) h
end
structure Room (k:Nat) (A:Around):Prop where
 hd:A.handled=O
 dp:A.depth+3*k+5<recursionLimit
 un:A.units+16*k+200<cLine
def Room.mono {j k:Nat} {A:Around} (r:Room k A) (h:j<=k):Room j A:=⟨r.hd,by have:=r.dp;omega,by have:=r.un;omega⟩
def Room.deeper {k:Nat} {A:Around} (r:Room (k+1) A) (env:Env):Room k (A.deeper env) :=
 ⟨r.hd,by have:=r.dp;show A.depth+1+3*k+5<_;omega,by have:=r.un;show A.units+3+16*k+200<_;omega⟩
def zfq {A:Around} {C:Ad} {us:J8} {kw:List (Str×Vl)}:(A.under (.builtin "type.__call__" ⟨.ref C::us,kw⟩)).depth=A.depth+1:=by
 first | rfl | simp [Around.under,Code.weight,Code.isCreation,Code.isGuard,Code.isCaller,Code.frames,Code.isFrame,guardIds]
def zfo {A:Around} {C:Ad} {us:J8} {kw:List (Str×Vl)}:(A.under (.builtin "type.__call__" ⟨.ref C::us,kw⟩)).units=A.units+1:=by
 first | rfl | simp [Around.under,Code.cUnits,Code.frames,Code.isFrame]
def Room.make {k:Nat} {A:Around} (r:Room (k+1) A) (C:Ad) (us:J8) (kw:List (Str×Vl)):Room k (A.under (.builtin "type.__call__" ⟨.ref C::us,kw⟩)) :=
 ⟨r.hd,by have:=r.dp;rw [zfq];omega,by have:=r.un;rw [zfo];omega⟩
def Room.depth {k:Nat} {A:Around} (r:Room k A):A.depth<recursionLimit:=by have:=r.dp;omega
def Room.units {k:Nat} {A:Around} (r:Room k A):A.units+64<cLine:=by have:=r.un;omega
def tNil:TA:=λ_ H Q=>Q [] H
def zad (ta:TE) (tr:TA):TA:=λσ H Q=>ta σ H λx H1=>tr σ H1 λxs H2=>Q (x::xs) H2
section
variable {X:Cx} {e:Expr} {es:Jd} {te:TE} {t:TA} {pos:Pos}
def zc:PA X [] tNil:=λ_ _ _ _ H Q I h=>Calls.spliced_nil ⟨[],H,I,.nil,h⟩
def zb (ha:PE X e te) (hr:PA X es t) (hs:mO (e::es) X.env=(false,eval e X.env)::mO es X.env:=by rfl):PA X (e::es) (zad te t):=by
 intro pos mn s σ H Q I h;rw [hs];show wpAny _ _ (spliced ((false,eval e X.env)::backTo pos (mO es X.env))) _ _ s;refine sF (thn (ha mn s σ H _ I h) λu s1 ⟨x,H1,I1,r1,q1⟩=>?_);exact thn (hr pos mn s1 σ H1 _ I1 q1) λus s2 ⟨xs,H2,I2,r2,q2⟩=>⟨x::xs,H2,I2,.cons r1 r2,q2⟩
def tTup (t:TA):TE:=λσ H Q=>t σ H λxs H1=>xs.length<=mI/\∀ p,H1 p=O->Q (.ref p) (upd H1 p (.tup xs))
def tLst (t:TA):TE:=λσ H Q=>t σ H λxs H1=>xs.length<=mI/\∀ p,H1 p=O->Q (.ref p) (upd H1 p (.lst xs))
def yb {x1} (h:PA X es t):PE X (.Tuple es x1 pos) (tTup t):=by
 intro mn s σ H Q I hq;refine wpAny_Tuple_spliced (thn (h pos mn s σ H _ I hq) λus s1 ⟨xs,H1,I1,r,z,q⟩=>⟨by rw [← r.length];exact z,?_⟩);have hf:H1 s1.heap.objs.size=O:=I1.hok.fresh (m8 _);refine ⟨.ref s1.heap.objs.size,upd H1 s1.heap.objs.size (.tup xs),I1.laid (t':=s1.toks) (λb u e=>mD _ e) (m8 _) ?_,Y,q _ hf⟩;exact ⟨z,us,r,⟨_,mX _ rfl,Y,_,Y⟩⟩
def yn (h:PA X es t):PE X (.List es pos) (tLst t):=by
 intro mn s σ H Q I hq;refine wpAny_List_spliced (thn (h pos mn s σ H _ I hq) λus s1 ⟨xs,H1,I1,r,z,q⟩=>⟨by rw [← r.length];exact z,?_⟩);have hf:H1 s1.heap.objs.size=O:=I1.hok.fresh (m8 _);refine ⟨.ref s1.heap.objs.size,upd H1 s1.heap.objs.size (.lst xs),I1.laid (t':=s1.toks) (λb u e=>mD _ e) (m8 _) ?_,Y,q _ hf⟩;exact ⟨z,us,0,r,mX _ rfl⟩
end
abbrev Sp:=Jj->Hp->VK->XK->Prop
abbrev CXT:=List Env->Hp->Sh->XK->J5
structure Env0 (P:nQ) (w:World) (K:Fg) (mg:J0) (base:Heap) (A:Around) (outer:List Env) (s:Sh) (H:Hp):Prop where
 frames:A.frames=Z outer
 mod:Mod K mg base
 bs:∀ b o,base.get? b=Z o->s.heap.get? b=Z o/\H b=O
 bsz:base.objs.size<=s.heap.objs.size
 funs:s.heap.FunFrames base outer
 frf:∀ b∈frs outer,H b=O
 hok:HOk P w H s.heap
 bare:AllBare s.gens
def CE (outer:List Env) (P:nQ) (w:World) (H:Hp) (s:Sh) (Q:VK) (u:Vl) (s':Sh):Prop :=
 ∃ v H',s'.os=s.os/\AllBare s'.gens/\Un (frs outer) [] H H' s.heap s'.heap/\HOk P w H' s'.heap/\RelV v u/\Q v H'
def CR (CX:CXT) (outer:List Env) (P:nQ) (w:World) (H:Hp) (s:Sh) (Q:VK) (E:XK) (r:Result) (s':Sh):Prop :=
 match r with
 | .ok (.ret u)=>CE outer P w H s Q u s'
 | .ok _=>False
 | .error e=>CX outer H s E e s'
structure FnOk (P:nQ) (w:World) (K:Fg) (mg:J0) (base:Heap) (CX:CXT) (k:Nat) (f:Ad) (fd:og) (ps:Jb) (sp:Sp):Prop where
 len:∀ vs H Q E,sp vs H Q E->vs.length=ps.length
 run:∀ (A:Around) (outer:List Env) (s:Sh) (H:Hp) (args:Args) (us:J8) (vs:Jj) (Q:VK) (E:XK),Room k A->Env0 P w K mg base A outer s H->BindsTo s fd args (ps.zip us)->Vals vs us->sp vs H Q E ->
  tP (model P w) A (.call (.ref f) args) (CR CX outer P w H s Q E) s
def FnOk.mono {P:nQ} {w:World} {K:Fg} {mg:J0} {base:Heap} {CX:CXT} {j k:Nat} {f:Ad} {fd:og} {ps:Jb} {sp:Sp} (F:FnOk P w K mg base CX j f fd ps sp) (h:j<=k) :
  FnOk P w K mg base CX k f fd ps sp:=⟨F.len,λA outer s H args us vs Q E hr=>F.run A outer s H args us vs Q E (hr.mono h)⟩
def Env0.make {P:nQ} {w:World} {K:Fg} {mg:J0} {base:Heap} {A:Around} {outer:List Env} {s:Sh} {H:Hp} (e:Env0 P w K mg base A outer s H) (C:Ad) (us:J8) (kw:List (Str×Vl)) :
  Env0 P w K mg base (A.under (.builtin "type.__call__" ⟨.ref C::us,kw⟩)) outer s H:=⟨by first | exact e.frames | (simpa [Around.under,Code.envs,Code.isFrame,pushEnvs] using e.frames),e.mod,e.bs,e.bsz,e.funs,e.frf,e.hok,e.bare⟩
section
variable {X:Cx} {mn:J7} {σ:St} {H:Hp} {s s':Sh}
def Inv.env0 (I:Inv X mn σ H s):Env0 X.prog X.w X.K X.mg X.base X.A X.stack s H :=
 ⟨I.ok.frames,I.ok.mod,I.bs,mL I.ok.bsz I.sz,I.stack,I.stkFree,I.hok,I.bare⟩
def Inv.after {Q:VK} {u:Vl} (I:Inv X mn σ H s) (h:CE X.stack X.prog X.w H s Q u s'):EP X mn σ Q u s':=by
 obtain ⟨v,H',os,bare,un,hok,r,q⟩:=h;obtain ⟨hh,g,d,t,os'⟩:=s';obtain rfl:os'=s.os:=os;exact ⟨v,H',I.call (h':=hh) (g':=g) (d':=d) (t':=t) (ch:=[]) un hok bare (λb z=>absurd z (by simp)),r,q⟩
end
def zbu (sp:Sp) (dvs:Jj) (E:XK) (t:TA):TE:=λσ H Q=>t σ H λvs H1=>sp (vs++dvs) H1 Q E
inductive tMeth_S (C:Ad) (m:Str) (sp:Sp) (dvs:Jj) (E:XK) (t:TA) (σ:St) (Q:VK) (x:V) (H1:Hp):Prop
 | mk (a dx fs:_) (_:x=.ref a) (_:H1 a=Z (.ins C dx fs)) (_:fs.lookup m=O) (_:t σ H1 λvs H2=>sp (x::(vs++dvs)) H2 Q E)
def tMeth (C:Ad) (m:Str) (sp:Sp) (dvs:Jj) (E:XK) (ta:TE) (t:TA):TE:=λσ H Q=>ta σ H λx H1=>tMeth_S C m sp dvs E t σ Q x H1
def tMake (C:Ad) (sp:Sp) (dvs:Jj) (E:XK) (t:TA):TE:=λσ H Q=>t σ H λvs H1=>∀ x dx,H1 x=O->H1 dx=O->dx≠x ->
 sp (.ref x::(vs++dvs)) (upd (upd H1 dx (.own x)) x (.ins C dx [])) (λv H2=>v=.non/\Q (.ref x) H2) E
def Binds (K:Fg) (fd:og) (ps:Jb) (ds:J8):Prop :=
 ∀ (s:Sh) (us:J8),K.In s.heap->(us++ds).length=ps.length->BindsTo s fd ⟨us,[]⟩ (ps.zip (us++ds))
def Binds.all {K:Fg} {fd:og} {ps:Jb} (h:∀ us:J8,us.length=ps.length->bindArgs fd ⟨us,[]⟩=pure (ps.zip us)):Binds K fd ps []:=λs us _ hl=>by
 rw [q8y] at hl ⊢;exact .of_eq (h us hl)
def xf (CX:CXT) (X:Cx) (E:XK):Prop:=∀ (mn:J7) (σ:St) (H:Hp) (s:Sh) (e:Vl) (s':Sh),Inv X mn σ H s->CX X.stack H s E e s'->X.xe e s'
section
variable {X:Cx} {CX:CXT} {k:Nat} {f C:Ad} {fd:og} {ps:Jb} {sp:Sp} {dvs:Jj} {ds:J8} {E:XK} {x m:Str} {p pos apos:Pos} {e o:Expr} {es:Jd} {ta:TE} {t:TA}
def zcv {mn:J7} {σ:St} {H:Hp} {s:Sh} {Q:VK} {us:J8} {vs:Jj} (F:FnOk X.prog X.w X.K X.mg X.base CX k f fd ps sp) (hr:Room k X.A) (hb:Binds X.K fd ps ds) (hd:Vals dvs ds) (hx:xf CX X E)
  (I:Inv X mn σ H s) (r:Vals vs us) (h:sp (vs++dvs) H Q E):wpAny (model X.prog X.w) X.A (call (.ref f) us) (EP X mn σ Q) X.xe s:=by
 have r2:Vals (vs++dvs) (us++ds):=r.append hd;have hl:(us++ds).length=ps.length:=by rw [← r2.length];exact F.len _ _ _ _ h
 refine wpAny_call (codeAny_mono (F.run X.A X.stack s H ⟨us,[]⟩ (us++ds) (vs++dvs) Q E hr I.env0 (hb s us I.kIn hl) r2 h) λr s' hq=>?_)
 cases r with
 | error e=>exact hx mn σ H s e s' I hq
 | ok fl =>
  cases fl with
  | ret u=>exact I.after hq
  | next=>exact p4 hq
  | brk=>exact p4 hq
  | cont=>exact p4 hq
def pe_call (F:FnOk X.prog X.w X.K X.mg X.base CX k f fd ps sp) (hr:Room k X.A) (hg:Gl X x) (hm:X.mg x=Z (.ref f)) (hk:mR X.K (.ref f)=true) (hb:Binds X.K fd ps ds) (hd:Vals dvs ds) (hx:xf CX X E)
  (ha:PA X (e::es) t) (hdb:(x == ("__debug__":Str))=false:=by decide) (he:mO (e::es) X.env=(false,eval e X.env)::mO es X.env:=by rfl) (hpl:(backTo pos (mO es X.env)).any (·.1)=false:=by rfl) :
  PE X (.Call (.Name x p) (e::es) [] pos) (zbu sp dvs E t):=by
 intro mn s σ H Q I h;refine rB (YF I hg hm ?_ hdb);refine rN (h₀:=X.base) I.ok.mod.kin hk (thn (ha pos mn s σ H _ I h) λus s1 ⟨vs,H1,I1,r,q⟩=>⟨I1.kIn,?_⟩) he hpl;exact zcv F hr hb hd hx I1 r q
def pe_meth {pl:Sem Bool} (he:PE X o ta) (c:Cls X.K C) (hm:Meth X.K C m f) (F:FnOk X.prog X.w X.K X.mg X.base CX k f fd ps sp) (hr:Room k X.A) (hb:Binds X.K fd ps ds) (hd:Vals dvs ds) (hx:xf CX X E) (ha:PA X (e::es) t)
  (hst:mO (e::es) X.env=(false,eval e X.env)::mO es X.env:=by rfl) (hpl:(backTo pos (mO es X.env)).any (·.1)=false:=by rfl)
  (ht:eval (.Call (.Attribute o m apos) (e::es) [] pos) X.env=(do
   let ov ← eval o X.env
   standAt apos.atName
   let (f,first) ← holding [ov] (getMethod ov m pl)
   callWith pos f first (backTo pos (mO (e::es) X.env)) (backToKw pos (sM [] X.env))):=by rfl) :
  PE X (.Call (.Attribute o m apos) (e::es) [] pos) (tMeth C m sp dvs E ta t):=by
 intro mn s σ H Q I h;refine PySem.W.methodCall_KW (pl:=pl) (thn (he mn s σ H _ I h) λu s1 ⟨x,H1,I1,rx,a,dx,fs,ex,ea,l,q⟩=>?_) ht;subst ex;obtain rfl:u=mK a:=rx;refine za5 I1 ea c hm l ?_;refine rN (first:=[.ref a]) (h₀:=X.base) I.ok.mod.kin hm.kp (thn (ha pos mn s1 σ H1 _ I1 q) λus s2 ⟨vs,H2,I2,r,q2⟩=>⟨I2.kIn,?_⟩) hst hpl;exact zcv (us:=.ref a::us) (vs:=.ref a::vs) F hr hb hd hx I2 (.cons rfl r) q2
def pe_meth0 {pl:Sem Bool} (he:PE X o ta) (c:Cls X.K C) (hm:Meth X.K C m f) (F:FnOk X.prog X.w X.K X.mg X.base CX k f fd ps sp) (hr:Room k X.A) (hb:Binds X.K fd ps ds) (hd:Vals dvs ds) (hx:xf CX X E)
  (ht:eval (.Call (.Attribute o m apos) [] [] pos) X.env=(do
   let ov ← eval o X.env
   standAt apos.atName
   let (f,first) ← holding [ov] (getMethod ov m pl)
   callWith pos f first (backTo pos (mO [] X.env)) (backToKw pos (sM [] X.env))):=by rfl) :
  PE X (.Call (.Attribute o m apos) [] [] pos) (tMeth C m sp dvs E ta tNil):=by
 intro mn s σ H Q I h;refine PySem.W.methodCall_KW (pl:=pl) (thn (he mn s σ H _ I h) λu s1 ⟨x,H1,I1,rx,a,dx,fs,ex,ea,l,q⟩=>?_) ht;subst ex;obtain rfl:u=mK a:=rx;refine za5 I1 ea c hm l ?_;exact PySem.W.callWith_K0 (first:=[.ref a]) I1.kIn hm.kp (zcv (us:=[.ref a]) (vs:=[.ref a]) F hr hb hd hx I1 (.cons rfl .nil) q)
structure Mk (K:Fg) (C f:Ad):Prop where
 makes:oj K C=true
 init:ng K (.ref C) "__init__"=Z (Z (.ref f))
 fn:tD K (.ref f)=true
 kp:mR K (.ref C)=true
def run_make {mn:J7} {σ:St} {H:Hp} {s:Sh} {Q:VK} {us:J8} {vs:Jj} (M:Mk X.K C f) (F:FnOk X.prog X.w X.K X.mg X.base CX k f fd ps sp) (hr:Room (k+1) X.A) (hb:Binds X.K fd ps ds) (hd:Vals dvs ds)
  (hx:xf CX X E) (I:Inv X mn σ H s) (r:Vals vs us)
  (h:∀ x dx,H x=O->H dx=O->dx≠x->sp (.ref x::(vs++dvs)) (upd (upd H dx (.own x)) x (.ins C dx [])) (λv H2=>v=.non/\Q (.ref x) H2) E) :
  wpAny (model X.prog X.w) X.A (call (.ref C) us) (EP X mn σ Q) X.xe s:=by
 have hq:=h (s.heap.objs.size+1) s.heap.objs.size (I.hok.fresh (Nat.le_succ _)) (I.hok.fresh (m8 _)) (nh (Nat.lt_succ_self _));have I2:=Inv.made (C:=C) I;have r2:Vals (V.ref (s.heap.objs.size+1)::(vs++dvs)) (mK (s.heap.objs.size+1)::(us++ds)):=.cons rfl (r.append hd)
 have hl:(mK (s.heap.objs.size+1)::us++ds).length=ps.length:=by
  have e:=r2.length;rw [F.len _ _ _ _ hq] at e;exact e.symm
 refine wpAny_call (make_map (f:=f) I.kIn M.makes M.init (beq_iff_eq.mp M.fn) (codeAny_mono (F.run _ X.stack _ _ ⟨mK (s.heap.objs.size+1)::us,[]⟩ (mK (s.heap.objs.size+1)::(us++ds)) _ _ E (hr.make C us [])
  (I2.env0.make C us []) (hb _ (mK (s.heap.objs.size+1)::us) I2.kIn hl) r2 hq) λr s' hq'=>?_))
 cases r with
 | error e=>exact hx mn σ _ _ e s' I2 hq'
 | ok fl =>
  cases fl with
  | ret u =>
   obtain ⟨v,H',I3,rv,ev,q3⟩:=I2.after hq';subst ev;exact ⟨rv,⟨V.ref (s.heap.objs.size+1),H',I3,Y,q3⟩⟩
  | next=>exact p4 hq'
  | brk=>exact p4 hq'
  | cont=>exact p4 hq'
def pe_make (M:Mk X.K C f) (F:FnOk X.prog X.w X.K X.mg X.base CX k f fd ps sp) (hr:Room (k+1) X.A) (hg:Gl X x) (hm:X.mg x=Z (.ref C)) (hb:Binds X.K fd ps ds) (hd:Vals dvs ds) (hx:xf CX X E)
  (ha:PA X (e::es) t) (hdb:(x == ("__debug__":Str))=false:=by decide) (he:mO (e::es) X.env=(false,eval e X.env)::mO es X.env:=by rfl) (hpl:(backTo pos (mO es X.env)).any (·.1)=false:=by rfl) :
  PE X (.Call (.Name x p) (e::es) [] pos) (tMake C sp dvs E t):=by
 intro mn s σ H Q I h;refine rB (YF I hg hm ?_ hdb);refine rN (h₀:=X.base) I.ok.mod.kin M.kp (thn (ha pos mn s σ H _ I h) λus s1 ⟨vs,H1,I1,r,q⟩=>⟨I1.kIn,?_⟩) he hpl;exact run_make M F hr hb hd hx I1 r q
end
section
variable {X:Cx} {CX:CXT} {k:Nat} {f C:Ad} {fd:og} {ps ks:Jb} {sp:Sp} {E:XK} {x m:Str} {p pos apos kpos:Pos} {e o:Expr} {es:Jd} {kws:List Keyword} {te ta:TE} {t tk:TA} {nm:Option Str}
variable {g:J8->J8->J8} {gV:Jj->Jj->Jj}
end
structure FnScope (N P:Jb) (sc:Scope):Prop where
 kind:sc.kind=.function
 co:sc.isCoroutine=false
 gen:sc.isGenerator=false
 nd:N.Nodup
 pre:N.take P.length=P
 par:∀ x∈P,sc.names.lookup x=Z .local∨sc.names.lookup x=Z .cell
 nofree:∀ y∈sc.names,y.2≠.free
theorem zcc {kindOf:Str->Option NameKind} {x:Str}:∀ {binds:List (Str×Vl)} {m:J0},(∀ v,(x,v) ∉ binds)->bindL kindOf binds m x=m x
 | [],_,_=>rfl
 | (n,v)::r,m,h=>by
  unfold bindL;rw [zcc λw hw=>h w (q6y _ hw)]
  split
  .have:x≠n:=by rintro rfl;exact h v q6z
   simp [this]
  .rfl
theorem zce {kindOf:Str->Option NameKind} {x:Str}:∀ {binds:List (Str×Vl)} {m:J0},(∀ v,(x,v) ∉ binds)->bindC kindOf binds m x=m x
 | [],_,_=>rfl
 | (n,v)::r,m,h=>by
  unfold bindC;rw [zce λw hw=>h w (q6y _ hw)]
  split
  .rfl
  .have:x≠n:=by rintro rfl;exact h v q6z
   simp [this]
theorem zcd {kindOf:Str->Option NameKind} {x:Str} {v:Vl}:∀ {P:Jb} {vs:J8} {i:Nat} {m:J0},P.Nodup->P[i]?=Z x->vs[i]?=Z v->kindOf x=Z .local ->
  bindL kindOf (P.zip vs) m x=Z v
 | [],_,_,_,_,h,_,_=>by simp at h
 | _::_,[],_,_,_,_,h,_=>by simp at h
 | p::P,w::vs,0,m,nd,h1,h2,hk=>by
  simp at h1 h2;subst h1;subst h2;show bindL kindOf ((p,w)::P.zip vs) m p=_;unfold bindL;rw [zcc λv hv=>(pj.mp nd).1 (List.of_mem_zip hv).1,if_pos hk];simp
 | p::P,w::vs,i+1,m,nd,h1,h2,hk=>by
  show bindL kindOf ((p,w)::P.zip vs) m x=_;unfold bindL;exact zcd (i:=i) (pj.mp nd).2 (by simpa using h1) (by simpa using h2) hk
theorem zcf {kindOf:Str->Option NameKind} {x:Str} {v:Vl}:∀ {P:Jb} {vs:J8} {i:Nat} {m:J0},P.Nodup->P[i]?=Z x->vs[i]?=Z v->kindOf x≠Z .local ->
  bindC kindOf (P.zip vs) m x=Z v
 | [],_,_,_,_,h,_,_=>by simp at h
 | _::_,[],_,_,_,_,h,_=>by simp at h
 | p::P,w::vs,0,m,nd,h1,h2,hk=>by
  simp at h1 h2;subst h1;subst h2;show bindC kindOf ((p,w)::P.zip vs) m p=_;unfold bindC;rw [zce λv hv=>(pj.mp nd).1 (List.of_mem_zip hv).1,if_neg hk];simp
 | p::P,w::vs,i+1,m,nd,h1,h2,hk=>by
  show bindC kindOf ((p,w)::P.zip vs) m x=_;unfold bindC;exact zcf (i:=i) (pj.mp nd).2 (by simpa using h1) (by simpa using h2) hk
def start (N:Jb) (vs:Jj):St:=vs.map Z++mT (N.length-vs.length) O
def yh (CX:CXT) (P:nQ) (w:World) (K:Fg) (mg:J0) (base:Heap) (N:Jb) (mt:Str) (mC:Scope) (f:Ad) (cd:Vl) (A:Around) (outer:List Env) (s:Sh) (H:Hp) (E:XK):Cx where
 prog:=P
 w:=w
 K:=K
 mg:=mg
 base:=base
 A:=A.deeper (envOfC mt mC s.heap.objs.size f cd)
 N:=N
 s₀:=s
 H₀:=H
 env:=envOfC mt mC s.heap.objs.size f cd
 outer:=outer
 stack:=envOfC mt mC s.heap.objs.size f cd::outer
 ex:=[]
 calm:=true
 fn:=λ_=>true
 pn:=[]
 xe:=λe s'=>wpAny (model P w) (A.deeper (envOfC mt mC s.heap.objs.size f cd)) (leaving (envOfC mt mC s.heap.objs.size f cd) e) (λ_ s''=>CX outer H s E e s'') (λe' s''=>CX outer H s E e' s'') s'
def zex {sc:Scope} {n:Nat} {x:Str} (h:sc.names.lookup x=Z .cell):∃ c,(cellsFrom n sc.names []).lookup x=Z c:=by
 have q:=PySem.W.cellsFrom_some sc.names n [] (.inl h);exact Option.isSome_iff_exists.mp q
def inv_start {CX:CXT} {P:nQ} {w:World} {K:Fg} {mg:J0} {base:Heap} {N ps:Jb} {mt:Str} {mC:Scope} {f:Ad} {cd:Vl} {A:Around} {outer:List Env} {s s1:Sh} {H:Hp} {E:XK} {us:J8} {vs:Jj}
  (S:FnScope N ps mC) (hd:A.handled=O) (e0:Env0 P w K mg base A outer s H) (hl:vs.length=ps.length) (r:Vals vs us)
  (x:InCallC s s.heap.objs.size (bindL (envOfC mt mC s.heap.objs.size f cd).kindOf (ps.zip us) λ_=>O) (cellsFrom (s.heap.objs.size+1) mC.names []) (bindC (envOfC mt mC s.heap.objs.size f cd).kindOf (ps.zip us) λ_=>O) s1) :
  Inv (yh CX P w K mg base N mt mC f cd A outer s H E) [] (start N vs) H s1:=by
 have hpl:ps.length<=N.length:=by have:=congrArg List.length S.pre;rw [ny] at this;omega
 obtain ⟨h1,tk,rfl,hk⟩:=x.done;have noA:∀ b:Ad,b ∉ (yh CX P w K mg base N mt mC f cd A outer s H E).ex:=λb z=>absurd (show b∈([]:Jc) from z) (by simp)
 refine ⟨⟨e0.mod,S.kind,Y,Y,m8 _,λy z c h1 h2=>?_,λy hy=>?_,λy c _ h=>?_,λ_=>hd,Around.frames_deeper e0.frames,.inr ⟨Y,Y⟩,λb z=>absurd z (noA b),e0.bs,e0.bsz,λb _ _=>noA b,λb z=>absurd z (noA b),e0.funs,e0.frf⟩,
  rfl,e0.bare,Un.kept hk,⟨_,x.toInCall.ns,λi y v h1 h2 h3=>?_⟩,λy c h=>⟨_,x.cell y c h⟩,e0.hok.fresh (m8 _),λy c h=>?_,λp hp=>absurd (show p∈([]:J7) from hp) (by simp),e0.hok.kept hk,?_⟩
 .exact name_of_addr x.apart (rH h1) (rH h2)
 .have hy:mC.names.lookup y=Z .cell∨mC.names.lookup y=Z .free:=hy
  rcases hy with hy | hy
  .exact zex hy
  .exact absurd rfl (S.nofree _ (rH hy))
 .exact Nat.le_of_lt (x.above y c (rH h))
 .have hi:i<vs.length:=by
   unfold start at h2;by_cases hi:i<vs.length
   .exact hi
   .rw [oh (by simpa using hi)] at h2
    rw [List.getElem?_replicate] at h2
    split at h2 <;> cases h2
  have ha:vs[i]?=Z v:=by
   unfold start at h2;rw [q9x (by simpa using hi),mJ] at h2
   cases e:vs[i]? with
   | none=>rw [e] at h2;cases h2
   | some a=>rw [e] at h2;cases h2;rfl
  obtain ⟨u,hu,rv⟩:=r.get ha
  have hp:ps[i]?=Z y:=by
   rw [← S.pre,List.getElem?_take_of_lt (by omega)];exact h1
  have ndP:ps.Nodup:=by rw [← S.pre];exact S.nd.sublist (List.take_sublist _ _)
  refine ⟨u,rv,?_⟩;rcases S.par y (mP hp) with k | k
  .exact .inl ⟨k,zcd ndP hp hu k⟩
  .obtain ⟨c,e⟩:=zex (n:=s.heap.objs.size+1) k
   refine .inr ⟨.inl k,c,e,?_⟩;have q:=x.cell y c e;rw [zcf ndP hp hu (by show mC.names.lookup y≠_;rw [k];decide)] at q;exact q
 .exact e0.hok.fresh (Nat.le_of_lt (x.above y c (rH h)))
 .unfold start
  show _=N.length;rw [Jf,Je,pZ];omega
def fn_of {CX:CXT} {P:nQ} {w:World} {K:Fg} {mg:J0} {base:Heap} {k:Nat} {f:Ad} {name mt:Str} {params:Arguments} {body:List Stmt} {mC:Scope} {dV kV doc pm mx ct oc:Vl} {an od:Option Ad}
  {osl:Array (Ja)} {N ps:Jb} {sp:Sp} (lk:K.lookup f=Z ⟨oc,od,.func (o4 name mt params body mC dV kV doc pm an mx ct),osl⟩) (hcd:oX K mx mt=true) (S:FnScope N ps mC)
  (len:∀ vs H Q E,sp vs H Q E->vs.length=ps.length)
  (hbody:∀ (A:Around) (outer:List Env) (s:Sh) (H:Hp) (vs:Jj) (Q:VK) (E:XK),Room k (A.deeper (envOfC mt mC s.heap.objs.size f mx))->sp vs H Q E ->
   ∃ t,PSs (yh CX P w K mg base N mt mC f mx A outer s H E) body t/\t { nx:=λ_ H'=>Q .non H',rt:=Q } (start N vs) H) :
  FnOk P w K mg base CX (k+1) f (o4 name mt params body mC dV kV doc pm an mx ct) ps sp:=by
 refine ⟨len,λA outer s H args us vs Q E hr e0 hb r hsp=>?_⟩;have hl:=len _ _ _ _ hsp;have KX:K.In s.heap:=e0.mod.kin.keeps λb o e=>(e0.bs b o e).1;have lim:s.heap.NoLimit:=e0.mod.nolimit.keeps λb o e=>(e0.bs b o e).1
 have hkind:∀ y∈ps.zip us,mC.names.lookup y.1=Z .local∨(mC.names.lookup y.1=Z .cell/\((cellsFrom (s.heap.objs.size+1) mC.names []).lookup y.1).isSome=true):=λ⟨n,v⟩ hy=>by
  rcases S.par n (List.of_mem_zip hy).1 with q | q
  .exact .inl q
  .exact .inr ⟨q,PySem.W.cellsFrom_some _ _ _ (.inl q)⟩
 refine codeAny_call_function hr.depth (KX _ _ lk) rfl S.co S.gen rfl (PySem.W.codeRec_of KX hcd) (hb _ _ _ _ ?_);refine wpAny_newFunctionEnv_cells S.kind hkind λenv he s1 x=>?_;subst he;refine ⟨lim.keeps x.toInCall.keep,codeAny_func ?_⟩;obtain ⟨t,ht,hq⟩:=hbody A outer s H vs Q E (hr.deeper _) hsp;have I:Inv (yh CX P w K mg base N mt mC f mx A outer s H E) [] (start N vs) H s1:=inv_start S hr.hd e0 hl r x;refine oB (ht [] s1 (start N vs) H _ I hq) (λfl s' hs=>?_) λe s' hs=>hs
 have fin:∀ {σ':St} {H':Hp} {v:V} {u:Vl},Inv (yh CX P w K mg base N mt mC f mx A outer s H E) [] σ' H' s'->RelV v u->Q v H'->CE outer P w H s Q u s' :=
  λ{σ' H' v u} J rv q=>⟨v,H',J.os,J.bare,J.base,J.hok,rv,q⟩
 cases fl with
 | ret u =>
  obtain ⟨v,σ',H',J,rv,q⟩:=hs;exact fin J rv q
 | next =>
  obtain ⟨σ',H',J,q⟩:=hs;exact fin (v:=V.non) (u:=rX) J rfl q
 | brk =>
  obtain ⟨_,_,_,q⟩:=hs;exact p4 q
 | cont =>
  obtain ⟨_,_,_,q⟩:=hs;exact p4 q
section
variable {X:Cx} {x:Str} {p pos:Pos} {e:Expr} {es:Jd} {t:TA} {id T:String} {r:Jj->Hp->VK->Prop}
def tCB (r:Jj->Hp->VK->Prop) (t:TA):TE:=λσ H Q=>t σ H λvs H1=>r vs H1 Q
def zp (hc:Yp X (.builtin id) r) (hg:Gl X x) (hm:X.mg x=O) (hv:sP x=Z (.builtin id)) (ha:PA X (e::es) t) (hn:x≠"__name__":=by decide) (hdb:(x == ("__debug__":Str))=false:=by decide)
  (he:mO (e::es) X.env=(false,eval e X.env)::mO es X.env:=by rfl) (hpl:(backTo pos (mO es X.env)).any (·.1)=false:=by rfl):PE X (.Call (.Name x p) (e::es) [] pos) (tCB r t):=by
 intro mn s σ H Q I h;refine rB (Yk I hg hm hv ?_ hn hdb);exact PyProof.Rows.callWith_builtin1 (thn (ha pos mn s σ H _ I h) λus s1 ⟨vs,H1,I1,r1,q1⟩=>hc mn s1 σ H1 vs us Q I1 r1 q1) he hpl
def xo (hc:Yp X (.type T) r) (hg:Gl X x) (hm:X.mg x=O) (hv:sP x=Z (.type T)) (ha:PA X (e::es) t) (hn:x≠"__name__":=by decide) (hdb:(x == ("__debug__":Str))=false:=by decide)
  (he:mO (e::es) X.env=(false,eval e X.env)::mO es X.env:=by rfl) (hpl:(backTo pos (mO es X.env)).any (·.1)=false:=by rfl):PE X (.Call (.Name x p) (e::es) [] pos) (tCB r t):=by
 intro mn s σ H Q I h;refine rB (Yk I hg hm hv ?_ hn hdb);exact ou (thn (ha pos mn s σ H _ I h) λus s1 ⟨vs,H1,I1,r1,q1⟩=>hc mn s1 σ H1 vs us Q I1 r1 q1) he hpl
end
end L2
variable {X:L2.Cx} {w:PySem.World} {P prog:PySem.Program} {mg:J0} {H H':L2.Hp} {mn:J7}
namespace HT
open PySem PyProof.Rows
section
open PySem.SeqAt
open PySem.AutoSeq1 (wpAny_loadPart')
open PySem.MeetsSeq PySem.MeetsSeq2 PySem.MeetsSeq3
end
section
variable {A:Around} {E:J5} {s:Sh}
def sIx (n d:Nat):Option Int->Nat
 | none=>d
 | some v=>if v<0 then (v+(n:Int)).toNat else min v.toNat n
def sIx_none (n d:Nat):sIx n d O=d:=rfl
end
end HT
namespace L2
open PySem PySem.Spec PyProof.Rows
abbrev TO:=St->Hp->(Option Int->Hp->Prop)->Prop
def PO (X:Cx) (e:Option Expr) (t:TO):Prop :=
 ∀ (mn:J7) (s:Sh) (σ:St) (H:Hp) (Q:Option Int->Hp->Prop),Inv X mn σ H s->t σ H Q ->
  wpAny (model X.prog X.w) X.A (evalPart e X.env) (λu s'=>∃ o H',Inv X mn σ H' s'/\IsPart u o/\Q o H') X.xe s
def tNoPart:TO:=λ_ H Q=>Q O H
inductive tPart_S (Q:(Option Int->Hp->Prop)) (x:V) (H1:Hp):Prop
 | mk (i:_) (_:x=.int i) (_:Q (Z i) H1)
def tPart (t:TE):TO:=λσ H Q=>t σ H λx H1=>tPart_S Q x H1
section
variable {e:Expr} {te:TE} {lo hi:Option Expr} {tl th:TO} {pos p2:Pos}
def po_none:PO X O tNoPart:=by
 intro mn s σ H Q I h;rw [evalPart_none];exact q0y ⟨O,H,I,.none,h⟩
def zcy (h:PE X e te):PO X (Z e) (tPart te):=by
 intro mn s σ H Q I hw;rw [evalPart_some];refine thn (h mn s σ H _ I hw) λu s1 ⟨x,H1,I1,r1,q1⟩=>?_;obtain ⟨i,rfl,q⟩:=q1;obtain ⟨t,rfl⟩:=r1;exact ⟨Z i,H1,I1,.int i t,q⟩
def SlR (X:Cx) (r:V->Option Int->Option Int->Hp->VK->Prop):Prop :=
 ∀ (mn:J7) (s:Sh) (σ:St) (H:Hp) (x:V) (v vl vu:Vl) (lo hi:Option Int) (sl:Ad) (Q:VK),Inv X mn σ H s->RelV x v->s.heap.IsSliceOf sl vl vu .none->IsPart vl lo->IsPart vu hi->r x lo hi H Q ->
  ∃ T id,typeLookup (.type T) "__getitem__"=pure (Z (.builtin id))/\s.TypeIs v T/\wpAny (model X.prog X.w) X.A (getItem v (.ref sl)) (EP X mn σ Q) X.xe s
def tSl (r:V->Option Int->Option Int->Hp->VK->Prop) (te:TE) (tl th:TO):TE:=λσ H Q=>te σ H λx H1=>tl σ H1 λl H2=>th σ H2 λu H3=>r x l u H3 Q
def zd4 {r:V->Option Int->Option Int->Hp->VK->Prop} (hr:SlR X r) (he:PE X e te) (hl:PO X lo tl) (hu:PO X hi th):PE X (.Subscript e (.Slice lo hi O p2) pos) (tSl r te tl th):=by
 intro mn s σ H Q I h;refine Subscript_ (thn (he mn s σ H _ I h) λv s1 ⟨x,H1,I1,r1,q1⟩=>?_);refine wpAny_Slice (thn (hl mn s1 σ H1 _ I1 q1) λvl s2 ⟨l,H2,I2,pl,q2⟩=>thn (hu mn s2 σ H2 _ I2 q2) λvu s3 ⟨u,H3,I3,pu,q3⟩=>?_);rw [evalPart_none];refine q0y ?_;have I4:Inv X mn σ H3 { s3 with heap:=s3.heap.push { cls:=.type "slice",data:=.fields #[vl,vu,.none] } }:=I3.kept (t':=s3.toks) λb ob q=>mD _ q;obtain ⟨T,id,hT,ht,hg⟩:=hr mn { s3 with heap:=s3.heap.push { cls:=.type "slice",data:=.fields #[vl,vu,.none] } } σ H3 x v vl vu l u s3.heap.objs.size Q I4 r1 (Heap.IsSliceOf.new ..) pl pu q3;show wpAny (model X.prog X.w) X.A (subscriptTail e (.Slice lo hi O p2) v (.ref s3.heap.objs.size)) (EP X mn σ Q) X.xe { s3 with heap:=s3.heap.push { cls:=.type "slice",data:=.fields #[vl,vu,.none] } };exact tail_any (ops:=[.ref s3.heap.objs.size,v]) ht hT hg (by with_unfolding_all rfl)
def cutV (xs:Jj) (lo hi:Option Int):Jj:=(xs.drop (HT.sIx xs.length 0 lo)).take (HT.sIx xs.length xs.length hi-HT.sIx xs.length 0 lo)
def zes (xs:Jj) (lo hi:Option Int):(cutV xs lo hi).length<=xs.length:=by
 unfold cutV;rw [ny,List.length_drop];omega
end
def ixN (n:Nat) (i:Int):Option Nat:=if 0<=i then (if i<n then Z i.toNat else O) else if -(n:Int)<=i then Z (i+n).toNat else O
def atI {α:Type} (xs:List α) (i:Int):Option α:=(ixN xs.length i).bind λj=>xs[j]?
def ixN_seq {n:Nat} {i:Int} {j:Nat} (h:ixN n i=Z j):seqIndex? i n=Z j/\j<n/\-(n:Int)<=i/\i<n:=by
 unfold ixN at h;by_cases h0:0<=i
 .rw [if_pos h0] at h
  by_cases h1:i<n
  .rw [if_pos h1] at h
   have e:i.toNat=j:=nR h;exact ⟨by rw [seqIndex_of h0 h1,e],by omega,by omega,h1⟩
  .rw [if_neg h1] at h;cases h
 .rw [if_neg h0] at h
  by_cases h1:-(n:Int)<=i
  .rw [if_pos h1] at h
   have e:(i+n).toNat=j:=nR h;exact ⟨by rw [seqIndex_neg (by omega) h1,e],by omega,h1,by omega⟩
  .rw [if_neg h1] at h;cases h
def atI_get {α:Type} {xs:List α} {i:Int} {v:α} (h:atI xs i=Z v):∃ j,seqIndex? i xs.length=Z j/\xs[j]?=Z v/\j<xs.length/\-(xs.length:Int)<=i/\i<xs.length:=by
 unfold atI at h
 cases e:ixN xs.length i with
 | none=>rw [e] at h;cases h
 | some j =>
  rw [e] at h;obtain ⟨h1,h2,h3,h4⟩:=ixN_seq e;exact ⟨j,h1,h,h2,h3,h4⟩
def zB {α:Type} {xs:List α} {j:Nat} {v:α} (h:xs[j]?=Z v):atI xs (j:Int)=Z v:=by
 have hj:j<xs.length:=(mF.mp h).1
 have e:ixN xs.length (j:Int)=Z j:=by
  unfold ixN;rw [if_pos (by omega),if_pos (by omega)];simp
 unfold atI;rw [e];exact h
def atI_last {α:Type} (xs:List α) (v:α):atI (xs++[v]) (-1)=Z v:=by
 have hl:(xs++[v]).length=xs.length+1:=by simp
 have e:ixN (xs++[v]).length (-1)=Z xs.length:=by
  unfold ixN;rw [hl,if_neg (by decide),if_pos (by omega)];congr 1;omega
 unfold atI;rw [e];show (xs++[v])[xs.length]?=Z v;simp
def PlainIx (b:Expr):Prop:=∀ o i,subscripted b false o i=operate [o,i] (getItem o i)
def IxR (X:Cx) (r:R2):Prop :=
 ∀ (value slice:Expr) (mn:J7) (s:Sh) (σ:St) (H:Hp) (x y:V) (v u:Vl) (Q:VK),Inv X mn σ H s->RelV x v->RelV y u->r x y H Q ->
  subscripted slice false v u=operate [v,u] (getItem v u)->wpAny (model X.prog X.w) X.A (subscriptTail value slice v u) (EP X mn σ Q) X.xe s
def MtR (X:Cx) (id:String) (r:V->Jj->Hp->VK->Prop):Prop :=
 ∀ (mn:J7) (s:Sh) (σ:St) (H:Hp) (x:V) (xs:Jj) (v:Vl) (us:J8) (Q:VK),Inv X mn σ H s->RelV x v->Vals xs us->r x xs H Q ->
  wpAny (model X.prog X.w) X.A (call (.builtin id) (v::us)) (EP X mn σ Q) X.xe s
section
variable {a b:Expr} {ta tb:TE} {pos:Pos}
def zv {r:R2} (hr:IxR X r) (ha:PE X a ta) (hb:PE X b tb) (hs:PlainIx b):PE X (.Subscript a b pos) (tOp r ta tb):=by
 intro mn s σ H Q I h;exact Subscript_ (binT ha hb I h λv u s2 x y H2 I2 rx ry q=>hr a b mn s2 σ H2 x y v u Q I2 rx ry q (hs _ _))
inductive rIxL (K:Fg) (x y:V) (H:Hp) (Q:VK):Prop
 | mk (p xs:_) (i v:_) (_:x=.ref p) (_:y=.int i) (_:SqL K H p xs) (_:atI xs i=Z v) (_:Q v H)
inductive rIxT (K:Fg) (x y:V) (H:Hp) (Q:VK):Prop
 | mk (p xs:_) (i v:_) (_:x=.ref p) (_:y=.int i) (_:SqT K H p xs) (_:atI xs i=Z v) (_:Q v H)
def z6:IxR X (rIxL X.K):=by
 intro value slice mn s σ H x y v u Q I rx ry h hs;obtain ⟨p,xs,i,z,rfl,rfl,hq,he,q⟩:=h;cases rx;obtain ⟨t,rfl⟩:=ry;obtain ⟨its,r,pl,hz⟩:=I.list hq;obtain ⟨j,h1,h2,h3,h4,h5⟩:=atI_get he;obtain ⟨w,ew,rw'⟩:=r.get h2;have hl:=r.length;have hn:=zda;have fin:EP X mn σ Q w s:=⟨z,H,I,rw',q⟩;by_cases h0:0<=i
 .have hj:i.toNat=j:=by
   rw [seqIndex_of h0 h5] at h1;exact nR h1
  exact item_listR pl.isList h0 (by omega) (by rw [hj];simpa using ew) fin hs
 .have hj:(i+(its.toArray.size:Int)).toNat=j:=by
   rw [seqIndex_neg (by omega) h4] at h1;rw [mQ,← hl];exact nR h1
  exact subscriptTail_builtinR (x:=w) pl.isList.typeIs slot_list_getitem.lookup
   (wpAny_getItem_list_neg (Q:=λr s'=>r=w/\EP X mn σ Q r s') pl.isList (by omega) (by rw [mQ] <;> omega) (by omega) (by rw [hj];simpa using ew) ⟨Y,fin⟩) hs
def zF:IxR X (rIxT X.K):=by
 intro value slice mn s σ H x y v u Q I rx ry h hs;obtain ⟨p,xs,i,z,rfl,rfl,hq,he,q⟩:=h;cases rx;obtain ⟨t,rfl⟩:=ry;obtain ⟨its,r,pl,hz⟩:=I.tuple hq;obtain ⟨j,h1,h2,h3,h4,h5⟩:=atI_get he;obtain ⟨w,ew,rw'⟩:=r.get h2;have hl:=r.length;have hn:=zda;have fin:EP X mn σ Q w s:=⟨z,H,I,rw',q⟩;exact subscriptTail_builtinR (x:=w) pl.typeIs slot_tuple_getitem.lookup
  (getItem_tuple (j:=j) (Q:=λr s'=>r=w/\EP X mn σ Q r s') pl (by omega) (by omega) (by rw [mQ,← hl];exact h1) (by simpa using ew) ⟨Y,fin⟩) hs
def zfn (its:J8) (n j:Nat) (u:Vl):Obj.mapSeq (·.setIfInBounds j u) { cls:=.type "list",data:=.seq its.toArray n }={ cls:=.type "list",data:=.seq (its.set j u).toArray n }:=by
 simp [Obj.mapSeq]
def Inv.lst {mn:J7} {σ:St} {H:Hp} {s:Sh} {p:Ad} {xs:Jj} (I:Inv X mn σ H s) (h:H p=Z (.lst xs)) :
  ∃ (its:J8) (n:Nat),Vals xs its/\s.heap.get? p=Z { cls:=.type "list",data:=.seq its.toArray n }/\xs.length<=sizeLine:=by
 obtain ⟨z,its,n,r,e⟩:=I.hok p _ h;exact ⟨its,n,r,e,z⟩
def Inv.lstUpd {mn:J7} {σ:St} {H:Hp} {s:Sh} {p:Ad} {xs ys:Jj} {its its':J8} {n n':Nat} {f:Obj->Obj} (I:Inv X mn σ H s) (h:H p=Z (.lst xs))
  (ho:s.heap.get? p=Z { cls:=.type "list",data:=.seq its.toArray n }) (hf:f { cls:=.type "list",data:=.seq its.toArray n }={ cls:=.type "list",data:=.seq its'.toArray n' }) (r:Vals ys its') (hz:ys.length<=mI) (t:Nat) :
  Inv X mn σ (upd H p (.lst ys)) { s with heap:=s.heap.update p f,toks:=t }:=by
 have e:(s.heap.update p f).get? p=Z { cls:=.type "list",data:=.seq its'.toArray n' }:=by
  rw [Heap.get?_update_self f ho (by rw [hf] <;> rfl),hf]
 refine I.write (x:=p) (e:=p) (by rw [h];trivial) (.inl rfl) (λb u hb q=>(Heap.get?_update_other _ _ (oQ hb)).trans q) ⟨_,e⟩ ?_;exact ⟨hz,its',n',r,e⟩
inductive rSetL (o i v:V) (H:Hp) (Q:(Hp->Prop)):Prop
 | mk (p xs:_) (k j:_) (_:o=.ref p) (_:i=.int k) (_:H p=Z (.lst xs)) (_:ixN xs.length k=Z j) (_:Q (upd H p (.lst (xs.set j v))))
def Ys:PSet X rSetL:=by
 intro mn s σ H o i v ov iv u Q I ro ri rv h;obtain ⟨p,xs,k,j,rfl,rfl,hp,hj,q⟩:=h;cases ro;obtain ⟨t,rfl⟩:=ri;obtain ⟨its,n,r,ho,hz⟩:=I.lst hp;obtain ⟨h1,h2,h3,h4⟩:=ixN_seq hj;have hl:=r.length;have hn:=zda
 have I':Inv X mn σ (upd H p (.lst (xs.set j v))) { s with heap:=s.heap.update p (Obj.mapSeq (·.setIfInBounds j u)) } :=
  I.lstUpd hp ho (zfn its n j u) (r.set rv j) (by rw [nJ];exact hz) s.toks
 by_cases h0:0<=k
 .have hk:k.toNat=j:=by
   rw [seqIndex_of h0 h4] at h1;exact nR h1
  exact PySem.W.ki_setAt ho h0 (by omega) (by rw [mQ,← hl];exact h4) (by rw [hk];exact ⟨_,I',q⟩)
 .have hk:(k+(its.toArray.size:Int)).toNat=j:=by
   rw [seqIndex_neg (by omega) h3] at h1;rw [mQ,← hl];exact nR h1
  exact PySem.W.ki_setBack ho (by omega) (by rw [mQ,← hl];exact h3) (by omega) (by rw [hk];exact ⟨_,I',q⟩)
def zci (lo hi:Option Int) (n:Nat):(tO lo hi O n).1=((HT.sIx n 0 lo:Nat):Int)/\(tO lo hi O n).2.1=((HT.sIx n n hi:Nat):Int)/\(tO lo hi O n).2.2=1:=by
 refine ⟨?_,?_,Y⟩
 .cases lo with
  | none=>simp [tO,HT.sIx]
  | some i =>
   simp only [tO,HT.sIx,Option.getD_none,show (1:Int) > 0 by decide,if_true];by_cases h:i<0
   .simp only [h,if_true] <;> omega
   .simp only [h,if_false] <;> omega
 .cases hi with
  | none=>simp [tO,HT.sIx]
  | some i =>
   simp only [tO,HT.sIx,Option.getD_none,show (1:Int) > 0 by decide,if_true];by_cases h:i<0
   .simp only [h,if_true] <;> omega
   .simp only [h,if_false] <;> omega
def zbk (its:J8) (lo hi:Option Int):slicePick its.toArray lo hi O=((its.drop (HT.sIx its.length 0 lo)).take (HT.sIx its.length its.length hi-HT.sIx its.length 0 lo)).toArray:=by
 obtain ⟨h1,h2,h3⟩:=zci lo hi its.toArray.size;unfold slicePick;rw [h1,h2,h3];simp only [sliceRange_one,pick_run,mQ] <;> rfl
inductive rSlL (K:Fg) (x:V) (lo hi:Option Int) (H:Hp) (Q:VK):Prop
 | mk (a xs:_) (_:x=.ref a) (_:SqL K H a xs) (_:∀ p,H p=O->Q (.ref p) (upd H p (.lst (cutV xs lo hi))))
def sl_list:SlR X (rSlL X.K):=by
 intro mn s σ H x v vl vu lo hi sl Q I rx hs pl pu h;obtain ⟨a,xs,rfl,hx,q⟩:=h;cases rx;obtain ⟨its,r,ht,hz⟩:=I.list hx;have hlen:=r.length;refine ⟨"list",_,slot_list_getitem.lookup,ht.isList.typeIs,?_⟩;refine wpAny_getItem_list_slice ht.isList hs pl pu .none (by simp) ?_ (by rw [mQ] <;> omega);rw [zbk,← hlen];refine ⟨.ref s.heap.objs.size,_,I.laid (t':=s.toks) (o:=.lst (cutV xs lo hi)) (λb ob q=>mD _ q) (m8 _) ?_,Y,q _ (I.hok.fresh (m8 _))⟩;exact ⟨mL (zes xs lo hi) hz,_,0,(r.drop (HT.sIx xs.length 0 lo)).take (HT.sIx xs.length xs.length hi-HT.sIx xs.length 0 lo),mX _ rfl⟩
def XR:V->Bool
 | .non=>true
 | .bl _=>true
 | .int _=>true
 | .str _=>true
 | _=>false
def eqV:V->V->Bool
 | .non,.non=>true
 | .bl a,.bl b=>a == b
 | .bl a,.int b=>(if a then 1 else 0) == b
 | .int a,.bl b=>a == (if b then 1 else 0)
 | .int a,.int b=>a == b
 | .str a,.str b=>a == b
 | _,_=>false
def eqAt_V {A:Around} {s:Sh} {y x:V} {u v:Vl} (ry:RelV y u) (rx:RelV x v) (fy:XR y=true) (fx:XR x=true):SeqAt.EqAt A s u v (eqV y x):=by
 cases y with
 | non =>
  cases ry
  cases x with
  | non=>cases rx;exact SeqAt.EqAt.same _
  | bl b=>cases rx;exact SeqAt.EqAt.none_bool b
  | int b=>obtain ⟨t,rfl⟩:=rx;exact SeqAt.EqAt.none_int b t
  | str b=>obtain ⟨t,rfl⟩:=rx;exact SeqAt.EqAt.none_str b t
  | _=>exact absurd (show false=true from fx) q7x
 | bl a =>
  cases ry
  cases x with
  | non=>cases rx;exact SeqAt.EqAt.bool_none a
  | bl b=>cases rx;exact SeqAt.EqAt.bool_bool a b
  | int b=>obtain ⟨t,rfl⟩:=rx;exact SeqAt.EqAt.bool_int a b t
  | str b=>obtain ⟨t,rfl⟩:=rx;exact SeqAt.EqAt.bool_str a b t
  | _=>exact absurd (show false=true from fx) q7x
 | int a =>
  obtain ⟨t',rfl⟩:=ry
  cases x with
  | non=>cases rx;exact SeqAt.EqAt.int_none a t'
  | bl b=>cases rx;exact SeqAt.EqAt.int_bool a t' b
  | int b=>obtain ⟨t,rfl⟩:=rx;exact SeqAt.EqAt.int_int a t' b t
  | str b=>obtain ⟨t,rfl⟩:=rx;exact SeqAt.EqAt.int_str a t' b t
  | _=>exact absurd (show false=true from fx) q7x
 | str a =>
  obtain ⟨t',rfl⟩:=ry
  cases x with
  | non=>cases rx;exact SeqAt.EqAt.str_none a t'
  | bl b=>cases rx;exact SeqAt.EqAt.str_bool a t' b
  | int b=>obtain ⟨t,rfl⟩:=rx;exact SeqAt.EqAt.str_int a t' b t
  | str b=>obtain ⟨t,rfl⟩:=rx;exact SeqAt.EqAt.str_str a t' b t
  | _=>exact absurd (show false=true from fx) q7x
 | _=>exact absurd (show false=true from fy) q7x
def eqU (x:V) (u:Vl):Bool:=match u with
 | .none=>eqV .non x
 | .bool b=>eqV (.bl b) x
 | .int i _=>eqV (.int i) x
 | .str z _=>eqV (.str z) x
 | _=>false
def eqU_of {x y:V} {u:Vl} (r:RelV y u) (f:XR y=true):eqU x u=eqV y x:=by
 cases y with
 | non=>cases r;rfl
 | bl b=>cases r;rfl
 | int i=>obtain ⟨t,rfl⟩:=r;rfl
 | str z=>obtain ⟨t,rfl⟩:=r;rfl
 | _=>exact absurd (show false=true from f) q7x
theorem zdi {x:V}:∀ {xs:Jj} {us:J8},Vals xs us->xs.all XR=true->us.any (eqU x)=xs.any λy=>eqV y x
 | _,_,.nil,_=>rfl
 | y::xs,u::us,.cons r t,f=>by
  rw [List.all_cons,oo] at f;rw [rT,rT,eqU_of r f.1,zdi t f.2]
theorem za1 {A:Around} {s:Sh} {x:V} {v:Vl} (rx:RelV x v) (fx:XR x=true):∀ {xs:Jj} {us:J8},Vals xs us->xs.all XR=true->∀ u∈us,SeqAt.EqAt A s u v (eqU x u)
 | _,_,.nil,_=>λu hu=>by cases hu
 | y::xs,u::us,.cons r t,f=>λu' hu=>by
  rw [List.all_cons,oo] at f;rcases mM.mp hu with rfl | hu
  .rw [eqU_of r f.1];exact eqAt_V r rx f.1 fx
  .exact za1 rx fx t f.2 u' hu
def inV (x:V) (xs:Jj):Bool:=xs.any λy=>eqV y x
inductive rIn (K:Fg) (neg:Bool) (x y:V) (H:Hp) (Q:VK):Prop
 | mk (p xs:_) (_:y=.ref p) (_:(SqL K H p xs∨SqT K H p xs)) (_:XR x=true) (_:xs.all XR=true) (_:Q (.bl (if neg then !inV x xs else inV x xs)) H)
def zby:OpR X (pi .In) (rIn X.K false):=by
 intro mn s σ H x y v u Q I rx ry h;obtain ⟨p,xs,rfl,hq,fx,fs,q⟩:=h;cases ry;rcases hq with hq | hq
 .obtain ⟨its,r,pl,hz⟩:=I.list hq
  refine SeqAt.in_listAt (eqU x) pl.isList (λw hw=>za1 rx fx r fs w (by simpa using hw)) ⟨.bl _,H,I,Y,?_⟩;rw [show its.toArray.any (eqU x)=its.any (eqU x) by simp,zdi r fs];exact q
 .obtain ⟨its,r,pl,hz⟩:=I.tuple hq
  refine SeqAt.in_tupleAt (eqU x) pl (λw hw=>za1 rx fx r fs w (by simpa using hw)) ⟨.bl _,H,I,Y,?_⟩;rw [show its.toArray.any (eqU x)=its.any (eqU x) by simp,zdi r fs];exact q
def zH:Yp X (.builtin "len") (λxs H Q=>∃ p ys,xs=[.ref p]/\(SqL X.K H p ys∨SqT X.K H p ys)/\Q (.int ys.length) H):=by
 intro mn s σ H xs us Q I r h;obtain ⟨p,ys,rfl,hq,q⟩:=h;obtain ⟨u,rfl,rx⟩:=vals1 r;cases rx;have hn:=zda;rcases hq with hq | hq
 .obtain ⟨its,r',pl,hz⟩:=I.list hq
  have hlen:=r'.length;exact Calls.call_len_list pl.isList (by simp only [mQ] <;> omega) ⟨.int ys.length,H,I.tok _,⟨s.toks+1,by rw [mQ,hlen]⟩,q⟩
 .obtain ⟨its,r',pl,hz⟩:=I.tuple hq
  have hlen:=r'.length;exact len_tuple pl (by simp only [mQ] <;> omega) ⟨.int ys.length,H,I.tok _,⟨s.toks+1,by rw [mQ,hlen]⟩,q⟩
def xb:Yp X (.type "list") (λxs H Q=>∃ p ys,xs=[.ref p]/\(SqL X.K H p ys∨SqT X.K H p ys)/\∀ l,H l=O->Q (.ref l) (upd H l (.lst ys))):=by
 intro mn s σ H xs us Q I r h;obtain ⟨p,ys,rfl,hq,q⟩:=h;obtain ⟨u,rfl,rx⟩:=vals1 r;cases rx
 have fin:∀ (its:J8),Vals ys its->ys.length<=mI->∀ (h':Heap) (c':Nat),(∀ b o',s.heap.get? b=Z o'->h'.get? b=Z o') ->
   h'.get? s.heap.objs.size=Z { cls:=.type "list",dict:=O,data:=.seq its.toArray c',slots:=#[] }->EP X mn σ Q (.ref s.heap.objs.size) { s with heap:=h' }:=λits r' hz h' c' kp e =>
  ⟨.ref s.heap.objs.size,_,I.laid (t':=s.toks) kp (m8 _) (show ObjOk X.prog X.w _ h' _ (.lst ys) from ⟨hz,its,c',r',e⟩),Y,q _ (I.hok.fresh (m8 _))⟩
 rcases hq with hq | hq
 .obtain ⟨its,r',pl,hz⟩:=I.list hq
  have hlen:=r'.length;obtain ⟨o,ho,hc,n,hd⟩:=pl.isList;exact call_list_seq p (.inl rfl) ho hc hd (λh' c' kp e=>fin its r' hz h' c' kp e) (by simp only [mQ] <;> omega)
 .obtain ⟨its,r',pl,hz⟩:=I.tuple hq
  have hlen:=r'.length;obtain ⟨o,ho,hc,n,hd⟩:=pl;exact call_list_seq p (.inr rfl) ho hc hd (λh' c' kp e=>fin its r' hz h' c' kp e) (by simp only [mQ] <;> omega)
def tyV (K:Fg) (T:String) (x:V) (H:Hp):Prop:=match x with
 | .str _=>T="str"
 | .int _=>T="int"
 | .ref p=>(T="list"/\∃ xs,SqL K H p xs)∨(T="tuple"/\∃ o,K.lookup p=Z o/\o.cls=.type "tuple"/\o.dict=O) ∨
   (T="dict"/\((∃ mo,H p=Z (.dK mo))∨∃ mo,H p=Z (.dT mo)))∨(T="set"/\∃ S n,H p=Z (.set S n))
 | _=>False
def tyV_is {mn:J7} {σ:St} {H:Hp} {s:Sh} {T:String} {x:V} {v:Vl} (I:Inv X mn σ H s) (r:RelV x v) (ty:tyV X.K T x H) :
  s.TypeIs v T/\∀ a,v=.ref a->∃ ob,s.heap.get? a=Z ob/\ob.dict=O:=by
 cases x with
 | str z =>
  obtain ⟨t,rfl⟩:=r;cases (show T="str" from ty);exact ⟨typeIs_str s z t,λ_ e=>nomatch e⟩
 | int i =>
  obtain ⟨t,rfl⟩:=r;cases (show T="int" from ty);exact ⟨typeIs_int s i t,λ_ e=>nomatch e⟩
 | ref p =>
  cases r;rcases ty with ⟨rfl,xs,hq⟩ | ⟨rfl,o,hk,hc,hd⟩ | ⟨rfl,hk⟩ | ⟨rfl,S,n,hk⟩
  .obtain ⟨its,_,pl,_⟩:=I.list hq
   refine ⟨pl.isList.typeIs,λa e=>?_⟩;cases e;obtain ⟨o,n,e,c,hd,_⟩:=pl;exact ⟨o,e,hd⟩
  .refine ⟨⟨o,I.kIn p o hk,hc⟩,λa e=>?_⟩
   cases e;exact ⟨o,I.kIn _ o hk,hd⟩
  .have z:∃ o,s.heap.get? p=Z o/\o.ExactDict:=by
    rcases hk with ⟨mo,hk⟩ | ⟨mo,hk⟩
    .obtain ⟨_,_,_,_,o,_,_,e,ex,_⟩:=I.hok p _ hk
     exact ⟨o,e,ex⟩
    .obtain ⟨_,_,_,_,o,_,_,e,ex,_⟩:=I.hok p _ hk
     exact ⟨o,e,ex⟩
   obtain ⟨o,e,ex⟩:=z;refine ⟨⟨o,e,ex.1⟩,λa e2=>?_⟩;cases e2;exact ⟨o,e,ex.2.1⟩
  .obtain ⟨o,_,_,_,e,ex,_⟩:=I.hok p _ hk
   refine ⟨⟨o,e,ex.1⟩,λa e2=>?_⟩;cases e2;exact ⟨o,e,ex.2.1⟩
 | _=>exact p4 ty
def tBM (K:Fg) (T:String) (r:V->Jj->Hp->VK->Prop) (to:TE) (t:TA):TE:=λσ H Q=>to σ H λx H1=>tyV K T x H1/\t σ H1 λxs H2=>r x xs H2 Q
variable {o e:Expr} {es:Jd} {to:TE} {t:TA} {name:Str} {apos cpos:Pos} {T id:String} {r:V->Jj->Hp->VK->Prop}
def Zb (pa:PlainAttrs T) (slot:Slot T name id) (hty:typeOf (.builtin id)=pure (.type "method_descriptor")) (hm:MtR X id r) (ho:PE X o to) (ha:PA X (e::es) t)
  (hbase:tJ o name X.env (eval o X.env)=eval o X.env:=by rfl)
  (hfew:((backTo cpos (mO (e::es) X.env)).all (λx=>!x.1) && (backToKw cpos (sM [] X.env)).all (λx=>x.1.isSome)
   && decide ((e::es).length+([]:List Keyword).length+(if ([]:List Keyword).isEmpty then 0 else 1)<30))=true:=by rfl)
  (hline:(apos.endLine == cpos.line)=true:=by rfl) (hs:mO (e::es) X.env=(false,eval e X.env)::mO es X.env:=by rfl) (hplain:(backTo cpos (mO es X.env)).any (·.1)=false:=by rfl) :
  PE X (.Call (.Attribute o name apos) (e::es) [] cpos) (tBM X.K T r to t):=by
 intro mn s σ H Q I h;refine wpAny_Call_method_late hbase hfew hline rfl (thn (ho mn s σ H _ I h) λv s1 ⟨x,H1,I1,r1,ty,q1⟩=>?_);obtain ⟨h1,h2⟩:=tyV_is I1 r1 ty;refine ⟨T,id,pa,slot,hty,h1,h2,?_⟩;have hA:=ha cpos mn s1 σ H1 _ I1 q1;rw [hs] at hA ⊢;refine Calls.callWith_builtin (by show (false || (backTo cpos (mO es X.env)).any (·.1))=false;rw [hplain] <;> rfl) (tI ?_);exact thn hA λus s2 ⟨vs,H2,I2,r2,q2⟩=>hm mn s2 σ H2 x vs v us Q I2 r1 r2 q2
/- xs.append(e),list.index on a module's tuple .. are MtR facts of 06m -/
end
def MtM (X:Cx) (id:String) (r:V->Jj->Hp->VK->Prop):Prop :=
 ∀ (mn:J7) (s:Sh) (σ:St) (H:Hp) (x:V) (xs:Jj) (v:Vl) (us:J8) (Q:VK),Inv X mn σ H s->RelV x v->Vals xs us->r x xs H Q ->
  wpAny (model X.prog X.w) X.A (call (.builtin id) (v::us)) (EP X mn σ Q) X.xe s
theorem Vals.one:∀ {x:V} {us:J8},Vals [x] us->∃ u,us=[u]/\RelV x u
 | _,_,.cons r .nil=>⟨_,Y,r⟩
theorem Vals.rep {xs:Jj} {us:J8} (h:Vals xs us):∀ k:Nat,Vals (mT k xs).flatten (mT k us).flatten
 | 0=>.nil
 | k+1=>by
  rw [oy,oy,pK,pK];exact Vals.append h (Vals.rep h k)
theorem zb5 (its:J8):∀ (k:Nat) (acc:J8),
  List.foldl (λx1 x2=>x1++x2) acc.toArray (mT k its.toArray)=(acc++(mT k its).flatten).toArray
 | 0,acc=>by simp
 | k+1,acc=>by
  have e:acc.toArray++its.toArray=(acc++its).toArray:=by simp
  have e2:(acc++its)++(mT k its).flatten=acc++(mT (k+1) its).flatten:=by
   rw [oy,pK,n8]
  rw [← e2,← zb5 its k (acc++its),← e,oy,List.foldl_cons]
section
variable {σ:St} {s:Sh} {l b:Ad} {xs ys zs:Jj}
def Inv.lset {its its':J8} {n:Nat} {f:Array Vl->Array Vl} {t':Nat} (I:Inv X mn σ H s) (hH:H l=Z (.lst xs))
  (e:s.heap.get? l=Z { cls:=.type "list",data:=.seq its.toArray n }) (hf:f its.toArray=its'.toArray) (hv:Vals ys its') (hz:ys.length<=mI) :
  Inv X mn σ (upd H l (.lst ys)) { s with heap:=s.heap.update l (Obj.mapSeq f),toks:=t' }:=by
 have q:=PySem.IsL.update e f;rw [hf] at q;refine I.write (x:=l) (e:=l) (by rw [hH];exact trivial) (.inl rfl) (λb' u hb hu=>(Heap.get?_update_other s.heap (Obj.mapSeq f) (oQ hb)).trans hu) ⟨_,q⟩ ?_;exact ⟨hz,its',_,hv,q⟩
def Inv.lnew {its:J8} {t':Nat} (I:Inv X mn σ H s) (hv:Vals ys its) (hz:ys.length<=mI) :
  Inv X mn σ (upd H s.heap.objs.size (.lst ys)) { s with heap:=s.heap.push { cls:=.type "list",data:=.seq its.toArray },toks:=t' } :=
 I.laid (λ_ _ q=>mD _ q) (m8 _) ⟨hz,its,0,hv,mX _ rfl⟩
def Inv.fresh (I:Inv X mn σ H s):H s.heap.objs.size=O:=I.hok.fresh (m8 _)
def Inv.lstM (I:Inv X mn σ H s) (hH:H l=Z (.lst xs)):xs.length<=mI/\∃ (its:J8) (n:Nat),Vals xs its/\xs.length=its.length/\s.heap.get? l=Z { cls:=.type "list",data:=.seq its.toArray n }:=by
 obtain ⟨z,its,n,r,e⟩:=I.hok l _ hH;exact ⟨z,its,n,r,r.length,e⟩
def zec {n:Nat} (h:n<=mI):sf n=false:=by
 unfold sf;exact decide_eq_false (by omega)
end
inductive rAppend (x:V) (vs:Jj) (H:Hp) (Q:VK):Prop
 | mk (l xs y:_) (_:x=.ref l) (_:vs=[y]) (_:H l=Z (.lst xs)) (_:xs.length<mI) (_:Q .non (upd H l (.lst (xs++[y]))))
def ye:MtM X "list.append" rAppend:=by
 intro mn s σ H x vs v us Q I rx rv h;obtain ⟨l,xs,y,rfl,rfl,hH,hz,q⟩:=h;cases rx;obtain ⟨u,rfl,ru⟩:=rv.one;obtain ⟨z,its,n,r,hl,e⟩:=I.lstM hH;refine call_meets F.slot_list_append ⟨_,e,Y⟩ F.entry_list_append (F.args_list_append_2 _ _) (PySem.list_append l its.toArray n u (by rw [mQ];omega)) ⟨e,?_⟩;refine ⟨.non,_,I.lset (its':=its++[u]) hH e (by simp) (r.append (.cons ru .nil)) ?_,Y,q⟩;rw [Jf,List.length_singleton];omega
inductive rExtend (x:V) (vs:Jj) (H:Hp) (Q:VK):Prop
 | mk (l b:_) (xs zs:_) (_:x=.ref l) (_:vs=[.ref b]) (_:H l=Z (.lst xs)) (_:H b=Z (.lst zs)) (_:xs.length+zs.length<=mI) (_:Q .non (upd H l (.lst (xs++zs))))
def zbz:MtM X "list.extend" rExtend:=by
 intro mn s σ H x vs v us Q I rx rv h;obtain ⟨l,b,xs,zs,rfl,rfl,hH,hB,hz,q⟩:=h;cases rx;obtain ⟨u,rfl,ru⟩:=rv.one;cases ru;obtain ⟨z,its,n,r,hl,e⟩:=I.lstM hH;obtain ⟨z2,its2,n2,r2,hl2,e2⟩:=I.lstM hB;have hsz:its.toArray.size+its2.toArray.size<=sizeLine:=by rw [mQ,mQ];omega
 have hlong:¬ (!its.toArray.isEmpty && sf (its.toArray.size+its2.toArray.size))=true:=by
  rw [zec hsz,Bool.and_false];exact q7x
 refine call_meets F.slot_list_extend ⟨_,e,Y⟩ F.entry_list_extend (F.args_list_extend_2 _ _)
  (AutoSeq1.list_extend_list_list_0 l its.toArray n b its2.toArray n2 hlong (by rw [mQ];omega) (by omega)) ⟨e,e2,?_⟩
 refine ⟨.non,_,I.lset (its':=its++its2) hH e (by simp) (r.append r2) ?_,Y,q⟩;rw [Jf];omega
inductive rCat (x y:V) (H:Hp) (Q:VK):Prop
 | mk (l b:_) (xs zs:_) (_:x=.ref l) (_:y=.ref b) (_:H l=Z (.lst xs)) (_:H b=Z (.lst zs)) (_:xs.length+zs.length<=mI) (_:∀ p,H p=O->Q (.ref p) (upd H p (.lst (xs++zs))))
def zc5:OpR X (sw .Add) rCat:=by
 intro mn s σ H x y v u Q I rx ry h;obtain ⟨l,b,xs,zs,rfl,rfl,hH,hB,hz,q⟩:=h;cases rx;cases ry;obtain ⟨z,its,n,r,hl,e⟩:=I.lstM hH;obtain ⟨z2,its2,n2,r2,hl2,e2⟩:=I.lstM hB;refine PySem.P.add_list e e2 ?_ (by rw [mQ,mQ];omega);have ea:its.toArray++its2.toArray=(its++its2).toArray:=by simp
 rw [ea];exact ⟨.ref _,_,I.lnew (t':=s.toks) (r.append r2) (by rw [Jf];omega),Y,q _ I.fresh⟩
inductive rRep (x y:V) (H:Hp) (Q:VK):Prop
 | mk (l k xs:_) (_:x=.ref l) (_:y=.int k) (_:H l=Z (.lst xs)) (_:-(2 ^ 63)<=k) (_:k<2 ^ 63) (_:xs.length*k.toNat<=mI) (_:∀ p,H p=O->Q (.ref p) (upd H p (.lst (mT k.toNat xs).flatten)))
def len_rep {α:Type} (xs:List α) (k:Nat):(mT k xs).flatten.length=k*xs.length:=by
 induction k with
 | zero=>simp
 | succ k ih=>rw [oy,pK,Jf,ih,Nat.succ_mul,Nat.add_comm]
def zc4:OpR X (sw .Mult) rRep:=by
 intro mn s σ H x y v u Q I rx ry h;obtain ⟨l,k,xs,rfl,rfl,hH,h1,h2,hz,q⟩:=h;cases rx;obtain ⟨t,rfl⟩:=ry;obtain ⟨z,its,n,r,hl,e⟩:=I.lstM hH;have hlen:its.toArray.size*k.toNat<=sizeLine:=by rw [mQ,← hl];exact hz
 have hcap:¬ its.toArray.size*k.toNat > (2 ^ 63-1) / 8:=by
  have:(sizeLine:Nat)<=(2 ^ 63-1) / 8:=by decide
  omega
 have hfit:¬ (!Builtin.List.listFitsIndex k)=true:=by
  rw [fitsIndex_both h1 h2];exact q7x
 have hlong:¬ sf (its.toArray.size*k.toNat)=true:=by
  rw [zec hlen];exact q7x
 have hnew:List.foldl (λx1 x2=>x1++x2) #[] (mT (if its.toArray.isEmpty=true then 0 else k.toNat) its.toArray)=(mT k.toNat its).flatten.toArray:=by
  have f0:∀ m:Nat,List.foldl (λx1 x2=>x1++x2) #[] (mT m its.toArray)=(mT m its).flatten.toArray:=λm=>by
   have:=zb5 its m [];rw [List.nil_append] at this;exact this
  rw [f0]
  cases its with
  | nil=>simp
  | cons a r'=>rw [if_neg (by simp)]
 refine wpAny_binaryOp_repeat_ref (T:="list") (U:="int") (by decide) ⟨_,e,Y⟩ (λs'=>typeIs_int s' k t) noFill_list_mul F.fills_int_mul F.slot_int_rmul repeat_list F.slot_int_index.lookup
  (call_meets F.slot_int_rmul (typeIs_int s k t) F.entry_int_rmul (F.args_int_rmul_2 _ _) (int___rmul___int_list k t l its.toArray n)
   ⟨e,Y,⟨_,e,Y⟩,call_meets F.slot_list_mul ⟨_,e,Y⟩ F.entry_list_mul (F.args_list_mul_2 _ _) (AutoListH.list___mul___list_int_3 l its.toArray n k t hfit hcap hlong) ⟨e,?_⟩⟩)
 rw [hnew];exact ⟨.ref _,_,I.lnew (t':=s.toks) (r.rep k.toNat) (by rw [len_rep,Nat.mul_comm];exact hz),Y,q _ I.fresh⟩
section
variable {A:Around} {E:J5} {s:Sh}
set_option maxRecDepth 100000 in
end
end L2
namespace Att
open PySem PySem.W PySem.Calls PyProof.Rows
def XW {P:Params} {h:Heap}:∀ (ns:J6) (vs:J8),WellAll P h vs (ns.map WData.int)->IntsAre vs ns:=by
 intro ns
 induction ns with
 | nil =>
  intro vs w;rw [List.map_nil] at w;cases w;exact .nil
 | cons n ns ih =>
  intro vs w;rw [o5] at w
  cases w with
  | cons a b =>
   cases a;exact .cons _ _ (ih _ b)
def script_of {l:OpenLaw} {n:Nat} (hn:l.most=Z n) {P:Params} {h:Heap} {args:List WData} {vals:J8}
  (hpre:l.row.toRowW.claim.pre args=true) (hwl:WellAll P h vals args) :
  ∃ a vs ns,vals=[mK a]/\args=[WData.list (ns.map WData.int)]/\h.get? a=Z { cls:=.type "list",data:=.seq vs.toArray }/\IntsAre vs ns/\ns.length<=n:=by
 have hsh:WShape.hasAll [] args [.list .int]=true:=(pre_splitW hpre).1;have hc:l.pre.holds [] { args:=args }=true:=(pre_splitW hpre).2;obtain ⟨d,r,rfl,h1,h2⟩:=hasAllW_cons hsh;obtain rfl:=hasAllW_nil h2;obtain ⟨xs,rfl,h3⟩:=hasW_list h1;obtain ⟨ns,rfl⟩:=items_int h3
 have hlen:ns.length<=n:=by
  unfold OpenLaw.pre at hc
  have h4:(WTm.not (.lt (.lit (.int (n:Int))) (.len (.arg 0)))).holds [] { args:=[.list (ns.map .int)] }=true:=by
   have h4:=(holds_andW hc).1;rw [hn] at h4;exact h4
  have h5:=condW_of h4 (w_not (w_lt w_lit (w_len_list (w_arg rfl))));rw [Je] at h5;refine Nat.le_of_not_lt λq=>?_;have q':(n:Int)<((ns.length:Nat):Int):=by omega
  first
   | (rw [decide_eq_true q'] at h5;exact absurd h5 (by decide))
   | (simp at h5;omega)
 cases hwl with
 | cons w1 w2 =>
  cases w2
  cases w1 with
  | list ho hall=>exact ⟨_,_,ns,Y,Y,ho,XW ns _ hall,hlen⟩
def post_true (l:OpenLaw) (args:List WData):l.row.toRowW.claim.post args (.bool true) args=true :=
 postW_of (r:=l.row.toRowW) (X:=(true == true))
  (show WShape.has [] (.bool true) .bool=true by first | rfl | decide | simp [WShape.has,WShape.arms,WShape.armsAll])
  (show (WTm.eq .res (.lit (.bool true))).value [] { args:=args,res:=Z (.bool true),after:=args }=Z (.bool (true == true)) from w_eq_bool (w_res rfl) w_lit) rfl
def attach_call {l:OpenLaw} {n:Nat} {q:nQ} {loose:Jb} {XP:(J0)->Heap->Prop} {YP:World->Heap->Prop} {d:DefRec}
  (hn:l.most=Z n) (hdf:d.params.defaults=[])
  (call:∀ (w:World) (s₀ s₁:Sh) (mg mb:J0) (fa:Ad) (o:Obj) (pm cd doc:Vl) (a:Ad) (vs:J8) (ns:J6),
   Ground q loose [] XP w s₀ mg mb s₁.heap->YP w s₁.heap ->
   s₁.heap.get? fa=Z o->o.data=.func (docDef d.name d.params d.body d.scope pm cd doc)->s₁.heap.CodeRec cd d.name->mg d.name=Z (.ref fa) ->
   s₁.heap.get? a=Z { cls:=.type "list",data:=.seq vs.toArray }->IntsAre vs ns->ns.length<=n->s₁.gens=#[] ->
   tP (model l.prog w) callerA (.call (.ref fa) ⟨[.ref a],[]⟩) (λr s'=>r=.ok (.ret (.bool true))/\OldK s₁.heap s'.heap/\s'.os=s₁.os/\AllBare s'.gens) s₁) :
  WalkO q loose XP YP l.row.toRowW d [] (λf vs=>PySem.call f vs):=by
 intro w s₀ s₁ mg mb G Y0_ fa o pm cd doc dV kV ho hd hcd hD hmg hg args vals as hpre hlay hrd hwl hlo;obtain rfl:dV=.none:=Dflts.none hD hdf;obtain rfl:kV=.none:=Dflts.noKw hD;obtain ⟨a,vs,ns,rfl,rfl,hobj,hints,hlen⟩:=script_of hn hpre hwl;refine enter_call (codeAny_mono (call w s₀ s₁ mg mb fa o pm cd doc a vs ns G Y0_ ho (fd_plain hd) hcd hmg hobj hints hlen hg) λr s' hq=>?_);obtain ⟨rfl,h2,h3,h4⟩:=hq;exact ⟨.inl ⟨.bool true,.bool true,[],Y,λ_=>rfl,.bool true,post_true l _,λ_=>⟨List.Pairwise.nil,λ_ hm=>(nomatch hm)⟩⟩,h2,h3,h4⟩
section
variable {A:Around} {E:J5} {s:Sh} {K:Frag}
end
end Att
namespace L2
open PySem PySem.Spec PyProof.Rows
theorem zbs:∀ {vs:J8} {ns:J6},IntsAre vs ns->Vals (ns.map V.int) vs
 | _,_,.nil=>.nil
 | _,_,.cons n t h=>.cons ⟨t,Y⟩ (zbs h)
def Only (H:Hp):Prop:=∀ b,H b=O∨∃ o xs,H b=Z (.frz o (.lst xs))
def law_call {P:nQ} {w:World} {K:Fg} {mg mb:J0} {CX:CXT} {k:Nat} {fa a:Ad} {fd:og} {x:Str} {sp:Sp} {s₁:Sh} {vs:J8} {ns:J6}
  (KX:K.In s₁.heap) (hns:s₁.heap.Ns mW mg) (hb:s₁.heap.Ns builtinsNs mb) (hbb:∀ x:Str,x≠"__name__"->mb x=sP x) (hlim:s₁.heap.NoLimit) (hg:s₁.gens=#[])
  (ha:s₁.heap.get? a=Z { cls:=.type "list",data:=.seq vs.toArray }) (hi:IntsAre vs ns) (hl:ns.length<=mI) (hr:Room k callerA)
  (F:∀ base:Heap,K.In base->base.Ns mW mg->FnOk P w K mg base CX k fa fd [x] sp) (hbind:∀ (s:Sh) (u:Vl),BindsTo s fd ⟨[u],[]⟩ [(x,u)])
  (hsp:∀ H:Hp,Only H->SqL K H a (ns.map V.int)->sp [.ref a] H (λv _=>v=.bl true) λ_ _ _=>False)
  (hCX:∀ H e s',CX [] H s₁ (λ_ _ _=>False) e s'->False) :
  tP (model P w) callerA (.call (.ref fa) ⟨[.ref a],[]⟩) (λr s'=>r=.ok (.ret (.bool true))/\OldK s₁.heap s'.heap/\s'.os=s₁.os/\AllBare s'.gens) s₁:=by
 have rv:=zbs hi;have lenV:=hi.length
 have core:∀ H:Hp,Only H->SqL K H a (ns.map V.int)->HOk P w H s₁.heap->(∀ b,H b≠O->b=a)->(H a≠O->K.lookup a=O) ->
   tP (model P w) callerA (.call (.ref fa) ⟨[.ref a],[]⟩) (λr s'=>r=.ok (.ret (.bool true))/\OldK s₁.heap s'.heap/\s'.os=s₁.os/\AllBare s'.gens) s₁:=by
  intro H hO hS hok hA hK;have base_of:∀ {b:Ad} {o:Obj},s₁.heap.get? b=Z o->H b=O->(hidT s₁.heap H).get? b=Z o:=λe n=>hidT_get e n
  have noA:∀ {b:Ad} {o:Obj} {es:Array DictEntry} {ep:Nat},s₁.heap.get? b=Z o->o.data=.dict es ep->H b=O:=λ{b o es ep} e d=>by
   cases q:H b with
   | none=>rfl
   | some u =>
    have e':b=a:=hA b (by rw [q];simp);subst e';rw [ha] at e;cases e;have d':Data.seq vs.toArray _=Data.dict es ep:=d;cases d'
  have nsK:∀ {b:Ad} {m:J0},s₁.heap.Ns b m->(hidT s₁.heap H).Ns b m:=λ{b m} ⟨o,es,ep,e,d,r⟩=>⟨o,es,ep,base_of e (noA e d),d,r⟩
  have hKb:K.In (hidT s₁.heap H):=λb o e=>base_of (KX b o e) (by
   cases q:H b with
   | none=>rfl
   | some u =>
    have e':b=a:=hA b (by rw [q];simp);subst e';rw [hK (by rw [q];simp)] at e;cases e)
  have hM:Mod K mg (hidT s₁.heap H):=⟨hKb,nsK hns,⟨mb,nsK hb,hbb⟩,let ⟨mc,h1,h2⟩:=hlim;⟨mc,nsK h1,h2⟩⟩;have e0:Env0 P w K mg (hidT s₁.heap H) callerA [] s₁ H:=⟨Y,hM,λb o e=>of_hidT e,Nat.le_of_eq (hidT_size _ _),trivial,λb hb=>absurd (show b∈([]:Jc) from hb) (by simp),hok,.of_eq hg⟩;refine codeAny_mono ((F _ hKb (nsK hns)).run callerA [] s₁ H ⟨[.ref a],[]⟩ [.ref a] [.ref a] _ _ hr e0 (hbind s₁ (.ref a)) (.cons rfl .nil) (hsp H hO hS)) λr s' h=>?_
  cases r with
  | error e=>exact (hCX H e s' h).elim
  | ok fl =>
   cases fl with
   | next=>exact p4 h
   | brk=>exact p4 h
   | cont=>exact p4 h
   | ret u =>
    obtain ⟨v,H',os,bare,un,hok',r',q⟩:=h;have q':v=.bl true:=q;subst q';obtain rfl:u=Value.bool true:=r';refine ⟨Y,OldK.of_keep λb o e=>?_,os,bare⟩
    cases q:H b with
    | none=>exact un.keep b o e q (by intro z;exact absurd (show b∈([]:Jc) from z) (by simp)) (by simp)
    | some u =>
     rcases hO b with z | ⟨ob,xs,z⟩
     .rw [q] at z;cases z
     .have z2:=un.frzs b ob _ z
      obtain ⟨e1,_⟩:=hok b _ z;obtain ⟨e2,_⟩:=hok' b _ z2;rw [e] at e1;cases e1;exact e2
 cases hk:K.lookup a with
 | some o =>
  have e:=KX a o hk;rw [ha] at e;cases e;refine core (λ_=>O) (λ_=>.inl rfl) (.inr ⟨_,vs.toArray,_,hk,Y,Y,Y,by rw [mQ,lenV];exact hl,by simpa using rv⟩) (λb u z=>by have z':(O:Option HO)=Z u:=z;cases z') (λb z=>absurd rfl z) λz=>absurd rfl z
 | none =>
  refine core (λb=>if b=a then Z (.frz { cls:=.type "list",data:=.seq vs.toArray } (.lst (ns.map V.int))) else O) (λb=>?_) (.inl (.inr ⟨{ cls:=.type "list",data:=.seq vs.toArray },if_pos rfl⟩)) (λb u z=>?_) (λb z=>?_) λ_=>hk
  .by_cases hb:b=a
   .exact .inr ⟨_,_,if_pos hb⟩
   .exact .inl (if_neg hb)
  .by_cases hb:b=a
   .have z':=(if_pos hb).symm.trans z
    cases z';subst hb;exact ⟨ha,by rw [Je];exact hl,vs,_,rv,ha⟩
   .have z':=(if_neg hb).symm.trans z
    cases z'
  .by_cases hb:b=a
   .exact hb
   .exact absurd (if_neg hb) z
def walk_of {l:PySem.W.OpenLaw} {n k:Nat} {q:nQ} {loose:Jb} {XP:(J0)->Heap->Prop} {YP:World->Heap->Prop} {d:DefRec} {K:Params->Fg} {CX:World->CXT} {sp:World->Sp} {x:Str}
  (hn:l.most=Z n) (hn2:n<=mI) (hdf:d.params.defaults=[]) (hr:Room k callerA)
  (hY:∀ (w:World) (h:Heap),YP w h->(K w.params).In h)
  (F:∀ (w:World) (mg:J0) (fa:Ad) (h:Heap),(K w.params).In h->h.Ns mW mg->mg d.name=Z (.ref fa) ->
   ∃ fd:og,(∀ (s:Sh) (u:Vl),BindsTo s fd ⟨[u],[]⟩ [(x,u)]) /\
    ∀ base:Heap,(K w.params).In base->base.Ns mW mg->FnOk l.prog w (K w.params) mg base (CX w) k fa fd [x] (sp w))
  (hsp:∀ (w:World) (H:Hp) (a:Ad) (ns:J6),ns.length<=n->Only H->SqL (K w.params) H a (ns.map V.int)->sp w [.ref a] H (λv _=>v=.bl true) λ_ _ _=>False)
  (hCX:∀ (w:World) (H:Hp) (s:Sh) (e:Vl) (s':Sh),CX w [] H s (λ_ _ _=>False) e s'->False) :
  PySem.W.WalkO q loose XP YP l.row.toRowW d [] (λf vs=>PySem.call f vs):=by
 refine Att.attach_call hn hdf λw s₀ s₁ mg mb fa o pm cd doc a vs ns G Y0_ ho hd hcd hmg hobj hints hlen hg=>?_;have KX:=hY w _ Y0_;obtain ⟨fd,hb,hF⟩:=F w mg fa _ KX G.T.g hmg;exact law_call KX G.T.g G.T.b G.T.builtins G.T.nolimit hg hobj hints (mL hlen hn2) hr hF hb (λH hO hS=>hsp w H a ns hlen hO hS) λH e s'=>hCX w H s₁ e s'
end L2
/- THE LAST THEOREM (shape;LID,My.* are yours):
   My.Adr: a structure of the addresses that your layer names (classes,functions);My.Txt K t: a structure (Prop) of the equations over K;
   My.txt_mk:{K} {implicit addresses ..} (e1:nsIn K mW "law"=Z (Z (.ref f))) (e2:K.lookup f=Z ⟨oc,od,.func (fnOf "law" "law" params body mC dV kV doc pm an mx ct),sl⟩) (e3:codeIn K mx "law"=true) ..:∃ t,My.Txt K t
set_option maxRecDepth 100000 in
set_option maxHeartbeats 0 in
(the tactic k_is has no namespace: write k_is) -/
namespace L2
open PySem PySem.Spec PyProof.Rows
def zR (s:Stmt) (j:Nat):Stmt:=match s with
 | .ClassDef _ _ _ body _ _ _ _ _ _ _=>body.getD j (.Pass ⟨0,0,0,0⟩)
 | _=>.Pass ⟨0,0,0,0⟩
def yj (s:Stmt):Arguments:=match s with
 | .FunctionDef _ a _ _ _ _ _ _ _ _=>a
 | _=>{ posonlyargs:=[],args:=[],vararg:=O,kwonlyargs:=[],kw_defaults:=[],kwarg:=O,defaults:=[] }
def zS (s:Stmt):List Stmt:=match s with
 | .FunctionDef _ _ b _ _ _ _ _ _ _=>b
 | _=>[]
def ze (s:Stmt):Scope:=match s with
 | .FunctionDef _ _ _ _ _ _ sc _ _ _=>sc
 | _=>{ kind:=.function,names:=[],isGenerator:=false,isCoroutine:=false }
abbrev CX0:CXT:=λ_ _ _ _ _ _=>False
abbrev E0:XK:=λ_ _ _=>False
def zo {X:Cx}:xf CX0 X E0:=λ_ _ _ _ _ _ _ h=>h.elim
structure Fun (K:Fg) (x mt:Str) (st:Stmt) (f:Ad) (fd:og):Prop where
 ex:∃ (oc:Vl) (od:Option Ad) (kV doc pm:Vl) (an:Option Ad) (mx ct:Vl) (osl:Array (Ja)),
  fd=o4 x mt (yj st) (zS st) (ze st) .none kV doc pm an mx ct/\K.lookup f=Z ⟨oc,od,.func fd,osl⟩/\oX K mx mt=true
 kp:mR K (.ref f)=true
section
variable {K:Fg} {base:Heap}
def Fun.ok {x mt:Str} {st:Stmt} {f:Ad} {fd:og} {N ps:Jb} {k:Nat} {sp:Sp} (F:Fun K x mt st f fd) (S:FnScope N ps (ze st)) (len:∀ vs H Q E,sp vs H Q E->vs.length=ps.length)
  (hbody:∀ (mx:Vl) (A:Around) (outer:List Env) (s:Sh) (H:Hp) (vs:Jj) (Q:VK) (E:XK),Room k (A.deeper (envOfC mt (ze st) s.heap.objs.size f mx))->sp vs H Q E ->
   ∃ t,PSs (yh CX0 P w K mg base N mt (ze st) f mx A outer s H E).nox (zS st) t/\t { nx:=λ_ H'=>Q .non H',rt:=Q } (start N vs) H):FnOk P w K mg base CX0 (k+1) f fd ps sp:=by
 obtain ⟨oc,od,kV,doc,pm,an,mx,ct,osl,rfl,lk,hcd⟩:=F.ex;refine fn_of lk hcd S len λA outer s H vs Q E hr hsp=>?_;obtain ⟨t,h,q⟩:=hbody mx A outer s H vs Q E hr hsp;exact ⟨t,h.nox,q⟩
def Fun.binds {x mt:Str} {st:Stmt} {f:Ad} {fd:og} {ps:Jb} (F:Fun K x mt st f fd)
  (h:∀ (kV doc pm:Vl) (an:Option Ad) (mx ct:Vl) (us:J8),us.length=ps.length->bindArgs (o4 x mt (yj st) (zS st) (ze st) .none kV doc pm an mx ct) ⟨us,[]⟩=pure (ps.zip us)):Binds K fd ps []:=by
 obtain ⟨oc,od,kV,doc,pm,an,mx,ct,osl,rfl,lk,hcd⟩:=F.ex;exact .all (h kV doc pm an mx ct)
def Y2 {x mt:Str} {st:Stmt} {f:Ad} {oc:Vl} {od an:Option Ad} {osl:Array (Ja)} {kV doc pm mx ct:Vl} (l:K.lookup f=Z ⟨oc,od,.func (o4 x mt (yj st) (zS st) (ze st) .none kV doc pm an mx ct),osl⟩)
  (c:oX K mx mt=true) (k:mR K (.ref f)=true):Fun K x mt st f (o4 x mt (yj st) (zS st) (ze st) .none kV doc pm an mx ct):=⟨⟨oc,od,kV,doc,pm,an,mx,ct,osl,Y,l,c⟩,k⟩
end
def pv (i:Nat) {x:Str} {pos:Pos} (hN:X.N[i]?=Z x:=by rfl) (hv:Vis X.env.scope x:=by first | exact Or.inl rfl | exact Or.inr (Or.inl rfl) | exact Or.inr (Or.inr rfl)) (hd:(x == ("__debug__":Str))=false:=by decide)
  (hcd:(x == ("__classdict__":Str))=false:=by decide):PE X (.Name x pos) (tVar i):=pe_var hN hv hd hcd
def xt {A B:Prop} (h:B):if false=true then A else B:=by
 rw [if_neg q7x];exact h
def Yl {A B:Prop} (h:A):if true=true then A else B:=by
 rw [if_pos rfl];exact h
def yw {c A B:Prop} [Decidable c] (h1:c->A) (h2:¬ c->B):if c then A else B:=by
 by_cases h:c
 .rw [if_pos h]
  exact h1 h
 .rw [if_neg h]
  exact h2 h
def iteNS {c A B:Prop} [Decidable c] (hc:c) (h:B):if (!decide c)=true then A else B:=by
 rw [decide_eq_true hc];exact xt h
def Same (H H':Hp):Prop:=∀ b o,H b=Z o->H' b=Z o
def Same.refl (H:Hp):Same H H:=λ_ _ h=>h
def Same.trans {H H1 H2:Hp} (a:Same H H1) (b:Same H1 H2):Same H H2:=λc o h=>b c o (a c o h)
def Same.free {H H':Hp} (e:Same H H') {l:Ad} (h:H' l=Option.none):H l=Option.none:=by
 cases q:H l with
 | none=>rfl
 | some o =>
  rw [e l o q] at h;cases h
def ObjOk.here {P:nQ} {w:World} {H:Hp} {h:Heap} {a:Ad} {o:HO} (x:ObjOk P w H h a o):∃ ob,h.get? a=Z ob:=by
 cases o with
 | lst xs=>obtain ⟨_,_,_,_,e⟩:=x;exact ⟨_,e⟩
 | tup xs=>obtain ⟨_,_,_,ob,e,_⟩:=x;exact ⟨_,e⟩
 | dK mo=>obtain ⟨_,_,_,_,ob,_,_,e,_⟩:=x;exact ⟨_,e⟩
 | dT mo=>obtain ⟨_,_,_,_,ob,_,_,e,_⟩:=x;exact ⟨_,e⟩
 | set S n=>obtain ⟨ob,_,_,_,e,_⟩:=x;exact ⟨_,e⟩
 | ins C dx fs=>obtain ⟨_,_,_,e,_⟩:=x;exact ⟨_,e⟩
 | own y=>exact x
 | xd fs=>obtain ⟨_,⟨_,_,_,e,_⟩,_⟩:=x;exact ⟨_,e⟩
 | rng lo hi=>obtain ⟨_,_,_,e⟩:=x;exact ⟨_,e⟩
 | frz ob u=>obtain ⟨e,_⟩:=x;exact ⟨_,e⟩
 | tbl ps=>exact ⟨_,x⟩
 | met f y=>exact ⟨_,x⟩
 | ext φ=>obtain ⟨_,e,_⟩:=x;exact e
def mem_frs {env:Env} {l:List Env} {L:Ad} (hf:env.frame=Z L):L∈frs (env::l):=by
 unfold frs;rw [rK,hf];exact q6z
def Zr {env:Env} {l:List Env} {L b:Ad} (hf:env.frame=Z L) (hb:b∈frs l):b∈frs (env::l):=by
 unfold frs at *;rw [rK,hf];exact q6y _ hb
theorem xq {h base base':Heap}:∀ {l:List Env},h.FunFrames base l->(∀ b∈frs l,base'.get? b=O)->h.FunFrames base' l
 | [],_,_=>trivial
 | _::_,⟨hk,⟨L,o,hf,_,ho,hd⟩,hr⟩,k=>⟨hk,⟨L,o,hf,k L (mem_frs hf),ho,hd⟩,xq hr λb hb=>k b (Zr hf hb)⟩
structure Fly (base:Heap) (outer:List Env) (H:Hp) (s h:Heap) (e:Ad) (cls:Vl):Prop where
 stays:base.StaysIn h
 frames:h.FunFrames base outer
 baseE:base.get? e=O
 newE:s.get? e=O
 freeE:H e=O
 tr:∃ oe vs T oT ts,h.get? e=Z oe/\oe.cls=cls/\oe.data=.fields vs/\vs[1]?=Z (.ref T)/\T≠e/\h.get? T=Z oT/\oT.data=.fields ts/\ts[3]?=Z .none/\base.get? T=O/\s.get? T=O/\H T=O
def CXe (P:nQ) (w:World) (base:Heap):CXT:=λouter H s E e s' =>
 ∃ (ea C:Ad) (H':Hp),e=.ref ea/\s'.os=s.os/\AllBare s'.gens/\Un (frs outer) [] H H' s.heap s'.heap/\HOk P w H' s'.heap/\Fly base outer H' s.heap s'.heap ea (.ref C)/\E (.ref C) O H'
section
variable {σ:St} {s:Sh} {e:Ad} {cls:Vl}
def lv_new {h1:Heap} {vs:J8} {Q:Unit->Sh->Prop} {E:J5} (I:Inv X mn σ H s) (hst:X.stack=X.env::X.outer) (hf:X.env.frame=Z X.env.locals) (hex:X.ex=[])
  (hx:Heap.MadeExcOf s.heap h1 e cls vs)
  (hQ:∀ h',Un X.fs [] X.H₀ H X.s₀.heap h'->HOk X.prog X.w H h'->Fly X.base X.outer H X.s₀.heap h' e cls->Q () { s with heap:=h' }) :
  wpAny (model X.prog X.w) X.A (leaving X.env (.ref e)) Q E { s with heap:=h1 }:=by
 have hfs:=I.stack;rw [hst] at hfs;have hfr:X.A.frames=Z (X.env::X.outer):=by rw [← hst];exact I.ok.frames
 have fmem:∀ b∈frs (X.env::X.outer),X.base.get? b=O/\∃ o,s.heap.get? b=Z o/\∀ vs,o.data≠.fields vs:=λb hb=>hfs.mem hb;have funt:∀ b∈frs (X.env::X.outer),H b=O:=λb hb=>I.stkFree b (by rw [hst];exact hb);have bget:∀ b o,b ∉ frs (X.env::X.outer)->s.heap.get? b=Z o->(om s.heap (frs (X.env::X.outer))).get? b=Z o:=λb o n q=>sR _ q n;have bof:∀ b o,(om s.heap (frs (X.env::X.outer))).get? b=Z o->s.heap.get? b=Z o:=λb o q=>tz _ q;have bno:∀ b∈frs (X.env::X.outer),(om s.heap (frs (X.env::X.outer))).get? b=O:=λb hb=>sK _ hb
 have none_of:∀ b,s.heap.get? b=O->(om s.heap (frs (X.env::X.outer))).get? b=O:=λb q=>by
  cases r:(om s.heap (frs (X.env::X.outer))).get? b with
  | none=>rfl
  | some o=>rw [bof b o r] at q;cases q
 obtain ⟨t,he,_,_⟩:=hx.there;refine wpAny_leaving_first (base:=om s.heap (frs (X.env::X.outer))) hfr (xq (hfs.of_keeps λb o hb _=>⟨o,hx.keeps b o hb,Y⟩) bno) hf he (λb o q=>hx.keeps b o (bof b o q)) (none_of e hx.new) rfl rfl λh' hL=>?_;obtain ⟨k1,k2,k3,k4⟩:=hL;have neL:∀ b o,X.s₀.heap.get? b=Z o->b≠X.env.locals:=λb o q=>nh (q7z (mH q) I.ok.above)
 have inS:∀ b,b∈frs (X.env::X.outer)->b=X.env.locals∨b∈X.fs:=λb hb=>by
  rcases mM.mp (I.stkSub b (by rw [hst];exact hb)) with z | z
  .exact .inl z
  .exact .inr z
 have keep:∀ b o,b ∉ frs (X.env::X.outer)->s.heap.get? b=Z o->h'.get? b=Z o:=λb o n q=>k1 b o (bget b o n q)
 have slot:∀ b o,b∈frs (X.env::X.outer)->s.heap.get? b=Z o->∃ sl,h'.get? b=Z { o with slots:=sl }:=λb o hb q=>by
  obtain ⟨_,o',q',nf⟩:=fmem b hb;rw [q] at q';cases q';exact k4 b o (hx.keeps b o q) nf
 have there0:∀ b,s.heap.get? b=O->X.s₀.heap.get? b=O:=λb q=>by
  cases r:X.s₀.heap.get? b with
  | none=>rfl
  | some o =>
   obtain ⟨o',z⟩:=I.base.there b o r (by rw [hex];simp);rw [z] at q;cases q
 have trk:∀ b o,H b=Z o->b ∉ frs (X.env::X.outer):=λb o q hb=>by rw [funt b hb] at q;cases q
 refine hQ h' ⟨λb o q n hb _=>?_,λb o q n hb _=>?_,λb o q n _=>I.base.free b o q n (by rw [hex];simp),λb o q _=>?_,I.base.tups,I.base.frzs,I.base.tbls⟩ (λb o q=>?_) ⟨λb o q=>?_,?_,?_,there0 e hx.new,?_,?_⟩
 .refine keep b o (λz=>?_) (I.base.keep b o q n hb (by rw [hex];simp))
  rcases inS b z with z | z
  .exact neL b o q z
  .exact hb z
 .obtain ⟨sl,q1⟩:=I.base.slot b o q n hb (by rw [hex];simp)
  obtain ⟨sl',q2⟩:=slot b _ (Zr hf hb) q1;exact ⟨sl',q2⟩
 .obtain ⟨o',q1⟩:=I.base.there b o q (by rw [hex];simp)
  by_cases hb:b∈frs (X.env::X.outer)
  .obtain ⟨sl,q2⟩:=slot b o' hb q1
   exact ⟨_,q2⟩
  .exact ⟨_,keep b o' hb q1⟩
 .exact (I.hok b o q).stay (λc u hc r=>keep c u (by
   rcases hc with rfl | hc
   .exact trk _ _ q
   .exact trk _ _ hc) r) (λ_ z=>z) λ_ _ z=>z
 .refine keep b o (λz=>?_) (I.bk b o q)
  rw [(fmem b z).1] at q;cases q
 .obtain ⟨_,_,k2⟩:=xq k2 (base':=X.base) λb hb=>(fmem b hb).1
  exact k2
 .cases r:X.base.get? e with
  | none=>rfl
  | some o=>have:=I.bk e o r;rw [hx.new] at this;cases this
 .cases r:H e with
  | none=>rfl
  | some o=>obtain ⟨ob,z⟩:=(I.hok e o r).here;rw [hx.new] at z;cases z
 .obtain ⟨oe,ws,T,oT,ts,t1,t2,t3,t4,t5,t6,t7,t8,t9⟩:=k3
  have tf:T ∉ frs (X.env::X.outer):=λz=>by
   obtain ⟨_,o',q',nf⟩:=k2.mem z;rw [t7] at q';cases q';exact nf ts t8
  have tn:s.heap.get? T=O:=by
   cases r:s.heap.get? T with
   | none=>rfl
   | some o=>rw [bget T o tf r] at t5;cases t5
  refine ⟨oe,ws,T,oT,ts,t1,t2,t3,t4,t6,t7,t8,t9,?_,there0 T tn,?_⟩
  .cases r:X.base.get? T with
   | none=>rfl
   | some o=>have:=I.bk T o r;rw [tn] at this;cases this
  .cases r:H T with
   | none=>rfl
   | some o=>obtain ⟨ob,z⟩:=(I.hok T o r).here;rw [tn] at z;cases z
end
section
variable {σ:St} {s s':Sh} {e:Ad} {cls:Vl}
def lv_on {Q:Unit->Sh->Prop} {E:J5} (I:Inv X mn σ H s) (hst:X.stack=X.env::X.outer) (hf:X.env.frame=Z X.env.locals) (hex:X.ex=[])
  (u:Un (frs X.stack) [] H H' s.heap s'.heap) (hok:HOk X.prog X.w H' s'.heap) (fl:Fly X.base X.stack H' s.heap s'.heap e cls)
  (hQ:∀ h',Un X.fs [] X.H₀ H' X.s₀.heap h'->HOk X.prog X.w H' h'->Fly X.base X.outer H' X.s₀.heap h' e cls->Q () { s' with heap:=h' }) :
  wpAny (model X.prog X.w) X.A (leaving X.env (.ref e)) Q E s':=by
 obtain ⟨y1,y2,y3,y4,y5,oe,ws,T,oT,ts,t1,t2,t3,t4,t6,t7,t8,t9,t10,t11,t12⟩:=fl;rw [hst] at y2 u;have hfs:=I.stack;rw [hst] at hfs;have hfr:X.A.frames=Z (X.env::X.outer):=by rw [← hst];exact I.ok.frames
 have fbase:∀ b∈frs (X.env::X.outer),X.base.get? b=O:=λb hb=>(hfs.mem hb).1;have fdat:∀ b∈frs (X.env::X.outer),∃ o,s'.heap.get? b=Z o/\∀ vs,o.data≠.fields vs:=λb hb=>(y2.mem hb).2
 have funt:∀ b∈frs (X.env::X.outer),H' b=O:=λb hb=>by
  obtain ⟨_,o,ho,_⟩:=hfs.mem hb;exact u.free b o ho (I.stkFree b (by rw [hst];exact hb)) (by simp)
 have bget:∀ b o,b ∉ e::T::frs (X.env::X.outer)->s'.heap.get? b=Z o->(om s'.heap (e::T::frs (X.env::X.outer))).get? b=Z o:=λb o n q=>sR _ q n;have bof:∀ b o,(om s'.heap (e::T::frs (X.env::X.outer))).get? b=Z o->s'.heap.get? b=Z o:=λb o q=>tz _ q;have bno:∀ b∈e::T::frs (X.env::X.outer),(om s'.heap (e::T::frs (X.env::X.outer))).get? b=O:=λb hb=>sK _ hb;refine wpAny_leaving_next (base:=om s'.heap (e::T::frs (X.env::X.outer))) (cls:=cls) hfr (xq y2 λb hb=>bno b (by simp [hb])) hf
  ⟨oe,ws,T,oT,ts,t1,t2,t3,t4,bno T (by simp),t6,t7,t8,t9⟩ (λb o q=>bof b o q) (bno e (by simp)) λh' hL=>?_
 obtain ⟨k1,k2,k3,k4⟩:=hL;have neL:∀ b o,X.s₀.heap.get? b=Z o->b≠X.env.locals:=λb o q=>nh (q7z (mH q) I.ok.above)
 have inS:∀ b,b∈frs (X.env::X.outer)->b=X.env.locals∨b∈X.fs:=λb hb=>by
  rcases mM.mp (I.stkSub b (by rw [hst];exact hb)) with z | z
  .exact .inl z
  .exact .inr z
 have keep:∀ b o,b ∉ frs (X.env::X.outer)->b≠e->b≠T->s'.heap.get? b=Z o->h'.get? b=Z o:=λb o n n1 n2 q=>k1 b o (bget b o (by simp [n,n1,n2]) q)
 have slot:∀ b o,b∈frs (X.env::X.outer)->s'.heap.get? b=Z o->∃ sl,h'.get? b=Z { o with slots:=sl }:=λb o hb q=>by
  obtain ⟨o',q',nf⟩:=fdat b hb;rw [q] at q';cases q';exact k4 b o q nf
 have old:∀ b o,s.heap.get? b=Z o->b≠e/\b≠T:=λb o q=>⟨λz=>(by rw [z,y4] at q;cases q),λz=>(by rw [z,t11] at q;cases q)⟩
 have there0:∀ b,s.heap.get? b=O->X.s₀.heap.get? b=O:=λb q=>by
  cases r:X.s₀.heap.get? b with
  | none=>rfl
  | some o =>
   obtain ⟨o',z⟩:=I.base.there b o r (by rw [hex];simp);rw [z] at q;cases q
 have trk:∀ b o,H' b=Z o->b ∉ frs (X.env::X.outer)/\b≠e/\b≠T:=λb o q=>⟨λhb=>(by rw [funt b hb] at q;cases q),λz=>(by rw [z,y5] at q;cases q),λz=>(by rw [z,t12] at q;cases q)⟩;refine hQ h' ⟨λb o q n hb _=>?_,λb o q n hb _=>?_,λb o q n _=>?_,λb o q _=>?_,λb xs q=>u.tups b xs (I.base.tups b xs q),λb o x q=>u.frzs b o x (I.base.frzs b o x q),λb ps q=>?_⟩ (λb o q=>?_) ⟨λb o q=>?_,?_,y3,there0 e y4,y5,?_⟩
 .have q1:=I.base.keep b o q n hb (by rw [hex];simp)
  have n1:=I.base.free b o q n (by rw [hex];simp)
  have nf:b ∉ frs (X.env::X.outer):=λz=>by
   rcases inS b z with z | z
   .exact neL b o q z
   .exact hb z
  exact keep b o nf (old b o q1).1 (old b o q1).2 (u.keep b o q1 n1 nf (by simp))
 .obtain ⟨sl,q1⟩:=I.base.slot b o q n hb (by rw [hex];simp)
  have n1:=I.base.free b o q n (by rw [hex];simp);obtain ⟨sl2,q2⟩:=u.slot b _ q1 n1 (Zr hf hb) (by simp);obtain ⟨sl',q3⟩:=slot b _ (Zr hf hb) q2;exact ⟨sl',q3⟩
 .obtain ⟨o',q1⟩:=I.base.there b o q (by rw [hex];simp)
  exact u.free b o' q1 (I.base.free b o q n (by rw [hex];simp)) (by simp)
 .obtain ⟨o',q1⟩:=I.base.there b o q (by rw [hex];simp)
  obtain ⟨o2,q2⟩:=u.there b o' q1 (by simp);by_cases hb:b∈frs (X.env::X.outer)
  .obtain ⟨sl,q3⟩:=slot b o2 hb q2
   exact ⟨_,q3⟩
  .exact ⟨_,keep b o2 hb (old b o' q1).1 (old b o' q1).2 q2⟩
 .obtain ⟨m1,e1⟩:=I.base.tbls b ps q
  obtain ⟨m2,e2⟩:=u.tbls b _ e1;exact ⟨m1++m2,by rw [e2,Array.append_assoc]⟩
 .exact (hok b o q).stay (λc v hc r=>by
   have z:c ∉ frs (X.env::X.outer)/\c≠e/\c≠T:=by
    rcases hc with rfl | hc
    .exact trk _ _ q
    .exact trk _ _ hc
   exact keep c v z.1 z.2.1 z.2.2 r) (λ_ z=>z) λ_ _ z=>z
 .refine keep b o (λz=>by rw [fbase b z] at q;cases q) (λz=>by rw [z,y3] at q;cases q) (λz=>by rw [z,t10] at q;cases q) (y1 b o q)
 .obtain ⟨_,_,k2⟩:=xq k2 (base':=X.base) λb hb=>fbase b hb
  exact k2
 .obtain ⟨oe',ws',T',oT',ts',r1,r2,r3,r4,r5,r6,r7,r8,r9⟩:=k3
  by_cases hT:T'=T
  .subst hT
   exact ⟨oe',ws',T',oT',ts',r1,r2,r3,r4,r6,r7,r8,r9,t10,there0 T' t11,t12⟩
  .have tf:T' ∉ frs (X.env::X.outer):=λz=>by
    obtain ⟨_,o',q',nf⟩:=k2.mem z;rw [r7] at q';cases q';exact nf ts' r8
   have tn:s'.heap.get? T'=O:=by
    cases r:s'.heap.get? T' with
    | none=>rfl
    | some o=>rw [bget T' o (by simp [tf,r6,hT]) r] at r5;cases r5
   have tn0:s.heap.get? T'=O:=by
    cases r:s.heap.get? T' with
    | none=>rfl
    | some o =>
     obtain ⟨o',z⟩:=u.there T' o r (by simp);rw [tn] at z;cases z
   refine ⟨oe',ws',T',oT',ts',r1,r2,r3,r4,r6,r7,r8,r9,?_,there0 T' tn0,?_⟩
   .cases r:X.base.get? T' with
    | none=>rfl
    | some o=>have:=y1 T' o r;rw [tn] at this;cases this
   .cases r:H' T' with
    | none=>rfl
    | some o=>obtain ⟨ob,z⟩:=(hok T' o r).here;rw [tn] at z;cases z
end
section
variable {K:Fg} {base:Heap} {N:Jb} {mt:Str} {mC:Scope} {f:Ad} {cd:Vl} {A:Around} {outer:List Env} {s:Sh} {E:XK}
def zav:xf (CXe P w base) (yh (CXe P w base) P w K mg base N mt mC f cd A outer s H E) E:=by
 intro mn σ H1 s1 e s' I h;obtain ⟨ea,C,H',rfl,os,bare,un,hok,fl,q⟩:=h;exact lv_on I rfl rfl rfl un hok fl λh' u' hok' fl'=>⟨ea,C,H',Y,os.trans I.os,bare,u',hok',fl',q⟩
def Throws (X:Cx) (E:XK):Prop:=∀ (mn:J7) (σ:St) (H:Hp) (s:Sh) (h':Heap) (e C:Ad) (vs:J8),Inv X mn σ H s->Heap.MadeExcOf s.heap h' e (.ref C) vs->E (.ref C) O H->X.xe (.ref e) { s with heap:=h' }
def throwE:Throws (yh (CXe P w base) P w K mg base N mt mC f cd A outer s H E) E:=by
 intro mn σ H1 s1 h1 e C vs I hx q;exact lv_new I rfl rfl rfl hx λh' u' hok' fl'=>⟨e,C,H1,Y,I.os,I.bare,u',hok',fl',q⟩
end
end L2
namespace My
open PySem PySem.Spec PySem.Calls PySem.W PyProof.Rows PySem.Builtin PySem.Builtin.ObjectAttr PySem.Builtin.Getset_descriptor
def ClsAt (x D:Ad) (h:Heap):Prop:=∃ o,h.get? x=Z o/\o.cls=.ref D
def clsAt_ty {x D:Ad} (M:Model) (h:Heap) (p:ClsAt x D h):Looks M h (typeOf (.ref x)) (.ref D):=by
 obtain ⟨o,a,b⟩:=p;exact b ▸ (Looks.ld a).andThen .now
def find_data {K:Frag} {M:Model} {h:Heap} (X:K.In h) {x D:Ad} {name:Str} {g a:Vl} (ha:findIn K (.ref D) name=Z (Z a)) (hn:specialIn K a "__get__"=Z (Z g)) (htk:takesIn K a=Z true) :
  Looks M h (find (.ref x) (.ref D) name) (.bind g a) :=
 (looks_findIn X ha).andThen ((show Looks M h (getOf (Z a)) (Z g) from looks_specialIn X hn).andThen ((show Looks M h (dataDescriptor? (Z a) (Z g)) (Z (g,a)) from (looks_takesIn X htk).andThen .now).andThen (Looks.tag .now)))
section
variable {A:Around} {E:J5} {s:Sh} {K:Frag} {x D:Ad} {R:Result->Sh->Prop}
def class_of {tp:Vl} (X:K.In s.heap) (p:ClsAt x D s.heap) (hm:mroIn K D (.type "object")=Z true) (h:R (.ok (.ret (.ref D))) s) :
  tP (model prog w) A (.call (.builtin "getset_descriptor.__get__") ⟨[.builtin "object.__class__",.ref x,tp],[]⟩) R s:=by
 obtain ⟨h0,g0,d0,t0,o0⟩:=s;have T0:=clsAt_ty (model prog w) h0 p;have T1:=looks_mroIn (M:=model prog w) X hm;refine codeAny_call_builtin KF.slot_gs.plain KF.entry_gs (KF.slot_gs.check _ _ _ _ _ _ _ _ KF.type_class (KF.args_gs _ _ _) ?_);unfold Builtin.«getset_descriptor.__get__» descrGet;rw [dga_obj];refine q0x (q0y ?_);unfold descrGetter descrCheckInstance descrNameAndClass isInstance;simp only [KF.owner_class]
 repeat lk
 refine ⟨Code.quiet_builtin _ (by decide +kernel),codeAny_builtin KF.entry_class ?_⟩;unfold Builtin.«object.__class__» shownTypeOf
 repeat lk
 exact h
def ga_check {M:Model} {Q:Unit->Sh->Prop} {nameV:Vl} {h0:Heap} {g0:Array GenState} {d0:Drawn} {t0:Nat} {o0:OsState} (T0:Looks M h0 (typeOf (.ref x)) (.ref D)) (TS:Looks M h0 (isSubtype (.ref D) (.type "BaseException")) true) (hq:Q () ⟨h0,g0,d0,t0,o0⟩) :
  wpAny M A (checkBuiltinCall "BaseException.__getattribute__" ⟨[.ref x,nameV],[]⟩) Q E ⟨h0,g0,d0,t0,o0⟩:=by
 have e1:builtinKind "BaseException.__getattribute__"=Z .slot:=by decide +kernel
 have e2:splitId "BaseException.__getattribute__"=Z ("BaseException","__getattribute__"):=by decide +kernel
 have e3:=F.args_bexc_ga (.ref x) nameV;simp only [checkBuiltinCall,e1,e2];refine q0x ?_;unfold isInstance
 repeat (first | lk | wp_step)
 exact hq
def ga_entry {Q:Fin->Sh->Prop} {tk:Tok} {h0:Heap} {g0:Array GenState} {d0:Drawn} {t0:Nat} {o0:OsState} (X:K.In h0) (p:ClsAt x D h0) (ha:findIn K (.ref D) "__class__"=Z (Z (.builtin "object.__class__")))
  (hn:specialIn K (.builtin "object.__class__") "__get__"=Z (Z (.builtin "getset_descriptor.__get__"))) (htk:takesIn K (.builtin "object.__class__")=Z true) (hm:mroIn K D (.type "object")=Z true) (hq:Q (.done (.ret (.ref D))) ⟨h0,g0,d0,t0,o0⟩) :
  wpAny (model prog w) A (Builtin.«object.__getattribute__» ⟨[.ref x,.str "__class__" tk],[]⟩) Q E ⟨h0,g0,d0,t0,o0⟩:=by
 have T0:=clsAt_ty (model prog w) h0 p;have T2:=find_data (M:=model prog w) X (x:=x) ha hn htk;unfold Builtin.«object.__getattribute__»;refine q0x (q0y ?_)
 repeat (first | (with_reducible refine q0x (T0.at ?_)) | (with_reducible refine q0x (T2.at ?_)) | wp_step)
 refine class_of (s:=⟨h0,g0,d0,t0,o0⟩) X p hm ?_
 repeat (any_goals (first | assumption | wp_step))
def zfx {Q:Ja->Sh->Prop} (hg:findIn K (.ref D) "__getattribute__"=Z (Z (.builtin "BaseException.__getattribute__"))) (hgg:findIn K (.ref D) "__getattr__"=Z O) (hsb:subIn K (.ref D) (.type "BaseException")=Z true) (ha:findIn K (.ref D) "__class__"=Z (Z (.builtin "object.__class__")))
  (hn:specialIn K (.builtin "object.__class__") "__get__"=Z (Z (.builtin "getset_descriptor.__get__"))) (htk:takesIn K (.builtin "object.__class__")=Z true) (hm:mroIn K D (.type "object")=Z true)
  (X:K.In s.heap) (p:ClsAt x D s.heap) (h:Q (Z (.ref D)) { s with toks:=s.toks+1 }):wpAny (model prog w) A (getAttr? (.ref x) "__class__") Q E s:=by
 obtain ⟨h0,g0,d0,t0,o0⟩:=s;have T0:=clsAt_ty (model prog w) h0 p;have T1:=looks_findIn (M:=model prog w) X hg;have T3:=looks_findIn (M:=model prog w) X hgg;have TS:=looks_subIn (M:=model prog w) X hsb;have f3:=F.excAttr_ValueError.ga.bind (.ref x);have hx2:(Value.builtin "BaseException.__getattribute__" == Value.builtin "object.__getattribute__")=false:=by decide +kernel
 have hx1:(onTheHeap (mK D) && Value.builtin "BaseException.__getattribute__" == Value.builtin "object.__getattribute__")=false:=by rw [hx2];rfl
 unfold getAttr? getAttrBy? getAttrBy;refine q0x (wpAny_mkText (q0x (wpAny_attempt (pW (q0x (T0.at (q0x (T1.at ?_))))))));dsimp only;rw [if_neg (by rw [hx1];exact q7x)];unfold getAttrByItsOwn hookBefore;rw [if_pos (show onTheHeap (mK D)=true from rfl)];refine q0x (T3.at ?_)
 repeat (any_goals (first | assumption | wp_step | lk))
 refine codeAny_call_builtin F.excAttr_ValueError.ga.plain F.entry_bexc_ga (ga_check T0 TS (ga_entry (K:=K) X p ha hn htk hm ?_))
 repeat (any_goals (first | assumption | wp_step))
def kitx_exc (hg:findIn K (.ref D) "__getattribute__"=Z (Z (.builtin "BaseException.__getattribute__"))) (hgg:findIn K (.ref D) "__getattr__"=Z O) (hsb:subIn K (.ref D) (.type "BaseException")=Z true) (hd:hasDictIn K D=true) (ha:findIn K (.ref D) "__class__"=Z (Z (.builtin "object.__class__")))
  (hn:specialIn K (.builtin "object.__class__") "__get__"=Z (Z (.builtin "getset_descriptor.__get__"))) (htk:takesIn K (.builtin "object.__class__")=Z true) (hm:mroIn K D (.type "object")=Z true) :
  KitX K (.ref x) (.ref D) (ClsAt x D) where
 ty:=λM h _ p=>clsAt_ty M h p
 it:=λM h X _=>by
  obtain ⟨c,hc,_⟩:=any_some hd;unfold clsIn at hc
  split at hc
  .rename_i u1 u2 u3 u4 ho
   intro A' Q' E' s' k q;unfold isType loadHead;exact q0x (wpAny_loadPart (k _ _ (X _ _ ho)) (q0y q))
  .cases hc
 ne:=λh tp dd its n sl X e=>by
  obtain ⟨c,hc,_⟩:=any_some hd;refine ph.mpr λq=>?_;obtain rfl:D=tp:=Value.ref.inj (beq_iff_eq.mp q);unfold clsIn at hc
  split at hc
  .rename_i u1 u2 u3 u4 ho
   have z:=(X _ _ ho).symm.trans e;cases z
  .cases hc
 ca:=λX p k=>zfx hg hgg hsb ha hn htk hm X p k
end
end My
namespace L2
open PySem PySem.Spec PyProof.Rows
section
variable {σ:St} {s s':Sh} {e C:Ad}
def mid_inv {B h:Heap} {a0:Vl} {T:Ad} (I:Inv X mn σ H s) (hst:X.stack=X.env::X.outer)
  (u:Un (frs X.stack) [] H H' s.heap s'.heap) (hok:HOk X.prog X.w H' s'.heap) (bare:AllBare s'.gens) (os:s'.os=s.os) (fl:Fly X.base X.stack H' s.heap s'.heap e (.ref C))
  (nT:s.heap.get? T=O) (fT:H' T=O) (hB:∀ b o,b ∉ e::T::frs X.stack->s'.heap.get? b=Z o->B.get? b=Z o) (hfl:B.StaysIn h) (hsl:s'.heap.UpToSlots h) :
  Inv X mn σ H' { s' with heap:=h }:=by
 obtain ⟨y1,y2,y3,y4,y5,_⟩:=fl;have fdat:∀ b∈frs X.stack,∃ o,s'.heap.get? b=Z o/\∀ vs,o.data≠.fields vs:=λb hb=>(y2.mem hb).2;have keep:∀ b o,b ∉ frs X.stack->b≠e->b≠T->s'.heap.get? b=Z o->h.get? b=Z o:=λb o n n1 n2 q=>hfl b o (hB b o (by simp [n,n1,n2]) q)
 have slot:∀ b o,b∈frs X.stack->s'.heap.get? b=Z o->∃ sl,h.get? b=Z { o with slots:=sl }:=λb o hb q=>by
  obtain ⟨o',q',nf⟩:=fdat b hb;rw [q] at q';cases q';exact hsl b o q nf
 have old:∀ b o,s.heap.get? b=Z o->b≠e/\b≠T:=λb o q=>⟨λz=>(by rw [z,y4] at q;cases q),λz=>(by rw [z,nT] at q;cases q)⟩
 have funt:∀ b∈frs X.stack,H' b=O:=λb hb=>by
  obtain ⟨_,o,ho,_⟩:=I.stack.mem hb;exact u.free b o ho (I.stkFree b hb) (by simp)
 have trk:∀ b o,H' b=Z o->b ∉ frs X.stack/\b≠e/\b≠T:=λb o q=>⟨λhb=>(by rw [funt b hb] at q;cases q),λz=>(by rw [z,y5] at q;cases q),λz=>(by rw [z,fT] at q;cases q)⟩;refine I.call' (s':={ s' with heap:=h }) (ch:=[]) os ⟨λb o q n hb _=>?_,λb o q n hb _=>?_,u.free,λb o q _=>?_,u.tups,u.frzs,u.tbls⟩ (λb o q=>?_) bare (λb z=>absurd z (by simp))
 .exact keep b o hb (old b o q).1 (old b o q).2 (u.keep b o q n hb (by simp))
 .obtain ⟨sl,q1⟩:=u.slot b o q n hb (by simp)
  obtain ⟨sl',q2⟩:=slot b _ hb q1;exact ⟨sl',q2⟩
 .obtain ⟨o',q1⟩:=u.there b o q (by simp)
  by_cases hb:b∈frs X.stack
  .obtain ⟨sl,q2⟩:=slot b o' hb q1
   exact ⟨_,q2⟩
  .exact ⟨_,keep b o' hb (old b o q).1 (old b o q).2 q1⟩
 .exact (hok b o q).stay (λc v hc r=>by
   have z:c ∉ frs X.stack/\c≠e/\c≠T:=by
    rcases hc with rfl | hc
    .exact trk _ _ q
    .exact trk _ _ hc
   exact keep c v z.1 z.2.1 z.2.2 r) (λ_ z=>z) λ_ _ z=>z
def Landed (X:Cx) (mn:J7) (σ:St) (H':Hp) (e C:Ad) (s1:Sh):Prop :=
 ∃ (H:Hp) (s s':Sh) (B:Heap) (a0:Vl) (T:Ad),Inv X mn σ H s/\Un (frs X.stack) [] H H' s.heap s'.heap/\HOk X.prog X.w H' s'.heap/\AllBare s'.gens/\s'.os=s.os/\Fly X.base X.stack H' s.heap s'.heap e (.ref C) /\
  s.heap.get? T=O/\H' T=O/\(∀ b o,b ∉ e::T::frs X.stack->s'.heap.get? b=Z o->B.get? b=Z o)/\Heap.FlyingW B (X.env::X.outer) e (.ref C) a0 s1.heap/\s'.heap.UpToSlots s1.heap/\s1={ s' with heap:=s1.heap }
def Landed.inv {s1:Sh} (l:Landed X mn σ H' e C s1) (hst:X.stack=X.env::X.outer):Inv X mn σ H' s1:=by
 obtain ⟨H,s,s',B,a0,T,I,u,hok,bare,os,fl,nT,fT,hB,hfl,hsl,es⟩:=l;rw [es];exact mid_inv (a0:=a0) I hst u hok bare os fl nT fT hB hfl.1 hsl
def Landed.cls {s1:Sh} (l:Landed X mn σ H' e C s1):My.ClsAt e C s1.heap:=by
 obtain ⟨H,s,s',B,a0,T,I,u,hok,bare,os,fl,nT,fT,hB,hfl,hsl,es⟩:=l;exact hfl.there
def Landed.free {s1:Sh} (l:Landed X mn σ H' e C s1):H' e=O:=by
 obtain ⟨H,s,s',B,a0,T,I,u,hok,bare,os,fl,_⟩:=l;exact fl.freeE
def Landed.again {s1:Sh} {M:Model} {A:Around} {E:J5} {Q:Unit->Sh->Prop} (l:Landed X mn σ H' e C s1) (h:∀ s2,Landed X mn σ H' e C s2->Q () s2):wpAny M A (setFlight (.ref e) O) Q E s1:=by
 obtain ⟨H,s,s',B,a0,T,I,u,hok,bare,os,fl,nT,fT,hB,hfl,hsl,es⟩:=l;refine lands_againW hfl λh' f2 u2=>h _ ⟨H,s,s',B,a0,T,I,u,hok,bare,os,fl,nT,fT,hB,f2,hsl.trans u2,?_⟩;show ({ s1 with heap:=h' }:Sh)={ s' with heap:=h' };rw [es]
def land {E:XK} {ev:Vl} {E':J5} {F:Sh->Prop} (I:Inv X mn σ H s) (hst:X.stack=X.env::X.outer) (hf:X.env.frame=Z X.env.locals) (h:CXe X.prog X.w X.base X.stack H s E ev s')
  (k:∀ e C H' s1,ev=.ref e->E (.ref C) O H'->Landed X mn σ H' e C s1->F s1) :
  wpAny (model X.prog X.w) X.A (noteFrame ev X.env) (λ_ s2=>wpAny (model X.prog X.w) X.A (setFlight ev O) (λ_ s3=>F s3) E' s2) E' s':=by
 obtain ⟨e,C,H',rfl,os,bare,u,hok,fl,q⟩:=h;obtain ⟨y1,y2,y3,y4,y5,oe,ws,T,oT,ts,t1,t2,t3,t4,t6,t7,t8,t9,t10,t11,t12⟩:=id fl;have hfr:X.A.frames=Z (X.env::X.outer):=by rw [← hst];exact I.ok.frames
 have bno:∀ b∈e::T::frs (X.env::X.outer),(om s'.heap (e::T::frs (X.env::X.outer))).get? b=O:=λb hb=>sK _ hb;have bof:∀ b o,(om s'.heap (e::T::frs (X.env::X.outer))).get? b=Z o->s'.heap.get? b=Z o:=λb o q=>tz _ q;have sz:1<ws.size:=(Array.getElem?_eq_some_iff.mp t4).1
 have fw:Heap.FlyingW (om s'.heap (e::T::frs (X.env::X.outer))) (X.env::X.outer) e (.ref C) ws[0] s'.heap :=
  ⟨λb o q=>bof b o q,bno e (by simp),xq (hst ▸ y2) (λb hb=>bno b (by simp [hb])),oe,ws,T,oT,ts,t1,⟨t2,by simp⟩,t3,t4,bno T (by simp),t6,t7,t8,t9⟩
 refine wpAny_looks_onW hfr hf fw λh1 k1 u1=>?_;refine wpAny_landsW k1 λh2 k2 u2=>?_;refine k e C H' _ rfl q ⟨H,s,s',_,_,T,I,u,hok,bare,os,fl,t11,t12,λb o hb r=>?_,k2,u1.trans u2,Y⟩;rw [hst] at hb;exact sR _ r hb
end
abbrev Cx.exc (X:Cx) (e:Ad):Cx:={ X with A:=X.A.mark (Z (.ref e)),calm:=false,xe:=λ_ _=>False }
def Cx.Ok.exc {X:Cx} (ok:X.Ok) (e:Ad):(X.exc e).Ok :=
 ⟨ok.mod,ok.kind,ok.glob,ok.blt,ok.above,ok.inj,ok.has,ok.cab,(λz=>nomatch z),ok.frames,ok.stk,ok.exf,ok.bs,ok.bsz,ok.noex,ok.exfs,ok.funs,ok.frf⟩
section
variable {σ:St} {s s':Sh} {e C:Ad}
def Inv.exc (I:Inv X mn σ H s) (e:Ad):Inv (X.exc e) mn σ H s:=⟨I.ok.exc e,I.os,I.bare,I.base,I.loc,I.cell,I.free,I.freeC,I.pin,I.hok,I.len⟩
def Inv.unexc (I:Inv (X.exc e) mn σ H s) (ok:X.Ok):Inv X mn σ H s:=⟨ok,I.os,I.bare,I.base,I.loc,I.cell,I.free,I.freeC,I.pin,I.hok,I.len⟩
def excO (e C:Ad):HO:=.ext (My.ClsAt e C)
def Landed.held {s1:Sh} (l:Landed X mn σ H' e C s1) (hst:X.stack=X.env::X.outer):Inv X mn σ (upd H' e (excO e C)) s1:=by
 have J:=l.inv hst;have fe:=l.free;obtain ⟨oe,he,hc⟩:=l.cls;obtain ⟨H,s,s',B,a0,T,I,u,hok,bare,os,fl,_⟩:=l;have ne:∀ b o,s.heap.get? b=Z o->b≠e:=λb o q z=>by rw [z,fl.newE] at q;cases q
 have ne0:∀ b o,X.s₀.heap.get? b=Z o->b ∉ X.ex->b≠e:=λb o q hx=>by
  obtain ⟨o',q1⟩:=I.base.there b o q hx;exact ne b o' q1
 have neH:∀ b o,H' b=Z o->b≠e:=λb o q z=>by rw [z,fe] at q;cases q
 refine ⟨J.ok,J.os,J.bare,⟨J.base.keep,J.base.slot,λb o q n hx=>?_,J.base.there,λb xs q=>?_,λb o x q=>?_,λb ps q=>?_⟩,J.loc,J.cell,?_,λx c q=>?_,λp hp=>?_,λb o q=>?_,J.len⟩
 .rw [zj (ne0 b o q hx)];exact J.base.free b o q n hx
 .have z:=J.base.tups b xs q
  rw [zj (neH _ _ z)];exact z
 .have z:=J.base.frzs b o x q
  rw [zj (neH _ _ z)];exact z
 .obtain ⟨m,z⟩:=J.base.tbls b ps q
  exact ⟨m,by rw [zj (neH _ _ z)];exact z⟩
 .obtain ⟨m,⟨o,_,_,ho,_⟩,_⟩:=I.loc
  rw [zj (ne _ o ho)];exact J.free
 .obtain ⟨v,o,ho,_⟩:=I.cell x c q
  rw [zj (ne _ o ho)];exact J.freeC x c q
 .obtain ⟨q1,q2,q3,q4,q5⟩:=J.pin p hp
  obtain ⟨r1,_⟩:=I.pin p hp;exact ⟨q1,by rw [zj (ne _ _ r1)];exact q2,q3,q4,q5⟩
 .by_cases hb:b=e
  .subst hb
   rw [zh] at q;cases q;refine ⟨⟨oe,he,hc⟩,⟨oe,he⟩,λh1 h2 p k=>?_⟩;obtain ⟨o1,p1,p2⟩:=p;exact ⟨o1,k o1 p1,p2⟩
  .rw [zj hb] at q
   exact (J.hok b o q).stay (λc v _ r=>r) (λc r=>by rw [zj (neH _ _ r)];exact r) λc xs r=>by rw [zj (neH _ _ r)];exact r
def PH (X:Cx) (hs:List ExceptHandler) (th:Ad->Ad->TS):Prop :=
 ∀ (mn:J7) (s1:Sh) (σ:St) (H':Hp) (e C:Ad) (D:Ends),Landed X mn σ H' e C s1->th e C D σ H'->wpAny (model X.prog X.w) X.A (handleBy (.ref e) X.env hs) (SP X mn D) X.xe s1
def ph_nil:PH X [] (λ_ _ _ _ _=>False):=λ_ _ _ _ _ _ _ _ h=>h.elim
def hNo (K:Fg) (B:Ad) (t:Ad->TS) (tr:Ad->Ad->TS):Ad->Ad->TS:=λe C D σ H'=>∃ b,PySem.W.exmOne K (.ref C) (.ref B)=Z b /\
 if b=true then t e D σ (upd H' e (excO e C)) else tr e C D σ H'
def ph_no {x:Str} {B:Ad} {np pos:Pos} {b₀:Stmt} {suite:List Stmt} {rest:List ExceptHandler} {t:Ad->TS} {tr:Ad->Ad->TS} (hst:X.stack=X.env::X.outer) (hg:Gl X x) (hm:X.mg x=Z (.ref B))
  (hs:∀ e,PSs (X.exc e) (b₀::suite) (t e)) (hr:PH X rest tr) (hd:(x == ("__debug__":Str))=false:=by decide) :
  PH X (.ExceptHandler (Z (.Name x np)) O (b₀::suite) pos::rest) (hNo X.K B t tr):=by
 intro mn s1 σ H' e C D l h;obtain ⟨b,hx,h⟩:=h;have J:=l.inv hst;refine wpAny_handleBy_cons (codeAny_handlers_test (YF (J.exc e) hg hm ?_ hd)) (λz=>nomatch z);refine PySem.W.exm_one J.kIn (My.clsAt_ty _ _ l.cls) hx _ _ _ _ (λ_ _ z=>z) ?_
 cases b with
 | false=>exact hr mn s1 σ H' e C D l (by simpa using h)
 | true =>
  rw [if_pos rfl] at h;refine codeAny_handlers_suite (l.again λs2 l2=>?_);have I2:=(l2.held hst).exc e;refine oB (hs e mn s2 _ _ _ I2 h) (λf s4 q=>?_) λ_ _ z=>z.elim
  cases f with
  | next=>obtain ⟨σ',H2,I4,q⟩:=q;exact ⟨_,_,I4.unexc J.ok,q⟩
  | brk=>obtain ⟨σ',H2,I4,q⟩:=q;exact ⟨_,_,I4.unexc J.ok,q⟩
  | cont=>obtain ⟨σ',H2,I4,q⟩:=q;exact ⟨_,_,I4.unexc J.ok,q⟩
  | ret u=>obtain ⟨v,σ',H2,I4,r,q⟩:=q;exact ⟨v,_,_,I4.unexc J.ok,r,q⟩
end
def trX (X:Cx) (mn:J7) (σ₀:St) (R:Ad->Hp->Prop):J5:=λev s' =>
 ∃ (H:Hp) (s:Sh) (E:XK),Inv X mn σ₀ H s/\CXe X.prog X.w X.base X.stack H s E ev s'/\∀ C H',E (.ref C) O H'->R C H'
abbrev Cx.tr (X:Cx) (mn:J7) (σ₀:St) (R:Ad->Hp->Prop):Cx:={ X with pn:=X.pn++mn,xe:=trX X mn σ₀ R }
def XE (R:Ad->Hp->Prop):XK:=λc _ H'=>∃ C,c=.ref C/\R C H'
section
variable {σ σ₀:St} {s s':Sh} {R:Ad->Hp->Prop}
def Cx.Ok.tr (ok:X.Ok):(X.tr mn σ₀ R).Ok :=
 {ok with}
def Inv.tr (I:Inv X mn σ H s):Inv (X.tr mn σ₀ R) [] σ H s :=
 ⟨I.ok.tr,I.os,I.bare,I.base,I.loc,I.cell,I.free,I.freeC,λp hp=>I.pin p (by simpa using hp),I.hok,I.len⟩
def Inv.untr {ps:J7} (I:Inv (X.tr mn σ₀ R) ps σ H s) (ok:X.Ok):Inv X mn σ H s :=
 ⟨ok,I.os,I.bare,I.base,I.loc,I.cell,I.free,I.freeC,λp hp=>I.pin p (pE _ hp),I.hok,I.len⟩
def PS1 (X:Cx) (σ₀:St) (st:Stmt) (t:TS):Prop :=
 ∀ (mn:J7) (s:Sh) (H:Hp) (D:Ends),Inv X mn σ₀ H s->t D σ₀ H->wpAny (model X.prog X.w) X.A (exec st X.env) (SP X mn D) X.xe s
def PE1 (X:Cx) (σ₀:St) (e:Expr) (t:TE):Prop :=
 ∀ (mn:J7) (s:Sh) (H:Hp) (Q:VK),Inv X mn σ₀ H s->t σ₀ H Q->wpAny (model X.prog X.w) X.A (eval e X.env) (EP X mn σ₀ Q) X.xe s
def X9 (CX:CXT) (X:Cx) (σ₀:St) (E:XK):Prop:=∀ (mn:J7) (H:Hp) (s:Sh) (e:Vl) (s':Sh),Inv X mn σ₀ H s->CX X.stack H s E e s'->X.xe e s'
def pass_tr (ok:X.Ok):X9 (CXe X.prog X.w X.base) (X.tr mn σ₀ R) σ₀ (XE R):=λps H s e s' I q=>⟨H,s,XE R,I.untr ok,q,λC H' ⟨C',z,r⟩=>by cases z;exact r⟩
def run_fn1 {CX:CXT} {k:Nat} {f:Ad} {fd:og} {ps:Jb} {sp:Sp} {dvs:Jj} {ds:J8} {E:XK} {Q:VK} {us:J8} {vs:Jj} (F:FnOk X.prog X.w X.K X.mg X.base CX k f fd ps sp) (hr:Room k X.A) (hb:Binds X.K fd ps ds) (hd:Vals dvs ds) (hx:X9 CX X σ₀ E)
  (I:Inv X mn σ₀ H s) (r:Vals vs us) (h:sp (vs++dvs) H Q E):wpAny (model X.prog X.w) X.A (call (.ref f) us) (EP X mn σ₀ Q) X.xe s:=by
 have r2:Vals (vs++dvs) (us++ds):=r.append hd;have hl:(us++ds).length=ps.length:=by rw [← r2.length];exact F.len _ _ _ _ h
 refine wpAny_call (codeAny_mono (F.run X.A X.stack s H ⟨us,[]⟩ (us++ds) (vs++dvs) Q E hr I.env0 (hb s us I.kIn hl) r2 h) λr s' hq=>?_)
 cases r with
 | error e=>exact hx mn H s e s' I hq
 | ok fl =>
  cases fl with
  | ret u=>exact I.after hq
  | next=>exact p4 hq
  | brk=>exact p4 hq
  | cont=>exact p4 hq
def pe1_call {CX:CXT} {k:Nat} {f:Ad} {fd:og} {ps:Jb} {sp:Sp} {E:XK} {x:Str} {p pos:Pos} {e:Expr} {es:Jd} {t:TA} (F:FnOk X.prog X.w X.K X.mg X.base CX k f fd ps sp) (hr:Room k X.A) (hg:Gl X x) (hm:X.mg x=Z (.ref f)) (hk:mR X.K (.ref f)=true) (hb:Binds X.K fd ps []) (hx:X9 CX X σ₀ E)
  (ha:PA X (e::es) t) (hdb:(x == ("__debug__":Str))=false:=by decide) (he:mO (e::es) X.env=(false,eval e X.env)::mO es X.env:=by rfl) (hpl:(backTo pos (mO es X.env)).any (·.1)=false:=by rfl) :
  PE1 X σ₀ (.Call (.Name x p) (e::es) [] pos) (zbu sp [] E t):=by
 intro mn s H Q I h;refine rB (YF I hg hm ?_ hdb);refine rN (h₀:=X.base) I.ok.mod.kin hk (thn (ha pos mn s σ₀ H _ I h) λus s1 ⟨vs,H1,I1,r,q⟩=>⟨I1.kIn,?_⟩) he hpl;exact run_fn1 F hr hb .nil hx I1 r q
inductive tTry (t:(Ad->Hp->Prop)->TS) (th:Ad->Ad->TS) (D:Ends) (σ:St) (H:Hp):Prop
 | mk (R:Ad->Hp->Prop) (_:t R D σ H) (_:∀ e C H',H' e=O->R C H'->th e C D σ H')
def ps_try {st:Stmt} {h₀:ExceptHandler} {hs:List ExceptHandler} {pos:Pos} {t:(Ad->Hp->Prop)->TS} {th:Ad->Ad->TS} (hst:X.stack=X.env::X.outer) (hf:X.env.frame=Z X.env.locals)
  (hb:∀ mn σ₀ R,X.Ok->PS1 (X.tr mn σ₀ R) σ₀ st (t R)) (hh:PH X (h₀::hs) th):PS X (.Try [st] (h₀::hs) [] [] pos) (tTry t th):=by
 intro mn s σ H D I h;obtain ⟨R,h,k⟩:=h;refine wpAny_Try_except (wpAny_execs_cons (oB (hb mn σ R I.ok [] s H D I.tr h) (λf s1 q=>?_) λev s1 q=>?_))
 .cases f with
  | next =>
   obtain ⟨σ',H2,I4,q⟩:=q;exact su (su ⟨_,_,I4.untr I.ok,q⟩)
  | brk=>obtain ⟨σ',H2,I4,q⟩:=q;exact ⟨_,_,I4.untr I.ok,q⟩
  | cont=>obtain ⟨σ',H2,I4,q⟩:=q;exact ⟨_,_,I4.untr I.ok,q⟩
  | ret u=>obtain ⟨v,σ',H2,I4,r,q⟩:=q;exact ⟨v,_,_,I4.untr I.ok,r,q⟩
 .obtain ⟨H1,s0,E,I1,c,z⟩:=q
  exact land I1 hst hf c λe C H' s2 ee q l=>(by subst ee;exact hh mn s2 σ H' e C D l (k e C H' l.free (z C H' q)))
def ps_raise {x:Str} {C:Ad} {bm:J8} {B newId initId:String} {np cpos pos:Pos} {e₀:Expr} {rest:Jd} {ta:TA} {E:XK} (O0_:OwnCls x C bm newId X.mg X.base) (FB:ExcBaseFacts B newId initId bm) (hc:X.calm=true) (hg:Gl X x) (ht:Throws X E) (ha:PA X (e₀::rest) ta)
  (he:mO (e₀::rest) X.env=(false,eval e₀ X.env)::mO rest X.env:=by rfl) (hplain:(backTo cpos (mO rest X.env)).any (·.1)=false:=by rfl) (hd:(x == ("__debug__":Str))=false:=by decide) :
  PS X (.Raise (Z (.Call (.Name x np) (e₀::rest) [] cpos)) O pos) (λ_ σ H=>ta σ H λvs H1=>vs.length<=mI/\E (.ref C) O H1):=by
 intro mn s σ H D I h;obtain ⟨tl,N,nm,q,bs,hdct,sn,sub,ab,col,dd,k0,k1,k2,k3,k5,mN,hC,hN,hni,T⟩:=O0_.obj;refine wpAny_Raise_call_subT (C:=C) (nm:=nm) (q:=q) (N:=N) (bs:=bs) (bm:=tl) (hdct:=hdct) (sn:=sn) (sub:=sub) (ab:=ab) (col:=col) (dd:=dd) (k0:=k0) (k1:=k1) (k2:=k2) (k3:=k3) (k5:=k5)
  FB (mN:=mN) (T.hasType FB.hasBase) (I.ok.hd hc) (by rw [he];show (false || (backTo cpos (mO rest X.env)).any (·.1))=false;rw [hplain];rfl) hni (YF I hg O0_.bound ⟨Y,?_⟩ hd)
 have h1:=ha cpos mn s σ H _ I h;rw [he] at h1 ⊢;refine tI (oB h1 (λvs s2 hq=>?_) λ_ _ z=>z);obtain ⟨us,H1,I1,r,hl,q⟩:=hq;exact ⟨Y,by rw [← r.length];exact hl,I1.bk _ _ hC,hN.keeps I1.bk,T.keeps I1.bk,λh' e m=>ht mn σ H1 s2 h' e C _ I1 m q⟩
end
def xT (w:World) (K:Fg) (a:Ad):Prop:=∃ es n,K.lookup a=Z ⟨.type "dict",O,.dict es n,#[]⟩/\sS w.params es.toList
section
variable {a:Ad} {ke:Expr} {tk:TE} {p pos:Pos} {D:Str}
def top_item {mn:J7} {σ:St} {H:Hp} {s:Sh} {x:Str} {t:Tok} {u:Vl} {A:Around} {E:J5} {Q:J5} (I:Inv X mn σ H s) (T:xT X.w X.K a) (e:mG X.K a x=Z (Z u)) (h:Q u { s with toks:=s.toks+1 }) :
  wpAny (model X.prog X.w) A (getItem (.ref a) (.str x t)) Q E s:=by
 obtain ⟨es,n,hl,hk⟩:=T;exact wpAny_getItem_of (strKind_is X.prog X.w x t) (PySem.W.mapOf_K (prog:=X.prog) I.kIn hl hk) (PySem.W.find_K hl e) h
def top_in {mn:J7} {σ:St} {H:Hp} {s:Sh} {x:Str} {t:Tok} {r:Ja} {A:Around} {E:J5} {Q:J5} (I:Inv X mn σ H s) (T:xT X.w X.K a) (e:mG X.K a x=Z r) (lo:(a == oU)=false) (h:Q (.bool r.isSome) { s with toks:=s.toks+1 }) :
  wpAny (model X.prog X.w) A (pi .In (.str x t) (.ref a)) Q E s:=by
 obtain ⟨es,n,hl,hk⟩:=T;exact wpAny_in_of (strKind_is X.prog X.w x t) lo (PySem.W.mapOf_K (prog:=X.prog) I.kIn hl hk) (by rw [PySem.W.find_K hl e];exact h)
inductive rTopIn (w:World) (K:Fg) (x y:V) (H:Hp) (Q:VK):Prop
 | mk (k:Str) (a:Ad) (r:Ja) (_:x=.str k) (_:y=.ref a) (_:xT w K a) (_:(a == oU)=false) (_:mG K a k=Z r) (_:Q (.bl r.isSome) H)
def zbx:OpR X (pi .In) (rTopIn X.w X.K):=by
 intro mn s σ H x y v u Q I rx ry h;obtain ⟨k,a,r,rfl,rfl,T,lo,e,q⟩:=h;obtain ⟨t,rfl⟩:=(show ∃ t,v=Value.str k t from rx);cases (show u=mK a from ry);exact top_in I T e lo ⟨.bl r.isSome,H,I.tok _,Y,q⟩
inductive tCallV_S (P:nQ) (w:World) (K:Fg) (mg:J0) (base:Heap) (CX:CXT) (k:Nat) (E:XK) (t:TA) (σ:St) (Q:VK) (x:V) (H1:Hp):Prop
 | mk (f:Ad) (fd:og) (ps:Jb) (sp:Sp) (_:x=.ref f) (_:FnOk P w K mg base CX k f fd ps sp) (_:mR K (.ref f)=true) (_:Binds K fd ps []) (_:t σ H1 λvs H2=>sp vs H2 Q E)
def tCallV (P:nQ) (w:World) (K:Fg) (mg:J0) (base:Heap) (CX:CXT) (k:Nat) (E:XK) (tf:TE) (t:TA):TE:=λσ H Q=>tf σ H λx H1=>tCallV_S P w K mg base CX k E t σ Q x H1
def Xi {CX:CXT} {k:Nat} {E:XK} {func e:Expr} {es:Jd} {tf:TE} {t:TA} (hf:PE X func tf) (hr:Room k X.A) (hx:xf CX X E) (ha:PA X (e::es) t)
  (he:mO (e::es) X.env=(false,eval e X.env)::mO es X.env:=by rfl) (hpl:(backTo pos (mO es X.env)).any (·.1)=false:=by rfl)
  (hc:eval (.Call func (e::es) [] pos) X.env=(do callWith pos (← eval func X.env) [] (backTo pos (mO (e::es) X.env)) (backToKw pos (sM [] X.env))):=by rfl) :
  PE X (.Call func (e::es) [] pos) (tCallV X.prog X.w X.K X.mg X.base CX k E tf t):=by
 intro mn s σ H Q I h;refine Call_ (thn (hf mn s σ H _ I h) λu s1 ⟨x,H1,I1,rx,f,fd,ps,sp,ex,F,hk,hb,q⟩=>?_) hc;subst ex;obtain rfl:u=mK f:=rx;refine rN (h₀:=X.base) I.ok.mod.kin hk (thn (ha pos mn s1 σ H1 _ I1 q) λus s2 ⟨vs,H2,I2,r,q2⟩=>⟨I2.kIn,?_⟩) he hpl;exact zcv (dvs:=[]) (ds:=[]) F hr hb .nil hx I2 r (by simpa using q2)
end
inductive rIxTop (w:World) (K:Fg) (x y:V) (H:Hp) (Q:VK):Prop
 | mk (a:Ad) (k:Str) (u:Vl) (v:V) (_:x=.ref a) (_:y=.str k) (_:xT w K a) (_:mG K a k=Z (Z u)) (_:RelV v u) (_:Q v H)
def zdc:IxR X (rIxTop X.w X.K):=by
 intro value slice mn s σ H x y v u Q I rx ry h hs;obtain ⟨a,k,u',z,rfl,rfl,T,e,r,q⟩:=h;cases (show v=mK a from rx);obtain ⟨t,rfl⟩:=(show ∃ t,u=Value.str k t from ry);have T':=T;obtain ⟨es,n,hl,hk⟩:=T';exact tail_any (PySem.W.mapOf_K (prog:=X.prog) I.kIn hl hk).typeIs slot_dict_getitem.lookup (top_item I T e ⟨z,H,I.tok _,r,q⟩) hs
structure ExcCls (K:Fg) (C:Ad):Prop where
 hg:ng K (.ref C) "__getattribute__"=Z (Z (.builtin "BaseException.__getattribute__"))
 hgg:ng K (.ref C) "__getattr__"=Z O
 hsb:PySem.W.subIn K (.ref C) (.type "BaseException")=Z true
 hd:si K C=true
 ha:ng K (.ref C) "__class__"=Z (Z (.builtin "object.__class__"))
 hn:pe K (.builtin "object.__class__") "__get__"=Z (Z (.builtin "getset_descriptor.__get__"))
 ht:pG K (.builtin "object.__class__")=Z true
 hm:rp K C (.type "object")=Z true
def TyX (K:Fg) (H:Hp) (x:V) (t:Vl):Prop:=TyOf K H x t∨∃ e C,x=.ref e/\H e=Z (excO e C)/\t=.ref C/\ExcCls K C
inductive rIsi (K:Fg) (vs:Jj) (H:Hp) (Q:VK):Prop
 | mk (x c:V) (cv t:Vl) (b:Bool) (_:vs=[x,c]) (_:RelV c cv) (_:(∀ u,RelV c u->u=cv)) (_:TyX K H x t) (_:mE K t cv=Z b) (_:Q (.bl b) H)
def zE:Yp X (.builtin "isinstance") (rIsi X.K):=by
 intro mn s σ H xs us Q I r h;obtain ⟨x,c,cv,t,b,rfl,rc,ic,ty,e,q⟩:=h;obtain ⟨u,w',rfl,ru,rw'⟩:=vals2 r;cases ic w' rw';rcases ty with ty | ⟨ea,C,rfl,he,rfl,ec⟩
 .exact isinst_ok I ru ty e λtk=>⟨.bl b,H,I.tok _,Y,q⟩
 .cases (show u=mK ea from ru)
  obtain ⟨p,_⟩:=(show ObjOk X.prog X.w H s.heap ea (excO ea C) from I.hok ea _ he);exact oJ (My.kitx_exc ec.hg ec.hgg ec.hsb ec.hd ec.ha ec.hn ec.ht ec.hm) I.kIn p e (λz=>nomatch z) λtk=>⟨.bl b,H,I.tok _,Y,q⟩
def yk {P:nQ} {w:World} {base:Heap} {X:Cx}:xf (CXe P w base) X E0:=λ_ _ _ _ _ _ _ h=>by
 obtain ⟨_,_,_,_,_,_,_,_,_,q⟩:=h;exact q.elim
section
variable {K:Fg} {base:Heap}
def Fun.okE {x mt:Str} {st:Stmt} {f:Ad} {fd:og} {N ps:Jb} {k:Nat} {sp:Sp} (F:Fun K x mt st f fd) (S:FnScope N ps (ze st)) (len:∀ vs H Q E,sp vs H Q E->vs.length=ps.length)
  (hbody:∀ (mx:Vl) (A:Around) (outer:List Env) (s:Sh) (H:Hp) (vs:Jj) (Q:VK) (E:XK),Room k (A.deeper (envOfC mt (ze st) s.heap.objs.size f mx))->sp vs H Q E ->
   ∃ t,PSs (yh (CXe P w base) P w K mg base N mt (ze st) f mx A outer s H E) (zS st) t/\t { nx:=λ_ H'=>Q .non H',rt:=Q } (start N vs) H):FnOk P w K mg base (CXe P w base) (k+1) f fd ps sp:=by
 obtain ⟨oc,od,kV,doc,pm,an,mx,ct,osl,rfl,lk,hcd⟩:=F.ex;exact fn_of lk hcd S len λA outer s H vs Q E hr hsp=>hbody mx A outer s H vs Q E hr hsp
def zk (K:Fg) (mg:J0) (x:Str) (st:Stmt) (ps:Jb):Prop:=∃ (f:Ad) (fd:og),mg x=Z (.ref f)/\Fun K x x st f fd/\Binds K fd ps []
def defIn_mk {h:Heap} {x:Str} {st:Stmt} {ps:Jb} {f:Ad} {oc:Vl} {od an:Option Ad} {osl:Array (Ja)} {kV doc pm mx ct:Vl} (X:K.In h) (G:h.Ns mW mg)
  (a:mG K mW x=Z (Z (.ref f))) (l:K.lookup f=Z ⟨oc,od,.func (o4 x x (yj st) (zS st) (ze st) .none kV doc pm an mx ct),osl⟩)
  (c:oX K mx x=true) (k:mR K (.ref f)=true)
  (b:∀ (kV doc pm:Vl) (an:Option Ad) (mx ct:Vl) (us:J8),us.length=ps.length->bindArgs (o4 x x (yj st) (zS st) (ze st) .none kV doc pm an mx ct) ⟨us,[]⟩=pure (ps.zip us)):zk K mg x st ps :=
 ⟨f,_,PySem.W.mg_of X G a,Y2 l c k,(Y2 l c k).binds b⟩
def Ok (P:nQ) (w:World) (K:Fg) (mg:J0) (base:Heap) (CX:CXT) (k:Nat) (x:Str) (ps:Jb) (sp:Sp):Prop :=
 ∃ (f:Ad) (fd:og),mg x=Z (.ref f)/\mR K (.ref f)=true/\Binds K fd ps []/\FnOk P w K mg base CX k f fd ps sp
def Ok.mono {CX:CXT} {j k:Nat} {x:Str} {ps:Jb} {sp:Sp} (o:Ok P w K mg base CX j x ps sp) (h:j<=k):Ok P w K mg base CX k x ps sp:=by
 obtain ⟨f,fd,a,b,c,d⟩:=o;exact ⟨f,fd,a,b,c,d.mono h⟩
end
def zD {X:Cx} {CX:CXT} {k:Nat} {x:Str} {ps:Jb} {sp:Sp} {E:XK} {p pos:Pos} {e:Expr} {es:Jd} {t:TA} (o:Ok X.prog X.w X.K X.mg X.base CX k x ps sp) (hr:Room k X.A) (hg:Gl X x) (hx:xf CX X E) (ha:PA X (e::es) t)
  (hdb:(x == ("__debug__":Str))=false:=by decide) (he:mO (e::es) X.env=(false,eval e X.env)::mO es X.env:=by rfl) (hpl:(backTo pos (mO es X.env)).any (·.1)=false:=by rfl) :
  PE X (.Call (.Name x p) (e::es) [] pos) (zbu sp [] E t):=by
 obtain ⟨f,fd,a,b,c,d⟩:=o;exact pe_call d hr hg a b c .nil hx ha hdb he hpl
def pe1_ok {X:Cx} {σ₀:St} {CX:CXT} {k:Nat} {x:Str} {ps:Jb} {sp:Sp} {E:XK} {p pos:Pos} {e:Expr} {es:Jd} {t:TA} (o:Ok X.prog X.w X.K X.mg X.base CX k x ps sp) (hr:Room k X.A) (hg:Gl X x) (hx:X9 CX X σ₀ E) (ha:PA X (e::es) t)
  (hdb:(x == ("__debug__":Str))=false:=by decide) (he:mO (e::es) X.env=(false,eval e X.env)::mO es X.env:=by rfl) (hpl:(backTo pos (mO es X.env)).any (·.1)=false:=by rfl) :
  PE1 X σ₀ (.Call (.Name x p) (e::es) [] pos) (zbu sp [] E t):=by
 obtain ⟨f,fd,a,b,c,d⟩:=o;exact pe1_call d hr hg a b c hx ha hdb he hpl
theorem zdd:∀ {ns:J6} {us:J8},Vals (ns.map V.int) us->IntsAre us ns
 | [],_,.nil=>.nil
 | n::ns,_,.cons ⟨t,e⟩ r=>by subst e;exact .cons n t (zdd r)
def zax:OpR X (sw .FloorDiv) (rI (λ_ j=>j≠0/\-18446744073709551616<j/\j<18446744073709551616) λi j=>.int (i.fdiv j)):=opI λi j _ _ _ _ _ hc q=>floordiv_int hc.1 q (.inl (PyProof.noPylong_of_log2 (by
 have h64:j.natAbs<2 ^ 65:=by omega
 have:=(Nat.log2_lt (by omega:j.natAbs≠0)).mpr h64;omega)))
inductive sp1 (g:Int->V) (vs:Jj) (H:Hp) (Q:VK) (_:XK):Prop
 | mk (n:_) (_:vs=[.int n]) (_:Q (g n) H)
inductive sp2 (C:Int->Int->Prop) (g:Int->Int->Int) (vs:Jj) (H:Hp) (Q:VK) (_:XK):Prop
 | mk (a b:_) (_:vs=[.int a,.int b]) (_:C a b) (_:Q (.int (g a b)) H)
def len1 {g:Int->V}:∀ vs H Q E,sp1 g vs H Q E->vs.length=1:=by rintro vs H Q E ⟨n,e,_⟩;rw [e];rfl
def len2 {C:Int->Int->Prop} {g:Int->Int->Int}:∀ vs H Q E,sp2 C g vs H Q E->vs.length=2:=by rintro vs H Q E ⟨a,b,e,_⟩;rw [e];rfl
def xC {X:Cx} {x:Str} {i:Int} {t:Tok} {pos:Pos} (hm:X.mg x=Z (.int i t)) (hg:Gl X x:=by rfl) (hd:(x == ("__debug__":Str))=false:=by decide):PE X (.Name x pos) (tC (.int i)):=pe_glob hg hm (v:=.int i) ⟨_,Y⟩ hd
def zZ {X:Cx} {x:Str} {a:Ad} {pos:Pos} (hm:X.mg x=Z (.ref a)) (hg:Gl X x:=by rfl) (hd:(x == ("__debug__":Str))=false:=by decide):PE X (.Name x pos) (tC (.ref a)):=pe_glob hg hm (v:=.ref a) rfl hd
def XA {X:Cx} {x:Str} {n:String} {pos:Pos} (hm:X.mg x=O) (hv:sP x=Z (.type n)) (hg:Gl X x:=by rfl) (hn:x≠"__name__":=by decide) (hd:(x == ("__debug__":Str))=false:=by decide):PE X (.Name x pos) (tC (.ty n)):=pe_bltn hg hm hv (v:=.ty n) rfl hn hd
abbrev Cx.comp (X:Cx) (mC:Scope) (cl:List (Str×Ad)) (NY:Jb) (s3:Sh) (H3:Hp) (fp:Jc):Cx :=
 { X with N:=NY,s₀:=s3,H₀:=H3,env:=oS mC cl s3.heap.objs.size X.env,outer:=X.stack,ex:=fp,fn:=λ_=>false,pn:=[],xe:=λ_ _=>False }
abbrev Lz:Obj:={ cls:=.type "list",data:=.seq ([]:J8).toArray }
abbrev pz (s:Sh):Sh:={ s with heap:=s.heap.push Lz }
abbrev Xz (X:Cx) (mC:Scope) (cl:List (Str×Ad)) (NY:Jb) (s2:Sh) (H2:Hp) (fp:Jc):Cx:=X.comp mC cl NY (pz s2) (upd H2 s2.heap.objs.size (.lst [])) fp
structure Sees (X:Cx) (mC:Scope) (cl:List (Str×Ad)):Prop where
 kind:mC.kind=.function
 clos:closureFor mC X.env=pure cl
 nocell:∀ y∈mC.names,y.2≠.cell
 names:∀ y∈mC.names,y.2=.local->mC.names.lookup y.1=Z .local
 sub:∀ x c,cl.lookup x=Z c->X.env.cells.lookup x=Z c
 has:∀ x,((oS mC cl 0 X.env).kindOf x=Z .cell∨(oS mC cl 0 X.env).kindOf x=Z .free)->∃ c,cl.lookup x=Z c
section
variable {σ:St} {H3:Hp} {s3:Sh} {mC:Scope} {cl:List (Str×Ad)} {NY:Jb} {fp:Jc}
def comp_ok (I:Inv X mn σ H3 s3) (S:Sees X mC cl) (hfp:∀ b∈fp,Yx X mn H3 b) (hob:∀ b∈fp,∃ o,s3.heap.get? b=Z o):(X.comp mC cl NY s3 H3 fp).Ok where
 mod:=I.ok.mod
 kind:=S.kind
 glob:=I.ok.glob
 blt:=I.ok.blt
 above:=m8 _
 inj:=λx y c a b=>I.ok.inj x y c (S.sub _ _ a) (S.sub _ _ b)
 has:=λx h=>S.has x h
 cab:=λ_ _ h=>nomatch h
 hd:=I.ok.hd
 frames:=I.ok.frames
 stk:=.inl rfl
 exf:=λb hb=>⟨λz=>by
  obtain ⟨o,q⟩:=hob b hb;exact absurd (mH q) (by rw [z];exact p6 _),λx c q=>(hfp b hb).2.2.2.2.1 x c (S.sub _ _ q)⟩
 bs:=I.bs
 bsz:=mL I.ok.bsz I.sz
 noex:=λb o q hb=>by
  rcases (hfp b hb).2.2.2.1 with z | z
  .exact I.ok.noex b o q z
  .exact absurd (q7z (mH q) (mL I.ok.bsz z)) (p6 _)
 exfs:=λb hb z=>by
  rcases mM.mp (I.stkSub b z) with y | y
  .exact (hfp b hb).2.1 y
  .exact (hfp b hb).2.2.1 y
 funs:=I.stack
 frf:=I.stkFree
def zet {h1:Heap} {t:Nat} {σY:St} (I:Inv X mn σ H3 s3) (S:Sees X mC cl) (hfp:∀ b∈fp,Yx X mn H3 b) (hob:∀ b∈fp,∃ o,s3.heap.get? b=Z o)
  (hn:h1.Ns s3.heap.objs.size λ_=>O) (hk:∀ b o,s3.heap.get? b=Z o->h1.get? b=Z o) (hl:σY.length=NY.length)
  (hσ:∀ (i:Nat) (x:Str) (v:V),NY[i]?=Z x->σY[i]?=Z (Z v)->∃ c u,(((oS mC cl 0 X.env).kindOf x=Z .cell∨(oS mC cl 0 X.env).kindOf x=Z .free))/\cl.lookup x=Z c/\RelV v u/\s3.heap.IsCell c (Z u)) :
  Inv (X.comp mC cl NY s3 H3 fp) [] σY H3 { s3 with heap:=h1,toks:=t } where
 ok:=comp_ok I S hfp hob
 os:=rfl
 bare:=I.bare
 base:=Un.kept hk
 loc:=⟨_,hn,λi x v e1 e2 _=>by
  obtain ⟨c,u,k,q,r,z⟩:=hσ i x v e1 e2;obtain ⟨o,z1,z2⟩:=z;exact ⟨u,r,.inr ⟨k,c,q,o,hk _ _ z1,z2⟩⟩⟩
 cell:=λx c q=>by
  obtain ⟨v,o,z1,z2⟩:=I.cell x c (S.sub _ _ q);exact ⟨v,o,hk _ _ z1,z2⟩
 free:=I.hok.fresh (m8 _)
 freeC:=λx c q=>I.freeC x c (S.sub _ _ q)
 pin:=λp hp=>absurd hp (by simp)
 hok:=I.hok.kept hk
 len:=hl
def zb9 {Y0_:J7} {σY:St} {H':Hp} {s':Sh} {h':Heap} (I:Inv X mn σ H3 s3) (hfp:∀ b∈fp,Yx X mn H3 b) (J:Inv (X.comp mC cl NY s3 H3 fp) Y0_ σY H' s') (hs:pL s3.heap.objs.size s'.heap h') :
  Inv X mn σ H' { s' with heap:=h' }:=by
 have ne:∀ b o,s3.heap.get? b=Z o->b≠s3.heap.objs.size:=λb o q=>nh (mH q);have B:=J.base;refine I.call' (s':={ s' with heap:=h' }) (ch:=fp) J.os ⟨λb o q n hb hx=>?_,λb o q n hb hx=>?_,B.free,λb o q hx=>?_,B.tups,B.frzs,B.tbls⟩ (λb o q=>?_) J.bare λb hb=>?_
 .exact (hs.2 b (ne b o q)).trans (B.keep b o q n hb hx)
 .obtain ⟨sl,z⟩:=B.slot b o q n hb hx
  exact ⟨sl,(hs.2 b (ne b o q)).trans z⟩
 .obtain ⟨o',z⟩:=B.there b o q hx
  exact ⟨o',(hs.2 b (ne b o q)).trans z⟩
 .have hf:H' s3.heap.objs.size=O:=J.free
  refine (J.hok b o q).stay (λc v hc r=>(hs.2 c ?_).trans r) (λ_ z=>z) λ_ _ z=>z;rintro rfl;rcases hc with z | z
  .rw [← z,hf] at q;cases q
  .rw [hf] at z;cases z
 .obtain ⟨_,f2,_,f4,f5,f6⟩:=hfp b hb
  exact ⟨f4,f2,f5,f6⟩
end
section
variable {A:Around} {R:Result->Sh->Prop} {s:Sh}
theorem comp_loop {elt target iter:Expr} {mC:Scope} {pos:Pos} {it acc:Vl} {env:Env} (I:Nat->Sh->Prop)
  (turn:∀ n s,I n s->wpAny (model prog w) A (pyNext it) (λr s₁=>match r with
   | none=>R (.ok .next) s₁
   | some v=>wpAny (model prog w) A (rD target it v) (λ_ s₂=>wpAny (model prog w) A (assign target env v) (λ_ s₃=>wpAny (model prog w) A (eval elt env) (λx s₄ =>
     wpAny (model prog w) A (call (.builtin "list.append") [acc,x]) (λ_ s₅=>∃ m,m<n/\I m s₅) (λ_ _=>False) s₄) (λ_ _=>False) s₃) (λ_ _=>False) s₂) (λ_ _=>False) s₁) (λ_ _=>False) s)
  (n:Nat) (h:I n s):tP (model prog w) A (.compLoop (.ListComp elt [⟨target,iter,[],0⟩] mC pos) 0 it acc env) R s:=by
 refine codeAny_loop rfl I (λn s hI=>?_) n h;show wpAny _ _ ((compTurn (.ListComp elt [⟨target,iter,[],0⟩] mC pos) 0 it acc env).onRaise (λx=>do noteFrame x env;theTreesLotGoes x)) _ _ s;refine wpAny_noted ?_;rw [compTurn_list1];refine q0x (wpAny_standAt (q0x (oB (turn n s hI) (λr s₁ h₁=>?_) λ_ _ z=>z.elim)))
 cases r with
 | none=>exact q0y h₁
 | some v =>
  refine q0x (oB h₁ (λ_ s₂ h₂=>?_) λ_ _ z=>z.elim);refine q0x (oB h₂ (λ_ s₃ h₃=>?_) λ_ _ z=>z.elim);refine q0x (q0x (oB h₃ (λx s₄ h₄=>?_) λ_ _ z=>z.elim));exact q0x (oB h₄ (λ_ s₅ h₅=>q0y (q0y ⟨Y,h₅⟩)) λ_ _ z=>z.elim)
end
inductive CompW (J:It) (g:TG) (te:TE) (σY:St) (H1:Hp) (D:Ad) (Q:VK):Prop
 | mk (W:Nat->Nat->St->Hp->Prop) (_:(∃ m,W 0 m σY H1)) (_:∀ i m σ' H',W i m σ' H'->(J.stop i H'/\Q (.ref D) H')∨(J.go i H'/\∃ N:St->Hp->Prop,(∀ σ2 H2,N σ2 H2->∃ m',m'<m/\W (i+1) m' σ2 H2)/\∀ x H2,J.yld i H' x H2->g x σ' H2 λσ3 H3=>te σ3 H3 λv H4=>∃ xs,H4 D=Z (.lst xs)/\xs.length<mI/\N σ3 (upd H4 D (.lst (xs++[v]))))):CompW J g te σY H1 D Q
inductive tComp_S (g:TG) (te:TE) (σ0:St->Hp->St->Prop) (σ:St) (Q:VK) (J:It) (H1:Hp):Prop
 | mk (σY:_) (_:σ0 σ H1 σY) (_:∀ D,H1 D=O->CompW J g te σY (upd H1 D (.lst [])) D Q)
def tComp (wi:TI) (g:TG) (te:TE) (σ0:St->Hp->St->Prop):TE:=λσ H Q=>wi σ H λJ H1=>tComp_S g te σ0 σ Q J H1
section
variable {A:Around} {R:Result->Sh->Prop} {s:Sh}
theorem zft {elt target iter tst:Expr} {mC:Scope} {pos:Pos} {it acc:Vl} {env:Env} (I:Nat->Sh->Prop)
  (turn:∀ n s,I n s->wpAny (model prog w) A (pyNext it) (λr s₁=>match r with
   | none=>R (.ok .next) s₁
   | some v=>wpAny (model prog w) A (rD target it v) (λ_ s₂=>wpAny (model prog w) A (assign target env v) (λ_ s₃=>wpAny (model prog w) A (isTrue tst env (eval tst env)) (λok t₃=>match ok with
     | true=>wpAny (model prog w) A (eval elt env) (λx s₄=>wpAny (model prog w) A (call (.builtin "list.append") [acc,x]) (λ_ s₅=>∃ m,m<n/\I m s₅) (λ_ _=>False) s₄) (λ_ _=>False) t₃
     | false=>∃ m,m<n/\I m t₃) (λ_ _=>False) s₃) (λ_ _=>False) s₂) (λ_ _=>False) s₁) (λ_ _=>False) s)
  (n:Nat) (h:I n s):tP (model prog w) A (.compLoop (.ListComp elt [⟨target,iter,[tst],0⟩] mC pos) 0 it acc env) R s:=by
 refine codeAny_loop rfl I (λn s hI=>?_) n h;show wpAny _ _ ((compTurn (.ListComp elt [⟨target,iter,[tst],0⟩] mC pos) 0 it acc env).onRaise (λx=>do noteFrame x env;theTreesLotGoes x)) _ _ s;refine wpAny_noted ?_;rw [compTurn_list];refine q0x (wpAny_standAt (q0x (oB (turn n s hI) (λr s₁ h₁=>?_) λ_ _ z=>z.elim)))
 cases r with
 | none=>exact q0y h₁
 | some v =>
  refine q0x (oB h₁ (λ_ s₂ h₂=>?_) λ_ _ z=>z.elim);refine q0x (oB h₂ (λ_ s₃ h₃=>?_) λ_ _ z=>z.elim);refine q0x (wpAny_tests_one (oB h₃ (λok t₃ h₃=>?_) λ_ _ z=>z.elim))
  cases ok with
  | false=>exact q0y ⟨Y,h₃⟩
  | true =>
   refine q0x (q0x (oB h₃ (λx s₄ h₄=>?_) λ_ _ z=>z.elim));exact q0x (oB h₄ (λ_ s₅ h₅=>q0y (q0y ⟨Y,h₅⟩)) λ_ _ z=>z.elim)
end
inductive CompWF (J:It) (g:TG) (tt:TT) (te:TE) (σY:St) (H1:Hp) (D:Ad) (Q:VK):Prop
 | mk (W:Nat->Nat->St->Hp->Prop) (_:(∃ m,W 0 m σY H1)) (_:∀ i m σ' H',W i m σ' H'->(J.stop i H'/\Q (.ref D) H')∨(J.go i H'/\∃ N:St->Hp->Prop,(∀ σ2 H2,N σ2 H2->∃ m',m'<m/\W (i+1) m' σ2 H2)/\∀ x H2,J.yld i H' x H2->g x σ' H2 λσ3 H3=>tt σ3 H3 λb H4=>if b=true then te σ3 H4 λv H5=>∃ xs,H5 D=Z (.lst xs)/\xs.length<mI/\N σ3 (upd H5 D (.lst (xs++[v]))) else N σ3 H4)):CompWF J g tt te σY H1 D Q
inductive tCompF_S (g:TG) (tt:TT) (te:TE) (σ0:St->Hp->St->Prop) (σ:St) (Q:VK) (J:It) (H1:Hp):Prop
 | mk (σY:_) (_:σ0 σ H1 σY) (_:∀ D,H1 D=O->CompWF J g tt te σY (upd H1 D (.lst [])) D Q)
def tCompF (wi:TI) (g:TG) (tt:TT) (te:TE) (σ0:St->Hp->St->Prop):TE:=λσ H Q=>wi σ H λJ H1=>tCompF_S g tt te σ0 σ Q J H1
def tTrue:TT:=λ_ H Q=>Q true H
def Ifs (X:Cx) (ifs:Jd) (tt:TT):Prop:=(ifs=[]/\tt=tTrue)∨∃ tst,ifs=[tst]/\PT X tst tt
def Ifs.len {X:Cx} {ifs:Jd} {tt:TT} (h:Ifs X ifs tt):ifs.length<=1:=by
 rcases h with ⟨rfl,_⟩ | ⟨_,rfl,_⟩
 .exact nK _
 .exact m8 _
def testW (M:Model) (A:Around) (env:Env) (ifs:Jd) (K:Bool->Sh->Prop) (E:J5) (s:Sh):Prop:=match ifs with
 | [t]=>wpAny M A (isTrue t env (eval t env)) K E s
 | _=>K true s
def ifs_ok {X:Cx} {ifs:Jd} {tt:TT} {mn:J7} {σ:St} {H:Hp} {s:Sh} {Q:Bool->Hp->Prop} {K:Bool->Sh->Prop} (h:Ifs X ifs tt) (I:Inv X mn σ H s) (q:tt σ H Q) (k:∀ b H' s',Inv X mn σ H' s'->Q b H'->K b s'):testW (model X.prog X.w) X.A X.env ifs K X.xe s:=by
 rcases h with ⟨rfl,rfl⟩ | ⟨_,rfl,ht⟩
 .exact k true H s I q
 .exact thn (ht mn s σ H Q I q) λb s' ⟨H',I',q'⟩=>k b H' s' I' q'
theorem zbc {prog:nQ} {w:World} {A:Around} {R:Result->Sh->Prop} {s:Sh} {elt target iter:Expr} {ifs:Jd} {mC:Scope} {pos:Pos} {it acc:Vl} {env:Env} (hi:ifs.length<=1) (I:Nat->Sh->Prop)
  (turn:∀ n s,I n s->wpAny (model prog w) A (pyNext it) (λr s₁=>match r with
   | none=>R (.ok .next) s₁
   | some v=>wpAny (model prog w) A (rD target it v) (λ_ s₂=>wpAny (model prog w) A (assign target env v) (λ_ s₃=>testW (model prog w) A env ifs (λok t₃=>match ok with
     | true=>wpAny (model prog w) A (eval elt env) (λx s₄=>wpAny (model prog w) A (call (.builtin "list.append") [acc,x]) (λ_ s₅=>∃ m,m<n/\I m s₅) (λ_ _=>False) s₄) (λ_ _=>False) t₃
     | false=>∃ m,m<n/\I m t₃) (λ_ _=>False) s₃) (λ_ _=>False) s₂) (λ_ _=>False) s₁) (λ_ _=>False) s)
  (n:Nat) (h:I n s):tP (model prog w) A (.compLoop (.ListComp elt [⟨target,iter,ifs,0⟩] mC pos) 0 it acc env) R s:=by
 match ifs,hi with
 | [],_=>exact comp_loop I turn n h
 | [t],_=>exact zft I turn n h
section
variable {tg:Expr}
structure CompEnd (X:Cx) (mn:J7) (σ:St) (H5:Hp) (s6:Sh) (C:Ad):Prop where
 ns:∃ m,s6.heap.Ns C m
 hn:H5 C=O
 hL:C≠X.env.locals
 h1:X.s₀.heap.objs.size<=C
 h2:∀ x c,X.env.cells.lookup x=Z c->c≠C
 h3:∀ p∈X.pn++mn,p.1≠C
 inv:∀ h',pL C s6.heap h'->Inv X mn σ H5 { s6 with heap:=h' }
def zbd {iter elt:Expr} {ifs:Jd} {mC:Scope} {pos pos':Pos} {cl:List (Str×Ad)} {NY:Jb} {wi:TI} {g:TG} {tt:TT} {te:TE} {σ0:St->Hp->St->Prop} (hc:X.calm=true) (S:Sees X mC cl) (hi:PI X tg iter wi)
  (hY:∀ (s3:Sh) (H3:Hp) (fp:Jc),PG (X.comp mC cl NY s3 H3 fp) tg g/\Ifs (X.comp mC cl NY s3 H3 fp) ifs tt/\PE (X.comp mC cl NY s3 H3 fp) elt te)
  (h0:∀ (mn:J7) (σ:St) (H:Hp) (s3:Sh) (σY:St),Inv X mn σ H s3->σ0 σ H σY->σY.length=NY.length/\∀ (i:Nat) (x:Str) (v:V),NY[i]?=Z x->σY[i]?=Z (Z v) ->
   ∃ c u,(((oS mC cl 0 X.env).kindOf x=Z .cell∨(oS mC cl 0 X.env).kindOf x=Z .free))/\cl.lookup x=Z c/\RelV v u/\s3.heap.IsCell c (Z u))
  (hs:∀ x,oH iter X.env x=pure x) {use:Option (Vl->Sem Unit)} {R:J5} {mn:J7} {s:Sh} {σ:St} {H:Hp} {Q:VK} (I:Inv X mn σ H s) (h:tCompF wi g tt te σ0 σ H Q)
  (fin:∀ (C D:Ad) (H5:Hp) (s6:Sh),CompEnd X mn σ H5 s6 C->Q (.ref D) H5->compPost (model X.prog X.w) X.A X.xe use R (.ref D) C (.ok .next) s6) :
  wpAny (model X.prog X.w) X.A (comprehension (.ListComp elt [⟨tg,iter,ifs,0⟩] mC pos) mC X.env pos' (newList []) (firstAsync [⟨tg,iter,ifs,0⟩]) (firstIter [⟨tg,iter,ifs,0⟩] X.env) use) R X.xe s:=by
 refine wpAny_comprehension_free rfl hs S.clos S.kind S.names (thn (hi mn s σ H _ I h) λv s1 h1=>thn h1 λitv s2 h2=>?_);obtain ⟨it,fp,tn,J,H2,e,I2,T,st2,f2,σY,hσ,hW⟩:=h2;subst e;refine wpAny_newObj_type ?_;have I3:Inv X mn σ (upd H2 s2.heap.objs.size (.lst [])) (pz s2):=I2.lnew (t':=s2.toks) (its:=[]) .nil (nK _);obtain ⟨W,⟨m0,w0⟩,turn⟩:=hW s2.heap.objs.size (I2.hok.fresh (m8 _));have ob2:=T.obj _ _ st2
 have hfp:∀ b∈fp,Yx X mn (upd H2 s2.heap.objs.size (.lst [])) b:=λb hb=>by
  obtain ⟨o,q,_⟩:=ob2 b hb;exact ⟨by rw [zj (nh (mH q))];exact (f2 b hb).1,(f2 b hb).2⟩
 have hob:∀ b∈fp,∃ o,(s2.heap.push Lz).get? b=Z o:=λb hb=>by
  obtain ⟨o,q,_⟩:=ob2 b hb;exact ⟨o,mD _ q⟩
 refine wpAny_newFunctionEnv S.nocell (λy hy=>absurd hy (by simp)) (λh1 hn1 hs1=>?_) S.kind;obtain ⟨hl,hY0⟩:=h0 mn σ H2 s2 σY I2 hσ;have k23:∀ b o,s2.heap.get? b=Z o->(s2.heap.push Lz).get? b=Z o:=λb o q=>mD _ q;have k34:∀ b o,(s2.heap.push Lz).get? b=Z o->h1.get? b=Z o:=λb o q=>(hs1.2 b (nh (mH q))).trans (mD _ q)
 have I4:=zet (mC:=mC) (cl:=cl) (NY:=NY) (fp:=fp) (h1:=h1) (t:=s2.toks) (σY:=σY) I3 S hfp hob hn1 k34 hl λi x v e1 e2=>by
  obtain ⟨c,u,k,q,r,o,z1,z2⟩:=hY0 i x v e1 e2;exact ⟨c,u,k,q,r,o,k23 _ _ z1,z2⟩
 have st4:tn 0 h1:=T.keep _ _ _ st2 λb hb o q=>k34 _ _ (k23 _ _ q);have fr4:∀ b∈fp,(upd H2 s2.heap.objs.size (.lst [])) b=O:=λb hb=>(hfp b hb).1;obtain ⟨hg,ht,he⟩:=hY (pz s2) (upd H2 s2.heap.objs.size (.lst [])) fp;have okY:=I4.ok
 have statY:∀ {H':Hp},(∀ b∈fp,H' b=O)->∀ b∈fp,Yx (Xz X mC cl NY s2 H2 fp) [] H' b :=
  λhn b hb=>⟨hn b hb,(okY.exf b hb).1,okY.exfs b hb,.inl hb,(okY.exf b hb).2,λp hp=>absurd hp (by simp)⟩
 have loop:tP (model X.prog X.w) X.A (.compLoop (.ListComp elt [⟨tg,iter,ifs,0⟩] mC pos) 0 (.ref it) (.ref s2.heap.objs.size) (oS mC cl (s2.heap.push Lz).objs.size X.env))
   (compPost (model X.prog X.w) X.A X.xe use R (.ref s2.heap.objs.size) (s2.heap.push Lz).objs.size) { s2 with heap:=h1,toks:=s2.toks }:=by
  refine zbc ht.len (λn s'=>∃ i σ' H',Inv (Xz X mC cl NY s2 H2 fp) [] σ' H' s'/\tn i s'.heap/\(∀ b∈fp,H' b=O)/\W i n σ' H') ?_ m0 ⟨0,σY,_,I4,st4,fr4,w0⟩;rintro n s5 ⟨i,σ5,H5,I5,st5,fr5,w5⟩;rcases turn i n σ5 H5 w5 with ⟨stop,q⟩ | ⟨go,N,hN,step⟩
  .refine thn (T.done (Xz X mC cl NY s2 H2 fp) rfl rfl rfl hc i [] s5 σ5 H5 _ I5 (statY fr5) st5 stop) λr s6 ⟨hr,I6⟩=>?_
   subst hr;obtain ⟨m,hm,_⟩:=I6.loc;refine fin _ _ H5 s6 ⟨⟨m,hm⟩,I6.free,oQ (nh I3.lt),I3.sz,λx c z=>?_,λp hp=>?_,λh' hs'=>zb9 I3 hfp I6 hs'⟩ q
   .obtain ⟨_,o,z1,_⟩:=I3.cell x c z
    exact nh (mH z1)
   .exact nh (mH (I3.pin p hp).1)
  .refine thn (T.item (Xz X mC cl NY s2 H2 fp) rfl rfl rfl hc i [] s5 σ5 H5 _ I5 (statY fr5) st5 go) λr s6 ⟨u,hr,h6⟩=>?_
   subst hr;refine thn h6 λ_ s7 ⟨x,H7,I7,r7,y7,st7,fr7⟩=>?_;have I7':=I7.pinned (statY fr7) (T.obj _ _ st7);refine thn (hg _ s7 σ5 H7 x u _ I7' r7 (step x H7 y7)) λ_ s8 ⟨σ8,H8,I8,q8⟩=>?_
   have pk:∀ {H':Hp} {s':Sh} {σ':St},Inv (Xz X mC cl NY s2 H2 fp) ([]++Xy fp s7.heap) σ' H' s'->tn (i+1) s'.heap/\∀ b∈fp,H' b=O:=λI'=>by
    refine ⟨T.keep _ _ _ st7 λb hb o q=>(I'.pin (b,o) (q7y _ (q7y _ (xK hb q)))).1,λb hb=>?_⟩;obtain ⟨o,q,d⟩:=T.obj _ _ st7 b hb;exact (I'.pin (b,o) (q7y _ (q7y _ (xK hb q)))).2.1
   refine ifs_ok ht I8 q8 λbb H8' s8' I8' q8'=>?_
   cases bb with
   | false =>
    have q8':=(show N σ8 H8' by simpa using q8');obtain ⟨m',hm,w10⟩:=hN _ _ q8';exact ⟨m',hm,i+1,σ8,_,I8'.unpinned,(pk I8').1,(pk I8').2,w10⟩
   | true =>
    have q8':=(show te σ8 H8' _ by simpa using q8');refine thn (he _ s8' σ8 H8' _ I8' q8') λz s9 ⟨v9,H9,I9,r9,xs,hx9,hz9,n9⟩=>?_;refine thn (ye _ s9 σ8 H9 (.ref s2.heap.objs.size) [v9] (.ref s2.heap.objs.size) [z] (λ_ H'=>H'=upd H9 s2.heap.objs.size (.lst (xs++[v9]))) I9 rfl (.cons r9 .nil) ⟨s2.heap.objs.size,xs,v9,Y,Y,hx9,hz9,Y⟩) λy s10 ⟨v10,H10,I10,_,e10⟩=>?_;subst e10;obtain ⟨m',hm,w10⟩:=hN _ _ n9;exact ⟨m',hm,i+1,σ8,_,I10.unpinned,(pk I10).1,(pk I10).2,w10⟩
 exact codeAny_compStart_list loop (T.self _ 0 _ _ _ st4 loop)
def pe_compI {iter elt:Expr} {ifs:Jd} {mC:Scope} {pos:Pos} {cl:List (Str×Ad)} {NY:Jb} {wi:TI} {g:TG} {tt:TT} {te:TE} {σ0:St->Hp->St->Prop} (hc:X.calm=true) (S:Sees X mC cl) (hi:PI X tg iter wi)
  (hY:∀ (s3:Sh) (H3:Hp) (fp:Jc),PG (X.comp mC cl NY s3 H3 fp) tg g/\Ifs (X.comp mC cl NY s3 H3 fp) ifs tt/\PE (X.comp mC cl NY s3 H3 fp) elt te)
  (h0:∀ (mn:J7) (σ:St) (H:Hp) (s3:Sh) (σY:St),Inv X mn σ H s3->σ0 σ H σY->σY.length=NY.length/\∀ (i:Nat) (x:Str) (v:V),NY[i]?=Z x->σY[i]?=Z (Z v) ->
   ∃ c u,(((oS mC cl 0 X.env).kindOf x=Z .cell∨(oS mC cl 0 X.env).kindOf x=Z .free))/\cl.lookup x=Z c/\RelV v u/\s3.heap.IsCell c (Z u))
  (hs:∀ x,oH iter X.env x=pure x:=by intro _;rfl) :
  PE X (.ListComp elt [⟨tg,iter,ifs,0⟩] mC pos) (tCompF wi g tt te σ0):=by
 intro mn s σ H Q I h;rw [eval_ListComp];refine zbd (use:=O) hc S hi hY h0 hs I h λC D H5 s6 e q=>?_;obtain ⟨m,hm⟩:=e.ns;exact ⟨m,hm,λh' hs'=>⟨.ref D,H5,e.inv h' hs',Y,q⟩⟩
def zb8 {iter elt:Expr} {mC:Scope} {pos pos':Pos} {cl:List (Str×Ad)} {NY:Jb} {wi:TI} {g:TG} {te:TE} {σ0:St->Hp->St->Prop} (hc:X.calm=true) (S:Sees X mC cl) (hi:PI X tg iter wi)
  (hY:∀ (s3:Sh) (H3:Hp) (fp:Jc),PG (X.comp mC cl NY s3 H3 fp) tg g/\PE (X.comp mC cl NY s3 H3 fp) elt te)
  (h0:∀ (mn:J7) (σ:St) (H:Hp) (s3:Sh) (σY:St),Inv X mn σ H s3->σ0 σ H σY->σY.length=NY.length/\∀ (i:Nat) (x:Str) (v:V),NY[i]?=Z x->σY[i]?=Z (Z v) ->
   ∃ c u,(((oS mC cl 0 X.env).kindOf x=Z .cell∨(oS mC cl 0 X.env).kindOf x=Z .free))/\cl.lookup x=Z c/\RelV v u/\s3.heap.IsCell c (Z u))
  (hs:∀ x,oH iter X.env x=pure x) {use:Option (Vl->Sem Unit)} {R:J5} {mn:J7} {s:Sh} {σ:St} {H:Hp} {Q:VK} (I:Inv X mn σ H s) (h:tComp wi g te σ0 σ H Q)
  (fin:∀ (C D:Ad) (H5:Hp) (s6:Sh),CompEnd X mn σ H5 s6 C->Q (.ref D) H5->compPost (model X.prog X.w) X.A X.xe use R (.ref D) C (.ok .next) s6) :
  wpAny (model X.prog X.w) X.A (comprehension (.ListComp elt [⟨tg,iter,[],0⟩] mC pos) mC X.env pos' (newList []) (firstAsync [⟨tg,iter,[],0⟩]) (firstIter [⟨tg,iter,[],0⟩] X.env) use) R X.xe s:=by
 refine zbd (tt:=tTrue) hc S hi (λs3 H3 fp=>⟨(hY s3 H3 fp).1,.inl ⟨Y,Y⟩,(hY s3 H3 fp).2⟩) h0 hs I ?_ fin
 have e:(λJ H1=>tCompF_S g tTrue te σ0 σ Q J H1)=λJ H1=>tComp_S g te σ0 σ Q J H1:=by
  funext J H1;exact propext ⟨λ⟨a,b,c⟩=>⟨a,b,λD n=>let ⟨W,w0,k⟩:=c D n;⟨W,w0,k⟩⟩,λ⟨a,b,c⟩=>⟨a,b,λD n=>let ⟨W,w0,k⟩:=c D n;⟨W,w0,k⟩⟩⟩
 show wi σ H _;rw [e];exact h
def pe_comp {iter elt:Expr} {mC:Scope} {pos:Pos} {cl:List (Str×Ad)} {NY:Jb} {wi:TI} {g:TG} {te:TE} {σ0:St->Hp->St->Prop} (hc:X.calm=true) (S:Sees X mC cl) (hi:PI X tg iter wi)
  (hY:∀ (s3:Sh) (H3:Hp) (fp:Jc),PG (X.comp mC cl NY s3 H3 fp) tg g/\PE (X.comp mC cl NY s3 H3 fp) elt te)
  (h0:∀ (mn:J7) (σ:St) (H:Hp) (s3:Sh) (σY:St),Inv X mn σ H s3->σ0 σ H σY->σY.length=NY.length/\∀ (i:Nat) (x:Str) (v:V),NY[i]?=Z x->σY[i]?=Z (Z v) ->
   ∃ c u,(((oS mC cl 0 X.env).kindOf x=Z .cell∨(oS mC cl 0 X.env).kindOf x=Z .free))/\cl.lookup x=Z c/\RelV v u/\s3.heap.IsCell c (Z u))
  (hs:∀ x,oH iter X.env x=pure x:=by intro _;rfl) :
  PE X (.ListComp elt [⟨tg,iter,[],0⟩] mC pos) (tComp wi g te σ0):=by
 intro mn s σ H Q I h;rw [eval_ListComp];refine zb8 (use:=O) hc S hi hY h0 hs I h λC D H5 s6 e q=>?_;obtain ⟨m,hm⟩:=e.ns;exact ⟨m,hm,λh' hs'=>⟨.ref D,H5,e.inv h' hs',Y,q⟩⟩
def ps_comp {iter elt:Expr} {mC:Scope} {pos pos' spos:Pos} {cl:List (Str×Ad)} {NY:Jb} {wi:TI} {g:TG} {te:TE} {σ0:St->Hp->St->Prop} {i:Nat} {y:Str} (hc:X.calm=true) (S:∀ {mn σ H s},Inv X mn σ H s->Sees X mC cl) (hi:PI X tg iter wi)
  (hY:∀ (s3:Sh) (H3:Hp) (fp:Jc),PG (X.comp mC cl NY s3 H3 fp) tg g/\PE (X.comp mC cl NY s3 H3 fp) elt te)
  (h0:∀ (mn:J7) (σ:St) (H:Hp) (s3:Sh) (σY:St),Inv X mn σ H s3->σ0 σ H σY->σY.length=NY.length/\∀ (i:Nat) (x:Str) (v:V),NY[i]?=Z x->σY[i]?=Z (Z v) ->
   ∃ c u,(((oS mC cl 0 X.env).kindOf x=Z .cell∨(oS mC cl 0 X.env).kindOf x=Z .free))/\cl.lookup x=Z c/\RelV v u/\s3.heap.IsCell c (Z u))
  (hs:∀ x,oH iter X.env x=pure x) (hN:X.N.Nodup) (hi':X.N[i]?=Z y) (hx:Loc X.env.scope y) (hf:X.fn y=true∨X.env.scope.names.lookup y=Z .local)
  (hw:swapsWith (.ListComp elt [⟨tg,iter,[],0⟩] mC pos) (Z (.Name y pos')) spos.line X.env=pure true):PS X (.Assign [.Name y pos'] (.ListComp elt [⟨tg,iter,[],0⟩] mC pos) spos) (tAsg (tComp wi g te σ0) (zb4 i)):=by
 intro mn s σ H D I h;rw [exec_Assign_Name_used _ _ _ _ hw,arm_evalThenUse_ListComp];refine q0x (wpAny_standAt (q0x (q0x (oB (zb8 (use:=Z (assign (.Name y pos') X.env)) (R:=λ_ s'=>SP X mn D .next s') hc (S I) hi hY h0 hs I h λC L H5 s6 e q=>?_) (λ_ s' z=>q0y (q0y z)) λ_ _ z=>z))));obtain ⟨m,hm⟩:=e.ns;have I6:Inv X mn σ H5 s6:=e.inv s6.heap ⟨Y,λ_ _=>rfl⟩;refine wpAny_assign_Name (Xs I6 hN hi' hx (v:=.ref L) rfl (λs' I' ⟨a,sb,ha⟩=>?_) hf)
 have ne:C≠a:=by
  rintro rfl;rcases ha with z | z
  .exact e.hL z
  .exact e.h2 _ _ z rfl
 refine ⟨m,?_,λh' hs'=>?_⟩
 .obtain ⟨o,es,ep,z,r⟩:=hm
  exact ⟨o,es,ep,(sb.2 _ ne).trans z,r⟩
 .exact ⟨_,H5,I'.turned (t':=s'.toks) (it:=C) (λb o nb z=>(hs'.2 b nb).trans z) e.hn e.hL (.inr e.h1) e.h2 e.h3,q⟩
end
def Z9 {K:Fg} {a D:Ad} {xs:Jj} {g:TG} {te:TE} {σY:St} {H1:Hp} {Q:VK} (Pv:Nat->St->Hp->Prop) (h0:Pv 0 σY H1) (hl:∀ i σ H,i<=xs.length->Pv i σ H->SqL K H a xs)
  (hs:∀ i x σ H,xs[i]?=Z x->Pv i σ H->g x σ H λσ3 H3=>te σ3 H3 λv H4=>∃ ys,H4 D=Z (.lst ys)/\ys.length<mI/\Pv (i+1) σ3 (upd H4 D (.lst (ys++[v])))) (hd:∀ σ H,Pv xs.length σ H->Q (.ref D) H) :
  CompW (Itl K a) g te σY H1 D Q:=by
 refine ⟨λi m σ H=>m=xs.length-i/\i<=xs.length/\Pv i σ H,⟨xs.length,by simp,nK _,h0⟩,?_⟩;rintro i m σ H ⟨rfl,hi,p⟩;have q:=hl i σ H hi p;by_cases hlt:i<xs.length
 .refine .inr ⟨⟨xs,xs[i],q,by simp [hlt]⟩,Pv (i+1),λσ' H' p'=>⟨xs.length-(i+1),by omega,Y,hlt,p'⟩,λx H' y=>?_⟩
  obtain ⟨e,y⟩:=y;subst e;exact hs i x σ _ (y xs q) p
 .have e:i=xs.length:=by omega
  subst e;exact .inl ⟨⟨xs,q,m8 _⟩,hd σ H p⟩
def zbb {lo:Int} {n:Nat} {D:Ad} {g:TG} {te:TE} {σY:St} {H1:Hp} {Q:VK} (Pv:Nat->St->Hp->Prop) (h0:Pv 0 σY H1)
  (hs:∀ i σ H,i<n->Pv i σ H->g (.int (lo+i)) σ H λσ3 H3=>te σ3 H3 λv H4=>∃ ys,H4 D=Z (.lst ys)/\ys.length<mI/\Pv (i+1) σ3 (upd H4 D (.lst (ys++[v])))) (hd:∀ σ H,Pv n σ H->Q (.ref D) H) :
  CompW (Itr lo n) g te σY H1 D Q:=by
 refine ⟨λi m σ H=>m=n-i/\i<=n/\Pv i σ H,⟨n,by simp,nK _,h0⟩,?_⟩;rintro i m σ H ⟨rfl,hi,p⟩;by_cases hlt:i<n
 .refine .inr ⟨hlt,Pv (i+1),λσ' H' p'=>⟨n-(i+1),by omega,Y,hlt,p'⟩,λx H' y=>?_⟩
  obtain ⟨e,y⟩:=y;subst e y;exact hs i σ _ hlt p
 .have e:i=n:=by omega
  subst e;exact .inl ⟨m8 _,hd σ H p⟩
def clGo (env:Env):List (Str×NameKind)->List (Str×Ad)->List (Str×Ad)
 | [],cs=>cs
 | y::r,cs=>clGo env r (if y.2 == .free then (y.1,(env.cells.lookup y.1).getD 0)::cs else cs)
abbrev Ya (env:Env) (mC:Scope):List (Str×Ad):=clGo env mC.names []
def zfw {mC:Scope} {env:Env} (h:∀ y∈mC.names,y.2=.free->∃ c,env.cells.lookup y.1=Z c):closureFor mC env=pure (Ya env mC):=by
 rw [closureFor.eq_1]
 suffices q:∀ (names:List (Str×NameKind)) (cs:List (Str×Ad)),(∀ y∈names,y.2=.free->∃ c,env.cells.lookup y.1=Z c) ->
   (do
    let s ← forIn names cs λx __s =>
     have cs:=__s
     match x with
     | (name,kind) =>
      if (kind == pJ)=true then do
       let l ← cellOf env name;have cs:List (Str×Ad):=(name,l)::cs
       pure (ForInStep.yield cs)
      else pure (ForInStep.yield cs)
    pure s:Sem (List (Str×Ad)))=pure (clGo env names cs) from (congrArg (λ(m:Sem (List (Str×Ad)))=>m >>= λs=>(pure s:Sem (List (Str×Ad)))) (q mC.names [] h)).trans rfl
 intro names
 induction names with
 | nil=>intro cs _;rfl
 | cons y r ih =>
  intro cs h;obtain ⟨n,k⟩:=y;have hr:=λy hy=>h y (q6y _ hy);rw [List.forIn_cons];show _=pure (clGo env r (if k == .free then (n,(env.cells.lookup n).getD 0)::cs else cs));by_cases e:k=.free
  .subst e
   obtain ⟨c,hc⟩:=h (n,.free) q6z rfl;have e1:cellOf env n=pure c:=by unfold cellOf;rw [show env.cells.lookup n=Z c from hc]
   simp only [e1,show env.cells.lookup n=Z c from hc,Option.getD_some,beq_self_eq_true,if_true];exact ih _ hr
  .have e0:(k == pJ)=false:=by simp [e]
   simp only [e0,rV,if_false];exact ih _ hr
theorem zew {env:Env} {x:Str} {c:Ad}:∀ {names:List (Str×NameKind)} {cs:List (Str×Ad)},(∀ y∈names,y.2=.free->∃ c,env.cells.lookup y.1=Z c)->(∀ x c,cs.lookup x=Z c->env.cells.lookup x=Z c)->(clGo env names cs).lookup x=Z c->env.cells.lookup x=Z c
 | [],cs,_,hc,h=>hc _ _ h
 | (n,k)::r,cs,hn,hc,h=>by
  refine zew (λy hy=>hn y (q6y _ hy)) (λx c q=>?_) h;by_cases e:k=.free
  .subst e
   obtain ⟨c',hc'⟩:=hn (n,.free) q6z rfl;simp only [beq_self_eq_true,if_true,show env.cells.lookup n=Z c' from hc',Option.getD_some,List.lookup_cons] at q;by_cases z:x=n
   .subst z;simp at q;rw [← q];exact hc'
   .have z':(x == n)=false:=by simp [z]
    rw [z'] at q;exact hc _ _ q
  .have e0:(k == pJ)=false:=by simp [e]
   rw [e0] at q;exact hc _ _ q
theorem zca {env:Env} {x:Str}:∀ {names:List (Str×NameKind)} {cs:List (Str×Ad)},(∃ c,cs.lookup x=Z c)->∃ c,(clGo env names cs).lookup x=Z c
 | [],_,h=>h
 | (n,k)::r,cs,h=>by
  refine zca (names:=r) ?_;by_cases e:(k == pJ)=true
  .simp only [e,if_true,List.lookup_cons]
   cases hx:x == n with
   | true=>exact ⟨_,Y⟩
   | false=>exact h
  .simp only [e,if_false];exact h
theorem zbf {env:Env} {x:Str}:∀ {names:List (Str×NameKind)} {cs:List (Str×Ad)},(x,pJ)∈names->∃ c,(clGo env names cs).lookup x=Z c
 | (n,k)::r,cs,h=>by
  rcases mM.mp h with e | e
  .cases e
   refine zca (names:=r) ⟨(env.cells.lookup x).getD 0,?_⟩;simp
  .show ∃ c,(clGo env r _).lookup x=Z c
   exact zbf e
def Xt (X:Cx) (mC:Scope):Bool :=
 (match mC.kind with | .function=>true | _=>false) && mC.names.all λy=>match y.2 with
  | .cell=>false
  | .free=>(match X.env.kindOf y.1 with | some .cell=>true | some .free=>true | _=>false)
  | .local=>(match mC.names.lookup y.1 with | some .local=>true | _=>false)
  | _=>true
def Yc {X:Cx} {mC:Scope} (ok:X.Ok) (h:Xt X mC=true):Sees X mC (Ya X.env mC):=by
 unfold Xt at h;rw [oo,List.all_eq_true] at h;obtain ⟨hk,hn⟩:=h
 have fr:∀ y∈mC.names,y.2=.free->∃ c,X.env.cells.lookup y.1=Z c:=λy hy e=>by
  have q:=hn y hy;rw [e] at q;refine ok.has y.1 ?_;revert q;dsimp only
  split
  .rename_i z;intro _;exact .inl z
  .rename_i z;intro _;exact .inr z
  .intro q;cases q
 refine ⟨?_,zfw fr,λy hy e=>?_,λy hy e=>?_,λx c q=>zew fr (λ_ _ z=>by cases z) q,λx q=>?_⟩
 .revert hk
  cases mC.kind <;> simp
 .have q:=hn y hy
  rw [e] at q;exact q7x q
 .have q:=hn y hy
  rw [e] at q;revert q;dsimp only
  split
  .rename_i z;intro _;exact z
  .intro q;cases q
 .have key:∀ k,(oS mC (Ya X.env mC) 0 X.env).kindOf x=Z k->(k=.cell∨k=.free)->(x,pJ)∈mC.names:=by
   intro k hk' hkk;have q:((mC.names.map λy=>match y with | (n,k)=>if (k == pJ && X.env.scope.kind == u7 && X.env.kindOf n == Z rJ)=true then (n,rJ) else (n,k))).lookup x=Z k:=hk'
   obtain ⟨n,k',e1,e2⟩:∃ n k',(n,k')∈mC.names/\(match (n,k') with | (n,k)=>if (k == pJ && X.env.scope.kind == u7 && X.env.kindOf n == Z rJ)=true then (n,rJ) else (n,k))=(x,k):=by
    have m:(x,k)∈(mC.names.map λy=>match y with | (n,k)=>if (k == pJ && X.env.scope.kind == u7 && X.env.kindOf n == Z rJ)=true then (n,rJ) else (n,k)):=by
     revert q;generalize (mC.names.map λy=>match y with | (n,k)=>if (k == pJ && X.env.scope.kind == u7 && X.env.kindOf n == Z rJ)=true then (n,rJ) else (n,k))=l
     induction l with
     | nil=>intro q;cases q
     | cons a l ih =>
      intro q;obtain ⟨a1,a2⟩:=a;rw [List.lookup_cons] at q
      cases hx:x == a1 with
      | true=>rw [hx] at q;cases q;have:=beq_iff_eq.mp hx;subst this;exact q6z
      | false=>rw [hx] at q;exact q6y _ (ih q)
    obtain ⟨⟨n,k'⟩,h1,h2⟩:=o9.mp m;exact ⟨n,k',h1,h2⟩
   dsimp only at e2
   split at e2
   .rename_i z
    cases e2;simp only [oo,beq_iff_eq] at z;rw [z.1.1] at e1;exact e1
   .cases e2
    rcases hkk with rfl | rfl
    .have z:=hn _ e1
     exact absurd z q7x
    .exact e1
  rcases q with q | q
  .exact zbf (key _ q (.inl rfl))
  .exact zbf (key _ q (.inr rfl))
def XS (X:Cx) (mC:Scope):Jb->List (Option Nat)->Bool
 | [],[]=>true
 | _::r,O::c=>XS X mC r c
 | x::r,Z j::c=>(match X.N[j]? with | some y=>x == y | none=>false) && (match (oS mC (Ya X.env mC) 0 X.env).kindOf x with | some .cell=>true | some .free=>true | _=>false)
   && (match X.env.kindOf x with | some .cell=>true | some .free=>true | _=>false) && XS X mC r c
 | _,_=>false
def capt (cap:List (Option Nat)) (σ:St):St:=cap.map λo=>o.bind λj=>(σ[j]?).join
theorem YI {X:Cx} {mC:Scope} {mn:J7} {σ:St} {H:Hp} {s:Sh} (I:Inv X mn σ H s) (S:Sees X mC (Ya X.env mC)):∀ {NY:Jb} {cap:List (Option Nat)},XS X mC NY cap=true->(capt cap σ).length=NY.length/\∀ (i:Nat) (x:Str) (v:V),NY[i]?=Z x->(capt cap σ)[i]?=Z (Z v) ->
   ∃ c u,(((oS mC (Ya X.env mC) 0 X.env).kindOf x=Z .cell∨(oS mC (Ya X.env mC) 0 X.env).kindOf x=Z .free))/\(Ya X.env mC).lookup x=Z c/\RelV v u/\s.heap.IsCell c (Z u)
 | [],[],_=>⟨Y,λi x v e _=>by cases e⟩
 | [],_::_,h=>by cases h
 | y::r,[],h=>by cases h
 | y::r,O::c,h=>by
  obtain ⟨l,q⟩:=YI I S (NY:=r) (cap:=c) h;refine ⟨by rw [q8x,← l];rfl,λi x v e1 e2=>?_⟩
  cases i with
  | zero=>cases e2
  | succ i=>exact q i x v e1 e2
 | y::r,Z j::c,h=>by
  unfold XS at h;rw [oo,oo,oo] at h;obtain ⟨⟨⟨h1,h2⟩,h3⟩,h4⟩:=h;obtain ⟨l,q⟩:=YI I S (NY:=r) (cap:=c) h4;refine ⟨by rw [q8x,← l];rfl,λi x v e1 e2=>?_⟩
  cases i with
  | succ i=>exact q i x v e1 e2
  | zero =>
   have ey:y=x:=nR e1;subst ey;have ev:(σ[j]?).join=Z v:=nR e2
   have hσ:σ[j]?=Z (Z v):=by
    cases z:σ[j]? with
    | none=>rw [z] at ev;cases ev
    | some o=>rw [z] at ev;rw [show o=Z v from ev]
   have hN:X.N[j]?=Z y:=by
    cases z:X.N[j]? with
    | none=>rw [z] at h1;cases h1
    | some y'=>rw [z] at h1;rw [beq_iff_eq.mp h1]
   have hK:(oS mC (Ya X.env mC) 0 X.env).kindOf y=Z .cell∨(oS mC (Ya X.env mC) 0 X.env).kindOf y=Z .free:=by
    revert h2
    split
    .rename_i z;intro _;exact .inl z
    .rename_i z;intro _;exact .inr z
    .intro q;cases q
   have hV:X.env.kindOf y=Z .cell∨X.env.kindOf y=Z .free:=by
    revert h3
    split
    .rename_i z;intro _;exact .inl z
    .rename_i z;intro _;exact .inr z
    .intro q;cases q
   obtain ⟨c',hc'⟩:=S.has y hK;obtain ⟨m,_,hl⟩:=I.loc;obtain ⟨u,ru,lk⟩:=hl j y v hN hσ (.inr hV);refine ⟨c',u,hK,hc',ru,?_⟩;rcases lk with ⟨k,_⟩ | ⟨_,c2,e3,e4⟩
   .have k':X.env.kindOf y=Z .local:=k
    rcases hV with z | z <;> rw [z] at k' <;> cases k'
   .have e5:=S.sub _ _ hc'
    rw [e3] at e5;cases e5;exact e4
abbrev tCompC (wi:TI) (g:TG) (te:TE) (cap:List (Option Nat)):TE:=tComp wi g te λσ _ σY=>σY=capt cap σ
section
variable {tg:Expr}
def xZ {iter elt:Expr} {mC:Scope} {pos:Pos} {wi:TI} {g:TG} {te:TE} (NY:Jb) (cap:List (Option Nat)) (hc:X.calm=true) (hk:Xt X mC=true) (hcap:XS X mC NY cap=true) (hi:PI X tg iter wi)
  (hY:∀ (s3:Sh) (H3:Hp) (fp:Jc),PG (X.comp mC (Ya X.env mC) NY s3 H3 fp) tg g/\PE (X.comp mC (Ya X.env mC) NY s3 H3 fp) elt te)
  (hs:∀ x,oH iter X.env x=pure x:=by intro _;rfl):PE X (.ListComp elt [⟨tg,iter,[],0⟩] mC pos) (tCompC wi g te cap):=by
 intro mn s σ H Q I h;have S:=Yc I.ok hk;refine pe_comp (NY:=NY) hc S hi hY (λmn σ H s3 σY I3 e=>?_) hs mn s σ H Q I h;subst e;exact YI I3 S hcap
def ps_compC {iter elt:Expr} {mC:Scope} {pos pos' spos:Pos} {wi:TI} {g:TG} {te:TE} {i:Nat} {y:Str} (NY:Jb) (cap:List (Option Nat)) (hc:X.calm=true) (hk:Xt X mC=true) (hcap:XS X mC NY cap=true) (hi:PI X tg iter wi)
  (hY:∀ (s3:Sh) (H3:Hp) (fp:Jc),PG (X.comp mC (Ya X.env mC) NY s3 H3 fp) tg g/\PE (X.comp mC (Ya X.env mC) NY s3 H3 fp) elt te) (hN:X.N.Nodup) (hi':X.N[i]?=Z y) (hx:Loc X.env.scope y)
  (hf:X.fn y=true∨X.env.scope.names.lookup y=Z .local:=by first | exact .inl rfl | exact .inr rfl) (hw:swapsWith (.ListComp elt [⟨tg,iter,[],0⟩] mC pos) (Z (.Name y pos')) spos.line X.env=pure true:=by rfl)
  (hs:∀ x,oH iter X.env x=pure x:=by intro _;rfl):PS X (.Assign [.Name y pos'] (.ListComp elt [⟨tg,iter,[],0⟩] mC pos) spos) (tAsg (tCompC wi g te cap) (zb4 i)):=by
 refine ps_comp (NY:=NY) hc (λI=>Yc I.ok hk) hi hY (λmn σ H s3 σY I3 e=>?_) hs hN hi' hx hf hw;subst e;exact YI I3 (Yc I3.ok hk) hcap
end
def zek {K:Fg} (e:X.K=K):IxR X (rIxL K):=by subst e;exact z6
def xc {ns:J6} {j:Int} (i:Nat) (h:i<ns.length) (e:j=i):atI (ns.map V.int) j=Z (.int (ns.getD i 0)):=by
 subst e;refine zB ?_;rw [mJ,m6 h];simp [List.getD,h]
def getD_mem {ns:J6} {i:Nat} (h:i<ns.length):ns.getD i 0∈ns:=by
 rw [q6x,m6 h];exact pw h
def Yj {ns:J6} {i:Nat} {x:V} (h:(ns.map V.int)[i]?=Z x):i<ns.length/\x=.int (ns.getD i 0):=by
 rw [mJ] at h
 cases e:ns[i]? with
 | none=>rw [e] at h;cases h
 | some n =>
  rw [e] at h;refine ⟨(mF.mp e).1,?_⟩;rw [q6x,e];exact (nR h).symm
section
variable {σ:St} {s:Sh}
def Inv.keptL {h':Heap} {t':Nat} (I:Inv X mn σ H s) {m:J0} (hl:∀ (i:Nat) (x:Str) (v:V),X.N[i]?=Z x->σ[i]?=Z (Z v)->Vis X.env.scope x->∃ u,RelV v u/\Look X.env s.heap m x u)
  (k:∀ b o,b≠X.env.locals->s.heap.get? b=Z o->h'.get? b=Z o) (hn:h'.Ns X.env.locals m):Inv X mn σ H { s with heap:=h',toks:=t' }:=by
 have B:=I.base
 have ne0:∀ b o,X.s₀.heap.get? b=Z o->b≠X.env.locals:=λb o q z=>by
  have h1:b<X.s₀.heap.objs.size:=mH q;have h2:X.s₀.heap.objs.size<=X.env.locals:=I.ok.above;rw [z] at h1;exact absurd (q7z h1 h2) (p6 _)
 refine ⟨I.ok,I.os,I.bare,⟨λb o q n hb hx=>?_,λb o q n hb hx=>?_,B.free,λb o q hx=>?_,B.tups,B.frzs,B.tbls⟩,⟨m,hn,λi x v e1 e2 vs=>?_⟩,λx c q=>?_,I.free,I.freeC,λp hp=>?_,λb o q=>?_,I.len⟩
 .exact k _ _ (ne0 _ _ q) (B.keep b o q n hb hx)
 .obtain ⟨sl,z⟩:=B.slot b o q n hb hx
  exact ⟨sl,k _ _ (ne0 _ _ q) z⟩
 .obtain ⟨o',z⟩:=B.there b o q hx
  exact ⟨o',k _ _ (ne0 _ _ q) z⟩
 .obtain ⟨u,r,lk⟩:=hl i x v e1 e2 vs
  refine ⟨u,r,?_⟩;rcases lk with z | ⟨z1,c,z2,o,z3,z4⟩
  .exact .inl z
  .exact .inr ⟨z1,c,z2,o,k _ _ (I.cne _ _ z2) z3,z4⟩
 .obtain ⟨v,o,z1,z2⟩:=I.cell x c q
  exact ⟨v,o,k _ _ (I.cne _ _ q) z1,z2⟩
 .obtain ⟨z1,z2,z3,z4⟩:=I.pin p hp
  exact ⟨k _ _ z3 z1,z2,z3,z4⟩
 .refine (I.hok b o q).stay (λc v hc r=>k _ _ ?_ r) (λ_ z=>z) λ_ _ z=>z
  rintro rfl;rcases hc with z | z
  .rw [← z,I.free] at q;cases q
  .rw [I.free] at z;cases z
def fr_all (I:Inv X mn σ H s) {m:J0} (hm:s.heap.Ns X.env.locals m):Fr X.base X.env.locals s.heap m:=⟨hm,I.bk,mL I.ok.bsz I.ok.above⟩
theorem kept_all {h':Heap} {m:J0} (F:Fr X.base X.env.locals h' m) (N:News X.base X.env.locals h' (X8 X.base s.heap X.env.locals)) (I:Inv X mn σ H s):∀ b o,b≠X.env.locals->s.heap.get? b=Z o->h'.get? b=Z o:=λb o n q=>by
 cases e:X.base.get? b with
 | none=>exact (N (b,o) (zei n e q)).1
 | some o' =>
  have z:=I.bk b o' e;rw [q] at z;cases z;exact F.keep b o e
end
inductive rSum (K:Fg) (xs:Jj) (H:Hp) (Q:VK):Prop
 | mk (p:Ad) (ns:J6) (_:xs=[.ref p]) (_:SqL K H p (ns.map V.int)) (_:Q (.int ns.sum) H)
def call_sum (hc:X.calm=true):Yp X (.builtin "sum") (rSum X.K):=by
 intro mn s σ H xs us Q I r h;obtain ⟨p,ns,rfl,hp,q⟩:=h;obtain ⟨u,rfl,ru⟩:=r.one;cases (show u=mK p from ru);obtain ⟨its,rv,pl,_⟩:=I.list hp;obtain ⟨m,hm,hl⟩:=I.loc
 exact LSm.sum_ints (fr_all I hm) news_all (I.ok.hd hc) pl.isList (zdd rv) λh' tk t' F N =>
  ⟨.int ns.sum,H,I.keptL hl (kept_all F N I) F.ns,⟨_,Y⟩,q⟩
mutual
inductive DV (K:Fg) (H:Hp):V->PyData->Prop
 | non:DV K H .non .none
 | bl (b:Bool):DV K H (.bl b) (.bool b)
 | int (i:Int):DV K H (.int i) (.int i)
 | str (x:Str):DV K H (.str x) (.str x)
 | lst {a:Ad} {xs:Jj} {ds:List PyData}:SqL K H a xs->DVs K H xs ds->DV K H (.ref a) (.list ds)
 | tup {a:Ad} {xs:Jj} {ds:List PyData}:SqT K H a xs->DVs K H xs ds->DV K H (.ref a) (.tuple ds)
inductive DVs (K:Fg) (H:Hp):Jj->List PyData->Prop
 | nil:DVs K H [] []
 | cons {v:V} {vs:Jj} {d:PyData} {ds:List PyData}:DV K H v d->DVs K H vs ds->DVs K H (v::vs) (d::ds)
end
section
variable {σ:St} {s:Sh}
mutual
theorem Yv (I:Inv X mn σ H s):∀ {v:V} {d:PyData} {u:Vl},DV X.K H v d->RelV v u->∃ as,Reads s.heap u d as
 | _,_,u,.non,r=>by cases (show u=rX from r);exact ⟨_,.none⟩
 | _,_,u,.bl b,r=>by cases (show u=Value.bool b from r);exact ⟨_,.bool b⟩
 | _,_,u,.int i,r=>by obtain ⟨t,rfl⟩:=(show ∃ t,u=sQ i t from r);exact ⟨_,.int i t⟩
 | _,_,u,.str x,r=>by obtain ⟨t,rfl⟩:=(show ∃ t,u=Value.str x t from r);exact ⟨_,.str x t⟩
 | _,_,u,.lst (a:=a) h q,r=>by
  cases (show u=mK a from r);obtain ⟨its,rv,⟨o,n,e,c,d,f⟩,_⟩:=I.list h;obtain ⟨as,ra⟩:=XH I q rv;exact ⟨_,.list e c f ra⟩
 | _,_,u,.tup (a:=a) h q,r=>by
  cases (show u=mK a from r);obtain ⟨its,rv,⟨o,e,c,n,f⟩,_⟩:=I.tuple h;obtain ⟨as,ra⟩:=XH I q rv;exact ⟨_,.tuple e c f ra⟩
theorem XH (I:Inv X mn σ H s):∀ {vs:Jj} {ds:List PyData} {us:J8},DVs X.K H vs ds->Vals vs us->∃ as,ReadsAll s.heap us ds as
 | _,_,_,.nil,.nil=>⟨_,.nil⟩
 | _,_,_,.cons h q,.cons r rr=>by
  obtain ⟨as,ra⟩:=Yv I h r;obtain ⟨bs,rb⟩:=XH I q rr;exact ⟨_,.cons ra rb⟩
end
end
inductive rEqD (K:Fg) (f:Bool->Bool) (x y:V) (H:Hp) (Q:VK):Prop
 | mk (d e:_) (_:DV K H x d) (_:DV K H y e) (_:d.canLay0=true) (_:e.canLay0=true) (_:d.depth<=64) (_:Q (.bl (f (d.eqv e))) H)
def op_eqD (hu:X.A.units+64<cLine):OpR X (pi .Eq) (rEqD X.K id):=by
 intro mn s σ H x y v u Q I rx ry h;obtain ⟨d,e,hd,he,c1,c2,dp,q⟩:=h;obtain ⟨as,ra⟩:=Yv I hd rx;obtain ⟨bs,rb⟩:=Yv I he ry;exact SeqAt.compareEq_reads ra rb c1 c2 (by omega) ⟨.bl _,H,I,Y,q⟩
def op_neD (hu:X.A.units+64<cLine):OpR X (pi .NotEq) (rEqD X.K not):=by
 intro mn s σ H x y v u Q I rx ry h;obtain ⟨d,e,hd,he,c1,c2,dp,q⟩:=h;obtain ⟨as,ra⟩:=Yv I hd rx;obtain ⟨bs,rb⟩:=Yv I he ry;exact SeqAt.compareNe_reads ra rb c1 c2 (by omega) ⟨.bl _,H,I,Y,q⟩
def dI (ns:J6):PyData:=.list (ns.map PyData.int)
theorem zen {K:Fg} {H:Hp}:∀ {ns:J6},DVs K H (ns.map V.int) (ns.map PyData.int)
 | []=>.nil
 | n::ns=>.cons (.int n) zen
def dv_ints {K:Fg} {H:Hp} {a:Ad} {ns:J6} (h:SqL K H a (ns.map V.int)):DV K H (.ref a) (dI ns):=.lst h zen
theorem XQ:∀ {ns:J6},PyData.canLayAll0 (ns.map PyData.int)=true
 | []=>rfl
 | n::ns=>by
  rw [o5];show (PyData.canLay0 (.int n) && PyData.canLayAll0 (ns.map PyData.int))=true;rw [XQ];rfl
def za2 {ns:J6}:(dI ns).canLay0=true:=XQ
theorem YU:∀ {ns:J6},ot (ns.map PyData.int)<=1
 | []=>by decide
 | n::ns=>by
  have:=YU (ns:=ns);rw [o5];show max (p5 (.int n)) (ot (ns.map PyData.int))<=1;have e:p5 (.int n)<=1:=by show _<=_;simp [p5]
  omega
end L2
namespace L2
open PySem
def dep_list {xs:List PyData} {n:Nat} (h:ot xs<=n):(PyData.list xs).depth<=n+1:=by
 have e:(PyData.list xs).depth=ot xs+1:=by first | rfl | (simp [p5];done) | (simp [p5];omega)
 omega
def dep_tup {xs:List PyData} {n:Nat} (h:ot xs<=n):(PyData.tuple xs).depth<=n+1:=by
 have e:(PyData.tuple xs).depth=ot xs+1:=by first | rfl | (simp [p5];done) | (simp [p5];omega)
 omega
def dep_nil {n:Nat}:ot []<=n:=by
 have e:ot []=0:=by first | rfl | simp [ot]
 omega
def zba {x:PyData} {xs:List PyData} {n:Nat} (h:x.depth<=n) (h':ot xs<=n):ot (x::xs)<=n:=by
 have e:ot (x::xs)=max x.depth (ot xs):=by first | rfl | simp [ot]
 omega
def dep_ints {ns:J6}:(dI ns).depth<=2:=dep_list YU
end L2
namespace L2
open PySem PySem.Spec PyProof.Rows
def zw {K:Fg} {H H':Hp} {a:Ad} {xs:Jj} (h:SqL K H a xs) (s:Same H H'):SqL K H' a xs:=by
 rcases h with h | h
 .exact .inl (h.imp (λz=>s _ _ z) λ⟨o,z⟩=>⟨o,s _ _ z⟩)
 .exact .inr h
def zu {H H':Hp} {a:Ad} {o:HO} (s:Same H H') (h:H a=O):Same H (upd H' a o):=λc x z=>by rw [zj (zr z h)];exact s _ _ z
def cutI (cs:J6) (a b:Int):J6:=(cs.drop (min a.toNat cs.length)).take (min b.toNat cs.length-min a.toNat cs.length)
def zcu {n d:Nat} {a:Int} (h:0<=a):HT.sIx n d (Z a)=min a.toNat n:=by
 show (if a<0 then (a+(n:Int)).toNat else min a.toNat n)=min a.toNat n;rw [if_neg (by omega)]
def cutV_int {cs:J6} {a b:Int} (ha:0<=a) (hb:0<=b):cutV (cs.map V.int) (Z a) (Z b)=(cutI cs a b).map V.int:=by
 unfold cutV cutI;rw [zcu ha,zcu hb,Je,← List.map_drop,← List.map_take]
def cutV_take {cs:J6} {b:Int} (hb:0<=b):cutV (cs.map V.int) O (Z b)=(cs.take b.toNat).map V.int:=by
 unfold cutV;rw [HT.sIx_none,zcu hb,Je,List.drop_zero,Nat.sub_zero,← List.map_take];congr 1;rw [List.take_eq_take_iff];omega
def zbj {ns:J6} {i:Nat} (h:i<ns.length):(ns.take (i+1)).sum=(ns.take i).sum+ns.getD i 0:=by
 have e:ns.take (i+1)=ns.take i++[ns.getD i 0]:=by
  rw [nY,q6x,m6 h];rfl
 rw [e,List.sum_append];simp
def zdo {ns:J6} (h:∀ v∈ns,0<=v):∀ (i:Nat),0<=(ns.take i).sum/\(ns.take i).sum<=ns.sum:=by
 induction ns with
 | nil=>intro i;simp
 | cons n ns ih =>
  intro i;have z:=h n q6z
  cases i with
  | zero =>
   have:=(ih (λv hv=>h v (q6y _ hv)) ns.length).1;rw [oa] at this;simp;omega
  | succ i =>
   have:=ih (λv hv=>h v (q6y _ hv)) i;rw [List.take_succ_cons,tU,tU];omega
section
variable {K:Fg} {base:Heap}
def zN (K:Fg) (C:Ad) (x mt:Str) (st:Stmt) (ps:Jb):Prop:=∃ (f:Ad) (fd:og),Meth K C x f/\Fun K x mt st f fd/\Binds K fd ps []
def OkM (P:nQ) (w:World) (K:Fg) (mg:J0) (base:Heap) (CX:CXT) (k:Nat) (C:Ad) (x:Str) (ps:Jb) (sp:Sp):Prop :=
 ∃ (f:Ad) (fd:og),Meth K C x f/\Binds K fd ps []/\FnOk P w K mg base CX k f fd ps sp
def yq (K:Fg) (C:Ad) (mt:Str) (st:Stmt) (ps:Jb):Prop:=∃ (f:Ad) (fd:og),Mk K C f/\Fun K "__init__" mt st f fd/\Binds K fd ps []
def OkI (P:nQ) (w:World) (K:Fg) (mg:J0) (base:Heap) (CX:CXT) (k:Nat) (C:Ad) (ps:Jb) (sp:Sp):Prop :=
 ∃ (f:Ad) (fd:og),Mk K C f/\Binds K fd ps []/\FnOk P w K mg base CX k f fd ps sp
def oDf {x:Str} {st:Stmt} {N ps:Jb} {k:Nat} {sp:Sp} (d:zk K mg x st ps) (S:FnScope N ps (ze st)) (hbody:∀ (f:Ad) (mx:Vl) (A:Around) (outer:List Env) (s:Sh) (H:Hp) (vs:Jj) (Q:VK) (E:XK),Room k (A.deeper (envOfC x (ze st) s.heap.objs.size f mx))->sp vs H Q E->∃ t,PSs (yh CX0 P w K mg base N x (ze st) f mx A outer s H E).nox (zS st) t/\t { nx:=λ_ H'=>Q .non H',rt:=Q } (start N vs) H) (len:∀ vs H Q E,sp vs H Q E->vs.length=ps.length:=by intro vs H Q E h;first | (cases h;subst_vars;rfl) | (repeat first | (obtain ⟨e,_⟩:=h;subst e;rfl) | obtain ⟨_,h⟩:=h)):Ok P w K mg base CX0 (k+1) x ps sp:=by
 obtain ⟨f,fd,m,F,b⟩:=d;exact ⟨f,fd,m,F.kp,b,F.ok S len (hbody f)⟩
def oMf {C:Ad} {x mt:Str} {st:Stmt} {N ps:Jb} {k:Nat} {sp:Sp} (d:zN K C x mt st ps) (S:FnScope N ps (ze st)) (hbody:∀ (f:Ad) (mx:Vl) (A:Around) (outer:List Env) (s:Sh) (H:Hp) (vs:Jj) (Q:VK) (E:XK),Room k (A.deeper (envOfC mt (ze st) s.heap.objs.size f mx))->sp vs H Q E->∃ t,PSs (yh CX0 P w K mg base N mt (ze st) f mx A outer s H E).nox (zS st) t/\t { nx:=λ_ H'=>Q .non H',rt:=Q } (start N vs) H) (len:∀ vs H Q E,sp vs H Q E->vs.length=ps.length:=by intro vs H Q E h;first | (cases h;subst_vars;rfl) | (repeat first | (obtain ⟨e,_⟩:=h;subst e;rfl) | obtain ⟨_,h⟩:=h)):OkM P w K mg base CX0 (k+1) C x ps sp:=by
 obtain ⟨f,fd,m,F,b⟩:=d;exact ⟨f,fd,m,b,F.ok S len (hbody f)⟩
def oIf {C:Ad} {mt:Str} {st:Stmt} {N ps:Jb} {k:Nat} {sp:Sp} (d:yq K C mt st ps) (S:FnScope N ps (ze st)) (hbody:∀ (f:Ad) (mx:Vl) (A:Around) (outer:List Env) (s:Sh) (H:Hp) (vs:Jj) (Q:VK) (E:XK),Room k (A.deeper (envOfC mt (ze st) s.heap.objs.size f mx))->sp vs H Q E->∃ t,PSs (yh CX0 P w K mg base N mt (ze st) f mx A outer s H E).nox (zS st) t/\t { nx:=λ_ H'=>Q .non H',rt:=Q } (start N vs) H) (len:∀ vs H Q E,sp vs H Q E->vs.length=ps.length:=by intro vs H Q E h;first | (cases h;subst_vars;rfl) | (repeat first | (obtain ⟨e,_⟩:=h;subst e;rfl) | obtain ⟨_,h⟩:=h)):OkI P w K mg base CX0 (k+1) C ps sp:=by
 obtain ⟨f,fd,m,F,b⟩:=d;exact ⟨f,fd,m,b,F.ok S len (hbody f)⟩
def oDe {x:Str} {st:Stmt} {N ps:Jb} {k:Nat} {sp:Sp} (d:zk K mg x st ps) (S:FnScope N ps (ze st)) (hbody:∀ (f:Ad) (mx:Vl) (A:Around) (outer:List Env) (s:Sh) (H:Hp) (vs:Jj) (Q:VK) (E:XK),Room k (A.deeper (envOfC x (ze st) s.heap.objs.size f mx))->sp vs H Q E->∃ t,PSs (yh (CXe P w base) P w K mg base N x (ze st) f mx A outer s H E) (zS st) t/\t { nx:=λ_ H'=>Q .non H',rt:=Q } (start N vs) H) (len:∀ vs H Q E,sp vs H Q E->vs.length=ps.length:=by intro vs H Q E h;first | (cases h;subst_vars;rfl) | (repeat first | (obtain ⟨e,_⟩:=h;subst e;rfl) | obtain ⟨_,h⟩:=h)):Ok P w K mg base (CXe P w base) (k+1) x ps sp:=by
 obtain ⟨f,fd,m,F,b⟩:=d;exact ⟨f,fd,m,F.kp,b,F.okE S len (hbody f)⟩
def oMe {C:Ad} {x mt:Str} {st:Stmt} {N ps:Jb} {k:Nat} {sp:Sp} (d:zN K C x mt st ps) (S:FnScope N ps (ze st)) (hbody:∀ (f:Ad) (mx:Vl) (A:Around) (outer:List Env) (s:Sh) (H:Hp) (vs:Jj) (Q:VK) (E:XK),Room k (A.deeper (envOfC mt (ze st) s.heap.objs.size f mx))->sp vs H Q E->∃ t,PSs (yh (CXe P w base) P w K mg base N mt (ze st) f mx A outer s H E) (zS st) t/\t { nx:=λ_ H'=>Q .non H',rt:=Q } (start N vs) H) (len:∀ vs H Q E,sp vs H Q E->vs.length=ps.length:=by intro vs H Q E h;first | (cases h;subst_vars;rfl) | (repeat first | (obtain ⟨e,_⟩:=h;subst e;rfl) | obtain ⟨_,h⟩:=h)):OkM P w K mg base (CXe P w base) (k+1) C x ps sp:=by
 obtain ⟨f,fd,m,F,b⟩:=d;exact ⟨f,fd,m,b,F.okE S len (hbody f)⟩
def oIe {C:Ad} {mt:Str} {st:Stmt} {N ps:Jb} {k:Nat} {sp:Sp} (d:yq K C mt st ps) (S:FnScope N ps (ze st)) (hbody:∀ (f:Ad) (mx:Vl) (A:Around) (outer:List Env) (s:Sh) (H:Hp) (vs:Jj) (Q:VK) (E:XK),Room k (A.deeper (envOfC mt (ze st) s.heap.objs.size f mx))->sp vs H Q E->∃ t,PSs (yh (CXe P w base) P w K mg base N mt (ze st) f mx A outer s H E) (zS st) t/\t { nx:=λ_ H'=>Q .non H',rt:=Q } (start N vs) H) (len:∀ vs H Q E,sp vs H Q E->vs.length=ps.length:=by intro vs H Q E h;first | (cases h;subst_vars;rfl) | (repeat first | (obtain ⟨e,_⟩:=h;subst e;rfl) | obtain ⟨_,h⟩:=h)):OkI P w K mg base (CXe P w base) (k+1) C ps sp:=by
 obtain ⟨f,fd,m,F,b⟩:=d;exact ⟨f,fd,m,b,F.okE S len (hbody f)⟩
end
section
variable {CX:CXT} {k:Nat} {C:Ad} {ps:Jb} {sp:Sp} {E:XK} {x m:Str} {p pos apos:Pos} {e o:Expr} {es:Jd} {ta:TE} {t:TA}
def zX (h:OkM X.prog X.w X.K X.mg X.base CX k C m ps sp) (c:Cls X.K C) (hr:Room k X.A) (hx:xf CX X E) {pl:Sem Bool} (he:PE X o ta) (ha:PA X (e::es) t)
  (hst:mO (e::es) X.env=(false,eval e X.env)::mO es X.env:=by rfl) (hpl:(backTo pos (mO es X.env)).any (·.1)=false:=by rfl)
  (ht:eval (.Call (.Attribute o m apos) (e::es) [] pos) X.env=(do
   let ov ← eval o X.env
   standAt apos.atName
   let (f,first) ← holding [ov] (getMethod ov m pl)
   callWith pos f first (backTo pos (mO (e::es) X.env)) (backToKw pos (sM [] X.env))):=by rfl) :
  PE X (.Call (.Attribute o m apos) (e::es) [] pos) (tMeth C m sp [] E ta t):=by
 obtain ⟨f,fd,a,b,d⟩:=h;exact pe_meth he c a d hr b .nil hx ha hst hpl ht
def pe_okM0 (h:OkM X.prog X.w X.K X.mg X.base CX k C m ps sp) (c:Cls X.K C) (hr:Room k X.A) (hx:xf CX X E) {pl:Sem Bool} (he:PE X o ta)
  (ht:eval (.Call (.Attribute o m apos) [] [] pos) X.env=(do
   let ov ← eval o X.env
   standAt apos.atName
   let (f,first) ← holding [ov] (getMethod ov m pl)
   callWith pos f first (backTo pos (mO [] X.env)) (backToKw pos (sM [] X.env))):=by rfl) :
  PE X (.Call (.Attribute o m apos) [] [] pos) (tMeth C m sp [] E ta tNil):=by
 obtain ⟨f,fd,a,b,d⟩:=h;exact pe_meth0 he c a d hr b .nil hx ht
def yc (h:OkI X.prog X.w X.K X.mg X.base CX k C ps sp) (hm:X.mg x=Z (.ref C)) (hr:Room (k+1) X.A) (hg:Gl X x) (hx:xf CX X E) (ha:PA X (e::es) t) (hdb:(x == ("__debug__":Str))=false:=by decide)
  (he:mO (e::es) X.env=(false,eval e X.env)::mO es X.env:=by rfl) (hpl:(backTo pos (mO es X.env)).any (·.1)=false:=by rfl):PE X (.Call (.Name x p) (e::es) [] pos) (tMake C sp [] E t):=by
 obtain ⟨f,fd,a,b,d⟩:=h;exact pe_make a d hr hg hm b .nil hx ha hdb he hpl
end
def rep_ints (n:Nat):(mT n [V.int 0]).flatten=(mT n (0:Int)).map V.int:=by
 induction n with
 | zero=>rfl
 | succ n ih=>rw [oy,pK,ih];rfl
def set_ints {ns:J6} {j:Nat} {n:Int}:(ns.map V.int).set j (.int n)=(ns.set j n).map V.int:=by rw [rL]
def ixN_nat {n:Nat} {i:Int} (h0:0<=i) (h1:i<n):ixN n i=Z i.toNat:=by
 unfold ixN;rw [if_pos h0,if_pos h1]
def FH (K:Fg) (x mt:Str) (st:Stmt) (f:Ad):Prop:=∃ (oc:Vl) (od:Option Ad) (kV dc pm:Vl) (an:Option Ad) (cd ct:Vl) (sl:Array (Ja)),K.lookup f=Z ⟨oc,od,.func (o4 x mt (yj st) (zS st) (ze st) .none kV dc pm an cd ct),sl⟩/\oX K cd mt=true/\mR K (.ref f)=true
def DH (K:Fg) (x:Str) (st:Stmt) (f:Ad):Prop:=mG K mW x=Z (Z (.ref f))/\FH K x x st f
def MH (K:Fg) (C:Ad) (x mt:Str) (st:Stmt):Prop:=∃ f:Ad,(ng K (.ref C) x=Z (Z (.ref f))/\tD K (.ref f)=true)/\FH K x mt st f
def CH (K:Fg) (C:Ad):Prop:=sI K C Str.empty=true/\si K C=true/\PySem.W.plainOver K C=true/\ng K (.ref C) "__setattr__"=Z (Z (.builtin "object.__setattr__"))
def FN (K:Fg) (C:Ad):Jb->Prop
 | []=>True
 | f::r=>ng K (.ref C) f=Z O/\FN K C r
section
variable {K:Fg} {x mt:Str} {st:Stmt} {f C:Ad} {h:Heap} {ps:Jb}
def DH.d (d:DH K x st f) (X:K.In h) (G:h.Ns mW mg)
  (b:∀ (kV doc pm:Vl) (an:Option Ad) (mx ct:Vl) (us:J8),us.length=ps.length->bindArgs (o4 x x (yj st) (zS st) (ze st) .none kV doc pm an mx ct) ⟨us,[]⟩=pure (ps.zip us):=by first|exact λ_ _ _ _ _ _=>us1 λ_=>rfl|exact λ_ _ _ _ _ _=>us2 λ_ _=>rfl|exact λ_ _ _ _ _ _=>us3 λ_ _ _=>rfl|exact λ_ _ _ _ _ _=>us4 λ_ _ _ _=>rfl|exact λ_ _ _ _ _ _=>us5 λ_ _ _ _ _=>rfl|exact λ_ _ _ _ _ _=>us6 λ_ _ _ _ _ _=>rfl):zk K mg x st ps :=
 by obtain ⟨a,_,_,_,_,_,_,_,_,_,l,c,k⟩:=d;exact defIn_mk X G a l c k b
def MH.m (d:MH K C x mt st)
  (b:∀ (kV doc pm:Vl) (an:Option Ad) (mx ct:Vl) (us:J8),us.length=ps.length->bindArgs (o4 x mt (yj st) (zS st) (ze st) .none kV doc pm an mx ct) ⟨us,[]⟩=pure (ps.zip us):=by first|exact λ_ _ _ _ _ _=>us1 λ_=>rfl|exact λ_ _ _ _ _ _=>us2 λ_ _=>rfl|exact λ_ _ _ _ _ _=>us3 λ_ _ _=>rfl|exact λ_ _ _ _ _ _=>us4 λ_ _ _ _=>rfl|exact λ_ _ _ _ _ _=>us5 λ_ _ _ _ _=>rfl|exact λ_ _ _ _ _ _=>us6 λ_ _ _ _ _ _=>rfl):zN K C x mt st ps :=
 by obtain ⟨f,⟨a,n⟩,_,_,_,_,_,_,_,_,_,l,c,k⟩:=d;exact ⟨f,_,⟨a,n,k⟩,Y2 l c k,(Y2 l c k).binds b⟩
def MH.i (d:MH K C "__init__" mt st) (mk:oj K C=true) (kC:mR K (.ref C)=true)
  (b:∀ (kV doc pm:Vl) (an:Option Ad) (mx ct:Vl) (us:J8),us.length=ps.length->bindArgs (o4 "__init__" mt (yj st) (zS st) (ze st) .none kV doc pm an mx ct) ⟨us,[]⟩=pure (ps.zip us):=by first|exact λ_ _ _ _ _ _=>us1 λ_=>rfl|exact λ_ _ _ _ _ _=>us2 λ_ _=>rfl|exact λ_ _ _ _ _ _=>us3 λ_ _ _=>rfl|exact λ_ _ _ _ _ _=>us4 λ_ _ _ _=>rfl|exact λ_ _ _ _ _ _=>us5 λ_ _ _ _ _=>rfl|exact λ_ _ _ _ _ _=>us6 λ_ _ _ _ _ _=>rfl):yq K C mt st ps :=
 by obtain ⟨f,⟨a,n⟩,_,_,_,_,_,_,_,_,_,l,c,k⟩:=d;exact ⟨f,_,⟨mk,a,n,kC⟩,Y2 l c k,(Y2 l c k).binds b⟩
def CH.c (d:CH K C):Cls K C:=⟨d.1,d.2.1,d.2.2.1,d.2.2.2⟩
end
end L2
namespace L2
open PySem
def DH.mk {K:Fg} {x:Str} {st:Stmt} {f:Ad} {oc:Vl} {od an:Option Ad} {kV dc pm cd ct:Vl} {sl:Array (Ja)} (a:mG K mW x=Z (Z (.ref f))) (l:K.lookup f=Z ⟨oc,od,.func (o4 x x (yj st) (zS st) (ze st) .none kV dc pm an cd ct),sl⟩) (c:oX K cd x=true) (k:mR K (.ref f)=true):DH K x st f:=⟨a,_,_,_,_,_,_,_,_,_,l,c,k⟩
def MH.mk {K:Fg} {C:Ad} {x mt:Str} {st:Stmt} {f:Ad} {oc:Vl} {od an:Option Ad} {kV dc pm cd ct:Vl} {sl:Array (Ja)} (a:ng K (.ref C) x=Z (Z (.ref f))) (n:tD K (.ref f)=true) (l:K.lookup f=Z ⟨oc,od,.func (o4 x mt (yj st) (zS st) (ze st) .none kV dc pm an cd ct),sl⟩) (c:oX K cd mt=true) (k:mR K (.ref f)=true):MH K C x mt st:=⟨f,⟨a,n⟩,_,_,_,_,_,_,_,_,_,l,c,k⟩
def scK {N P:Jb} {sc:Scope} (h:(decide (sc.kind=.function) && (!sc.isCoroutine && (!sc.isGenerator && (decide N.Nodup && (decide (N.take P.length=P) && ((P.all λx=>decide (sc.names.lookup x=Z .local∨sc.names.lookup x=Z .cell)) && sc.names.all λy=>decide (y.2≠.free)))))))=true:=by decide +kernel):FnScope N P sc:=by
 simp only [oo,decide_eq_true_eq,tR,List.all_eq_true] at h;obtain ⟨h1,h2,h3,h4,h5,h6,h7⟩:=h;exact ⟨h1,h2,h3,h4,h5,h6,h7⟩
def TB (K:Fg) (T:Ad):List (Str×Ad)->Prop
 | []=>True
 | p::r=>mG K T p.1=Z (Z (.ref p.2))/\TB K T r
def TN (K:Fg) (T:Ad):Jb->Prop
 | []=>True
 | x::r=>mG K T x=Z O/\TN K T r
theorem TB.g {K:Fg} {T:Ad} {x:Str} {f:Ad}:∀ {L:List (Str×Ad)} (_:TB K T L) (i:Nat),L[i]?=Z (x,f)->mG K T x=Z (Z (.ref f))
 | _::_,h,0,e=>by cases e;exact h.1
 | _::_,h,i+1,e=>TB.g h.2 i e
theorem TN.g {K:Fg} {T:Ad} {x:Str}:∀ {L:Jb} (_:TN K T L) (i:Nat),L[i]?=Z x->mG K T x=Z O
 | _::_,h,0,e=>by cases e;exact h.1
 | _::_,h,i+1,e=>TN.g h.2 i e
theorem FN.g {K:Fg} {C:Ad} {x:Str}:∀ {L:Jb} (_:FN K C L) (i:Nat),L[i]?=Z x->ng K (.ref C) x=Z O
 | _::_,h,0,e=>by cases e;exact h.1
 | _::_,h,i+1,e=>FN.g h.2 i e
theorem ucV {n:Nat}:∀ {us:J8},us.length=n+1->∃ a r,us=a::r/\r.length=n
 | a::r,h=>⟨a,r,Y,pd h⟩
end L2
namespace L2
open PySem PySem.Spec PyProof.Rows
structure Hd (B:Hp) (L:Ji) (H:Hp):Prop where
 nd:(L.map pD).Nodup
 nw:∀ p∈L,B p.1=O
 st:∀ p∈L,H p.1=Z p.2
 sm:Same B H
namespace Hd
variable {B:Hp} {L:Ji} {a b:Ad} {o o':HO}
def base:Hd B [] B:=⟨List.nodup_nil,(λ_ h=>nomatch h),(λ_ h=>nomatch h),Same.refl B⟩
def get (h:Hd B L H) (i:Nat) (e:L[i]?=Z (a,o)):H a=Z o:=h.st _ (mP e)
def same (h:Hd B L H) (s:Same H H'):Hd B L H':=⟨h.nd,h.nw,λp m=>s _ _ (h.st p m),h.sm.trans s⟩
def new (h:Hd B L H) (n:H a=O):Hd B ((a,o)::L) (upd H a o):=by
 have ne:∀ p∈L,p.1≠a:=λp m=>zr (h.st p m) n;refine ⟨pj.mpr ⟨λm=>?_,h.nd⟩,λp m=>?_,λp m=>?_,zu h.sm (h.sm.free n)⟩
 .obtain ⟨p,mp,e⟩:=o9.mp m
  exact ne p mp e
 .rcases mM.mp m with rfl | m
  .exact h.sm.free n
  .exact h.nw p m
 .rcases mM.mp m with rfl | m
  .exact zh
  .rw [zj (ne p m)];exact h.st p m
def fst_set (i:Nat) (e:L[i]?=Z (a,o)):(L.set i (a,o')).map pD=L.map pD:=by
 rw [rL];apply List.ext_getElem?;intro j;rw [List.getElem?_set]
 split
 .rename_i q
  subst q
  split
  .rw [mJ,e];rfl
  .rename_i q
   rw [sE (by omega)]
 .rfl
def ne (h:Hd B L H) (i j:Nat) (ei:L[i]?=Z (a,o)) (ej:L[j]?=Z (b,o')) (hij:i≠j):a≠b:=λe=>by
 subst e;have h1:(L.map pD)[i]?=Z a:=by rw [mJ,ei];rfl
 have h2:(L.map pD)[j]?=Z a:=by rw [mJ,ej];rfl
 obtain ⟨b1,e1⟩:=mF.mp h1;obtain ⟨b2,e2⟩:=mF.mp h2
 have key:∀ (l:Jc),l.Nodup->∀ (i j:Nat) (b1:i<l.length) (b2:j<l.length),l[i]=l[j]->i=j:=by
  intro l hl
  induction l with
  | nil=>intro i j b1;cases b1
  | cons x r ih =>
   intro i j b1 b2 q;have nr:=pj.mp hl
   cases i with
   | zero =>
    cases j with
    | zero=>rfl
    | succ j=>exact absurd (by rw [List.getElem_cons_zero,rZ] at q;rw [q];exact pw _) nr.1
   | succ i =>
    cases j with
    | zero=>exact absurd (by rw [List.getElem_cons_zero,rZ] at q;rw [← q];exact pw _) nr.1
    | succ j=>rw [rZ,rZ] at q;rw [ih nr.2 i j _ _ q]
 exact hij (key _ h.nd i j b1 b2 (e1.trans e2.symm))
def chg (h:Hd B L H) (i:Nat) (e:L[i]?=Z (a,o)) (k:∀ c u,c≠a->H c=Z u->H' c=Z u) (q:H' a=Z o'):Hd B (L.set i (a,o')) H':=by
 have nb:B a=O:=h.nw _ (mP e);refine ⟨by rw [fst_set i e];exact h.nd,λp m=>?_,λp m=>?_,λc u z=>k c u (zr z nb) (h.sm c u z)⟩
 .rcases rE m with m | rfl
  .exact h.nw p m
  .exact nb
 .obtain ⟨j,lt,ej⟩:=sY m
  have ej:(L.set i (a,o'))[j]?=Z p:=by rw [m6 lt,ej]
  rw [List.getElem?_set] at ej
  split at ej
  .split at ej
   .cases ej;exact q
   .cases ej
  .rename_i hij
   obtain ⟨c,u⟩:=p;exact k c u (oQ (h.ne i j e ej hij)) (h.get j ej)
def put (h:Hd B L H) (i:Nat) (e:L[i]?=Z (a,o)):Hd B (L.set i (a,o')) (upd H a o'):=h.chg i e (λc u n z=>by rw [zj n];exact z) zh
def sql (h:Hd B L H) {K:Fg} {xs:Jj} (q:SqL K B a xs):SqL K H a xs:=zw q h.sm
def lst (h:Hd B L H) {K:Fg} {xs:Jj} (i:Nat) (e:L[i]?=Z (a,.lst xs)):SqL K H a xs:=SqL.of (h.get i e)
def sub {L':Ji} (h:Hd B L H) (s:List.Sublist L' L):Hd B L' H:=⟨h.nd.sublist (s.map _),λp m=>h.nw p (s.subset m),λp m=>h.st p (s.subset m),h.sm⟩
def tl {p:Ad×HO} (h:Hd B (p::L) H):Hd B L H:=h.sub (List.sublist_cons_self _ _)
def free (h:Hd B L H) (n:H a=O):B a=O:=h.sm.free n
def add (h:Hd B L H) (n:∀ p∈L,p.1≠a) (nb:B a=O) (e:H a=Z o):Hd B ((a,o)::L) H:=by
 refine ⟨pj.mpr ⟨λm=>?_,h.nd⟩,λp m=>?_,λp m=>?_,h.sm⟩
 .obtain ⟨p,mp,e⟩:=o9.mp m
  exact n p mp e
 .rcases mM.mp m with rfl | m
  .exact nb
  .exact h.nw p m
 .rcases mM.mp m with rfl | m
  .exact e
  .exact h.st p m
def made {C x dx l:Ad} {ox ol:HO} (h:Hd B L H) (nx:H x=O) (ndx:H dx=O) (ne:dx≠x) (k:∀ b u,b≠x->upd (upd H dx (.own x)) x (.ins C dx []) b=Z u->H' b=Z u)
  (nl:upd (upd H dx (.own x)) x (.ins C dx []) l=O) (ex:H' x=Z ox) (el:H' l=Z ol):Hd B ((l,ol)::(x,ox)::(dx,.own x)::L) H':=by
 have h1:Hd B ((dx,.own x)::L) (upd H dx (.own x)):=h.new ndx;have h2:Hd B ((x,.ins C dx [])::(dx,.own x)::L) (upd (upd H dx (.own x)) x (.ins C dx [])):=h1.new (by rw [zj (oQ ne)];exact nx);have h3:Hd B ((x,ox)::(dx,.own x)::L) H':=h2.chg 0 rfl k ex;refine h3.add (λp m=>?_) (h2.free nl) el;rcases mM.mp m with rfl | m
 .exact zr (h2.get 0 rfl) nl
 .exact zr (h2.st p (q6y _ m)) nl
def made0 {C x dx:Ad} {ox:HO} (h:Hd B L H) (nx:H x=O) (ndx:H dx=O) (ne:dx≠x) (k:∀ b u,b≠x->upd (upd H dx (.own x)) x (.ins C dx []) b=Z u->H' b=Z u) (ex:H' x=Z ox):Hd B ((x,ox)::(dx,.own x)::L) H':=by
 have h1:Hd B ((dx,.own x)::L) (upd H dx (.own x)):=h.new ndx;have h2:Hd B ((x,.ins C dx [])::(dx,.own x)::L) (upd (upd H dx (.own x)) x (.ins C dx [])):=h1.new (by rw [zj (oQ ne)];exact nx);exact h2.chg 0 rfl k ex
def perm {B:Hp} {L L':Ji} {H:Hp} (h:Hd B L H) (p:L.Perm L'):Hd B L' H:=⟨(p.map pD).nodup h.nd,λq m=>h.nw q (p.mem_iff.mpr m),λq m=>h.st q (p.mem_iff.mpr m),h.sm⟩
end Hd
section
variable {st:Stmt} {t:TS} {e:Expr} {te:TE}
inductive tMid (t:TS) (D:Ends) (σ:St) (H:Hp):Prop
 | mk (M:St->Hp->Prop) (_:t { D with nx:=M } σ H) (_:∀ σ' H',M σ' H'->D.nx σ' H')
def Y0 (h:PS X st t):PS X st (tMid t):=by
 intro mn s σ H D I q;obtain ⟨M,q,k⟩:=q;refine thn (h mn s σ H _ I q) λf s1 z=>?_
 cases f with
 | next=>exact let ⟨σ',H',I',z⟩:=z;⟨σ',H',I',k _ _ z⟩
 | ret v=>exact z
 | brk=>exact z
 | cont=>exact z
end
def but (H:Hp) (ls:Jc):Hp:=λb=>if b∈ls then O else H b
def zez {H:Hp} {ls:Jc} {b:Ad} (h:b∈ls):but H ls b=O:=by unfold but;rw [if_pos h]
def XI {H:Hp} {ls:Jc} {b:Ad} {o:HO} (h:H b=Z o) (n:b ∉ ls):but H ls b=Z o:=by unfold but;rw [if_neg n];exact h
namespace Hd
variable {B B':Hp} {L:Ji} {a:Ad} {o:HO}
end Hd
def but_inv {H:Hp} {a b:Ad} {o:HO} (h:but H [a] b=Z o):b≠a/\H b=Z o:=by
 unfold but at h
 split at h
 .cases h
 .rename_i z;exact ⟨λe=>z (by rw [e];exact tV a),h⟩
def but_free {H:Hp} {a b:Ad} (n:but H [a] b=O) (ne:b≠a):H b=O:=by
 unfold but at n;rw [if_neg (by simp [ne])] at n;exact n
section
variable {σ σ':St} {s s':Sh} {a:Ad} {xs:Jj}
end
namespace Hd
variable {B:Hp} {L L':Ji}
end Hd
section
variable {tg:Expr}
end
section
variable {σ σ':St} {s s':Sh} {a:Ad} {xs:Jj}
end
def ints_at {ns:J6} {us:J8} (h:Vals (ns.map V.int) us) (i:Nat) (v:Vl) (e:us[i]?=Z v):∃ n t,ns[i]?=Z n/\v=.int n t:=by
 induction ns generalizing us i with
 | nil=>cases h;cases e
 | cons n ns ih =>
  cases h with
  | cons r rr =>
   cases i with
   | zero=>obtain ⟨t,rfl⟩:=r;cases (show Z _=Z v from e);exact ⟨n,t,Y,Y⟩
   | succ i=>exact ih rr i e
def zdk {vs:Jj} {us:J8} (h:Vals vs us):us.length=vs.length:=by
 induction h with
 | nil=>rfl
 | cons _ _ ih=>rw [q8x,q8x,ih]
section
variable {σ:St} {s:Sh}
end
section
variable {A:Around} {E:J5} {s:Sh}
end
section
variable {pos:Pos}
inductive rAnyB (K:Fg) (xs:Jj) (H:Hp) (Q:VK):Prop
 | mk (p:Ad) (bs:List Bool) (_:xs=[.ref p]) (_:SqL K H p (bs.map V.bl)) (_:Q (.bl (bs.any id)) H)
def bools_at {bs:List Bool} {us:J8} (h:Vals (bs.map V.bl) us) (i:Nat) (v:Vl) (e:us[i]?=Z v):∃ b,bs[i]?=Z b/\v=.bool b:=by
 induction bs generalizing us i with
 | nil=>cases h;cases e
 | cons b bs ih =>
  cases h with
  | cons r rr =>
   cases i with
   | zero=>cases (show _=Value.bool b from r);cases (show Z _=Z v from e);exact ⟨b,Y,Y⟩
   | succ i=>exact ih rr i e
def zfd (bs:List Bool):((nj bs.length).any λi=>(bs[i]?).getD false)=bs.any id:=by
 induction bs with
 | nil=>rfl
 | cons n ns ih =>
  rw [q8x,List.range_succ_eq_map,rT,List.any_map,rT,← ih];rfl
def call_anyB (hc:X.calm=true):Yp X (.builtin "any") (rAnyB X.K):=by
 intro mn s σ H xs us Q I r h;obtain ⟨p,bs,rfl,hp,q⟩:=h;obtain ⟨u,rfl,ru⟩:=r.one;cases (show u=mK p from ru);obtain ⟨its,rv,pl,_⟩:=I.list hp;have hl:=pl.isList;have hlt:p<s.heap.objs.size:=by obtain ⟨_,e,_⟩:=hl;exact mH e
 refine call_any_walk (sL hl ?_)
 refine ⟨s.heap.objs.size,[s.heap.objs.size,p],[s.heap.objs.size],its.toArray.size,_,_,λi=>(bs[i]?).getD false,Y,Walks.list (A:=X.A.in1) (I.ok.hd hc) _ p (nh hlt) its.toArray,
  ⟨⟨_,mX _ rfl,Y,Y⟩,hl.push _⟩,λi v s' Q' E' hP hQ=>?_,λh' tk hk=>?_⟩
 .obtain ⟨n,e,rfl⟩:=bools_at rv i v (by simpa using hP)
  simp only [e,Option.getD_some] at hQ;exact oZ hQ
 .have ek:((nj its.toArray.size).any λi=>(bs[i]?).getD false)=bs.any id:=by
   have:=zdk rv;rw [Je] at this;rw [mQ,this];exact zfd bs
  rw [ek];exact ⟨.bl _,H,I.kept λb o e=>hk b o (λhm=>by rw [mV.mp hm] at e;exact p6 _ (mH e)) (mD _ e),Y,q⟩
end
end L2
namespace L2
open PySem PySem.Spec PyProof.Rows
open Sem (wp)
def ItB (tp:Bool) (h:Heap) (j l:Ad) (k:Nat):Prop:=match tp with | true=>h.IsTupleIter j l k | false=>h.IsListIter j l k
def SqB (tp:Bool) (h:Heap) (l:Ad) (xs:Array Vl):Prop:=match tp with | true=>h.IsTuple l xs | false=>h.IsList l xs
def SqV (tp:Bool) (K:Fg) (H:Hp) (l:Ad) (xs:Jj):Prop:=match tp with | true=>SqT K H l xs | false=>SqL K H l xs
def ItB.at {tp:Bool} {h h':Heap} {j l:Ad} {k:Nat} (x:ItB tp h j l k) (e:∀ o,h.get? j=Z o->h'.get? j=Z o):ItB tp h' j l k:=by
 cases tp <;> obtain ⟨o,eo,r⟩:=x <;> exact ⟨o,e o eo,r⟩
def ItB.ob {tp:Bool} {h:Heap} {j l:Ad} {k:Nat} (x:ItB tp h j l k):∃ o,h.get? j=Z o/\∀ v,o.data≠.cell v:=by
 cases tp <;> obtain ⟨o,eo,_,d⟩:=x <;> exact ⟨o,eo,λv q=>by rw [d] at q;cases q⟩
def SqB.at {tp:Bool} {h h':Heap} {l:Ad} {xs:Array Vl} (x:SqB tp h l xs) (e:∀ o,h.get? l=Z o->h'.get? l=Z o):SqB tp h' l xs:=by
 cases tp <;> obtain ⟨o,eo,r⟩:=x <;> exact ⟨o,e o eo,r⟩
@[reducible] def IsTa (h:Heap) (T:Ad) (xs:Array Vl):Prop:=h.get? T=Z { cls:=.type "tuple",data:=.seq xs }
structure ZAp (z TI TO:Ad) (ps:List (Ad×Ad)):Prop where
 iz:TI≠z
 oz:TO≠z
 io:TI≠TO
 j:∀ p∈ps,p.1≠z/\p.1≠TI/\p.1≠TO
 t:∀ p∈ps,p.2≠z/\p.2≠TO/\∀ r∈ps,p.2≠r.1
 nd:∀ (a b:Nat) p r,ps[a]?=Z p->ps[b]?=Z r->p.1=r.1->a=b
section
variable {A:Around} {E:J5} {s:Sh}
def nxt_tup {j t:Ad} {k:Nat} {us:Array Vl} {v:Vl} {Q:J5} (hj:s.heap.IsTupleIter j t k) (ht:s.heap.IsTuple t us) (hv:us[k]?=Z v)
  (q:∀ g,g.IsTupleIter j t (k+1)->pL j s.heap g->Q v { s with heap:=g }):wpAny (model prog w) A (nP (.ref j)) Q E s:=by
 have ty:=hj.typeIs;obtain ⟨o,eo,ec,ed⟩:=hj;obtain ⟨o2,eo2,_,m,ed2⟩:=ht;unfold nP;refine q0x (wpAny_callSpecial?_slot (name:=tZ "__next__") ty rM (rW rM ty F.entry_tuple_iterator_next ?_ (F.args_tuple_iterator_next_1 _)));refine q0x (m:=field (.ref j) 0) (oM eo ed (x:=.ref t) rfl ?_);show wpAny _ _ (if (mK t == rX)=true then _ else _) _ _ s;rw [if_neg (show ¬ ((mK t == rX)=true) from nofun)];refine q0x (m:=field (.ref j) 1) (oM eo ed (x:=.int k 0) rfl ?_);refine q0x (m:=seqItems? (.ref t)) (pN eo2 ed2 ?_);simp only [q0z,hv];refine q0x (wpAny_setField eo ed (by simp) (q0y ⟨v,Y,q0y (q _ ?_ (Heap.SameBut.update ..))⟩));exact ⟨_,Heap.get?_update_self _ eo (Obj.isFreed_of_fields (Obj.data_mapFields ed _)),(Obj.cls_mapFields ..).trans ec,by rw [Obj.data_mapFields ed];simp [rawInt]⟩
def zeb {j t:Ad} {k:Nat} {us:Array Vl} {Q:J5} (hh:A.handled=O) (hj:s.heap.IsTupleIter j t k) (ht:s.heap.IsTuple t us) (hv:us[k]?=O)
  (q:∀ g e,Heap.ExtBut j s.heap g->(∃ o,g.get? e=Z o/\o.cls=.type "StopIteration")->E (.ref e) { s with heap:=g }):wpAny (model prog w) A (nP (.ref j)) Q E s:=by
 have ty:=hj.typeIs;obtain ⟨o,eo,ec,ed⟩:=hj;obtain ⟨o2,eo2,_,m,ed2⟩:=ht;unfold nP;refine q0x (wpAny_callSpecial?_slot (name:=tZ "__next__") ty rM (rW rM ty F.entry_tuple_iterator_next ?_ (F.args_tuple_iterator_next_1 _)));refine q0x (m:=field (.ref j) 0) (oM eo ed (x:=.ref t) rfl ?_);show wpAny _ _ (if (mK t == rX)=true then _ else _) _ _ s;rw [if_neg (show ¬ ((mK t == rX)=true) from nofun)];refine q0x (m:=field (.ref j) 1) (oM eo ed (x:=.int k 0) rfl ?_);refine q0x (m:=seqItems? (.ref t)) (pN eo2 ed2 ?_);simp only [q0z,hv];refine q0x (wpAny_rule (q0x (wpAny_setField eo ed (by simp) (q0x (m:=newExc (.type "StopIteration") []) ?_))));simp only [newExc,newTuple];refine q0x (wpAny_newObj_type (q0x (m:=firstArgMember _ _) (wpAny_of_eq (a:=rX) (by first | rfl | (simp only [firstArgMember];rfl)) (wpAny_newObj_type ?_ (by size_fits)))) (by size_fits));simp only [raiseNew];refine q0x (wpAny_handled ?_)
 first | rw [show A.in1.handled=O from hh] | rw [hh]
 refine q0x (q0y (wpAny_throw ?_));exact q _ _ (((Heap.SameBut.update ..).extBut.push _).push _) ⟨_,mX _ rfl,Y⟩
def nxB {tp:Bool} {j t:Ad} {k:Nat} {us:Array Vl} {v:Vl} {Q:J5} (hj:ItB tp s.heap j t k) (ht:SqB tp s.heap t us) (hv:us[k]?=Z v)
  (q:∀ g,ItB tp g j t (k+1)->pL j s.heap g->Q v { s with heap:=g }):wpAny (model prog w) A (nP (.ref j)) Q E s:=by
 cases tp
 .exact wpAny_nextOf_list_item hj ht hv q
 .exact nxt_tup hj ht hv q
def nxB_end {tp:Bool} {j t:Ad} {k:Nat} {us:Array Vl} {Q:J5} (hh:A.handled=O) (hj:ItB tp s.heap j t k) (ht:SqB tp s.heap t us) (hv:us[k]?=O)
  (q:∀ g e,Heap.ExtBut j s.heap g->(∃ o,g.get? e=Z o/\o.cls=.type "StopIteration")->E (.ref e) { s with heap:=g }):wpAny (model prog w) A (nP (.ref j)) Q E s:=by
 cases tp
 .exact wpAny_nextOf_list_end hh hj ht hv q
 .exact zeb hh hj ht hv q
def ZK (z TO:Ad) (ps:List (Ad×Ad)) (h g:Heap):Prop:=∀ c o,c≠z->c≠TO->(∀ p∈ps,c≠p.1)->h.get? c=Z o->g.get? c=Z o
structure ZMid (tp:Bool) (z TI TO:Ad) (ps:List (Ad×Ad)) (us:J8) (k:Nat) (h:Heap) (i:Nat) (g:Heap):Prop where
 zz:IsZip g z TI TO .ellipsis
 o:∃ a:Array Vl,IsTa g TO a/\a.size=ps.length/\∀ t,t<i->a[t]?=us[t]?
 j:∀ (t:Nat) p,ps[t]?=Z p->ItB tp g p.1 p.2 (if t<i then k+1 else k)
 n:g.objs.size=h.objs.size
 kk:ZK z TO ps h g
def upd_ta {T:Ad} {a:Array Vl} {x:Vl} {k:Nat} {Q:Unit->Sh->Prop} (h:IsTa s.heap T a) (hs:a.size<=9) (q:∀ h',IsTa h' T (a.setIfInBounds k x)->pL T s.heap h'->Q () { s with heap:=h' }) :
  wpAny (model prog w) A (updateSeq T λy=>y.setIfInBounds k x) Q E s:=by
 refine wpAny_updateSeq h rfl (q _ ?_ (Heap.SameBut.update ..)) (mL hs (by decide)) (by rw [Array.size_setIfInBounds];exact mL hs (by decide));show Heap.get? _ _=_;rw [Heap.get?_update_self _ h (by simp [Obj.mapSeq,Obj.isFreed])];simp [Obj.mapSeq]
def zn_item {tp:Bool} {z TI TO:Ad} {ps:List (Ad×Ad)} {k:Nat} {us:J8} {a:Array Vl} {Q:J5} (D:ZAp z TI TO ps) (hn:ps≠[]) (h7:ps.length<=9) (hz:IsZip s.heap z TI TO .none) (hI:IsTa s.heap TI (ps.map λp=>mK p.1).toArray) (hO:IsTa s.heap TO a) (ha:a.size=ps.length)
  (hj:∀ p∈ps,ItB tp s.heap p.1 p.2 k) (hu:us.length=ps.length) (hl:∀ (t:Nat) p,ps[t]?=Z p->∃ xs,SqB tp s.heap p.2 xs/\xs[k]?=us[t]?)
  (q:∀ g,IsZip g z TI TO (rawInt s.heap.objs.size)->IsTa g TO us.toArray->(∀ p∈ps,ItB tp g p.1 p.2 (k+1))->IsTa g s.heap.objs.size us.toArray->ZK z TO ps s.heap g->Q (.ref s.heap.objs.size) { s with heap:=g }) :
  wpAny (model prog w) A (Builtin.«zip.__next__» ⟨[.ref z],[]⟩) (λfin s'=>∃ v,fin=.done (.ret v)/\Q v s') E s:=by
 refine q0x (m:=field (.ref z) 2) (oM hz rfl (x:=.bool false) rfl ?_);refine q0x (m:=field (.ref z) 3) (oM hz rfl (x:=.ref TI) rfl (q0x (pN hI rfl ?_)))
 have ne:((ps.map λp=>mK p.1).toArray).isEmpty=false:=by
  cases ps with
  | nil=>exact absurd rfl hn
  | cons=>rfl
 simp only [ne,rV,if_false];refine q0x (m:=nO (.ref z)) ?_;unfold nO;refine q0x (oM hz rfl (x:=.none) rfl (q0y ?_));simp only [if_true];refine q0x (wpAny_rule (q0x (oM hz rfl (x:=.ref TO) rfl ?_)));refine q0x (rA hz (by simp) λg1 z1 c1=>q0x ?_);replace z1:IsZip g1 z TI TO .ellipsis:=z1;refine wpAny_forIn_list _ (λrest b s'=>b.1=O/\∃ i g,s'={ s with heap:=g }/\i<=ps.length/\rest=((ps.map λp=>mK p.1).toArray.toList.zipIdx).drop i/\ZMid tp z TI TO ps us k s.heap i g) _ ?_ ?_ _ _ ⟨Y,0,g1,Y,nK _,Y,?_⟩
 .rintro x rest b s1 ⟨_,i,g,rfl,il,er,M⟩
  have e0:(((ps.map λp=>mK p.1).toArray.toList.zipIdx).drop i)[0]?=Z x:=by rw [← er];rfl
  have e1:rest=((ps.map λp=>mK p.1).toArray.toList.zipIdx).drop (i+1):=by rw [← List.tail_drop,← er];rfl
  rw [List.getElem?_drop,List.getElem?_zipIdx] at e0;simp only [Nat.add_zero,tE,mJ,Option.map_map] at e0;obtain ⟨p,ep,rfl⟩:=pV.mp e0;clear e0 er;have m:=mP ep;have lt:i<ps.length:=(mF.mp ep).1;obtain ⟨xs,hx,ex⟩:=hl i p ep;obtain ⟨u,eu⟩:∃ u,us[i]?=Z u:=⟨_,m6 (by omega)⟩;rw [eu] at ex;have jt:=M.j i p ep;rw [if_neg (p6 _)] at jt;obtain ⟨a',o1,sa,la⟩:=M.o;have Dj:=D.j p m;have Dt:=D.t p m;refine q0x (wpAny_onRaise ?_);refine q0x (m:=nP (.ref p.1)) (nxB jt (hx.at λo e=>M.kk _ _ Dt.1 Dt.2.1 Dt.2.2 e) ex λg2 n2 c2=>q0y ?_);have o2:IsTa g2 TO a':=c2.extBut _ _ Dj.2.2.symm o1;refine q0x (pN o2 rfl (q0x (upd_ta o2 (by omega) λg3 o3 c3=>?_)));replace o3:IsTa g3 TO (a'.setIfInBounds i u):=o3;refine q0x (wpAny_letGo (q0y ⟨Y,i+1,g3,Y,lt,e1,?_⟩));refine ⟨c3.extBut _ _ D.oz.symm (c2.extBut _ _ Dj.1.symm M.zz),⟨_,o3,by rw [Array.size_setIfInBounds];exact sa,λt ht=>?_⟩,λt r er=>?_,by rw [c3.1,c2.1,M.n],λc o d1 d2 d3 e=>c3.extBut _ _ d2 (c2.extBut _ _ (d3 p m) (M.kk c o d1 d2 d3 e))⟩
  .rw [Array.getElem?_setIfInBounds]
   by_cases e:i=t
   .subst e;rw [if_pos rfl,if_pos (by omega),eu]
   .rw [if_neg e];exact la t (by omega)
  .have mr:=mP er
   by_cases e:t=i
   .subst e;rw [ep] at er;cases er;rw [if_pos (Nat.lt_succ_self _)]
    exact n2.at λo e=>c3.extBut _ _ Dj.2.2 e
   .have:=M.j t r er
    rw [show (if t<i+1 then k+1 else k)=if t<i then k+1 else k by by_cases h:t<i;rw [if_pos h,if_pos (by omega)];rw [if_neg h,if_neg (by omega)]];exact this.at λo x=>c3.extBut _ _ (D.j r mr).2.2 (c2.extBut _ _ (λh=>e (D.nd _ _ _ _ er ep h)) x)
 .rintro ⟨b1,b2⟩ s1 ⟨hb,i,g,rfl,il,er,M⟩
  cases hb
  have:i=ps.length:=by
   have:=congrArg List.length er;simp at this;omega
  subst this;obtain ⟨a',o7,sa,la⟩:=M.o
  have:a'=us.toArray:=Array.ext (by simp [sa,hu]) λt h1 h2=>by
   have:=la t (by omega);rw [Array.getElem?_eq_getElem h1,m6 (by simpa using h2)] at this;simpa using this
  subst this;refine q0x (pN o7 rfl (q0x (wpAny_newTuple ?_)));have zl:z<g.objs.size:=mH M.zz;refine q0x (m:=Builtin.SmallTypes.ownedTupleHandOut (.ref z) (.ref g.objs.size)) ?_;unfold Builtin.SmallTypes.ownedTupleHandOut;have z8:IsZip (g.push { cls:=.type "tuple",data:=.seq us.toArray }) z TI TO .ellipsis:=mD _ M.zz;refine q0x (rA z8 (by simp) λg9 z9 c9=>?_);replace z9:IsZip g9 z TI TO (rawInt g.objs.size):=z9;refine rA z9 (by simp) λga za ca=>?_;replace za:IsZip ga z TI TO (rawInt g.objs.size):=za;have up:∀ c o,c≠z->g.get? c=Z o->ga.get? c=Z o:=λc o d e=>ca.extBut _ _ d (c9.extBut _ _ d (mD _ e));have T8:IsTa ga g.objs.size us.toArray:=ca.extBut _ _ (sy zl) (c9.extBut _ _ (sy zl) (mX _ rfl));rw [M.n] at za T8;refine q0y ⟨_,Y,?_⟩;show Q (.ref g.objs.size) _;rw [M.n];refine q ga za (up _ _ D.oz o7) (λp m=>?_) T8 λc o d1 d2 d3 e=>up c o d1 (M.kk c o d1 d2 d3 e);obtain ⟨t,lt,et⟩:=sY m;have:=M.j t p (mF.mpr ⟨lt,et⟩);rw [if_pos lt] at this;exact this.at λo e=>up _ o (D.j p m).1 e
 .refine ⟨z1,⟨a,c1.extBut _ _ D.oz hO,ha,λt h=>absurd h (Nat.not_lt_zero _)⟩,λt p e=>?_,c1.1,λc o d _ _ e=>c1.extBut _ _ d e⟩
  have m:=mP e;rw [if_neg (Nat.not_lt_zero _)];exact (hj p m).at λo e=>c1.extBut _ _ (D.j p m).1 e
def zn_end {tp:Bool} {z TI TO:Ad} {p:Ad×Ad} {ps:List (Ad×Ad)} {k:Nat} {us:Array Vl} {Q:Fin->Sh->Prop} (hh:A.handled=O) (D:ZAp z TI TO (p::ps)) (hz:IsZip s.heap z TI TO .none) (hI:IsTa s.heap TI ((p::ps).map λp=>mK p.1).toArray)
  (hj:ItB tp s.heap p.1 p.2 k) (hl:SqB tp s.heap p.2 us) (he:us[k]?=O) (q:∀ g e,ZK z TO (p::ps) s.heap g->(∃ o,g.get? e=Z o/\o.cls=.type "StopIteration")->E (.ref e) { s with heap:=g }) :
  wpAny (model prog w) A (Builtin.«zip.__next__» ⟨[.ref z],[]⟩) Q E s:=by
 refine q0x (m:=field (.ref z) 2) (oM hz rfl (x:=.bool false) rfl ?_);refine q0x (m:=field (.ref z) 3) (oM hz rfl (x:=.ref TI) rfl (q0x (pN hI rfl ?_)));refine q0x (m:=nO (.ref z)) ?_;unfold nO;refine q0x (oM hz rfl (x:=.none) rfl (q0y ?_));simp only [if_true];refine q0x (wpAny_rule (q0x (oM hz rfl (x:=.ref TO) rfl ?_)));refine q0x (rA hz (by simp) λg1 z1 c1=>q0x ?_);replace z1:IsZip g1 z TI TO .ellipsis:=z1;have Dj:=D.j p q6z;simp only [o5,List.zipIdx_cons,List.forIn_cons];refine q0x (q0x (wpAny_onRaise ?_));refine q0x (m:=nP (.ref p.1)) (nxB_end hh (hj.at λo e=>c1.extBut _ _ Dj.1 e) (hl.at λo e=>c1.extBut _ _ (D.t p q6z).1 e) he λg2 e c2 ⟨oe,ho,hc⟩=>?_);have z2:IsZip g2 z TI TO .ellipsis:=c2 _ _ Dj.1.symm z1;have ne:e≠z:=λx=>by subst x;rw [z2] at ho;cases ho;simp at hc
 exact rA z2 (by simp) λg3 _ c3=>q g3 e (λc o d1 _ d3 x=>c3.extBut _ _ d1 (c2 _ _ (d3 p q6z) (c1.extBut _ _ d1 x))) ⟨oe,c3.extBut _ _ ne ho,hc⟩
end
section
variable {σ:St} {s:Sh} {h':Heap}
def Inv.turnedT {its:Jc} {T:Ad} {o:HO} {t':Nat} (I:Inv X mn σ H s) (k:∀ b u,b ∉ its->s.heap.get? b=Z u->h'.get? b=Z u) (hf:∀ b∈its,Yx X mn H b) (hT:s.heap.objs.size<=T) (new:ObjOk X.prog X.w (upd H T o) h' T o) :
  Inv X mn σ (upd H T o) { s with heap:=h',toks:=t' }:=by
 have fr:=I.hok.fresh hT;have neT:∀ {b:Ad} {u:Obj},s.heap.get? b=Z u->b≠T:=λe=>nh (q7z (mH e) hT);have ni:∀ {b:Ad} {u:HO},H b=Z u->b ∉ its:=λe m=>by rw [(hf _ m).1] at e;cases e
 refine I.step (g':=s.gens) (d':=s.drawn) (ch:=its) (λb hb=>?_) (λb u _ _ hc e _=>k b u hc e) (λb u _ _ hc e _=>⟨u.slots,k b u hc e⟩) (λb u _ e n=>by rw [zj (neT e)];exact n)
  (λb u hc e=>⟨u,k b u hc e⟩) (λb ys e=>by rw [zj (zr e fr)];exact e) (λb u v e=>by rw [zj (zr e fr)];exact e) (λb ps e=>⟨#[],by rw [zj (zr e fr),e];simp⟩) (λm hm=>?_) (λb u e=>?_) I.bare
 .obtain ⟨_,f1,_,f3,f4,f5⟩:=hf b hb
  exact ⟨f3,f1,f4,f5⟩
 .obtain ⟨ob,es,ep,ho,r⟩:=hm
  exact ⟨ob,es,ep,k _ ob (λm=>(hf _ m).2.1 rfl) ho,r⟩
 .by_cases hb:b=T
  .subst hb;rw [zh] at e;cases e;exact new
  .rw [zj hb] at e
   refine (I.hok b u e).stay (λc v hc q=>k c v ?_ q) (λc q=>by rw [zj (zr q fr)];exact q) λc ys q=>by rw [zj (zr q fr)];exact q
   rcases hc with z | z
   .rw [z];exact ni e
   .exact ni z
def Inv.turnedL {its:Jc} {t':Nat} (I:Inv X mn σ H s) (k:∀ b u,b ∉ its->s.heap.get? b=Z u->h'.get? b=Z u) (hf:∀ b∈its,Yx X mn H b):Inv X mn σ H { s with heap:=h',toks:=t' }:=by
 have ni:∀ {b:Ad} {u:HO},H b=Z u->b ∉ its:=λe m=>by rw [(hf _ m).1] at e;cases e
 refine I.step (g':=s.gens) (d':=s.drawn) (ch:=its) (λb hb=>?_) (λb u _ _ hc e _=>k b u hc e) (λb u _ _ hc e _=>⟨u.slots,k b u hc e⟩) (λ_ _ _ _ n=>n)
  (λb u hc e=>⟨u,k b u hc e⟩) (λ_ _ e=>e) (λ_ _ _ e=>e) (λb ps e=>⟨#[],by rw [e];simp⟩) (λm hm=>?_) (λb u e=>?_) I.bare
 .obtain ⟨_,f1,_,f3,f4,f5⟩:=hf b hb
  exact ⟨f3,f1,f4,f5⟩
 .obtain ⟨ob,es,ep,ho,r⟩:=hm
  exact ⟨ob,es,ep,k _ ob (λm=>(hf _ m).2.1 rfl) ho,r⟩
 .refine (I.hok b u e).stay (λc v hc q=>k c v ?_ q) (λ_ q=>q) λ_ _ q=>q
  rcases hc with z | z
  .rw [z];exact ni e
  .exact ni z
def Inv.sqV {tp:Bool} {a:Ad} {xs:Jj} (I:Inv X mn σ H s) (h:SqV tp X.K H a xs):∃ is:J8,Vals xs is/\SqB tp s.heap a is.toArray:=by
 cases tp
 .obtain ⟨is,r,p,_⟩:=I.list h;exact ⟨is,r,p.isList⟩
 .obtain ⟨is,r,p,_⟩:=I.tuple h;exact ⟨is,r,p⟩
def Inv.sqV_inj {tp:Bool} {a:Ad} {xs ys:Jj} (I:Inv X mn σ H s) (h:SqV tp X.K H a xs) (g:SqV tp X.K H a ys):xs=ys:=by
 cases tp
 .exact I.list_inj h g
 .exact I.tuple_inj h g
theorem zn_vals {tp:Bool} {i:Nat} (I:Inv X mn σ H s):∀ {ps:List (Ad×Ad)} {vs:Jj},vs.length=ps.length->(∀ (t:Nat) p,ps[t]?=Z p->∃ xs,SqV tp X.K H p.2 xs/\xs[i]?=vs[t]?)->∃ us:J8,Vals vs us/\us.length=ps.length/\∀ (t:Nat) p,ps[t]?=Z p->∃ xs,SqB tp s.heap p.2 xs/\xs[i]?=us[t]?
 | [],[],_,_=>⟨[],.nil,Y,λt p e=>by cases e⟩
 | [],_::_,h,_=>by cases h
 | _::_,[],h,_=>by cases h
 | p::ps,v::vs,h,g=>by
  obtain ⟨xs,hx,ex⟩:=g 0 p rfl;obtain ⟨is,r,p1⟩:=I.sqV hx;obtain ⟨u,hu,ru⟩:=r.get ex;obtain ⟨us,vu,lu,gu⟩:=zn_vals I (ps:=ps) (vs:=vs) (pd h) λt p e=>g (t+1) p e;refine ⟨u::us,.cons ru vu,congrArg (·+1) lu,λt r e=>?_⟩
  match t,e with
  | 0,e=>cases e;exact ⟨_,p1,by simpa using hu⟩
  | t+1,e=>exact gu t r e
end
def ItN (tp:Bool) (K:Fg) (ls:Jc):It :=
  ⟨λi H=>∃ vs:Jj,vs.length=ls.length/\∀ (t:Nat) l,ls[t]?=Z l->∃ xs,SqV tp K H l xs/\xs[i]?=vs[t]?,
   λi H x H'=>∃ T vs,x=.ref T/\H T=O/\H'=upd H T (.tup vs)/\vs.length=ls.length/\∀ (t:Nat) l xs,ls[t]?=Z l->SqV tp K H l xs->xs[i]?=vs[t]?,
   λi H=>∃ l r xs,ls=l::r/\SqV tp K H l xs/\xs.length<=i⟩
abbrev zfp (z TI TO:Ad) (ps:List (Ad×Ad)):Jc:=z::TI::TO::ps.map pD
structure ZAt (tp:Bool) (z TI TO:Ad) (ps:List (Ad×Ad)) (i:Nat) (h:Heap):Prop where
 z0:IsZip h z TI TO .none
 i0:IsTa h TI (ps.map λp=>mK p.1).toArray
 o0:∃ a:Array Vl,IsTa h TO a/\a.size=ps.length
 j0:∀ p∈ps,ItB tp h p.1 p.2 i
def ZAt.obj {tp:Bool} {z TI TO:Ad} {ps:List (Ad×Ad)} {i:Nat} {h:Heap} (S:ZAt tp z TI TO ps i h) {b:Ad} (hb:b∈zfp z TI TO ps):∃ o,h.get? b=Z o/\∀ v,o.data≠.cell v:=by
 rcases mM.mp hb with rfl | hb
 .exact ⟨_,S.z0,λv q=>by cases q⟩
 rcases mM.mp hb with rfl | hb
 .exact ⟨_,S.i0,λv q=>by cases q⟩
 rcases mM.mp hb with rfl | hb
 .obtain ⟨a,e,_⟩:=S.o0;exact ⟨_,e,λv q=>by cases q⟩
 obtain ⟨p,m,rfl⟩:=o9.mp hb;exact (S.j0 p m).ob
def ZAt.mv {tp:Bool} {z TI TO:Ad} {ps:List (Ad×Ad)} {i:Nat} {h h':Heap} (S:ZAt tp z TI TO ps i h) (k:∀ b∈zfp z TI TO ps,∀ o,h.get? b=Z o->h'.get? b=Z o):ZAt tp z TI TO ps i h':=by
 obtain ⟨a,e,n⟩:=S.o0;exact ⟨k _ (by simp) _ S.z0,k _ (by simp) _ S.i0,⟨a,k _ (by simp) _ e,n⟩,λp m=>(S.j0 p m).at λo e=>k _ (by simp;exact .inr (.inr (.inr ⟨_,m⟩))) o e⟩
def ZK.of {z TI TO:Ad} {ps:List (Ad×Ad)} {h g:Heap} (k:ZK z TO ps h g) {b:Ad} {o:Obj} (nb:b ∉ zfp z TI TO ps) (e:h.get? b=Z o):g.get? b=Z o :=
 k b o (λh=>nb (by rw [h];simp)) (λh=>nb (by rw [h];simp)) (λp m h=>nb (by rw [h];simp;exact .inr (.inr (.inr ⟨_,m⟩)))) e
def turn_zn {tp:Bool} {P:nQ} {w:World} {K:Fg} {es:Jd} {kt:Nat} {pos:Pos} {z TI TO:Ad} {ps:List (Ad×Ad)} (D:ZAp z TI TO ps) (hn:ps≠[]) (h7:ps.length<=9) :
  Turn P w K (.Tuple es kt pos) (ItN tp K (ps.map Prod.snd)) (zfp z TI TO ps) z (ZAt tp z TI TO ps) where
 mem:=q6z
 obj:=λi h st b hb=>st.obj hb
 keep:=λi h h' st k=>st.mv k
 item:=by
  intro X hP hw hK hc i mn s σ H E I hf st hg;subst hP hw hK;obtain ⟨vs,lv,gv⟩:=hg;rw [Je] at lv;obtain ⟨us,vu,lu,hl⟩:=zn_vals I lv λt p e=>gv t p.2 (by rw [mJ,e];rfl);obtain ⟨a,hO,ha⟩:=st.o0;have ty:s.TypeIs (.ref z) "zip":=⟨_,st.z0,Y⟩;unfold pyNext;refine q0x (wpAny_attempt (wpAny_callSpecial?_slot (name:=tZ "__next__") ty pU (rW pU ty F.entry_zip_next (zn_item D hn h7 st.z0 st.i0 hO ha st.j0 lu hl λh1' a1 a2 a3 a5 hk=>q0y ?_) (F.args_zip_next_1 _))));refine ⟨_,Y,wpAny_letOwnedTupleGo_zip (s:={ s with heap:=h1' }) a1 λh2' z' sb=>?_⟩;have lt:∀ {c:Ad} {o:Obj},s.heap.get? c=Z o->c≠s.heap.objs.size:=λe=>nh (mH e);have Tz:s.heap.objs.size≠z:=(lt st.z0).symm;have fr:=I.hok.fresh (m8 _);refine ⟨.ref s.heap.objs.size,upd H s.heap.objs.size (.tup vs),I.turnedT (its:=zfp z TI TO ps) (t':=s.toks) (λb o nb e=>sb.extBut _ _ (λh=>nb (by rw [h];simp)) (hk.of nb e)) hf (m8 _) ⟨mL (mL (Nat.le_of_eq lv) h7) (by decide),us,vu,_,sb.extBut _ _ Tz a5,Y,_,Y⟩,Y,⟨s.heap.objs.size,vs,Y,fr,Y,by rw [Je];exact lv,λt l xs e q=>?_⟩,?_,λb hb=>?_⟩
  .obtain ⟨xs',q',ex⟩:=gv t l e
   rw [I.sqV_inj q q'];exact ex
  .refine ⟨z',sb.extBut _ _ D.iz (hk _ _ D.iz D.io (λp m=>(D.j p m).2.1.symm) st.i0),⟨_,sb.extBut _ _ D.oz a2,by simpa using lu⟩,λp m=>(a3 p m).at λo e=>sb.extBut _ _ (D.j p m).1 e⟩
  .obtain ⟨o,eo,_⟩:=st.obj hb
   rw [zj (lt eo)];exact (hf b hb).1
 done:=by
  intro X hP hw hK hc i mn s σ H E I hf st hg;subst hP hw hK;obtain ⟨l,r,xs,el,q1,le⟩:=hg
  cases ps with
  | nil=>exact absurd rfl hn
  | cons p ps =>
   cases el;obtain ⟨is1,r1,p1⟩:=I.sqV q1;have g1:=r1.length;have ty:s.TypeIs (.ref z) "zip":=⟨_,st.z0,Y⟩;unfold pyNext;refine q0x (wpAny_attempt (wpAny_callSpecial?_slot (name:=tZ "__next__") ty pU (rW pU ty F.entry_zip_next (zn_end (I.ok.hd hc) D st.z0 st.i0 (st.j0 p q6z) p1 (by simp;omega) λg e hk ⟨o,ho,hc⟩=>?_) (F.args_zip_next_1 _))));exact q0x (wpAny_isInstance (T:="StopIteration") (b:=true) ⟨o,ho,hc⟩ isSubtype_stop (q0y ⟨Y,I.turnedL (its:=zfp z TI TO (p::ps)) (t':=s.toks) (λb o nb e=>hk.of nb e) hf⟩))
 self:=λ_ _ _ _ _ st h=>wpAny_pyIter_zip st.z0 h
end L2
namespace L2
open PySem PySem.Spec PyProof.Rows
abbrev Itz (K:Fg) (l1 l2:Ad):It:=ItN false K [l1,l2]
def zap_new {n:Nat} {ls:Jc} (h:∀ l∈ls,l<n):ZAp (n+ls.length+2) (n+ls.length) (n+ls.length+1) (ls.mapIdx λt l=>(n+t,l)):=by
 have g:∀ {t:Nat} {p:Ad×Ad},(ls.mapIdx λt l=>(n+t,l))[t]?=Z p->@Eq Nat p.1 (n+t)/\t<ls.length/\@LT.lt Nat _ p.2 n:=λ{t p} e=>by
  rw [List.getElem?_mapIdx] at e;obtain ⟨l,el,rfl⟩:=pV.mp e;exact ⟨Y,(mF.mp el).1,h l (mP el)⟩
 have m:∀ {p:Ad×Ad},p∈(ls.mapIdx λt l=>(n+t,l))->∃ t,@Eq Nat p.1 (n+t)/\t<ls.length/\@LT.lt Nat _ p.2 n:=λ{p} h=>by
  obtain ⟨t,lt,e⟩:=sY h;exact ⟨t,g (mF.mpr ⟨lt,e⟩)⟩
 have N:∀ {a b:Nat},¬ a=b->@Ne Ad a b:=λh=>h;refine ⟨N (by omega),N (by omega),N (by omega),λp h=>?_,λp h=>?_,λa b p r x y e=>?_⟩
 .obtain ⟨t,e1,e2,e3⟩:=m h
  exact ⟨N (by omega),N (by omega),N (by omega)⟩
 .obtain ⟨t,e1,e2,e3⟩:=m h
  exact ⟨N (by omega),N (by omega),λr hr=>by obtain ⟨t',f1,f2,f3⟩:=m hr;exact N (by omega)⟩
 .have:=g x;have:=g y;have e:@Eq Nat p.1 r.1:=e;omega
def all2 {α:Type} {P:α->Prop} {a b:α} (h:P a) (g:P b):∀ x∈[a,b],P x:=λx m=>by
 rcases mM.mp m with rfl | m
 .exact h
 .cases mV.mp m;exact g
def pie_zn {X:Cx} {es:Jd} {kt:Nat} {pos:Pos} {tp:Bool} {mn:J7} {σ:St} {R:It->Hp->Prop} {H1:Hp} {s1:Sh} {h':Heap} {ls:Jc} (I1:Inv X mn σ H1 s1) (hl:∀ l∈ls,∃ xs,SqV tp X.K H1 l xs) (hn:0<ls.length) (h9:ls.length<=9) (hk:∀ c o,s1.heap.get? c=Z o->h'.get? c=Z o)
  (Z0_:ZAt tp (s1.heap.objs.size+ls.length+2) (s1.heap.objs.size+ls.length) (s1.heap.objs.size+ls.length+1) (ls.mapIdx λt l=>(s1.heap.objs.size+t,l)) 0 h') (q:R (ItN tp X.K ls) H1):PIE X mn σ (.Tuple es kt pos) R (.ref (s1.heap.objs.size+ls.length+2)) { s1 with heap:=h' }:=by
 have lt:∀ l∈ls,l<s1.heap.objs.size:=λl m=>by
  obtain ⟨xs,h⟩:=hl l m;obtain ⟨is,_,p⟩:=I1.sqV h;cases tp <;> obtain ⟨o,e,_⟩:=p <;> exact mH e
 have ms:(ls.mapIdx λt l=>(s1.heap.objs.size+t,l)).map Prod.snd=ls:=by
  refine List.ext_getElem? λt=>?_;rw [mJ,List.getElem?_mapIdx,Option.map_map];cases ls[t]? <;> rfl
 refine ⟨_,_,_,_,H1,Y,I1.kept (t':=s1.toks) λb o e=>hk b o e,turn_zn (tp:=tp) (zap_new lt) (λh=>?_) (by rw [List.length_mapIdx];exact h9),Z0_,λb hb=>?_,by rw [ms];exact q⟩
 .have:=congrArg List.length h;rw [List.length_mapIdx] at this;exact absurd this (sy hn)
 .have:@LE.le Nat _ s1.heap.objs.size b:=by
   rcases mM.mp hb with rfl | hb
   .exact Nat.le_add_right_of_le (rG _ _)
   rcases mM.mp hb with rfl | hb
   .exact rG _ _
   rcases mM.mp hb with rfl | hb
   .exact Nat.le_add_right_of_le (rG _ _)
   obtain ⟨p,m,rfl⟩:=o9.mp hb;obtain ⟨t,h,rfl⟩:=List.mem_mapIdx.mp m;exact rG _ _
  exact I1.fpOk this (I1.hok.fresh this)
section
variable {es:Jd} {kt:Nat} {tp:Pos}
inductive iZip_S (K:Fg) (R:(It->Hp->Prop)) (vs:Jj) (H1:Hp):Prop
 | mk (l1 l2:_) (_:vs=[.ref l1,.ref l2]) (_:(∃ xs,SqL K H1 l1 xs)) (_:(∃ ys,SqL K H1 l2 ys)) (_:R (Itz K l1 l2) H1)
def iZip (K:Fg) (ta:TA):TI:=λσ H R=>ta σ H λvs H1=>iZip_S K R vs H1
def pi_zip {a b:Expr} {ta:TA} {p pos:Pos} (hg:Gl X "zip") (hm:X.mg "zip"=O) (ha:PA X [a,b] ta) (hs:mO [a,b] X.env=[(false,eval a X.env),(false,eval b X.env)]:=by rfl)
  (hs2:mO [b] X.env=[(false,eval b X.env)]:=by rfl):PI X (.Tuple es kt tp) (.Call (.Name "zip" p) [a,b] [] pos) (iZip X.K ta):=by
 intro mn s σ H R I h;refine Call_ (Yk I hg hm boot_zip (ou (thn (ha pos mn s σ H _ I h) λus s1 ⟨vs,H1,I1,r1,q1⟩=>?_) (by rw [hs,hs2]) (by rw [hs2];rfl)));obtain ⟨l1,l2,e,⟨xs,x1⟩,⟨ys,x2⟩,q⟩:=q1;subst e;obtain ⟨u,v,rfl,ru,rv⟩:=vals2 r1;cases (show u=mK l1 from ru);cases (show v=mK l2 from rv);obtain ⟨is1,g1,p1,_⟩:=I1.list x1;obtain ⟨is2,g2,p2,_⟩:=I1.list x2;refine call_zip_2 p1.isList p2.isList λh' a1 a2 a3 a4 a5 a6 hk=>?_;exact wpAny_pyIter_zip (s:={ s1 with heap:=h' }) a1 (pie_zn (tp:=false) (ls:=[l1,l2]) I1 (all2 ⟨_,x1⟩ ⟨_,x2⟩) (Nat.zero_lt_succ _) (sC rfl) hk ⟨a1,a2,⟨_,a3,Y⟩,all2 a4 a5⟩ q)
end
def zip_two {tp:Bool} {K:Fg} {l1 l2:Ad} {xs ys:Jj} {i:Nat} {H H':Hp} {x:V} (q1:SqV tp K H l1 xs) (q2:SqV tp K H l2 ys) (y:(ItN tp K [l1,l2]).yld i H x H'):∃ T u v,x=.ref T/\H T=O/\H'=upd H T (.tup [u,v])/\xs[i]?=Z u/\ys[i]?=Z v:=by
 obtain ⟨T,vs,e,nT,e',lv,g⟩:=y;obtain ⟨u,r,rfl⟩:=oF lv;obtain ⟨v,r,rfl⟩:=oF (pd lv);cases mS (pd (pd lv));exact ⟨T,u,v,e,nT,e',g 0 l1 xs rfl q1,g 1 l2 ys rfl q2⟩
theorem zip_go {tp:Bool} {K:Fg} {l1 l2:Ad} {xs ys:Jj} {i:Nat} {H:Hp} (q1:SqV tp K H l1 xs) (q2:SqV tp K H l2 ys) (h:i<xs.length) (he:ys.length=xs.length):(ItN tp K [l1,l2]).go i H :=
 ⟨[xs[i],ys[i]'(by omega)],Y,λt l e=>match t,e with
  | 0,e=>by cases e;exact ⟨xs,q1,m6 h⟩
  | 1,e=>by cases e;exact ⟨ys,q2,m6 (by omega)⟩⟩
def for_z {tp:Bool} {K:Fg} {l1 l2:Ad} {xs ys:Jj} {g:TG} {tb:TS} {D:Ends} {σ:St} {H:Hp} (Pv:Nat->St->Hp->Prop) (h0:Pv 0 σ H) (hl:∀ i σ H,i<=xs.length->Pv i σ H->SqV tp K H l1 xs/\SqV tp K H l2 ys) (he:ys.length=xs.length)
  (hs:∀ i x y σ H T,xs[i]?=Z x->ys[i]?=Z y->Pv i σ H->H T=O->g (.ref T) σ (upd H T (.tup [x,y])) λσ2 H2=>tb { D with nx:=Pv (i+1),ct:=Pv (i+1),bk:=D.nx } σ2 H2) (hd:∀ σ H,Pv xs.length σ H->D.nx σ H) :
  tFor_S g tb D σ (ItN tp K [l1,l2]) H:=by
 refine ⟨λi m σ H=>m=xs.length-i/\i<=xs.length/\Pv i σ H,⟨xs.length,by simp,nK _,h0⟩,?_⟩;rintro i m σ H ⟨rfl,hi,p⟩;obtain ⟨q1,q2⟩:=hl i σ H hi p;by_cases hlt:i<xs.length
 .refine .inr ⟨zip_go q1 q2 hlt he,Pv (i+1),λσ' H' p'=>⟨xs.length-(i+1),by omega,Y,hlt,p'⟩,λx H' y=>?_⟩
  obtain ⟨T,u,v,e,nT,e',y1,y2⟩:=zip_two q1 q2 y;subst e e';exact hs i u v σ H T y1 y2 p nT
 .have e:i=xs.length:=by omega
  subst e;exact .inl ⟨⟨l1,_,xs,Y,q1,m8 _⟩,hd σ H p⟩
def for_zip {K:Fg} {l1 l2:Ad} {xs ys:Jj} {g:TG} {tb:TS} {D:Ends} {σ:St} {H:Hp} (Pv:Nat->St->Hp->Prop) (h0:Pv 0 σ H) (hl:∀ i σ H,i<=xs.length->Pv i σ H->SqL K H l1 xs/\SqL K H l2 ys) (he:ys.length=xs.length)
  (hs:∀ i x y σ H T,xs[i]?=Z x->ys[i]?=Z y->Pv i σ H->H T=O->g (.ref T) σ (upd H T (.tup [x,y])) λσ2 H2=>tb { D with nx:=Pv (i+1),ct:=Pv (i+1),bk:=D.nx } σ2 H2) (hd:∀ σ H,Pv xs.length σ H->D.nx σ H) :
  tFor_S g tb D σ (Itz K l1 l2) H:=for_z (tp:=false) Pv h0 hl he hs hd
section
variable (P:nQ) (w:World)
end
section
variable {h h':Heap} {a:Ad} {o:HO}
end
section
variable {h h':Heap} {x e:Ad} {o':HO}
end
section
variable {fs fs' ex ex':Jc} {H1 H2:Hp} {h h1 h2 h':Heap} {a x e:Ad} {o:HO}
end
section
variable {σ:List (Jk)} {s:Sh} {h':Heap}
end
section
variable {a b:Expr} {ta tb:TE} {pos:Pos}
variable {tA tB':TT} {rest:Jd}
end
section
variable {σ:St} {s:Sh} {a:Ad} {xs ys:Jj}
end
section
variable {σ:St} {s:Sh} {E:J5}
end
section
variable {st:Stmt} {rest:List Stmt} {t u:TS} {e:Expr} {te:TE} {pos:Pos}
end
section
variable {pos:Pos}
end
section
variable {tg:Expr}
end
section
variable {a b c:Expr} {ta tb tc:TE} {pos:Pos}
end
section
variable {A:Around} {E:J5} {s:Sh} {K:Fg} {x dx C f:Ad} {mA:J0} {name:Str} {v:Vl}
end
section
variable {h h':Heap} {a C dx:Ad} {fs fs':List (Str×V)}
end
section
variable {σ:St} {s:Sh} {a C dx:Ad} {fs:List (Str×V)} {f:Str} {v:V} {A:Around} {E:J5}
end
section
variable {o e value:Expr} {f:Str} {pos pos' tpos:Pos} {ta tv:TE}
end
section
variable {σ:St} {s:Sh} {A:Around} {E:J5} {Q:J5} {c:Vl} {b:Bool}
end
section
variable {e:Expr} {es:Jd} {te:TE} {t:TA} {pos:Pos}
end
section
variable {σ:St} {s s':Sh}
end
section
variable {CX:CXT} {k:Nat} {f C:Ad} {fd:og} {ps:Jb} {sp:Sp} {dvs:Jj} {ds:J8} {E:XK} {x m:Str} {p pos apos:Pos} {e o:Expr} {es:Jd} {ta:TE} {t:TA}
end
section
variable {CX:CXT} {k:Nat} {f C:Ad} {fd:og} {ps ks:Jb} {sp:Sp} {E:XK} {x m:Str} {p pos apos kpos:Pos} {e o:Expr} {es:Jd} {kws:List Keyword} {te ta:TE} {t tk:TA} {nm:Option Str}
variable {g:J8->J8->J8} {gV:Jj->Jj->Jj}
end
section
variable {x:Str} {p pos:Pos} {e:Expr} {es:Jd} {t:TA} {id T:String} {r:Jj->Hp->VK->Prop}
end
section
variable {κ:Type} [DecidableEq κ]
def zU (mo:List (κ×V)) (k:κ):Jk:=(mo.find? λkv=>decide (kv.1=k)).map (·.2)
def xa (mo:List (κ×V)) (k:κ) (v:V):List (κ×V) :=
 if (mo.any λkv=>decide (kv.1=k))=true then mo.map (λkv=>if kv.1=k then (kv.1,v) else kv) else mo++[(k,v)]
def yC {p:κ×V} {r:List (κ×V)} {k:κ} (e:p.1=k):zU (p::r) k=Z p.2:=by simp [zU,rS,e]
def yD {p:κ×V} {r:List (κ×V)} {k:κ} (e:¬ p.1=k):zU (p::r) k=zU r k:=by simp [zU,rS,e]
theorem Y3 (k:κ):∀ mo:List (κ×V),(mo.any λkv=>decide (kv.1=k))=(zU mo k).isSome
 | []=>rfl
 | p::r=>by
  rw [rT];by_cases e:p.1=k
  .simp only [yC e,decide_eq_true e,Bool.true_or,Option.isSome_some]
  .rw [yD e,decide_eq_false e,Bool.false_or];exact Y3 k r
theorem zdm (k j:κ) (y:V):∀ mo:List (κ×V),zU (mo.map λkv=>if kv.1=k then (kv.1,y) else kv) j=(zU mo j).map λx=>if j=k then y else x
 | []=>rfl
 | p::r=>by
  have ih:=zdm k j y r;rw [o5];by_cases h:p.1=k
  .rw [if_pos h]
   by_cases e:p.1=j
   .rw [yC (p:=(p.1,y)) e,yC e,sT,if_pos (e.symm.trans h)]
   .rw [yD (p:=(p.1,y)) e,yD e,ih]
  .rw [if_neg h]
   by_cases e:p.1=j
   .rw [yC (p:=p) e,yC e,sT,if_neg (λz=>h (e.trans z))]
   .rw [yD (p:=p) e,yD e,ih]
theorem zbt (k j:κ) (y:V):∀ mo:List (κ×V),zU mo k=O->zU (mo++[(k,y)]) j=if j=k then Z y else zU mo j
 | [],_=>by
  by_cases e:k=j
  .rw [if_pos e.symm];exact yC (p:=(k,y)) e
  .rw [if_neg (λz=>e z.symm)];exact yD (p:=(k,y)) e
 | p::r,hn=>by
  rw [nB];have hk:¬ p.1=k:=λz=>by rw [yC z] at hn;cases hn
  rw [yD hk] at hn;have ih:=zbt k j y r hn;by_cases e:p.1=j
  .rw [yC e,yC e,if_neg (λz=>hk (e.trans z))]
  .rw [yD e,yD e,ih]
def xU (mo:List (κ×V)) (k j:κ) (y:V):zU (xa mo k y) j=if j=k then Z y else zU mo j:=by
 unfold xa;by_cases a:(mo.any λkv=>decide (kv.1=k))=true
 .rw [if_pos a,zdm]
  rw [Y3] at a;by_cases e:j=k
  .obtain ⟨x,hx⟩:=Option.isSome_iff_exists.mp a
   rw [if_pos e,e,hx,sT,if_pos rfl]
  .rw [if_neg e]
   cases zU mo j with
   | none=>rfl
   | some x=>rw [sT,if_neg e]
 .rw [if_neg a]
  refine zbt k j y mo ?_;rw [Y3] at a
  cases q:zU mo k with
  | none=>rfl
  | some x=>rw [q] at a;exact (a rfl).elim
def xp (mo:List (κ×V)) (k:κ) (v:V):(xa mo k v).length<=mo.length+1:=by
 unfold xa
 split
 .rw [Je];omega
 .rw [Jf,q8x,List.length_nil];omega
def RelO.isSome_eq {o:Jk} {u:Ja} (r:RelO o u):o.isSome=u.isSome:=by
 cases o with
 | none=>cases u with
  | none=>rfl
  | some _=>exact (show False from r).elim
 | some _=>cases u with
  | none=>exact (show False from r).elim
  | some _=>rfl
def RelO.getD {o:Jk} {u:Ja} {d:V} {d':Vl} (r:RelO o u) (rd:RelV d d'):RelV (o.getD d) (u.getD d'):=by
 cases o with
 | none=>cases u with
  | none=>exact rd
  | some _=>exact (show False from r).elim
 | some _=>cases u with
  | none=>exact (show False from r).elim
  | some _=>exact r
def KV.val {mo:List (κ×V)} {vs:List (κ×Vl)} (r:KV mo vs) (k:κ):RelO (zU mo k) (valueAt vs k):=by
 unfold KV at r
 induction r with
 | nil=>exact rj
 | @cons p q ps qs h t ih =>
  obtain ⟨h1,h2⟩:=h;by_cases e:p.1=k
  .have e':q.1=k:=h1.symm.trans e
   have b:valueAt (q::qs) k=Z q.2:=by simp [valueAt,rS,e']
   rw [yC e,b];exact h2
  .have e':¬ q.1=k:=λz=>e (h1.trans z)
   have b:valueAt (q::qs) k=valueAt qs k:=by simp [valueAt,rS,e']
   rw [yD e,b];exact ih
def KV.any {mo:List (κ×V)} {vs:List (κ×Vl)} (r:KV mo vs) (k:κ):(mo.any λkv=>decide (kv.1=k))=vs.any λkv=>decide (kv.1=k):=by
 unfold KV at r
 induction r with
 | nil=>rfl
 | cons h t ih=>rw [rT,rT,ih,h.1]
def KV.repl {mo:List (κ×V)} {vs:List (κ×Vl)} (r:KV mo vs) (k:κ) {y:V} {u:Vl} (ry:RelV y u) :
  KV (mo.map λkv=>if kv.1=k then (kv.1,y) else kv) (vs.map λkv=>if kv.1=k then (kv.1,u) else kv):=by
 unfold KV at r ⊢
 induction r with
 | nil=>exact .nil
 | @cons p q ps qs h t ih =>
  rw [o5,o5];refine .cons ?_ ih;obtain ⟨h1,h2⟩:=h;by_cases e:p.1=k
  .rw [if_pos e,if_pos (h1.symm.trans e)];exact ⟨h1,ry⟩
  .rw [if_neg e,if_neg (λz=>e (h1.trans z))];exact ⟨h1,h2⟩
def KV.put {mo:List (κ×V)} {vs:List (κ×Vl)} (r:KV mo vs) (k:κ) {y:V} {u:Vl} (ry:RelV y u):KV (xa mo k y) (stored vs k u):=by
 unfold xa stored;rw [r.any k];by_cases e:(vs.any λkv=>decide (kv.1=k))=true
 .rw [if_pos e,if_pos e];exact r.repl k ry
 .rw [if_neg e,if_neg e];exact Paired.snoc r ⟨Y,ry⟩
def KV.keys {mo:List (κ×V)} {vs:List (κ×Vl)} (r:KV mo vs):mo.map (·.1)=vs.map (·.1):=by
 unfold KV at r
 induction r with
 | nil=>rfl
 | cons h t ih=>rw [o5,o5,ih,h.1]
def KV.length {mo:List (κ×V)} {vs:List (κ×Vl)} (r:KV mo vs):mo.length=vs.length:=Paired.length r
end
def za4 {P:nQ} {w:World} {k:Key} {u:Vl} (r:RelV (kV k) u):(zK P w).is k u=true:=by
 cases k with
 | inl i=>obtain ⟨t,e⟩:=(show ∃ t,u=sQ i t from r);subst e;exact zeh P w i t
 | inr x=>obtain ⟨t,e⟩:=(show ∃ t,u=Value.str x t from r);subst e;exact zeg P w x t
theorem zb3 {P:nQ} {w:World}:∀ {ks:List Key} {us:J8},Vals (ks.map kV) us->ItemsAre (zK P w) ks us
 | [],_,r=>by rw [List.map_nil] at r;cases r;exact .nil
 | k::ks,_,r=>by
  rw [o5] at r
  cases r with
  | cons h t=>exact .cons (za4 h) (zb3 t)
abbrev KT (H:Hp):List (List Key×V)->List (List Key×Ad×Vl)->Prop:=Paired λp q=>p.1=q.1/\H q.2.1=Z (.tup (p.1.map kV))/\RelV p.2 q.2.2
def KT.val {H:Hp} {mo:List (List Key×V)} {xs:List (List Key×Ad×Vl)} (r:KT H mo xs) (k:List Key):RelO (zU mo k) ((atKey xs k).map (·.2)):=by
 induction r with
 | nil=>exact rj
 | @cons p q ps qs h t ih =>
  obtain ⟨h1,_,h2⟩:=h;by_cases e:p.1=k
  .have e':q.1=k:=h1.symm.trans e
   have b:atKey (q::qs) k=Z q.2:=by simp [atKey,rS,e']
   rw [yC e,b];exact h2
  .have e':¬ q.1=k:=λz=>e (h1.trans z)
   have b:atKey (q::qs) k=atKey qs k:=by simp [atKey,rS,e']
   rw [yD e,b];exact ih
def KT.repl {H:Hp} {mo:List (List Key×V)} {xs:List (List Key×Ad×Vl)} (r:KT H mo xs) (k:List Key) {y:V} {u:Vl} (ry:RelV y u) :
  KT H (mo.map λkv=>if kv.1=k then (kv.1,y) else kv) (xs.map (putAt k u)):=by
 induction r with
 | nil=>exact .nil
 | @cons p q ps qs h t ih =>
  rw [o5,o5];refine .cons ?_ ih;obtain ⟨h1,h2,h3⟩:=h;unfold putAt;by_cases e:p.1=k
  .rw [if_pos e,if_pos (h1.symm.trans e)];exact ⟨h1,h2,ry⟩
  .rw [if_neg e,if_neg (λz=>e (h1.trans z))];exact ⟨h1,h2,h3⟩
def KT.put {H:Hp} {mo:List (List Key×V)} {xs:List (List Key×Ad×Vl)} (r:KT H mo xs) (k:List Key) {b:Ad} {y:V} {u:Vl} (hb:H b=Z (.tup (k.map kV))) (ry:RelV y u) :
  KT H (xa mo k y) (storedH xs k b u):=by
 have e:(mo.any λkv=>decide (kv.1=k))=(atKey xs k).isSome:=by
  rw [Y3,(r.val k).isSome_eq,Option.isSome_map]
 unfold xa storedH;rw [e];by_cases q:(atKey xs k).isSome=true
 .rw [if_pos q,if_pos q];exact r.repl k ry
 .rw [if_neg q,if_neg q];exact Paired.snoc r ⟨Y,hb,ry⟩
def KT.keeps {H H':Hp} {mo:List (List Key×V)} {xs:List (List Key×Ad×Vl)} (r:KT H mo xs) (ht:∀ b ys,H b=Z (.tup ys)->H' b=Z (.tup ys)):KT H' mo xs :=
 Paired.mapP r λ_ _ z=>⟨z.1,ht _ _ z.2.1,z.2.2⟩
section
variable {h:Heap} {a:Ad}
def rd_of {u:HO} (ok:HOk P w H h) (e:Rd H a u):ObjOk P w H h a u:=e.ok ok
def za9 {mo:Jh} (ok:HOk P w H h) (e:Rd H a (.dK mo)):mo.length<=mI/\(a == oU)=false/\∃ vs,KV mo vs/\h.DictOf (zK P w) a vs :=
 show ObjOk P w H h a (.dK mo) from rd_of ok e
def dk_of {mo:Jh} (ok:HOk P w H h) (e:H a=Z (.dK mo)):mo.length<=mI/\(a == oU)=false/\∃ vs,KV mo vs/\h.DictOf (zK P w) a vs:=za9 ok (.inl e)
def XG {ks:List Key} (ok:HOk P w H h) (e:H a=Z (.tup (ks.map kV))):(tupleKind (zK P w)).is h ks a:=by
 obtain ⟨_,its,r,o,h1,h2,n,h3⟩:=(show ObjOk P w H h a (.tup (ks.map kV)) from ok a _ e);exact ⟨o,its.toArray,n,h1,h2,h3,by simpa using zb3 r⟩
def za8 {mo:List (List Key×V)} (ok:HOk P w H h) (e:Rd H a (.dT mo)):mo.length<=mI/\(a == oU)=false /\
  ∃ xs,KT H mo xs/\h.DictOfH (tupleKind (zK P w)) a xs:=by
 obtain ⟨z,y,xs,r,o,es,ep,h1,h2,h3,h4,h5⟩:=(show ObjOk P w H h a (.dT mo) from rd_of ok e);refine ⟨z,y,xs,r,o,es,ep,h1,h2,h3,h4,λx hx=>?_,h5⟩
 have all:∀ {l:List (List Key×V)} {m:List (List Key×Ad×Vl)},KT H l m->∀ x∈m,(tupleKind (zK P w)).is h x.1 x.2.1:=by
  intro l m q
  induction q with
  | nil=>intro x hx;exact nomatch hx
  | @cons p q ps qs hq t ih =>
   intro x hx;rcases mM.mp hx with e | hx
   .subst e
    exact XG ok (by rw [← hq.1];exact hq.2.1)
   .exact ih x hx
 exact all r x hx
def dt_of {mo:List (List Key×V)} (ok:HOk P w H h) (e:H a=Z (.dT mo)):mo.length<=mI/\(a == oU)=false /\
  ∃ xs,KT H mo xs/\h.DictOfH (tupleKind (zK P w)) a xs:=za8 ok (.inl e)
end
def DGet (H:Hp) (a:Ad) (y:V) (r:Jk):Prop :=
 (∃ mo k,Rd H a (.dK mo)/\y=kV k/\r=zU mo k)∨∃ mo k b,Rd H a (.dT mo)/\y=.ref b/\H b=Z (.tup (k.map kV))/\r=zU mo k
def DPut (H:Hp) (a:Ad) (y v:V) (H':Hp):Prop :=
 (∃ mo k,H a=Z (.dK mo)/\y=kV k/\mo.length<mI/\H'=upd H a (.dK (xa mo k v))) ∨
 ∃ mo k b,H a=Z (.dT mo)/\y=.ref b/\H b=Z (.tup (k.map kV))/\mo.length<mI/\H'=upd H a (.dT (xa mo k v))
def DGet.k {H:Hp} {a:Ad} {mo:Jh} {k:Key} (e:H a=Z (.dK mo)):DGet H a (kV k) (zU mo k):=.inl ⟨mo,k,.inl e,Y,Y⟩
def DPut.k {H:Hp} {a:Ad} {mo:Jh} {k:Key} {v:V} (e:H a=Z (.dK mo)) (hl:mo.length<mI):DPut H a (kV k) v (upd H a (.dK (xa mo k v))):=.inl ⟨mo,k,e,Y,hl,Y⟩
section
variable {σ:St} {s:Sh} {a:Ad} {y v:V} {u r:Vl} {o:Jk} {A:Around} {E:J5}
def Inv.big (I:Inv X mn σ H s):oU<s.heap.objs.size:=by
 have h:mW<s.heap.objs.size:=(I.mod.glob.keeps I.bk).lt;exact Nat.lt_trans (by decide) h
def d_getItem {Q:J5} (hu:A.units+1<cLine) (I:Inv X mn σ H s) (g:DGet H a y (Z v)) (ry:RelV y u) (h:∀ w' s',Inv X mn σ H s'->RelV v w'->Q w' s') :
  wpAny (model X.prog X.w) A (getItem (.ref a) u) Q E s:=by
 rcases g with ⟨mo,k,e,ey,l⟩ | ⟨mo,k,b,e,ey,eb,l⟩
 .subst ey
  obtain ⟨z,hd,vs,rel,dd⟩:=za9 I.hok e;obtain ⟨w',hw,rw'⟩:=RelO.some_of (v:=v) (o:=valueAt vs k) (by rw [l];exact rel.val k);exact wpAny_getItem_of (za4 ry) dd.mapOf hw (h w' _ (I.tok _) rw')
 .subst ey
  cases (show u=mK b from ry);obtain ⟨z,hd,xs,rel,dd⟩:=za8 I.hok e;obtain ⟨w',hw,rw'⟩:=RelO.some_of (v:=v) (o:=(atKey xs k).map (·.2)) (by rw [l];exact rel.val k);obtain ⟨p,hp,hp2⟩:=pV.mp hw;refine wpAny_getItem_heap (sv hu) (XG I.hok eb) dd hp ?_;rw [hp2];exact h w' _ (I.tok _) rw'
def d_notIn {Q:J5} (hu:A.units+1<cLine) (I:Inv X mn σ H s) (g:DGet H a y o) (ry:RelV y u) (h:∀ s',Inv X mn σ H s'->Q (.bool (!o.isSome)) s') :
  wpAny (model X.prog X.w) A (pi .NotIn u (.ref a)) Q E s:=by
 rcases g with ⟨mo,k,e,ey,l⟩ | ⟨mo,k,b,e,ey,eb,l⟩
 .subst ey
  obtain ⟨z,hd,vs,rel,dd⟩:=za9 I.hok e;refine wpAny_notIn_of (za4 ry) hd dd.mapOf ?_;rw [← (rel.val k).isSome_eq,← l];exact h _ (I.tok _)
 .subst ey
  cases (show u=mK b from ry);obtain ⟨z,hd,xs,rel,dd⟩:=za8 I.hok e;refine wpAny_notIn_heap (sv hu) (XG I.hok eb) hd dd ?_;have q:=(rel.val k).isSome_eq;rw [Option.isSome_map] at q;rw [← q,← l];exact h _ (I.tok _)
def d_write {h':Heap} {t':Nat} {ob:HO} (I:Inv X mn σ H s) (mu:Mut (H a)) (hs:pL a s.heap h') (he:∃ q,h'.get? a=Z q) (new:ObjOk X.prog X.w (upd H a ob) h' a ob) :
  Inv X mn σ (upd H a ob) { s with heap:=h',toks:=t' } :=
 I.write (x:=a) (e:=a) mu (.inl rfl) (λb q hb z=>(hs.2 b hb).trans z) he new
def dk_new {P:nQ} {w:World} {H':Hp} {h':Heap} {mo:Jh} {vs:List (Key×Vl)} (z:mo.length<=mI) (hd:(a == oU)=false) (rel:KV mo vs) (dd:h'.DictOf (zK P w) a vs) :
  ObjOk P w H' h' a (.dK mo):=⟨z,hd,vs,rel,dd⟩
def d_setItem {H':Hp} {Q:Unit->Sh->Prop} (hu:A.units+1<cLine) (I:Inv X mn σ H s) (g:DPut H a y v H') (ry:RelV y u) (rv:RelV v r) (h:∀ s',Inv X mn σ H' s'->Q () s') :
  wpAny (model X.prog X.w) A (setItem (.ref a) u r) Q E s:=by
 rcases g with ⟨mo,k,e,ey,l,eH⟩ | ⟨mo,k,b,e,ey,eb,l,eH⟩
 .subst ey eH
  obtain ⟨z,hd,vs,rel,dd⟩:=dk_of I.hok e;have hz:vs.length<=sizeLine:=by rw [← rel.length];exact z
  have hl:(xa mo k v).length<=sizeLine:=by have:=xp mo k v;omega
  refine wpAny_setItem_pairs (hsz:=hz) (za4 ry) dd λh' dd' hs=>h _ ?_;have he:∃ q,h'.get? a=Z q:=let ⟨q,_,_,hq,_⟩:=dd';⟨q,hq⟩;exact d_write I (by rw [e];exact rj) hs he (dk_new hl hd (rel.put k rv) dd')
 .subst ey eH
  cases (show u=mK b from ry);obtain ⟨z,hd,xs,rel,dd⟩:=dt_of I.hok e;have hz:xs.length<=sizeLine:=by rw [← Paired.length rel];exact z
  have hl:(xa mo k v).length<=sizeLine:=by have:=xp mo k v;omega
  refine wpAny_setItem_heap (hsz:=hz) (sv hu) (XG I.hok eb) dd λh' dd' hs=>h _ ?_;obtain ⟨q,es,ep,hq,h2,h3,h4,_,h5⟩:=dd';refine d_write I (by rw [e];exact rj) hs ⟨q,hq⟩ ⟨hl,hd,_,(rel.put k eb rv).keeps λc ys ec=>?_,q,es,ep,hq,h2,h3,h4,h5⟩;rw [zj (ne_of ec e (λz=>nomatch z))];exact ec
end
section
variable {σ:St} {s:Sh} {a:Ad} {mo:Jh} {k:Key} {u:Vl} {A:Around} {E:J5}
end
def NoSl (i:Expr):Prop:=∀ ov iv,subscripted i false ov iv=operate [ov,iv] (getItem ov iv)
def subD_of {prog:nQ} {w:World} {A:Around} {E:J5} {s:Sh} {env:Env} {value slice:Expr} {pos:Pos} {T id:String} {Q:J5}
  (hl:typeLookup (.type T) "__getitem__"=pure (Z (.builtin id))) (hs:NoSl slice)
  (h:wpAny (model prog w) A (eval value env) (λo s₁=>wpAny (model prog w) A (eval slice env) (λi s₂=>s₂.TypeIs o T/\wpAny (model prog w) A (getItem o i) Q E s₂) E s₁) E s) :
  wpAny (model prog w) A (eval (.Subscript value slice pos) env) Q E s:=by
 refine Subscript_ (oB h (λo s₁ h₁=>oB h₁ (λi s₂ h₂=>?_) λ_ _ x=>x) λ_ _ x=>x);obtain ⟨hT,h₂⟩:=h₂;unfold subscriptTail;refine q0x ?_;rw [getitemInPython_of_ne hT.not_modules];refine q0x (wpAny_specialOf hT hl ?_)
 have fin:wpAny (model prog w) A (subscripted slice false o i) (λr s₃=>wpAny (model prog w) A (letTemporaryGo value o r >>= λ_=>pure r) Q E s₃) E s₂:=by
  rw [hs o i];exact wpAny_operating (oB h₂ (λr s₃ h₃=>q0x (wpAny_letTemporaryGo (q0y h₃))) λ_ _ x=>x)
 first
  | exact q0y (q0x fin)
  | exact q0x (q0y (q0x fin))
  | exact q0x fin
def zer {X:Cx} {mn:J7} {σ:St} {H:Hp} {s:Sh} {a:Ad} {y:V} {o:Jk} (I:Inv X mn σ H s) (g:DGet H a y o):s.TypeIs (.ref a) "dict":=by
 rcases g with ⟨mo,k,e,_,_⟩ | ⟨mo,k,b,e,_,_,_⟩
 .obtain ⟨_,_,vs,_,dd⟩:=za9 I.hok e
  exact dd.typeIs
 .obtain ⟨_,_,xs,_,dd⟩:=za8 I.hok e
  exact dd.typeIs
inductive tDGet_S (Q:VK) (x y:V) (H2:Hp):Prop
 | mk (a v:_) (_:x=.ref a) (_:DGet H2 a y (Z v)) (_:Q v H2)
def tDGet (td ty:TE):TE:=λσ H Q=>td σ H λx H1=>ty σ H1 λy H2=>tDGet_S Q x y H2
inductive tDNotIn_S (Q:VK) (y x:V) (H2:Hp):Prop
 | mk (a o:_) (_:x=.ref a) (_:DGet H2 a y o) (_:Q (.bl (!o.isSome)) H2)
def tDNotIn (ty td:TE):TE:=λσ H Q=>ty σ H λy H1=>td σ H1 λx H2=>tDNotIn_S Q y x H2
inductive sDPut_S (D:Ends) (σ:St) (v x y:V) (H3:Hp):Prop
 | mk (a H4:_) (_:x=.ref a) (_:DPut H3 a y v H4) (_:D.nx σ H4)
def sDPut (td ty tv:TE):TS:=λD σ H=>tv σ H λv H1=>td σ H1 λx H2=>ty σ H2 λy H3=>sDPut_S D σ v x y H3
section
variable {o i e value:Expr} {pos pos' tpos:Pos} {td ty tv:TE}
def pe_dget (hu:X.A.units+1<cLine) (ho:PE X o td) (hi:PE X i ty) (hs:NoSl i):PE X (.Subscript o i pos) (tDGet td ty):=by
 intro mn s σ H Q I h;refine subD_of PySem.F.slot_dict_getitem.lookup hs (thn (ho mn s σ H _ I h) λu s1 ⟨x,H1,I1,rx,q1⟩=>thn (hi mn s1 σ H1 _ I1 q1) λiv s2 ⟨y,H2,I2,ry,a,v,ex,g,q2⟩=>?_);subst ex;obtain rfl:u=mK a:=rx;exact ⟨zer I2 g,d_getItem hu I2 g ry λw' s3 I3 rw'=>⟨v,H2,I3,rw',q2⟩⟩
def pc_dnotin (hu:X.A.units+1<cLine) (hi:PE X i ty) (ho:PE X o td):PC X .NotIn i o (tDNotIn ty td):=by
 intro mn s σ H Q I h;refine thn (hi mn s σ H _ I h) λiv s1 ⟨y,H1,I1,ry,q1⟩=>thn (ho mn s1 σ H1 _ I1 q1) λu s2 ⟨x,H2,I2,rx,a,ov,ex,g,q2⟩=>?_;subst ex;obtain rfl:u=mK a:=rx;exact d_notIn hu I2 g ry λs3 I3=>⟨.bl (!ov.isSome),H2,I3,Y,q2⟩
def ps_dput (hu:X.A.units+1<cLine) (ho:PE X o td) (hi:PE X i ty) (hv:PE X value tv) (hs:swapsWith value (Z (.Subscript o i pos')) pos.line X.env=pure false) :
  PS X (.Assign [.Subscript o i pos'] value pos) (sDPut td ty tv):=by
 intro mn s σ H D I h;refine wpAny_Assign_Subscript (thn (hv mn s σ H _ I h) λr s1 ⟨v,H1,I1,rv,q1⟩=>thn (ho mn s1 σ H1 _ I1 q1) λu s2 ⟨x,H2,I2,rx,q2⟩=>thn (hi mn s2 σ H2 _ I2 q2) λiv s3 ⟨y,H3,I3,ry,a,H4,ex,g,q3⟩=>?_) hs;subst ex;obtain rfl:u=mK a:=rx;exact d_setItem hu I3 g ry rv λs4 I4=>⟨σ,H4,I4,q3⟩
end
def dk_empty {P:nQ} {w:World} {H:Hp} (h:Heap) (hb:oU<h.objs.size):ObjOk P w H (h.push { cls:=.type "dict",data:=.dict #[] }) h.objs.size (.dK []) :=
 ⟨nK _,beq_eq_false_iff_ne.mpr (oQ (nh hb)),[],.nil,Heap.DictOf.new h⟩
def tDNewK:TE:=λ_ H Q=>∀ p,H p=O->Q (.ref p) (upd H p (.dK []))
section
variable {pos:Pos}
def zau:PE X (.Dict [] [] pos) tDNewK:=λmn s σ H Q I h =>
 wpAny_Dict_empty ⟨.ref s.heap.objs.size,_,I.laid (a:=s.heap.objs.size) (o:=.dK []) (t':=s.toks) (λ_ _ q=>mD _ q) (m8 _) (dk_empty s.heap I.big),Y,h _ (I.hok.fresh (m8 _))⟩
end
structure M1 (X:Cx) (o:Expr) (m:Str) (apos:Pos) (e:Expr) (cpos:Pos):Prop where
 base:tJ o m X.env (eval o X.env)=eval o X.env
 few:((backTo cpos (mO [e] X.env)).all (λx=>!x.1) && (backToKw cpos (sM [] X.env)).all (λx=>x.1.isSome)
  && decide (([e]:Jd).length+([]:List Keyword).length+(if ([]:List Keyword).isEmpty then 0 else 1)<30))=true
 line:(apos.endLine == cpos.line)=true
 trees:backTo cpos (mO [e] X.env)=[(false,eval e X.env)]
structure M2 (X:Cx) (o:Expr) (m:Str) (apos:Pos) (e f:Expr) (cpos:Pos):Prop where
 base:tJ o m X.env (eval o X.env)=eval o X.env
 few:((backTo cpos (mO [e,f] X.env)).all (λx=>!x.1) && (backToKw cpos (sM [] X.env)).all (λx=>x.1.isSome)
  && decide (([e,f]:Jd).length+([]:List Keyword).length+(if ([]:List Keyword).isEmpty then 0 else 1)<30))=true
 line:(apos.endLine == cpos.line)=true
 trees:backTo cpos (mO [e,f] X.env)=[(false,eval e X.env),(false,eval f X.env)]
def IsD (H:Hp) (a:Ad):Prop:=(∃ mo,Rd H a (.dK mo))∨∃ mo,Rd H a (.dT mo)
def isD_at {X:Cx} {mn:J7} {σ:St} {H:Hp} {s:Sh} {a:Ad} (I:Inv X mn σ H s) (d:IsD H a) :
  s.TypeIs (.ref a) "dict"/\(∀ b,mK a=.ref b->∃ ob,s.heap.get? b=Z ob/\ob.dict=O)/\(a == oU)=false:=by
 rcases d with ⟨mo,e⟩ | ⟨mo,e⟩
 .obtain ⟨_,hd,vs,_,dd⟩:=za9 I.hok e
  refine ⟨dd.typeIs,λb q=>?_,hd⟩;cases q;obtain ⟨ob,_,_,h1,h2,_⟩:=dd;exact ⟨ob,h1,h2.2.1⟩
 .obtain ⟨_,hd,xs,_,dd⟩:=za8 I.hok e
  refine ⟨dd.typeIs,λb q=>?_,hd⟩;cases q;obtain ⟨ob,_,_,h1,h2,_⟩:=dd;exact ⟨ob,h1,h2.2.1⟩
section
variable {σ:St} {s:Sh} {a:Ad} {y d:V} {u r:Vl} {o:Jk} {A:Around} {E:J5}
def d_get1 {Q:J5} (hu:A.units+1<cLine) (I:Inv X mn σ H s) (g:DGet H a y o) (ry:RelV y u) (h:∀ w' s',Inv X mn σ H s'->RelV (o.getD .non) w'->Q w' s') :
  wpAny (model X.prog X.w) A (call (.builtin "dict.get") [.ref a,u]) Q E s:=by
 rcases g with ⟨mo,k,e,ey,l⟩ | ⟨mo,k,b,e,ey,eb,l⟩
 .subst ey
  obtain ⟨z,hd,vs,rel,dd⟩:=za9 I.hok e;refine call_meetsIn px dd.typeIs rY (PySem.F.args_dict_get_2 _ _) (meets_dict_get (zK X.prog X.w) a (za4 ry) hd) ⟨_,dd.mapOf,h _ _ (I.tok _) ?_⟩;rw [l];exact (rel.val k).getD rfl
 .subst ey
  cases (show u=mK b from ry);obtain ⟨z,hd,xs,rel,dd⟩:=za8 I.hok e;refine call_meetsIn px dd.typeIs rY (PySem.F.args_dict_get_2 _ _) (meetsH_dict_get (tupleKind (zK X.prog X.w)) a b hd) ⟨sv hu,k,xs,XG I.hok eb,dd,h _ _ (I.tok _) ?_⟩;rw [l];exact (rel.val k).getD rfl
def d_get2 {Q:J5} (hu:A.units+1<cLine) (I:Inv X mn σ H s) (g:DGet H a y o) (ry:RelV y u) (rd:RelV d r) (h:∀ w' s',Inv X mn σ H s'->RelV (o.getD d) w'->Q w' s') :
  wpAny (model X.prog X.w) A (call (.builtin "dict.get") [.ref a,u,r]) Q E s:=by
 rcases g with ⟨mo,k,e,ey,l⟩ | ⟨mo,k,b,e,ey,eb,l⟩
 .subst ey
  obtain ⟨z,hd,vs,rel,dd⟩:=za9 I.hok e;refine call_meetsIn px dd.typeIs rY (PySem.F.args_dict_get_3 _ _ _) (meets_dict_get_default (zK X.prog X.w) a (za4 ry) hd r) ⟨_,dd.mapOf,h _ _ (I.tok _) ?_⟩;rw [l];exact (rel.val k).getD rd
 .subst ey
  cases (show u=mK b from ry);obtain ⟨z,hd,xs,rel,dd⟩:=za8 I.hok e;refine call_meetsIn px dd.typeIs rY (PySem.F.args_dict_get_3 _ _ _) (meetsH_dict_get_default (tupleKind (zK X.prog X.w)) a b hd r) ⟨sv hu,k,xs,XG I.hok eb,dd,h _ _ (I.tok _) ?_⟩;rw [l];exact (rel.val k).getD rd
end
inductive tDGet1_S (ty:TE) (σ:St) (Q:VK) (x:V) (H1:Hp):Prop
 | mk (a:_) (_:x=.ref a) (_:IsD H1 a) (_:ty σ H1 λy H2=>∃ o,DGet H2 a y o/\Q (o.getD .non) H2)
def tDGet1 (td ty:TE):TE:=λσ H Q=>td σ H λx H1=>tDGet1_S ty σ Q x H1
inductive tDGet2_S (ty tx:TE) (σ:St) (Q:VK) (x:V) (H1:Hp):Prop
 | mk (a:_) (_:x=.ref a) (_:IsD H1 a) (_:ty σ H1 λy H2=>tx σ H2 λz H3=>∃ o,DGet H3 a y o/\Q (o.getD z) H3)
def tDGet2 (td ty tx:TE):TE:=λσ H Q=>td σ H λx H1=>tDGet2_S ty tx σ Q x H1
section
variable {o e f:Expr} {apos cpos:Pos} {td ty tx:TE}
def pe_dget1 (hu:X.A.units+1<cLine) (ho:PE X o td) (he:PE X e ty) (m:M1 X o "get" apos e cpos):PE X (.Call (.Attribute o "get" apos) [e] [] cpos) (tDGet1 td ty):=by
 intro mn s σ H Q I h;refine wpAny_Call_method m.base m.few m.line PySem.F.plainAttrs_dict px PySem.F.type_dict_get (thn (ho mn s σ H _ I h) λu s1 ⟨x,H1,I1,rx,a,ex,d,q1⟩=>?_);subst ex;obtain rfl:u=mK a:=rx;obtain ⟨t1,t2,_⟩:=isD_at I1 d;refine ⟨t1,t2,?_⟩;rw [m.trees];refine Calls.callWith_builtin rfl (tI (sF (thn (he mn s1 σ H1 _ I1 q1) λiv s2 ⟨y,H2,I2,ry,ov,g,q2⟩=>Calls.spliced_nil ?_)));exact d_get1 hu I2 g ry λw' s3 I3 rw'=>⟨_,H2,I3,rw',q2⟩
def pe_dget2 (hu:X.A.units+1<cLine) (ho:PE X o td) (he:PE X e ty) (hf:PE X f tx) (m:M2 X o "get" apos e f cpos):PE X (.Call (.Attribute o "get" apos) [e,f] [] cpos) (tDGet2 td ty tx):=by
 intro mn s σ H Q I h;refine wpAny_Call_method m.base m.few m.line PySem.F.plainAttrs_dict px PySem.F.type_dict_get (thn (ho mn s σ H _ I h) λu s1 ⟨x,H1,I1,rx,a,ex,d,q1⟩=>?_);subst ex;obtain rfl:u=mK a:=rx;obtain ⟨t1,t2,_⟩:=isD_at I1 d;refine ⟨t1,t2,?_⟩;rw [m.trees]
 refine Calls.callWith_builtin rfl (tI (sF (thn (he mn s1 σ H1 _ I1 q1) λiv s2 ⟨y,H2,I2,ry,q2⟩ =>
  sF (thn (hf mn s2 σ H2 _ I2 q2) λfv s3 ⟨z,H3,I3,rz,ov,g,q3⟩=>Calls.spliced_nil ?_))))
 exact d_get2 hu I3 g ry rz λw' s4 I4 rw'=>⟨_,H3,I4,rw',q3⟩
end
section
variable {σ:St} {s:Sh} {a:Ad} {mo:Jh} {A:Around} {E:J5}
end
section
variable {σ:St} {s:Sh} {a:Ad} {y:V} {u:Vl} {A:Around} {E:J5}
end
end L2
namespace Att
open PySem PySem.W PySem.Calls PyProof.Rows
section
variable {A:Around} {E:J5} {s:Sh} {K:Frag}
end
end Att
namespace L2
open PySem PySem.Spec PyProof.Rows
section
variable {K:Fg} {base:Heap}
end
section
variable {κ:Type} [DecidableEq κ]
end
abbrev XL (h:Heap) (z TI TO T:Ad) (f1:Vl):Prop :=
 h.get? z=Z { cls:=.type "zip",dict:=O,data:=.fields #[rawInt T,f1,.bool false,.ref TI,.ref TO],slots:=#[] }
section
variable {A:Around} {E:J5} {s:Sh}
def alive_at {a:Ad} {Q:Option Obj->Sh->Prop} (h:Q (s.heap.get? a) s):wpAny (model prog w) A (loadIfAlive a) Q E s:=λ_ _ _=>h
def YM {z TI TO T:Ad} {b1:Bool} {Q:Bool->Sh->Prop} (zz:XL s.heap z TI TO T (.bool b1)) (al:∃ o,s.heap.get? T=Z o)
  (q:∀ h2,XL h2 z TI TO T (.bool true)->pL z s.heap h2->Q false { s with heap:=h2 }):wpAny (model prog w) A (nO (.ref z)) Q E s:=by
 obtain ⟨o,eo⟩:=al;unfold nO;refine q0x (oM zz rfl (x:=rawInt T) rfl ?_);show wpAny _ _ (loadIfAlive (T:Int).toNat >>= _) _ _ _;refine q0x (alive_at ?_);rw [q0z,eo];simp only [Option.isNone_some,rV,if_false];refine q0x (oM zz rfl (x:=.bool b1) rfl ?_)
 cases b1 with
 | true =>
  rw [if_neg (by decide)];exact q0y (q s.heap zz (Heap.SameBut.refl ..))
 | false =>
  rw [if_pos (by decide)];refine q0x (rA zz (by simp) λh2 z2 sb=>q0y (q h2 z2 sb))
def zbi {z TI TO T i1 i2 l1 l2:Ad} {b1:Bool} {k:Nat} {xs ys:Array Vl} {x y:Vl} {Q:Ja->Sh->Prop} (D:ZipApart z TI TO i1 i2 l1 l2) (zz:XL s.heap z TI TO T (.bool b1)) (al:∃ o,s.heap.get? T=Z o)
  (pI:IsPair s.heap TI (.ref i1) (.ref i2)) (h1:s.heap.IsListIter i1 l1 k) (h2:s.heap.IsListIter i2 l2 k) (hl1:s.heap.IsList l1 xs) (hl2:s.heap.IsList l2 ys) (ex:xs[k]?=Z x) (ey:ys[k]?=Z y)
  (q:∀ h',XL h' z TI TO T (.bool true)->h'.IsListIter i1 l1 (k+1)->h'.IsListIter i2 l2 (k+1)->IsPair h' s.heap.objs.size x y->(∀ c o,c≠z->c≠i1->c≠i2->s.heap.get? c=Z o->h'.get? c=Z o)->h'.objs.size=s.heap.objs.size+1->Q (Z (.ref s.heap.objs.size)) { s with heap:=h' }) :
  wpAny (model prog w) A (pyNext (.ref z)) Q E s:=by
 have ty:s.TypeIs (.ref z) "zip":=⟨_,zz,Y⟩;unfold pyNext;refine q0x (wpAny_attempt (wpAny_callSpecial?_slot (name:=tZ "__next__") ty pU (rW pU ty F.entry_zip_next ?_ (F.args_zip_next_1 _))));show wpAny _ _ (field (.ref z) 2 >>= _) _ _ _;refine q0x (oM zz rfl (x:=.bool false) rfl ?_);show wpAny _ _ (field (.ref z) 3 >>= _) _ _ _;refine q0x (oM zz rfl (x:=.ref TI) rfl ?_);refine q0x (pN pI rfl ?_);show wpAny _ _ (nO (.ref z) >>= _) _ _ _;refine q0x (YM zz al λh3 z3 sb=>?_);simp only [rV,if_false];rw [show (forIn (#[mK i1,mK i2]:Array Vl):(Option Fin×Array Vl)->_->Sem _)=forIn [mK i1,mK i2] from funext λ_=>funext λ_=>by simp];simp only [List.forIn_cons,List.forIn_nil];have h13:=h1.extBut sb.extBut D.i1z;have h23:=h2.extBut sb.extBut D.i2z;have hl13:=hl1.extBut sb.extBut D.l1z;have hl23:=hl2.extBut sb.extBut D.l2z;refine q0x (q0x (q0x (pW ?_)));show wpAny _ _ (nP (.ref i1) >>= _) _ _ _;refine q0x (wpAny_nextOf_list_item h13 hl13 ex λh4 a4 sb4=>q0y (q0y ?_));refine q0x (q0x (pW ?_));show wpAny _ _ (nP (.ref i2) >>= _) _ _ _;refine q0x (wpAny_nextOf_list_item (h23.extBut sb4.extBut D.i12.symm) (hl23.extBut sb4.extBut D.l2i1) ey λh5 a5 sb5=>q0y (q0y (q0y ?_)));show wpAny _ _ (newTuple [x,y] >>= _) _ _ _;refine q0x (wpAny_newTuple ?_);have sz:h5.objs.size=s.heap.objs.size:=by rw [sb5.1,sb4.1,sb.1]
 have up:∀ c o,c≠z->c≠i1->c≠i2->s.heap.get? c=Z o->(h5.push { cls:=.type "tuple",data:=.seq #[x,y] }).get? c=Z o:=λc o c1 c2 c3 e=>mD _ (sb5.extBut _ _ c3 (sb4.extBut _ _ c2 (sb.extBut _ _ c1 e)));refine q0y ⟨_,Y,q0y ?_⟩;show Q (Z (.ref h5.objs.size)) _;rw [sz];have fin:=q (h5.push { cls:=.type "tuple",data:=.seq #[x,y] }) (mD _ (sb5.extBut _ _ D.i2z.symm (sb4.extBut _ _ D.i1z.symm z3))) ((a4.extBut sb5.extBut D.i12).at λo e=>mD _ e) (a5.at λo e=>mD _ e) (by rw [← sz];exact mX _ rfl) up (by rw [rh,sz]);exact fin
def zcg {z TI TO T i1 i2 l1 l2:Ad} {b1:Bool} {k:Nat} {xs ys:Array Vl} {Q:Ja->Sh->Prop} (hd:A.handled=O) (D:ZipApart z TI TO i1 i2 l1 l2) (zz:XL s.heap z TI TO T (.bool b1)) (al:∃ o,s.heap.get? T=Z o)
  (pI:IsPair s.heap TI (.ref i1) (.ref i2)) (h1:s.heap.IsListIter i1 l1 k) (hl1:s.heap.IsList l1 xs) (ex:xs[k]?=O)
  (q:∀ h',(∀ c o,c≠z->c≠i1->c≠i2->s.heap.get? c=Z o->h'.get? c=Z o)->Q O { s with heap:=h' }) :
  wpAny (model prog w) A (pyNext (.ref z)) Q E s:=by
 have ty:s.TypeIs (.ref z) "zip":=⟨_,zz,Y⟩;unfold pyNext;refine q0x (wpAny_attempt (wpAny_callSpecial?_slot (name:=tZ "__next__") ty pU (rW pU ty F.entry_zip_next ?_ (F.args_zip_next_1 _))));show wpAny _ _ (field (.ref z) 2 >>= _) _ _ _;refine q0x (oM zz rfl (x:=.bool false) rfl ?_);show wpAny _ _ (field (.ref z) 3 >>= _) _ _ _;refine q0x (oM zz rfl (x:=.ref TI) rfl ?_);refine q0x (pN pI rfl ?_);show wpAny _ _ (nO (.ref z) >>= _) _ _ _;refine q0x (YM zz al λh3 z3 sb=>?_);simp only [rV,if_false];rw [show (forIn (#[mK i1,mK i2]:Array Vl):(Option Fin×Array Vl)->_->Sem _)=forIn [mK i1,mK i2] from funext λ_=>funext λ_=>by simp];simp only [List.forIn_cons,List.forIn_nil];refine q0x (q0x (q0x (pW ?_)));show wpAny _ _ (nP (.ref i1) >>= _) _ _ _;refine q0x (wpAny_nextOf_list_end hd (h1.extBut sb.extBut D.i1z) (hl1.extBut sb.extBut D.l1z) ex λh4 e sb4 he=>?_);obtain ⟨o,ho,hc⟩:=he;refine q0x (wpAny_isInstance (T:="StopIteration") (b:=true) ⟨o,ho,hc⟩ isSubtype_stop ?_);exact q0y (q _ λc o c1 c2 c3 e=>sb4 c o c2 (sb.extBut _ _ c1 e))
end
end L2
namespace PySem
open Sem (wp)
namespace F
def my_entry_zip_ga:entryFor table "zip.__getattribute__"=Z Builtin.«object.__getattribute__» :=
 entryFor_alias (id':="object.__getattribute__") (by kernel_rfl) (by first | rfl | decide +kernel) (by decide +kernel) (by kernel_rfl)
def my_lk_zip_keys:typeLookup (.type "zip") "keys"=pure O:=by rw [typeLookup_type,builtinLookup_eq_fast];kernel_rfl
def my_lk_zip_hook:typeLookup (.type "zip") "__getattr__"=pure O:=by rw [typeLookup_type,builtinLookup_eq_fast];kernel_rfl
end F
def XC (a:Ad) (fs:Array Vl) (u:Tok) :
  Meets (Builtin.«object.__getattribute__» ⟨[.ref a,.str "keys" u],[]⟩) (λA R s=>s.heap.get? a=Z { cls:=.type "zip",dict:=O,data:=.fields fs,slots:=#[] }/\raisesAttr (.ref a) "keys" A R s) :=
 Meets.of_wp λprog w A R s z=>by
  obtain ⟨hp,g,d,tk,os⟩:=s;obtain ⟨zx,zs⟩:=z;have zT:(⟨hp,g,d,tk,os⟩:Sh).TypeIs (.ref a) "zip":=⟨_,zx,Y⟩;have f4:=F.my_lk_zip_keys;unfold Builtin.«object.__getattribute__»;repeat (any_goals (first | assumption | wp_step | fail))
  exact wpAny_raiseAttrError zs.1 zs.2 (attrMsg_fits (by decide +kernel) (by decide +kernel))
def za0 {prog:nQ} {w:World} {A:Around} {E:J5} {s:Sh} {a:Ad} {fs:Array Vl} {Q:Ja->Sh->Prop} (zx:s.heap.get? a=Z { cls:=.type "zip",dict:=O,data:=.fields fs,slots:=#[] }) (zA:A.handled=O)
  (q:∀ h' tk e,Heap.NewExcOf s.heap h' e "AttributeError"->Q O { s with heap:=h',toks:=tk }):wpAny (model prog w) A (getAttr? (.ref a) "keys") Q E s:=by
 obtain ⟨hp,g,d,tk,os⟩:=s;have zT:∀ tk',(⟨hp,g,d,tk',os⟩:Sh).TypeIs (.ref a) "zip":=λ_=>⟨_,zx,Y⟩;have f1:=sub_AttributeError;have f3:=F.slot_zip_getattribute.lookup;have f4:=F.slot_zip_getattribute.bind (.ref a);have f5:=F.my_lk_zip_hook;unfold getAttr? getAttrBy? getAttrBy
 repeat (any_goals (first | assumption | exact zT _ | ((with_reducible show wpAny _ _ (call (Value.builtin "zip.__getattribute__") _ _) _ _ _);refine call_meets F.slot_zip_getattribute (zT _) F.my_entry_zip_ga (F.args_zip_getattribute_2 _ _) (XC a fs _) ⟨zx,zA,λh9 k9 e9 n9=>?_⟩) | wp_step))
 obtain ⟨t9,u9,x9⟩:=n9.there;show wpAny _ _ (getattributeRaised _ _ _ _ _ _ _) _ _ _;unfold getattributeRaised
 repeat (any_goals (first | assumption | wp_step | fail))
 exact q _ _ _ n9.of
end PySem
namespace L2
open PySem PySem.Spec PyProof.Rows
def Yo:entryFor table "dict.update.loop"=Z Builtin.«dict.update.loop»:=entryFor_of_tree (by kernel_rfl)
def ZS (z TI TO i1 i2 l1 l2:Ad) (k:Nat) (h:Heap):Prop :=
 (IsZip h z TI TO .none∨∃ T b,XL h z TI TO T (.bool b)/\(∃ o,h.get? T=Z o)/\T≠z/\T≠TO/\T≠i1/\T≠i2)/\IsPair h TI (.ref i1) (.ref i2)/\(∃ a b,IsPair h TO a b)/\h.IsListIter i1 l1 k/\h.IsListIter i2 l2 k
section
variable {A:Around} {E:J5} {s:Sh} {z TI TO i1 i2 l1 l2 d:Ad} {xs ys:Array Vl}
def zs_item {k:Nat} {x y:Vl} {Q:Ja->Sh->Prop} (D:ZipApart z TI TO i1 i2 l1 l2) (st:ZS z TI TO i1 i2 l1 l2 k s.heap) (hl1:s.heap.IsList l1 xs) (hl2:s.heap.IsList l2 ys) (ex:xs[k]?=Z x) (ey:ys[k]?=Z y)
  (q:∀ h',ZS z TI TO i1 i2 l1 l2 (k+1) h'->IsPair h' s.heap.objs.size x y->(∀ c o,c≠z->c≠TO->c≠i1->c≠i2->s.heap.get? c=Z o->h'.get? c=Z o)->Q (Z (.ref s.heap.objs.size)) { s with heap:=h' }) :
  wpAny (model prog w) A (pyNext (.ref z)) Q E s:=by
 obtain ⟨zz,pI,⟨a,b,pO⟩,h1,h2⟩:=st;have lt:∀ {c:Ad} {o:Obj},s.heap.get? c=Z o->s.heap.objs.size≠c:=λe=>sy (mH e);have n1:s.heap.objs.size≠i1:=by obtain ⟨o,e,_⟩:=h1;exact lt e
 have n2:s.heap.objs.size≠i2:=by obtain ⟨o,e,_⟩:=h2;exact lt e
 rcases zz with zz | ⟨T,b1,zz,al,t1,t2,t3,t4⟩
 .refine wpAny_pyNext_zip_item D zz pI pO h1 h2 hl1 hl2 ex ey λh' a1 a2 a3 a4 a5 a6 hk=>?_
  exact q h' ⟨.inr ⟨_,_,a1,⟨_,a5⟩,lt zz,lt pO,n1,n2⟩,hk _ _ D.TIz D.TITO D.TIi1 D.TIi2 pI,⟨_,_,a2⟩,a3,a4⟩ a5 hk
 .obtain ⟨o,eo⟩:=al
  refine zbi D zz ⟨o,eo⟩ pI h1 h2 hl1 hl2 ex ey λh' a1 a3 a4 a5 hk _=>?_;exact q h' ⟨.inr ⟨T,true,a1,⟨o,hk _ _ t1 t3 t4 eo⟩,t1,t2,t3,t4⟩,hk _ _ D.TIz D.TIi1 D.TIi2 pI,⟨_,_,hk _ _ D.TOz D.TOi1 D.TOi2 pO⟩,a3,a4⟩ a5 λc o c1 _ c3 c4 e=>hk c o c1 c3 c4 e
def zs_end {k:Nat} {Q:Ja->Sh->Prop} (hd:A.handled=O) (D:ZipApart z TI TO i1 i2 l1 l2) (st:ZS z TI TO i1 i2 l1 l2 k s.heap) (hl1:s.heap.IsList l1 xs) (hl2:s.heap.IsList l2 ys) (ex:xs[k]?=O)
  (q:∀ h',(∀ c o,c≠z->c≠TO->c≠i1->c≠i2->s.heap.get? c=Z o->h'.get? c=Z o)->Q O { s with heap:=h' }):wpAny (model prog w) A (pyNext (.ref z)) Q E s:=by
 obtain ⟨zz,pI,⟨a,b,pO⟩,h1,h2⟩:=st;rcases zz with zz | ⟨T,b1,zz,al,_⟩
 .exact wpAny_pyNext_zip_end hd D zz pI pO h1 h2 hl1 hl2 (.inl ex) λh' hk=>q h' hk
 .exact zcg (ys:=ys) hd D zz al pI h1 hl1 ex λh' hk=>q h' λc o c1 _ c3 c4 e=>hk c o c1 c3 c4 e
def za3 (mo:List (Key×Vl)):List (Key×Vl)->List (Key×Vl)
 | []=>mo
 | p::r=>za3 (stored mo p.1 p.2) r
def ZS.same {k:Nat} {h h2:Heap} (st:ZS z TI TO i1 i2 l1 l2 k h) (dz:d≠z) (dI:d≠TI) (dO:d≠TO) (d1:d≠i1) (d2:d≠i2) (kp:∀ c o,c≠d->h.get? c=Z o->h2.get? c=Z o) (hd:∃ o,h2.get? d=Z o):ZS z TI TO i1 i2 l1 l2 k h2:=by
 obtain ⟨zz,pI,⟨a,b,pO⟩,h1,h2'⟩:=st;refine ⟨?_,kp _ _ dI.symm pI,⟨a,b,kp _ _ dO.symm pO⟩,h1.at λo e=>kp _ o d1.symm e,h2'.at λo e=>kp _ o d2.symm e⟩;rcases zz with zz | ⟨T,b1,zz,⟨o,eo⟩,t⟩
 .exact .inl (kp _ _ dz.symm zz)
 .refine .inr ⟨T,b1,kp _ _ dz.symm zz,?_,t⟩
  by_cases e:T=d
  .rw [e];exact hd
  .exact ⟨o,kp _ _ e eo⟩
theorem dz_loop (hd:A.handled=O) (D:ZipApart z TI TO i1 i2 l1 l2) (dz:d≠z) (dI:d≠TI) (dO:d≠TO) (d1:d≠i1) (d2:d≠i2) (dl1:d≠l1) (dl2:d≠l2) :
  ∀ (ps:List (Key×Vl)) (k:Nat) (s:Sh) (mo:List (Key×Vl)) (i:Int) (t:Tok) (R:Result->Sh->Prop),ZS z TI TO i1 i2 l1 l2 k s.heap->s.heap.IsList l1 xs->s.heap.IsList l2 ys->s.heap.DictOf (zK prog w) d mo->mo.length+ps.length<=mI ->
   xs.size=k+ps.length->(∀ j (p:Key×Vl),ps[j]?=Z p->∃ u,xs[k+j]?=Z u/\(zK prog w).is p.1 u=true/\ys[k+j]?=Z p.2) ->
   (∀ h' tk,h'.DictOf (zK prog w) d (za3 mo ps)->(∀ c o,c≠z->c≠TO->c≠i1->c≠i2->c≠d->s.heap.get? c=Z o->h'.get? c=Z o)->R (.ok (.ret .none)) { s with heap:=h',toks:=tk }) ->
   tP (model prog w) A (.builtin "dict.update.loop" ⟨[.ref d,.ref z,.int i t,.none],[]⟩) R s
 | [],k,s,mo,i,t,R,st,hl1,hl2,hm,hz,hn,hp,q=>by
  refine codeAny_builtin Yo ?_;show wpAny _ _ (pyNext (.ref z) >>= _) _ _ _;refine q0x (zs_end hd D st hl1 hl2 (Array.getElem?_eq_none (by rw [hn];exact m8 _)) λh' hk=>?_);show wpAny _ _ (Builtin.Dict.addKeywords d [] >>= _) _ _ _;refine q0x (q0y (q0y ?_))
  have hd':h'.DictOf (zK prog w) d mo:=by
   obtain ⟨o,es,ep,ho,r⟩:=hm;exact ⟨o,es,ep,hk _ _ dz dO d1 d2 ho,r⟩
  exact q h' s.toks hd' λc o c1 c2 c3 c4 _ e=>hk c o c1 c2 c3 c4 e
 | p::ps,k,s,mo,i,t,R,st,hl1,hl2,hm,hz,hn,hp,q=>by
  refine codeAny_builtin Yo ?_;obtain ⟨u,eu,ku,ev⟩:=hp 0 p rfl;show wpAny _ _ (pyNext (.ref z) >>= _) _ _ _;refine q0x (zs_item D st hl1 hl2 eu ev λh' st' pT hk=>?_)
  have hm':h'.DictOf (zK prog w) d mo:=by
   obtain ⟨o,es,ep,ho,r⟩:=hm;exact ⟨o,es,ep,hk _ _ dz dO d1 d2 ho,r⟩
  have hl1':h'.IsList l1 xs:=hl1.at λo e=>hk _ o D.l1z D.l1TO D.l1i1 D.l1i2 e;have hl2':h'.IsList l2 ys:=hl2.at λo e=>hk _ o D.l2z D.l2TO D.l2i1 D.l2i2 e;refine q0x (pW ?_);refine q0x (wpAny_tryCatch ?_);unfold Builtin.Dict.pairItems;refine q0x (wpAny_typeOf (T:="tuple") ⟨_,pT,Y⟩ ?_);rw [if_pos (by decide)];refine q0x (pN pT rfl (q0y ?_));show wpAny _ _ (holding [u,p.2] (dictSet d u p.2)) _ _ _;refine pW (wpAny_dictSet_pairs (hsz:=by rw [q8x] at hz;omega) ku hm' λh2 hm2 sb=>?_);refine q0y ⟨Code.quiet_builtin _ (by decide +kernel),?_⟩;have nd:∃ o,h2.get? d=Z o:=by obtain ⟨o,_,_,e,_⟩:=hm2;exact ⟨o,e⟩
  have ls:(stored mo p.1 p.2).length<=mo.length+1:=by
   unfold stored;split
   .rw [Je];omega
   .rw [Jf];exact m8 _
  refine dz_loop hd D dz dI dO d1 d2 dl1 dl2 ps (k+1) { s with heap:=h2,toks:=s.toks+1 } (stored mo p.1 p.2) (i+1) 0 R (st'.same dz dI dO d1 d2 (λc o n e=>sb.extBut _ _ n e) nd) (hl1'.extBut sb.extBut dl1.symm) (hl2'.extBut sb.extBut dl2.symm) hm2 (by rw [q8x] at hz;omega) (by rw [hn,q8x];omega) (λj r hj=>?_) (λh3 tk hm3 hk3=>?_)
  .have:=hp (j+1) r hj
   rw [show k+1+j=k+(j+1) by omega];exact this
  .exact q h3 tk hm3 λc o c1 c2 c3 c4 c5 e=>hk3 c o c1 c2 c3 c4 c5 (sb.extBut _ _ c5 (hk c o c1 c2 c3 c4 e))
end
def putAll (mo:Jh):Jh->Jh
 | []=>mo
 | p::r=>putAll (xa mo p.1 p.2) r
theorem KV.putAll:∀ {ps:Jh} {qs:List (Key×Vl)} {mo:Jh} {vs:List (Key×Vl)},KV ps qs->KV mo vs->KV (L2.putAll mo ps) (za3 vs qs)
 | [],_,_,_,.nil,h=>h
 | p::ps,_,_,_,.cons (b:=q) r rr,h=>by
  have e:q.1=p.1:=r.1.symm;show KV (L2.putAll (xa _ p.1 p.2) ps) (za3 (stored _ q.1 q.2) _);rw [e];exact KV.putAll rr (h.put p.1 r.2)
theorem zap:∀ (ps:Jh) (mo:Jh),(putAll mo ps).length<=mo.length+ps.length
 | [],_=>m8 _
 | p::ps,mo=>by
  have:=zap ps (xa mo p.1 p.2);have:=xp mo p.1 p.2;show (putAll (xa mo p.1 p.2) ps).length<=mo.length+(ps.length+1);omega
section
variable {A:Around} {E:J5} {s:Sh} {z TI TO i1 i2 l1 l2:Ad} {xs ys:Array Vl}
def ZS.keeps {k:Nat} {h h2:Heap} (st:ZS z TI TO i1 i2 l1 l2 k h) (kp:∀ c o,h.get? c=Z o->h2.get? c=Z o):ZS z TI TO i1 i2 l1 l2 k h2:=by
 obtain ⟨zz,pI,⟨a,b,pO⟩,h1,h2'⟩:=st;refine ⟨?_,kp _ _ pI,⟨a,b,kp _ _ pO⟩,h1.at λo e=>kp _ o e,h2'.at λo e=>kp _ o e⟩;rcases zz with zz | ⟨T,b1,zz,⟨o,eo⟩,t⟩
 .exact .inl (kp _ _ zz)
 .exact .inr ⟨T,b1,kp _ _ zz,⟨o,kp _ _ eo⟩,t⟩
def zbq {ps:List (Key×Vl)} {Q:J5} (hd:A.handled=O) (D:ZipApart z TI TO i1 i2 l1 l2) (zz:IsZip s.heap z TI TO .none) (st:ZS z TI TO i1 i2 l1 l2 0 s.heap) (hl1:s.heap.IsList l1 xs) (hl2:s.heap.IsList l2 ys) (hz:ps.length<=mI) (hn:xs.size=ps.length)
  (hp:∀ (j:Nat) (p:Key×Vl),ps[j]?=Z p->∃ u,xs[j]?=Z u/\(zK prog w).is p.1 u=true/\ys[j]?=Z p.2)
  (q:∀ h' tk,h'.DictOf (zK prog w) s.heap.objs.size (za3 [] ps)->(∀ c o,c≠z->c≠TO->c≠i1->c≠i2->s.heap.get? c=Z o->h'.get? c=Z o)->Q (.ref s.heap.objs.size) { s with heap:=h',toks:=tk }):wpAny (model prog w) A (call (.type "dict") [.ref z]) Q E s:=by
 refine callType_codes (Q₁:=λobj s₁=>obj=.ref s.heap.objs.size/\s₁={ s with heap:=s.heap.push { cls:=.type "dict",data:=.dict #[] } }) F.kt_called_dict (F.kt_typeCall_dict_1 _) F.entry_dict_init (kt_code_dict_new _ ⟨Y,Y⟩) λobj s1 y=>?_;obtain ⟨rfl,rfl⟩:=y;have nw:(s.heap.push { cls:=.type "dict",data:=.dict #[] }).DictOf (zK prog w) s.heap.objs.size []:=Heap.DictOf.new s.heap;have kp:∀ c o,s.heap.get? c=Z o->(s.heap.push { cls:=.type "dict",data:=.dict #[] }).get? c=Z o:=λc o e=>mD _ e;have lt:∀ {c:Ad} {o:Obj},s.heap.get? c=Z o->s.heap.objs.size≠c:=λe=>sy (mH e);obtain ⟨_,pI,⟨a,b,pO⟩,g1,g2⟩:=id st;have e1:s.heap.objs.size≠i1:=by obtain ⟨o,e,_⟩:=g1;exact lt e
 have e2:s.heap.objs.size≠i2:=by obtain ⟨o,e,_⟩:=g2;exact lt e
 have e3:s.heap.objs.size≠l1:=by obtain ⟨o,e,_⟩:=hl1;exact lt e
 have e4:s.heap.objs.size≠l2:=by obtain ⟨o,e,_⟩:=hl2;exact lt e
 refine ⟨nw.typeIs,F.args_dict_init_2 _ _,?_⟩;unfold Builtin.«dict.__init__»;refine q0x ?_;unfold Builtin.Dict.selfAndRest;refine q0x (wpAny_notOrdered_dict nw.typeIs ?_);show wpAny _ _ (pure (s.heap.objs.size,[mK z])) _ _ _;refine q0y ?_;show wpAny _ _ (Builtin.Dict.updateFrom "dict.__init__" s.heap.objs.size (.ref z) [] .none) _ _ _;unfold Builtin.Dict.updateFrom;refine q0x (wpAny_typeOf (T:="zip") ⟨_,kp _ _ zz,Y⟩ ?_);rw [if_pos (by decide)];refine q0x (za0 (kp _ _ zz) hd λh3 tk e ne=>?_);simp only [Option.isNone_none,if_true];have k3:∀ c o,s.heap.get? c=Z o->h3.get? c=Z o:=λc o e=>ne.keeps c o (kp c o e);refine q0x (wpAny_rule (q0x (wpAny_pyIter_zip (f0:=.none) (k3 _ _ zz) ?_)));refine q0y ⟨Code.quiet_builtin _ (by decide +kernel),?_⟩
 have d3:h3.DictOf (zK prog w) s.heap.objs.size []:=by
  obtain ⟨o,es,ep,ho,r⟩:=nw;exact ⟨o,es,ep,ne.keeps _ _ ho,r⟩
 refine dz_loop (A:=A.in1) (xs:=xs) (ys:=ys) hd D (lt zz) (lt pI) (lt pO) e1 e2 e3 e4 ps 0 { s with heap:=h3,toks:=tk } [] 0 0 _ (st.keeps k3) (hl1.at λo e=>k3 _ o e) (hl2.at λo e=>k3 _ o e) d3 (by show 0+ps.length<=_;omega) (by rw [hn,tE]) (λj r hj=>by rw [tE];exact hp j r hj) λh4 tk4 d4 k4=>?_;exact ⟨Y,q h4 tk4 d4 λc o c1 c2 c3 c4 e=>k4 c o c1 c2 c3 c4 (lt e).symm (k3 c o e)⟩
end
theorem kv_zip:∀ (ks:List Key) {ys:Jj} {us:J8},Vals ys us->ks.length=ys.length->KV (ks.zip ys) (ks.zip us)
 | [],_,_,_,_=>.nil
 | k::ks,_,_,.nil,h=>by cases h
 | k::ks,_,_,.cons r rr,h=>.cons ⟨Y,r⟩ (kv_zip ks rr (by simpa using h))
inductive tDictZip_S (K:Fg) (Q:VK) (vs:Jj) (H1:Hp):Prop
 | mk (l1 l2:Ad) (ks:List Key) (ys:Jj) (_:vs=[.ref l1,.ref l2]) (_:SqL K H1 l1 (ks.map kV)) (_:SqL K H1 l2 ys) (_:ks.length=ys.length) (_:∀ d,H1 d=O->Q (.ref d) (upd H1 d (.dK (putAll [] (ks.zip ys)))))
def tDictZip (K:Fg) (ta:TA):TE:=λσ H Q=>ta σ H λvs H1=>tDictZip_S K Q vs H1
def zff {a b:Expr} {ta:TA} {p p2 pos pos2:Pos} (hc:X.calm=true) (hg:Gl X "dict") (hm:X.mg "dict"=O) (hg2:Gl X "zip") (hm2:X.mg "zip"=O) (ha:PA X [a,b] ta)
  (hs:mO [a,b] X.env=[(false,eval a X.env),(false,eval b X.env)]:=by rfl) (hs2:mO [b] X.env=[(false,eval b X.env)]:=by rfl)
  (hs3:mO [Expr.Call (.Name "zip" p2) [a,b] [] pos2] X.env=[(false,eval (.Call (.Name "zip" p2) [a,b] [] pos2) X.env)]:=by rfl):PE X (.Call (.Name "dict" p) [.Call (.Name "zip" p2) [a,b] [] pos2] [] pos) (tDictZip X.K ta):=by
 intro mn s σ H Q I h;refine rB (Yk I hg hm boot_dict (ou ?_ (by rw [hs3];rfl) (by rfl)));rw [hs3];show wpAny _ _ (spliced [(false,eval (.Call (.Name "zip" p2) [a,b] [] pos2) X.env)]) _ _ s;refine sF (Call_ (Yk I hg2 hm2 boot_zip (ou (thn (ha pos2 mn s σ H _ I h) λus s1 ⟨vs,H1,I1,r1,q1⟩=>?_) (by rw [hs,hs2]) (by rw [hs2];rfl))));obtain ⟨l1,l2,ks,ys,e,x1,x2,le,q⟩:=q1;subst e;obtain ⟨u,v,rfl,ru,rv⟩:=vals2 r1;cases (show u=mK l1 from ru);cases (show v=mK l2 from rv);obtain ⟨is1,g1,p1,z1⟩:=I1.list x1;obtain ⟨is2,g2,p2',z2⟩:=I1.list x2;have L1:l1<s1.heap.objs.size:=by obtain ⟨_,e,_⟩:=p1.isList;exact mH e
 have L2:l2<s1.heap.objs.size:=by obtain ⟨_,e,_⟩:=p2'.isList;exact mH e
 have n1:=g1.length;have n2:=g2.length;rw [Je] at n1;refine call_zip_2 p1.isList p2'.isList λh' a1 a2 a3 a4 a5 a6 hk=>Calls.spliced_nil ?_;have J:Inv X mn σ H1 { s1 with heap:=h' }:=I1.kept (t':=s1.toks) λb o e=>hk b o e;have fp:∀ n,Yx X mn H1 (s1.heap.objs.size+n):=λn=>I1.fpOk (rG _ _) (I1.hok.fresh (rG _ _));have rel:KV (ks.zip ys) (ks.zip is2):=kv_zip ks g2 le;have lz:(ks.zip is2).length=ks.length:=by rw [rQ,sV];omega
 rw [Je] at z1;refine zbq (s:={ s1 with heap:=h' }) (xs:=is1.toArray) (ys:=is2.toArray) (ps:=ks.zip is2) (I1.ok.hd hc) (zipApart_new L1 L2) a1 ⟨.inl a1,a2,⟨_,_,a3⟩,a4,a5⟩ (p1.isList.at λo e=>hk _ o e) (p2'.isList.at λo e=>hk _ o e) (by omega) (by rw [lz,mQ];omega) (λj r hj=>?_) λh3 tk d3 k3=>?_
 .obtain ⟨ek,ev⟩:ks[j]?=Z r.1/\is2[j]?=Z r.2:=by
   rw [pB] at hj;exact hj
  obtain ⟨u,eu,ru⟩:=g1.get (show (ks.map kV)[j]?=Z (kV r.1) by rw [mJ,ek];rfl);exact ⟨u,by simpa using eu,za4 ru,by simpa using ev⟩
 .have fr:H1 h'.objs.size=O:=I1.hok.fresh (by rw [a6];omega)
  have b4:=fp 4;have b3:=fp 3;have b0:=fp 0;have b1:=fp 1;have b2:=fp 2
  have lay:ObjOk X.prog X.w (upd H1 h'.objs.size (.dK (putAll [] (ks.zip ys)))) h3 h'.objs.size (.dK (putAll [] (ks.zip ys))):=by
   refine ⟨?_,?_,_,KV.putAll rel .nil,d3⟩
   .have:=zap (ks.zip ys) []
    rw [rQ] at this;have:([]:Jh).length=0:=rfl;omega
   .have:=J.big
    exact beq_eq_false_iff_ne.mpr (sy this)
  refine ⟨.ref h'.objs.size,upd H1 h'.objs.size (.dK (putAll [] (ks.zip ys))),?_,Y,q _ fr⟩
  exact J.turnedT (its:=[s1.heap.objs.size+4,s1.heap.objs.size+2,s1.heap.objs.size+3,s1.heap.objs.size,s1.heap.objs.size+1]) (λc o nc e=>by
   have nc':c≠s1.heap.objs.size+4/\c≠s1.heap.objs.size+2/\c≠s1.heap.objs.size+3/\c≠s1.heap.objs.size/\c≠s1.heap.objs.size+1:=by simpa using nc
   exact k3 c o nc'.1 nc'.2.2.1 nc'.2.2.2.1 nc'.2.2.2.2 e) (λc hc'=>by
   simp at hc';rcases hc' with rfl | rfl | rfl | rfl | rfl
   .exact b4
   .exact b2
   .exact b3
   .exact b0
   .exact b1) (m8 _) lay
section
variable {A:Around} {R:Result->Sh->Prop} {s:Sh}
end
section
variable {tg:Expr}
end
abbrev tCompFC (wi:TI) (g:TG) (tt:TT) (te:TE) (cap:List (Option Nat)):TE:=tCompF wi g tt te λσ _ σY=>σY=capt cap σ
section
variable {tg:Expr}
def zd5 {iter elt tst:Expr} {mC:Scope} {pos:Pos} {wi:TI} {g:TG} {tt:TT} {te:TE} (NY:Jb) (cap:List (Option Nat)) (hc:X.calm=true) (hk:Xt X mC=true) (hcap:XS X mC NY cap=true) (hi:PI X tg iter wi)
  (hY:∀ (s3:Sh) (H3:Hp) (fp:Jc),PG (X.comp mC (Ya X.env mC) NY s3 H3 fp) tg g/\PT (X.comp mC (Ya X.env mC) NY s3 H3 fp) tst tt/\PE (X.comp mC (Ya X.env mC) NY s3 H3 fp) elt te)
  (hs:∀ x,oH iter X.env x=pure x:=by intro _;rfl):PE X (.ListComp elt [⟨tg,iter,[tst],0⟩] mC pos) (tCompFC wi g tt te cap):=by
 intro mn s σ H Q I h;have S:=Yc I.ok hk;refine pe_compI (NY:=NY) hc S hi (λs3 H3 fp=>⟨(hY s3 H3 fp).1,.inr ⟨_,Y,(hY s3 H3 fp).2.1⟩,(hY s3 H3 fp).2.2⟩) (λmn σ H s3 σY I3 e=>?_) hs mn s σ H Q I h;subst e;exact YI I3 (Yc I3.ok hk) hcap
end
def zeu {lo:Int} {n:Nat} {D:Ad} {g:TG} {tt:TT} {te:TE} {σY:St} {H1:Hp} {Q:VK} (Pv:Nat->St->Hp->Prop) (h0:Pv 0 σY H1)
  (hs:∀ i σ H,i<n->Pv i σ H->g (.int (lo+i)) σ H λσ3 H3=>tt σ3 H3 λb H4=>if b=true then te σ3 H4 λv H5=>∃ ys,H5 D=Z (.lst ys)/\ys.length<mI/\Pv (i+1) σ3 (upd H5 D (.lst (ys++[v]))) else Pv (i+1) σ3 H4) (hd:∀ σ H,Pv n σ H->Q (.ref D) H) :
  CompWF (Itr lo n) g tt te σY H1 D Q:=by
 refine ⟨λi m σ H=>m=n-i/\i<=n/\Pv i σ H,⟨n,by simp,nK _,h0⟩,?_⟩;rintro i m σ H ⟨rfl,hi,p⟩;by_cases hlt:i<n
 .refine .inr ⟨hlt,Pv (i+1),λσ' H' p'=>⟨n-(i+1),by omega,Y,hlt,p'⟩,λx H' y=>?_⟩
  obtain ⟨e,y⟩:=y;subst e y;exact hs i σ _ hlt p
 .have e:i=n:=by omega
  subst e;exact .inl ⟨m8 _,hd σ H p⟩
section
variable {A:Around} {s:Sh}
end
section
variable {A:Around} {E:J5} {s:Sh}
end
section
variable {e:Expr} {te:TE} {p p' pos pos':Pos}
end
end L2
namespace L2
open PySem PySem.Spec PyProof.Rows PyProof
def zey:Yp X (.type "range") (λxs H Q=>∃ j:Int,xs=[.int j]/\∀ l,H l=O->Q (.ref l) (upd H l (.rng 0 j))):=by
 intro mn s σ H xs us Q I r h;obtain ⟨j,rfl,q⟩:=h;obtain ⟨u,rfl,rx⟩:=vals1 r;obtain ⟨t,rfl⟩:=rx;refine call_range_1 ?_;exact ⟨.ref s.heap.objs.size,_,I.laid (λb o e=>mD _ e) (m8 _) (show ObjOk X.prog X.w _ _ _ (.rng 0 j) from ⟨_,_,_,mX _ rfl⟩),Y,q _ (I.hok.fresh (m8 _))⟩
def ZA (n:Nat):J6:=(nj n).map Int.ofNat
def vals_upto:∀ (n:Nat) (us:J8),us.length=n->(∀ (i:Nat) (v:Vl),us[i]?=Z v->∃ t,v=sQ (0+(i:Nat)*1) t)->Vals ((ZA n).map V.int) us:=by
 intro n
 induction n with
 | zero=>intro us hl _;cases us with
  | nil=>exact .nil
  | cons _ _=>cases hl
 | succ n ih =>
  intro us hl h;obtain ⟨ini,last,rfl⟩:∃ ini last,us=ini++[last]:=⟨us.dropLast,us.getLast (by intro e;rw [e] at hl;cases hl),(List.dropLast_concat_getLast _).symm⟩;have hi:ini.length=n:=by rw [Jf] at hl;simpa using hl
  have e:ZA (n+1)=ZA n++[(n:Int)]:=by unfold ZA;rw [oK,Jg];rfl
  rw [e,Jg];refine (ih ini hi λi v hv=>?_).append (.cons ?_ .nil)
  .have:i<ini.length:=(mF.mp hv).1
   exact h i v (by rw [q9x this];exact hv)
  .obtain ⟨t,rfl⟩:=h n last (by rw [oh (by omega),hi,Nat.sub_self];rfl)
   exact ⟨t,by show sQ (0+(n:Int)*1) t=sQ n t;congr 1;omega⟩
def zbr (hc:X.calm=true):Yp X (.type "list") (λxs H Q=>∃ (p:Ad) (n:Nat),xs=[.ref p]/\H p=Z (.rng 0 n)/\n<=1000/\∀ l,H l=O->Q (.ref l) (upd H l (.lst ((ZA n).map V.int)))):=by
 intro mn s σ H xs us Q I r h;obtain ⟨p,n,rfl,hp,hn,q⟩:=h;obtain ⟨u,rfl,rx⟩:=vals1 r;cases rx;obtain ⟨t,u,v,e⟩:=I.hok p _ hp;have hs:Builtin.Range.small 0 (n:Int) 1=true:=small_one (by omega) (by omega) (by omega) (by omega);have hz:pY 0 (n:Int) 1=n:=by rw [rangeSize_one];split <;> omega
 have SL:(1000:Nat)<=sizeLine:=by decide
 refine call_list_range (I.ok.hd hc) e hs hz (by omega) λh' tk acc c' hk hS ha=>?_;refine ⟨.ref s.heap.objs.size,_,I.laid (t':=tk) hk (m8 _) (show ObjOk X.prog X.w _ h' _ (.lst ((ZA n).map V.int)) from ⟨?_,acc.toList,c',vals_upto n acc.toList ?_ ?_,?_⟩),Y,q _ (I.hok.fresh (m8 _))⟩
 .rw [Je];unfold ZA;rw [Je,pf];omega
 .simpa using ha.1
 .intro i v hv
  exact ha.2 i v (by simpa using hv)
 .simpa using hS
end L2
namespace L2
open PySem PySem.Spec PyProof.Rows
end L2
namespace My
open PySem PySem.W PyProof.Rows
def zbg (x y:Int):pQ x y / 2=pQ (x / 2) (y / 2)/\pQ x y % 2=(x % 2)*(y % 2):=by
 have h:=kbt_halves x y;rcases (by omega:x % 2=0∨x % 2=1) with a | a <;> rcases (by omega:y % 2=0∨y % 2=1) with b | b <;>
  (rw [a,b] at h ⊢;simp at h ⊢;omega)
def zc3 (x y:Int):pX x y / 2=pX (x / 2) (y / 2)/\pX x y % 2=max (x % 2) (y % 2):=by
 rw [bitOr_and,bitOr_and];have h:=kbt_halves x y;rcases (by omega:x % 2=0∨x % 2=1) with a | a <;> rcases (by omega:y % 2=0∨y % 2=1) with b | b <;>
  (rw [a,b] at h ⊢;simp at h;omega)
def zaa (x y:Int):pP x y / 2=pP (x / 2) (y / 2)/\pP x y % 2=(x % 2+y % 2) % 2:=by
 rw [bitXor_and,bitXor_and];have h:=kbt_halves x y;rcases (by omega:x % 2=0∨x % 2=1) with a | a <;> rcases (by omega:y % 2=0∨y % 2=1) with b | b <;>
  (rw [a,b] at h ⊢;simp at h;omega)
def xF (x:Int) (k:Nat):x / 2 ^ (k+1)=x / 2 / 2 ^ k:=by
 rw [Int.ediv_ediv_of_nonneg (by decide),Int.pow_succ,Int.mul_comm]
def and_bit (k:Nat):∀ x y:Int,pQ x y / 2 ^ k % 2=(x / 2 ^ k % 2)*(y / 2 ^ k % 2):=by
 induction k with
 | zero=>intro x y;simpa using (zbg x y).2
 | succ k ih=>intro x y;rw [xF,xF,xF,(zbg x y).1,ih]
def or_bit (k:Nat):∀ x y:Int,pX x y / 2 ^ k % 2=max (x / 2 ^ k % 2) (y / 2 ^ k % 2):=by
 induction k with
 | zero=>intro x y;simpa using (zc3 x y).2
 | succ k ih=>intro x y;rw [xF,xF,xF,(zc3 x y).1,ih]
def xor_bit (k:Nat):∀ x y:Int,pP x y / 2 ^ k % 2=(x / 2 ^ k % 2+y / 2 ^ k % 2) % 2:=by
 induction k with
 | zero=>intro x y;simpa using (zaa x y).2
 | succ k ih=>intro x y;rw [xF,xF,xF,(zaa x y).1,ih]
def In (n:Nat) (x:Int):Prop:=-(2 ^ n)<=x/\x<2 ^ n
def zde {n:Nat} {x:Int}:In (n+1) x↔In n (x / 2):=by
 unfold In;rw [Int.pow_succ];constructor
 .intro h;omega
 .intro h;omega
def YG {x:Int} (h:In 0 x):x=0∨x=-1:=by
 unfold In at h;omega
def and_in (n:Nat):∀ x y:Int,In n x->In n y->In n (pQ x y):=by
 induction n with
 | zero =>
  intro x y hx hy;rcases YG hx with a | a <;> rcases YG hy with b | b <;> (subst a;subst b;unfold In;decide)
 | succ n ih=>intro x y hx hy;rw [zde] at *;rw [(zbg x y).1];exact ih _ _ hx hy
def or_in (n:Nat):∀ x y:Int,In n x->In n y->In n (pX x y):=by
 induction n with
 | zero =>
  intro x y hx hy;rcases YG hx with a | a <;> rcases YG hy with b | b <;> (subst a;subst b;unfold In;decide)
 | succ n ih=>intro x y hx hy;rw [zde] at *;rw [(zc3 x y).1];exact ih _ _ hx hy
def xor_in (n:Nat):∀ x y:Int,In n x->In n y->In n (pP x y):=by
 induction n with
 | zero =>
  intro x y hx hy;rcases YG hx with a | a <;> rcases YG hy with b | b <;> (subst a;subst b;unfold In;decide)
 | succ n ih=>intro x y hx hy;rw [zde] at *;rw [(zaa x y).1];exact ih _ _ hx hy
end My
namespace L2
open PySem PySem.Spec PyProof.Rows
section
variable {σ₀:St}
end
end L2
namespace FM
open PySem L2
abbrev Kin (x:Int):Prop:=-9223372036854775808<=x/\x<=9223372036854775807
def kept (n:Int):Int:=(n+9223372036854775808) % (2*9223372036854775808)-9223372036854775808
def signs:Jb:=["+","-","*","/","rest","least","most","<","=","&","|","^"]
def doneR (sg:Str) (a b:Int):Option Int :=
 if sg="+" then Z (kept (a+b)) else if sg="-" then Z (kept (a-b)) else if sg="*" then Z (kept (a*b))
 else if sg="/" then (if b=0 then O else Z (kept (a.fdiv b))) else if sg="rest" then (if b=0 then O else Z (a.fmod b))
 else if sg="least" then Z (if b<a then b else a) else if sg="most" then Z (if b > a then b else a)
 else if sg="<" then Z (if a<b then 1 else 0) else if sg="=" then Z (if a=b then 1 else 0)
 else if sg="&" then Z (pQ a b) else if sg="|" then Z (pX a b) else Z (pP a b)
def edges:J6:=[-9223372036854775808,9223372036854775807,-1,4294967296,-9223372036854775807,3037000500]
def yo (c:Int):Int :=
 if c % 4=0 then c / 4 % 7-3 else if c % 4=1 then edges.getD (c / 4 % 6).toNat 0 else if c % 4=2 then c / 4*48271 % 2001-1000
 else c / 4*2862933555777941757 % 18446744073709551616-9223372036854775808
def edge_at:∀ k:Nat,k<6->(edges.map V.int)[k]?=Z (V.int (edges.getD k 0))/\Kin (edges.getD k 0):=by decide
def Z7 (c:Int):Kin (yo c):=by
 unfold yo
 split
 .omega
 .split
  .exact (edge_at _ (by omega)).2
  .split <;> omega
def bitDue (sg:Str) (a b:Int):Int:=if sg="&" then a*b else if sg="|" then (if b > a then b else a) else (a+b) % 2
def pw_pos (n:Nat):(0:Int)<2 ^ n:=by
 induction n with
 | zero=>decide
 | succ n ih=>rw [Int.pow_succ];omega
def fbit (x:Int) (n:Nat):x.fdiv (2 ^ n) % 2=x / 2 ^ n % 2:=by rw [Int.fdiv_eq_ediv_of_nonneg _ (Int.le_of_lt (pw_pos n))]
def in63 {x:Int}:Kin x↔My.In 63 x:=by
 unfold Kin My.In;have e:(2:Int) ^ 63=9223372036854775808:=by decide
 rw [e];omega
def bits_ok {sg:Str} (hs:sg="&"∨sg="|"∨sg="^") {a b:Int} (ha:Kin a) (hb:Kin b):∃ r,doneR sg a b=Z r/\Kin r/\∀ n:Nat,r.fdiv (2 ^ n) % 2=bitDue sg (a.fdiv (2 ^ n) % 2) (b.fdiv (2 ^ n) % 2):=by
 rcases hs with rfl | rfl | rfl
 .exact ⟨_,Y,in63.mpr (My.and_in 63 a b (in63.mp ha) (in63.mp hb)),λn=>by rw [fbit,fbit,fbit,My.and_bit];rfl⟩
 .refine ⟨_,Y,in63.mpr (My.or_in 63 a b (in63.mp ha) (in63.mp hb)),λn=>?_⟩
  rw [fbit,fbit,fbit,My.or_bit];show max _ _=if _ > _ then _ else _
  split <;> omega
 .exact ⟨_,Y,in63.mpr (My.xor_in 63 a b (in63.mp ha) (in63.mp hb)),λn=>by rw [fbit,fbit,fbit,My.xor_bit];rfl⟩
def X4 (n:Int):Kin (kept n):=by unfold kept;omega
def done_in {sg:Str} (hs:sg∈signs) {a b r:Int} (ha:Kin a) (hb:Kin b) (h:doneR sg a b=Z r):Kin r:=by
 simp only [signs,mM,ua,or_false] at hs
 have bit:(sg="&"∨sg="|"∨sg="^")->Kin r:=λz=>by
  obtain ⟨r',e,k,_⟩:=bits_ok z ha hb;rw [e] at h;cases h;exact k
 rcases hs with rfl | rfl | rfl | rfl | rfl | rfl | rfl | rfl | rfl | rfl | rfl | rfl
 .cases h;exact X4 _
 .cases h;exact X4 _
 .cases h;exact X4 _
 .have h':(if b=0 then O else Z (kept (a.fdiv b)))=Z r:=h
  split at h'
  .cases h'
  .cases h';exact X4 _
 .have h':(if b=0 then O else Z (a.fmod b))=Z r:=h
  split at h'
  .cases h'
  .rename_i z
   cases h';rcases (by omega:0<b∨b<0) with p | p
   .have h1:=Int.fmod_nonneg_of_pos a p
    have h2:=Int.fmod_lt_of_pos a p;omega
   .have h1:a.fmod b<=0:=by
     have e:=Int.neg_fmod_neg a b;have h3:=Int.fmod_nonneg_of_pos (-a) (show 0 < -b by omega);omega
    have h2:b<a.fmod b:=by
     have e:=Int.neg_fmod_neg a b;have h3:=Int.fmod_lt_of_pos (-a) (show 0 < -b by omega);omega
    omega
 .have h':Z (if b<a then b else a)=Z r:=h
  cases h';split <;> omega
 .have h':Z (if b > a then b else a)=Z r:=h
  cases h';split <;> omega
 .have h':Z (if a<b then (1:Int) else 0)=Z r:=h
  cases h';split <;> omega
 .have h':Z (if a=b then (1:Int) else 0)=Z r:=h
  cases h';split <;> omega
 .exact bit (.inl rfl)
 .exact bit (.inr (.inl rfl))
 .exact bit (.inr (.inr rfl))
inductive Res | ok (n:Int) | nought | outside
 deriving DecidableEq
structure SpotD where
 lens:J6
 cells:J6
 place:Int
 own:J6
structure Cs where
 num:Ad
 here:Ad
 cell:Ad
 shi:Ad
 loc:Ad
 at':Ad
 pair:Ad
 cho:Ad
 spot:Ad
def SpotD.start (S:SpotD) (r:Int):Int:=(S.lens.take r.toNat).sum
def SpotD.len (S:SpotD) (r:Int):Int:=S.lens.getD r.toNat 0
def SpotD.cellAt (S:SpotD) (r q:Int):Int:=S.cells.getD (S.start r+q).toNat 0
structure SpotOk (S:SpotD):Prop where
 ln:∀ v∈S.lens,0<=v
 tot:(S.cells.length:Int)=S.lens.sum
 ck:∀ v∈S.cells,Kin v
 ok':∀ v∈S.own,Kin v
 pl:Kin S.place
def SpotD.has (S:SpotD) (r:Int):Prop:=0<=r/\r.toNat<S.lens.length
def cell_in {S:SpotD} (o:SpotOk S) {r q:Int} (h:S.has r) (h0:0<=q) (h1:q<S.len r):0<=S.start r+q/\S.start r+q<S.cells.length/\Kin (S.cellAt r q):=by
 have m:=zdo o.ln r.toNat;have m2:=zdo o.ln (r.toNat+1);have e:=zbj h.2;have t:=o.tot;unfold SpotD.start SpotD.len at *;have a:0<=(S.lens.take r.toNat).sum+q:=by omega
 have b:(S.lens.take r.toNat).sum+q<S.cells.length:=by omega
 refine ⟨a,b,?_⟩;unfold SpotD.cellAt SpotD.start;exact o.ck _ (L2.getD_mem (by omega))
end FM
namespace L2
open PySem PySem.Spec PyProof.Rows
section
variable {σ:St} {s:Sh} {e:Ad} {cls:Vl}
end
section
variable {A:Around} {R:Result->Sh->Prop} {s:Sh}
end
section
variable {σ:St} {s s':Sh} {e C T:Ad}
end
section
variable {tg:Expr}
end
section
variable {C:Ad} {x:Str} {p pos:Pos}
end
end L2
namespace F2
open PySem L2
abbrev Kin:=FM.Kin
abbrev SpotD:=FM.SpotD
abbrev Res:=FM.Res
mutual
inductive Fm
 | num (n:Int) | here | cell (r:Int) | shi (r b o:Int) | loc (a:Int) | at' (r:Int) (p:Fm) | pair (sg:Str) (l r:Fm) | cho (t l r:Fm) | call (a:Int) (hs:Fms)
inductive Fms
 | nil | cons (f:Fm) (r:Fms)
end
instance:Inhabited Fm:=⟨.here⟩
def Fms.len:Fms->Nat
 | .nil=>0
 | .cons _ r=>r.len+1
structure Cs extends FM.Cs where
 call:Ad
mutual
def FormAt (c:Cs) (H:Hp):Fm->Ad->Prop
 | .num n,x=>∃ dx,H x=Z (.ins c.num dx [("number",.int n)])
 | .here,x=>∃ dx,H x=Z (.ins c.here dx [])
 | .cell r,x=>∃ dx,H x=Z (.ins c.cell dx [("row",.int r)])
 | .shi r b o,x=>∃ dx,H x=Z (.ins c.shi dx [("row",.int r),("by",.int b),("other",.int o)])
 | .loc a,x=>∃ dx,H x=Z (.ins c.loc dx [("at",.int a)])
 | .at' r p,x=>∃ dx y,H x=Z (.ins c.at' dx [("row",.int r),("place",.ref y)])/\FormAt c H p y
 | .pair sg l r,x=>∃ dx y z,H x=Z (.ins c.pair dx [("sign",.str sg),("left",.ref y),("right",.ref z)])/\FormAt c H l y/\FormAt c H r z
 | .cho t l r,x=>∃ dx u y z,H x=Z (.ins c.cho dx [("test",.ref u),("left",.ref y),("right",.ref z)])/\FormAt c H t u/\FormAt c H l y/\FormAt c H r z
 | .call a hs,x=>∃ dx l ys,H x=Z (.ins c.call dx [("at",.int a),("handed",.ref l)])/\H l=Z (.lst (ys.map V.ref))/\FormsAt c H hs ys
def FormsAt (c:Cs) (H:Hp):Fms->Jc->Prop
 | .nil,ys=>ys=[]
 | .cons f r,ys=>∃ y t,ys=y::t/\FormAt c H f y/\FormsAt c H r t
end
mutual
theorem FormAt.same {c:Cs} {H H':Hp} (s:Same H H'):∀ {F:Fm} {x:Ad},FormAt c H F x->FormAt c H' F x
 | .num _,_,h=>by obtain ⟨dx,h⟩:=h;exact ⟨dx,s _ _ h⟩
 | .here,_,h=>by obtain ⟨dx,h⟩:=h;exact ⟨dx,s _ _ h⟩
 | .cell _,_,h=>by obtain ⟨dx,h⟩:=h;exact ⟨dx,s _ _ h⟩
 | .shi _ _ _,_,h=>by obtain ⟨dx,h⟩:=h;exact ⟨dx,s _ _ h⟩
 | .loc _,_,h=>by obtain ⟨dx,h⟩:=h;exact ⟨dx,s _ _ h⟩
 | .at' _ _,_,h=>by obtain ⟨dx,y,h,p⟩:=h;exact ⟨dx,y,s _ _ h,FormAt.same s p⟩
 | .pair _ _ _,_,h=>by obtain ⟨dx,y,z,h,p,q⟩:=h;exact ⟨dx,y,z,s _ _ h,FormAt.same s p,FormAt.same s q⟩
 | .cho _ _ _,_,h=>by obtain ⟨dx,u,y,z,h,o,p,q⟩:=h;exact ⟨dx,u,y,z,s _ _ h,FormAt.same s o,FormAt.same s p,FormAt.same s q⟩
 | .call _ _,_,h=>by obtain ⟨dx,l,ys,h,e,p⟩:=h;exact ⟨dx,l,ys,s _ _ h,s _ _ e,FormsAt.same s p⟩
theorem FormsAt.same {c:Cs} {H H':Hp} (s:Same H H'):∀ {F:Fms} {ys:Jc},FormsAt c H F ys->FormsAt c H' F ys
 | .nil,_,h=>h
 | .cons _ _,_,h=>by obtain ⟨y,t,e,p,q⟩:=h;exact ⟨y,t,e,FormAt.same s p,FormsAt.same s q⟩
end
abbrev Fn:=Nat×Fm
def bodyOf (fs:List Fn) (a:Int):Fm:=(fs.getD a.toNat (0,.here)).2
def handsOf (fs:List Fn) (a:Int):Nat:=(fs.getD a.toNat (0,.here)).1
def sqt_same {K:Fg} {H H':Hp} {a:Ad} {xs:Jj} (h:SqT K H a xs) (s:Same H H'):SqT K H' a xs:=by
 rcases h with h | h
 .exact .inl (h.imp (λz=>s _ _ z) λ⟨o,z⟩=>⟨o,s _ _ z⟩)
 .exact .inr h
inductive RL | ok (l:J6) | bad (e:Res)
mutual
def ev (cl:Int->J6->Res) (S:SpotD):Fm->Res
 | .num n=>.ok n
 | .here=>.ok S.place
 | .cell r=>if S.len r=1 then .ok (S.cellAt r 0) else .ok (S.cellAt r S.place)
 | .shi r b o=>if 0<=S.place+b/\S.place+b<S.len r then .ok (S.cellAt r (S.place+b)) else .ok o
 | .loc a=>.ok (S.own.getD a.toNat 0)
 | .at' r p=>match ev cl S p with
  | .ok q=>if 0<=q/\q<S.len r then .ok (S.cellAt r q) else .outside
  | e=>e
 | .pair sg l r=>match ev cl S l with
  | .ok a=>(match ev cl S r with
   | .ok b=>(match FM.doneR sg a b with
    | some n=>.ok n
    | none=>.nought)
   | e=>e)
  | e=>e
 | .cho t l r=>match ev cl S t with
  | .ok a=>if a≠0 then ev cl S l else ev cl S r
  | e=>e
 | .call a hs=>match evs cl S hs with
  | .ok l=>cl a l
  | .bad e=>e
def evs (cl:Int->J6->Res) (S:SpotD):Fms->RL
 | .nil=>.ok []
 | .cons f r=>match ev cl S f with
  | .ok n=>(match evs cl S r with
   | .ok l=>.ok (n::l)
   | .bad e=>.bad e)
  | e=>.bad e
end
def callK (fs:List Fn) (S:SpotD):Nat->Int->J6->Res
 | 0,_,_=>.outside
 | k+1,a,l=>ev (callK fs S k) { S with own:=l } (bodyOf fs a)
abbrev worth (fs:List Fn) (k:Nat) (S:SpotD) (F:Fm):Res:=ev (callK fs S k) S F
mutual
def WF (fs:List Fn) (k:Nat) (S:SpotD):Fm->Prop
 | .num n=>Kin n
 | .here=>True
 | .cell r=>S.has r/\1<=S.len r/\(S.len r≠1->0<=S.place/\S.place<S.len r)
 | .shi r _ o=>S.has r/\Kin o
 | .loc a=>0<=a/\a.toNat<S.own.length
 | .at' r p=>S.has r/\WF fs k S p
 | .pair sg l r=>sg∈FM.signs/\WF fs k S l/\WF fs k S r
 | .cho t l r=>WF fs k S t/\WF fs k S l/\WF fs k S r
 | .call a hs=>0<=a/\a.toNat<k/\a.toNat<fs.length/\hs.len=handsOf fs a/\WFs fs k S hs
def WFs (fs:List Fn) (k:Nat) (S:SpotD):Fms->Prop
 | .nil=>True
 | .cons f r=>WF fs k S f/\WFs fs k S r
end
def Bodies (fs:List Fn):Prop:=∀ (a:Int) (S:SpotD) (l:J6),0<=a->a.toNat<fs.length->l.length=handsOf fs a->WF fs a.toNat { S with own:=l } (bodyOf fs a)
mutual
theorem WF.mono {fs:List Fn} {j k:Nat} {S:SpotD} (h:j<=k):∀ {F:Fm},WF fs j S F->WF fs k S F
 | .num _,w=>w
 | .here,w=>w
 | .cell _,w=>w
 | .shi _ _ _,w=>w
 | .loc _,w=>w
 | .at' _ _,w=>⟨w.1,WF.mono h w.2⟩
 | .pair _ _ _,w=>⟨w.1,WF.mono h w.2.1,WF.mono h w.2.2⟩
 | .cho _ _ _,w=>⟨WF.mono h w.1,WF.mono h w.2.1,WF.mono h w.2.2⟩
 | .call _ _,w=>⟨w.1,by have:=w.2.1;omega,w.2.2.1,w.2.2.2.1,WFs.mono h w.2.2.2.2⟩
theorem WFs.mono {fs:List Fn} {j k:Nat} {S:SpotD} (h:j<=k):∀ {F:Fms},WFs fs j S F->WFs fs k S F
 | .nil,_=>trivial
 | .cons _ _,w=>⟨WF.mono h w.1,WFs.mono h w.2⟩
end
theorem evs_bad {cl:Int->J6->Res} {S:SpotD} (n:Int):∀ {F:Fms},evs cl S F≠.bad (.ok n)
 | .nil=>λe=>by cases (show RL.ok []=RL.bad _ from e)
 | .cons f r=>λe=>by
  unfold evs at e
  split at e
  .split at e
   .cases e
   .rename_i e' z
    cases e;exact evs_bad n z
  .rename_i e' z
   injection e with e
   exact z n e
mutual
theorem ev_kin {fs:List Fn} {S:SpotD} (o:FM.SpotOk S) {k:Nat} {cl:Int->J6->Res} (hc:∀ a l n,0<=a->a.toNat<k->a.toNat<fs.length->l.length=handsOf fs a->(∀ v∈l,Kin v)->cl a l=.ok n->Kin n):∀ {F:Fm} {n:Int},WF fs k S F->ev cl S F=.ok n->Kin n
 | .num _,_,h,e=>by cases (show FM.Res.ok _=FM.Res.ok _ from e);exact h
 | .here,_,_,e=>by cases (show FM.Res.ok _=FM.Res.ok _ from e);exact o.pl
 | .cell r,n,h,e=>by
  unfold ev at e
  split at e
  .rename_i z;cases e;exact (FM.cell_in o h.1 (by omega) (by omega)).2.2
  .rename_i z;cases e;exact (FM.cell_in o h.1 (h.2.2 z).1 (h.2.2 z).2).2.2
 | .shi r b o',n,h,e=>by
  unfold ev at e
  split at e
  .rename_i z;cases e;exact (FM.cell_in o h.1 z.1 z.2).2.2
  .cases e;exact h.2
 | .loc a,n,h,e=>by cases (show FM.Res.ok _=FM.Res.ok _ from e);exact o.ok' _ (L2.getD_mem h.2)
 | .at' r p,n,h,e=>by
  unfold ev at e
  split at e
  .rename_i q hq
   split at e
   .rename_i z;cases e;exact (FM.cell_in o h.1 z.1 z.2).2.2
   .cases e
  .rename_i e' hq;exact absurd e (hq n)
 | .pair sg l r,n,h,e=>by
  unfold ev at e
  split at e
  .rename_i a ha
   split at e
   .rename_i b hb
    split at e
    .rename_i m hm;cases e;exact FM.done_in h.1 (ev_kin o hc h.2.1 ha) (ev_kin o hc h.2.2 hb) hm
    .cases e
   .rename_i e' hq;exact absurd e (hq n)
  .rename_i e' hq;exact absurd e (hq n)
 | .cho t l r,n,h,e=>by
  unfold ev at e
  split at e
  .split at e
   .exact ev_kin o hc h.2.1 e
   .exact ev_kin o hc h.2.2 e
  .rename_i e' hq;exact absurd e (hq n)
 | .call a hs,n,h,e=>by
  unfold ev at e
  split at e
  .rename_i l z
   obtain ⟨q1,q2⟩:=evs_kin o hc h.2.2.2.2 z;exact hc a l n h.1 h.2.1 h.2.2.1 (by rw [q1];exact h.2.2.2.1) q2 e
  .rename_i e' z
   cases e'
   .exact absurd z (evs_bad _)
   .cases e
   .cases e
theorem evs_kin {fs:List Fn} {S:SpotD} (o:FM.SpotOk S) {k:Nat} {cl:Int->J6->Res} (hc:∀ a l n,0<=a->a.toNat<k->a.toNat<fs.length->l.length=handsOf fs a->(∀ v∈l,Kin v)->cl a l=.ok n->Kin n):∀ {F:Fms} {l:J6},WFs fs k S F->evs cl S F=.ok l->l.length=F.len/\∀ v∈l,Kin v
 | .nil,l,_,e=>by cases (show RL.ok []=RL.ok l from e);exact ⟨Y,λv hv=>nomatch hv⟩
 | .cons f r,l,h,e=>by
  unfold evs at e
  split at e
  .rename_i n hn
   split at e
   .rename_i l' z
    cases e;obtain ⟨q1,q2⟩:=evs_kin o hc h.2 z;refine ⟨by show l'.length+1=r.len+1;rw [q1],λv hv=>?_⟩;rcases mM.mp hv with rfl | hv
    .exact ev_kin o hc h.1 hn
    .exact q2 v hv
   .cases e
  .cases e
end
abbrev SpotOk:=FM.SpotOk
def SpotOk.hand {S:SpotD} (o:FM.SpotOk S) {l:J6} (h:∀ v∈l,Kin v):FM.SpotOk { S with own:=l }:=⟨o.ln,o.tot,o.ck,h,o.pl⟩
theorem call_kin {fs:List Fn} (hb:Bodies fs) {S:SpotD} (o:FM.SpotOk S):∀ (k:Nat) (a:Int) (l:J6) (n:Int),0<=a->a.toNat<k->a.toNat<fs.length->l.length=handsOf fs a->(∀ v∈l,Kin v)->callK fs S k a l=.ok n->Kin n
 | 0,_,_,_,_,h,_,_,_,_=>absurd h (Nat.not_lt_zero _)
 | k+1,a,l,n,h0,h1,h2,h3,h4,e=>by
  have e:ev (callK fs S k) { S with own:=l } (bodyOf fs a)=.ok n:=e;exact ev_kin (fs:=fs) (k:=k) (SpotOk.hand o h4) (λa l n x0 x1 x2 x3 x4 x5=>call_kin hb o k a l n x0 x1 x2 x3 x4 x5) (WF.mono (by omega) (hb a S l h0 h2 h3)) e
def worth_kin {fs:List Fn} (hb:Bodies fs) {S:SpotD} (o:FM.SpotOk S) {k:Nat} {F:Fm} {n:Int} (w:WF fs k S F) (e:worth fs k S F=.ok n):Kin n:=ev_kin (fs:=fs) (k:=k) o (λa l n x0 x1 x2 x3 x4 x5=>call_kin hb o k a l n x0 x1 x2 x3 x4 x5) w e
end F2
namespace L2
open PySem PySem.Spec PyProof.Rows
structure FunD (K:Fg) (x mt:Str) (st:Stmt) (f:Ad) (fd:og) (ds:Array Vl):Prop where
 ex:∃ (oc:Vl) (od:Option Ad) (kV doc pm:Vl) (an:Option Ad) (mx ct:Vl) (osl:Array (Ja)) (T:Ad) (o:Obj) (n:Nat),
  fd=o4 x mt (yj st) (zS st) (ze st) (.ref T) kV doc pm an mx ct/\K.lookup f=Z ⟨oc,od,.func fd,osl⟩/\oX K mx mt=true/\K.lookup T=Z o/\o.data=.seq ds n
 kp:mR K (.ref f)=true
section
variable {K:Fg} {base:Heap}
def FunD.okE {x mt:Str} {st:Stmt} {f:Ad} {fd:og} {ds:Array Vl} {N ps:Jb} {k:Nat} {sp:Sp} (F:FunD K x mt st f fd ds) (S:FnScope N ps (ze st)) (len:∀ vs H Q E,sp vs H Q E->vs.length=ps.length)
  (hbody:∀ (mx:Vl) (A:Around) (outer:List Env) (s:Sh) (H:Hp) (vs:Jj) (Q:VK) (E:XK),Room k (A.deeper (envOfC mt (ze st) s.heap.objs.size f mx))->sp vs H Q E ->
   ∃ t,PSs (yh (CXe P w base) P w K mg base N mt (ze st) f mx A outer s H E) (zS st) t/\t { nx:=λ_ H'=>Q .non H',rt:=Q } (start N vs) H):FnOk P w K mg base (CXe P w base) (k+1) f fd ps sp:=by
 obtain ⟨oc,od,kV,doc,pm,an,mx,ct,osl,T,o,n,rfl,lk,hcd,_,_⟩:=F.ex;exact fn_of lk hcd S len λA outer s H vs Q E hr hsp=>hbody mx A outer s H vs Q E hr hsp
def FunD.binds {x mt:Str} {st:Stmt} {f:Ad} {fd:og} {ds:Array Vl} {ps:Jb} {ds2:J8} (F:FunD K x mt st f fd ds)
  (h:∀ (T:Ad) (kV doc pm:Vl) (an:Option Ad) (mx ct:Vl) (us:J8),(us++ds2).length=ps.length->∃ k:Option (Array Vl)->Sem (List (Str×Vl)),bindArgs (o4 x mt (yj st) (zS st) (ze st) (.ref T) kV doc pm an mx ct) ⟨us,[]⟩=seqItems? (.ref T) >>= k/\k (Z ds)=pure (ps.zip (us++ds2))):Binds K fd ps ds2:=by
 obtain ⟨oc,od,kV,doc,pm,an,mx,ct,osl,T,o,n,rfl,lk,hcd,lT,eT⟩:=F.ex;intro s us KX hl;obtain ⟨k,h1,h2⟩:=h T kV doc pm an mx ct us hl;exact BindsTo.of_defaults rfl (KX _ _ lT) eT h1 h2
def YH {x mt:Str} {st:Stmt} {f T:Ad} {oc ocT:Vl} {od an odT:Option Ad} {osl oslT:Array (Ja)} {kV doc pm mx ct:Vl} {ds:Array Vl} {n:Nat} (l:K.lookup f=Z ⟨oc,od,.func (o4 x mt (yj st) (zS st) (ze st) (.ref T) kV doc pm an mx ct),osl⟩)
  (c:oX K mx mt=true) (k:mR K (.ref f)=true) (lT:K.lookup T=Z ⟨ocT,odT,.seq ds n,oslT⟩):FunD K x mt st f (o4 x mt (yj st) (zS st) (ze st) (.ref T) kV doc pm an mx ct) ds:=⟨⟨oc,od,kV,doc,pm,an,mx,ct,osl,T,_,n,Y,l,c,lT,Y⟩,k⟩
def InitN (K:Fg) (C:Ad) (mt:Str) (st:Stmt) (ps:Jb):Prop:=∃ (f:Ad) (fd:og),Mk K C f/\FunD K "__init__" mt st f fd #[.none]/\Binds K fd ps []/\Binds K fd ps [.none]
def OkN (P:nQ) (w:World) (K:Fg) (mg:J0) (base:Heap) (CX:CXT) (k:Nat) (C:Ad) (ps:Jb) (sp:Sp):Prop :=
 ∃ (f:Ad) (fd:og),Mk K C f/\Binds K fd ps []/\Binds K fd ps [.none]/\FnOk P w K mg base CX k f fd ps sp
end
section
variable {CX:CXT} {k:Nat} {C:Ad} {ps:Jb} {sp:Sp} {E:XK} {x m:Str} {p pos apos:Pos} {e o:Expr} {es:Jd} {ta:TE} {t:TA}
def OkN.all {P:nQ} {w:World} {K:Fg} {mg:J0} {base:Heap} (h:OkN P w K mg base CX k C ps sp):OkI P w K mg base CX k C ps sp:=by
 obtain ⟨f,fd,a,b,_,d⟩:=h;exact ⟨f,fd,a,b,d⟩
def pe_okN (h:OkN X.prog X.w X.K X.mg X.base CX k C ps sp) (hm:X.mg x=Z (.ref C)) (hr:Room (k+1) X.A) (hg:Gl X x) (hx:xf CX X E) (ha:PA X (e::es) t) (hdb:(x == ("__debug__":Str))=false:=by decide)
  (he:mO (e::es) X.env=(false,eval e X.env)::mO es X.env:=by rfl) (hpl:(backTo pos (mO es X.env)).any (·.1)=false:=by rfl):PE X (.Call (.Name x p) (e::es) [] pos) (tMake C sp [.non] E t):=by
 obtain ⟨f,fd,a,_,b,d⟩:=h;exact pe_make a d hr hg hm b (.cons rfl .nil) hx ha hdb he hpl
end
def ps1_ret {X:Cx} {σ₀:St} {e:Expr} {te:TE} {pos:Pos} (he:PE1 X σ₀ e te):PS1 X σ₀ (.Return (Z e) pos) (tRet te):=by
 intro mn s H D I h;exact wpAny_Return_some (thn (he mn s H _ I h) λv s1 ⟨x,H1,I1,r1,q1⟩=>⟨x,σ₀,H1,I1,r1,q1⟩)
end L2
namespace L2
open PySem
namespace Hd
variable {B:Hp} {L:Ji} {J:Hp} {a b:Ad} {o o':HO}
def grow (h:Hd B L H) (n:H a=O):Hd (upd B a o) L (upd H a o):=by
 refine ⟨h.nd,λp q=>?_,λp q=>?_,λb u z=>?_⟩
 .rw [zj (zr (h.st p q) n)];exact h.nw p q
 .rw [zj (zr (h.st p q) n)];exact h.st p q
 .by_cases e:b=a
  .subst e;rw [zh] at z ⊢;exact z
  .rw [zj e] at z ⊢;exact h.sm _ _ z
def settle (m:Hd B ((a,o)::L) H):Hd (upd B a o) L H:=by
 have h:=m.tl;have na:a ∉ L.map pD:=(pj.mp m.nd).1;refine ⟨h.nd,λp q=>?_,h.st,λb u z=>?_⟩
 .rw [zj (λe=>na (by rw [← e];exact List.mem_map_of_mem q))];exact h.nw p q
 .by_cases e:b=a
  .subst e;rw [zh] at z;cases z;exact m.get 0 rfl
  .rw [zj e] at z;exact m.sm _ _ z
def settled (m:Hd B ((a,o)::L) H):Same B (upd B a o):=zu (Same.refl _) (m.nw (a,o) (q6z ..))
def waste (h:Hd B L H) (n:H a=O):Hd B L (upd H a o):=h.same (zu (Same.refl _) n)
def fnew {p:Ad×HO} (h:Hd B (p::L) H) (n:H a=O):Hd B (p::(a,o)::L) (upd H a o):=(h.new n).perm (List.Perm.swap _ _ _)
def fput (h:Hd B ((a,o)::L) H):Hd B ((a,o')::L) (upd H a o'):=h.put 0 rfl
end Hd
namespace Hd
variable {B:Hp} {L L2:Ji} {J:Hp} {a b:Ad} {o o':HO}
def join (m:Hd B L H) (h:Hd H L2 J):Hd B (L++L2) J:=by
 refine ⟨?_,λp q=>?_,λp q=>?_,λb u z=>h.sm _ _ (m.sm _ _ z)⟩
 .rw [Jg]
  refine List.nodup_append.mpr ⟨m.nd,h.nd,λx hx y hy e=>?_⟩;obtain ⟨p,hp,rfl⟩:=o9.mp hx;obtain ⟨q,hq,rfl⟩:=o9.mp hy;have:=m.st p hp;rw [e,h.nw q hq] at this;cases this
 .rcases oO.mp q with q | q
  .exact m.nw p q
  .exact m.free (h.nw p q)
 .rcases oO.mp q with q | q
  .exact h.sm _ _ (m.st p q)
  .exact h.st p q
def settles {S:Ji}:∀ {B:Hp},Hd B (S++L) H->∃ B',Same B B'/\(∀ p∈S,B' p.1=Z p.2)/\Hd B' L H:=by
 induction S with
 | nil=>exact λ{B} h=>⟨B,Same.refl _,(λp m=>by cases m),h⟩
 | cons p S ih =>
  intro B h;obtain ⟨a,o⟩:=p;obtain ⟨B',s,e,h'⟩:=ih (Hd.settle h);refine ⟨B',(Hd.settled h).trans s,λp m=>?_,h'⟩;rcases mM.mp m with rfl | m
  .exact s _ _ zh
  .exact e p m
end Hd
end L2
namespace L2
open PySem PySem.Spec PyProof.Rows
open Sem (wp)
section
variable {A:Around} {E:J5} {s:Sh}
end
section
variable {es:Jd} {kt:Nat} {tp:Pos}
end
end L2
namespace L2
open PySem
def zcz {X:Cx} {K:Fg} {es:Jd} {k:Nat} {t:TGs} {n:Nat} {pos:Pos} (e:X.K=K) (hc:X.calm=true) (h:PGs X es t) (hn:(tL es X.env).length=n:=by rfl) (hst:(tL es X.env).findIdx? (·.1)=O:=by rfl):PG X (.Tuple es k pos) (gTup K n t):=e ▸ pg_tup hc h hn hst
def compF_zip {K:Fg} {l1 l2 D:Ad} {xs ys:Jj} {g:TG} {tt:TT} {te:TE} {σY:St} {H1:Hp} {Q:VK} (Pv:Nat->St->Hp->Prop) (h0:Pv 0 σY H1) (hl:∀ i σ H,i<=xs.length->Pv i σ H->SqL K H l1 xs/\SqL K H l2 ys) (he:ys.length=xs.length)
  (hs:∀ i x y σ H T,xs[i]?=Z x->ys[i]?=Z y->Pv i σ H->H T=O->g (.ref T) σ (upd H T (.tup [x,y])) λσ3 H3=>tt σ3 H3 λb H4=>if b=true then te σ3 H4 λv H5=>∃ zs,H5 D=Z (.lst zs)/\zs.length<mI/\Pv (i+1) σ3 (upd H5 D (.lst (zs++[v]))) else Pv (i+1) σ3 H4) (hd:∀ σ H,Pv xs.length σ H->Q (.ref D) H) :
  CompWF (Itz K l1 l2) g tt te σY H1 D Q:=by
 refine ⟨λi m σ H=>m=xs.length-i/\i<=xs.length/\Pv i σ H,⟨xs.length,by simp,nK _,h0⟩,?_⟩;rintro i m σ H ⟨rfl,hi,p⟩;obtain ⟨q1,q2⟩:=hl i σ H hi p;by_cases hlt:i<xs.length
 .refine .inr ⟨zip_go (tp:=false) q1 q2 hlt he,Pv (i+1),λσ' H' p'=>⟨xs.length-(i+1),by omega,Y,hlt,p'⟩,λx H' y=>?_⟩
  obtain ⟨T,u,v,e,nT,e',y1,y2⟩:=zip_two (tp:=false) q1 q2 y;subst e e';exact hs i u v σ H T y1 y2 p nT
 .have e:i=xs.length:=by omega
  subst e;exact .inl ⟨⟨l1,_,xs,Y,q1,m8 _⟩,hd σ H p⟩
end L2
namespace L2
open PySem PySem.Spec PyProof.Rows
section
variable {σ σ':St} {s s':Sh} {a:Ad} {mo:Jh}
def Inv.hideD (I:Inv X mn σ H s) (e:H a=Z (.dK mo)):∃ (ob:Obj) (es:Array DictEntry) (ep:Nat) (vs:List (Key×Vl)),KV mo vs/\(ob.ExactDict/\ob.data=.dict es ep/\PySem.KeysOf (zK X.prog X.w) es/\PySem.Pairs (zK X.prog X.w) es.toList vs/\(vs.map (λx=>x.fst)).Nodup)/\s.heap.get? a=Z ob/\(a == oU)=false/\mo.length<=mI/\Inv X ((a,ob)::mn) σ (but H [a]) s:=by
 obtain ⟨hz,hS,vs,r,ob,es,ep,ea,c1,c2,c3⟩:=I.hok a _ e
 have ne:∀ {b:Ad} {o:HO},H b=Z o->o≠.dK mo->b ∉ [a]:=λ{b o} z y m=>by
  cases mV.mp m;rw [e] at z;injection z with z;exact y z.symm
 have nn:∀ {b:Ad},H b=O->but H [a] b=O:=λ{b} z=>by
  unfold but;split
  .rfl
  .exact z
 refine ⟨ob,es,ep,vs,r,⟨c1,c2,c3⟩,ea,hS,hz,I.ok,I.os,I.bare,⟨I.base.keep,I.base.slot,λb o q m x=>nn (I.base.free b o q m x),I.base.there,λb ys q=>XI (I.base.tups b ys q) (ne (I.base.tups b ys q) (λz=>by cases z)),λb o u q=>XI (I.base.frzs b o u q) (ne (I.base.frzs b o u q) (λz=>by cases z)),λb ps q=>let ⟨more,z⟩:=I.base.tbls b ps q;⟨more,XI z (ne z (λz=>by cases z))⟩⟩,I.loc,I.cell,nn I.free,λx c q=>nn (I.freeC x c q),λp m=>?_,λb u q=>?_,I.len⟩
 .rcases oO.mp m with m | m
  .have q:=I.pin p (pE _ m)
   exact ⟨q.1,nn q.2.1,q.2.2⟩
  .rcases mM.mp m with rfl | m
   .refine ⟨ea,zez (tV a),λz=>?_,λz=>?_,λv z=>by rw [c2] at z;cases z⟩
    .have:=I.free
     rw [← z] at this;have e':H a=Z (.dK mo):=e;rw [e'] at this;cases this
    .obtain ⟨_,o,q,_⟩:=I.ok.funs.mem z
     have:=I.base.free a o q (I.ok.frf a z) (λy=>I.ok.exfs a y z);rw [e] at this;cases this
   .have q:=I.pin p (q7y _ m)
    exact ⟨q.1,nn q.2.1,q.2.2⟩
 .obtain ⟨nb,q⟩:=but_inv q
  exact (I.hok b u q).stay (λ_ _ _ z=>z) (λc z=>XI z (ne z (λy=>by cases y))) (λc ys z=>XI z (ne z (λy=>by cases y)))
def Inv.backD {ob:Obj} {es:Array DictEntry} {ep:Nat} {vs:List (Key×Vl)} (I:Inv X mn σ H s) (e:H a=Z (.dK mo)) (r:KV mo vs) (c:ob.ExactDict/\ob.data=.dict es ep/\PySem.KeysOf (zK X.prog X.w) es/\PySem.Pairs (zK X.prog X.w) es.toList vs/\(vs.map (λx=>x.fst)).Nodup) (hS:(a == oU)=false) (hz:mo.length<=mI) (J:Inv X ((a,ob)::mn) σ' H' s'):H' a=O/\Inv X mn σ' (upd H' a (.dK mo)) s':=by
 have ea:=J.pin (a,ob) (q7y _ q6z);have na:∀ {b:Ad},H b=O->b≠a:=λ{b} z y=>by subst y;rw [e] at z;cases z
 have st:∀ {b:Ad} {o:HO},H' b=Z o->upd H' a (.dK mo) b=Z o:=λ{b o} z=>by rw [zj (zr z ea.2.1)];exact z
 refine ⟨ea.2.1,J.ok,J.os,J.bare,⟨J.base.keep,J.base.slot,λb o q m x=>?_,J.base.there,λb ys q=>st (J.base.tups b ys q),λb o u q=>st (J.base.frzs b o u q),λb ps q=>let ⟨more,z⟩:=J.base.tbls b ps q;⟨more,st z⟩⟩,J.loc,J.cell,?_,λx c q=>?_,λp m=>?_,λb u q=>?_,J.len⟩
 .rw [zj (na (I.base.free b o q m x))];exact J.base.free b o q m x
 .rw [zj (na I.free)];exact J.free
 .rw [zj (na (I.freeC x c q))];exact J.freeC x c q
 .have q:=J.pin p (by
   rcases oO.mp m with m | m
   .exact pE _ m
   .exact q7y _ (q6y _ m))
  exact ⟨q.1,by rw [zj (na (I.pin p m).2.1)];exact q.2.1,q.2.2⟩
 .by_cases hb:b=a
  .subst hb
   rw [zh] at q;cases q;exact ⟨hz,hS,vs,r,ob,es,ep,ea.1,c⟩
  .rw [zj hb] at q
   exact (J.hok b u q).stay (λ_ _ _ z=>z) (λc z=>st z) (λc ys z=>st z)
end
def kV_rel {P:nQ} {w:World} {k:Key} {u:Vl} (h:(zK P w).is k u=true):RelV (kV k) u:=by
 rcases yl h with ⟨i,t,rfl,rfl⟩ | ⟨x,t,rfl,rfl⟩
 .exact ⟨t,Y⟩
 .exact ⟨t,Y⟩
def Itk (mo:Jh):It:=⟨λi _=>i<mo.length,λi H x H'=>H'=H/\∃ p,mo[i]?=Z p/\x=kV p.1,λi _=>mo.length<=i⟩
inductive tCompD_S (g:TG) (tt:TT) (te:TE) (σ0:St->Hp->St->Prop) (σ:St) (Q:VK) (x:V) (H1:Hp):Prop
 | mk (d mo:_) (_:x=.ref d) (_:H1 d=Z (.dK mo)) (σY:_) (_:σ0 σ (but H1 [d]) σY) (_:∀ D,but H1 [d] D=O->D≠d->CompWF (Itk mo) g tt te σY (upd (but H1 [d]) D (.lst [])) D λv H'=>H' d=O->Q v (upd H' d (.dK mo)))
def tCompD (td:TE) (g:TG) (tt:TT) (te:TE) (σ0:St->Hp->St->Prop):TE:=λσ H Q=>td σ H λx H1=>tCompD_S g tt te σ0 σ Q x H1
section
variable {tg:Expr}
def zfu {iter elt:Expr} {ifs:Jd} {mC:Scope} {pos pos':Pos} {cl:List (Str×Ad)} {NY:Jb} {td:TE} {g:TG} {tt:TT} {te:TE} {σ0:St->Hp->St->Prop} (hc:X.calm=true) (S:Sees X mC cl) (hi:PE X iter td)
  (hY:∀ (s3:Sh) (H3:Hp) (fp:Jc),PG (X.comp mC cl NY s3 H3 fp) tg g/\Ifs (X.comp mC cl NY s3 H3 fp) ifs tt/\PE (X.comp mC cl NY s3 H3 fp) elt te)
  (h0:∀ (mn:J7) (σ:St) (H:Hp) (s3:Sh) (σY:St),Inv X mn σ H s3->σ0 σ H σY->σY.length=NY.length/\∀ (i:Nat) (x:Str) (v:V),NY[i]?=Z x->σY[i]?=Z (Z v) ->
   ∃ c u,(((oS mC cl 0 X.env).kindOf x=Z .cell∨(oS mC cl 0 X.env).kindOf x=Z .free))/\cl.lookup x=Z c/\RelV v u/\s3.heap.IsCell c (Z u))
  (hs:∀ x,oH iter X.env x=pure x) {use:Option (Vl->Sem Unit)} {R:J5} {mn:J7} {s:Sh} {σ:St} {H:Hp} {Q:VK} (I:Inv X mn σ H s) (h:tCompD td g tt te σ0 σ H Q)
  (fin:∀ (C D:Ad) (H5:Hp) (s6:Sh),CompEnd X mn σ H5 s6 C->Q (.ref D) H5->compPost (model X.prog X.w) X.A X.xe use R (.ref D) C (.ok .next) s6) :
  wpAny (model X.prog X.w) X.A (comprehension (.ListComp elt [⟨tg,iter,ifs,0⟩] mC pos) mC X.env pos' (newList []) (firstAsync [⟨tg,iter,ifs,0⟩]) (firstIter [⟨tg,iter,ifs,0⟩] X.env) use) R X.xe s:=by
 refine wpAny_comprehension_free rfl hs S.clos S.kind S.names (thn (hi mn s σ H _ I h) λv s1 h1=>?_);obtain ⟨x,H1,I1,r1,d,mo,ex,ed,σY,hσ,hW⟩:=h1;subst ex;cases r1;obtain ⟨ob,es,ep,vs,rk,cc,eob,hS,hz,J1⟩:=I1.hideD ed;have lk:mo.length=vs.length:=rk.length;have DA:∀ {h:Heap},h.get? d=Z ob->Heap.DictAt (zK X.prog X.w) h d vs ep:=λ{h} q=>⟨ob,es,q,cc⟩;refine wpAny_pyIter_dict hS (DA eob) ?_;generalize hH2:but H1 [d]=H2 at *;have nd2:H2 d=O:=by rw [← hH2];exact zez (tV d)
 let it:Ad:=s1.heap.objs.size;generalize hs2:({ s1 with heap:=s1.heap.push { cls:=.type "dict_keyiterator",data:=.fields #[.ref d,.int 0 0,.int (vs.length:Nat) 0,.int (ep:Nat) 0] } }:Sh)=s2;have k12:∀ b o,s1.heap.get? b=Z o->s2.heap.get? b=Z o:=λb o q=>by rw [← hs2];exact mD _ q
 have I2:Inv X ((d,ob)::mn) σ H2 s2:=by rw [← hs2];exact J1.kept (t':=s1.toks) λb o e=>mD _ e
 let fp:Jc:=[it];let tn:Nat->Heap->Prop:=λi h=>h.IsKeyIter it d i vs.length ep;have st2:tn 0 s2.heap:=by rw [← hs2];exact ⟨_,mX _ rfl,Y,Y⟩
 have f2:∀ b∈fp,Yx X ((d,ob)::mn) H2 b:=λb hb=>by
  have e:b=it:=mV.mp hb;subst e;exact J1.fpOk (m8 _) (J1.hok.fresh (m8 _))
 have Tobj:∀ i h,tn i h->∀ b∈fp,∃ o,h.get? b=Z o/\∀ v,o.data≠.cell v:=λi h st b hb=>by
  have e:b=it:=mV.mp hb;subst e;obtain ⟨o,e,c,d⟩:=st;exact ⟨o,e,λv z=>by rw [d] at z;cases z⟩
 have Tkeep:∀ i h h',tn i h->(∀ b∈fp,∀ o,h.get? b=Z o->h'.get? b=Z o)->tn i h':=λi h h' st k=>st.at λo e=>k it (mV.mpr rfl) o e;refine wpAny_newObj_type ?_;have I3:Inv X ((d,ob)::mn) σ (upd H2 s2.heap.objs.size (.lst [])) (pz s2):=I2.lnew (t':=s2.toks) (its:=[]) .nil (nK _);have eob2:s2.heap.get? d=Z ob:=k12 _ _ eob;have dlt:d≠s2.heap.objs.size:=nh (mH eob2);obtain ⟨W,⟨m0,w0⟩,turn⟩:=hW s2.heap.objs.size (I2.hok.fresh (m8 _)) (oQ dlt);have ob2:=Tobj _ _ st2
 have hfp:∀ b∈fp,Yx X ((d,ob)::mn) (upd H2 s2.heap.objs.size (.lst [])) b:=λb hb=>by
  obtain ⟨o,q,_⟩:=ob2 b hb;exact ⟨by rw [zj (nh (mH q))];exact (f2 b hb).1,(f2 b hb).2⟩
 have hob:∀ b∈fp,∃ o,(s2.heap.push Lz).get? b=Z o:=λb hb=>by
  obtain ⟨o,q,_⟩:=ob2 b hb;exact ⟨o,mD _ q⟩
 refine wpAny_newFunctionEnv S.nocell (λy hy=>absurd hy (by simp)) (λh1 hn1 hs1=>?_) S.kind;obtain ⟨hl,hY0⟩:=h0 _ σ H2 s2 σY I2 hσ;have k23:∀ b o,s2.heap.get? b=Z o->(s2.heap.push Lz).get? b=Z o:=λb o q=>mD _ q;have k34:∀ b o,(s2.heap.push Lz).get? b=Z o->h1.get? b=Z o:=λb o q=>(hs1.2 b (nh (mH q))).trans (mD _ q)
 have I4:=zet (mC:=mC) (cl:=cl) (NY:=NY) (fp:=fp) (h1:=h1) (t:=s2.toks) (σY:=σY) I3 S hfp hob hn1 k34 hl λi x v e1 e2=>by
  obtain ⟨c,u,k,q,r,o,z1,z2⟩:=hY0 i x v e1 e2;exact ⟨c,u,k,q,r,o,k23 _ _ z1,z2⟩
 have st4:tn 0 h1:=Tkeep _ _ _ st2 λb hb o q=>k34 _ _ (k23 _ _ q);have fr4:∀ b∈fp,(upd H2 s2.heap.objs.size (.lst [])) b=O:=λb hb=>(hfp b hb).1;obtain ⟨hg,ht,he⟩:=hY (pz s2) (upd H2 s2.heap.objs.size (.lst [])) fp;have okY:=I4.ok
 have statY:∀ {H':Hp},(∀ b∈fp,H' b=O)->∀ b∈fp,Yx (Xz X mC cl NY s2 H2 fp) [] H' b :=
  λhn b hb=>⟨hn b hb,(okY.exf b hb).1,okY.exfs b hb,.inl hb,(okY.exf b hb).2,λp hp=>absurd hp (by simp)⟩
 have pinD:=I3.pin (d,ob) (q7y _ q6z)
 have dfs:d ∉ (Xz X mC cl NY s2 H2 fp).fs:=λz=>by
  rcases mM.mp (I3.stkSub d z) with y | y
  .exact pinD.2.2.1 y
  .exact pinD.2.2.2.1 y
 have dex:d ∉ fp:=λz=>by
  have e:d=it:=mV.mp z;exact absurd (mH eob) (by rw [e];exact p6 _)
 have stay:∀ {pp:J7} {σ':St} {H':Hp} {s':Sh},Inv (Xz X mC cl NY s2 H2 fp) pp σ' H' s'->s'.heap.get? d=Z ob:=λI' =>
  I'.base.keep d ob (k23 _ _ eob2) (show upd H2 s2.heap.objs.size (.lst []) d=O by rw [zj dlt];exact nd2) dfs dex
 have loop:tP (model X.prog X.w) X.A (.compLoop (.ListComp elt [⟨tg,iter,ifs,0⟩] mC pos) 0 (.ref it) (.ref s2.heap.objs.size) (oS mC cl (s2.heap.push Lz).objs.size X.env))
   (compPost (model X.prog X.w) X.A X.xe use R (.ref s2.heap.objs.size) (s2.heap.push Lz).objs.size) { s2 with heap:=h1,toks:=s2.toks }:=by
  refine zbc ht.len (λn s'=>∃ i σ' H',Inv (Xz X mC cl NY s2 H2 fp) [] σ' H' s'/\tn i s'.heap/\(∀ b∈fp,H' b=O)/\W i n σ' H') ?_ m0 ⟨0,σY,_,I4,st4,fr4,w0⟩;rintro n s5 ⟨i,σ5,H5,I5,st5,fr5,w5⟩;obtain ⟨g0,g1,g2,g3,g4,g5⟩:=statY fr5 it (mV.mpr rfl);rcases turn i n σ5 H5 w5 with ⟨stop,q⟩ | ⟨go,N,hN,step⟩
  .have stop:mo.length<=i:=stop
   refine wpAny_pyNext_dict_end (I5.ok.hd hc) st5 (DA (stay I5)) (sE (by omega)) λh' eb=>?_;have I6:Inv (Xz X mC cl NY s2 H2 fp) [] σ5 H5 { s5 with heap:=h' }:=I5.turned (t':=s5.toks) (λb o hb e=>eb b o hb e) g0 g1 g3 g4 g5;obtain ⟨m,hm,_⟩:=I6.loc;have back:=λ(h2:Heap) (hs':pL (s2.heap.push Lz).objs.size h' h2)=>I1.backD ed rk cc hS hz (zb9 I3 hfp I6 hs');have nd5:=(back h' ⟨Y,λ_ _=>rfl⟩).1;have dC:(s2.heap.push Lz).objs.size≠d:=oQ (nh (mH (k23 _ _ eob2)));refine fin _ _ (upd H5 d (.dK mo)) _ ⟨⟨m,hm⟩,by rw [zj dC];exact I6.free,oQ (nh I3.lt),I3.sz,λx c z=>?_,λp hp=>?_,λh2 hs'=>(back h2 hs').2⟩ (q nd5)
   .obtain ⟨_,o,z1,_⟩:=I3.cell x c z
    exact nh (mH z1)
   .exact nh (mH (I3.pin p (by
     rcases oO.mp hp with hp | hp
     .exact pE _ hp
     .exact q7y _ (q6y _ hp))).1)
  .have go:i<mo.length:=go
   obtain ⟨pv,hpv⟩:∃ p,vs[i]?=Z p:=⟨vs[i]'(by omega),m6 _⟩;obtain ⟨pk',hpk⟩:∃ p,mo[i]?=Z p:=⟨mo[i],m6 go⟩
   have ek:pk'.1=pv.1:=by
    have:=rk.keys;have e1:(mo.map (·.1))[i]?=Z pk'.1:=by rw [mJ,hpk];rfl
    rw [this,mJ,hpv] at e1;exact (nR e1).symm
   refine wpAny_pyNext_dict_item st5 (DA (stay I5)) (k:=pv.1) (v:=pv.2) hpv λkey h' hkey st' sb=>?_;have I6:Inv (Xz X mC cl NY s2 H2 fp) [] σ5 H5 { s5 with heap:=h' }:=I5.turned (t':=s5.toks) (λb o hb e=>(sb.2 b hb).trans e) g0 g1 g3 g4 g5;obtain ⟨oi,ei,ci,di⟩:=id st'
   have rkey:RelV (kV pk'.1) key:=by
    rw [ek];exact kV_rel hkey
   show wpAny (model X.prog X.w) X.A (rD tg (.ref it) key) _ _ { s5 with heap:=h' };refine go_of (s:={ s5 with heap:=h' }) ei ci di (by decide) ?_;have I7':=I6.pinned (statY fr5) (Tobj _ _ st');refine thn (hg _ _ σ5 H5 (kV pk'.1) key _ I7' rkey (step (kV pk'.1) H5 ⟨Y,pk',hpk,Y⟩)) λ_ s8 ⟨σ8,H8,I8,q8⟩=>?_
   have pk:∀ {H':Hp} {s':Sh} {σ':St},Inv (Xz X mC cl NY s2 H2 fp) ([]++Xy fp h') σ' H' s'->tn (i+1) s'.heap/\∀ b∈fp,H' b=O:=λI'=>by
    refine ⟨Tkeep _ _ _ st' λb hb o q=>(I'.pin (b,o) (q7y _ (q7y _ (xK hb q)))).1,λb hb=>?_⟩;obtain ⟨o,q,d⟩:=Tobj _ _ st' b hb;exact (I'.pin (b,o) (q7y _ (q7y _ (xK hb q)))).2.1
   refine ifs_ok ht I8 q8 λbb H8' s8' I8' q8'=>?_
   cases bb with
   | false =>
    have q8':=(show N σ8 H8' by simpa using q8');obtain ⟨m',hm,w10⟩:=hN _ _ q8';exact ⟨m',hm,i+1,σ8,_,I8'.unpinned,(pk I8').1,(pk I8').2,w10⟩
   | true =>
    have q8':=(show te σ8 H8' _ by simpa using q8');refine thn (he _ s8' σ8 H8' _ I8' q8') λz s9 ⟨v9,H9,I9,r9,xs,hx9,hz9,n9⟩=>?_;refine thn (ye _ s9 σ8 H9 (.ref s2.heap.objs.size) [v9] (.ref s2.heap.objs.size) [z] (λ_ H'=>H'=upd H9 s2.heap.objs.size (.lst (xs++[v9]))) I9 rfl (.cons r9 .nil) ⟨s2.heap.objs.size,xs,v9,Y,Y,hx9,hz9,Y⟩) λy s10 ⟨v10,H10,I10,_,e10⟩=>?_;subst e10;obtain ⟨m',hm,w10⟩:=hN _ _ n9;exact ⟨m',hm,i+1,σ8,_,I10.unpinned,(pk I10).1,(pk I10).2,w10⟩
 exact codeAny_compStart_list loop (wpAny_pyIter_keyiter st4 loop)
def ps_compD {iter elt tst:Expr} {mC:Scope} {pos pos' spos:Pos} {td:TE} {g:TG} {tt:TT} {te:TE} {i:Nat} {y:Str} (NY:Jb) (cap:List (Option Nat)) (hc:X.calm=true) (hk:Xt X mC=true) (hcap:XS X mC NY cap=true) (hi:PE X iter td)
  (hY:∀ (s3:Sh) (H3:Hp) (fp:Jc),PG (X.comp mC (Ya X.env mC) NY s3 H3 fp) tg g/\PT (X.comp mC (Ya X.env mC) NY s3 H3 fp) tst tt/\PE (X.comp mC (Ya X.env mC) NY s3 H3 fp) elt te) (hN:X.N.Nodup) (hi':X.N[i]?=Z y) (hx:Loc X.env.scope y)
  (hf:X.fn y=true∨X.env.scope.names.lookup y=Z .local:=by first | exact .inl rfl | exact .inr rfl) (hw:swapsWith (.ListComp elt [⟨tg,iter,[tst],0⟩] mC pos) (Z (.Name y pos')) spos.line X.env=pure true:=by rfl)
  (hs:∀ x,oH iter X.env x=pure x:=by intro _;rfl):PS X (.Assign [.Name y pos'] (.ListComp elt [⟨tg,iter,[tst],0⟩] mC pos) spos) (tAsg (tCompD td g tt te λσ _ σY=>σY=capt cap σ) (zb4 i)):=by
 intro mn s σ H D I h;rw [exec_Assign_Name_used _ _ _ _ hw,arm_evalThenUse_ListComp]
 refine q0x (wpAny_standAt (q0x (q0x (oB (zfu (NY:=NY) (use:=Z (assign (.Name y pos') X.env)) (R:=λ_ s'=>SP X mn D .next s') hc (Yc I.ok hk) hi (λs3 H3 fp=>⟨(hY s3 H3 fp).1,.inr ⟨_,Y,(hY s3 H3 fp).2.1⟩,(hY s3 H3 fp).2.2⟩) (λmn σ H s3 σY I3 e=>by
  subst e;exact YI I3 (Yc I3.ok hk) hcap) hs I h λC L H5 s6 e q=>?_) (λ_ s' z=>q0y (q0y z)) λ_ _ z=>z))))
 obtain ⟨m,hm⟩:=e.ns;have I6:Inv X mn σ H5 s6:=e.inv s6.heap ⟨Y,λ_ _=>rfl⟩;refine wpAny_assign_Name (Xs I6 hN hi' hx (v:=.ref L) rfl (λs' I' ⟨a,sb,ha⟩=>?_) hf)
 have ne:C≠a:=by
  rintro rfl;rcases ha with z | z
  .exact e.hL z
  .exact e.h2 _ _ z rfl
 refine ⟨m,?_,λh' hs'=>?_⟩
 .obtain ⟨o,es,ep,z,r⟩:=hm
  exact ⟨o,es,ep,(sb.2 _ ne).trans z,r⟩
 .exact ⟨_,H5,I'.turned (t':=s'.toks) (it:=C) (λb o nb z=>(hs'.2 b nb).trans z) e.hn e.hL (.inr e.h1) e.h2 e.h3,q⟩
def zfv {mo:Jh} {D:Ad} {g:TG} {tt:TT} {te:TE} {σY:St} {H1:Hp} {Q:VK} (Pv:Nat->St->Hp->Prop) (h0:Pv 0 σY H1)
  (hs:∀ i p σ H,mo[i]?=Z p->Pv i σ H->g (kV p.1) σ H λσ3 H3=>tt σ3 H3 λb H4=>if b=true then te σ3 H4 λv H5=>∃ ys,H5 D=Z (.lst ys)/\ys.length<mI/\Pv (i+1) σ3 (upd H5 D (.lst (ys++[v]))) else Pv (i+1) σ3 H4) (hd:∀ σ H,Pv mo.length σ H->Q (.ref D) H) :
  CompWF (Itk mo) g tt te σY H1 D Q:=by
 refine ⟨λi m σ H=>m=mo.length-i/\i<=mo.length/\Pv i σ H,⟨mo.length,by simp,nK _,h0⟩,?_⟩;rintro i m σ H ⟨rfl,hi,p⟩;by_cases hlt:i<mo.length
 .refine .inr ⟨hlt,Pv (i+1),λσ' H' p'=>⟨mo.length-(i+1),by omega,Y,hlt,p'⟩,λx H' y=>?_⟩
  obtain ⟨e,q,hq,ex⟩:=y;subst e ex;exact hs i q σ _ hq p
 .have e:i=mo.length:=by omega
  subst e;exact .inl ⟨m8 _,hd σ H p⟩
end
def call_minM (hc:X.calm=true):Yp X (.builtin "min") (λxs H Q=>∃ (p:Ad) (ns:J6),xs=[.ref p]/\SqL X.K H p (ns.map V.int)/\0<ns.length/\∀ m,m∈ns->(∀ v∈ns,m<=v)->Q (.int m) H):=by
 intro mn s σ H xs us Q I r h;obtain ⟨p,ns,rfl,hp,h0,q⟩:=h;obtain ⟨u,rfl,ru⟩:=r.one;cases (show u=mK p from ru);obtain ⟨its,rv,pl,_⟩:=I.list hp;obtain ⟨ys,hy⟩:=(zdd rv).allInts.items;have hl:s.heap.IsList p (intItems ys):=hy ▸ pl.isList;have e1:=zdk rv;rw [Je] at e1
 have hsz:ys.size=ns.length:=by
  have z:its.toArray.size=(intItems ys).size:=by rw [hy]
  simp [intItems] at z;omega
 have hne:0<ys.size:=by omega
 refine min_intList (I.ok.hd hc) hl hne λv h' tk hv hk=>?_
 have z:its[argBest (λi j=>decide (numAt ys i<numAt ys j)) (ys.size-1)]?=Z v:=by
  rw [← hy] at hv;simpa using hv
 obtain ⟨n,t,en,rfl⟩:=ints_at rv _ v z
 have nu:∀ (j:Nat) (n':Int),ns[j]?=Z n'->n'=numAt ys j:=λj n' e=>by
  obtain ⟨u,eu,ru⟩:=rv.get (show (ns.map V.int)[j]?=Z (.int n') by rw [mJ,e];rfl);obtain ⟨t',rfl⟩:=(show ∃ t',u=sQ n' t' from ru);obtain ⟨t2,e2⟩:=intItems_at (xs:=ys) (i:=j) (v:=.int n' t') (by rw [← hy];simpa using eu);injection e2
 refine ⟨.int n,H,I.kept hk,⟨_,Y⟩,q n (mP en) λv' hv'=>?_⟩;obtain ⟨j,hj,ej⟩:=sY hv';have a1:=nu j v' (by rw [m6 hj,ej]);have a2:=nu _ n en;have a3:=(argBest_lt (numAt ys) (ys.size-1)).2 j (by omega);rw [a1,a2];exact a3
end L2
namespace L2
open PySem PySem.Spec PyProof.Rows
open Sem (wp)
@[reducible] def IsTrip (h:Heap) (T:Ad) (a b c:Vl):Prop:=h.get? T=Z { cls:=.type "tuple",data:=.seq #[a,b,c] }
section
variable {A:Around} {E:J5} {s:Sh}
abbrev z31 (h:Heap) (t1:Ad):Heap:=h.push { cls:=.type "list_iterator",data:=.fields #[.ref t1,.int 0 0] }
abbrev z32 (h:Heap) (t1 t2:Ad):Heap:=(z31 h t1).push { cls:=.type "list_iterator",data:=.fields #[.ref t2,.int 0 0] }
abbrev z33 (h:Heap) (t1 t2 t3:Ad):Heap:=(z32 h t1 t2).push { cls:=.type "list_iterator",data:=.fields #[.ref t3,.int 0 0] }
abbrev z34 (h:Heap) (t1 t2 t3:Ad):Heap:=(z33 h t1 t2 t3).push { cls:=.type "tuple",data:=.seq #[.ref h.objs.size,.ref (z31 h t1).objs.size,.ref (z32 h t1 t2).objs.size] }
abbrev z35 (h:Heap) (t1 t2 t3:Ad):Heap:=(z34 h t1 t2 t3).push { cls:=.type "tuple",data:=.seq #[.none,.none,.none] }
abbrev z36 (h:Heap) (t1 t2 t3:Ad):Heap:=(z35 h t1 t2 t3).push { cls:=.type "zip",data:=.fields #[.none,.bool false,.bool false,.ref (z33 h t1 t2 t3).objs.size,.ref (z34 h t1 t2 t3).objs.size] }
def meets_z3 (t1 t2 t3:Ad) (us vs ws:Array Vl):Meets (Builtin.«zip.__new__» ⟨[.type "zip",.ref t1,.ref t2,.ref t3],[]⟩) (λ_ R s=>s.heap.IsList t1 us/\s.heap.IsList t2 vs/\s.heap.IsList t3 ws/\R (.ok (.ret (.ref (z35 s.heap t1 t2 t3).objs.size))) { s with heap:=z36 s.heap t1 t2 t3 }) :=
 .of_wp λprog w A R s h=>by
  obtain ⟨hp,g,d,tk,os⟩:=s;obtain ⟨x1,x2,x3,h⟩:=h;have hsub:=sub_zip;have y1:Heap.IsList (Shared.heap ⟨hp,g,d,tk,os⟩) t1 us:=x1;have y2:Heap.IsList (Shared.heap ⟨hp.push { cls:=.type "list_iterator",data:=.fields #[.ref t1,.int 0 0] },g,d,tk,os⟩) t2 vs:=Heap.IsList.push x2 _;have y3:Heap.IsList (Shared.heap ⟨(hp.push { cls:=.type "list_iterator",data:=.fields #[.ref t1,.int 0 0] }).push { cls:=.type "list_iterator",data:=.fields #[.ref t2,.int 0 0] },g,d,tk,os⟩) t3 ws:=Heap.IsList.push (Heap.IsList.push x3 _) _
  wp_walk using sL y1,sL y2,sL y3
  exact ⟨_,Y,h⟩
def call_z3 {t1 t2 t3:Ad} {us vs ws:Array Vl} {Q:J5} (x1:s.heap.IsList t1 us) (x2:s.heap.IsList t2 vs) (x3:s.heap.IsList t3 ws)
  (q:∀ g,IsZip g (s.heap.objs.size+5) (s.heap.objs.size+3) (s.heap.objs.size+4) .none->IsTrip g (s.heap.objs.size+3) (.ref s.heap.objs.size) (.ref (s.heap.objs.size+1)) (.ref (s.heap.objs.size+2))->IsTrip g (s.heap.objs.size+4) .none .none .none->g.IsListIter s.heap.objs.size t1 0->g.IsListIter (s.heap.objs.size+1) t2 0->g.IsListIter (s.heap.objs.size+2) t3 0->(∀ c o,s.heap.get? c=Z o->g.get? c=Z o)->Q (.ref (s.heap.objs.size+5)) { s with heap:=g }) :
  wpAny (model prog w) A (call (.type "zip") [.ref t1,.ref t2,.ref t3]) Q E s:=by
 refine callType_new F.called_zip (by decide) (by rfl) (by with_unfolding_all rfl) (λobj=>by rfl) F.entry_zip_new (meets_z3 t1 t2 t3 us vs ws) ⟨x1,x2,x3,?_⟩;have z1:(z31 s.heap t1).objs.size=s.heap.objs.size+1:=rh ..;have z2:(z32 s.heap t1 t2).objs.size=s.heap.objs.size+2:=by rw [rh,z1]
 have z3:(z33 s.heap t1 t2 t3).objs.size=s.heap.objs.size+3:=by rw [rh,z2]
 have z4:(z34 s.heap t1 t2 t3).objs.size=s.heap.objs.size+4:=by rw [rh,z3]
 have z5:(z35 s.heap t1 t2 t3).objs.size=s.heap.objs.size+5:=by rw [rh,z4]
 have up:∀ {h:Heap} {c:Ad} {o o':Obj},h.get? c=Z o->(h.push o').get? c=Z o:=λe=>mD _ e;have g6:(z36 s.heap t1 t2 t3).get? (z35 s.heap t1 t2 t3).objs.size=Z _:=mX _ rfl;have g5:(z36 s.heap t1 t2 t3).get? (z34 s.heap t1 t2 t3).objs.size=Z _:=up (mX _ rfl);have g4:(z36 s.heap t1 t2 t3).get? (z33 s.heap t1 t2 t3).objs.size=Z _:=up (up (mX _ rfl));have g3:(z36 s.heap t1 t2 t3).get? (z32 s.heap t1 t2).objs.size=Z _:=up (up (up (mX _ rfl)));have g2:(z36 s.heap t1 t2 t3).get? (z31 s.heap t1).objs.size=Z _:=up (up (up (up (mX _ rfl))));have g1:(z36 s.heap t1 t2 t3).get? s.heap.objs.size=Z _:=up (up (up (up (up (mX _ rfl)))));show _/\_;rw [z3,z4,z5] at g6;rw [z1,z2,z3] at g4;rw [z4] at g5;rw [z2] at g3;rw [z1] at g2;rw [z5];exact ⟨⟨_,g6,Y⟩,q _ g6 g4 g5 ⟨_,g1,Y,Y⟩ ⟨_,g2,Y,Y⟩ ⟨_,g3,Y,Y⟩ λc o x=>up (up (up (up (up (up x)))))⟩
end
abbrev Itz3 (K:Fg) (l1 l2 l3:Ad):It:=ItN false K [l1,l2,l3]
def all3 {α:Type} {P:α->Prop} {a b c:α} (h:P a) (g:P b) (f:P c):∀ x∈[a,b,c],P x:=λx m=>by
 rcases mM.mp m with rfl | m
 .exact h
 .exact all2 g f x m
section
variable {es:Jd} {kt:Nat} {tp:Pos}
inductive iZip3_S (K:Fg) (R:(It->Hp->Prop)) (vs:Jj) (H1:Hp):Prop
 | mk (l1 l2 l3:_) (_:vs=[.ref l1,.ref l2,.ref l3]) (_:(∃ xs,SqL K H1 l1 xs)) (_:(∃ ys,SqL K H1 l2 ys)) (_:(∃ zs,SqL K H1 l3 zs)) (_:R (Itz3 K l1 l2 l3) H1)
def iZip3 (K:Fg) (ta:TA):TI:=λσ H R=>ta σ H λvs H1=>iZip3_S K R vs H1
def vals3 {x y z:V} {us:J8} (r:Vals [x,y,z] us):∃ u v t,us=[u,v,t]/\RelV x u/\RelV y v/\RelV z t:=by
 cases r with
 | cons ru r =>
  cases r with
  | cons rv r =>
   cases r with
   | cons rt r=>cases r;exact ⟨_,_,_,Y,ru,rv,rt⟩
def pi_zip3 {a b c:Expr} {ta:TA} {p pos:Pos} (hg:Gl X "zip") (hm:X.mg "zip"=O) (ha:PA X [a,b,c] ta) (hs:mO [a,b,c] X.env=[(false,eval a X.env),(false,eval b X.env),(false,eval c X.env)]:=by rfl)
  (hs2:mO [b,c] X.env=[(false,eval b X.env),(false,eval c X.env)]:=by rfl):PI X (.Tuple es kt tp) (.Call (.Name "zip" p) [a,b,c] [] pos) (iZip3 X.K ta):=by
 intro mn s σ H R I h;refine Call_ (Yk I hg hm boot_zip (ou (thn (ha pos mn s σ H _ I h) λus s1 ⟨vs,H1,I1,r1,q1⟩=>?_) (by rw [hs,hs2]) (by rw [hs2];rfl)));obtain ⟨l1,l2,l3,e,⟨xs,x1⟩,⟨ys,x2⟩,⟨zs,x3⟩,q⟩:=q1;subst e;obtain ⟨u,v,t,rfl,ru,rv,rt⟩:=vals3 r1;cases (show u=mK l1 from ru);cases (show v=mK l2 from rv);cases (show t=mK l3 from rt);obtain ⟨is1,g1,p1,_⟩:=I1.list x1;obtain ⟨is2,g2,p2,_⟩:=I1.list x2;obtain ⟨is3,g3,p3,_⟩:=I1.list x3;refine call_z3 p1.isList p2.isList p3.isList λh' a1 a2 a3 a4 a5 a6 hk=>?_;exact wpAny_pyIter_zip (s:={ s1 with heap:=h' }) a1 (pie_zn (tp:=false) (ls:=[l1,l2,l3]) I1 (all3 ⟨_,x1⟩ ⟨_,x2⟩ ⟨_,x3⟩) (Nat.zero_lt_succ _) (sC rfl) hk ⟨a1,a2,⟨_,a3,Y⟩,all3 a4 a5 a6⟩ q)
end
theorem zip_go3 {K:Fg} {l1 l2 l3:Ad} {xs ys zs:Jj} {i:Nat} {H:Hp} (q1:SqL K H l1 xs) (q2:SqL K H l2 ys) (q3:SqL K H l3 zs) (h:i<xs.length) (he:ys.length=xs.length) (he3:zs.length=xs.length):(Itz3 K l1 l2 l3).go i H :=
 ⟨[xs[i],ys[i]'(by omega),zs[i]'(by omega)],Y,λt l e=>match t,e with
  | 0,e=>by cases e;exact ⟨xs,q1,m6 h⟩
  | 1,e=>by cases e;exact ⟨ys,q2,m6 (by omega)⟩
  | 2,e=>by cases e;exact ⟨zs,q3,m6 (by omega)⟩⟩
def zb7 {K:Fg} {l1 l2 l3 D:Ad} {xs ys zs:Jj} {g:TG} {te:TE} {σY:St} {H1:Hp} {Q:VK} (Pv:Nat->St->Hp->Prop) (h0:Pv 0 σY H1) (hl:∀ i σ H,i<=xs.length->Pv i σ H->SqL K H l1 xs/\SqL K H l2 ys/\SqL K H l3 zs) (he:ys.length=xs.length) (he3:zs.length=xs.length)
  (hs:∀ i x y z σ H T,xs[i]?=Z x->ys[i]?=Z y->zs[i]?=Z z->Pv i σ H->H T=O->g (.ref T) σ (upd H T (.tup [x,y,z])) λσ3 H3=>te σ3 H3 λv H4=>∃ ws,H4 D=Z (.lst ws)/\ws.length<mI/\Pv (i+1) σ3 (upd H4 D (.lst (ws++[v])))) (hd:∀ σ H,Pv xs.length σ H->Q (.ref D) H) :
  CompW (Itz3 K l1 l2 l3) g te σY H1 D Q:=by
 refine ⟨λi m σ H=>m=xs.length-i/\i<=xs.length/\Pv i σ H,⟨xs.length,by simp,nK _,h0⟩,?_⟩;rintro i m σ H ⟨rfl,hi,p⟩;obtain ⟨q1,q2,q3⟩:=hl i σ H hi p;by_cases hlt:i<xs.length
 .refine .inr ⟨zip_go3 q1 q2 q3 hlt he he3,Pv (i+1),λσ' H' p'=>⟨xs.length-(i+1),by omega,Y,hlt,p'⟩,λx H' y=>?_⟩
  obtain ⟨T,vs,e,nT,e',lv,y⟩:=y;subst e e';obtain ⟨u,r,rfl⟩:=oF lv;obtain ⟨v,r,rfl⟩:=oF (pd lv);obtain ⟨w,r,rfl⟩:=oF (pd (pd lv));cases mS (pd (pd (pd lv)));have y1:xs[i]?=Z u:=y 0 l1 xs rfl q1;have y2:ys[i]?=Z v:=y 1 l2 ys rfl q2;have y3:zs[i]?=Z w:=y 2 l3 zs rfl q3;exact hs i u v w σ H T y1 y2 y3 p nT
 .have e:i=xs.length:=by omega
  subst e;exact .inl ⟨⟨l1,_,xs,Y,q1,m8 _⟩,hd σ H p⟩
end L2
namespace L2
open PySem
namespace Hd
def over {B J J2:Hp} {L:Ji} (h:Hd B L J) (s:Same J J2):∃ B2,Same B B2/\Hd B2 L J2/\∀ a o,J2 a=Z o->a ∉ L.map pD->B2 a=Z o:=by
 classical
 refine ⟨λa=>if a∈L.map pD then O else J2 a,λa o e=>?_,⟨h.nd,λp q=>?_,λp q=>s _ _ (h.st p q),λa o e=>?_⟩,λa o e n=>?_⟩
 .have na:a ∉ L.map pD:=λm=>by
   obtain ⟨p,hp,rfl⟩:=o9.mp m;rw [h.nw p hp] at e;cases e
  show (if _ then _ else _)=_;rw [if_neg na];exact s _ _ (h.sm _ _ e)
 .show (if _ then _ else _)=_
  rw [if_pos (List.mem_map_of_mem q)]
 .have e:(if a∈L.map pD then O else J2 a)=Z o:=e
  split at e
  .cases e
  .exact e
 .show (if _ then _ else _)=_
  rw [if_neg n];exact e
end Hd
def Yq {H X:Hp} {t:Ad} {o:HO} (h:upd H t o=X) (n:H t=O):Same H X/\X t=Z o:=by
 subst h;exact ⟨zu (Same.refl _) n,zh⟩
def hdN {H X:Hp} {l:Ad} {o:HO} (h:upd H l o=X) (n:H l=O):Hd H [(l,o)] X:=by
 subst h;exact Hd.base.new n
def hdG {B H X:Hp} {L:Ji} {t:Ad} {o:HO} (m:Hd B L H) (h:upd H t o=X) (n:H t=O):∃ B',Same B B'/\B' t=Z o/\Hd B' L X:=by
 subst h;exact ⟨_,zu (Same.refl _) (m.free n),zh,m.grow n⟩
def hdM {B H H2:Hp} {L:Ji} {C x dx:Ad} {ox:HO} (h:Hd B L H) (nx:H x=O) (ndx:H dx=O) (ne:dx≠x) (k:∀ b u,b≠x->upd (upd H dx (.own x)) x (.ins C dx []) b=Z u->H2 b=Z u) (ex:H2 x=Z ox):∃ B',Same B B'/\B' x=Z ox/\Hd B' L H2:=by
 have h2:=h.made0 nx ndx ne k ex;exact ⟨_,h2.settled.trans h2.settle.settled,by rw [zj (oQ ne)];exact zh,h2.settle.settle⟩
end L2
namespace L2
open PySem PySem.Spec PyProof.Rows
section
variable {K:Fg} {base:Heap}
def FunD.ok {x mt:Str} {st:Stmt} {f:Ad} {fd:og} {ds:Array Vl} {N ps:Jb} {k:Nat} {sp:Sp} (F:FunD K x mt st f fd ds) (S:FnScope N ps (ze st)) (len:∀ vs H Q E,sp vs H Q E->vs.length=ps.length)
  (hbody:∀ (mx:Vl) (A:Around) (outer:List Env) (s:Sh) (H:Hp) (vs:Jj) (Q:VK) (E:XK),Room k (A.deeper (envOfC mt (ze st) s.heap.objs.size f mx))->sp vs H Q E ->
   ∃ t,PSs (yh CX0 P w K mg base N mt (ze st) f mx A outer s H E).nox (zS st) t/\t { nx:=λ_ H'=>Q .non H',rt:=Q } (start N vs) H):FnOk P w K mg base CX0 (k+1) f fd ps sp:=by
 obtain ⟨oc,od,kV,doc,pm,an,mx,ct,osl,T,o,n,rfl,lk,hcd,_,_⟩:=F.ex;refine fn_of lk hcd S len λA outer s H vs Q E hr hsp=>?_;obtain ⟨t,h,q⟩:=hbody mx A outer s H vs Q E hr hsp;exact ⟨t,h.nox,q⟩
def DefD (K:Fg) (mg:J0) (x:Str) (st:Stmt) (ps:Jb):Prop:=∃ (f:Ad) (fd:og) (t:Tok),mg x=Z (.ref f)/\FunD K x x st f fd #[.int 0 t]/\Binds K fd ps []/\Binds K fd ps [.int 0 t]
def OkD (P:nQ) (w:World) (K:Fg) (mg:J0) (base:Heap) (CX:CXT) (k:Nat) (x:Str) (ps:Jb) (sp:Sp):Prop :=
 ∃ (f:Ad) (fd:og) (t:Tok),mg x=Z (.ref f)/\mR K (.ref f)=true/\Binds K fd ps []/\Binds K fd ps [.int 0 t]/\FnOk P w K mg base CX k f fd ps sp
def OkD.all {CX:CXT} {k:Nat} {x:Str} {ps:Jb} {sp:Sp} (h:OkD P w K mg base CX k x ps sp):Ok P w K mg base CX k x ps sp:=by
 obtain ⟨f,fd,t,a,b,c,_,e⟩:=h;exact ⟨f,fd,a,b,c,e⟩
end
def pe_okD {X:Cx} {CX:CXT} {k:Nat} {x:Str} {ps:Jb} {sp:Sp} {E:XK} {p pos:Pos} {e:Expr} {es:Jd} {t:TA} (o:OkD X.prog X.w X.K X.mg X.base CX k x ps sp) (hr:Room k X.A) (hg:Gl X x) (hx:xf CX X E) (ha:PA X (e::es) t)
  (hdb:(x == ("__debug__":Str))=false:=by decide) (he:mO (e::es) X.env=(false,eval e X.env)::mO es X.env:=by rfl) (hpl:(backTo pos (mO es X.env)).any (·.1)=false:=by rfl) :
  PE X (.Call (.Name x p) (e::es) [] pos) (zbu sp [.int 0] E t):=by
 obtain ⟨f,fd,tk,a,b,_,c,d⟩:=o;exact pe_call d hr hg a b c (.cons ⟨tk,Y⟩ .nil) hx ha hdb he hpl
end L2
namespace K45
open PySem L2 FM
abbrev rq (a:Ad):Jk:=Z (.ref a)
abbrev iq (n:Int):Jk:=Z (.int n)
def top (i:Nat):Stmt:=PySem.Challenge.pw_rowbreadth_k45_choices_made.main.body.getD i (.Pass ⟨0,0,0,0⟩)
abbrev zcs:Stmt:=top 10
def sc_kept:FnScope ["number"] ["number"] (ze zcs):=scK
abbrev zcr:Stmt:=top 11
def sc_plus:FnScope qB qB (ze zcr):=scK
abbrev X2:Stmt:=top 12
def sc_minus:FnScope qB qB (ze X2):=scK
abbrev X1:Stmt:=top 13
def sc_times:FnScope qB qB (ze X1):=scK
abbrev xh:Stmt:=top 14
def Xu:FnScope ["right"] ["right"] (ze xh):=scK
abbrev Yf:Stmt:=top 15
def zdu:FnScope qB qB (ze Yf):=scK
abbrev ZC:Stmt:=top 16
def zck:FnScope qB qB (ze ZC):=scK
abbrev Y9:Stmt:=top 17
def sc_lesser:FnScope qB qB (ze Y9):=scK
abbrev YC:Stmt:=top 18
def zfc:FnScope qB qB (ze YC):=scK
abbrev YB:Stmt:=top 19
def zfb:FnScope qB qB (ze YB):=scK
abbrev Yg:Stmt:=top 20
def zdv:FnScope qB qB (ze Yg):=scK
abbrev xx:Stmt:=top 21
def XU:FnScope qB qB (ze xx):=scK
abbrev yZ:Stmt:=top 22
def Y7:FnScope qB qB (ze yZ):=scK
abbrev xN:Stmt:=top 23
def zai:FnScope qB qB (ze xN):=scK
abbrev zct:Stmt:=top 29
def sc_done:FnScope Ul Ul (ze zct):=scK
abbrev Yd:Stmt:=top 33
def zdt:FnScope UA UA (ze Yd):=scK
abbrev Yh:Stmt:=top 51
def sc_count_of:FnScope ["steps","count","step"] ["steps"] (ze Yh):=scK
abbrev yE:Stmt:=top 53
def sc_seats_for_two:FnScope qK qK (ze yE):=scK
abbrev yT:Stmt:=top 54
def ZB:FnScope ["form","functions","parts","part"] qI (ze yT):=scK
abbrev xW:Stmt:=top 55
def sc_seats_for:FnScope qI qI (ze xW):=scK
abbrev yS:Stmt:=top 56
def sc_seats_for_step:FnScope ["step","functions","seats"] ["step","functions"] (ze yS):=scK
abbrev ZQ:Stmt:=top 61
def sc_cell_step:FnScope qA qA (ze ZQ):=scK
abbrev ZL:Stmt:=top 62
def sc_leaf_step:FnScope qA qA (ze ZL):=scK
abbrev Zv:Stmt:=top 63
def sc_make_two:FnScope ["maker","first","first_aim","second","second_aim","seat","slot"] qF (ze Zv):=scK
abbrev Yz:Stmt:=top 64
def zah:FnScope qA qA (ze Yz):=scK
abbrev xX:Stmt:=top 65
def sc_make_pair:FnScope ["maker","form","aim","seats"] qA (ze xX):=scK
abbrev xg:Stmt:=top 66
def sc_make_choice:FnScope ["maker","form","aim","left","right","left_aim","right_aim","seats"] qA (ze xg):=scK
abbrev ZJ:Stmt:=top 67
def Y6:FnScope ["maker","form","aim","first","own","handed","body"] qA (ze ZJ):=scK
abbrev xY:Stmt:=top 68
def sc_make_form:FnScope qA qA (ze xY):=scK
abbrev yI:Stmt:=top 70
def YW:FnScope qE qE (ze yI):=scK
abbrev yX:Stmt:=top 72
def sc_numbers_loaded:FnScope ["bench","step","active","lane"] qE (ze yX):=scK
abbrev yV:Stmt:=top 73
def Y5:FnScope qE qE (ze yV):=scK
abbrev xi:Stmt:=top 78
def Xv:FnScope qR qR (ze xi):=scK
abbrev yY:Stmt:=top 79
def sc_numbers_joined:FnScope ["bench","step","active","lefts","rights","left","right","lane"] qE (ze yY):=scK
abbrev yW:Stmt:=top 80
def sc_numbers_picked:FnScope ["bench","step","active","lefts","rights","truths","left","right","lane"] qE (ze yW):=scK
abbrev yJ:Stmt:=top 82
def sc_numbers_brought:FnScope ["bench","step","active","lane"] qE (ze yJ):=scK
abbrev ZM:Stmt:=top 84
def zcl:FnScope ["word"] ["word"] (ze ZM):=scK
abbrev yU:Stmt:=top 85
def sc_play_seat_step:FnScope qE qC (ze yU):=scK
abbrev ZH:Stmt:=top 87
def sc_may_fault:FnScope ["step"] ["step"] (ze ZH):=scK
abbrev ZP:Stmt:=top 90
def sc_group_for:FnScope ["seats"] ["seats"] (ze ZP):=scK
abbrev ZI:Stmt:=top 91
def sc_make_test:FnScope ["maker","step"] ["maker","step"] (ze ZI):=scK
abbrev Zi:Stmt:=top 92
def sc_make_value:FnScope ["maker","step","mask","aim","seats"] Uu (ze Zi):=scK
abbrev Ye:Stmt:=top 93
def sc_round_of:FnScope ["program","step","number","group","maker","mask","effect","made_step"] Ua (ze Ye):=scK
abbrev YY:Stmt:=top 95
def zds:FnScope ["program","till","number","group","inner","look"] ["program","till","number","group"] (ze YY):=scK
abbrev YD:Stmt:=top 96
def sc_code_of:FnScope ["program","steps","first","group","code","number","step"] Ub (ze YD):=scK
abbrev Xx:Stmt:=top 97
def sc_made:FnScope Ut Ut (ze Xx):=scK
abbrev ZD:Stmt:=top 110
def sc_play_trim:FnScope ["bench","step","faulted","lane"] qC (ze ZD):=scK
abbrev ZE:Stmt:=top 111
def sc_play_stop:FnScope qC qC (ze ZE):=scK
abbrev Zj:Stmt:=top 112
def sc_lay_chosen:FnScope ["bench","step","nought","active","numbers","lane","number"] Ue (ze Zj):=scK
abbrev xM:Stmt:=top 113
def zag:FnScope qC qC (ze xM):=scK
abbrev Zg:Stmt:=top 114
def zbl:FnScope qC qC (ze Zg):=scK
abbrev ZF:Stmt:=top 115
def sc_play_save:FnScope ["bench","step","active","lane","number"] qC (ze ZF):=scK
abbrev Zf:Stmt:=top 116
def sc_play_store:FnScope ["bench","step","active","lane","number"] qC (ze Zf):=scK
abbrev Zk:Stmt:=top 125
def zbn:FnScope ["word"] ["word"] (ze Zk):=scK
abbrev xL:Stmt:=top 126
def zaf:FnScope qC qC (ze xL):=scK
abbrev Zh:Stmt:=top 128
def zbm:FnScope qC qC (ze Zh):=scK
abbrev ZG:Stmt:=top 129
def sc_play_next:FnScope ["bench","step","base"] qC (ze ZG):=scK
abbrev xw:Stmt:=top 134
def XT:FnScope qC qC (ze xw):=scK
abbrev s_ran:Stmt:=top 135
def sc_ran:FnScope ["code","lengths","cells","lanes","dust","picks","bench"] qN (ze s_ran):=scK
abbrev YA:Stmt:=top 137
def zfa:FnScope ["_law_found"] ["_law_found"] (ze YA):=scK
abbrev ZO:Stmt:=top 138
def zcm:FnScope Uh Uh (ze ZO):=scK
abbrev ZN:Stmt:=top 139
def sc_l_kept_by:FnScope ["_law_cell","_law_how","_law_edges"] Uw (ze ZN):=scK
abbrev Xb:Stmt:=top 140
def sc_l_some:FnScope ["_law_script","_law_at","_law_count","_law_out","_law_k","_law_cell"] qX (ze Xb):=scK
abbrev Xa:Stmt:=top 141
def sc_l_told:FnScope ["_law_found","_law_cells","_law_refusal","_law_number"] qV (ze Xa):=scK
abbrev Xc:Stmt:=top 142
def sc_l_side:FnScope Ui Ui (ze Xc):=scK
abbrev Xd:Stmt:=top 143
def sc_l_nest:FnScope ["_law_picked","_law_last","_law_form","_law_j","_law_k","_law_side_here"] Uq (ze Xd):=scK
abbrev X3:Stmt:=top 144
def sc_l_due:FnScope qL qL (ze X3):=scK
abbrev zan:Stmt:=top 145
def sc_law:FnScope ["_law_script","_law_count","_law_row","_law_number","_law_before","_law_picked","_law_last","_law_step","_law_passing","_law_due_here","_law_place","_law_program","_law_group","_law_code","_law_lanes","_law_dust","_law_found"] ["_law_script"] (ze zan):=scK
abbrev Zn:Stmt:=zR (top 3) 0
def zbp:FnScope ["self","lanes"] ["self","lanes"] (ze Zn):=scK
abbrev xj:Stmt:=zR (top 3) 1
def Xw:FnScope qG qG (ze xj):=scK
abbrev ZV:Stmt:=zR (top 3) 2
def zcq:FnScope qP qP (ze ZV):=scK
abbrev yK:Stmt:=zR (top 3) 3
def YX:FnScope qG qG (ze yK):=scK
abbrev xO:Stmt:=zR (top 36) 0
def zaj:FnScope Uk Uk (ze xO):=scK
abbrev ZU:Stmt:=zR (top 38) 0
def zcp:FnScope Us Us (ze ZU):=scK
abbrev ZR:Stmt:=zR (top 41) 0
def zcn:FnScope qU qU (ze ZR):=scK
abbrev xQ:Stmt:=zR (top 42) 0
def zal:FnScope qZ qZ (ze xQ):=scK
abbrev xJ:Stmt:=zR (top 46) 0
def zdw:FnScope qW qW (ze xJ):=scK
abbrev xP:Stmt:=zR (top 46) 1
def zak:FnScope Ux Ux (ze xP):=scK
abbrev xy:Stmt:=zR (top 50) 0
def XV:FnScope qS qS (ze xy):=scK
abbrev Zl:Stmt:=zR (top 59) 0
def zbo:FnScope qT qT (ze Zl):=scK
abbrev xz:Stmt:=zR (top 59) 1
def sc_Maker_put_by:FnScope ["self","seat","mask","slot"] Uo (ze xz):=scK
abbrev Yi:Stmt:=zR (top 60) 0
def zdx:FnScope qH qH (ze Yi):=scK
abbrev ZT:Stmt:=zR (top 99) 0
def zco:FnScope Uy Uy (ze ZT):=scK
abbrev Zm:Stmt:=zR (top 99) 1
def sc_Feed_taken:FnScope Uk ["self"] (ze Zm):=scK
abbrev Zo:Stmt:=zR (top 103) 0
def sc_Bench_init:FnScope ["self","lengths","cells","lanes","dust","picks","row","mask"] qO (ze Zo):=scK
abbrev yA:Stmt:=zR (top 103) 1
def sc_Bench_open_round:FnScope Um Um (ze yA):=scK
abbrev yu:Stmt:=zR (top 103) 2
def sc_Bench_begin_strip:FnScope Uz Uz (ze yu):=scK
abbrev yr:Stmt:=zR (top 103) 3
def sc_Bench_active_under:FnScope ["self","mask","truths","lane"] Ur (ze yr):=scK
abbrev yB:Stmt:=zR (top 103) 4
def sc_Bench_numbers_in:FnScope ["self","seat","active","lane"] qQ (ze yB):=scK
abbrev y6:Stmt:=zR (top 103) 5
def sc_Bench_lay_seat:FnScope ["self","seat","active","numbers","told","lane","number"] Uc (ze y6):=scK
abbrev y8:Stmt:=zR (top 103) 6
def sc_Bench_lay_mask:FnScope ["self","mask","chosen","truths","lane"] Uj (ze y8):=scK
abbrev xR:Stmt:=zR (top 103) 7
def zam:FnScope qM qM (ze xR):=scK
abbrev yM:Stmt:=zR (top 103) 8
def sc_Bench_read_cell:FnScope ["self","row","place","address"] Up (ze yM):=scK
abbrev yz:Stmt:=zR (top 103) 9
def sc_Bench_write_cell:FnScope ["self","row","place","number","address"] Uf (ze yz):=scK
abbrev yi:Stmt:=zR (top 103) 10
def ZZ:FnScope qJ qJ (ze yi):=scK
abbrev yL:Stmt:=zR (top 103) 11
def sc_Bench_read_slot:FnScope ["self","slot","lane","address"] qJ (ze yL):=scK
abbrev yy:Stmt:=zR (top 103) 12
def sc_Bench_write_slot:FnScope ["self","slot","lane","number","address"] Ug (ze yy):=scK
section
variable {K:Fg} {base:Heap}
def ok_kept {t:Tok} (d:zk K mg "kept" zcs ["number"]) (hH:mg "HALF"=Z (.int 9223372036854775808 t)):Ok P w K mg base (CXe P w base) 1 "kept" ["number"] (sp1 λn=>.int (kept n)):=by
 refine oDe (len:=len1) d sc_kept λf mx A _ s H vs Q E hr h=>?_;obtain ⟨n,rfl,k⟩:=h;refine ⟨_,zf (zm (zn Z2 (zn yP (zn zQ (pv 0) (xC hH)) (zn yH zg (xC hH))) (xC hH))),?_⟩;exact ⟨_,Y,_,_,Y,Y,_,_,Y,Y,.inl ⟨by decide,by decide⟩,_,_,Y,Y,(by show (0:Int)<2*9223372036854775808;decide),_,_,Y,Y,k⟩
abbrev GK (P:nQ) (w:World) (K:Fg) (mg:J0) (base:Heap):Prop:=Ok P w K mg base (CXe P w base) 1 "kept" ["number"] (sp1 λn=>.int (kept n))
def ok_plus (d:zk K mg "plus" zcr qB) (G:GK P w K mg base):Ok P w K mg base (CXe P w base) 2 "plus" qB (sp2 (λ_ _=>True) λa b=>kept (a+b)):=by
 refine oDe (len:=len2) d sc_plus λf mx A _ s H vs Q E hr h=>?_;obtain ⟨x,y,rfl,_,k⟩:=h;refine ⟨_,zf (zm (zD G hr rfl zav (zb (zn zQ (pv 0) (pv 1)) zc))),?_⟩;exact ⟨_,Y,_,Y,_,_,Y,Y,_,Y,k⟩
def ok_minus (d:zk K mg "minus" X2 qB) (G:GK P w K mg base):Ok P w K mg base (CXe P w base) 2 "minus" qB (sp2 (λ_ _=>True) λa b=>kept (a-b)):=by
 refine oDe (len:=len2) d sc_minus λf mx A _ s H vs Q E hr h=>?_;obtain ⟨x,y,rfl,_,k⟩:=h;refine ⟨_,zf (zm (zD G hr rfl zav (zb (zn Z2 (pv 0) (pv 1)) zc))),?_⟩;exact ⟨_,Y,_,Y,_,_,Y,Y,_,Y,k⟩
def ok_times (d:zk K mg "times" X1 qB) (G:GK P w K mg base):Ok P w K mg base (CXe P w base) 2 "times" qB (sp2 (λa _=>Kin a) λa b=>kept (a*b)):=by
 refine oDe (len:=len2) d sc_times λf mx A _ s H vs Q E hr h=>?_;obtain ⟨x,y,rfl,c,k⟩:=h;refine ⟨_,zf (zm (zD G hr rfl zav (zb (zn yH (pv 0) (pv 1)) zc))),?_⟩;exact ⟨_,Y,_,Y,_,_,Y,Y,.inl ⟨by omega,by omega⟩,_,Y,k⟩
inductive spNo (CN:Ad) (vs:Jj) (H:Hp) (Q:VK) (E:XK):Prop
 | mk (b:_) (_:vs=[.int b]) (_:(b=0->E (.ref CN) O H)) (_:(b≠0->Q .non H))
def ok_refuse {CN:Ad} {bm:J8} {B newId initId:String} (d:zk K mg "refuse_nought" xh ["right"]) (O0_:PyProof.Rows.OwnCls "ByNought" CN bm newId mg base) (FB:ExcBaseFacts B newId initId bm) :
  Ok P w K mg base (CXe P w base) 1 "refuse_nought" ["right"] (spNo CN):=by
 refine oDe (len:=(by rintro vs H Q E ⟨b,e,_⟩;rw [e];rfl)) d Xu λf mx A _ s H vs Q E hr h=>?_;obtain ⟨y,rfl,k0,k1⟩:=h;refine ⟨_,zf (zO (zJ Zc (pv 0) zg (zM _)) (zf (ps_raise O0_ FB rfl rfl throwE (zb zP zc))) zC),?_⟩;refine ⟨_,Y,Y,_,Y,?_⟩;by_cases z:y=0
 .rw [decide_eq_true (by rw [z])]
  exact Yl ⟨by show 1<=mI;decide,k0 z⟩
 .rw [decide_eq_false (by intro q;cases q;exact z rfl)]
  exact xt (k1 z)
inductive spQ (CN:Ad) (g:Int->Int->Int) (vs:Jj) (H:Hp) (Q:VK) (E:XK):Prop
 | mk (a b:_) (_:vs=[.int a,.int b]) (_:Kin b) (_:(b=0->E (.ref CN) O H)) (_:(b≠0->Q (.int (g a b)) H))
def zd7 {CN:Ad} (d:zk K mg "quotient" Yf qB) (G:GK P w K mg base) (GN:Ok P w K mg base (CXe P w base) 1 "refuse_nought" ["right"] (spNo CN)) :
  Ok P w K mg base (CXe P w base) 2 "quotient" qB (spQ CN λa b=>kept (a.fdiv b)):=by
 refine oDe (len:=(by rintro vs H Q E ⟨a,b,e,_⟩;rw [e];rfl)) d zdu λf mx A _ s H vs Q E hr h=>?_;obtain ⟨x,y,rfl,hb,k0,k1⟩:=h;refine ⟨_,zd (zy (zD GN hr rfl zav (zb (pv 1) zc))) (zf (zm (zD G hr rfl zav (zb (zn zax (pv 0) (pv 1)) zc)))),?_⟩;refine ⟨_,Y,y,Y,k0,λz=>?_⟩;exact ⟨_,Y,_,Y,_,_,Y,Y,⟨z,by omega,by omega⟩,_,Y,k1 z⟩
def zc7 {CN:Ad} (d:zk K mg "remainder" ZC qB) (GN:Ok P w K mg base (CXe P w base) 1 "refuse_nought" ["right"] (spNo CN)) :
  Ok P w K mg base (CXe P w base) 2 "remainder" qB (spQ CN λa b=>a.fmod b):=by
 refine oDe (len:=(by rintro vs H Q E ⟨a,b,e,_⟩;rw [e];rfl)) d zck λf mx A _ s H vs Q E hr h=>?_;obtain ⟨x,y,rfl,hb,k0,k1⟩:=h;refine ⟨_,zd (zy (zD GN hr rfl zav (zb (pv 1) zc))) (zf (zm (zn op_modN (pv 0) (pv 1)))),?_⟩;refine ⟨_,Y,y,Y,k0,λz=>?_⟩;exact ⟨_,Y,_,Y,_,_,Y,Y,z,k1 z⟩
def ok_lesser (d:zk K mg "lesser" Y9 qB) (hm:mg "min"=O):Ok P w K mg base (CXe P w base) 2 "lesser" qB (sp2 (λ_ _=>True) λa b=>if b<a then b else a):=by
 refine oDe (len:=len2) d sc_lesser λf mx A _ s H vs Q E hr h=>?_;obtain ⟨x,y,rfl,_,k⟩:=h;refine ⟨_,zf (zm (zp (zcb rfl) rfl hm PyProof.Rows.boot_min (zb (pv 0) (zb (pv 1) zc)))),?_⟩;exact ⟨_,Y,_,Y,_,_,Y,k⟩
def zfj (d:zk K mg "greater" YC qB) (hm:mg "max"=O):Ok P w K mg base (CXe P w base) 2 "greater" qB (sp2 (λ_ _=>True) λa b=>if b > a then b else a):=by
 refine oDe (len:=len2) d zfc λf mx A _ s H vs Q E hr h=>?_;obtain ⟨x,y,rfl,_,k⟩:=h;refine ⟨_,zf (zm (zp (YJ rfl) rfl hm sx (zb (pv 0) (zb (pv 1) zc)))),?_⟩;exact ⟨_,Y,_,Y,_,_,Y,k⟩
def zfi (d:zk K mg "is_less" YB qB):Ok P w K mg base (CXe P w base) 2 "is_less" qB (sp2 (λ_ _=>True) λa b=>if a<b then 1 else 0):=by
 refine oDe (len:=len2) d zfb λf mx A _ s H vs Q E hr h=>?_;obtain ⟨x,y,rfl,_,k⟩:=h;refine ⟨_,zf (zm (zat (zJ zbw (pv 0) (pv 1) (zM _)) zg zg)),?_⟩;refine ⟨_,Y,_,Y,_,_,Y,Y,_,Y,?_⟩;dsimp only at k ⊢;by_cases z:x<y
 .rw [if_pos z] at k;rw [decide_eq_true z];exact Yl k
 .rw [if_neg z] at k;rw [decide_eq_false z];exact xt k
def zd9 (d:zk K mg "is_equal" Yg qB):Ok P w K mg base (CXe P w base) 2 "is_equal" qB (sp2 (λ_ _=>True) λa b=>if a=b then 1 else 0):=by
 refine oDe (len:=len2) d zdv λf mx A _ s H vs Q E hr h=>?_;obtain ⟨x,y,rfl,_,k⟩:=h;refine ⟨_,zf (zm (zat (zJ Zc (pv 0) (pv 1) (zM _)) zg zg)),?_⟩;refine ⟨_,Y,_,Y,Y,_,Y,?_⟩;dsimp only at k ⊢;by_cases z:x=y
 .rw [if_pos z] at k;rw [decide_eq_true (by rw [z])];exact Yl k
 .rw [if_neg z] at k;rw [decide_eq_false (by intro q;cases q;exact z rfl)];exact xt k
def ok_both (d:zk K mg "bits_of_both" xx qB):Ok P w K mg base (CXe P w base) 2 "bits_of_both" qB (sp2 (λ_ _=>True) pQ):=by
 refine oDe (len:=len2) d XU λf mx A _ s H vs Q E hr h=>?_;obtain ⟨x,y,rfl,_,k⟩:=h;exact ⟨_,zf (zm (zn op_and (pv 0) (pv 1))),_,Y,_,Y,_,_,Y,Y,k⟩
def ok_either (d:zk K mg "bits_of_either" yZ qB):Ok P w K mg base (CXe P w base) 2 "bits_of_either" qB (sp2 (λ_ _=>True) pX):=by
 refine oDe (len:=len2) d Y7 λf mx A _ s H vs Q E hr h=>?_;obtain ⟨x,y,rfl,_,k⟩:=h;exact ⟨_,zf (zm (zn op_or (pv 0) (pv 1))),_,Y,_,Y,_,_,Y,Y,k⟩
def ok_one (d:zk K mg "bits_of_one" xN qB):Ok P w K mg base (CXe P w base) 2 "bits_of_one" qB (sp2 (λ_ _=>True) pP):=by
 refine oDe (len:=len2) d zai λf mx A _ s H vs Q E hr h=>?_;obtain ⟨x,y,rfl,_,k⟩:=h;exact ⟨_,zf (zm (zn op_xor (pv 0) (pv 1))),_,Y,_,Y,_,_,Y,Y,k⟩
inductive spDone (CN:Ad) (vs:Jj) (H:Hp) (Q:VK) (E:XK):Prop
 | mk (sg a b:_) (_:vs=[.str sg,.int a,.int b]) (_:sg∈signs) (_:Kin a) (_:Kin b) (_:(∀ r,doneR sg a b=Z r->Q (.int r) H)) (_:(doneR sg a b=O->E (.ref CN) O H))
def zI (K:Fg) (mg:J0) (aS:Ad) (sg nm:Str):Prop:=∃ f,mG K aS sg=Z (Z (.ref f))/\mg nm=Z (.ref f)
structure Signs (K:Fg) (mg:J0) (aS:Ad):Prop where
 s1:zI K mg aS "+" "plus"
 s2:zI K mg aS "-" "minus"
 s3:zI K mg aS "*" "times"
 s4:zI K mg aS "/" "quotient"
 s5:zI K mg aS "rest" "remainder"
 s6:zI K mg aS "least" "lesser"
 s7:zI K mg aS "most" "greater"
 s8:zI K mg aS "<" "is_less"
 s9:zI K mg aS "=" "is_equal"
 s10:zI K mg aS "&" "bits_of_both"
 s11:zI K mg aS "|" "bits_of_either"
 s12:zI K mg aS "^" "bits_of_one"
abbrev O2 (P:nQ) (w:World) (K:Fg) (mg:J0) (base:Heap) (nm:Str) (sp:Sp):Prop:=Ok P w K mg base (CXe P w base) 2 nm qB sp
structure Fns (P:nQ) (w:World) (K:Fg) (mg:J0) (base:Heap) (CN:Ad):Prop where
 f1:O2 P w K mg base "plus" (sp2 (λ_ _=>True) λa b=>kept (a+b))
 f2:O2 P w K mg base "minus" (sp2 (λ_ _=>True) λa b=>kept (a-b))
 f3:O2 P w K mg base "times" (sp2 (λa _=>Kin a) λa b=>kept (a*b))
 f4:O2 P w K mg base "quotient" (spQ CN λa b=>kept (a.fdiv b))
 f5:O2 P w K mg base "remainder" (spQ CN λa b=>a.fmod b)
 f6:O2 P w K mg base "lesser" (sp2 (λ_ _=>True) λa b=>if b<a then b else a)
 f7:O2 P w K mg base "greater" (sp2 (λ_ _=>True) λa b=>if b > a then b else a)
 f8:O2 P w K mg base "is_less" (sp2 (λ_ _=>True) λa b=>if a<b then 1 else 0)
 f9:O2 P w K mg base "is_equal" (sp2 (λ_ _=>True) λa b=>if a=b then 1 else 0)
 f10:O2 P w K mg base "bits_of_both" (sp2 (λ_ _=>True) pQ)
 f11:O2 P w K mg base "bits_of_either" (sp2 (λ_ _=>True) pX)
 f12:O2 P w K mg base "bits_of_one" (sp2 (λ_ _=>True) pP)
def ok_done {CN aS:Ad} (d:zk K mg "done" zct Ul) (hS:mg "SIGNS"=Z (.ref aS)) (T:xT w K aS) (S:Signs K mg aS) (f:Fns P w K mg base CN) :
  Ok P w K mg base (CXe P w base) 3 "done" Ul (spDone CN):=by
 refine oDe d sc_done λg mx A _ s H vs Q E hr h=>?_;obtain ⟨sg,x,y,rfl,hs,hx,hy,k1,k2⟩:=h;refine ⟨_,zf (zm (Xi (CX:=CXe P w base) (k:=2) (zv zdc (zZ hS) (pv 0) (λ_ _=>rfl)) hr zav (zb (pv 1) (zb (pv 2) zc)))),?_⟩
 have use:∀ (nm:Str) (sp:Sp),zI K mg aS sg nm->O2 P w K mg base nm sp->sp [.int x,.int y] H Q E ->
   ∃ (a:Ad) (k:Str) (u:Vl) (v:V),V.ref aS=.ref a/\V.str sg=.str k/\xT w K a/\mG K a k=Z (Z u)/\RelV v u /\
    ∃ (f:Ad) (fd:og) (ps:Jb) (sp:Sp),v=.ref f/\FnOk P w K mg base (CXe P w base) 2 f fd ps sp/\mR K (.ref f)=true/\Binds K fd ps []/\sp [.int x,.int y] H Q E:=by
  intro nm sp ⟨f1,e1,m1⟩ ⟨f2,fd2,m2,kp,bb,ok⟩ q;have e:=m1.symm.trans m2;cases e;exact ⟨aS,sg,.ref f1,.ref f1,Y,Y,T,e1,Y,f1,fd2,_,sp,Y,ok,kp,bb,q⟩
 suffices h:∃ (nm:Str) (sp:Sp),zI K mg aS sg nm/\O2 P w K mg base nm sp/\sp [.int x,.int y] H Q E by
  obtain ⟨nm,sp,a1,a2,a3⟩:=h;obtain ⟨a,k,u,v,e1,e2,t,e3,r,f,fd,ps,sp',e4,ok,kp,bb,q⟩:=use nm sp a1 a2 a3;exact ⟨_,Y,a,k,u,v,e1,e2,t,e3,r,f,fd,ps,sp',e4,ok,kp,bb,_,Y,_,Y,q⟩
 simp only [signs,mM,ua,or_false] at hs;rcases hs with rfl | rfl | rfl | rfl | rfl | rfl | rfl | rfl | rfl | rfl | rfl | rfl
 .exact ⟨_,_,S.s1,f.f1,x,y,Y,trivial,k1 _ rfl⟩
 .exact ⟨_,_,S.s2,f.f2,x,y,Y,trivial,k1 _ rfl⟩
 .exact ⟨_,_,S.s3,f.f3,x,y,Y,hx,k1 _ rfl⟩
 .exact ⟨_,_,S.s4,f.f4,x,y,Y,hy,λz=>k2 (by show (if y=0 then O else Z _)=O;rw [if_pos z]),λz=>k1 _ (by show (if y=0 then O else Z _)=Z _;rw [if_neg z])⟩
 .exact ⟨_,_,S.s5,f.f5,x,y,Y,hy,λz=>k2 (by show (if y=0 then O else Z _)=O;rw [if_pos z]),λz=>k1 _ (by show (if y=0 then O else Z _)=Z _;rw [if_neg z])⟩
 .exact ⟨_,_,S.s6,f.f6,x,y,Y,trivial,k1 _ rfl⟩
 .exact ⟨_,_,S.s7,f.f7,x,y,Y,trivial,k1 _ rfl⟩
 .exact ⟨_,_,S.s8,f.f8,x,y,Y,trivial,k1 _ rfl⟩
 .exact ⟨_,_,S.s9,f.f9,x,y,Y,trivial,k1 _ rfl⟩
 .exact ⟨_,_,S.s10,f.f10,x,y,Y,trivial,k1 _ rfl⟩
 .exact ⟨_,_,S.s11,f.f11,x,y,Y,trivial,k1 _ rfl⟩
 .exact ⟨_,_,S.s12,f.f12,x,y,Y,trivial,k1 _ rfl⟩
inductive spKB (vs:Jj) (H:Hp) (Q:VK) (_:XK):Prop
 | mk (c:_) (_:vs=[.int c]) (_:∀ H',Same H H'->Q (.int (yo c)) H')
def zfh (d:zk K mg "_law_kept_by" ZN Uw):Ok P w K mg base (CXe P w base) 1 "_law_kept_by" Uw spKB:=by
 refine oDe d sc_l_kept_by λf mx A _ s H vs Q E hr h=>?_;obtain ⟨c,rfl,k⟩:=h;have nd:=sc_l_kept_by.nd;refine ⟨_,zd (oRz 1 nd (zn yP (pv 0) zg))
  (zd (zO (zJ Zc (pv 1) zg (zM _)) (zf (zm (zn Z2 (zn yP (zn xD (pv 0) zg) zg) zg))) zC)
  (zd (zO (zJ Zc (pv 1) zg (zM _)) (zd (oRz 2 nd (yn (zb (pe_un zch zg) (zb zg (zb (pe_un zch zg) (zb zg (zb (pe_un zch zg) (zb zg zc))))))))
   (zf (zm (zv z6 (pv 2) (zn yP (zn xD (pv 0) zg) zg) (λ_ _=>rfl))))) zC)
  (zd (zO (zJ Zc (pv 1) zg (zM _)) (zf (zm (zn Z2 (zn yP (zn yH (zn xD (pv 0) zg) zg) zg) zg))) zC)
  (zf (zm (zn Z2 (zn yP (zn yH (zn xD (pv 0) zg) zg) zg) zg)))))),?_⟩
 refine ⟨_,Y,_,_,Y,Y,(by show (0:Int)<4;decide),?_⟩;refine ⟨_,Y,Y,_,Y,?_⟩;refine yw (λz=>?_) (λz=>?_)
 .have z:c % 4=0:=by simpa using z
  have e:yo c=c / 4 % 7-3:=by unfold yo;rw [if_pos z]
  rw [e] at k;exact ⟨_,Y,_,_,Y,Y,⟨by decide,by decide⟩,_,_,Y,Y,(by show (0:Int)<7;decide),_,_,Y,Y,k H (Same.refl H)⟩
 have z0:¬ c % 4=0:=by simpa using z
 refine ⟨_,Y,Y,_,Y,?_⟩;refine yw (λz=>?_) (λz=>?_)
 .have z1:c % 4=1:=by simpa using z
  have e:yo c=edges.getD (c / 4 % 6).toNat 0:=by unfold yo;rw [if_neg z0,if_pos z1]
  rw [e] at k;refine ⟨_,Y,_,Y,_,Y,(by show 6<=mI;decide),λl hl=>?_⟩;refine ⟨_,Y,_,Y,_,_,Y,Y,⟨by decide,by decide⟩,_,_,Y,Y,(by show (0:Int)<6;decide),l,edges.map V.int,_,V.int (edges.getD (c / 4 % 6).toNat 0),Y,Y,SqL.of zh,?_,k _ λb o q=>by rw [zj (zr q hl)];exact q⟩;have hz:(((c / 4 % 6).toNat:Nat):Int)=c / 4 % 6:=by omega
  rw [← hz];exact zB (edge_at _ (by omega)).1
 have z1:¬ c % 4=1:=by simpa using z
 refine ⟨_,Y,Y,_,Y,?_⟩;refine yw (λz=>?_) (λz=>?_)
 .have z2:c % 4=2:=by simpa using z
  have e:yo c=c / 4*48271 % 2001-1000:=by unfold yo;rw [if_neg z0,if_neg z1,if_pos z2]
  rw [e] at k;exact ⟨_,Y,_,_,Y,Y,⟨by decide,by decide⟩,_,_,Y,Y,.inr ⟨by decide,by decide⟩,_,_,Y,Y,(by show (0:Int)<2001;decide),_,_,Y,Y,k H (Same.refl H)⟩
 have z2:¬ c % 4=2:=by simpa using z
 have e:yo c=c / 4*2862933555777941757 % 18446744073709551616-9223372036854775808:=by unfold yo;rw [if_neg z0,if_neg z1,if_neg z2]
 rw [e] at k;exact ⟨_,Y,_,_,Y,Y,⟨by decide,by decide⟩,_,_,Y,Y,.inr ⟨by decide,by decide⟩,_,_,Y,Y,(by show (0:Int)<18446744073709551616;decide),_,_,Y,Y,k H (Same.refl H)⟩
structure Ints (K:Fg) (mg:J0):Prop where
 isi:mg "isinstance"=O
 int:mg "int"=O
 bool:mg "bool"=O
 ii:mE K (.type "int") (.type "int")=Z true
 ib:mE K (.type "int") (.type "bool")=Z false
def ok_whole (d:zk K mg "_law_whole" YA ["_law_found"]) (N:Ints K mg):Ok P w K mg base (CXe P w base) 1 "_law_whole" ["_law_found"] (sp1 λ_=>.bl true):=by
 refine oDe (len:=len1) d zfa λf mx A _ s H vs Q E hr h=>?_;obtain ⟨n,rfl,k⟩:=h;refine ⟨_,zf (zm (zc1 (zp zE rfl N.isi m7 (zb (pv 0) (zb (XA N.int PyProof.Rows.boot_int) zc)))
  (zc0 (pe_not (zp zE rfl N.isi m7 (zb (pv 0) (zb (XA N.bool PyProof.Rows.boot_bool) zc))))))),?_⟩
 refine ⟨_,Y,_,_,.type "int",.type "int",true,Y,Y,(λu r=>r),.inl (.int n),N.ii,true,Y,?_⟩;exact Yl ⟨_,Y,_,_,.type "bool",.type "int",false,Y,Y,(λu r=>r),.inl (.int n),N.ib,false,Y,k⟩
def zV {H H':Hp} {x dx:Ad} {o1 o2:HO} (nx:H x=O) (ndx:H dx=O) (k:∀ b o,b≠x->upd (upd H dx o1) x o2 b=Z o->H' b=Z o):Same H H':=λc o z=>k c o (zr z nx) (by rw [zj (zr z nx),zj (zr z ndx)];exact z)
inductive spI_Number (C:Ad) (vs:Jj) (H:Hp) (Q:VK) (_:XK):Prop
 | mk (x dx:Ad) (u0:V) (_:vs=[.ref x,u0]) (_:H x=Z (.ins C dx [])) (_:∀ H',(∀ b o,b≠x->H b=Z o->H' b=Z o)->H' x=Z (.ins C dx [("number",u0)])->Q .non H')
def zfl {C:Ad} (d:yq K C "Number.__init__" xO Uk) (cl:Cls K C) (n0:NoAttr K C "number"):OkI P w K mg base (CXe P w base) 1 C Uk (spI_Number C):=by
 refine oIe d zaj λf mx A _ s H vs Q E hr h=>?_;obtain ⟨x,dx,u0,rfl,hx,k⟩:=h;refine ⟨_,(zf (zt (pv 0) (pv 1) rfl)),?_⟩;refine ⟨_,Y,_,Y,x,C,dx,[],Y,hx,cl,n0,(by show 0<1000;decide),?_⟩
 exact k _ (λb o nb z=>by
  rw [zj nb];exact z) zh
inductive spI_Cell (C:Ad) (vs:Jj) (H:Hp) (Q:VK) (_:XK):Prop
 | mk (x dx:Ad) (u0:V) (_:vs=[.ref x,u0]) (_:H x=Z (.ins C dx [])) (_:∀ H',(∀ b o,b≠x->H b=Z o->H' b=Z o)->H' x=Z (.ins C dx [("row",u0)])->Q .non H')
def okI_Cell {C:Ad} (d:yq K C "Cell.__init__" ZU Us) (cl:Cls K C) (n0:NoAttr K C "row"):OkI P w K mg base (CXe P w base) 1 C Us (spI_Cell C):=by
 refine oIe d zcp λf mx A _ s H vs Q E hr h=>?_;obtain ⟨x,dx,u0,rfl,hx,k⟩:=h;refine ⟨_,(zf (zt (pv 0) (pv 1) rfl)),?_⟩;refine ⟨_,Y,_,Y,x,C,dx,[],Y,hx,cl,n0,(by show 0<1000;decide),?_⟩
 exact k _ (λb o nb z=>by
  rw [zj nb];exact z) zh
inductive spI_Pair (C:Ad) (vs:Jj) (H:Hp) (Q:VK) (_:XK):Prop
 | mk (x dx:Ad) (u0 u1 u2:V) (_:vs=[.ref x,u0,u1,u2]) (_:H x=Z (.ins C dx [])) (_:∀ H',(∀ b o,b≠x->H b=Z o->H' b=Z o)->H' x=Z (.ins C dx [("sign",u0),("left",u1),("right",u2)])->Q .non H')
def okI_Pair {C:Ad} (d:yq K C "Pair.__init__" ZR qU) (cl:Cls K C) (n0:NoAttr K C "sign") (n1:NoAttr K C "left") (n2:NoAttr K C "right"):OkI P w K mg base (CXe P w base) 1 C qU (spI_Pair C):=by
 refine oIe d zcn λf mx A _ s H vs Q E hr h=>?_;obtain ⟨x,dx,u0,u1,u2,rfl,hx,k⟩:=h;refine ⟨_,(zd (zt (pv 0) (pv 1) rfl) (zd (zt (pv 0) (pv 2) rfl) (zf (zt (pv 0) (pv 3) rfl)))),?_⟩;refine ⟨_,Y,_,Y,x,C,dx,[],Y,hx,cl,n0,(by show 0<1000;decide),?_⟩;refine ⟨_,Y,_,Y,x,C,dx,[("sign",u0)],Y,zh,cl,n1,(by show 1<1000;decide),?_⟩;refine ⟨_,Y,_,Y,x,C,dx,[("sign",u0),("left",u1)],Y,zh,cl,n2,(by show 2<1000;decide),?_⟩
 exact k _ (λb o nb z=>by
  rw [zj nb,zj nb,zj nb];exact z) zh
inductive spI_Choice (C:Ad) (vs:Jj) (H:Hp) (Q:VK) (_:XK):Prop
 | mk (x dx:Ad) (u0 u1 u2:V) (_:vs=[.ref x,u0,u1,u2]) (_:H x=Z (.ins C dx [])) (_:∀ H',(∀ b o,b≠x->H b=Z o->H' b=Z o)->H' x=Z (.ins C dx [("test",u0),("left",u1),("right",u2)])->Q .non H')
def zfm {C:Ad} (d:yq K C "Choice.__init__" xQ qZ) (cl:Cls K C) (n0:NoAttr K C "test") (n1:NoAttr K C "left") (n2:NoAttr K C "right"):OkI P w K mg base (CXe P w base) 1 C qZ (spI_Choice C):=by
 refine oIe d zal λf mx A _ s H vs Q E hr h=>?_;obtain ⟨x,dx,u0,u1,u2,rfl,hx,k⟩:=h;refine ⟨_,(zd (zt (pv 0) (pv 1) rfl) (zd (zt (pv 0) (pv 2) rfl) (zf (zt (pv 0) (pv 3) rfl)))),?_⟩;refine ⟨_,Y,_,Y,x,C,dx,[],Y,hx,cl,n0,(by show 0<1000;decide),?_⟩;refine ⟨_,Y,_,Y,x,C,dx,[("test",u0)],Y,zh,cl,n1,(by show 1<1000;decide),?_⟩;refine ⟨_,Y,_,Y,x,C,dx,[("test",u0),("left",u1)],Y,zh,cl,n2,(by show 2<1000;decide),?_⟩
 exact k _ (λb o nb z=>by
  rw [zj nb,zj nb,zj nb];exact z) zh
inductive spI_Aim (C:Ad) (vs:Jj) (H:Hp) (Q:VK) (_:XK):Prop
 | mk (x dx:Ad) (u0 u1 u2 u3:V) (_:vs=[.ref x,u0,u1,u2,u3]) (_:H x=Z (.ins C dx [])) (_:∀ H',(∀ b o,b≠x->H b=Z o->H' b=Z o)->H' x=Z (.ins C dx [("seat",u0),("mask",u1),("level",u2),("own",u3)])->Q .non H')
def okI_Aim {C:Ad} (d:yq K C "Aim.__init__" Yi qH) (cl:Cls K C) (n0:NoAttr K C "seat") (n1:NoAttr K C "mask") (n2:NoAttr K C "level") (n3:NoAttr K C "own"):OkI P w K mg base (CXe P w base) 1 C qH (spI_Aim C):=by
 refine oIe d zdx λf mx A _ s H vs Q E hr h=>?_;obtain ⟨x,dx,u0,u1,u2,u3,rfl,hx,k⟩:=h;refine ⟨_,(zd (zt (pv 0) (pv 1) rfl) (zd (zt (pv 0) (pv 2) rfl) (zd (zt (pv 0) (pv 3) rfl) (zf (zt (pv 0) (pv 4) rfl))))),?_⟩;refine ⟨_,Y,_,Y,x,C,dx,[],Y,hx,cl,n0,(by show 0<1000;decide),?_⟩;refine ⟨_,Y,_,Y,x,C,dx,[("seat",u0)],Y,zh,cl,n1,(by show 1<1000;decide),?_⟩;refine ⟨_,Y,_,Y,x,C,dx,[("seat",u0),("mask",u1)],Y,zh,cl,n2,(by show 2<1000;decide),?_⟩;refine ⟨_,Y,_,Y,x,C,dx,[("seat",u0),("mask",u1),("level",u2)],Y,zh,cl,n3,(by show 3<1000;decide),?_⟩
 exact k _ (λb o nb z=>by
  rw [zj nb,zj nb,zj nb,zj nb];exact z) zh
inductive spI_Let (C:Ad) (vs:Jj) (H:Hp) (Q:VK) (_:XK):Prop
 | mk (x dx:Ad) (u0 u1 u2:V) (_:vs=[.ref x,u0,u1,u2]) (_:H x=Z (.ins C dx [])) (_:∀ H',(∀ b o,b≠x->H b=Z o->H' b=Z o)->H' x=Z (.ins C dx [("target",u0),("value",u1),("test",u2)])->Q .non H')
def okN_Let {C:Ad} (d:InitN K C "Let.__init__" xJ qW) (cl:Cls K C) (n0:NoAttr K C "target") (n1:NoAttr K C "value") (n2:NoAttr K C "test"):OkN P w K mg base (CXe P w base) 1 C qW (spI_Let C):=by
 obtain ⟨f,fd,m,F,bd,bn⟩:=d;refine ⟨f,fd,m,bd,bn,F.okE zdw (by rintro vs H Q E ⟨_,_,_,_,_,e,_⟩;rw [e];rfl) λmx A outer s H vs Q E hr h=>?_⟩;obtain ⟨x,dx,u0,u1,u2,rfl,hx,k⟩:=h;refine ⟨_,(zd (zt (pv 0) (pv 1) rfl) (zd (zt (pv 0) (pv 2) rfl) (zf (zt (pv 0) (pv 3) rfl)))),?_⟩;refine ⟨_,Y,_,Y,x,C,dx,[],Y,hx,cl,n0,(by show 0<1000;decide),?_⟩;refine ⟨_,Y,_,Y,x,C,dx,[("target",u0)],Y,zh,cl,n1,(by show 1<1000;decide),?_⟩;refine ⟨_,Y,_,Y,x,C,dx,[("target",u0),("value",u1)],Y,zh,cl,n2,(by show 2<1000;decide),?_⟩
 exact k _ (λb o nb z=>by
  rw [zj nb,zj nb,zj nb];exact z) zh
structure FCls (K:Fg) (C:Ad):Prop where
 c:Cls K C
 n1:NoAttr K C "numbers"
 n2:NoAttr K C "at"
abbrev YT (C dx:Ad) (l:Ad) (p:Int):HO:=.ins C dx [("numbers",.ref l),("at",.int p)]
def fAt (ns:J6) (q:Nat):Int:=if ns.length=0 then 0 else ((q % ns.length:Nat):Int)
def fVal (ns:J6) (q:Nat):Int:=ns.getD (q % ns.length) 0
inductive spInitF (K:Fg) (C:Ad) (vs:Jj) (H:Hp) (Q:VK) (_:XK):Prop
 | mk (x dx a:Ad) (ns:J6) (_:vs=[.ref x,.ref a]) (_:H x=Z (.ins C dx [])) (_:SqL K H a (ns.map V.int)) (_:∀ (H':Hp) (l:Ad),(∀ b o,b≠x->H b=Z o->H' b=Z o)->H l=O->H' x=Z (YT C dx l 0)->H' l=Z (.lst (ns.map V.int))->Q .non H')
def ok_initF {C:Ad} (d:yq K C "Feed.__init__" ZT Uy) (b:FCls K C) (hlist:mg "list"=O):OkI P w K mg base CX0 1 C Uy (spInitF K C):=by
 refine oIf d zco λf mx A _ s H vs Q E hr h=>?_;obtain ⟨x,dx,a,ns,rfl,hx,hS,k⟩:=h;refine ⟨_,(zd (zt (pv 0) (xo xb (by rfl) hlist oI (zb (pv 1) zc)) rfl)
   (zf (zt (pv 0) zg rfl))),?_⟩
 dsimp only [yh,Cx.nox,Cx.wish];refine ⟨_,Y,a,_,Y,.inl hS,λl nl=>?_⟩;have nx:x≠l:=zr hx nl;refine ⟨_,Y,x,C,dx,[],Y,by rw [zj nx];exact hx,b.c,b.n1,by decide,?_⟩;refine ⟨_,Y,x,C,dx,[("numbers",.ref l)],Y,zh,b.c,b.n2,(by show 1<1000;decide),?_⟩;refine k _ l (λc o nc z=>?_) nl zh ?_
 .rw [zj nc,zj nc,zj (zr z nl)]
  exact z
 .rw [zj (oQ nx),zj (oQ nx),zh]
inductive spTaken (C:Ad) (vs:Jj) (H:Hp) (Q:VK) (_:XK):Prop
 | mk (x dx l:Ad) (ns:J6) (q:Nat) (_:vs=[.ref x]) (_:H x=Z (YT C dx l (fAt ns q))) (_:H l=Z (.lst (ns.map V.int))) (_:∀ H',(∀ b o,b≠x->H b=Z o->H' b=Z o)->H' x=Z (YT C dx l (fAt ns (q+1)))->Q (.int (fVal ns q)) H')
def ok_taken {C:Ad} (d:zN K C "taken" "Feed.taken" Zm ["self"]) (b:FCls K C) (hlen:mg "len"=O):OkM P w K mg base CX0 1 C "taken" ["self"] (spTaken C):=by
 refine oMf d sc_Feed_taken λf mx A _ s H vs Q E hr h=>?_;obtain ⟨x,dx,l,ns,q,rfl,hx,hl,k⟩:=h;have nd:=sc_Feed_taken.nd;refine ⟨_,(zd (zO (zJ Zc (zp zH (by rfl) hlen o6 (zb (zi (pv 0) rfl) zc)) zg (zM _)) (zf (zm zg)) zC)
   (zd (oRz 1 nd (zv z6 (zi (pv 0) rfl) (zi (pv 0) rfl) (λ_ _=>rfl)))
   (zd (zt (pv 0) (zn yP (zn zQ (zi (pv 0) rfl) zg) (zp zH (by rfl) hlen o6 (zb (zi (pv 0) rfl) zc))) rfl)
   (zf (zm (pv 1)))))),?_⟩
 dsimp only [yh,Cx.nox,Cx.wish];refine ⟨_,Y,x,C,dx,_,.ref l,Y,hx,b.c,b.n1,Y,l,_,Y,.inl (SqL.of hl),Y,_,Y,?_⟩;rw [Je];refine yw (λz=>?_) (λz=>?_)
 .have z:(ns.length:Int)=0:=by simpa using z
  have e:ns=[]:=rR.mp (by omega);subst e;exact k H (λb o _ z=>z) hx
 .have z:ns.length≠0:=by simpa using z
  have lt:q % ns.length<ns.length:=Nat.mod_lt _ (by omega);have e1:fAt ns q=((q % ns.length:Nat):Int):=if_neg z;have e2:fAt ns (q+1)=(((q+1) % ns.length:Nat):Int):=if_neg z;have nx:x≠l:=ne_of hx hl (by intro y;cases y);refine ⟨_,Y,x,C,dx,_,.ref l,Y,hx,b.c,b.n1,Y,_,Y,x,C,dx,_,.int (fAt ns q),Y,hx,b.c,b.n2,Y,l,_,_,_,Y,Y,SqL.of hl,xc (q % ns.length) lt e1,?_⟩;refine ⟨_,Y,x,C,dx,_,.int (fAt ns q),Y,hx,b.c,b.n2,Y,_,_,Y,Y,_,Y,x,C,dx,_,.ref l,Y,hx,b.c,b.n1,Y,l,_,Y,.inl (SqL.of hl),_,_,Y,Y,(by rw [Je];omega),?_⟩;refine ⟨_,Y,x,C,dx,_,Y,hx,b.c,b.n2,(by show 2<1000;decide),?_⟩;refine ⟨_,Y,k _ (λc o nc z=>by rw [zj nc];exact z) ?_⟩
  have e3:(fAt ns q+1) % ((ns.map V.int).length:Int)=fAt ns (q+1):=by
   rw [e1,e2,Je];have h1:(((q % ns.length:Nat):Int)+1)=((q % ns.length+1:Nat):Int):=by omega
   rw [h1,← Int.natCast_emod,Nat.mod_add_mod]
  rw [zh,← e3];rfl
structure BCls (K:Fg) (C:Ad):Prop where
 c:Cls K C
 n1:NoAttr K C "lanes"
 n2:NoAttr K C "numbers"
abbrev boxO (C dx:Ad) (L:Int) (l:Ad):HO:=.ins C dx [("lanes",.int L),("numbers",.ref l)]
inductive spInitB (C:Ad) (vs:Jj) (H:Hp) (Q:VK) (_:XK):Prop
 | mk (x dx:Ad) (L:Int) (_:vs=[.ref x,.int L]) (_:H x=Z (.ins C dx [])) (_:1<=L) (_:L<=64) (_:∀ (H':Hp) (l:Ad),(∀ b o,b≠x->H b=Z o->H' b=Z o)->H l=O->H' x=Z (boxO C dx L l)->H' l=Z (.lst ((mT (8*L).toNat (0:Int)).map V.int))->Q .non H')
def ok_initB {C:Ad} {t:Tok} (d:yq K C "Boxes.__init__" Zn ["self","lanes"]) (b:BCls K C) (hMB:mg "MANY_BOXES"=Z (.int 8 t)):OkI P w K mg base CX0 1 C ["self","lanes"] (spInitB C):=by
 refine oIf d zbp λf mx A _ s H vs Q E hr h=>?_;obtain ⟨x,dx,L,rfl,hx,h1,h2,k⟩:=h;refine ⟨_,zd (zt (pv 0) (pv 1) rfl) (zf (zt (pv 0) (zn zc4 (yn (zb zg zc)) (zn yH (xC hMB) (pv 1))) rfl)),?_⟩;refine ⟨_,Y,_,Y,x,C,dx,[],Y,hx,b.c,b.n1,by decide,?_⟩;refine ⟨(by show 1<=mI;decide),λt nt=>⟨_,Y,_,_,Y,Y,.inl ⟨by decide,by decide⟩,t,_,_,Y,Y,zh,by omega,by omega,?_,λl nl=>?_⟩⟩
 .show 1*(8*L).toNat<=mI
  have:(600:Nat)<=sizeLine:=by decide
  omega
 have nx:x≠t:=zr (o:=.ins C dx [("lanes",.int L)]) zh nt;have nl':x≠l:=zr (o:=.ins C dx [("lanes",.int L)]) (by rw [zj nx,zh];rfl) nl;refine ⟨_,Y,x,C,dx,[("lanes",.int L)],Y,?_,b.c,b.n2,(by show 1<1000;decide),?_⟩
 .rw [zj nl',zj nx,zh];rfl
 rw [rep_ints];have lt:l≠t:=oQ (zr (o:=.lst [.int 0]) zh nl)
 have hl:H l=O:=by
  have z:=nl;rw [zj lt,zj (oQ nl')] at z;exact z
 have ht:H t=O:=by
  have z:=nt;rw [zj (oQ nx)] at z;exact z
 refine k _ l (λc o nc z=>?_) hl zh ?_
 .rw [zj nc,zj (zr z hl),zj (zr z ht),zj nc]
  exact z
 .rw [zj (oQ nl'),zh]
inductive spSpot (C:Ad) (vs:Jj) (H:Hp) (Q:VK) (_:XK):Prop
 | mk (x dx l:Ad) (L g p j:Int) (_:vs=[.ref x,.int g,.int p,.int j]) (_:H x=Z (boxO C dx L l)) (_:1<=L) (_:L<=64) (_:1<=g) (_:g<=4) (_:Q (.int (p*g*L+j)) H)
def ok_spot {C:Ad} (d:zN K C "spot_of" "Boxes.spot_of" xj qG) (b:BCls K C):OkM P w K mg base CX0 1 C "spot_of" qG (spSpot C):=by
 refine oMf d Xw λf mx A _ s H vs Q E hr h=>?_;obtain ⟨x,dx,l,L,g,p,j,rfl,hx,h1,h2,h3,h4,k⟩:=h;refine ⟨_,(zf (zm (zn zQ (zn yH (zn yH (pv 2) (pv 1)) (zi (pv 0) rfl)) (pv 3)))),?_⟩;dsimp only [yh,Cx.nox,Cx.wish];exact ⟨_,Y,_,Y,_,_,Y,Y,.inr ⟨by omega,by omega⟩,_,Y,x,C,dx,_,.int L,Y,hx,b.c,b.n1,Y,_,_,Y,Y,.inr ⟨by omega,by omega⟩,_,Y,_,_,Y,Y,k⟩
inductive spLay (C:Ad) (vs:Jj) (H:Hp) (Q:VK) (_:XK):Prop
 | mk (x dx l:Ad) (L g p j n:Int) (nums:J6) (_:vs=[.ref x,.int g,.int p,.int j,.int n]) (_:H x=Z (boxO C dx L l)) (_:H l=Z (.lst (nums.map V.int))) (_:1<=L) (_:L<=64) (_:1<=g) (_:g<=4) (_:0<=p*g*L+j) (_:p*g*L+j<nums.length) (_:Q .non (upd H l (.lst ((nums.set (p*g*L+j).toNat n).map V.int))))
def ok_lay {C:Ad} (d:zN K C "lay" "Boxes.lay" ZV qP) (b:BCls K C) (SO:OkM P w K mg base CX0 1 C "spot_of" qG (spSpot C)):OkM P w K mg base CX0 2 C "lay" qP (spLay C):=by
 refine oMf d zcq λf mx A _ s H vs Q E hr h=>?_;obtain ⟨x,dx,l,L,g,p,j,n,nums,rfl,hx,hl,h1,h2,h3,h4,h5,h6,k⟩:=h;have hr1:=hr;have cC:=b.c;refine ⟨_,(zf (zar (pv 4) (zas (zi (pv 0) rfl) (zX SO cC hr1 zo (pv 0) (zb (pv 1) (zb (pv 2) (zb (pv 3) zc)))) Ys))),?_⟩;dsimp only [yh,Cx.nox,Cx.wish];refine ⟨_,Y,_,Y,x,C,dx,_,.ref l,Y,hx,b.c,b.n2,Y,_,Y,x,dx,_,Y,hx,Y,_,Y,_,Y,_,Y,x,dx,l,L,g,p,j,Y,hx,h1,h2,h3,h4,?_⟩;refine ⟨l,_,_,_,Y,Y,hl,ixN_nat h5 (by rw [Je];exact h6),?_⟩;rw [set_ints];exact k
inductive spNum (C:Ad) (vs:Jj) (H:Hp) (Q:VK) (_:XK):Prop
 | mk (x dx l:Ad) (L g p j:Int) (nums:J6) (_:vs=[.ref x,.int g,.int p,.int j]) (_:H x=Z (boxO C dx L l)) (_:H l=Z (.lst (nums.map V.int))) (_:1<=L) (_:L<=64) (_:1<=g) (_:g<=4) (_:0<=p*g*L+j) (_:p*g*L+j<nums.length) (_:Q (.int (nums.getD (p*g*L+j).toNat 0)) H)
def ok_num {C:Ad} (d:zN K C "number_at" "Boxes.number_at" yK qG) (b:BCls K C) (SO:OkM P w K mg base CX0 1 C "spot_of" qG (spSpot C)):OkM P w K mg base CX0 2 C "number_at" qG (spNum C):=by
 refine oMf d YX λf mx A _ s H vs Q E hr h=>?_;obtain ⟨x,dx,l,L,g,p,j,nums,rfl,hx,hl,h1,h2,h3,h4,h5,h6,k⟩:=h;have hr1:=hr;have cC:=b.c;refine ⟨_,(zf (zm (zv z6 (zi (pv 0) rfl) (zX SO cC hr1 zo (pv 0) (zb (pv 1) (zb (pv 2) (zb (pv 3) zc)))) (λ_ _=>rfl)))),?_⟩;dsimp only [yh,Cx.nox,Cx.wish];exact ⟨_,Y,x,C,dx,_,.ref l,Y,hx,b.c,b.n2,Y,_,Y,x,dx,_,Y,hx,Y,_,Y,_,Y,_,Y,x,dx,l,L,g,p,j,Y,hx,h1,h2,h3,h4,l,_,_,_,Y,Y,SqL.of hl,xc (p*g*L+j).toNat (by omega) (by omega),k⟩
end
end K45
namespace L2
open PySem
def Xh {X:Cx} {K:Fg} {e:Expr} {f:Str} {pos:Pos} {ta:TE} (h:X.K=K) (he:PE X e ta) (hb:tJ e f X.env (eval e X.env)=eval e X.env):PE X (.Attribute e f pos) (tFld K ta f):=h ▸ zi he hb
end L2
namespace K45
open PySem L2 FM
variable {K:Fg} {base:Heap}
structure MCs where
 bx:Ad
 fe:Ad
 bn:Ad
structure Mc where
 lens:J6
 starts:J6
 cells:J6
 lq:Nat
 nums:J6
 mq:List (List Bool)
 slots:Jh
 dust:J6
 dq:Nat
 picks:J6
 pq:Nat
 tq:List (Int×Str×Int)
 pc:Int
 oq:Int
 mn_:Int
 group:Int
 base:Int
 bq:Int
 wq:Int
 fq:Jh
 cut:Option Int
 cq:Option Int
 raised:Bool
 turns:List (Int×Int)
 rq_:Option (Int×Int×Str)
structure Ma where
 b:Ad
 db:Ad
 aL:Ad
 aS:Ad
 aC:Ad
 bx:Ad
 dbx:Ad
 aN:Ad
 aM:Ad
 aSl:Ad
 fd:Ad
 dfd:Ad
 aD:Ad
 fp:Ad
 dfp:Ad
 aP:Ad
 aT:Ad
 aF:Ad
 aU:Ad
 ms:Jc
 ts:Jc
 us:Jc
 rf:V
def oV:Option Int->V
 | none=>.non
 | some n=>.int n
def xu (A:Ma) (M:Mc):List (Str×V):=[("lengths",.ref A.aL),("starts",.ref A.aS),("cells",.ref A.aC),("lanes",.int M.lq),("boxes",.ref A.bx),("masks",.ref A.aM),("slots",.ref A.aSl),("dust",.ref A.fd),("picks",.ref A.fp),("touches",.ref A.aT),("at",.int M.pc),("opened",.int M.oq),("many",.int M.mn_),("group",.int M.group),("base",.int M.base),("begun",.int M.bq),("width",.int M.wq),("faults",.ref A.aF),("cut",oV M.cut),("carried",oV M.cq),("raised",.bl M.raised),("turns",.ref A.aU),("refusal",A.rf)]
def Z6 (A:Ma) (M:Mc):Ji:=(A.ms.zip M.mq).map λp=>(p.1,.lst (p.2.map V.bl))
def objs (c:MCs) (A:Ma) (M:Mc) (R:Ji):Ji :=
 (A.b,.ins c.bn A.db (xu A M))::(A.aC,.lst (M.cells.map V.int))::(A.aN,.lst (M.nums.map V.int))::(A.aSl,.dK M.slots)::(A.fd,YT c.fe A.dfd A.aD (fAt M.dust M.dq))::(A.fp,YT c.fe A.dfp A.aP (fAt M.picks M.pq))::(A.aT,.lst (A.ts.map V.ref))::(A.aF,.dK M.fq)::(A.aU,.lst (A.us.map V.ref))::(Z6 A M++R)
structure BenchB (c:MCs) (B:Hp) (A:Ma) (M:Mc):Prop where
 lens:B A.aL=Z (.lst (M.lens.map V.int))
 starts:B A.aS=Z (.lst (M.starts.map V.int))
 bx:B A.bx=Z (boxO c.bx A.dbx M.lq A.aN)
 msk:B A.aM=Z (.lst (A.ms.map V.ref))
 ml:A.ms.length=M.mq.length
 dl:B A.aD=Z (.lst (M.dust.map V.int))
 pl:B A.aP=Z (.lst (M.picks.map V.int))
 tl:A.ts.length=M.tq.length
 tt:∀ (i:Nat) (t:Ad) (p:Int×Str×Int),A.ts[i]?=Z t->M.tq[i]?=Z p->B t=Z (.tup [.int p.1,.str p.2.1,.int p.2.2])
 ul:A.us.length=M.turns.length
 uu:∀ (i:Nat) (t:Ad) (p:Int×Int),A.us[i]?=Z t->M.turns[i]?=Z p->B t=Z (.tup [.int p.1,.int p.2])
 rf:match M.rq_ with
  | none=>A.rf=.non
  | some r=>∃ t,A.rf=.ref t/\B t=Z (.tup [.int r.1,.int r.2.1,.str r.2.2])
def BenchB.same {c:MCs} {B B':Hp} {A:Ma} {M:Mc} (h:BenchB c B A M) (s:Same B B'):BenchB c B' A M:=by
 refine ⟨s _ _ h.lens,s _ _ h.starts,s _ _ h.bx,s _ _ h.msk,h.ml,s _ _ h.dl,s _ _ h.pl,h.tl,λi t p a b=>s _ _ (h.tt i t p a b),h.ul,λi t p a b=>s _ _ (h.uu i t p a b),?_⟩;have:=h.rf;revert this
 cases M.rq_ with
 | none=>exact λz=>z
 | some r=>exact λ⟨t,a,b⟩=>⟨t,a,s _ _ b⟩
structure NCls (K:Fg) (C:Ad):Prop where
 c:Cls K C
 lengths:NoAttr K C "lengths"
 starts:NoAttr K C "starts"
 cells:NoAttr K C "cells"
 lq:NoAttr K C "lanes"
 boxes:NoAttr K C "boxes"
 mq:NoAttr K C "masks"
 slots:NoAttr K C "slots"
 dust:NoAttr K C "dust"
 picks:NoAttr K C "picks"
 tq:NoAttr K C "touches"
 pc:NoAttr K C "at"
 oq:NoAttr K C "opened"
 mn_:NoAttr K C "many"
 group:NoAttr K C "group"
 base:NoAttr K C "base"
 bq:NoAttr K C "begun"
 wq:NoAttr K C "width"
 fq:NoAttr K C "faults"
 cut:NoAttr K C "cut"
 cq:NoAttr K C "carried"
 raised:NoAttr K C "raised"
 turns:NoAttr K C "turns"
 rq_:NoAttr K C "refusal"
structure MCls (K:Fg) (c:MCs):Prop where
 b:BCls K c.bx
 f:FCls K c.fe
 n:NCls K c.bn
structure MAt (c:MCs) (B:Hp) (A:Ma) (M:Mc) (R:Ji) (H:Hp):Prop where
 bb:BenchB c B A M
 h:Hd B (objs c A M R) H
def MAt.b {c:MCs} {B:Hp} {A:Ma} {M:Mc} {R:Ji} {H:Hp} (m:MAt c B A M R H):H A.b=Z (.ins c.bn A.db (xu A M)):=m.h.get 0 rfl
def MAt.grow {c:MCs} {B:Hp} {A:Ma} {M:Mc} {R:Ji} {H:Hp} {t:Ad} {o:HO} (m:MAt c B A M R H) (n:H t=O):MAt c (upd B t o) A M R (upd H t o):=by
 have sB:Same B (upd B t o):=zu (Same.refl _) (m.h.free n);refine ⟨m.bb.same sB,m.h.nd,λp q=>?_,λp q=>?_,λb u z=>?_⟩
 .rw [zj (zr (m.h.st p q) n)];exact m.h.nw p q
 .rw [zj (zr (m.h.st p q) n)];exact m.h.st p q
 .by_cases e:b=t
  .subst e;rw [zh] at z ⊢;exact z
  .rw [zj e] at z ⊢;exact m.h.sm _ _ z
def Mc.touched (M:Mc) (kind:Str) (a:Int):Mc:={ M with tq:=M.tq++[(M.pc,kind,a)] }
inductive spTouch (c:MCs) (vs:Jj) (H:Hp) (Q:VK) (_:XK):Prop
 | mk (B:Hp) (A:Ma) (M:Mc) (R:Ji) (kind:Str) (a:Int) (_:vs=[.ref A.b,.str kind,.int a]) (_:MAt c B A M R H) (_:M.tq.length<100000) (_:∀ B' A' H',Same B B'->A'.b=A.b->MAt c B' A' (M.touched kind a) R H'->Q .non H')
def ok_touch {c:MCs} (d:zN K c.bn "touch" "Bench.touch" xR qM) (CN:NCls K c.bn):OkM P w K mg base CX0 1 c.bn "touch" qM (spTouch c):=by
 refine oMf d zam λf mx A _ s H vs Q E hr h=>?_;obtain ⟨B,A,M,R,kind,a,rfl,m,hl,k⟩:=h;refine ⟨_,(zf (zy (Zb mU mZ mY ye (zi (pv 0) rfl) (zb (yb (zb (zi (pv 0) rfl) (zb (pv 1) (zb (pv 2) zc)))) zc)))),?_⟩;dsimp only [yh,Cx.nox,Cx.wish];refine ⟨_,Y,A.b,_,_,_,.ref A.aT,Y,m.b,CN.c,CN.tq,Y,.inl ⟨Y,_,m.h.lst 6 rfl⟩,_,Y,A.b,_,_,_,.int M.pc,Y,m.b,CN.c,CN.pc,Y,_,Y,_,Y,(by show 3<=mI;decide),λt nt=>?_⟩;have sB:Same B (upd B t (.tup [.int M.pc,.str kind,.int a])):=zu (Same.refl _) (m.h.free nt);have m1:=m.grow (o:=.tup [.int M.pc,.str kind,.int a]) nt;have e1:upd B t (.tup [.int M.pc,.str kind,.int a]) t=Z (.tup [.int M.pc,.str kind,.int a]):=zh;generalize upd B t (.tup [.int M.pc,.str kind,.int a])=B1 at sB m1 e1;have tl:=m.bb.tl;refine ⟨A.aT,_,_,Y,Y,m1.h.get 6 rfl,(by rw [Je];exact nk (show A.ts.length<=100000 by omega) (by decide)),?_⟩;have h2:=m1.h.put (o':=.lst ((A.ts++[t]).map V.ref)) 6 rfl;rw [Jg] at h2;refine k B1 { A with ts:=A.ts++[t] } _ sB rfl ⟨⟨m1.bb.lens,m1.bb.starts,m1.bb.bx,m1.bb.msk,m1.bb.ml,m1.bb.dl,m1.bb.pl,?_,λi t' p a1 a2=>?_,m1.bb.ul,m1.bb.uu,m1.bb.rf⟩,?_⟩
 .show (A.ts++[t]).length=(M.tq++[_]).length
  rw [Jf,Jf,tl];rfl
 .have a1:(A.ts++[t])[i]?=Z t':=a1
  have a2:(M.tq++[(M.pc,kind,a)])[i]?=Z p:=a2;by_cases z:i<A.ts.length
  .rw [q9x z] at a1
   rw [q9x (by omega)] at a2;exact m1.bb.tt i t' p a1 a2
  .rw [oh (by omega)] at a1 a2
   rw [tl] at a1
   cases e:i-M.tq.length with
   | zero=>rw [e] at a1 a2;cases a1;cases a2;exact e1
   | succ j=>rw [e] at a1;cases a1
 .show Hd B1 (objs c { A with ts:=A.ts++[t] } (M.touched kind a) R) _
  have e:(A.ts++[t]).map V.ref=A.ts.map V.ref++[V.ref t]:=by rw [Jg];rfl
  unfold objs;rw [e];exact h2
section
variable {c:MCs} {B:Hp} {A:Ma} {M:Mc} {R:Ji} {J:Hp} {a:Ad} {o o':HO}
def MAt.adopt (m:MAt c B A M R H) (h:Hd H [(a,o)] J):MAt c (upd B a o) A M R J:=by
 have na:H a=O:=h.nw _ (mV.mpr rfl);have nb:B a=O:=m.h.free na;have sB:Same B (upd B a o):=zu (Same.refl _) nb;refine ⟨m.bb.same sB,m.h.nd,λp q=>?_,λp q=>h.sm _ _ (m.h.st p q),λb u z=>?_⟩
 .rw [zj (zr (m.h.st p q) na)];exact m.h.nw p q
 .by_cases e:b=a
  .subst e;rw [zh] at z;cases z;exact h.get 0 rfl
  .rw [zj e] at z;exact h.sm _ _ (m.h.sm _ _ z)
def MAt.newR (m:MAt c B A M R H) (n:H a=O):MAt c B A M ((a,o)::R) (upd H a o):=by
 refine ⟨m.bb,(m.h.new (o:=o) n).perm ?_⟩;unfold objs;rw [← nB,← nB,← nB,← nB,← nB,← nB,← nB,← nB,← nB];rw [← nB,← nB,← nB,← nB,← nB,← nB,← nB,← nB,← nB];exact (List.perm_middle (a:=(a,o)) (l₁:=_::_::_::_::_::_::_::_::_::Z6 A M) (l₂:=R)).symm
def atR:(objs c A M ((a,o)::R))[9+(Z6 A M).length]?=Z (a,o):=by
 unfold objs;rw [show 9+(Z6 A M).length=(Z6 A M).length+1+1+1+1+1+1+1+1+1 by omega];simp only [tW];rw [oh (m8 _),Nat.sub_self];rfl
def setR:(objs c A M ((a,o)::R)).set (9+(Z6 A M).length) (a,o')=objs c A M ((a,o')::R):=by
 unfold objs;rw [show 9+(Z6 A M).length=(Z6 A M).length+1+1+1+1+1+1+1+1+1 by omega];simp only [List.set_cons_succ];rw [List.set_append_right _ _ (m8 _),Nat.sub_self];rfl
def MAt.getR (m:MAt c B A M ((a,o)::R) H):H a=Z o:=m.h.get _ atR
def MAt.putR (m:MAt c B A M ((a,o)::R) H):MAt c B A M ((a,o')::R) (upd H a o'):=by
 have h:=m.h.put (o':=o') _ atR;rw [setR] at h;exact ⟨m.bb,h⟩
def MAt.settle (m:MAt c B A M ((a,o)::R) H):MAt c (upd B a o) A M R H:=by
 have nb:B a=O:=m.h.nw (a,o) (mP atR);have sB:Same B (upd B a o):=zu (Same.refl _) nb
 have sub:List.Sublist (objs c A M R) (objs c A M ((a,o)::R)):=by
  unfold objs;exact .cons₂ _ (.cons₂ _ (.cons₂ _ (.cons₂ _ (.cons₂ _ (.cons₂ _ (.cons₂ _ (.cons₂ _ (.cons₂ _ (List.Sublist.append (sj _) (List.sublist_cons_self _ _))))))))))
 have h:=m.h.sub sub;refine ⟨m.bb.same sB,h.nd,λp q=>?_,h.st,λb u z=>?_⟩
 .rw [zj ?_]
  .exact h.nw p q
  .intro e
   have nd:=m.h.nd;have p1:p∈objs c A M ((a,o)::R):=sub.subset q
   have:((a,o)::objs c A M R).Perm (objs c A M ((a,o)::R)):=by
    unfold objs;exact (List.perm_middle (a:=(a,o)) (l₁:=_::_::_::_::_::_::_::_::_::Z6 A M) (l₂:=R)).symm
   have nd2:=(this.map pD).symm.nodup nd;exact (pj.mp nd2).1 (by have:=List.mem_map_of_mem (f:=pD) q;rw [e] at this;exact this)
 .by_cases e:b=a
  .subst e;rw [zh] at z;cases z;exact m.getR
  .rw [zj e] at z;exact m.h.sm _ _ z
def MAt.mask (m:MAt c B A M R H) {k:Nat} (hk:k<M.mq.length):∃ x,A.ms[k]?=Z x/\H x=Z (.lst ((M.mq.getD k []).map V.bl)):=by
 have ml:=m.bb.ml;refine ⟨A.ms[k],by rw [m6 (by omega)],?_⟩;refine m.h.get (9+k) ?_;unfold objs;rw [show 9+k=k+1+1+1+1+1+1+1+1+1 by omega];simp only [tW];have lm:(Z6 A M).length=A.ms.length:=by unfold Z6;rw [Je,rQ];omega
 rw [q9x (by omega)];unfold Z6;have e:(A.ms.zip M.mq)[k]?=Z (A.ms[k],M.mq[k]):=by rw [pB];exact ⟨by rw [m6 (by omega)],by rw [m6 hk]⟩
 rw [mJ,e];show Z _=Z _;rw [q6x,m6 hk];rfl
end
def Mc.adr (M:Mc) (row:Nat) (place:Int):Int:=M.starts.getD row 0+place
inductive spRead (c:MCs) (vs:Jj) (H:Hp) (Q:VK) (_:XK):Prop
 | mk (B:Hp) (A:Ma) (M:Mc) (R:Ji) (row:Nat) (place:Int) (_:vs=[.ref A.b,.int row,.int place]) (_:MAt c B A M R H) (_:M.tq.length<100000) (_:row<M.starts.length) (_:0<=M.adr row place) (_:(M.adr row place).toNat<M.cells.length) (_:∀ B' A' H',Same B B'->A'.b=A.b->MAt c B' A' (M.touched "read" (M.adr row place)) R H'->Q (.int (M.cells.getD (M.adr row place).toNat 0)) H')
def ok_read {c:MCs} (d:zN K c.bn "read_cell" "Bench.read_cell" yM Up) (CN:NCls K c.bn) (TO:OkM P w K mg base CX0 1 c.bn "touch" qM (spTouch c)):OkM P w K mg base CX0 2 c.bn "read_cell" Up (spRead c):=by
 refine oMf d sc_Bench_read_cell λf mx A _ s H vs Q E hr h=>?_;obtain ⟨B,A,M,R,row,place,rfl,m,hl,h0,h1,h2,k⟩:=h;have nd:=sc_Bench_read_cell.nd;have hr1:=hr;refine ⟨_,(zd (oRz 3 nd (zn zQ (zv z6 (zi (pv 0) rfl) (pv 1) (λ_ _=>rfl)) (pv 2)))
   (zd (zy (zX TO CN.c hr1 zo (pv 0) (zb zP (zb (pv 3) zc))))
   (zf (zm (zv z6 (zi (pv 0) rfl) (pv 3) (λ_ _=>rfl)))))),?_⟩
 dsimp only [yh,Cx.nox,Cx.wish];refine ⟨_,Y,A.b,_,_,_,.ref A.aS,Y,m.b,CN.c,CN.starts,Y,_,Y,A.aS,_,_,_,Y,Y,SqL.of (m.h.sm _ _ m.bb.starts),xc row h0 rfl,_,Y,_,_,Y,Y,?_⟩;refine ⟨_,Y,A.b,_,_,Y,m.b,Y,_,Y,B,A,M,R,"read",M.adr row place,Y,m,hl,λB1 A1 H1 s1 eb m1=>?_⟩;refine ⟨_,Y,A1.b,_,_,_,.ref A1.aC,by rw [eb],m1.b,CN.c,CN.cells,Y,_,Y,A1.aC,_,_,_,Y,Y,m1.h.lst 1 rfl,xc (M.adr row place).toNat h2 (show M.adr row place=_ by omega),?_⟩;exact k B1 A1 H1 s1 eb m1
def Mc.wrote (M:Mc) (row:Nat) (place n:Int):Mc:={ M.touched "write" (M.adr row place) with cells:=M.cells.set (M.adr row place).toNat n }
inductive spWrite (c:MCs) (vs:Jj) (H:Hp) (Q:VK) (_:XK):Prop
 | mk (B:Hp) (A:Ma) (M:Mc) (R:Ji) (row:Nat) (place n:Int) (_:vs=[.ref A.b,.int row,.int place,.int n]) (_:MAt c B A M R H) (_:M.tq.length<100000) (_:row<M.starts.length) (_:0<=M.adr row place) (_:(M.adr row place).toNat<M.cells.length) (_:∀ B' A' H',Same B B'->A'.b=A.b->MAt c B' A' (M.wrote row place n) R H'->Q .non H')
def ok_write {c:MCs} (d:zN K c.bn "write_cell" "Bench.write_cell" yz Uf) (CN:NCls K c.bn) (TO:OkM P w K mg base CX0 1 c.bn "touch" qM (spTouch c)):OkM P w K mg base CX0 2 c.bn "write_cell" Uf (spWrite c):=by
 refine oMf d sc_Bench_write_cell λf mx A _ s H vs Q E hr h=>?_;obtain ⟨B,A,M,R,row,place,n,rfl,m,hl,h0,h1,h2,k⟩:=h;have nd:=sc_Bench_write_cell.nd;have hr1:=hr;refine ⟨_,(zd (oRz 4 nd (zn zQ (zv z6 (zi (pv 0) rfl) (pv 1) (λ_ _=>rfl)) (pv 2)))
   (zd (zy (zX TO CN.c hr1 zo (pv 0) (zb zP (zb (pv 4) zc))))
   (zf (zar (pv 3) (zas (zi (pv 0) rfl) (pv 4) Ys))))),?_⟩
 dsimp only [yh,Cx.nox,Cx.wish];refine ⟨_,Y,A.b,_,_,_,.ref A.aS,Y,m.b,CN.c,CN.starts,Y,_,Y,A.aS,_,_,_,Y,Y,SqL.of (m.h.sm _ _ m.bb.starts),xc row h0 rfl,_,Y,_,_,Y,Y,?_⟩;refine ⟨_,Y,A.b,_,_,Y,m.b,Y,_,Y,B,A,M,R,"write",M.adr row place,Y,m,hl,λB1 A1 H1 s1 eb m1=>?_⟩;refine ⟨_,Y,_,Y,A1.b,_,_,_,.ref A1.aC,by rw [eb],m1.b,CN.c,CN.cells,Y,_,Y,A1.aC,_,_,(M.adr row place).toNat,Y,Y,m1.h.get 1 rfl,?_,?_⟩
 .show ixN (M.cells.map V.int).length (M.adr row place)=_
  unfold ixN;rw [if_pos h1,if_pos (by rw [Je];omega)]
 .have h:=m1.h.put (o':=.lst ((M.cells.set (M.adr row place).toNat n).map V.int)) 1 rfl
  rw [rL] at h;refine k B1 A1 _ s1 eb ⟨{m1.bb with},?_⟩;show Hd B1 (objs c A1 (M.wrote row place n) R) _;unfold objs;rw [show ((M.wrote row place n).cells.map V.int)=(M.cells.map V.int).set (M.adr row place).toNat (.int n) from rL ..];exact h
def at_bl {bs:List Bool} {j:Int} (i:Nat) (h:i<bs.length) (e:j=i):atI (bs.map V.bl) j=Z (.bl (bs.getD i false)):=by
 subst e;refine zB ?_;rw [mJ,m6 h,q6x,m6 h];rfl
def Mc.isAct (M:Mc) (k j:Nat):Bool:=(M.mq.getD k []).getD j false && !(zU M.fq (.inl (j:Int))).isSome
def Mc.actTo (M:Mc) (k n:Nat):J6:=((nj n).filter (M.isAct k)).map λj:Nat=>(j:Int)
def Mc.act (M:Mc) (k:Nat):J6:=M.actTo k M.wq.toNat
def Mc.actTo_succ (M:Mc) (k n:Nat):M.actTo k (n+1)=M.actTo k n++if M.isAct k n then [(n:Int)] else []:=by
 unfold Mc.actTo;rw [oK,py,Jg];congr 1;by_cases z:M.isAct k n=true
 .rw [pS z,if_pos z];rfl
 .rw [p7 z,if_neg z];rfl
def Mc.actTo_len (M:Mc) (k n:Nat):(M.actTo k n).length<=n:=by
 unfold Mc.actTo;rw [Je];have:=sD (M.isAct k) (nj n);rw [pf] at this;exact this
def Mc.act_mem {M:Mc} {k:Nat} {j:Int} (h:j∈M.act k):0<=j/\j.toNat<M.wq.toNat/\M.isAct k j.toNat=true:=by
 obtain ⟨i,hi,rfl⟩:=o9.mp h;obtain ⟨a,b⟩:=nI.mp hi;have:=nZ.mp a;exact ⟨by omega,by omega,b⟩
inductive spAct (c:MCs) (vs:Jj) (H:Hp) (Q:VK) (_:XK):Prop
 | mk (B:Hp) (A:Ma) (M:Mc) (R:Ji) (k:Nat) (_:vs=[.ref A.b,.int k]) (_:MAt c B A M R H) (_:k<M.mq.length) (_:0<=M.wq) (_:M.wq.toNat<=(M.mq.getD k []).length) (_:M.wq.toNat<=1000) (_:∀ B' H' l,Same B B'->MAt c B' A M R H'->B' l=Z (.lst ((M.act k).map V.int))->Q (.ref l) H')
def ok_act {c:MCs} (d:zN K c.bn "active_under" "Bench.active_under" yr Ur) (hrg:mg "range"=O) (CN:NCls K c.bn):OkM P w K mg base CX0 1 c.bn "active_under" Ur (spAct c):=by
 refine oMf d sc_Bench_active_under λf mx A _ s H vs Q E hr h=>?_;obtain ⟨B,A,M,R,k,rfl,m,hk,w0,w1,w2,q⟩:=h;have nd:=sc_Bench_active_under.nd;have hu:=nk (o8 (show 1<=64 by decide) _) hr.units;obtain ⟨x,ex,hx⟩:=m.mask hk;have SL:(3000:Nat)<sizeLine:=by decide
 refine ⟨_,(zd (zq (i:=2) nd rfl (Or.inr rfl) (zv z6 (zi (pv 0) rfl) (pv 1) (λ_ _=>rfl)))
   (zf (zm (zd5 ["lane","truths","self"] [O,Z 2,Z 0] rfl rfl rfl (xn rfl hrg (zb (zi (pv 0) rfl) zc)) (λs3 H3 fp=>⟨oQz 0 (Jl ["lane","truths","self"]),(PW.pt (pw_and (ya (zv (zek (K:=K) rfl) (pv 1) (pv 0) (λ_ _=>rfl))) (zcx (pt_cmp (pc_dnotin hu (pv 0) (Xh (K:=K) rfl (pv 2) rfl)) rfl)))),(pv 0)⟩))))),?_⟩
 dsimp only [yh,Cx.nox,Cx.wish];refine ⟨_,Y,A.b,_,_,_,.ref A.aM,Y,m.b,CN.c,CN.mq,Y,_,Y,A.aM,_,_,.ref x,Y,Y,SqL.of (m.h.sm _ _ m.bb.msk),zB (by rw [mJ,ex];rfl),?_⟩;refine ⟨_,Y,A.b,_,_,_,.int M.wq,Y,m.b,CN.c,CN.wq,Y,_,Y,(by show -(2 ^ 62)<=M.wq;omega),(by show M.wq<2 ^ 62;omega),_,Y,λD nD=>?_⟩;have h0:Hd H [(D,.lst ((M.actTo k 0).map V.int))] (upd H D (.lst [])):=Hd.base.new nD;generalize upd H D (.lst [])=H1 at h0 ⊢;refine zeu (n:=M.wq.toNat) (λi σ J=>∃ u,σ=[u,rq x,rq A.b]/\Hd H [(D,.lst ((M.actTo k i).map V.int))] J) ⟨O,Y,h0⟩ ?_ ?_
 .clear h0
  rintro i σ J hi ⟨u,rfl,h⟩;have la:=M.actTo_len k i;rw [M.actTo_succ k i];have fin:M.isAct k i=false->∃ u,[Z (V.int (0+(i:Int))),Z (.ref x),Z (.ref A.b)]=[u,rq x,rq A.b]/\Hd H [(D,.lst ((M.actTo k i++if M.isAct k i=true then [(i:Int)] else []).map V.int))] J:=λe=>⟨_,Y,by rw [e,if_neg (by decide),q8y];exact h⟩;refine ⟨_,Y,_,Y,x,_,_,_,Y,Y,SqL.of (h.sm _ _ hx),at_bl i (by omega) (by omega),_,Y,?_⟩;refine yw (λz1=>?_) (λz1=>xt (fin (by unfold Mc.isAct;rw [ph.mpr z1,tK])));refine ⟨_,Y,_,Y,A.b,_,_,_,.ref A.aF,Y,h.sm _ _ m.b,CN.c,CN.fq,Y,A.aF,_,Y,DGet.k (k:=.inl (0+(i:Int))) (h.sm _ _ (m.h.get 7 rfl)),_,Y,?_⟩;rw [Int.zero_add] at *;refine yw (λz2=>?_) (λz2=>fin (by unfold Mc.isAct;rw [z1,ph.mpr z2];rfl));refine ⟨_,Y,_,h.get 0 rfl,(by rw [Je];omega),_,Y,?_⟩;have e:M.isAct k i=true:=by unfold Mc.isAct;rw [z1,z2];rfl
  rw [e,if_pos rfl,Jg];exact h.put 0 rfl
 .rintro σ J ⟨u,rfl,h⟩
  exact q _ J D (zu (Same.refl _) (m.h.free (h.nw _ (mV.mpr rfl)))) (m.adopt h) zh
def Mc.nq (M:Mc) (p:Nat) (j:Int):Int:=M.nums.getD ((p:Int)*M.group*M.lq+j).toNat 0
structure MOk (M:Mc):Prop where
 l1:1<=M.lq
 l64:M.lq<=64
 g:M.group=1∨M.group=2∨M.group=4
 nl:M.nums.length=8*M.lq
 ml:M.mq.length=16
 mm:∀ m∈M.mq,m.length=4*M.lq
 w0:0<=M.wq
 w1:M.wq<=M.group*M.lq
inductive spNums (c:MCs) (K:Fg) (vs:Jj) (H:Hp) (Q:VK) (_:XK):Prop
 | mk (B:Hp) (A:Ma) (M:Mc) (R:Ji) (p:Nat) (aa:Ad) (js:J6) (_:vs=[.ref A.b,.int p,.ref aa]) (_:MAt c B A M R H) (_:MOk M) (_:((p:Int)+1)*M.group<=8) (_:B aa=Z (.lst (js.map V.int))) (_:(∀ j∈js,0<=j/\j<M.group*M.lq)) (_:js.length<=1000) (_:∀ B' H' l,Same B B'->MAt c B' A M R H'->B' l=Z (.lst ((js.map (M.nq p)).map V.int))->Q (.ref l) H')
def zcj {g L p j:Int} (hg:g=1∨g=2∨g=4) (h1:1<=L) (hp:0<=p) (h8:(p+1)*g<=8) (j0:0<=j) (j1:j<g*L):0<=p*g*L+j/\p*g*L+j<8*L:=by
 have e:(p+1)*g*L<=8*L:=oG h8 (by omega);have e2:(p+1)*g*L=p*g*L+g*L:=by rw [sk,sk,Int.one_mul]
 have e3:0<=p*g*L:=sr (sr hp (by omega)) (by omega);omega
def ok_nums {c:MCs} (d:zN K c.bn "numbers_in" "Bench.numbers_in" yB qQ) (CC:MCls K c) (NA:OkM P w K mg base CX0 2 c.bx "number_at" qG (spNum c.bx)):OkM P w K mg base CX0 3 c.bn "numbers_in" qQ (spNums c K):=by
 refine oMf d sc_Bench_numbers_in λf mx A _ s H vs Q E hr h=>?_;obtain ⟨B,A,M,R,p,aa,js,rfl,m,ok,h8,ea,hj,hl,q⟩:=h;have nd:=sc_Bench_numbers_in.nd;have hr2:=hr;have CN:=CC.n;have SL:(3000:Nat)<sizeLine:=by decide
 have l1:=ok.l1;have l64:=ok.l64;have hg:=ok.g;refine ⟨_,(zf (zm (xZ ["lane","seat","self"] [O,Z 1,Z 0] rfl rfl rfl (Zq (pv 2)) (λs3 H3 fp=>⟨oQz 0 (Jl ["lane","seat","self"]),(zX NA CC.b.c hr2 zo (Xh (K:=K) rfl (pv 2) rfl) (zb (Xh (K:=K) rfl (pv 2) rfl) (zb (pv 1) (zb (pv 0) zc))))⟩)))),?_⟩;dsimp only [yh,Cx.nox,Cx.wish];refine ⟨_,Y,aa,Y,⟨_,SqL.of (m.h.sm _ _ ea)⟩,_,Y,λD nD=>?_⟩;have h0:Hd H [(D,.lst (((js.take 0).map (M.nq p)).map V.int))] (upd H D (.lst [])):=Hd.base.new nD;generalize upd H D (.lst [])=H1 at h0 ⊢;refine Z9 (K:=K) (a:=aa) (D:=D) (xs:=js.map V.int) (λi σ J=>∃ u,σ=[u,iq p,rq A.b]/\Hd H [(D,.lst (((js.take i).map (M.nq p)).map V.int))] J) ⟨O,Y,h0⟩ (λi σ J _ ⟨_,_,h⟩=>SqL.of (h.sm _ _ (m.h.sm _ _ ea))) ?_ ?_
 .clear h0
  rintro i y σ J hy ⟨u,rfl,h⟩;obtain ⟨hlt,rfl⟩:=Yj hy;have mj:=L2.getD_mem hlt;have e9:js[i]?=Z (js.getD i 0):=by rw [q6x,m6 hlt];rfl
  generalize js.getD i 0=j at mj e9;obtain ⟨j0,j1⟩:=hj j mj;obtain ⟨s0,s1⟩:=zcj hg (show (1:Int)<=M.lq by omega) (show (0:Int)<=p by omega) h8 j0 j1;refine ⟨_,Y,A.b,_,_,_,.ref A.bx,Y,h.sm _ _ m.b,CN.c,CN.boxes,Y,A.bx,_,_,Y,h.sm _ _ (m.h.sm _ _ m.bb.bx),Y,_,Y,A.b,_,_,_,.int M.group,Y,h.sm _ _ m.b,CN.c,CN.group,Y,_,Y,_,Y,A.bx,A.dbx,A.aN,M.lq,M.group,p,j,M.nums,Y,h.sm _ _ (m.h.sm _ _ m.bb.bx),h.sm _ _ (m.h.get 2 rfl),by omega,by omega,by omega,by omega,s0,by rw [ok.nl];omega,?_⟩;refine ⟨_,h.get 0 rfl,(by rw [Je,Je,ny];omega),_,Y,?_⟩;have h3:=h.put (o':=.lst (((js.take (i+1)).map (M.nq p)).map V.int)) 0 rfl
  have e:(((js.take (i+1)).map (M.nq p)).map V.int)=(((js.take i).map (M.nq p)).map V.int)++[V.int (M.nq p j)]:=by
   rw [nY,e9,Jg,Jg];rfl
  rw [e] at h3 ⊢;exact h3
 .rintro σ J ⟨u,rfl,h⟩
  rw [Je,oa] at h;exact q _ J D (zu (Same.refl _) (m.h.free (h.nw _ (mV.mpr rfl)))) (m.adopt h) zh
section
variable {c:MCs} {B:Hp} {A:Ma} {M:Mc} {R:Ji}
def mskO_len (m:MAt c B A M R H):(Z6 A M).length=A.ms.length:=by
 unfold Z6;rw [Je,rQ,m.bb.ml];omega
def MAt.putMask (m:MAt c B A M R H) {k:Nat} {x:Ad} (ex:A.ms[k]?=Z x) (hk:k<M.mq.length) (b:List Bool):MAt c B A { M with mq:=M.mq.set k b } R (upd H x (.lst (b.map V.bl))):=by
 have lm:=mskO_len m;have ml:=m.bb.ml;have lk:k<A.ms.length:=(mF.mp ex).1;have e0:(A.ms.zip M.mq)[k]?=Z (x,M.mq[k]):=by rw [pB];exact ⟨ex,by rw [m6 hk]⟩
 have e:(objs c A M R)[9+k]?=Z (x,.lst ((M.mq[k]).map V.bl)):=by
  unfold objs;rw [show 9+k=k+1+1+1+1+1+1+1+1+1 by omega];simp only [tW];rw [q9x (by omega)];unfold Z6;rw [mJ,e0];rfl
 have h:=m.h.put (o':=.lst (b.map V.bl)) _ e;refine ⟨⟨m.bb.lens,m.bb.starts,m.bb.bx,m.bb.msk,by show A.ms.length=(M.mq.set k b).length;rw [nJ,ml],m.bb.dl,m.bb.pl,m.bb.tl,m.bb.tt,m.bb.ul,m.bb.uu,m.bb.rf⟩,?_⟩
 have es:(objs c A M R).set (9+k) (x,.lst (b.map V.bl))=objs c A { M with mq:=M.mq.set k b } R:=by
  unfold objs;rw [show 9+k=k+1+1+1+1+1+1+1+1+1 by omega];simp only [List.set_cons_succ];rw [List.set_append_left _ _ (by omega)]
  have:(Z6 A M).set k (x,.lst (b.map V.bl))=Z6 A { M with mq:=M.mq.set k b }:=by
   unfold Z6;show ((A.ms.zip M.mq).map _).set k _=(A.ms.zip (M.mq.set k b)).map _
   have ez:A.ms.zip (M.mq.set k b)=(A.ms.zip M.mq).set k (x,b):=by
    apply List.ext_getElem?;intro j;rw [List.getElem?_set]
    split
    .rename_i e
     subst e;rw [if_pos (by rw [rQ];omega),pB];exact ⟨ex,by rw [q8z hk]⟩
    .rename_i ne
     cases hz:(A.ms.zip M.mq)[j]? with
     | none =>
      rw [List.getElem?_eq_none_iff] at hz ⊢;rw [rQ] at hz ⊢;rw [nJ];exact hz
     | some q =>
      rw [pB] at hz ⊢;exact ⟨hz.1,by rw [nV ne];exact hz.2⟩
   rw [ez,rL]
  rw [this];rfl
 rw [es] at h;exact h
def MAt.mask' (m:MAt c B A M R H) {k:Nat} {x:Ad} (ex:A.ms[k]?=Z x) (hk:k<M.mq.length):H x=Z (.lst ((M.mq.getD k []).map V.bl)):=by
 obtain ⟨y,ey,hy⟩:=m.mask hk;rw [ex] at ey;cases ey;exact hy
def MAt.took (m:MAt c B A M R H) (k:∀ b o,b≠A.fd->H b=Z o->H' b=Z o) (e:H' A.fd=Z (YT c.fe A.dfd A.aD (fAt M.dust (M.dq+1)))):MAt c B A { M with dq:=M.dq+1 } R H' :=
 ⟨{m.bb with},m.h.chg 4 rfl k e⟩
end
def clr (m:List Bool) (n:Nat):List Bool:=(nj n).foldl (λm j=>m.set j false) m
def sel (m:List Bool) (js:J6):List Bool:=js.foldl (λm j=>m.set j.toNat true) m
def dst (d:J6) (q:Nat) (m:List Bool) (lo k:Nat):List Bool:=(nj k).foldl (λm t=>m.set (lo+t) (decide (fVal d (q+t) % 2=1))) m
theorem ZX (m:List Bool):∀ n,(clr m n).length=m.length
 | 0=>rfl
 | n+1=>by unfold clr;rw [oK,oN];show (List.set _ _ _).length=_;rw [nJ];exact ZX m n
theorem Y4:∀ (js:J6) (m:List Bool),(sel m js).length=m.length
 | [],_=>rfl
 | j::js,m=>by show (sel (m.set j.toNat true) js).length=_;rw [Y4 js,nJ]
theorem X7 (d:J6) (q:Nat) (m:List Bool) (lo:Nat):∀ k,(dst d q m lo k).length=m.length
 | 0=>rfl
 | n+1=>by unfold dst;rw [oK,oN];show (List.set _ _ _).length=_;rw [nJ];exact X7 d q m lo n
def zev (m:List Bool) (n:Nat):clr m (n+1)=(clr m n).set n false:=by unfold clr;rw [oK,oN];rfl
def zeo (d:J6) (q:Nat) (m:List Bool) (lo n:Nat):dst d q m lo (n+1)=(dst d q m lo n).set (lo+n) (decide (fVal d (q+n) % 2=1)):=by unfold dst;rw [oK,oN];rfl
def sel_snoc (m:List Bool) (js:J6) (j:Int):sel m (js++[j])=(sel m js).set j.toNat true:=by unfold sel;rw [oN];rfl
def Mc.room (M:Mc):Nat:=(M.group*M.lq).toNat
def Mc.maskOf (M:Mc) (k:Nat) (js:J6):List Bool:=dst M.dust M.dq (sel (clr (M.mq.getD k []) M.wq.toNat) js) M.wq.toNat (M.room-M.wq.toNat)
def Mc.laidMask (M:Mc) (k:Nat) (js:J6):Mc:={ M with mq:=M.mq.set k (M.maskOf k js),dq:=M.dq+(M.room-M.wq.toNat) }
inductive spMask (c:MCs) (K:Fg) (vs:Jj) (H:Hp) (Q:VK) (_:XK):Prop
 | mk (B:Hp) (A:Ma) (M:Mc) (R:Ji) (k:Nat) (aa:Ad) (js:J6) (_:vs=[.ref A.b,.int k,.ref aa]) (_:MAt c B A M R H) (_:MOk M) (_:k<16) (_:B aa=Z (.lst (js.map V.int))) (_:(∀ j∈js,0<=j/\j<M.group*M.lq)) (_:∀ H',MAt c B A (M.laidMask k js) R H'->Q .non H')
def ok_mask {c:MCs} (d:zN K c.bn "lay_mask" "Bench.lay_mask" y8 Uj) (hrg:mg "range"=O) (CC:MCls K c) (TK:OkM P w K mg base CX0 1 c.fe "taken" ["self"] (spTaken c.fe)):OkM P w K mg base CX0 2 c.bn "lay_mask" Uj (spMask c K):=by
 refine oMf d sc_Bench_lay_mask λf mx A _ s H vs Q E hr h=>?_;obtain ⟨B,A,M,R,k,aa,js,rfl,m,ok,hk,ea,hj,q⟩:=h;have nd:=sc_Bench_lay_mask.nd;have hr1:=hr;have CN:=CC.n;have ml:=ok.ml;have hk':k<M.mq.length:=by omega
 have l1:=ok.l1;have l64:=ok.l64;have hg:=ok.g;have w0:=ok.w0;have w1:=ok.w1;have rb:M.group*M.lq<=4*M.lq/\1<=M.group*M.lq:=by rcases hg with e | e | e <;> rw [e] <;> omega
 have lm:(M.mq.getD k []).length=4*M.lq:=by
  rw [q6x,m6 hk'];exact ok.mm _ (pw hk')
 obtain ⟨x,ex,hx⟩:=m.mask hk';refine ⟨_,(zd (oRz 3 nd (zv z6 (zi (pv 0) rfl) (pv 1) (λ_ _=>rfl)))
   (zd (x8 oE rfl (xn rfl hrg (zb (zi (pv 0) rfl) zc)) (oQz 4 nd) (zf (zar YR (zas (pv 3) (pv 4) Ys))))
   (zd (x8 oE rfl (Zq (pv 2)) (oQz 4 nd) (zf (zar YR (zas (pv 3) (pv 4) Ys))))
   (zf (x8 oE rfl (pi_range2 rfl hrg (zb (zi (pv 0) rfl) (zb (zn yH (zi (pv 0) rfl) (zi (pv 0) rfl)) zc))) (oQz 4 nd) (zf (zar (xS Zc (zn yP (pe_okM0 TK CC.f.c hr1 zo (zi (pv 0) rfl)) zg) zg (zM _)) (zas (pv 3) (pv 4) Ys)))))))),?_⟩
 dsimp only [yh,Cx.nox,Cx.wish];show (let s1:L2.TS:=_;let s2:L2.TS:=L2.tSeq _ s1;let s3:L2.TS:=L2.tSeq _ s2;L2.tSeq _ s3 _ _ _);intro s1 s2 s3;refine ⟨_,Y,A.b,_,_,_,.ref A.aM,Y,m.b,CN.c,CN.mq,Y,_,Y,A.aM,_,_,.ref x,Y,Y,SqL.of (m.h.sm _ _ m.bb.msk),zB (by rw [mJ,ex];rfl),?_⟩
 have set_one:∀ {n:Nat} {bs:List Bool} {i:Int},i=(n:Int)->n<bs.length->ixN (bs.map V.bl).length i=Z n:=λ{n bs i} e h=>by
  subst e;unfold ixN;rw [if_pos (by omega),if_pos (by rw [Je];omega)];congr 1
 have st:∀ (b:List Bool),({ M with mq:=M.mq.set k b }:Mc).mq.getD k []=b:=λb=>by
  show (M.mq.set k b).getD k []=b;rw [q6x,q8z hk'];rfl
 have ss:∀ (b b':List Bool),({ ({ M with mq:=M.mq.set k b }:Mc) with mq:=(M.mq.set k b).set k b' }:Mc)={ M with mq:=M.mq.set k b' }:=λb b'=>by rw [List.set_set]
 refine ⟨_,Y,A.b,_,_,_,.int M.wq,Y,m.b,CN.c,CN.wq,Y,_,Y,(by show -(2 ^ 62)<=M.wq;omega),(by show M.wq<2 ^ 62;omega),?_⟩
 have m0:MAt c B A { M with mq:=M.mq.set k (clr (M.mq.getD k []) 0) } R H:=by
  have e:M.mq.set k (clr (M.mq.getD k []) 0)=M.mq:=by
   show M.mq.set k (M.mq.getD k [])=M.mq;rw [q6x,m6 hk'];exact List.set_getElem_self hk'
  rw [e];exact m
 show tFor_S _ _ _ _ _ _;let Pv1:Nat->St->Hp->Prop:=(λi σ J=>∃ u,σ=[rq A.b,iq k,rq aa,rq x,u]/\MAt c B A { M with mq:=M.mq.set k (clr (M.mq.getD k []) i) } R J);refine Zu (n:=M.wq.toNat) Pv1 ⟨O,Y,m0⟩ ?_ ?_
 .rintro i σ J hi ⟨u,rfl,m1⟩
  have hx1:=m1.mask' ex (by show k<(M.mq.set k _).length;rw [nJ];exact hk');rw [st] at hx1;refine ⟨_,Y,_,Y,x,_,_,i,Y,Y,hx1,set_one (by omega) (by rw [ZX,lm];omega),_,Y,?_⟩;have m2:=m1.putMask ex (by show k<(M.mq.set k _).length;rw [nJ];exact hk') (clr (M.mq.getD k []) (i+1));rw [ss] at m2;have e:((clr (M.mq.getD k []) (i+1)).map V.bl)=((clr (M.mq.getD k []) i).map V.bl).set i (.bl false):=by rw [zev,rL]
  rw [e] at m2;exact m2
 clear m0 hx;rintro σ J ⟨u,rfl,m1⟩;refine ⟨_,Y,aa,Y,⟨_,SqL.of (m1.h.sm _ _ ea)⟩,?_⟩;let Pv2:Nat->St->Hp->Prop:=(λi σ J=>∃ u,σ=[rq A.b,iq k,rq aa,rq x,u]/\MAt c B A { M with mq:=M.mq.set k (sel (clr (M.mq.getD k []) M.wq.toNat) (js.take i)) } R J);refine Xm (K:=K) (a:=aa) (xs:=js.map V.int) Pv2 ⟨u,Y,m1⟩ (λi σ J _ ⟨_,_,m⟩=>SqL.of (m.h.sm _ _ ea)) ?_ ?_
 .rintro i y σ J hy ⟨u,rfl,m1⟩
  obtain ⟨hlt,rfl⟩:=Yj hy;have mj:=L2.getD_mem hlt;have e9:js[i]?=Z (js.getD i 0):=by rw [q6x,m6 hlt];rfl
  generalize js.getD i 0=j at mj e9;obtain ⟨j0,j1⟩:=hj j mj;have hx1:=m1.mask' ex (by show k<(M.mq.set k _).length;rw [nJ];exact hk');rw [st] at hx1;refine ⟨_,Y,_,Y,x,_,_,j.toNat,Y,Y,hx1,set_one (by omega) (by rw [Y4,ZX,lm];omega),_,Y,?_⟩;have m2:=m1.putMask ex (by show k<(M.mq.set k _).length;rw [nJ];exact hk') (sel (clr (M.mq.getD k []) M.wq.toNat) (js.take (i+1)));rw [ss] at m2
  have e:((sel (clr (M.mq.getD k []) M.wq.toNat) (js.take (i+1))).map V.bl)=((sel (clr (M.mq.getD k []) M.wq.toNat) (js.take i)).map V.bl).set j.toNat (.bl true):=by
   rw [nY,e9];show ((sel _ (js.take i++[j])).map V.bl)=_;rw [sel_snoc,rL]
  rw [e] at m2;exact m2
 rintro σ J1 ⟨u,rfl,m1⟩;rw [Je,oa] at m1;generalize hb:sel (clr (M.mq.getD k []) M.wq.toNat) js=b1 at m1;have lb1:b1.length=4*M.lq:=by rw [← hb,Y4,ZX,lm]
 obtain ⟨wn,ew⟩:∃ n:Nat,M.wq=n:=⟨M.wq.toNat,by omega⟩;obtain ⟨rn,er⟩:∃ n:Nat,M.group*M.lq=n:=⟨(M.group*M.lq).toNat,by omega⟩;refine ⟨_,Y,A.b,_,_,_,.int M.wq,Y,m1.b,CN.c,CN.wq,Y,_,Y,A.b,_,_,_,.int M.group,Y,m1.b,CN.c,CN.group,Y,_,Y,A.b,_,_,_,.int M.lq,Y,m1.b,CN.c,CN.lq,Y,_,_,Y,Y,.inl ⟨by omega,by omega⟩,_,_,Y,?_,?_⟩
 .exact ⟨by omega,by omega,by show -(2 ^ 62)<=M.group*M.lq;omega,by show M.group*M.lq<2 ^ 62;omega⟩
 have en:(M.group*M.lq-M.wq).toNat=M.room-M.wq.toNat:=by unfold Mc.room;rw [er,ew,Int.toNat_sub,q0z,q0z]
 show tFor_S _ _ _ _ _ _;let Pv3:Nat->St->Hp->Prop:=(λi σ J=>∃ u,σ=[rq A.b,iq k,rq aa,rq x,u]/\MAt c B A { M with mq:=M.mq.set k (dst M.dust M.dq b1 M.wq.toNat i),dq:=M.dq+i } R J);refine Zu (lo:=M.wq) (n:=(M.group*M.lq-M.wq).toNat) Pv3 ⟨u,Y,m1⟩ ?_ ?_
 .rintro i σ J hi ⟨u,rfl,m2⟩
  refine ⟨_,Y,A.b,_,_,_,.ref A.fd,Y,m2.b,CN.c,CN.dust,Y,A.fd,_,_,Y,m2.h.get 4 rfl,Y,A.fd,A.dfd,A.aD,M.dust,M.dq+i,Y,m2.h.get 4 rfl,m2.h.sm _ _ m2.bb.dl,λJ3 k3 e3=>?_⟩;have m3:=m2.took k3 e3;refine ⟨_,_,Y,Y,(by show (0:Int)<2;decide),Y,_,Y,_,Y,?_⟩;have hx1:=m3.mask' ex (by show k<(M.mq.set k _).length;rw [nJ];exact hk');have e0:(M.mq.set k (dst M.dust M.dq b1 M.wq.toNat i)).getD k []=dst M.dust M.dq b1 M.wq.toNat i:=by rw [q6x,q8z hk'];rfl
  have hx1:J3 x=Z (.lst ((dst M.dust M.dq b1 M.wq.toNat i).map V.bl)):=by rw [← e0];exact hx1
  refine ⟨x,_,_,M.wq.toNat+i,Y,Y,hx1,set_one (by omega) (by rw [X7,lb1];omega),_,Y,?_⟩;have m4:=m3.putMask ex (by show k<(M.mq.set k _).length;rw [nJ];exact hk') (dst M.dust M.dq b1 M.wq.toNat (i+1))
  have e:((dst M.dust M.dq b1 M.wq.toNat (i+1)).map V.bl)=((dst M.dust M.dq b1 M.wq.toNat i).map V.bl).set (M.wq.toNat+i) (.bl (decide (V.int (fVal M.dust (M.dq+i) % 2)=V.int 1))):=by
   rw [zeo,rL];congr 2;by_cases z:fVal M.dust (M.dq+i) % 2=1
   .rw [z];rfl
   .rw [decide_eq_false z,decide_eq_false (λq=>z (V.int.inj q))]
  rw [e] at m4;have e2:({ ({ ({ M with mq:=M.mq.set k (dst M.dust M.dq b1 M.wq.toNat i),dq:=M.dq+i }:Mc) with dq:=M.dq+i+1 }:Mc) with mq:=(M.mq.set k (dst M.dust M.dq b1 M.wq.toNat i)).set k (dst M.dust M.dq b1 M.wq.toNat (i+1)) }:Mc)={ M with mq:=M.mq.set k (dst M.dust M.dq b1 M.wq.toNat (i+1)),dq:=M.dq+(i+1) }:=by rw [List.set_set];rfl
  have m4:MAt c B A { M with mq:=M.mq.set k (dst M.dust M.dq b1 M.wq.toNat (i+1)),dq:=M.dq+(i+1) } R _:=e2 ▸ m4;exact m4
 .rintro σ J2 ⟨u,rfl,m2⟩
  refine q J2 ?_;rw [en] at m2;unfold Mc.laidMask Mc.maskOf;rw [hb];exact m2
def Mc.layOne (told:Jh) (p:Nat) (M:Mc) (t:Nat):Mc:=match zU told (.inl (t:Int)) with
 | some (.int n)=>{ M with nums:=M.nums.set ((p:Int)*M.group*M.lq+t).toNat n }
 | _=>{ M with nums:=M.nums.set ((p:Int)*M.group*M.lq+t).toNat (fVal M.dust M.dq),dq:=M.dq+1 }
def Mc.layTo (told:Jh) (p:Nat) (M:Mc) (n:Nat):Mc:=(nj n).foldl (λM t=>M.layOne told p t) M
def Mc.laidSeat (M:Mc) (told:Jh) (p:Nat):Mc:=M.layTo told p M.room
def Mc.layTo_succ (told:Jh) (p:Nat) (M:Mc) (n:Nat):M.layTo told p (n+1)=(M.layTo told p n).layOne told p n:=by unfold Mc.layTo;rw [oK,oN];rfl
structure SeatSame (M N:Mc):Prop where
 g:N.group=M.group
 l:N.lq=M.lq
 n:N.nums.length=M.nums.length
 d:N.dust=M.dust
def Mc.layOne_same (told:Jh) (p:Nat) (M:Mc) (t:Nat):SeatSame M (M.layOne told p t):=by
 unfold Mc.layOne
 split
 .exact ⟨Y,Y,nJ ..,Y⟩
 .exact ⟨Y,Y,nJ ..,Y⟩
theorem Mc.layTo_same (told:Jh) (p:Nat) (M:Mc):∀ n,SeatSame M (M.layTo told p n)
 | 0=>⟨Y,Y,Y,Y⟩
 | n+1=>by
  have a:=Mc.layTo_same told p M n;have b:=Mc.layOne_same told p (M.layTo told p n) n;rw [M.layTo_succ];exact ⟨b.g.trans a.g,b.l.trans a.l,b.n.trans a.n,b.d.trans a.d⟩
section
variable {c:MCs} {B:Hp} {A:Ma} {M:Mc} {R:Ji}
def MAt.putNums (m:MAt c B A M R H) (ns:J6):MAt c B A { M with nums:=ns } R (upd H A.aN (.lst (ns.map V.int))) :=
 ⟨{m.bb with},m.h.put (o':=.lst (ns.map V.int)) 2 rfl⟩
end
def xv (js:J6) (vs:List (Option Int)):Jh:=putAll [] ((js.map tS).zip (vs.map oV))
theorem zao:∀ (ps:Jh) (mo:Jh) (P:V->Prop),(∀ p∈ps,P p.2)->(∀ k v,zU mo k=Z v->P v)->∀ k v,zU (putAll mo ps) k=Z v->P v
 | [],_,_,_,h,k,v,e=>h k v e
 | p::ps,mo,P,hp,h,k,v,e=>by
  refine zao ps (xa mo p.1 p.2) P (λq hq=>hp q (q6y _ hq)) (λk' v' e'=>?_) k v e;rw [xU] at e'
  split at e'
  .cases e';exact hp p q6z
  .exact h k' v' e'
def told_val {js:J6} {vs:List (Option Int)} {k:Key} {v:V} (e:zU (xv js vs) k=Z v):v=.non∨∃ n,v=.int n:=by
 refine zao _ [] (λv=>v=.non∨∃ n,v=.int n) (λp hp=>?_) (λk v e=>by cases e) k v e;obtain ⟨o,_,eo⟩:=o9.mp (List.of_mem_zip hp).2
 cases o with
 | none=>exact .inl eo.symm
 | some n=>exact .inr ⟨n,eo.symm⟩
inductive spSeat (c:MCs) (K:Fg) (vs:Jj) (H:Hp) (Q:VK) (_:XK):Prop
 | mk (B:Hp) (A:Ma) (M:Mc) (R:Ji) (p:Nat) (aa an:Ad) (js:J6) (ns:List (Option Int)) (_:vs=[.ref A.b,.int p,.ref aa,.ref an]) (_:MAt c B A M R H) (_:MOk M) (_:((p:Int)+1)*M.group<=8) (_:B aa=Z (.lst (js.map V.int))) (_:B an=Z (.lst (ns.map oV))) (_:js.length=ns.length) (_:∀ B' H',Same B B'->MAt c B' A (M.laidSeat (xv js ns) p) R H'->Q .non H')
def ok_seat {c:MCs} (d:zN K c.bn "lay_seat" "Bench.lay_seat" y6 Uc) (hrg:mg "range"=O) (hdict:mg "dict"=O) (hzip:mg "zip"=O) (CC:MCls K c) (TK:OkM P w K mg base CX0 1 c.fe "taken" ["self"] (spTaken c.fe)) (LA:OkM P w K mg base CX0 2 c.bx "lay" qP (spLay c.bx)):OkM P w K mg base CX0 3 c.bn "lay_seat" Uc (spSeat c K):=by
 refine oMf d sc_Bench_lay_seat λf mx A _ s H vs Q E hr h=>?_;obtain ⟨B,A,M,R,p,aa,an,js,ns,rfl,m,ok,h8,ea,en,le,q⟩:=h;have nd:=sc_Bench_lay_seat.nd;have hr2:=hr;have hr1:=hr.mono (show 1<=2 by decide);have hu:=nk (o8 (show 1<=64 by decide) _) hr.units;have CN:=CC.n;have l1:=ok.l1;have l64:=ok.l64;have hg:=ok.g;have rb:M.group*M.lq<=4*M.lq/\1<=M.group*M.lq:=by rcases hg with e | e | e <;> rw [e] <;> omega
 refine ⟨_,(zd (oRz 4 nd (zff rfl (by rfl) hdict (by rfl) hzip (zb (pv 2) (zb (pv 3) zc))))
   (zf (x8 oE rfl (xn rfl hrg (zb (zn yH (zi (pv 0) rfl) (zi (pv 0) rfl)) zc)) (oQz 5 nd) (zd (oRz 6 nd (pe_dget1 hu (pv 4) (pv 5) ⟨Y,Y,Y,Y⟩))
   (zd (Y0 (zO (zJ zaw (pv 6) xB (zM _)) (zf (oRz 6 nd (pe_okM0 TK CC.f.c hr1 zo (zi (pv 0) rfl)))) zC))
   (zf (zy (zX LA CC.b.c hr2 zo (zi (pv 0) rfl) (zb (zi (pv 0) rfl) (zb (pv 1) (zb (pv 5) (zb (pv 6) zc)))))))))))),?_⟩
 dsimp only [yh,Cx.nox,Cx.wish];have ek:(js.map (tS:Int->Key)).map kV=js.map V.int:=by rw [oP];rfl
 refine ⟨_,Y,_,Y,aa,an,js.map tS,ns.map oV,Y,(by rw [ek];exact SqL.of (m.h.sm _ _ ea)),SqL.of (m.h.sm _ _ en),(by rw [Je,Je,le]),λdt ndt=>?_⟩;show zb4 4 (.ref dt) _ (upd H dt (.dK (xv js ns))) _;generalize et:xv js ns=told at q;have tv:∀ k v,zU told k=Z v->v=.non∨∃ n,v=.int n:=λk v e=>by rw [← et] at e;exact told_val e
 have sB:Same B (upd B dt (.dK told)):=zu (Same.refl _) (m.h.free ndt);have m1:=m.grow (o:=.dK told) ndt;have ed:upd B dt (.dK told) dt=Z (.dK told):=zh;generalize upd B dt (.dK told)=B1 at sB m1 ed;generalize upd H dt (.dK told)=H1 at m1;refine ⟨_,Y,A.b,_,_,_,.int M.group,Y,m1.b,CN.c,CN.group,Y,_,Y,A.b,_,_,_,.int M.lq,Y,m1.b,CN.c,CN.lq,Y,_,_,Y,Y,.inl ⟨by omega,by omega⟩,_,Y,(by show -(2 ^ 62)<=M.group*M.lq;omega),(by show M.group*M.lq<2 ^ 62;omega),?_⟩;show tFor_S _ _ _ _ _ _;refine Zu (n:=M.room) (λi σ J=>∃ u5 u6,σ=[rq A.b,iq p,rq aa,rq an,rq dt,u5,u6]/\MAt c B1 A (M.layTo told p i) R J) ⟨O,O,Y,m1⟩ ?_ ?_
 .rintro i σ J hi ⟨u5,u6,rfl,m2⟩
  have ss:=M.layTo_same told p i;have edJ:=m2.h.sm _ _ ed;have hi':(i:Int)<M.group*M.lq:=by unfold Mc.room at hi;omega
  obtain ⟨s0,s1⟩:=zcj hg (show (1:Int)<=M.lq by omega) (show (0:Int)<=p by omega) h8 (show (0:Int)<=i by omega) hi';refine ⟨_,Y,dt,Y,.inl ⟨told,.inl edJ⟩,_,Y,_,DGet.k (k:=.inl (0+(i:Int))) edJ,?_⟩;rw [Int.zero_add];rw [M.layTo_succ];generalize hM:M.layTo told p i=N at m2 ss ⊢;refine ⟨λσ' H'=>∃ (n:Int) (N':Mc),σ'=[rq A.b,iq p,rq aa,rq an,rq dt,iq i,iq n]/\MAt c B1 A N' R H'/\SeatSame M N'/\N.layOne told p i={ N' with nums:=N'.nums.set ((p:Int)*M.group*M.lq+i).toNat n },?_,?_⟩
  .cases ev:zU told (.inl (i:Int)) with
   | none =>
    refine ⟨_,Y,Y,_,Y,yw (λz=>?_) (λz=>absurd (show decide (V.non=V.non)=true by decide) z)⟩;refine ⟨_,Y,A.b,_,_,_,.ref A.fd,Y,m2.b,CN.c,CN.dust,Y,A.fd,_,_,Y,m2.h.get 4 rfl,Y,A.fd,A.dfd,A.aD,N.dust,N.dq,Y,m2.h.get 4 rfl,m2.h.sm _ _ m2.bb.dl,λJ3 k3 e3=>?_⟩;refine ⟨_,_,Y,m2.took k3 e3,⟨ss.g,ss.l,ss.n,ss.d⟩,?_⟩;unfold Mc.layOne;rw [ev,ss.g,ss.l]
   | some v =>
    rcases tv _ _ ev with rfl | ⟨n,rfl⟩
    .refine ⟨_,Y,Y,_,Y,yw (λz=>?_) (λz=>absurd (show decide (V.non=V.non)=true by decide) z)⟩
     refine ⟨_,Y,A.b,_,_,_,.ref A.fd,Y,m2.b,CN.c,CN.dust,Y,A.fd,_,_,Y,m2.h.get 4 rfl,Y,A.fd,A.dfd,A.aD,N.dust,N.dq,Y,m2.h.get 4 rfl,m2.h.sm _ _ m2.bb.dl,λJ3 k3 e3=>?_⟩;refine ⟨_,_,Y,m2.took k3 e3,⟨ss.g,ss.l,ss.n,ss.d⟩,?_⟩;unfold Mc.layOne;rw [ev,ss.g,ss.l]
    .refine ⟨_,Y,Y,_,Y,yw (λz=>absurd z (λy=>by cases of_decide_eq_true y)) (λz=>?_)⟩
     refine ⟨n,N,Y,m2,ss,?_⟩;unfold Mc.layOne;rw [ev,ss.g,ss.l]
  rintro σ' H' ⟨n,N',rfl,m3,ss',e⟩;rw [e];have eg:=ss'.g;have el:=ss'.l;refine ⟨_,Y,A.b,_,_,_,.ref A.bx,Y,m3.b,CN.c,CN.boxes,Y,A.bx,_,_,Y,m3.h.sm _ _ m3.bb.bx,Y,_,Y,A.b,_,_,_,.int N'.group,Y,m3.b,CN.c,CN.group,Y,_,Y,_,Y,_,Y,A.bx,A.dbx,A.aN,N'.lq,N'.group,p,(i:Int),n,N'.nums,Y,m3.h.sm _ _ m3.bb.bx,m3.h.get 2 rfl,by rw [el];omega,by rw [el];omega,by rw [eg];omega,by rw [eg];omega,?_,?_,?_⟩
  .rw [eg,el];exact s0
  .rw [eg,el,ss'.n,ok.nl];omega
  .refine ⟨_,_,Y,?_⟩
   have:=m3.putNums (N'.nums.set ((p:Int)*N'.group*N'.lq+i).toNat n);rw [← eg,← el];exact this
 .rintro σ J ⟨u5,u6,rfl,m2⟩
  exact q B1 J sB m2
section
variable {c:MCs} {B:Hp} {A:Ma} {M:Mc} {R:Ji}
def MAt.s_pc (m:MAt c B A M R H) (v:Int):MAt c B A { M with pc:=v } R (upd H A.b (.ins c.bn A.db (zW "at" (.int v) (xu A M)))) :=
 ⟨{m.bb with},m.h.put (o':=.ins c.bn A.db (zW "at" (.int v) (xu A M))) 0 rfl⟩
def MAt.s_opened (m:MAt c B A M R H) (v:Int):MAt c B A { M with oq:=v } R (upd H A.b (.ins c.bn A.db (zW "opened" (.int v) (xu A M)))) :=
 ⟨{m.bb with},m.h.put (o':=.ins c.bn A.db (zW "opened" (.int v) (xu A M))) 0 rfl⟩
def MAt.s_many (m:MAt c B A M R H) (v:Int):MAt c B A { M with mn_:=v } R (upd H A.b (.ins c.bn A.db (zW "many" (.int v) (xu A M)))) :=
 ⟨{m.bb with},m.h.put (o':=.ins c.bn A.db (zW "many" (.int v) (xu A M))) 0 rfl⟩
def MAt.s_group (m:MAt c B A M R H) (v:Int):MAt c B A { M with group:=v } R (upd H A.b (.ins c.bn A.db (zW "group" (.int v) (xu A M)))) :=
 ⟨{m.bb with},m.h.put (o':=.ins c.bn A.db (zW "group" (.int v) (xu A M))) 0 rfl⟩
def MAt.s_base (m:MAt c B A M R H) (v:Int):MAt c B A { M with base:=v } R (upd H A.b (.ins c.bn A.db (zW "base" (.int v) (xu A M)))) :=
 ⟨{m.bb with},m.h.put (o':=.ins c.bn A.db (zW "base" (.int v) (xu A M))) 0 rfl⟩
def MAt.s_begun (m:MAt c B A M R H) (v:Int):MAt c B A { M with bq:=v } R (upd H A.b (.ins c.bn A.db (zW "begun" (.int v) (xu A M)))) :=
 ⟨{m.bb with},m.h.put (o':=.ins c.bn A.db (zW "begun" (.int v) (xu A M))) 0 rfl⟩
def MAt.s_width (m:MAt c B A M R H) (v:Int):MAt c B A { M with wq:=v } R (upd H A.b (.ins c.bn A.db (zW "width" (.int v) (xu A M)))) :=
 ⟨{m.bb with},m.h.put (o':=.ins c.bn A.db (zW "width" (.int v) (xu A M))) 0 rfl⟩
def MAt.s_cut (m:MAt c B A M R H) (v:Option Int):MAt c B A { M with cut:=v } R (upd H A.b (.ins c.bn A.db (zW "cut" (oV v) (xu A M)))) :=
 ⟨{m.bb with},m.h.put (o':=.ins c.bn A.db (zW "cut" (oV v) (xu A M))) 0 rfl⟩
def MAt.s_carried (m:MAt c B A M R H) (v:Option Int):MAt c B A { M with cq:=v } R (upd H A.b (.ins c.bn A.db (zW "carried" (oV v) (xu A M)))) :=
 ⟨{m.bb with},m.h.put (o':=.ins c.bn A.db (zW "carried" (oV v) (xu A M))) 0 rfl⟩
def MAt.s_faults (m:MAt c B A M R H) {n:Ad} (nn:H n=O):MAt c B { A with aF:=n } { M with fq:=[] } R (upd (upd H n (.dK [])) A.b (.ins c.bn A.db (zW "faults" (.ref n) (xu A M)))):=by
 have h:=(m.h.new (o:=.dK []) nn).put (o':=.ins c.bn A.db (zW "faults" (.ref n) (xu A M))) 1 rfl;refine ⟨{m.bb with},?_⟩;have h2:=h.sub (L':=(n,.dK [])::(A.b,.ins c.bn A.db (zW "faults" (.ref n) (xu A M)))::(A.aC,.lst (M.cells.map V.int))::(A.aN,.lst (M.nums.map V.int))::(A.aSl,.dK M.slots)::(A.fd,YT c.fe A.dfd A.aD (fAt M.dust M.dq))::(A.fp,YT c.fe A.dfp A.aP (fAt M.picks M.pq))::(A.aT,.lst (A.ts.map V.ref))::(A.aU,.lst (A.us.map V.ref))::(Z6 A M++R)) (.cons₂ _ (.cons₂ _ (.cons₂ _ (.cons₂ _ (.cons₂ _ (.cons₂ _ (.cons₂ _ (.cons₂ _ (.cons _ (sj _))))))))));refine h2.perm ?_;exact (List.perm_middle (a:=(n,HO.dK [])) (l₁:=[_,_,_,_,_,_,_]) (l₂:=_::_)).symm
end
structure MOk0 (M:Mc):Prop where
 l1:1<=M.lq
 l64:M.lq<=64
 nl:M.nums.length=8*M.lq
 ml:M.mq.length=16
 mm:∀ m∈M.mq,m.length=4*M.lq
def MOk.zero {M:Mc} (ok:MOk M):MOk0 M:=⟨ok.l1,ok.l64,ok.nl,ok.ml,ok.mm⟩
def MOk0.strip {M:Mc} (ok:MOk0 M) (hg:M.group=1∨M.group=2∨M.group=4) {w b:Int} (h0:0<=w) (h1:w<=M.group*M.lq):MOk { M with base:=b,wq:=w,bq:=w,fq:=[],cut:=O }:=⟨ok.l1,ok.l64,hg,ok.nl,ok.ml,ok.mm,h0,h1⟩
def Mc.wide (M:Mc) (b:Int):Int:=if M.group*M.lq<M.mn_-b then M.group*M.lq else M.mn_-b
def Mc.strip (M:Mc) (b:Int):Mc:=({ M with base:=b,wq:=M.wide b,bq:=M.wide b,fq:=[],cut:=O }:Mc).laidMask 0 (ZA (M.wide b).toNat)
inductive spStrip (c:MCs) (vs:Jj) (H:Hp) (Q:VK) (_:XK):Prop
 | mk (B:Hp) (A:Ma) (M:Mc) (R:Ji) (b:Int) (_:vs=[.ref A.b,.int b]) (_:MAt c B A M R H) (_:MOk0 M) (_:(M.group=1∨M.group=2∨M.group=4)) (_:b<=M.mn_) (_:∀ B' A' H',Same B B'->A'.b=A.b->MAt c B' A' (M.strip b) R H'->Q .non H')
def ok_strip {c:MCs} (d:zN K c.bn "begin_strip" "Bench.begin_strip" yu Uz) (hrg:mg "range"=O) (hlist:mg "list"=O) (hmin:mg "min"=O) (CC:MCls K c) (LM:OkM P w K mg base CX0 2 c.bn "lay_mask" Uj (spMask c K)):OkM P w K mg base CX0 3 c.bn "begin_strip" Uz (spStrip c):=by
 refine oMf d sc_Bench_begin_strip λf mx A _ s H vs Q E hr h=>?_;obtain ⟨B,A,M,R,b,rfl,m,ok,hg,hb,q⟩:=h;have nd:=sc_Bench_begin_strip.nd;have hr2:=hr;have CN:=CC.n;have l1:=ok.l1;have l64:=ok.l64;have rb:M.group*M.lq<=4*M.lq/\1<=M.group*M.lq:=by rcases hg with e | e | e <;> rw [e] <;> omega
 have w01:0<=M.wide b/\M.wide b<=M.group*M.lq:=by unfold Mc.wide;split <;> omega
 refine ⟨_,(zd (zt (pv 0) (pv 1) rfl)
   (zd (zt (pv 0) (zp (zcb rfl) (by rfl) hmin PyProof.Rows.boot_min (zb (zn Z2 (zi (pv 0) rfl) (pv 1)) (zb (zn yH (zi (pv 0) rfl) (zi (pv 0) rfl)) zc))) rfl)
   (zd (zt (pv 0) (zi (pv 0) rfl) rfl)
   (zd (zt (pv 0) zau rfl)
   (zd (zt (pv 0) xB rfl)
   (zf (zy (zX LM CC.n.c hr2 zo (pv 0) (zb zg (zb (xo (zbr rfl) (by rfl) hlist oI (zb (xo zey (by rfl) hrg PyProof.Rows.boot_range (zb (zi (pv 0) rfl) zc)) zc)) zc)))))))))),?_⟩
 dsimp only [yh,Cx.nox,Cx.wish];show (let s1:L2.TS:=_;let s2:L2.TS:=L2.tSeq _ s1;let s3:L2.TS:=L2.tSeq _ s2;let s4:L2.TS:=L2.tSeq _ s3;let s5:L2.TS:=L2.tSeq _ s4;L2.tSeq _ s5 _ _ _);intro s1 s2 s3 s4 s5;refine ⟨_,Y,_,Y,A.b,_,_,_,Y,m.b,CN.c,CN.base,(by show 23<1000;decide),?_⟩;have m:=m.s_base b;refine ⟨_,Y,A.b,_,_,_,.int M.mn_,Y,m.b,CN.c,CN.mn_,Y,_,Y,_,_,Y,Y,_,Y,A.b,_,_,_,.int M.group,Y,m.b,CN.c,CN.group,Y,_,Y,A.b,_,_,_,.int M.lq,Y,m.b,CN.c,CN.lq,Y,_,_,Y,Y,.inl ⟨by omega,by omega⟩,_,_,Y,_,Y,A.b,_,_,_,Y,m.b,CN.c,CN.wq,(by show 23<1000;decide),?_⟩;have m:=m.s_width (M.wide b);refine ⟨_,Y,A.b,_,_,_,.int (M.wide b),Y,m.b,CN.c,CN.wq,Y,_,Y,A.b,_,_,_,Y,m.b,CN.c,CN.bq,(by show 23<1000;decide),?_⟩;have m:=m.s_begun (M.wide b);refine λn nn=>?_;have mf:=m.s_faults nn;refine ⟨_,Y,A.b,_,_,_,Y,(by rw [zj (zr m.b nn)];exact m.b),CN.c,CN.fq,(by show 23<1000;decide),?_⟩;have m:=mf;refine ⟨_,Y,A.b,_,_,_,Y,m.b,CN.c,CN.cut,(by show 23<1000;decide),?_⟩;have m:=m.s_cut O;obtain ⟨wn,ew⟩:∃ wn:Nat,M.wide b=wn:=⟨(M.wide b).toNat,by omega⟩;have ok2:MOk { M with base:=b,wq:=M.wide b,bq:=M.wide b,fq:=[],cut:=O }:=ok.strip hg w01.1 w01.2;refine ⟨_,Y,A.b,_,_,Y,m.b,Y,_,Y,A.b,_,_,_,.int (M.wide b),Y,m.b,CN.c,CN.wq,Y,_,Y,λrg nrg=>?_⟩;have m1:=m.grow (o:=.rng 0 (M.wide b)) nrg;have s1:Same B (upd B rg (.rng 0 (M.wide b))):=zu (Same.refl _) (m.h.free nrg);have e1:upd B rg (.rng 0 (M.wide b)) rg=Z (.rng 0 (M.wide b)):=zh;generalize upd B rg (.rng 0 (M.wide b))=B1 at m1 s1 e1;refine ⟨rg,wn,Y,(by rw [← ew];exact m1.h.sm _ _ e1),by omega,λl nl=>?_⟩;have m2:=m1.grow (o:=.lst ((ZA wn).map V.int)) nl;have s2:Same B1 (upd B1 l (.lst ((ZA wn).map V.int))):=zu (Same.refl _) (m1.h.free nl);have e2:upd B1 l (.lst ((ZA wn).map V.int)) l=Z (.lst ((ZA wn).map V.int)):=zh;generalize upd B1 l (.lst ((ZA wn).map V.int))=B2 at m2 s2 e2;refine ⟨B2,{ A with aF:=n },{ M with base:=b,wq:=M.wide b,bq:=M.wide b,fq:=[],cut:=O },R,0,l,ZA wn,Y,m2,ok2,by decide,e2,(λj hj=>?_),λH9 m9=>?_⟩
 .obtain ⟨i,hi,rfl⟩:=o9.mp hj
  have:=nZ.mp hi;show 0<=(i:Int)/\(i:Int)<M.group*M.lq;omega
 .refine q B2 { A with aF:=n } H9 (s1.trans s2) rfl ?_
  unfold Mc.strip;rw [ew,q0z];rw [ew] at m9;exact m9
def Mc.round (M:Mc) (mn_ my:Int):Mc:=({ M with oq:=M.pc,mn_:=mn_,group:=my,cq:=O }:Mc).strip 0
inductive spRound (c:MCs) (vs:Jj) (H:Hp) (Q:VK) (_:XK):Prop
 | mk (B:Hp) (A:Ma) (M:Mc) (R:Ji) (mn_ my:Int) (_:vs=[.ref A.b,.int mn_,.int my]) (_:MAt c B A M R H) (_:MOk0 M) (_:(my=1∨my=2∨my=4)) (_:0<=mn_) (_:∀ B' A' H',Same B B'->A'.b=A.b->MAt c B' A' (M.round mn_ my) R H'->Q .non H')
def ok_round {c:MCs} (d:zN K c.bn "open_round" "Bench.open_round" yA Um) (CC:MCls K c) (BS:OkM P w K mg base CX0 3 c.bn "begin_strip" Uz (spStrip c)):OkM P w K mg base CX0 4 c.bn "open_round" Um (spRound c):=by
 refine oMf d sc_Bench_open_round λf mx A _ s H vs Q E hr h=>?_;obtain ⟨B,A,M,R,mn_,my,rfl,m,ok,hg,hm,q⟩:=h;have nd:=sc_Bench_open_round.nd;have hr3:=hr;have CN:=CC.n;refine ⟨_,(zd (zt (pv 0) (zi (pv 0) rfl) rfl)
   (zd (zt (pv 0) (pv 1) rfl)
   (zd (zt (pv 0) (pv 2) rfl)
   (zd (zt (pv 0) xB rfl)
   (zf (zy (zX BS CC.n.c hr3 zo (pv 0) (zb zg zc)))))))),?_⟩
 dsimp only [yh,Cx.nox,Cx.wish];show (let s1:L2.TS:=_;let s2:L2.TS:=L2.tSeq _ s1;let s3:L2.TS:=L2.tSeq _ s2;let s4:L2.TS:=L2.tSeq _ s3;L2.tSeq _ s4 _ _ _);intro s1 s2 s3 s4;refine ⟨_,Y,A.b,_,_,_,.int M.pc,Y,m.b,CN.c,CN.pc,Y,_,Y,A.b,_,_,_,Y,m.b,CN.c,CN.oq,(by show 23<1000;decide),?_⟩;have m:=m.s_opened M.pc;refine ⟨_,Y,_,Y,A.b,_,_,_,Y,m.b,CN.c,CN.mn_,(by show 23<1000;decide),?_⟩;have m:=m.s_many mn_;refine ⟨_,Y,_,Y,A.b,_,_,_,Y,m.b,CN.c,CN.group,(by show 23<1000;decide),?_⟩;have m:=m.s_group my;refine ⟨_,Y,A.b,_,_,_,Y,m.b,CN.c,CN.cq,(by show 23<1000;decide),?_⟩;have m:=m.s_carried O;exact ⟨_,Y,A.b,_,_,Y,m.b,Y,B,A,{ M with oq:=M.pc,mn_:=mn_,group:=my,cq:=O },R,0,Y,m,⟨ok.l1,ok.l64,ok.nl,ok.ml,ok.mm⟩,hg,hm,λB' A' H' s eb m'=>q B' A' H' s eb m'⟩
end K45
namespace L2
open PySem
def zdb {X:Cx} {K:Fg} (e:X.K=K):IxR X (rIxT K):=by subst e;exact zF
end L2
namespace K45
open PySem L2 FM
variable {K:Fg} {base:Heap}
structure TabA where
 s:Ad
 e:Ad
 w:Ad
structure Tabs (w:World) (K:Fg) (mg:J0) (t:TabA):Prop where
 Ts:xT w K t.s
 Te:xT w K t.e
 Tw:xT w K t.w
 ls:(t.s == oU)=false
 le:(t.e == oU)=false
 hs:mg "SEAT_STEPS"=Z (.ref t.s)
 he:mg "EFFECTS"=Z (.ref t.e)
 hw:mg "WAYS"=Z (.ref t.w)
 s_number:zI K mg t.s "number" "numbers_written"
 s_here:zI K mg t.s "here" "numbers_of_here"
 s_load:zI K mg t.s "load" "numbers_loaded"
 s_spread:zI K mg t.s "spread" "numbers_spread"
 s_shift:zI K mg t.s "shift" "numbers_shifted"
 s_gather:zI K mg t.s "gather" "numbers_gathered"
 s_op:zI K mg t.s "op" "numbers_joined"
 s_pick:zI K mg t.s "pick" "numbers_picked"
 s_copy:zI K mg t.s "copy" "numbers_copied"
 s_bring:zI K mg t.s "bring" "numbers_brought"
 e_reach:zI K mg t.e "reach" "play_reach"
 es_reach:mG K t.s "reach"=Z O
 e_trim:zI K mg t.e "trim" "play_trim"
 es_trim:mG K t.s "trim"=Z O
 e_stop:zI K mg t.e "stop" "play_stop"
 es_stop:mG K t.s "stop"=Z O
 e_choose:zI K mg t.e "choose" "play_choose"
 es_choose:mG K t.s "choose"=Z O
 e_other:zI K mg t.e "other" "play_other"
 es_other:mG K t.s "other"=Z O
 e_save:zI K mg t.e "save" "play_save"
 es_save:mG K t.s "save"=Z O
 e_store:zI K mg t.e "store" "play_store"
 es_store:mG K t.s "store"=Z O
 e_put:zI K mg t.e "put" "play_put"
 es_put:mG K t.s "put"=Z O
 e_fold:zI K mg t.e "fold" "play_fold"
 es_fold:mG K t.s "fold"=Z O
 e_running:zI K mg t.e "running" "play_running"
 es_running:mG K t.s "running"=Z O
 e_any:zI K mg t.e "any" "play_any"
 es_any:mG K t.s "any"=Z O
 w_begin:zI K mg t.w "begin" "play_begin"
 ws_begin:mG K t.s "begin"=Z O
 we_begin:mG K t.e "begin"=Z O
 w_next:zI K mg t.w "next" "play_next"
 ws_next:mG K t.s "next"=Z O
 we_next:mG K t.e "next"=Z O
 w_turns:zI K mg t.w "turns" "play_turns"
 ws_turns:mG K t.s "turns"=Z O
 we_turns:mG K t.e "turns"=Z O
 w_quiet:zI K mg t.w "quiet" "play_quiet"
 ws_quiet:mG K t.s "quiet"=Z O
 we_quiet:mG K t.e "quiet"=Z O
 w_till:zI K mg t.w "till" "play_till"
 ws_till:mG K t.s "till"=Z O
 we_till:mG K t.e "till"=Z O
abbrev FnM:=Jj->Mc->J6->Option (Mc×List (Option Int))
structure FnMOk (f:FnM):Prop where
 ok:∀ {tv M js M' ns},f tv M js=Z (M',ns)->MOk M->MOk M'
 g:∀ {tv M js M' ns},f tv M js=Z (M',ns)->M'.group=M.group
 n:∀ {tv M js M' ns},f tv M js=Z (M',ns)->ns.length=js.length
inductive spFn (c:MCs) (f:FnM) (vs:Jj) (H:Hp) (Q:VK) (_:XK):Prop
 | mk (B:Hp) (A:Ma) (M:Mc) (R:Ji) (st aa:Ad) (tv:Jj) (js:J6) (M':Mc) (ns:List (Option Int)) (_:vs=[.ref A.b,.ref st,.ref aa]) (_:MAt c B A M R H) (_:B st=Z (.tup tv)) (_:B aa=Z (.lst (js.map V.int))) (_:f tv M js=Z (M',ns)) (_:MOk M) (_:(∀ j∈js,0<=j/\j<M.group*M.lq)) (_:js.length<=1000) (_:∀ B' A' H' l,Same B B'->A'.b=A.b->MAt c B' A' M' R H'->B' l=Z (.lst (ns.map oV))->Q (.ref l) H')
def seatM (f:FnM) (tv:Jj) (M:Mc):Option Mc:=match (tv[1]?:Jk),tv.getLast? with
 | some (V.int p),Z (V.int k)=>if 0<=p/\(p+1)*M.group<=8/\0<=k/\k<16 then (f tv M (M.act k.toNat)).map λr=>r.1.laidSeat (xv (M.act k.toNat) r.2) p.toNat else O
 | _,_=>O
inductive spPSS (c:MCs) (S:Str->FnM->Prop) (vs:Jj) (H:Hp) (Q:VK) (_:XK):Prop
 | mk (word:Str) (f:FnM) (B:Hp) (A:Ma) (M:Mc) (R:Ji) (st:Ad) (tv:Jj) (M':Mc) (_:S word f) (_:vs=[.ref A.b,.ref st]) (_:MAt c B A M R H) (_:B st=Z (.tup tv)) (_:tv[0]?=Z (.str word)) (_:seatM f tv M=Z M') (_:MOk M) (_:∀ B' A' H',Same B B'->A'.b=A.b->MAt c B' A' M' R H'->Q .non H')
def YE {M:Mc} (ok:MOk M) {k:Nat} (hk:k<16):M.wq.toNat<=(M.mq.getD k []).length/\M.wq.toNat<=1000:=by
 have ml:=ok.ml;have hk':k<M.mq.length:=by omega
 have l1:=ok.l1;have l64:=ok.l64;have w0:=ok.w0;have w1:=ok.w1
 have lm:(M.mq.getD k []).length=4*M.lq:=by
  rw [q6x,m6 hk'];exact ok.mm _ (pw hk')
 have rb:M.group*M.lq<=4*M.lq:=by rcases ok.g with e | e | e <;> rw [e] <;> omega
 rw [lm];omega
def zdj {M:Mc} (ok:MOk M) (k:Nat):(∀ j∈M.act k,0<=j/\j<M.group*M.lq)/\(M.act k).length<=1000:=by
 have w0:=ok.w0;have w1:=ok.w1;refine ⟨λj hj=>?_,?_⟩
 .obtain ⟨a,b,_⟩:=Mc.act_mem hj
  omega
 .have:=M.actTo_len k M.wq.toNat
  have rb:M.group*M.lq<=4*M.lq:=by rcases ok.g with e | e | e <;> rw [e] <;> omega
  have:=ok.l64;unfold Mc.act;omega
def atI_lst {tv:Jj} {v:V} (h:tv.getLast?=Z v):atI tv (-1)=Z v:=by
 obtain ⟨l,rfl⟩:∃ l,tv=l++[v]:=by
  rw [List.getLast?_eq_some_iff] at h;exact h
 exact atI_last _ _
def XJ (P:nQ) (w:World) (K:Fg) (mg:J0) (base:Heap) (c:MCs) (t:TabA) (S:Str->FnM->Prop) (rm:Nat):Prop:=∀ word f,S word f->∃ (nm:Str) (ps:Jb),zI K mg t.s word nm/\Ok P w K mg base CX0 rm nm ps (spFn c f)/\FnMOk f
def ok_pss {c:MCs} {t:TabA} {S:Str->FnM->Prop} {rm:Nat} (d:zk K mg "play_seat_step" yU qC) (CC:MCls K c) (TT:Tabs w K mg t) (hrm:rm<=6) (AU:OkM P w K mg base CX0 1 c.bn "active_under" Ur (spAct c)) (LS:OkM P w K mg base CX0 3 c.bn "lay_seat" Uc (spSeat c K))
  (SW:XJ P w K mg base c t S rm):Ok P w K mg base CX0 7 "play_seat_step" qC (spPSS c S):=by
 refine oDf d sc_play_seat_step λg mx A _ s H vs Q E hr h=>?_;obtain ⟨word,f,B,A,M,R,st,tv,M',hS,rfl,m,es,e0,eM,ok,q⟩:=h;obtain ⟨nm,ps,sg,FN,fo⟩:=SW word f hS;have nd:=sc_play_seat_step.nd;have hr3:=hr.mono (show 3<=6 by decide);have hr1:=hr.mono (show 1<=6 by decide);have hrF:Room rm _:=hr.mono hrm;have CN:=CC.n;unfold seatM at eM
 split at eM
 case h_2=>cases eM
 rename_i p k e1 el
 split at eM
 case isFalse=>cases eM
 rename_i hc;obtain ⟨p0,p8,k0,k16⟩:=hc;obtain ⟨⟨M1,ns⟩,ef,rfl⟩:=pV.mp eM;obtain ⟨pn,rfl⟩:∃ n:Nat,p=n:=⟨p.toNat,by omega⟩;obtain ⟨kn,rfl⟩:∃ n:Nat,k=n:=⟨k.toNat,by omega⟩;rw [q0z] at ef;have kn16:kn<16:=by omega
 obtain ⟨mr1,mr2⟩:=YE ok kn16;obtain ⟨ai,al⟩:=zdj ok kn;have ml:=ok.ml;refine ⟨_,(zd (oRz 2 nd (zX AU CC.n.c hr1 zo (pv 0) (zb (zv zF (pv 1) (pe_un zch zg) (λ_ _=>rfl)) zc)))
   (zf (zy (zX LS CC.n.c hr3 zo (pv 0) (zb (zv zF (pv 1) zg (λ_ _=>rfl)) (zb (pv 2) (zb (Xi (CX:=CX0) (k:=rm) (zv zdc (zZ TT.hs) (zv zF (pv 1) zg (λ_ _=>rfl)) (λ_ _=>rfl)) hrF zo (zb (pv 0) (zb (pv 1) (zb (pv 2) zc)))) zc))))))),?_⟩
 dsimp only [yh,Cx.nox,Cx.wish];refine ⟨_,Y,A.b,_,_,Y,m.b,Y,_,Y,_,Y,st,_,_,_,Y,Y,SqT.of (m.h.sm _ _ es),atI_lst el,B,A,M,R,kn,Y,m,by omega,ok.w0,mr1,mr2,λB1 H1 l s1 m1 ea=>?_⟩;obtain ⟨fn,efn,mfn⟩:=sg;obtain ⟨f2,fd2,mf2,kp,bb,FO⟩:=FN;cases mfn.symm.trans mf2;refine ⟨_,Y,A.b,_,_,Y,m1.b,Y,_,Y,st,_,_,_,Y,Y,SqT.of (m1.h.sm _ _ (s1 _ _ es)),zB e1,_,Y,_,Y,st,_,_,_,Y,Y,SqT.of (m1.h.sm _ _ (s1 _ _ es)),zB (j:=0) e0,t.s,word,.ref fn,.ref fn,Y,Y,TT.Ts,efn,Y,?_⟩;refine ⟨fn,fd2,ps,spFn c f,Y,FO,kp,bb,_,Y,_,Y,_,Y,B1,A,M,R,st,l,tv,M.act kn,M1,ns,Y,m1,s1 _ _ es,ea,ef,ok,ai,al,λB2 A2 H2 l2 s2 eb m2 en=>?_⟩;refine ⟨B2,A2,M1,R,pn,l,l2,M.act kn,ns,by rw [eb];rfl,m2,fo.ok ef ok,by rw [fo.g ef];exact p8,s2 _ _ ea,en,(fo.n ef).symm,λB3 H3 s3 m3=>?_⟩;rw [q0z,q0z] at q;exact q B3 A2 H3 ((s1.trans s2).trans s3) eb m3
def Mc.reads (M:Mc) (row:Nat) (js:J6):Mc:={ M with tq:=M.tq++js.map λj=>(M.pc,("read":Str),M.adr row (M.base+j)) }
def Mc.valAt (M:Mc) (row:Nat) (j:Int):Int:=M.cells.getD (M.adr row (M.base+j)).toNat 0
def Mc.reads_snoc (M:Mc) (row:Nat) (js:J6) (j:Int):M.reads row (js++[j])=(M.reads row js).touched "read" (M.adr row (M.base+j)):=by
 unfold Mc.reads Mc.touched;rw [Jg,← n8];rfl
def rowIn (M:Mc) (row:Nat) (js:J6):Prop:=row<M.starts.length/\∀ j∈js,0<=M.adr row (M.base+j)/\(M.adr row (M.base+j)).toNat<M.cells.length
open Classical in
noncomputable def YS:FnM:=λtv M js=>match (tv[2]?:Jk) with
 | some (V.int r)=>if 0<=r/\rowIn M r.toNat js/\M.tq.length+js.length<100000 then Z (M.reads r.toNat js,js.map λj=>Z (M.valAt r.toNat j)) else O
 | _=>O
def Xk {tv:Jj} {M M':Mc} {js:J6} {ns:List (Option Int)} (h:YS tv M js=Z (M',ns)):∃ r:Nat,tv[2]?=Z (.int r)/\rowIn M r js/\M.tq.length+js.length<100000/\M'=M.reads r js/\ns=js.map λj=>Z (M.valAt r j):=by
 unfold YS at h
 split at h
 .rename_i r e
  split at h
  .rename_i hc
   obtain ⟨r0,h1,h2⟩:=hc;cases h;exact ⟨r.toNat,by rw [e];congr 2;omega,h1,h2,Y,Y⟩
  .cases h
 .cases h
def loadM_ok:FnMOk YS where
 ok:=λh ok=>by
  obtain ⟨r,_,_,_,rfl,_⟩:=Xk h;exact {ok with}
 g:=λh=>by
  obtain ⟨r,_,_,_,rfl,_⟩:=Xk h;rfl
 n:=λh=>by
  obtain ⟨r,_,_,_,_,rfl⟩:=Xk h;rw [Je]
def ok_loaded {c:MCs} (d:zk K mg "numbers_loaded" yX qE) (CC:MCls K c) (RC:OkM P w K mg base CX0 2 c.bn "read_cell" Up (spRead c)):Ok P w K mg base CX0 3 "numbers_loaded" qE (spFn c YS):=by
 refine oDf d sc_numbers_loaded λg mx A _ s H vs Q E hr h=>?_;obtain ⟨B,A,M,R,st,aa,tv,js,M',ns,rfl,m,es,ea,ef,ok,hj,hl,q⟩:=h;obtain ⟨r,e2,⟨hr0,hin⟩,ht,rfl,rfl⟩:=Xk ef;have nd:=sc_numbers_loaded.nd;have hr2:=hr;have CN:=CC.n;have SL:(3000:Nat)<sizeLine:=by decide
 refine ⟨_,(zf (zm (xZ Uv [O,Z 0,Z 1] rfl rfl rfl (Zq (pv 2)) (λs3 H3 fp=>⟨oQz 0 (Jl Uv),(zX RC CC.n.c hr2 zo (pv 1) (zb (zv (zdb (K:=K) rfl) (pv 2) zg (λ_ _=>rfl)) (zb (zn zQ (Xh (K:=K) rfl (pv 1) rfl) (pv 0)) zc)))⟩)))),?_⟩;dsimp only [yh,Cx.nox,Cx.wish];refine ⟨_,Y,aa,Y,⟨_,SqL.of (m.h.sm _ _ ea)⟩,_,Y,λD nD=>?_⟩
 have m0:MAt c B A (M.reads r (js.take 0)) ((D,.lst (((js.take 0).map λj=>Z (M.valAt r j)).map oV))::R) (upd H D (.lst [])):=by
  have e:M.reads r (js.take 0)=M:=by unfold Mc.reads;rw [List.take_zero];show { M with tq:=M.tq++[] }=M;rw [q8y]
  rw [e];exact m.newR nD
 generalize upd H D (.lst [])=H1 at m0 ⊢;let Pv1:Nat->St->Hp->Prop:=(λi σ J=>∃ (u:Jk) (B1:Hp) (A1:Ma),σ=[u,rq A.b,rq st]/\Same B B1/\A1.b=A.b/\MAt c B1 A1 (M.reads r (js.take i)) ((D,.lst (((js.take i).map λj=>Z (M.valAt r j)).map oV))::R) J);refine Z9 (K:=K) (a:=aa) (D:=D) (xs:=js.map V.int) Pv1 ⟨O,B,A,Y,Same.refl _,Y,m0⟩ (λi σ J _ ⟨_,B1,A1,_,s1,_,m1⟩=>SqL.of (m1.h.sm _ _ (s1 _ _ ea))) ?_ ?_
 .clear m0
  rintro i y σ J hy ⟨u,B1,A1,rfl,s1,eb,m1⟩;obtain ⟨hlt,rfl⟩:=Yj hy;have mj:=L2.getD_mem hlt;have e9:js[i]?=Z (js.getD i 0):=by rw [q6x,m6 hlt];rfl
  generalize js.getD i 0=j at mj e9;obtain ⟨j0,j1⟩:=hin j mj;refine ⟨_,Y,A1.b,_,_,by rw [eb],m1.b,Y,_,Y,st,_,_,_,Y,Y,SqT.of (m1.h.sm _ _ (s1 _ _ es)),zB (j:=2) e2,_,Y,A1.b,_,_,_,.int M.base,by rw [eb],m1.b,CN.c,CN.base,Y,_,Y,_,_,Y,Y,B1,A1,M.reads r (js.take i),_,r,M.base+j,by rw [eb];rfl,m1,?_,hr0,j0,j1,λB2 A2 H2 s2 eb2 m2=>?_⟩
  .show (M.tq++_).length<_
   rw [Jf,Je,ny];omega
  refine ⟨_,m2.getR,(by rw [Je,Je,ny];omega),_,B2,A2,Y,s1.trans s2,eb2.trans eb,?_⟩;have m3:=m2.putR (o':=.lst (((js.take (i+1)).map λj=>Z (M.valAt r j)).map oV));have et:js.take (i+1)=js.take i++[j]:=by rw [nY,e9];rfl
  rw [et,M.reads_snoc];rw [et,Jg,Jg] at m3;rw [Jg,Jg];exact m3
 .rintro σ J ⟨u,B1,A1,rfl,s1,eb,m1⟩
  rw [Je,oa] at m1;have nb:B1 D=O:=m1.h.nw (D,_) (mP atR);exact q _ A1 J D (s1.trans (zu (Same.refl _) nb)) eb m1.settle zh
abbrev EfM:=Jj->Mc->Option Mc
inductive spEf (c:MCs) (f:EfM) (vs:Jj) (H:Hp) (Q:VK) (_:XK):Prop
 | mk (B:Hp) (A:Ma) (M:Mc) (R:Ji) (st:Ad) (tv:Jj) (M':Mc) (_:vs=[.ref A.b,.ref st]) (_:MAt c B A M R H) (_:B st=Z (.tup tv)) (_:f tv M=Z M') (_:MOk M) (_:∀ B' A' H',Same B B'->A'.b=A.b->MAt c B' A' M' R H'->Q .non H')
inductive spPE (c:MCs) (S:Str->EfM->Prop) (vs:Jj) (H:Hp) (Q:VK) (_:XK):Prop
 | mk (word:Str) (f:EfM) (B:Hp) (A:Ma) (M:Mc) (R:Ji) (st:Ad) (tv:Jj) (M':Mc) (_:S word f) (_:vs=[.ref A.b,.ref st]) (_:MAt c B A M R H) (_:B st=Z (.tup tv)) (_:tv[0]?=Z (.str word)) (_:f tv M=Z M') (_:MOk M) (_:∀ B' A' H',Same B B'->A'.b=A.b->MAt c B' A' M' R H'->Q .non H')
def zbh (P:nQ) (w:World) (K:Fg) (mg:J0) (base:Heap) (c:MCs) (t:TabA) (S:Str->EfM->Prop) (rm:Nat):Prop:=∀ word f,S word f->mG K t.s word=Z O/\∃ (nm:Str) (ps:Jb),zI K mg t.e word nm/\Ok P w K mg base CX0 rm nm ps (spEf c f)
def ok_pe {c:MCs} {t:TabA} {S:Str->EfM->Prop} {rm:Nat} (hrm:rm<=7) (d:zk K mg "play_effect" xL qC) (TT:Tabs w K mg t) (EW:zbh P w K mg base c t S rm):Ok P w K mg base CX0 8 "play_effect" qC (spPE c S):=by
 refine oDf d zaf λg mx A _ s H vs Q E hr h=>?_;obtain ⟨word,f,B,A,M,R,st,tv,M',hS,rfl,m,es,e0,eM,ok,q⟩:=h;obtain ⟨_,nm,ps,sg,FN⟩:=EW word f hS;have hr4:=hr.mono (show 4<=7 by decide);have hrF:Room rm _:=hr.mono hrm;obtain ⟨fn,efn,mfn⟩:=sg;obtain ⟨f2,fd2,mf2,kp,bb,FO⟩:=FN;cases mfn.symm.trans mf2;refine ⟨_,(zf (zy (Xi (CX:=CX0) (k:=rm) (zv zdc (zZ TT.he) (zv zF (pv 1) zg (λ_ _=>rfl)) (λ_ _=>rfl)) hrF zo (zb (pv 0) (zb (pv 1) zc))))),?_⟩;dsimp only [yh,Cx.nox,Cx.wish];exact ⟨_,Y,st,_,_,_,Y,Y,SqT.of (m.h.sm _ _ es),zB (j:=0) e0,t.e,word,.ref fn,.ref fn,Y,Y,TT.Te,efn,Y,fn,fd2,ps,spEf c f,Y,FO,kp,bb,_,Y,_,Y,B,A,M,R,st,tv,M',Y,m,es,eM,ok,q⟩
inductive spIn (aD:Ad) (K:Fg) (vs:Jj) (H:Hp) (Q:VK) (_:XK):Prop
 | mk (word:Str) (r:Ja) (_:vs=[.str word]) (_:mG K aD word=Z r) (_:Q (.bl r.isSome) H)
def ok_lsw {t:TabA} (d:zk K mg "lays_seat" ZM ["word"]) (TT:Tabs w K mg t):Ok P w K mg base CX0 1 "lays_seat" ["word"] (spIn t.s K):=by
 refine oDf d zcl λg mx A _ s H vs Q E hr h=>?_;obtain ⟨word,r,rfl,e,q⟩:=h;refine ⟨_,(zf (zm (xS zbx (pv 0) (zZ TT.hs) rfl))),?_⟩;dsimp only [yh,Cx.nox,Cx.wish];exact ⟨_,Y,word,t.s,r,Y,Y,TT.Ts,TT.ls,e,q⟩
def ok_hew {t:TabA} (d:zk K mg "has_effect" Zk ["word"]) (TT:Tabs w K mg t):Ok P w K mg base CX0 1 "has_effect" ["word"] (spIn t.e K):=by
 refine oDf d zbn λg mx A _ s H vs Q E hr h=>?_;obtain ⟨word,r,rfl,e,q⟩:=h;refine ⟨_,(zf (zm (xS zbx (pv 0) (zZ TT.he) rfl))),?_⟩;dsimp only [yh,Cx.nox,Cx.wish];exact ⟨_,Y,word,t.e,r,Y,Y,TT.Te,TT.le,e,q⟩
def Mc.puts (M:Mc) (row:Nat) (ps:List (Int×Int)):Mc:=ps.foldl (λM p=>M.wrote row p.1 p.2) M
def Mc.puts_snoc (M:Mc) (row:Nat) (ps:List (Int×Int)) (p:Int×Int):M.puts row (ps++[p])=(M.puts row ps).wrote row p.1 p.2:=by
 unfold Mc.puts;rw [oN];rfl
def Mc.puts_is (M:Mc) (row:Nat) (ps:List (Int×Int)):M.puts row ps={ M with cells:=(M.puts row ps).cells,tq:=M.tq++ps.map λp=>(M.pc,("write":Str),M.adr row p.1) }/\(M.puts row ps).cells.length=M.cells.length:=by
 induction ps generalizing M with
 | nil=>exact ⟨by show M={ M with tq:=M.tq++[] };rw [q8y],Y⟩
 | cons p ps ih =>
  obtain ⟨a,b⟩:=ih (M.wrote row p.1 p.2);have e:M.puts row (p::ps)=(M.wrote row p.1 p.2).puts row ps:=rfl;rw [e];refine ⟨?_,b.trans (by show (M.cells.set _ _).length=_;rw [nJ])⟩;rw [a];show ({ M with cells:=_,tq:=(M.tq++[_])++ps.map _ }:Mc)={ M with cells:=_,tq:=_ };rw [n8];rfl
open Classical in
noncomputable def xI:EfM:=λtv M=>match (tv[1]?:Jk),(tv[2]?:Jk),(tv[3]?:Jk) with
 | some (V.int r),Z (V.int p),Z (V.int k)=>if 0<=r/\0<=p/\(p+1)*M.group<=8/\0<=k/\k<16/\rowIn M r.toNat (M.act k.toNat)/\M.tq.length+(M.act k.toNat).length<100000 then Z (M.puts r.toNat ((M.act k.toNat).map λj=>(M.base+j,M.nq p.toNat j))) else O
 | _,_,_=>O
def storeM_is {tv:Jj} {M M':Mc} (h:xI tv M=Z M'):∃ r p k:Nat,tv[1]?=Z (.int r)/\tv[2]?=Z (.int p)/\tv[3]?=Z (.int k)/\((p:Int)+1)*M.group<=8/\k<16/\rowIn M r (M.act k)/\M.tq.length+(M.act k).length<100000/\M'=M.puts r ((M.act k).map λj=>(M.base+j,M.nq p j)):=by
 unfold xI at h
 split at h
 .rename_i r p k e1 e2 e3
  split at h
  .rename_i hc
   obtain ⟨r0,p0,p8,k0,k1,hin,ht⟩:=hc;cases h;refine ⟨r.toNat,p.toNat,k.toNat,?_,?_,?_,?_,by omega,hin,ht,Y⟩
   .rw [e1];congr 2;omega
   .rw [e2];congr 2;omega
   .rw [e3];congr 2;omega
   .rw [oA p0];exact p8
  .cases h
 .cases h
def xl {α:Type} {f:α->V} {l:List α} {i:Nat} {x:V} (h:(l.map f)[i]?=Z x):∃ a,l[i]?=Z a/\x=f a:=by
 rw [mJ] at h;obtain ⟨a,e,z⟩:=pV.mp h;exact ⟨a,e,z.symm⟩
def ok_store {c:MCs} (d:zk K mg "play_store" Zf qC) (hzip:mg "zip"=O) (CC:MCls K c) (AU:OkM P w K mg base CX0 1 c.bn "active_under" Ur (spAct c)) (NI:OkM P w K mg base CX0 3 c.bn "numbers_in" qQ (spNums c K))
  (WC:OkM P w K mg base CX0 2 c.bn "write_cell" Uf (spWrite c)):Ok P w K mg base CX0 4 "play_store" qC (spEf c xI):=by
 refine oDf d sc_play_store λg mx A _ s H vs Q E hr h=>?_;obtain ⟨B,A,M,R,st,tv,M',rfl,m,es,ef,ok,q⟩:=h;have nd:=sc_play_store.nd;have hr3:=hr;have hr2:=hr.mono (show 2<=3 by decide);have hr1:=hr.mono (show 1<=3 by decide);have CN:=CC.n;have ml:=ok.ml;obtain ⟨r,p,k,e1,e2,e3,p8,k16,⟨hr0,hin⟩,ht,rfl⟩:=storeM_is ef;obtain ⟨mr1,mr2⟩:=YE ok k16;obtain ⟨ai,al⟩:=zdj ok k;refine ⟨_,(zd (oRz 2 nd (zX AU CC.n.c hr1 zo (pv 0) (zb (zv zF (pv 1) zg (λ_ _=>rfl)) zc)))
   (zf (x8 oE rfl (pi_zip rfl hzip (zb (pv 2) (zb (zX NI CC.n.c hr3 zo (pv 0) (zb (zv zF (pv 1) zg (λ_ _=>rfl)) (zb (pv 2) zc))) zc))) (pg_tup rfl (yF (oQz 3 nd) (yF (oQz 4 nd) Xg))) (zf (zy (zX WC CC.n.c hr2 zo (pv 0) (zb (zv zF (pv 1) zg (λ_ _=>rfl)) (zb (zn zQ (zi (pv 0) rfl) (pv 3)) (zb (pv 4) zc))))))))),?_⟩
 dsimp only [yh,Cx.nox,Cx.wish];refine ⟨_,Y,A.b,_,_,Y,m.b,Y,_,Y,st,_,_,_,Y,Y,SqT.of (m.h.sm _ _ es),zB (j:=3) e3,B,A,M,R,k,Y,m,by omega,ok.w0,mr1,mr2,λB1 H1 l s1 m1 ea=>?_⟩;refine ⟨_,Y,_,Y,A.b,_,_,Y,m1.b,Y,_,Y,st,_,_,_,Y,Y,SqT.of (m1.h.sm _ _ (s1 _ _ es)),zB (j:=2) e2,_,Y,B1,A,M,R,p,l,M.act k,Y,m1,ok,p8,ea,ai,al,λB2 H2 l2 s2 m2 en=>?_⟩;refine ⟨l,l2,Y,⟨_,SqL.of (m2.h.sm _ _ (s2 _ _ ea))⟩,⟨_,SqL.of (m2.h.sm _ _ en)⟩,?_⟩;generalize M.act k=js at *;let pr:Int->Int×Int:=λj=>(M.base+j,M.nq p j);let Pv1:Nat->St->Hp->Prop:=(λi σ J=>∃ u3 u4 B3 A3,σ=[rq A.b,rq st,rq l,u3,u4]/\Same B2 B3/\A3.b=A.b/\MAt c B3 A3 (M.puts r ((js.take i).map pr)) R J);refine for_zip (xs:=js.map V.int) (ys:=(js.map (M.nq p)).map V.int) Pv1 ⟨O,O,B2,A,Y,Same.refl _,Y,m2⟩ (λi σ J _ ⟨_,_,B3,A3,_,s3,_,m3⟩=>⟨SqL.of (m3.h.sm _ _ (s3 _ _ (s2 _ _ ea))),SqL.of (m3.h.sm _ _ (s3 _ _ en))⟩) (by rw [Je,Je,Je]) ?_ ?_
 .rintro i x y σ J T hx hy ⟨u3,u4,B3,A3,rfl,s3,eb,m3⟩ nT
  obtain ⟨j,e9,rfl⟩:=xl hx;obtain ⟨z,e10,rfl⟩:=xl hy;rw [mJ,e9] at e10;cases e10;have mj:j∈js:=mP e9;obtain ⟨j0,j1⟩:=hin j mj;have m4:=m3.grow (o:=.tup [.int j,.int (M.nq p j)]) nT;have s4:Same B3 (upd B3 T (.tup [.int j,.int (M.nq p j)])):=zu (Same.refl _) (m3.h.free nT);have e4:upd B3 T (.tup [.int j,.int (M.nq p j)]) T=Z (.tup [.int j,.int (M.nq p j)]):=zh;generalize upd J T (.tup [.int j,.int (M.nq p j)])=J4 at m4 ⊢;generalize upd B3 T (.tup [.int j,.int (M.nq p j)])=B4 at m4 s4 e4;obtain ⟨pi1,pi2⟩:=M.puts_is r ((js.take i).map pr);have hb:(M.puts r ((js.take i).map pr)).base=M.base:=by rw [pi1]
  have hs:(M.puts r ((js.take i).map pr)).starts=M.starts:=by rw [pi1]
  have hT:(M.puts r ((js.take i).map pr)).tq.length<100000:=by
   rw [pi1];show (M.tq++_).length<_;rw [Jf,Je,Je,ny];have:i<js.length:=(mF.mp e9).1;omega
  refine ⟨T,_,Y,SqT.of (m4.h.sm _ _ e4),Y,_,_,Y,_,_,Y,Y,?_⟩;refine ⟨_,Y,A3.b,_,_,by rw [eb],m4.b,Y,_,Y,st,_,_,_,Y,Y,SqT.of (m4.h.sm _ _ (s4 _ _ (s3 _ _ (s2 _ _ (s1 _ _ es))))),zB (j:=1) e1,_,Y,A3.b,_,_,_,.int M.base,by rw [eb],m4.b,CN.c,CN.base,(by show Z (V.int _)=_;rw [hb]),_,Y,_,_,Y,Y,_,Y,B4,A3,_,R,r,M.base+j,M.nq p j,by rw [eb];rfl,m4,hT,?_,?_,?_,λB5 A5 H5 s5 eb5 m5=>?_⟩
  .rw [hs];exact hr0
  .unfold Mc.adr;rw [hs];exact j0
  .unfold Mc.adr;rw [hs,pi2];exact j1
  .refine ⟨_,_,B5,A5,Y,(s3.trans s4).trans s5,eb5.trans eb,?_⟩
   have et:(js.take (i+1)).map pr=(js.take i).map pr++[pr j]:=by rw [nY,e9,Jg];rfl
   rw [et,M.puts_snoc];exact m5
 .rintro σ J ⟨u3,u4,B3,A3,rfl,s3,eb,m3⟩
  rw [Je,oa] at m3;exact q B3 A3 J ((s1.trans s2).trans s3) eb m3
abbrev WyM:=Jj->Mc->Mc->Int->Prop
inductive spWy (c:MCs) (f:WyM) (vs:Jj) (H:Hp) (Q:VK) (_:XK):Prop
 | mk (B:Hp) (A:Ma) (M:Mc) (R:Ji) (st:Ad) (tv:Jj) (M':Mc) (n:Int) (_:vs=[.ref A.b,.ref st]) (_:MAt c B A M R H) (_:B st=Z (.tup tv)) (_:f tv M M' n) (_:∀ B' A' H',Same B B'->A'.b=A.b->MAt c B' A' M' R H'->Q (.int n) H')
def zdh:WyM:=λtv M M' n=>∃ mn_ my:Int,tv[1]?=Z (.int mn_)/\tv[2]?=Z (.int my)/\MOk0 M/\(my=1∨my=2∨my=4)/\0<=mn_/\M'=M.round mn_ my/\n=M.pc+1
def nextW:WyM:=λtv M M' n=>MOk0 M/\(M.group=1∨M.group=2∨M.group=4)/\(if M.base+M.bq<M.mn_ then M'=M.strip (M.base+M.bq)/\n=M.oq+1 else M'=M/\n=M.pc+1)
def ok_begin {c:MCs} (d:zk K mg "play_begin" Zh qC) (CC:MCls K c) (OR:OkM P w K mg base CX0 4 c.bn "open_round" Um (spRound c)):Ok P w K mg base CX0 5 "play_begin" qC (spWy c zdh):=by
 refine oDf d zbm λg mx A _ s H vs Q E hr h=>?_;obtain ⟨B,A,M,R,st,tv,M',n,rfl,m,es,⟨mn_,my,e1,e2,ok,hg,hm,rfl,rfl⟩,q⟩:=h;have hr4:=hr;have CN:=CC.n;refine ⟨_,(zd (zy (zX OR CC.n.c hr4 zo (pv 0) (zb (zv zF (pv 1) zg (λ_ _=>rfl)) (zb (zv zF (pv 1) zg (λ_ _=>rfl)) zc))))
   (zf (zm (zn zQ (zi (pv 0) rfl) zg)))),?_⟩
 dsimp only [yh,Cx.nox,Cx.wish];refine ⟨_,Y,A.b,_,_,Y,m.b,Y,_,Y,st,_,_,_,Y,Y,SqT.of (m.h.sm _ _ es),zB (j:=1) e1,_,Y,st,_,_,_,Y,Y,SqT.of (m.h.sm _ _ es),zB (j:=2) e2,B,A,M,R,mn_,my,Y,m,ok,hg,hm,λB1 A1 H1 s1 eb m1=>?_⟩;exact ⟨_,Y,A1.b,_,_,_,.int M.pc,by rw [eb],m1.b,CN.c,CN.pc,Y,_,_,Y,Y,q B1 A1 H1 s1 eb m1⟩
def ok_next {c:MCs} (d:zk K mg "play_next" ZG qC) (CC:MCls K c) (BS:OkM P w K mg base CX0 3 c.bn "begin_strip" Uz (spStrip c)):Ok P w K mg base CX0 5 "play_next" qC (spWy c nextW):=by
 refine oDf d sc_play_next λg mx A _ s H vs Q E hr h=>?_;obtain ⟨B,A,M,R,st,tv,M',n,rfl,m,es,⟨ok,hg,hx⟩,q⟩:=h;have nd:=sc_play_next.nd;have hr3:=hr.mono (show 3<=4 by decide);have CN:=CC.n;refine ⟨_,(zd (oRz 2 nd (zn zQ (zi (pv 0) rfl) (zi (pv 0) rfl)))
   (zd (zO (zJ zbw (pv 2) (zi (pv 0) rfl) (zM _)) (zd (zy (zX BS CC.n.c hr3 zo (pv 0) (zb (pv 2) zc)))
   (zf (zm (zn zQ (zi (pv 0) rfl) zg)))) zC)
   (zf (zm (zn zQ (zi (pv 0) rfl) zg))))),?_⟩
 dsimp only [yh,Cx.nox,Cx.wish];refine ⟨_,Y,A.b,_,_,_,.int M.base,Y,m.b,CN.c,CN.base,Y,_,Y,A.b,_,_,_,.int M.bq,Y,m.b,CN.c,CN.bq,Y,_,_,Y,Y,?_⟩;refine ⟨_,Y,_,Y,A.b,_,_,_,.int M.mn_,Y,m.b,CN.c,CN.mn_,Y,_,_,Y,Y,_,Y,?_⟩;refine yw (λz=>?_) (λz=>?_)
 .have z:=of_decide_eq_true z
  rw [if_pos z] at hx;obtain ⟨rfl,rfl⟩:=hx;refine ⟨_,Y,A.b,_,_,Y,m.b,Y,_,Y,B,A,M,R,M.base+M.bq,Y,m,ok,hg,by omega,λB1 A1 H1 s1 eb m1=>?_⟩;exact ⟨_,Y,A1.b,_,_,_,.int M.oq,by rw [eb],m1.b,CN.c,CN.oq,Y,_,_,Y,Y,q B1 A1 H1 s1 eb m1⟩
 .rw [if_neg (λy=>z (decide_eq_true y))] at hx
  obtain ⟨rfl,rfl⟩:=hx;exact ⟨_,Y,A.b,_,_,_,.int M'.pc,Y,m.b,CN.c,CN.pc,Y,_,_,Y,Y,q B A H (Same.refl _) rfl m⟩
structure Lex where
 S:Str->FnM->Prop
 E:Str->EfM->Prop
 W:Str->WyM->Prop
inductive Step (L:Lex) (tv:Jj) (M:Mc):Mc->Prop
 | seat {word f M'}:L.S word f->tv[0]?=Z (.str word)->seatM f tv M=Z M'->MOk M->Step L tv M { M' with pc:=M'.pc+1 }
 | eff {word f M'}:L.E word f->tv[0]?=Z (.str word)->f tv M=Z M'->MOk M->Step L tv M { M' with pc:=M'.pc+1 }
 | way {word f M' n}:L.W word f->tv[0]?=Z (.str word)->f tv M M' n->Step L tv M { M' with pc:=n }
def ze1 (P:nQ) (w:World) (K:Fg) (mg:J0) (base:Heap) (c:MCs) (t:TabA) (S:Str->WyM->Prop) (rm:Nat):Prop:=∀ word f,S word f->mG K t.s word=Z O/\mG K t.e word=Z O/\∃ (nm:Str) (ps:Jb),zI K mg t.w word nm/\Ok P w K mg base CX0 rm nm ps (spWy c f)
inductive spPB (c:MCs) (L:Lex) (vs:Jj) (H:Hp) (Q:VK) (_:XK):Prop
 | mk (B:Hp) (A:Ma) (M:Mc) (R:Ji) (st:Ad) (tv:Jj) (M':Mc) (_:vs=[.ref A.b,.ref st]) (_:MAt c B A M R H) (_:B st=Z (.tup tv)) (_:Step L tv M M') (_:∀ B' A' H' M1,Same B B'->A'.b=A.b->MAt c B' A' M1 R H'->M'={ M1 with pc:=M'.pc }->Q (.int M'.pc) H')
def ok_pb {c:MCs} {t:TabA} {L:Lex} {rm rs re:Nat} (d:zk K mg "place_behind" xw qC) (CC:MCls K c) (TT:Tabs w K mg t) (hrm:rm<=8) (SW:XJ P w K mg base c t L.S rs) (EW:zbh P w K mg base c t L.E re) (WW:ze1 P w K mg base c t L.W rm)
  (LSW:Ok P w K mg base CX0 1 "lays_seat" ["word"] (spIn t.s K)) (HEW:Ok P w K mg base CX0 1 "has_effect" ["word"] (spIn t.e K)) (PSS:Ok P w K mg base CX0 7 "play_seat_step" qC (spPSS c L.S)) (PE:Ok P w K mg base CX0 8 "play_effect" qC (spPE c L.E)) :
  Ok P w K mg base CX0 9 "place_behind" qC (spPB c L):=by
 refine oDf d XT λg mx A _ s H vs Q E hr h=>?_;obtain ⟨B,A,M,R,st,tv,M',rfl,m,es,hS,q⟩:=h;have hr5:=hr;have hr4:=hr.mono (show 7<=8 by decide);have hr1:=hr.mono (show 1<=8 by decide);have hrF:Room rm _:=hr.mono hrm;have CN:=CC.n;refine ⟨_,(zd (zO (ya (zD LSW hr1 (by rfl) zo (zb (zv zF (pv 1) zg (λ_ _=>rfl)) zc))) (zd (zy (zD PSS hr4 (by rfl) zo (zb (pv 0) (zb (pv 1) zc))))
   (zf (zm (zn zQ (zi (pv 0) rfl) zg)))) zC)
   (zd (zO (ya (zD HEW hr1 (by rfl) zo (zb (zv zF (pv 1) zg (λ_ _=>rfl)) zc))) (zd (zy (zD PE hr5 (by rfl) zo (zb (pv 0) (zb (pv 1) zc))))
   (zf (zm (zn zQ (zi (pv 0) rfl) zg)))) zC)
   (zf (zm (Xi (CX:=CX0) (k:=rm) (zv zdc (zZ TT.hw) (zv zF (pv 1) zg (λ_ _=>rfl)) (λ_ _=>rfl)) hrF zo (zb (pv 0) (zb (pv 1) zc))))))),?_⟩
 dsimp only [yh,Cx.nox,Cx.wish];show (let s1:L2.TS:=_;let s2:L2.TS:=L2.tSeq _ s1;L2.tSeq _ s2 _ _ _);intro s1 s2;have sqt:SqT K H st tv:=SqT.of (m.h.sm _ _ es)
 cases hS with
 | seat hs e0 eM ok =>
  rename_i word f M1;obtain ⟨nm,ps,⟨fn,efn,mfn⟩,FN,fo⟩:=SW word f hs;refine ⟨_,Y,st,_,_,_,Y,Y,sqt,zB (j:=0) e0,word,_,Y,efn,_,Y,?_⟩;refine Yl ?_;refine ⟨_,Y,_,Y,word,f,B,A,M,R,st,tv,M1,hs,Y,m,es,e0,eM,ok,λB1 A1 H1 s1 eb m1=>?_⟩;exact ⟨_,Y,A1.b,_,_,_,.int M1.pc,by rw [eb],m1.b,CN.c,CN.pc,Y,_,_,Y,Y,q B1 A1 H1 M1 s1 eb m1 rfl⟩
 | eff hs e0 eM ok =>
  rename_i word f M1;obtain ⟨n1,nm,ps,⟨fn,efn,mfn⟩,FN⟩:=EW word f hs;refine ⟨_,Y,st,_,_,_,Y,Y,sqt,zB (j:=0) e0,word,_,Y,n1,_,Y,?_⟩;refine xt ?_;refine ⟨_,Y,st,_,_,_,Y,Y,sqt,zB (j:=0) e0,word,_,Y,efn,_,Y,?_⟩;refine Yl ?_;refine ⟨_,Y,_,Y,word,f,B,A,M,R,st,tv,M1,hs,Y,m,es,e0,eM,ok,λB1 A1 H1 s1 eb m1=>?_⟩;exact ⟨_,Y,A1.b,_,_,_,.int M1.pc,by rw [eb],m1.b,CN.c,CN.pc,Y,_,_,Y,Y,q B1 A1 H1 M1 s1 eb m1 rfl⟩
 | way hs e0 eM =>
  rename_i word f M1 n;obtain ⟨n1,n2,nm,ps,⟨fn,efn,mfn⟩,FN⟩:=WW word f hs;obtain ⟨f2,fd2,mf2,kp,bb,FO⟩:=FN;cases mfn.symm.trans mf2;refine ⟨_,Y,st,_,_,_,Y,Y,sqt,zB (j:=0) e0,word,_,Y,n1,_,Y,?_⟩;refine xt ?_;refine ⟨_,Y,st,_,_,_,Y,Y,sqt,zB (j:=0) e0,word,_,Y,n2,_,Y,?_⟩;refine xt ?_;exact ⟨_,Y,st,_,_,_,Y,Y,sqt,zB (j:=0) e0,t.w,word,.ref fn,.ref fn,Y,Y,TT.Tw,efn,Y,fn,fd2,ps,spWy c f,Y,FO,kp,bb,_,Y,_,Y,B,A,M,R,st,tv,M1,n,Y,m,es,eM,λB1 A1 H1 s1 eb m1=>q B1 A1 H1 M1 s1 eb m1 rfl⟩
def yR {F:List (Str×V)} {n:Nat} (h:F.length+n<1000):F.length<1000:=by omega
def yQ {F:List (Str×V)} {n:Nat} (f:Str) (v:V) (h:F.length+(n+1)<1000):∃ g,zW f v F=g/\g.length+n<1000:=by
 have l:∀ F:List (Str×V),(zW f v F).length<=F.length+1:=by
  intro F
  induction F with
  | nil=>exact m8 _
  | cons p F ih =>
   obtain ⟨g,x⟩:=p;show (if g=f then (g,v)::F else (g,x)::zW f v F).length<=_
   split
   .exact Nat.le_succ _
   .exact rF ih
 exact ⟨_,Y,by have:=l F;omega⟩
theorem za6 {α:Type}:∀ (L:List α) (i:Nat) (p:α),L[i]?=Z p->(p::L.eraseIdx i).Perm L
 | a::L,0,p,e=>by cases e;exact .refl _
 | a::L,i+1,p,e=>(List.Perm.swap a p _).trans (.cons a (za6 L i p e))
def yf {B H:Hp} {L:Ji} {p:Ad×HO} (h:Hd B L H) (i:Nat) (e:L[i]?=Z p):Hd B (p::L.eraseIdx i) H:=h.perm (za6 L i p e).symm
theorem zd3 {f:Str} {v:V}:∀ {F:List (Str×V)},f ∉ F.map pD->zW f v F=F++[(f,v)]
 | [],_=>rfl
 | (g,x)::F,h=>by
  show (if g=f then (g,v)::F else (g,x)::zW f v F)=_;rw [if_neg λe=>h (by rw [← e];exact q6z),zd3 λm=>h (q6y _ m)];rfl
theorem foldF:∀ (ps acc:List (Str×V)),((acc++ps).map pD).Nodup->ps.foldl (λF p=>zW p.1 p.2 F) acc=acc++ps
 | [],acc,_=>(q8y _).symm
 | p::ps,acc,h=>by
  have e:acc++p::ps=(acc++[p])++ps:=by rw [n8];rfl
  have n:p.1 ∉ acc.map pD:=λm=>by
   rw [Jg,o5] at h;exact (List.nodup_append.mp h).2.2 _ m _ q6z rfl
  show ps.foldl _ (zW p.1 p.2 acc)=_;rw [zd3 n,foldF ps (acc++[p]) (by rw [← e];exact h),e]
def foldF0 (ps:List (Str×V)) (h:(ps.map pD).Nodup):ps.foldl (λF p=>zW p.1 p.2 F) []=ps:=(foldF ps [] h).trans (List.nil_append _)
inductive spStart (K:Fg) (vs:Jj) (H:Hp) (Q:VK) (_:XK):Prop
 | mk (p:Ad) (ns:J6) (r:Int) (_:vs=[.ref p,.int r]) (_:SqL K H p (ns.map V.int)) (_:0<=r) (_:∀ H',Same H H'->Q (.int (ns.take r.toNat).sum) H')
def ok_start (d:zk K mg "start_of" Yd UA) (hsum:mg "sum"=O):Ok P w K mg base CX0 1 "start_of" UA (spStart K):=by
 refine oDf d zdt λg mx A _ s H vs Q E hr h=>?_;obtain ⟨p,ns,r,rfl,hS,h0,k⟩:=h;refine ⟨_,(zf (zm (zp (call_sum rfl) (by rfl) hsum PyProof.Rows.boot_sum (zb (zd4 sl_list (pv 0) po_none (zcy (pv 1))) zc)))),?_⟩;dsimp only [yh,Cx.nox,Cx.wish];refine ⟨_,Y,_,Y,r,Y,p,_,Y,hS,λl hl=>?_⟩;rw [cutV_take h0];exact ⟨l,_,Y,SqL.of zh,k _ (zu (Same.refl H) hl)⟩
def zG (mB:J6):J6:=(nj mB.length).map λr=>(mB.take r).sum
def Mc.fresh (mB cells:J6) (L:Nat) (dust picks:J6):Mc where
 lens:=mB
 starts:=zG mB
 cells:=cells
 lq:=L
 nums:=mT (8*L) 0
 mq:=mT 16 (mT (4*L) false)
 slots:=[]
 dust:=dust
 dq:=0
 picks:=picks
 pq:=0
 tq:=[]
 pc:=0
 oq:=0
 mn_:=0
 group:=1
 base:=0
 bq:=0
 wq:=0
 fq:=[]
 cut:=O
 cq:=O
 raised:=false
 turns:=[]
 rq_:=O
def msk_fresh (ms:Jc) (r:List Bool):((ms.zip (mT ms.length r)).map λp=>(p.1,HO.lst (p.2.map V.bl)))=ms.map λa=>(a,HO.lst (r.map V.bl)):=by
 induction ms with
 | nil=>rfl
 | cons a ms ih =>
  rw [q8x,oy,List.zip_cons_cons,o5,o5,ih]
inductive spInitN (c:MCs) (K:Fg) (vs:Jj) (H:Hp) (Q:VK) (_:XK):Prop
 | mk (B:Hp) (x dx l1 l2 l3 l4:Ad) (mB cells dust picks:J6) (L:Nat) (_:vs=[.ref x,.ref l1,.ref l2,.int L,.ref l3,.ref l4]) (_:Hd B [(x,.ins c.bn dx [])] H) (_:SqL K B l1 (mB.map V.int)) (_:SqL K B l2 (cells.map V.int)) (_:SqL K B l3 (dust.map V.int)) (_:SqL K B l4 (picks.map V.int)) (_:1<=L) (_:L<=64) (_:mB.length<=1000) (_:∀ B' A' H',Same B B'->A'.b=x->MAt c B' A' (Mc.fresh mB cells L dust picks) [] H'->Q .non H')
def ok_initN {c:MCs} {t1 t2:Tok} (d:yq K c.bn "Bench.__init__" Zo qO) (CC:MCls K c) (hlist:mg "list"=O) (hlen:mg "len"=O) (hrg:mg "range"=O) (hMT:mg "MOST_TOGETHER"=Z (.int 4 t1)) (hMM:mg "MANY_MASKS"=Z (.int 16 t2))
  (hCb:mg "Boxes"=Z (.ref c.bx)) (hCf:mg "Feed"=Z (.ref c.fe)) (SO:Ok P w K mg base CX0 1 "start_of" UA (spStart K)) (IB:OkI P w K mg base CX0 1 c.bx ["self","lanes"] (spInitB c.bx)) (IF:OkI P w K mg base CX0 1 c.fe Uy (spInitF K c.fe)) :
  OkI P w K mg base CX0 3 c.bn qO (spInitN c K):=by
 refine oIf d sc_Bench_init λf mx A _ s H vs Q E hr h=>?_;obtain ⟨B,x,dx,l1,l2,l3,l4,mB,cells,dust,picks,L,rfl,h,q1,q2,q3,q4,L1,L64,hl,q⟩:=h;have nd:=sc_Bench_init.nd;have hr2:=hr;have hr1:=hr.mono (show 1<=2 by decide);have CN:=CC.n;refine ⟨_,(zd (zt (pv 0) (xo xb (by rfl) hlist oI (zb (pv 1) zc)) rfl)
   (zd (zt (pv 0) (xZ ["row","lengths"] [O,Z 1] rfl rfl rfl (xn rfl hrg (zb (zp zH (by rfl) hlen o6 (zb (pv 1) zc)) zc)) (λs3 H3 fp=>⟨oQz 0 (Jl ["row","lengths"]),(zD SO hr1 (by rfl) zo (zb (pv 1) (zb (pv 0) zc)))⟩)) rfl)
   (zd (zt (pv 0) (xo xb (by rfl) hlist oI (zb (pv 2) zc)) rfl)
   (zd (zt (pv 0) (pv 3) rfl)
   (zd (zt (pv 0) (yc IB hCb hr2 (by rfl) zo (zb (pv 3) zc)) rfl)
   (zd (zt (pv 0) (xZ ["mask","lanes"] [O,Z 3] rfl rfl rfl (xn rfl hrg (zb (xC hMM) zc)) (λs3 H3 fp=>⟨oQz 0 (Jl ["mask","lanes"]),(zn zc4 (yn (zb YR zc)) (zn yH (xC hMT) (pv 1)))⟩)) rfl)
   (zd (zt (pv 0) zau rfl)
   (zd (zt (pv 0) (yc IF hCf hr2 (by rfl) zo (zb (pv 4) zc)) rfl)
   (zd (zt (pv 0) (yc IF hCf hr2 (by rfl) zo (zb (pv 5) zc)) rfl)
   (zd (zt (pv 0) (yn zc) rfl)
   (zd (zt (pv 0) zg rfl)
   (zd (zt (pv 0) zg rfl)
   (zd (zt (pv 0) zg rfl)
   (zd (zt (pv 0) zg rfl)
   (zd (zt (pv 0) zg rfl)
   (zd (zt (pv 0) zg rfl)
   (zd (zt (pv 0) zg rfl)
   (zd (zt (pv 0) zau rfl)
   (zd (zt (pv 0) xB rfl)
   (zd (zt (pv 0) xB rfl)
   (zd (zt (pv 0) YR rfl)
   (zd (zt (pv 0) (yn zc) rfl)
   (zf (zt (pv 0) xB rfl)))))))))))))))))))))))),?_⟩
 dsimp only [yh,Cx.nox,Cx.wish];show (let s1:L2.TS:=_;let s2:L2.TS:=L2.tSeq _ s1;let s3:L2.TS:=L2.tSeq _ s2;let s4:L2.TS:=L2.tSeq _ s3;let s5:L2.TS:=L2.tSeq _ s4;let s6:L2.TS:=L2.tSeq _ s5;let s7:L2.TS:=L2.tSeq _ s6;let s8:L2.TS:=L2.tSeq _ s7;let s9:L2.TS:=L2.tSeq _ s8;let s10:L2.TS:=L2.tSeq _ s9;let s11:L2.TS:=L2.tSeq _ s10;let s12:L2.TS:=L2.tSeq _ s11;let s13:L2.TS:=L2.tSeq _ s12;let s14:L2.TS:=L2.tSeq _ s13;let s15:L2.TS:=L2.tSeq _ s14;let s16:L2.TS:=L2.tSeq _ s15;let s17:L2.TS:=L2.tSeq _ s16;let s18:L2.TS:=L2.tSeq _ s17;let s19:L2.TS:=L2.tSeq _ s18;let s20:L2.TS:=L2.tSeq _ s19;let s21:L2.TS:=L2.tSeq _ s20;let s22:L2.TS:=L2.tSeq _ s21;L2.tSeq _ s22 _ _ _);intro s1 s2 s3 s4 s5 s6 s7 s8 s9 s10 s11 s12 s13 s14 s15 s16 s17 s18 s19 s20 s21 s22;have SL:(3000:Nat)<sizeLine:=by decide
 have q1:SqL K B l1 (mB.map V.int):=q1;obtain ⟨F0,e0F,nF⟩:∃ F0:List (Str×V),[]=F0/\F0.length+30<1000:=⟨[],Y,by decide⟩;rw [e0F] at h;refine ⟨_,Y,l1,_,Y,.inl (h.sql q1),λaL nL=>?_⟩;replace h:=h.fnew (o:=.lst (mB.map V.int)) nL;generalize upd H aL _=H at h ⊢;refine ⟨_,Y,x,_,_,_,Y,h.get 0 rfl,CN.c,CN.lengths,yR nF,?_⟩;obtain ⟨F1,f1,nF⟩:=yQ "lengths" (.ref aL) nF;replace h:=h.fput (o':=.ins c.bn dx (zW "lengths" (.ref aL) F0));rw [f1] at h ⊢;generalize upd H x _=H at h ⊢;refine ⟨_,Y,l1,_,Y,.inl (h.sql q1),_,Y,(by rw [Je];omega),(by rw [Je];omega),_,Y,λD nD=>?_⟩;rw [Je];have q1':SqL K H l1 (mB.map V.int):=h.sql q1;have h0:Hd H [(D,.lst ((((nj 0).map λr=>(mB.take r).sum)).map V.int))] (upd H D (.lst [])):=Hd.base.new nD;generalize upd H D (.lst [])=H3 at h0 ⊢;refine zbb (n:=mB.length) (λi σ J=>∃ u,σ=[u,rq l1]/\Hd H [(D,.lst ((((nj i).map λr=>(mB.take r).sum)).map V.int))] J) ⟨O,Y,h0⟩ ?_ ?_
 .clear h0
  rintro i σ J hi ⟨u,rfl,h⟩;refine ⟨_,Y,_,Y,l1,mB,0+(i:Int),Y,h.sql q1',by omega,λJ1 s1=>?_⟩;have h:=h.same s1;refine ⟨_,h.get 0 rfl,(by rw [Je,Je,pf];omega),_,Y,?_⟩;have h:=h.put (o':=.lst ((((nj (i+1)).map λr=>(mB.take r).sum)).map V.int)) 0 rfl
  have e:((nj (i+1)).map λr=>(mB.take r).sum).map V.int=((nj i).map λr=>(mB.take r).sum).map V.int++[V.int (mB.take (0+(i:Int)).toNat).sum]:=by
   rw [oK,Jg,Jg,show (0+(i:Int)).toNat=i by omega];rfl
  rw [e] at h ⊢;exact h
 rintro σ H ⟨u,rfl,hD⟩;replace h:=h.join hD;clear hD h0 nD q1';refine ⟨_,Y,x,_,_,_,Y,h.get 0 rfl,CN.c,CN.starts,yR nF,?_⟩;obtain ⟨F2,f2,nF⟩:=yQ "starts" (.ref D) nF;replace h:=h.fput (o':=.ins c.bn dx (zW "starts" (.ref D) F1));rw [f2] at h ⊢;generalize upd H x _=H at h ⊢;refine ⟨_,Y,l2,_,Y,.inl (h.sql q2),λaC nC=>?_⟩;replace h:=h.fnew (o:=.lst (cells.map V.int)) nC;generalize upd H aC _=H at h ⊢;refine ⟨_,Y,x,_,_,_,Y,h.get 0 rfl,CN.c,CN.cells,yR nF,?_⟩;obtain ⟨F3,f3,nF⟩:=yQ "cells" (.ref aC) nF;replace h:=h.fput (o':=.ins c.bn dx (zW "cells" (.ref aC) F2));rw [f3] at h ⊢;generalize upd H x _=H at h ⊢;refine ⟨_,Y,_,Y,x,_,_,_,Y,h.get 0 rfl,CN.c,CN.lq,yR nF,?_⟩;obtain ⟨F4,f4,nF⟩:=yQ "lanes" (.int L) nF;replace h:=h.fput (o':=.ins c.bn dx (zW "lanes" (.int L) F3));rw [f4] at h ⊢;generalize upd H x _=H at h ⊢;refine ⟨_,Y,λbx dbx nbx ndbx nebx=>?_⟩;refine ⟨bx,dbx,L,Y,zh,by omega,by omega,λH1 aN k nN ebx eN=>⟨Y,?_⟩⟩;have h:=(h.made nbx ndbx nebx k nN ebx eN).sub (.cons₂ _ (.cons₂ _ (.cons _ (sj _))));have e8:(8*(L:Int)).toNat=8*L:=by omega
 rw [e8] at h;clear k nN ebx eN;generalize H1=H at h ⊢;replace h:=yf h 2 rfl;refine ⟨_,Y,x,_,_,_,Y,h.get 0 rfl,CN.c,CN.boxes,yR nF,?_⟩;obtain ⟨F5,f5,nF⟩:=yQ "boxes" (.ref bx) nF;replace h:=h.fput (o':=.ins c.bn dx (zW "boxes" (.ref bx) F4));rw [f5] at h ⊢;generalize upd H x _=H at h ⊢;have e4:(4*(L:Int)).toNat=4*L:=by omega
 refine ⟨_,Y,(by decide),(by decide),_,Y,λaM nM=>?_⟩;have h0:Hd H ((aM,.lst (([]:Jc).map V.ref))::([]:Jc).map λa=>(a,HO.lst ((mT (4*L) false).map V.bl))) (upd H aM (.lst [])):=Hd.base.new nM;generalize upd H aM (.lst [])=H3 at h0 ⊢;refine zbb (n:=16) (λi σ J=>∃ u ms,ms.length=i/\σ=[u,iq L]/\Hd H ((aM,.lst (ms.map V.ref))::ms.map λa=>(a,HO.lst ((mT (4*L) false).map V.bl))) J) ⟨O,[],Y,Y,h0⟩ ?_ ?_
 .clear h0
  rintro i σ J hi ⟨u,ms,lm,rfl,h⟩;refine ⟨(by show 1<=mI;decide),λt nt=>⟨_,Y,_,_,Y,Y,.inl ⟨by decide,by decide⟩,t,_,_,Y,Y,zh,by omega,by omega,?_,λl nl=>?_⟩⟩
  .show 1*(4*(L:Int)).toNat<=mI
   omega
  have h:=((h.waste (o:=.lst [.bl false]) nt).fnew (o:=.lst (mT (4*(L:Int)).toNat [V.bl false]).flatten) nl);generalize upd _ l _=J2 at h ⊢;refine ⟨_,h.get 0 rfl,(by rw [Je];omega),_,ms++[l],(by rw [Jf,lm];rfl),Y,?_⟩;have h:=h.fput (o':=.lst ((ms++[l]).map V.ref))
  have e:(mT (4*(L:Int)).toNat [V.bl false]).flatten=(mT (4*L) false).map V.bl:=by
   rw [e4];generalize 4*L=n
   induction n with
   | zero=>rfl
   | succ n ih=>rw [oy,pK,ih,oy];rfl
  rw [e] at h;rw [Jg] at h ⊢;rw [Jg];exact h.perm (List.Perm.cons _ (List.perm_append_comm (l₁:=[_])))
 rintro σ H ⟨u,ms,lm,rfl,hD⟩;have hM:=hD.tl;replace h:=h.join hD;clear hD h0 nM;generalize hMS:(ms.map λa=>(a,HO.lst ((mT (4*L) false).map V.bl)))=MS at h;refine ⟨_,Y,x,_,_,_,Y,h.get 0 rfl,CN.c,CN.mq,yR nF,?_⟩;obtain ⟨F6,f6,nF⟩:=yQ "masks" (.ref aM) nF;replace h:=h.fput (o':=.ins c.bn dx (zW "masks" (.ref aM) F5));rw [f6] at h ⊢;generalize upd H x _=H at h ⊢;refine λaSl nSl=>?_;replace h:=h.fnew (o:=.dK []) nSl;generalize upd H aSl _=H at h ⊢;refine ⟨_,Y,x,_,_,_,Y,h.get 0 rfl,CN.c,CN.slots,yR nF,?_⟩;obtain ⟨F7,f7,nF⟩:=yQ "slots" (.ref aSl) nF;replace h:=h.fput (o':=.ins c.bn dx (zW "slots" (.ref aSl) F6));rw [f7] at h ⊢;generalize upd H x _=H at h ⊢;refine ⟨_,Y,λfd dfd n1 n2 n3=>?_⟩;refine ⟨fd,dfd,l3,dust,Y,zh,zw (h.sql q3) (((zu (Same.refl _) n2)).trans (zu (Same.refl _) (by rw [zj (oQ n3)];exact n1))),λH1 aD k n4 e1 e2=>⟨Y,?_⟩⟩;have h:=(h.made n1 n2 n3 k n4 e1 e2).sub (.cons₂ _ (.cons₂ _ (.cons _ (sj _))));clear k n4 e1 e2;generalize H1=H at h ⊢;replace h:=yf h 2 rfl;refine ⟨_,Y,x,_,_,_,Y,h.get 0 rfl,CN.c,CN.dust,yR nF,?_⟩;obtain ⟨F8,f8,nF⟩:=yQ "dust" (.ref fd) nF;replace h:=h.fput (o':=.ins c.bn dx (zW "dust" (.ref fd) F7));rw [f8] at h ⊢;generalize upd H x _=H at h ⊢;refine ⟨_,Y,λfp dfp n1 n2 n3=>?_⟩;refine ⟨fp,dfp,l4,picks,Y,zh,zw (h.sql q4) (((zu (Same.refl _) n2)).trans (zu (Same.refl _) (by rw [zj (oQ n3)];exact n1))),λH1 aP k n4 e1 e2=>⟨Y,?_⟩⟩;have h:=(h.made n1 n2 n3 k n4 e1 e2).sub (.cons₂ _ (.cons₂ _ (.cons _ (sj _))));clear k n4 e1 e2;generalize H1=H at h ⊢;replace h:=yf h 2 rfl;refine ⟨_,Y,x,_,_,_,Y,h.get 0 rfl,CN.c,CN.picks,yR nF,?_⟩;obtain ⟨F9,f9,nF⟩:=yQ "picks" (.ref fp) nF;replace h:=h.fput (o':=.ins c.bn dx (zW "picks" (.ref fp) F8));rw [f9] at h ⊢;generalize upd H x _=H at h ⊢;refine ⟨(by show 0<=mI;exact nK _),λaT nT=>?_⟩;replace h:=h.fnew (o:=.lst []) nT;generalize upd H aT _=H at h ⊢;refine ⟨_,Y,x,_,_,_,Y,h.get 0 rfl,CN.c,CN.tq,yR nF,?_⟩;obtain ⟨F10,f10,nF⟩:=yQ "touches" (.ref aT) nF;replace h:=h.fput (o':=.ins c.bn dx (zW "touches" (.ref aT) F9));rw [f10] at h ⊢;generalize upd H x _=H at h ⊢;refine ⟨_,Y,x,_,_,_,Y,h.get 0 rfl,CN.c,CN.pc,yR nF,?_⟩;obtain ⟨F11,f11,nF⟩:=yQ "at" (.int 0) nF;replace h:=h.fput (o':=.ins c.bn dx (zW "at" (.int 0) F10));rw [f11] at h ⊢;generalize upd H x _=H at h ⊢;refine ⟨_,Y,x,_,_,_,Y,h.get 0 rfl,CN.c,CN.oq,yR nF,?_⟩;obtain ⟨F12,f12,nF⟩:=yQ "opened" (.int 0) nF;replace h:=h.fput (o':=.ins c.bn dx (zW "opened" (.int 0) F11));rw [f12] at h ⊢;generalize upd H x _=H at h ⊢;refine ⟨_,Y,x,_,_,_,Y,h.get 0 rfl,CN.c,CN.mn_,yR nF,?_⟩;obtain ⟨F13,f13,nF⟩:=yQ "many" (.int 0) nF;replace h:=h.fput (o':=.ins c.bn dx (zW "many" (.int 0) F12));rw [f13] at h ⊢;generalize upd H x _=H at h ⊢;refine ⟨_,Y,x,_,_,_,Y,h.get 0 rfl,CN.c,CN.group,yR nF,?_⟩;obtain ⟨F14,f14,nF⟩:=yQ "group" (.int 1) nF;replace h:=h.fput (o':=.ins c.bn dx (zW "group" (.int 1) F13));rw [f14] at h ⊢;generalize upd H x _=H at h ⊢;refine ⟨_,Y,x,_,_,_,Y,h.get 0 rfl,CN.c,CN.base,yR nF,?_⟩;obtain ⟨F15,f15,nF⟩:=yQ "base" (.int 0) nF;replace h:=h.fput (o':=.ins c.bn dx (zW "base" (.int 0) F14));rw [f15] at h ⊢;generalize upd H x _=H at h ⊢;refine ⟨_,Y,x,_,_,_,Y,h.get 0 rfl,CN.c,CN.bq,yR nF,?_⟩;obtain ⟨F16,f16,nF⟩:=yQ "begun" (.int 0) nF;replace h:=h.fput (o':=.ins c.bn dx (zW "begun" (.int 0) F15));rw [f16] at h ⊢;generalize upd H x _=H at h ⊢;refine ⟨_,Y,x,_,_,_,Y,h.get 0 rfl,CN.c,CN.wq,yR nF,?_⟩;obtain ⟨F17,f17,nF⟩:=yQ "width" (.int 0) nF;replace h:=h.fput (o':=.ins c.bn dx (zW "width" (.int 0) F16));rw [f17] at h ⊢;generalize upd H x _=H at h ⊢;refine λaF nF'=>?_;replace h:=h.fnew (o:=.dK []) nF';generalize upd H aF _=H at h ⊢;refine ⟨_,Y,x,_,_,_,Y,h.get 0 rfl,CN.c,CN.fq,yR nF,?_⟩;obtain ⟨F18,f18,nF⟩:=yQ "faults" (.ref aF) nF;replace h:=h.fput (o':=.ins c.bn dx (zW "faults" (.ref aF) F17));rw [f18] at h ⊢;generalize upd H x _=H at h ⊢;refine ⟨_,Y,x,_,_,_,Y,h.get 0 rfl,CN.c,CN.cut,yR nF,?_⟩;obtain ⟨F19,f19,nF⟩:=yQ "cut" (.non) nF;replace h:=h.fput (o':=.ins c.bn dx (zW "cut" (.non) F18));rw [f19] at h ⊢;generalize upd H x _=H at h ⊢;refine ⟨_,Y,x,_,_,_,Y,h.get 0 rfl,CN.c,CN.cq,yR nF,?_⟩;obtain ⟨F20,f20,nF⟩:=yQ "carried" (.non) nF;replace h:=h.fput (o':=.ins c.bn dx (zW "carried" (.non) F19));rw [f20] at h ⊢;generalize upd H x _=H at h ⊢;refine ⟨_,Y,x,_,_,_,Y,h.get 0 rfl,CN.c,CN.raised,yR nF,?_⟩;obtain ⟨F21,f21,nF⟩:=yQ "raised" (.bl false) nF;replace h:=h.fput (o':=.ins c.bn dx (zW "raised" (.bl false) F20));rw [f21] at h ⊢;generalize upd H x _=H at h ⊢;refine ⟨(by show 0<=mI;exact nK _),λaU nU=>?_⟩;replace h:=h.fnew (o:=.lst []) nU;generalize upd H aU _=H at h ⊢;refine ⟨_,Y,x,_,_,_,Y,h.get 0 rfl,CN.c,CN.turns,yR nF,?_⟩;obtain ⟨F22,f22,nF⟩:=yQ "turns" (.ref aU) nF;replace h:=h.fput (o':=.ins c.bn dx (zW "turns" (.ref aU) F21));rw [f22] at h ⊢;generalize upd H x _=H at h ⊢;refine ⟨_,Y,x,_,_,_,Y,h.get 0 rfl,CN.c,CN.rq_,yR nF,?_⟩;obtain ⟨F23,f23,nF⟩:=yQ "refusal" (.non) nF;replace h:=h.fput (o':=.ins c.bn dx (zW "refusal" (.non) F22));rw [f23] at h ⊢;generalize upd H x _=H at h ⊢;replace h:=yf h 1 rfl;replace h:=yf h 2 rfl;replace h:=yf h 3 rfl;replace h:=yf h 5 rfl;replace h:=yf h 7 rfl;replace h:=yf h 8 rfl;replace h:=yf h 9 rfl;replace h:=yf h 11 rfl;replace h:=yf h 8 rfl;replace h:=yf h 9 rfl;replace h:=yf h 10 rfl;replace h:=yf h 11 rfl;replace h:=yf h 14 rfl;replace h:=yf h 14 rfl;replace h:=yf h 14 rfl
 have ef:F23=xu ⟨x,dx,aL,D,aC,bx,dbx,aN,aM,aSl,fd,dfd,aD,fp,dfp,aP,aT,aF,aU,ms,[],[],.non⟩ (Mc.fresh mB cells L dust picks):=by
  rw [← f23,← f22,← f21,← f20,← f19,← f18,← f17,← f16,← f15,← f14,← f13,← f12,← f11,← f10,← f9,← f8,← f7,← f6,← f5,← f4,← f3,← f2,← f1,← e0F];have z:=foldF0 (xu ⟨x,dx,aL,D,aC,bx,dbx,aN,aM,aSl,fd,dfd,aD,fp,dfp,aP,aT,aF,aU,ms,[],[],.non⟩ (Mc.fresh mB cells L dust picks)) (show (["lengths","starts","cells","lanes","boxes","masks","slots","dust","picks","touches","at","opened","many","group","base","begun","width","faults","cut","carried","raised","turns","refusal"]:Jb).Nodup by decide +kernel);unfold xu at z ⊢;dsimp only [List.foldl] at z;exact z
 rw [ef] at h;obtain ⟨B',sB,eB,h⟩:=Hd.settles (S:=[_,_,_,_,_,_]) h;refine q B' ⟨x,dx,aL,D,aC,bx,dbx,aN,aM,aSl,fd,dfd,aD,fp,dfp,aP,aT,aF,aU,ms,[],[],.non⟩ H sB rfl ⟨⟨eB _ (.head _),eB _ (.tail _ (.head _)),eB _ (.tail _ (.tail _ (.tail _ (.head _)))),eB _ (.tail _ (.tail _ (.head _))),?_,eB _ (.tail _ (.tail _ (.tail _ (.tail _ (.head _))))),eB _ (.tail _ (.tail _ (.tail _ (.tail _ (.tail _ (.head _)))))),Y,(λi t p a=>nomatch a),Y,(λi t p a=>nomatch a),Y⟩,?_⟩
 .show ms.length=(mT 16 _).length
  rw [lm,pZ]
 .unfold objs
  have e0:∀ ns:J6,fAt ns 0=0:=λns=>by unfold fAt;rw [Nat.zero_mod];split <;> rfl
  have em:Z6 ⟨x,dx,aL,D,aC,bx,dbx,aN,aM,aSl,fd,dfd,aD,fp,dfp,aP,aT,aF,aU,ms,[],[],.non⟩ (Mc.fresh mB cells L dust picks)=MS:=by
   rw [← hMS];show (ms.zip (mT 16 _)).map _=_;rw [← lm];exact msk_fresh ms _
  rw [em,q8y];show Hd B' (_::_::_::_::(fd,YT c.fe dfd aD (fAt dust 0))::(fp,YT c.fe dfp aP (fAt picks 0))::_::_::_::MS) H;rw [e0,e0];exact h
inductive Run (L:Lex) (code:List (Jj)):Nat->Mc->Mc->Prop
 | done {M}:(code.length:Int)<=M.pc∨M.rq_.isSome=true->Run L code 0 M M
 | step {n M M1 Mf tv}:0<=M.pc->M.rq_=O->code[M.pc.toNat]?=Z tv->Step L tv M M1->Run L code n M1 Mf->Run L code (n+1) M Mf
structure CodeAt (B:Hp) (cs:Jc) (code:List (Jj)):Prop where
 n:cs.length=code.length
 t:∀ (i:Nat) a tv,cs[i]?=Z a->code[i]?=Z tv->B a=Z (.tup tv)
inductive spRan (c:MCs) (K:Fg) (Lx:Lex) (vs:Jj) (H:Hp) (Q:VK) (_:XK):Prop
 | mk (a l1 l2 l3 l4:Ad) (cs:Jc) (code:List (Jj)) (mB cells dust picks:J6) (L n:Nat) (Mf:Mc) (_:vs=[.ref a,.ref l1,.ref l2,.int L,.ref l3,.ref l4]) (_:SqL K H a (cs.map V.ref)) (_:CodeAt H cs code) (_:SqL K H l1 (mB.map V.int)) (_:SqL K H l2 (cells.map V.int)) (_:SqL K H l3 (dust.map V.int)) (_:SqL K H l4 (picks.map V.int)) (_:1<=L) (_:L<=64) (_:mB.length<=1000) (_:code.length<=1000) (_:Run Lx code n (Mc.fresh mB cells L dust picks) Mf) (_:∀ B' A' H' t,Same H B'->MAt c B' A' Mf [] H'->B' t=Z (.tup [.ref A'.aC,A'.rf,.ref A'.aT])->Q (.ref t) H')
def ok_ran {c:MCs} {Lx:Lex} (d:zk K mg "ran" s_ran qN) (CC:MCls K c) (hlen:mg "len"=O) (hCn:mg "Bench"=Z (.ref c.bn)) (IN:OkI P w K mg base CX0 3 c.bn qO (spInitN c K)) (PB:Ok P w K mg base CX0 9 "place_behind" qC (spPB c Lx)) :
  Ok P w K mg base CX0 10 "ran" qN (spRan c K Lx):=by
 refine oDf d sc_ran λg mx A _ s H vs Q E hr h=>?_;obtain ⟨a,l1,l2,l3,l4,cs,code,mB,cells,dust,picks,L,n,Mf,rfl,qa,CA,q1,q2,q3,q4,L1,L64,hl,hcl,run,q⟩:=h;have nd:=sc_ran.nd;have hr6:=hr;have hr4:=hr.mono (show 4<=9 by decide);have CN:=CC.n;refine ⟨_,(zd (oRz 6 nd (yc IN hCn hr4 (by rfl) zo (zb (pv 1) (zb (pv 2) (zb (pv 3) (zb (pv 4) (zb (pv 5) zc)))))))
   (zd (ps_while oE (pw_and (zJ zbw (zi (pv 6) rfl) (zp zH (by rfl) hlen o6 (zb (pv 0) zc)) (zM _)) (zcx (zJ zaw (zi (pv 6) rfl) xB (zM _)))).pt (zf (zt (pv 6) (zD PB hr6 (by rfl) zo (zb (pv 6) (zb (zv z6 (pv 0) (zi (pv 6) rfl) (λ_ _=>rfl)) zc))) rfl)))
   (zf (zm (yb (zb (zi (pv 6) rfl) (zb (zi (pv 6) rfl) (zb (zi (pv 6) rfl) zc)))))))),?_⟩
 dsimp only [yh,Cx.nox,Cx.wish];show (let s1:L2.TS:=_;let s2:L2.TS:=L2.tSeq _ s1;L2.tSeq _ s2 _ _ _);intro s1 s2;refine ⟨_,Y,_,Y,_,Y,_,Y,_,Y,λx dx nx ndx ne=>?_⟩;have s0:Same H (upd H dx (.own x)):=zu (Same.refl _) ndx;have h0:Hd (upd H dx (.own x)) [(x,.ins c.bn dx [])] (upd (upd H dx (.own x)) x (.ins c.bn dx [])):=Hd.base.new (by rw [zj (oQ ne)];exact nx);refine ⟨upd H dx (.own x),x,dx,l1,l2,l3,l4,mB,cells,dust,picks,L,Y,h0,zw q1 s0,zw q2 s0,zw q3 s0,zw q4 s0,L1,L64,hl,λB1 A1 H1 s1 eb m1=>⟨Y,?_⟩⟩;have sH:Same H B1:=s0.trans s1;have SQ:∀ {B2:Hp} {A2:Ma} {M:Mc} {H2:Hp},Same H B2->MAt c B2 A2 M [] H2->SqL K H2 a (cs.map V.ref):=λs2 m2=>zw (zw qa s2) m2.h.sm;refine ⟨λk σ J=>∃ B2 A2 M,σ=[rq a,rq l1,rq l2,iq L,rq l3,rq l4,rq x]/\Same H B2/\A2.b=x/\MAt c B2 A2 M [] J/\Run Lx code k M Mf,⟨n,B1,A1,_,Y,sH,eb,m1,run⟩,?_⟩;rintro k σ J ⟨B2,A2,M,rfl,s2,eb2,m2,run⟩;have lcs:(cs.map V.ref).length=code.length:=by rw [Je];exact CA.n
 have rfn:M.rq_=O->A2.rf=.non:=λz=>by have:=m2.bb.rf;rw [z] at this;exact this
 have rfs:M.rq_.isSome=true->∃ t,A2.rf=.ref t:=λz=>by
  have:=m2.bb.rf
  cases e:M.rq_ with
  | none=>rw [e] at z;cases z
  | some r=>rw [e] at this;obtain ⟨t,y,_⟩:=this;exact ⟨t,y⟩
 refine ⟨_,Y,A2.b,_,_,_,.int M.pc,by rw [eb2],m2.b,CN.c,CN.pc,Y,_,Y,a,_,Y,.inl (SQ s2 m2),_,_,Y,Y,_,Y,?_⟩;rw [lcs];have fin:Run Lx code 0 M Mf->Mf=M:=λz=>by cases z;rfl
 cases run with
 | done hd =>
  have ret:∀ J',J'=J->tRet (tTup (zad (tFld K (tVar 6) "cells") (zad (tFld K (tVar 6) "refusal") (zad (tFld K (tVar 6) "touches") tNil)))) ⟨λ_ H'=>Q V.non H',Q,λ_ _=>False,λ_ _=>False⟩ [rq a,rq l1,rq l2,iq L,rq l3,rq l4,rq x] J':=by
   rintro J' rfl;refine ⟨_,Y,A2.b,_,_,_,.ref A2.aC,by rw [eb2],m2.b,CN.c,CN.cells,Y,_,Y,A2.b,_,_,_,A2.rf,by rw [eb2],m2.b,CN.c,CN.rq_,Y,_,Y,A2.b,_,_,_,.ref A2.aT,by rw [eb2],m2.b,CN.c,CN.tq,Y,(by show 3<=mI;decide),λt nt=>?_⟩;exact q _ A2 _ t (s2.trans (zu (Same.refl _) (m2.h.free nt))) (m2.grow nt) zh
  by_cases z:Mf.pc<(code.length:Int)
  .rcases hd with y | y
   .omega
   obtain ⟨t,et⟩:=rfs y;rw [decide_eq_true z];refine Yl ⟨_,Y,A2.b,_,_,_,A2.rf,by rw [eb2],m2.b,CN.c,CN.rq_,Y,Y,_,Y,?_⟩;rw [et];exact xt (ret _ rfl)
  .rw [decide_eq_false z]
   exact xt (xt (ret _ rfl))
 | step p0 hn ec st run =>
  rename_i k M1 tv;have hlt:M.pc.toNat<code.length:=(mF.mp ec).1;have z:M.pc<(code.length:Int):=by omega
  rw [decide_eq_true z];refine Yl ⟨_,Y,A2.b,_,_,_,A2.rf,by rw [eb2],m2.b,CN.c,CN.rq_,Y,Y,_,Y,?_⟩;rw [rfn hn];refine Yl ⟨λσ' J'=>∃ B2 A2,σ'=[rq a,rq l1,rq l2,iq L,rq l3,rq l4,rq x]/\Same H B2/\A2.b=x/\MAt c B2 A2 M1 [] J',λσ' J' ⟨B3,A3,e3,s3,eb3,m3⟩=>⟨k,by omega,B3,A3,M1,e3,s3,eb3,m3,run⟩,?_⟩;obtain ⟨st',es'⟩:∃ y,cs[M.pc.toNat]?=Z y:=⟨cs[M.pc.toNat]'(by rw [CA.n];exact hlt),m6 _⟩;have eT:=CA.t _ _ _ es' ec;refine ⟨_,Y,_,Y,_,Y,A2.b,_,_,_,.int M.pc,by rw [eb2],m2.b,CN.c,CN.pc,Y,a,_,_,.ref st',Y,Y,SQ s2 m2,?_,B2,A2,M,[],st',tv,M1,by rw [eb2];rfl,m2,s2 _ _ eT,st,λB3 A3 J3 M2 s3 eb3 m3 em=>?_⟩
  .rw [show M.pc=((M.pc.toNat:Nat):Int) by omega]
   exact zB (by rw [mJ,es'];rfl)
  refine ⟨_,Y,A3.b,_,_,_,by rw [eb3,eb2],m3.b,CN.c,CN.pc,(by show 23<1000;decide),?_⟩;have m4:=m3.s_pc M1.pc;rw [← em] at m4;exact ⟨B3,A3,Y,s2.trans s3,eb3.trans eb2,m4⟩
theorem zcw (v:V):∀ (js:J6),(mT js.length [v]).flatten=js.map λ_=>v
 | []=>rfl
 | j::js=>by rw [q8x,oy,pK,zcw v js];rfl
def numM:FnM:=λtv M js=>match (tv[2]?:Jk) with
 | some (V.int n)=>Z (M,js.map λ_=>Z n)
 | _=>O
def numM_ok:FnMOk numM where
 ok:=λh o=>by unfold numM at h;split at h <;> cases h;exact o
 g:=λh=>by unfold numM at h;split at h <;> cases h;rfl
 n:=λh=>by unfold numM at h;split at h <;> cases h;rw [Je]
def zfg {c:MCs} (d:zk K mg "numbers_written" yI qE) (hlen:mg "len"=O):Ok P w K mg base CX0 1 "numbers_written" qE (spFn c numM):=by
 refine oDf d YW λg mx A _ s H vs Q E hr h=>?_;obtain ⟨B,A,M,R,st,aa,tv,js,M',ns,rfl,m,es,ea,ef,ok,hj,hl,q⟩:=h;have SL:(3000:Nat)<sizeLine:=by decide
 unfold numM at ef
 split at ef
 case h_2=>cases ef
 rename_i n e2;cases ef;refine ⟨_,(zf (zm (zn zc4 (yn (zb (zv zF (pv 1) zg (λ_ _=>rfl)) zc)) (zp zH (by rfl) hlen o6 (zb (pv 2) zc))))),?_⟩;dsimp only [yh,Cx.nox,Cx.wish];refine ⟨_,Y,st,_,_,_,Y,Y,SqT.of (m.h.sm _ _ es),zB (j:=2) e2,(by show 1<=mI;omega),λt nt=>?_⟩;have m1:=m.grow (o:=.lst [.int n]) nt;have s1:Same B (upd B t (.lst [.int n])):=zu (Same.refl _) (m.h.free nt);have et:upd B t (.lst [.int n]) t=Z (.lst [.int n]):=zh;generalize upd B t (.lst [.int n])=B1 at m1 s1 et;refine ⟨_,Y,aa,_,Y,.inl (SqL.of (m1.h.sm _ _ (s1 _ _ ea))),t,_,_,Y,Y,m1.h.sm _ _ et,by rw [Je];omega,by rw [Je];omega,(by rw [Je,q0z];show 1*js.length<=_;omega),λl nl=>?_⟩;rw [Je,q0z,zcw];have m2:=m1.grow (o:=.lst (js.map λ_=>V.int n)) nl;have s2:Same B1 (upd B1 l (.lst (js.map λ_=>V.int n))):=zu (Same.refl _) (m1.h.free nl);refine q _ A _ l (s1.trans s2) rfl m2 ?_;rw [zh,oP];rfl
def Mc.touched_ok {M:Mc} {kind:Str} {a:Int} (ok:MOk M):MOk (M.touched kind a):={ok with}
open Classical in
noncomputable def Ze:FnM:=λtv M js=>match (tv[2]?:Jk) with
 | some (V.int r)=>if js.length=0 then Z (M,[]) else if 0<=r/\r.toNat<M.starts.length/\0<=M.adr r.toNat 0/\(M.adr r.toNat 0).toNat<M.cells.length/\M.tq.length<100000 then Z (M.touched "read" (M.adr r.toNat 0),js.map λ_=>Z (M.cells.getD (M.adr r.toNat 0).toNat 0)) else O
 | _=>O
def Yb {tv:Jj} {M M':Mc} {js:J6} {ns:List (Option Int)} (h:Ze tv M js=Z (M',ns)):∃ r:Int,tv[2]?=Z (.int r)/\((js=[]/\M'=M/\ns=[])∨(js≠[]/\∃ n:Nat,r=n/\n<M.starts.length/\0<=M.adr n 0/\(M.adr n 0).toNat<M.cells.length/\M.tq.length<100000/\M'=M.touched "read" (M.adr n 0)/\ns=js.map λ_=>Z (M.cells.getD (M.adr n 0).toNat 0))):=by
 unfold Ze at h
 split at h
 .rename_i r e
  split at h
  .rename_i z
   cases h;exact ⟨r,e,.inl ⟨rR.mp z,Y,Y⟩⟩
  .rename_i z
   split at h
   .rename_i hc
    cases h;exact ⟨r,e,.inr ⟨λy=>z (by rw [y];rfl),r.toNat,by omega,hc.2.1,hc.2.2.1,hc.2.2.2.1,hc.2.2.2.2,Y,Y⟩⟩
   .cases h
 .cases h
def ze6:FnMOk Ze where
 ok:=λh o=>by
  obtain ⟨_,_,⟨_,rfl,_⟩ | ⟨_,_,_,_,_,_,_,rfl,_⟩⟩:=Yb h
  .exact o
  .exact Mc.touched_ok o
 g:=λh=>by
  obtain ⟨_,_,⟨_,rfl,_⟩ | ⟨_,_,_,_,_,_,_,rfl,_⟩⟩:=Yb h
  .rfl
  .rfl
 n:=λh=>by
  obtain ⟨_,_,⟨rfl,_,rfl⟩ | ⟨_,_,_,_,_,_,_,_,rfl⟩⟩:=Yb h
  .rfl
  .rw [Je]
def ok_spread {c:MCs} (d:zk K mg "numbers_spread" yV qE) (hlen:mg "len"=O) (CC:MCls K c) (RC:OkM P w K mg base CX0 2 c.bn "read_cell" Up (spRead c)):Ok P w K mg base CX0 3 "numbers_spread" qE (spFn c Ze):=by
 refine oDf d Y5 λg mx A _ s H vs Q E hr h=>?_;obtain ⟨B,A,M,R,st,aa,tv,js,M',ns,rfl,m,es,ea,ef,ok,hj,hl,q⟩:=h;obtain ⟨r,e2,hc⟩:=Yb ef;have hr2:=hr;have SL:(3000:Nat)<sizeLine:=by decide
 refine ⟨_,(zd (zO (zJ Zc (zp zH (by rfl) hlen o6 (zb (pv 2) zc)) zg (zM _)) (zf (zm (yn zc))) zC)
   (zf (zm (zn zc4 (yn (zb (zX RC CC.n.c hr2 zo (pv 0) (zb (zv zF (pv 1) zg (λ_ _=>rfl)) (zb zg zc))) zc)) (zp zH (by rfl) hlen o6 (zb (pv 2) zc)))))),?_⟩
 dsimp only [yh,Cx.nox,Cx.wish];refine ⟨_,Y,aa,_,Y,.inl (SqL.of (m.h.sm _ _ ea)),Y,_,Y,?_⟩;rw [Je];rcases hc with ⟨rfl,rfl,rfl⟩ | ⟨hne,n,rfl,hn,a0,a1,ht,rfl,rfl⟩
 .refine Yl ⟨(by show 0<=mI;omega),λl nl=>?_⟩
  exact q _ A _ l (zu (Same.refl _) (m.h.free nl)) rfl (m.grow nl) zh
 .have hp:js.length≠0:=λz=>hne (rR.mp z)
  rw [decide_eq_false (λz=>hp (by injection z with z;omega))];refine xt ⟨_,Y,A.b,_,_,Y,m.b,Y,_,Y,st,_,_,_,Y,Y,SqT.of (m.h.sm _ _ es),zB (j:=2) e2,B,A,M,R,n,0,Y,m,ht,hn,a0,a1,λB1 A1 H1 s1 eb m1=>?_⟩;refine ⟨(by show 1<=mI;omega),λt nt=>?_⟩;have m2:=m1.grow (o:=.lst [.int (M.cells.getD (M.adr n 0).toNat 0)]) nt;have s2:Same B1 (upd B1 t (.lst [.int (M.cells.getD (M.adr n 0).toNat 0)])):=zu (Same.refl _) (m1.h.free nt);have et:upd B1 t (.lst [.int (M.cells.getD (M.adr n 0).toNat 0)]) t=Z (.lst [.int (M.cells.getD (M.adr n 0).toNat 0)]):=zh;generalize upd B1 t (.lst [.int (M.cells.getD (M.adr n 0).toNat 0)])=B2 at m2 s2 et;refine ⟨_,Y,aa,_,Y,.inl (SqL.of (m2.h.sm _ _ (s2 _ _ (s1 _ _ ea)))),t,_,_,Y,Y,m2.h.sm _ _ et,by rw [Je];omega,by rw [Je];omega,(by rw [Je,q0z];show 1*js.length<=_;omega),λl nl=>?_⟩;rw [Je,q0z,zcw];have m3:=m2.grow (o:=.lst (js.map λ_=>V.int (M.cells.getD (M.adr n 0).toNat 0))) nl;have s3:Same B2 (upd B2 l (.lst (js.map λ_=>V.int (M.cells.getD (M.adr n 0).toNat 0)))):=zu (Same.refl _) (m2.h.free nl);refine q _ A1 _ l ((s1.trans s2).trans s3) eb m3 ?_;rw [zh,oP];rfl
def Mc.chosen (M:Mc) (p k:Nat) (nought:Bool):J6:=(M.act k).filter λj=>decide (decide (M.nq p j=0)=nought)
def yv (nought:Bool):EfM:=λtv M=>match (tv[1]?:Jk),(tv[2]?:Jk),(tv[3]?:Jk) with
 | some (V.int m),Z (V.int p),Z (V.int k)=>if 0<=m/\m<16/\0<=p/\(p+1)*M.group<=8/\0<=k/\k<16 then Z (M.laidMask m.toNat (M.chosen p.toNat k.toNat nought)) else O
 | _,_,_=>O
def zfy {nought:Bool} {tv:Jj} {M M':Mc} (h:yv nought tv M=Z M'):∃ m p k:Nat,tv[1]?=Z (.int m)/\tv[2]?=Z (.int p)/\tv[3]?=Z (.int k)/\m<16/\((p:Int)+1)*M.group<=8/\k<16/\M'=M.laidMask m (M.chosen p k nought):=by
 unfold yv at h
 split at h
 .rename_i m p k e1 e2 e3
  split at h
  .rename_i hc
   obtain ⟨m0,m1,p0,p8,k0,k1⟩:=hc;cases h;refine ⟨m.toNat,p.toNat,k.toNat,?_,?_,?_,by omega,?_,by omega,Y⟩
   .rw [e1];congr 2;omega
   .rw [e2];congr 2;omega
   .rw [e3];congr 2;omega
   .rw [oA p0];exact p8
  .cases h
 .cases h
inductive spLC (c:MCs) (vs:Jj) (H:Hp) (Q:VK) (_:XK):Prop
 | mk (nought:Bool) (B:Hp) (A:Ma) (M:Mc) (R:Ji) (st:Ad) (tv:Jj) (M':Mc) (_:vs=[.ref A.b,.ref st,.bl nought]) (_:MAt c B A M R H) (_:B st=Z (.tup tv)) (_:yv nought tv M=Z M') (_:MOk M) (_:∀ B' A' H',Same B B'->A'.b=A.b->MAt c B' A' M' R H'->Q .non H')
def ok_chosen {c:MCs} (d:zk K mg "lay_chosen" Zj Ue) (hzip:mg "zip"=O) (CC:MCls K c) (AU:OkM P w K mg base CX0 1 c.bn "active_under" Ur (spAct c)) (NI:OkM P w K mg base CX0 3 c.bn "numbers_in" qQ (spNums c K)) (LM:OkM P w K mg base CX0 2 c.bn "lay_mask" Uj (spMask c K)):Ok P w K mg base CX0 4 "lay_chosen" Ue (spLC c):=by
 refine oDf d sc_lay_chosen λg mx A _ s H vs Q E hr h=>?_;obtain ⟨nought,B,A,M,R,st,tv,M',rfl,m,es,ef,ok,q⟩:=h;have nd:=sc_lay_chosen.nd;have hr3:=hr;have hr2:=hr.mono (show 2<=3 by decide);have hr1:=hr.mono (show 1<=3 by decide);have CN:=CC.n;have ml:=ok.ml;have SL:(3000:Nat)<sizeLine:=by decide
 obtain ⟨mk,p,k,e1,e2,e3,mk16,p8,k16,rfl⟩:=zfy ef;obtain ⟨mr1,mr2⟩:=YE ok k16;obtain ⟨ai,al⟩:=zdj ok k;refine ⟨_,(zd (oRz 3 nd (zX AU CC.n.c hr1 zo (pv 0) (zb (zv zF (pv 1) zg (λ_ _=>rfl)) zc)))
   (zd (oRz 4 nd (zX NI CC.n.c hr3 zo (pv 0) (zb (zv zF (pv 1) zg (λ_ _=>rfl)) (zb (pv 3) zc))))
   (zf (zy (zX LM CC.n.c hr2 zo (pv 0) (zb (zv zF (pv 1) zg (λ_ _=>rfl)) (zb (zd5 ["lane","number","nought"] [O,O,Z 2] rfl rfl rfl (pi_zip rfl hzip (zb (pv 3) (zb (pv 4) zc))) (λs3 H3 fp=>⟨zcz (K:=K) (n:=2) rfl rfl (yF (oQz 0 (Jl ["lane","number","nought"])) (yF (oQz 1 (Jl ["lane","number","nought"])) Xg)),(zJ Zc (xS Zc (pv 1) zg (zM _)) (pv 2) (zM _)),(pv 0)⟩)) zc))))))),?_⟩
 refine ⟨_,Y,A.b,_,_,Y,m.b,Y,_,Y,st,_,_,_,Y,Y,SqT.of (m.h.sm _ _ es),zB (j:=3) e3,B,A,M,R,k,Y,m,by omega,ok.w0,mr1,mr2,λB1 H1 l s1 m1 ea=>?_⟩;refine ⟨_,Y,A.b,_,_,Y,m1.b,Y,_,Y,st,_,_,_,Y,Y,SqT.of (m1.h.sm _ _ (s1 _ _ es)),zB (j:=2) e2,_,Y,B1,A,M,R,p,l,M.act k,Y,m1,ok,p8,ea,ai,al,λB2 H2 l2 s2 m2 en=>?_⟩;refine ⟨_,Y,A.b,_,_,Y,m2.b,Y,_,Y,st,_,_,_,Y,Y,SqT.of (m2.h.sm _ _ (s2 _ _ (s1 _ _ es))),zB (j:=1) e1,_,Y,_,Y,l,l2,Y,⟨_,SqL.of (m2.h.sm _ _ (s2 _ _ ea))⟩,⟨_,SqL.of (m2.h.sm _ _ en)⟩,_,Y,λD nD=>?_⟩;unfold Mc.chosen at q;generalize M.act k=js at *;let f:Int->Bool:=λj=>decide (decide (M.nq p j=0)=nought);have h0:Hd H2 [(D,.lst (((js.take 0).filter f).map V.int))] (upd H2 D (.lst [])):=Hd.base.new nD;generalize upd H2 D (.lst [])=H3 at h0 ⊢;refine compF_zip (K:=K) (xs:=js.map V.int) (ys:=(js.map (M.nq p)).map V.int) (λi σ J=>∃ u0 u1,σ=[u0,u1,Z (.bl nought)]/\Hd H2 [(D,.lst (((js.take i).filter f).map V.int))] J) ⟨O,O,Y,h0⟩ (λi σ J _ ⟨_,_,_,h⟩=>⟨SqL.of (h.sm _ _ (m2.h.sm _ _ (s2 _ _ ea))),SqL.of (h.sm _ _ (m2.h.sm _ _ en))⟩) (by rw [Je,Je,Je]) ?_ ?_
 .clear h0
  rintro i x y σ J T hx hy ⟨u0,u1,rfl,h⟩ nT;obtain ⟨j,e9,rfl⟩:=xl hx;obtain ⟨z,e10,rfl⟩:=xl hy;rw [mJ,e9] at e10;cases e10;have hlt:i<js.length:=(mF.mp e9).1;have h:=h.waste (o:=.tup [.int j,.int (M.nq p j)]) nT;refine ⟨T,_,Y,SqT.of zh,Y,_,_,Y,_,_,Y,Y,?_⟩;generalize upd J T (.tup [.int j,.int (M.nq p j)])=J1 at h ⊢
  have et:(js.take (i+1)).filter f=(js.take i).filter f++if f j=true then [j] else []:=by
   rw [nY,e9,py];congr 1;show List.filter f [j]=_;by_cases z:f j=true
   .rw [pS z,if_pos z];rfl
   .rw [p7 z,if_neg z];rfl
  have lf:=sD f (js.take i);rw [ny] at lf;rw [et];refine ⟨_,Y,Y,_,Y,Y,_,Y,?_⟩
  have ef:decide (V.bl (decide (V.int (M.nq p j)=V.int 0))=V.bl nought)=f j:=by
   show _=decide (decide (M.nq p j=0)=nought);rw [zdf,dec_bl];by_cases z:M.nq p j=0 <;> cases nought <;> simp [z]
  rw [ef];refine yw (λz=>?_) (λz=>?_)
  .rw [if_pos z]
   refine ⟨_,Y,_,h.get 0 rfl,(by rw [Je];omega),_,_,Y,?_⟩;rw [Jg];exact h.put 0 rfl
  .rw [if_neg z,q8y]
   exact ⟨_,_,Y,h⟩
 .rintro σ J ⟨u0,u1,rfl,h⟩
  rw [Je,oa] at h;have m3:=m2.adopt h;have s3:Same B2 (upd B2 D (.lst ((js.filter f).map V.int))):=zu (Same.refl _) (m2.h.free nD);refine ⟨_,A,M,R,mk,D,js.filter f,Y,m3,ok,mk16,zh,(λj hj=>ai j (nI.mp hj).1),λH9 m9=>?_⟩;exact q _ A H9 ((s1.trans s2).trans s3) rfl m9
def ok_choose {c:MCs} (d:zk K mg "play_choose" xM qC) (LC:Ok P w K mg base CX0 4 "lay_chosen" Ue (spLC c)):Ok P w K mg base CX0 5 "play_choose" qC (spEf c (yv false)):=by
 refine oDf d zag λg mx A _ s H vs Q E hr h=>?_;obtain ⟨B,A,M,R,st,tv,M',rfl,m,es,ef,ok,q⟩:=h;have hr4:=hr;refine ⟨_,(zf (zy (zD LC hr4 (by rfl) zo (zb (pv 0) (zb (pv 1) (zb YR zc)))))),?_⟩;exact ⟨_,Y,_,Y,false,B,A,M,R,st,tv,M',Y,m,es,ef,ok,q⟩
def ok_other {c:MCs} (d:zk K mg "play_other" Zg qC) (LC:Ok P w K mg base CX0 4 "lay_chosen" Ue (spLC c)):Ok P w K mg base CX0 5 "play_other" qC (spEf c (yv true)):=by
 refine oDf d zbl λg mx A _ s H vs Q E hr h=>?_;obtain ⟨B,A,M,R,st,tv,M',rfl,m,es,ef,ok,q⟩:=h;have hr4:=hr;refine ⟨_,(zf (zy (zD LC hr4 (by rfl) zo (zb (pv 0) (zb (pv 1) (zb YR zc)))))),?_⟩;exact ⟨_,Y,_,Y,true,B,A,M,R,st,tv,M',Y,m,es,ef,ok,q⟩
def MAt.putFault {c:MCs} {B:Hp} {A:Ma} {M:Mc} {R:Ji} {H:Hp} (m:MAt c B A M R H) (f:Jh):MAt c B A { M with fq:=f } R (upd H A.aF (.dK f)) :=
 ⟨{m.bb with},m.h.put (o':=.dK f) 7 rfl⟩
def Mc.sad (M:Mc) (slot lane:Int):Int:=M.cells.length+slot*4*M.lq+lane
def Mc.slotN (M:Mc) (a:Int):Int:=match zU M.slots (.inl a) with
 | some (.int n)=>n
 | _=>0
def SlotsOk (M:Mc):Prop:=∀ k v,zU M.slots k=Z v->∃ n,v=.int n
def SlotsOk.at {M:Mc} (h:SlotsOk M) (a:Int):(zU M.slots (.inl a)).getD (.int 0)=.int (M.slotN a):=by
 unfold Mc.slotN
 cases e:zU M.slots (.inl a) with
 | none=>rfl
 | some v=>obtain ⟨n,rfl⟩:=h _ _ e;rfl
def Mc.wroteSlot (M:Mc) (slot lane n:Int):Mc:={ M.touched "write" (M.sad slot lane) with slots:=xa M.slots (.inl (M.sad slot lane)) (.int n) }
def MAt.putSlots {c:MCs} {B:Hp} {A:Ma} {M:Mc} {R:Ji} {H:Hp} (m:MAt c B A M R H) (f:Jh):MAt c B A { M with slots:=f } R (upd H A.aSl (.dK f)) :=
 ⟨{m.bb with},m.h.put (o':=.dK f) 3 rfl⟩
inductive spAdr (c:MCs) (vs:Jj) (H:Hp) (Q:VK) (_:XK):Prop
 | mk (B:Hp) (A:Ma) (M:Mc) (R:Ji) (slot lane:Int) (_:vs=[.ref A.b,.int slot,.int lane]) (_:MAt c B A M R H) (_:M.lq<=64) (_:Q (.int (M.sad slot lane)) H)
def ok_adr {c:MCs} {t1:Tok} (d:zN K c.bn "address_in_slot" "Bench.address_in_slot" yi qJ) (CN:NCls K c.bn) (hlen:mg "len"=O) (hMT:mg "MOST_TOGETHER"=Z (.int 4 t1)):OkM P w K mg base CX0 1 c.bn "address_in_slot" qJ (spAdr c):=by
 refine oMf d ZZ λf mx A _ s H vs Q E hr h=>?_;obtain ⟨B,A,M,R,slot,lane,rfl,m,l64,q⟩:=h;refine ⟨_,(zf (zm (zn zQ (zn zQ (zp zH (by rfl) hlen o6 (zb (zi (pv 0) rfl) zc)) (zn yH (zn yH (pv 1) (xC hMT)) (zi (pv 0) rfl))) (pv 2)))),?_⟩;dsimp only [yh,Cx.nox,Cx.wish];refine ⟨_,Y,A.b,_,_,_,.ref A.aC,Y,m.b,CN.c,CN.cells,Y,A.aC,_,Y,.inl (m.h.lst 1 rfl),?_⟩;rw [Je];exact ⟨_,Y,_,_,Y,Y,.inr ⟨by decide,by decide⟩,_,Y,A.b,_,_,_,.int M.lq,Y,m.b,CN.c,CN.lq,Y,_,_,Y,Y,.inr ⟨by omega,by omega⟩,_,_,Y,Y,_,Y,_,_,Y,Y,q⟩
inductive spWS (c:MCs) (vs:Jj) (H:Hp) (Q:VK) (_:XK):Prop
 | mk (B:Hp) (A:Ma) (M:Mc) (R:Ji) (slot lane n:Int) (_:vs=[.ref A.b,.int slot,.int lane,.int n]) (_:MAt c B A M R H) (_:M.lq<=64) (_:M.tq.length<100000) (_:M.slots.length<100000) (_:∀ B' A' H',Same B B'->A'.b=A.b->MAt c B' A' (M.wroteSlot slot lane n) R H'->Q .non H')
def ok_ws {c:MCs} (d:zN K c.bn "write_slot" "Bench.write_slot" yy Ug) (CN:NCls K c.bn) (AD:OkM P w K mg base CX0 1 c.bn "address_in_slot" qJ (spAdr c)) (TO:OkM P w K mg base CX0 1 c.bn "touch" qM (spTouch c)):OkM P w K mg base CX0 2 c.bn "write_slot" Ug (spWS c):=by
 refine oMf d sc_Bench_write_slot λf mx A _ s H vs Q E hr h=>?_;obtain ⟨B,A,M,R,slot,lane,n,rfl,m,l64,ht,hs,q⟩:=h;have nd:=sc_Bench_write_slot.nd;have hu:=nk (o8 (show 1<=64 by decide) _) hr.units;have hr1:=hr;have SL:(200000:Nat)<sizeLine:=by decide
 refine ⟨_,(zd (oRz 4 nd (zX AD CN.c hr1 zo (pv 0) (zb (pv 1) (zb (pv 2) zc))))
   (zd (zy (zX TO CN.c hr1 zo (pv 0) (zb zP (zb (pv 4) zc))))
   (zf (ps_dput hu (zi (pv 0) rfl) (pv 4) (pv 3) rfl)))),?_⟩
 dsimp only [yh,Cx.nox,Cx.wish];refine ⟨_,Y,A.b,_,_,Y,m.b,Y,_,Y,_,Y,B,A,M,R,slot,lane,Y,m,l64,?_⟩;refine ⟨_,Y,A.b,_,_,Y,m.b,Y,_,Y,B,A,M,R,"write",M.sad slot lane,Y,m,ht,λB1 A1 H1 s1 eb m1=>?_⟩;refine ⟨_,Y,_,Y,A1.b,_,_,_,.ref A1.aSl,by rw [eb],m1.b,CN.c,CN.slots,Y,_,Y,A1.aSl,_,Y,DPut.k (k:=.inl (M.sad slot lane)) (m1.h.get 3 rfl) (by show M.slots.length<_;omega),?_⟩;exact q B1 A1 _ s1 eb (m1.putSlots _)
inductive spRS (c:MCs) (vs:Jj) (H:Hp) (Q:VK) (_:XK):Prop
 | mk (B:Hp) (A:Ma) (M:Mc) (R:Ji) (slot lane:Int) (_:vs=[.ref A.b,.int slot,.int lane]) (_:MAt c B A M R H) (_:M.lq<=64) (_:M.tq.length<100000) (_:SlotsOk M) (_:∀ B' A' H',Same B B'->A'.b=A.b->MAt c B' A' (M.touched "read" (M.sad slot lane)) R H'->Q (.int (M.slotN (M.sad slot lane))) H')
def ok_rs {c:MCs} (d:zN K c.bn "read_slot" "Bench.read_slot" yL qJ) (CN:NCls K c.bn) (AD:OkM P w K mg base CX0 1 c.bn "address_in_slot" qJ (spAdr c)) (TO:OkM P w K mg base CX0 1 c.bn "touch" qM (spTouch c)):OkM P w K mg base CX0 2 c.bn "read_slot" qJ (spRS c):=by
 refine oMf d sc_Bench_read_slot λf mx A _ s H vs Q E hr h=>?_;obtain ⟨B,A,M,R,slot,lane,rfl,m,l64,ht,hs,q⟩:=h;have nd:=sc_Bench_read_slot.nd;have hu:=nk (o8 (show 1<=64 by decide) _) hr.units;have hr1:=hr;refine ⟨_,(zd (oRz 3 nd (zX AD CN.c hr1 zo (pv 0) (zb (pv 1) (zb (pv 2) zc))))
   (zd (zy (zX TO CN.c hr1 zo (pv 0) (zb zP (zb (pv 3) zc))))
   (zf (zm (pe_dget2 hu (zi (pv 0) rfl) (pv 3) zg ⟨Y,Y,Y,Y⟩))))),?_⟩
 dsimp only [yh,Cx.nox,Cx.wish];refine ⟨_,Y,A.b,_,_,Y,m.b,Y,_,Y,_,Y,B,A,M,R,slot,lane,Y,m,l64,?_⟩;refine ⟨_,Y,A.b,_,_,Y,m.b,Y,_,Y,B,A,M,R,"read",M.sad slot lane,Y,m,ht,λB1 A1 H1 s1 eb m1=>?_⟩;refine ⟨_,Y,A1.b,_,_,_,.ref A1.aSl,by rw [eb],m1.b,CN.c,CN.slots,Y,A1.aSl,Y,.inl ⟨_,.inl (m1.h.get 3 rfl)⟩,_,Y,_,DGet.k (k:=.inl (M.sad slot lane)) (m1.h.get 3 rfl),?_⟩;show Q ((zU M.slots (.inl (M.sad slot lane))).getD (.int 0)) H1;rw [hs.at];exact q B1 A1 H1 s1 eb m1
def Mc.saves (M:Mc) (slot:Int) (ps:List (Int×Int)):Mc:=ps.foldl (λM p=>M.wroteSlot slot p.1 p.2) M
def Mc.saves_snoc (M:Mc) (slot:Int) (ps:List (Int×Int)) (p:Int×Int):M.saves slot (ps++[p])=(M.saves slot ps).wroteSlot slot p.1 p.2:=by unfold Mc.saves;rw [oN];rfl
def Mc.saves_is (M:Mc) (slot:Int) (ps:List (Int×Int)):M.saves slot ps={ M with slots:=(M.saves slot ps).slots,tq:=M.tq++ps.map λp=>(M.pc,("write":Str),M.sad slot p.1) }/\(M.saves slot ps).slots.length<=M.slots.length+ps.length:=by
 induction ps generalizing M with
 | nil=>exact ⟨by show M={ M with tq:=M.tq++[] };rw [q8y],m8 _⟩
 | cons p ps ih =>
  obtain ⟨a,b⟩:=ih (M.wroteSlot slot p.1 p.2);have e:M.saves slot (p::ps)=(M.wroteSlot slot p.1 p.2).saves slot ps:=rfl;rw [e];refine ⟨?_,?_⟩
  .rw [a]
   show ({ M with slots:=_,tq:=(M.tq++[_])++ps.map _ }:Mc)={ M with slots:=_,tq:=_ };rw [n8];rfl
  .have:=xp M.slots (.inl (M.sad slot p.1):Key) (.int p.2)
   have b:_<=(xa M.slots (.inl (M.sad slot p.1)) (.int p.2)).length+ps.length:=b;rw [q8x];omega
def Y8:EfM:=λtv M=>match (tv[1]?:Jk),(tv[2]?:Jk),(tv[3]?:Jk) with
 | some (V.int r),Z (V.int p),Z (V.int k)=>if 0<=p/\(p+1)*M.group<=8/\0<=k/\k<16/\M.tq.length<90000/\M.slots.length<90000 then Z (M.saves r ((M.act k.toNat).map λj=>(j,M.nq p.toNat j))) else O
 | _,_,_=>O
def saveM_is {tv:Jj} {M M':Mc} (h:Y8 tv M=Z M'):∃ (r:Int) (p k:Nat),tv[1]?=Z (.int r)/\tv[2]?=Z (.int p)/\tv[3]?=Z (.int k)/\((p:Int)+1)*M.group<=8/\k<16/\M.tq.length<90000/\M.slots.length<90000/\M'=M.saves r ((M.act k).map λj=>(j,M.nq p j)):=by
 unfold Y8 at h
 split at h
 .rename_i r p k e1 e2 e3
  split at h
  .rename_i hc
   obtain ⟨p0,p8,k0,k1,ht,hs⟩:=hc;cases h;refine ⟨r,p.toNat,k.toNat,e1,?_,?_,?_,by omega,ht,hs,Y⟩
   .rw [e2];congr 2;omega
   .rw [e3];congr 2;omega
   .rw [oA p0];exact p8
  .cases h
 .cases h
def ok_save {c:MCs} (d:zk K mg "play_save" ZF qC) (hzip:mg "zip"=O) (CC:MCls K c) (AU:OkM P w K mg base CX0 1 c.bn "active_under" Ur (spAct c)) (NI:OkM P w K mg base CX0 3 c.bn "numbers_in" qQ (spNums c K))
  (WS:OkM P w K mg base CX0 2 c.bn "write_slot" Ug (spWS c)):Ok P w K mg base CX0 4 "play_save" qC (spEf c Y8):=by
 refine oDf d sc_play_save λg mx A _ s H vs Q E hr h=>?_;obtain ⟨B,A,M,R,st,tv,M',rfl,m,es,ef,ok,q⟩:=h;have nd:=sc_play_save.nd;have hr3:=hr;have hr2:=hr.mono (show 2<=3 by decide);have hr1:=hr.mono (show 1<=3 by decide);have CN:=CC.n;have ml:=ok.ml;obtain ⟨r,p,k,e1,e2,e3,p8,k16,ht,hsl,rfl⟩:=saveM_is ef;obtain ⟨mr1,mr2⟩:=YE ok k16;obtain ⟨ai,al⟩:=zdj ok k;refine ⟨_,(zd (oRz 2 nd (zX AU CC.n.c hr1 zo (pv 0) (zb (zv zF (pv 1) zg (λ_ _=>rfl)) zc)))
   (zf (x8 oE rfl (pi_zip rfl hzip (zb (pv 2) (zb (zX NI CC.n.c hr3 zo (pv 0) (zb (zv zF (pv 1) zg (λ_ _=>rfl)) (zb (pv 2) zc))) zc))) (pg_tup rfl (yF (oQz 3 nd) (yF (oQz 4 nd) Xg))) (zf (zy (zX WS CC.n.c hr2 zo (pv 0) (zb (zv zF (pv 1) zg (λ_ _=>rfl)) (zb (pv 3) (zb (pv 4) zc))))))))),?_⟩
 dsimp only [yh,Cx.nox,Cx.wish];refine ⟨_,Y,A.b,_,_,Y,m.b,Y,_,Y,st,_,_,_,Y,Y,SqT.of (m.h.sm _ _ es),zB (j:=3) e3,B,A,M,R,k,Y,m,by omega,ok.w0,mr1,mr2,λB1 H1 l s1 m1 ea=>?_⟩;refine ⟨_,Y,_,Y,A.b,_,_,Y,m1.b,Y,_,Y,st,_,_,_,Y,Y,SqT.of (m1.h.sm _ _ (s1 _ _ es)),zB (j:=2) e2,_,Y,B1,A,M,R,p,l,M.act k,Y,m1,ok,p8,ea,ai,al,λB2 H2 l2 s2 m2 en=>?_⟩;refine ⟨l,l2,Y,⟨_,SqL.of (m2.h.sm _ _ (s2 _ _ ea))⟩,⟨_,SqL.of (m2.h.sm _ _ en)⟩,?_⟩;generalize M.act k=js at *;let pr:Int->Int×Int:=λj=>(j,M.nq p j);let Pv1:Nat->St->Hp->Prop:=(λi σ J=>∃ u3 u4 B3 A3,σ=[rq A.b,rq st,rq l,u3,u4]/\Same B2 B3/\A3.b=A.b/\MAt c B3 A3 (M.saves r ((js.take i).map pr)) R J);refine for_zip (xs:=js.map V.int) (ys:=(js.map (M.nq p)).map V.int) Pv1 ⟨O,O,B2,A,Y,Same.refl _,Y,m2⟩ (λi σ J _ ⟨_,_,B3,A3,_,s3,_,m3⟩=>⟨SqL.of (m3.h.sm _ _ (s3 _ _ (s2 _ _ ea))),SqL.of (m3.h.sm _ _ (s3 _ _ en))⟩) (by rw [Je,Je,Je]) ?_ ?_
 .rintro i x y σ J T hx hy ⟨u3,u4,B3,A3,rfl,s3,eb,m3⟩ nT
  obtain ⟨j,e9,rfl⟩:=xl hx;obtain ⟨z,e10,rfl⟩:=xl hy;rw [mJ,e9] at e10;cases e10;have hlt:i<js.length:=(mF.mp e9).1;have m4:=m3.grow (o:=.tup [.int j,.int (M.nq p j)]) nT;have s4:Same B3 (upd B3 T (.tup [.int j,.int (M.nq p j)])):=zu (Same.refl _) (m3.h.free nT);have e4:upd B3 T (.tup [.int j,.int (M.nq p j)]) T=Z (.tup [.int j,.int (M.nq p j)]):=zh;generalize upd J T (.tup [.int j,.int (M.nq p j)])=J4 at m4 ⊢;generalize upd B3 T (.tup [.int j,.int (M.nq p j)])=B4 at m4 s4 e4;obtain ⟨pi1,pi2⟩:=M.saves_is r ((js.take i).map pr);rw [Je,ny] at pi2;have hL:(M.saves r ((js.take i).map pr)).lq<=64:=by rw [pi1];exact ok.l64
  have hT:(M.saves r ((js.take i).map pr)).tq.length<100000:=by
   rw [pi1];show (M.tq++_).length<_;rw [Jf,Je,Je,ny];omega
  refine ⟨T,_,Y,SqT.of (m4.h.sm _ _ e4),Y,_,_,Y,_,_,Y,Y,?_⟩;refine ⟨_,Y,A3.b,_,_,by rw [eb],m4.b,Y,_,Y,st,_,_,_,Y,Y,SqT.of (m4.h.sm _ _ (s4 _ _ (s3 _ _ (s2 _ _ (s1 _ _ es))))),zB (j:=1) e1,_,Y,_,Y,B4,A3,_,R,r,j,M.nq p j,by rw [eb];rfl,m4,hL,hT,by omega,λB5 A5 H5 s5 eb5 m5=>?_⟩;refine ⟨_,_,B5,A5,Y,(s3.trans s4).trans s5,eb5.trans eb,?_⟩;have et:(js.take (i+1)).map pr=(js.take i).map pr++[pr j]:=by rw [nY,e9,Jg];rfl
  rw [et,M.saves_snoc];exact m5
 .rintro σ J ⟨u3,u4,B3,A3,rfl,s3,eb,m3⟩
  rw [Je,oa] at m3;exact q B3 A3 J ((s1.trans s2).trans s3) eb m3
def Mc.brings (M:Mc) (slot:Int) (js:J6):Mc:={ M with tq:=M.tq++js.map λj=>(M.pc,("read":Str),M.sad slot j) }
def Mc.brings_snoc (M:Mc) (slot:Int) (js:J6) (j:Int):M.brings slot (js++[j])=(M.brings slot js).touched "read" (M.sad slot j):=by
 unfold Mc.brings Mc.touched;rw [Jg,← n8];rfl
open Classical in
noncomputable def Z3:FnM:=λtv M js=>match (tv[2]?:Jk) with
 | some (V.int r)=>if SlotsOk M/\M.tq.length<90000 then Z (M.brings r js,js.map λj=>Z (M.slotN (M.sad r j))) else O
 | _=>O
def YK {tv:Jj} {M M':Mc} {js:J6} {ns:List (Option Int)} (h:Z3 tv M js=Z (M',ns)):∃ r:Int,tv[2]?=Z (.int r)/\SlotsOk M/\M.tq.length<90000/\M'=M.brings r js/\ns=js.map λj=>Z (M.slotN (M.sad r j)):=by
 unfold Z3 at h
 split at h
 .rename_i r e
  split at h
  .rename_i hc
   cases h;exact ⟨r,e,hc.1,hc.2,Y,Y⟩
  .cases h
 .cases h
def bringM_ok:FnMOk Z3 where
 ok:=λh ok=>by
  obtain ⟨r,_,_,_,rfl,_⟩:=YK h;exact {ok with}
 g:=λh=>by obtain ⟨r,_,_,_,rfl,_⟩:=YK h;rfl
 n:=λh=>by obtain ⟨r,_,_,_,_,rfl⟩:=YK h;rw [Je]
def ok_bring {c:MCs} (d:zk K mg "numbers_brought" yJ qE) (CC:MCls K c) (RS:OkM P w K mg base CX0 2 c.bn "read_slot" qJ (spRS c)):Ok P w K mg base CX0 3 "numbers_brought" qE (spFn c Z3):=by
 refine oDf d sc_numbers_brought λg mx A _ s H vs Q E hr h=>?_;obtain ⟨B,A,M,R,st,aa,tv,js,M',ns,rfl,m,es,ea,ef,ok,hj,hl,q⟩:=h;obtain ⟨r,e2,hs,ht,rfl,rfl⟩:=YK ef;have nd:=sc_numbers_brought.nd;have hr2:=hr;have SL:(3000:Nat)<sizeLine:=by decide
 let f:Int->Option Int:=λj=>Z (M.slotN (M.sad r j));refine ⟨_,(zf (zm (xZ Uv [O,Z 0,Z 1] rfl rfl rfl (Zq (pv 2)) (λs3 H3 fp=>⟨oQz 0 (Jl Uv),(zX RS CC.n.c hr2 zo (pv 1) (zb (zv (zdb (K:=K) rfl) (pv 2) zg (λ_ _=>rfl)) (zb (pv 0) zc)))⟩)))),?_⟩;dsimp only [yh,Cx.nox,Cx.wish];refine ⟨_,Y,aa,Y,⟨_,SqL.of (m.h.sm _ _ ea)⟩,_,Y,λD nD=>?_⟩
 have m0:MAt c B A (M.brings r (js.take 0)) ((D,.lst (((js.take 0).map f).map oV))::R) (upd H D (.lst [])):=by
  have e:M.brings r (js.take 0)=M:=by unfold Mc.brings;rw [List.take_zero];show { M with tq:=M.tq++[] }=M;rw [q8y]
  rw [e];exact m.newR nD
 generalize upd H D (.lst [])=H1 at m0 ⊢;let Pv1:Nat->St->Hp->Prop:=(λi σ J=>∃ (u:Jk) (B1:Hp) (A1:Ma),σ=[u,rq A.b,rq st]/\Same B B1/\A1.b=A.b/\MAt c B1 A1 (M.brings r (js.take i)) ((D,.lst (((js.take i).map f).map oV))::R) J);refine Z9 (K:=K) (a:=aa) (D:=D) (xs:=js.map V.int) Pv1 ⟨O,B,A,Y,Same.refl _,Y,m0⟩ (λi σ J _ ⟨_,B1,A1,_,s1,_,m1⟩=>SqL.of (m1.h.sm _ _ (s1 _ _ ea))) ?_ ?_
 .clear m0
  rintro i y σ J hy ⟨u,B1,A1,rfl,s1,eb,m1⟩;obtain ⟨j,e9,rfl⟩:=xl hy;have hlt:i<js.length:=(mF.mp e9).1;refine ⟨_,Y,A1.b,_,_,by rw [eb],m1.b,Y,_,Y,st,_,_,_,Y,Y,SqT.of (m1.h.sm _ _ (s1 _ _ es)),zB (j:=2) e2,_,Y,B1,A1,M.brings r (js.take i),_,r,j,by rw [eb];rfl,m1,ok.l64,?_,hs,λB2 A2 H2 s2 eb2 m2=>?_⟩
  .show (M.tq++_).length<_
   rw [Jf,Je,ny];omega
  refine ⟨_,m2.getR,(by rw [Je,Je,ny];omega),_,B2,A2,Y,s1.trans s2,eb2.trans eb,?_⟩;have et:js.take (i+1)=js.take i++[j]:=by rw [nY,e9];rfl
  rw [et,M.brings_snoc,Jg,Jg];exact m2.putR
 .rintro σ J ⟨u,B1,A1,rfl,s1,eb,m1⟩
  rw [Je,oa] at m1;have nb:B1 D=O:=m1.h.nw (D,_) (mP atR);exact q _ A1 J D (s1.trans (zu (Same.refl _) nb)) eb m1.settle zh
def Yn (f:Jh):J6:=f.filterMap λp=>match p.1 with
 | .inl j=>Z j
 | .inr _=>O
def ZW (f:Jh):Prop:=∀ p∈f,∃ j,p.1=.inl j
def Yr:J6->Int
 | []=>0
 | [x]=>x
 | x::xs=>min x (Yr xs)
theorem zc8:∀ (xs:J6),∀ v∈xs,Yr xs<=v
 | [],v,h=>by cases h
 | [x],v,h=>by cases mV.mp h;exact tm _
 | x::y::xs,v,h=>by
  have ih:=zc8 (y::xs);show min x (Yr (y::xs))<=v;rcases mM.mp h with rfl | h
  .omega
  .have:=ih v h;omega
theorem Xj:∀ (xs:J6),xs≠[]->Yr xs∈xs
 | [],h=>absurd rfl h
 | [x],_=>mV.mpr rfl
 | x::y::xs,_=>by
  have ih:=Xj (y::xs) (by simp);show min x (Yr (y::xs))∈_;by_cases c:x<=Yr (y::xs)
  .rw [Int.min_eq_left c];exact q6z
  .rw [Int.min_eq_right (by omega)];exact q6y _ ih
def minI_is {xs:J6} {m:Int} (h1:m∈xs) (h2:∀ v∈xs,m<=v):m=Yr xs:=by
 have a:=zc8 xs m h1;have b:=h2 _ (Xj xs (λz=>by rw [z] at h1;cases h1));omega
def Mc.faulted (M:Mc):J6:=(Yn M.fq).filter λj=>decide (j<M.wq)
def Mc.trimmed (M:Mc):Mc:=if M.faulted=[] then M else { M with cut:=Z (Yr M.faulted),wq:=Yr M.faulted }
open Classical in
noncomputable def zab:EfM:=λ_ M=>if ZW M.fq/\M.fq.length<100000 then Z M.trimmed else O
def YO:EfM:=λtv M=>match (tv[1]?:Jk),M.cut with
 | some (V.int n),Z c=>(match zU M.fq (.inl c) with
  | some (V.str z)=>Z { M with rq_:=Z (n,M.base+c,z) }
  | _=>O)
 | some (V.int _),O=>Z M
 | _,_=>O
def keysI_at {f:Jh} (h:ZW f):∀ i p,f[i]?=Z p->∃ j,p.1=.inl j/\Yn (f.take (i+1))=Yn (f.take i)++[j]:=λi p e=>by
 obtain ⟨j,hj⟩:=h p (mP e);refine ⟨j,hj,?_⟩;unfold Yn;rw [nY,e,List.filterMap_append];congr 1;obtain ⟨k,v⟩:=p;have hj:k=.inl j:=hj;subst hj;rfl
def keysI_len (f:Jh):(Yn f).length<=f.length:=List.length_filterMap_le _ _
def MAt.s_refusal {c:MCs} {B:Hp} {A:Ma} {M:Mc} {R:Ji} {H:Hp} (m:MAt c B A M R H) {t:Ad} {r:Int×Int×Str} (e:B t=Z (.tup [.int r.1,.int r.2.1,.str r.2.2])):MAt c B { A with rf:=.ref t } { M with rq_:=Z r } R (upd H A.b (.ins c.bn A.db (zW "refusal" (.ref t) (xu A M)))) :=
 ⟨⟨m.bb.lens,m.bb.starts,m.bb.bx,m.bb.msk,m.bb.ml,m.bb.dl,m.bb.pl,m.bb.tl,m.bb.tt,m.bb.ul,m.bb.uu,⟨t,Y,e⟩⟩,m.h.put (o':=.ins c.bn A.db (zW "refusal" (.ref t) (xu A M))) 0 rfl⟩
def ok_trim {c:MCs} (d:zk K mg "play_trim" ZD qC) (hlen:mg "len"=O) (hmin:mg "min"=O) (CC:MCls K c):Ok P w K mg base CX0 1 "play_trim" qC (spEf c zab):=by
 refine oDf d sc_play_trim λg mx A _ s H vs Q E hr h=>?_;obtain ⟨B,A,M,R,st,tv,M',rfl,m,es,ef,ok,q⟩:=h;have nd:=sc_play_trim.nd;have CN:=CC.n;have SL:(200000:Nat)<sizeLine:=by decide
 unfold zab at ef
 split at ef
 case isFalse=>cases ef
 rename_i hc;cases ef;obtain ⟨ik,fl⟩:=hc;refine ⟨_,(zd (ps_compD (i:=2) ["lane","bench"] [O,Z 0] rfl rfl rfl (zi (pv 0) rfl) (λs3 H3 fp=>⟨oQz 0 (Jl ["lane","bench"]),(zJ zbw (pv 0) (Xh (K:=K) rfl (pv 1) rfl) (zM _)),(pv 0)⟩) nd rfl (Or.inl rfl))
   (zf (zO (zJ op_gt (zp zH (by rfl) hlen o6 (zb (pv 2) zc)) zg (zM _)) (zd (zt (pv 0) (zp (call_minM rfl) (by rfl) hmin PyProof.Rows.boot_min (zb (pv 2) zc)) rfl)
   (zf (zt (pv 0) (zi (pv 0) rfl) rfl))) zC))),?_⟩
 dsimp only [yh,Cx.nox,Cx.wish];have eF:H A.aF=Z (.dK M.fq):=m.h.get 7 rfl;have nbF:A.b≠A.aF:=λz=>by have:=m.b;rw [z,eF] at this;cases this
 have eb0:but H [A.aF] A.b=Z (.ins c.bn A.db (xu A M)):=XI m.b (λz=>nbF (mV.mp z));refine ⟨_,Y,A.b,_,_,_,.ref A.aF,Y,m.b,CN.c,CN.fq,Y,A.aF,M.fq,Y,eF,_,Y,λD nD neD=>?_⟩;have nDH:H D=O:=but_free nD neD;have nbD:A.b≠D:=λz=>by have:=m.b;rw [z,nDH] at this;cases this
 let ks:Nat->J6:=λi=>(Yn (M.fq.take i)).filter λj=>decide (j<M.wq);have kl:∀ i,(ks i).length<=M.fq.length:=λi=>mL (sD _ _) (mL (keysI_len _) (by rw [ny];omega));refine zfv (mo:=M.fq) (λi σ J=>∃ u,σ=[u,rq A.b]/\J=upd (but H [A.aF]) D (.lst ((ks i).map V.int))) ⟨O,Y,Y⟩ ?_ ?_
 .rintro i p σ J hp ⟨u,rfl,rfl⟩
  obtain ⟨j,hj,ek⟩:=keysI_at ik i p hp
  have eks:ks (i+1)=ks i++if j<M.wq then [j] else []:=by
   show List.filter _ (Yn (M.fq.take (i+1)))=List.filter _ (Yn (M.fq.take i))++_;rw [ek,py];congr 1;by_cases z:j<M.wq
   .rw [pS (by simpa using z),if_pos z];rfl
   .rw [p7 (by simpa using z),if_neg z];rfl
  have ekV:kV p.1=.int j:=by rw [hj];rfl
  rw [ekV];have eb1:upd (but H [A.aF]) D (.lst ((ks i).map V.int)) A.b=Z (.ins c.bn A.db (xu A M)):=by rw [zj nbD];exact eb0
  refine ⟨_,Y,_,Y,A.b,_,_,_,.int M.wq,Y,eb1,CN.c,CN.wq,Y,_,_,Y,Y,_,Y,?_⟩;rw [eks];refine yw (λz=>?_) (λz=>?_)
  .have z:j<M.wq:=by simpa using z
   rw [if_pos z];refine ⟨_,Y,_,zh,(by rw [Je];have:=kl i;omega),_,Y,?_⟩;rw [upd_upd,Jg];rfl
  .have z:¬ j<M.wq:=by simpa using z
   rw [if_neg z,q8y];exact ⟨_,Y,Y⟩
 rintro σ J ⟨u,rfl,rfl⟩ nd';have ek:ks M.fq.length=M.faulted:=by show List.filter _ (Yn (M.fq.take _))=_;rw [oa];rfl
 rw [ek]
 have eH:upd (upd (but H [A.aF]) D (.lst (M.faulted.map V.int))) A.aF (.dK M.fq)=upd H D (.lst (M.faulted.map V.int)):=by
  funext x;by_cases z:x=A.aF
  .subst z;rw [zh,zj (oQ neD)];exact eF.symm
  .rw [zj z]
   by_cases y:x=D
   .subst y;rw [zh,zh]
   .rw [zj y,zj y]
    unfold but;rw [if_neg (λq=>z (mV.mp q))]
 rw [eH];have m1:=m.grow (o:=.lst (M.faulted.map V.int)) nDH;have s1:Same B (upd B D (.lst (M.faulted.map V.int))):=zu (Same.refl _) (m.h.free nDH);have eD:upd B D (.lst (M.faulted.map V.int)) D=_:=zh;generalize upd B D (.lst (M.faulted.map V.int))=B1 at m1 s1 eD;generalize upd H D (.lst (M.faulted.map V.int))=H1 at m1 ⊢;have qD:SqL K H1 D (M.faulted.map V.int):=SqL.of (m1.h.sm _ _ eD);refine ⟨_,Y,D,_,Y,.inl qD,_,_,Y,Y,_,Y,?_⟩;rw [Je];unfold Mc.trimmed at q;refine yw (λz=>?_) (λz=>?_)
 .have z:(0:Int)<(M.faulted.length:Int):=by simpa using z
  have ne:M.faulted≠[]:=λy=>by rw [y] at z;exact absurd z (by decide)
  rw [if_neg ne] at q;refine ⟨_,Y,D,M.faulted,Y,qD,by omega,λmn h1 h2=>?_⟩;cases minI_is h1 h2;refine ⟨_,Y,A.b,_,_,_,Y,m1.b,CN.c,CN.cut,(by show 23<1000;decide),?_⟩;have m2:=m1.s_cut (Z (Yr M.faulted));refine ⟨_,Y,A.b,_,_,_,.int (Yr M.faulted),Y,m2.b,CN.c,CN.cut,Y,_,Y,A.b,_,_,_,Y,m2.b,CN.c,CN.wq,(by show 23<1000;decide),?_⟩;exact q B1 A _ s1 rfl (m2.s_width (Yr M.faulted))
 .have z:¬ (0:Int)<(M.faulted.length:Int):=by simpa using z
  have ne:M.faulted=[]:=rR.mp (by omega);rw [if_pos ne] at q;exact q B1 A _ s1 rfl m1
def ok_stop {c:MCs} (d:zk K mg "play_stop" ZE qC) (CC:MCls K c):Ok P w K mg base CX0 1 "play_stop" qC (spEf c YO):=by
 refine oDf d sc_play_stop λg mx A _ s H vs Q E hr h=>?_;obtain ⟨B,A,M,R,st,tv,M',rfl,m,es,ef,ok,q⟩:=h;have nd:=sc_play_stop.nd;have hu:=nk (o8 (show 1<=64 by decide) _) hr.units;have CN:=CC.n;have SL:(200000:Nat)<sizeLine:=by decide
 refine ⟨_,(zf (zO (zJ op_notN (zi (pv 0) rfl) xB (zM _)) (zf (zt (pv 0) (yb (zb (zv zF (pv 1) zg (λ_ _=>rfl)) (zb (zn zQ (zi (pv 0) rfl) (zi (pv 0) rfl)) (zb (pe_dget hu (zi (pv 0) rfl) (zi (pv 0) rfl) (λ_ _=>rfl)) zc)))) rfl)) zC)),?_⟩;dsimp only [yh,Cx.nox,Cx.wish];have eF:H A.aF=Z (.dK M.fq):=m.h.get 7 rfl;refine ⟨_,Y,A.b,_,_,_,oV M.cut,Y,m.b,CN.c,CN.cut,Y,Y,_,Y,?_⟩;unfold YO at ef
 split at ef
 .rename_i n cc e1 ec
  split at ef
  case h_2=>cases ef
  rename_i z ez;cases ef;rw [ec];have e2:(!decide (oV (Z cc)=V.non))=true:=by rw [decide_eq_false (λy=>by cases y)];rfl
  rw [e2];refine Yl ⟨_,Y,st,_,_,_,Y,Y,SqT.of (m.h.sm _ _ es),zB (j:=1) e1,_,Y,A.b,_,_,_,.int M.base,Y,m.b,CN.c,CN.base,Y,_,Y,A.b,_,_,_,.int cc,Y,m.b,CN.c,CN.cut,(by show Z (oV M.cut)=_;rw [ec];rfl),_,_,Y,Y,_,Y,A.b,_,_,_,.ref A.aF,Y,m.b,CN.c,CN.fq,Y,_,Y,A.b,_,_,_,.int cc,Y,m.b,CN.c,CN.cut,(by show Z (oV M.cut)=_;rw [ec];rfl),A.aF,.str z,Y,(by rw [← ez];exact DGet.k (k:=.inl cc) eF),(by show 3<=mI;omega),λt nt=>?_⟩;have m1:=m.grow (o:=.tup [.int n,.int (M.base+cc),.str z]) nt;have s1:Same B (upd B t (.tup [.int n,.int (M.base+cc),.str z])):=zu (Same.refl _) (m.h.free nt);have et:upd B t (.tup [.int n,.int (M.base+cc),.str z]) t=_:=zh;generalize upd B t (.tup [.int n,.int (M.base+cc),.str z])=B1 at m1 s1 et;refine ⟨_,Y,A.b,_,_,_,Y,m1.b,CN.c,CN.rq_,(by show 23<1000;decide),?_⟩;exact q B1 { A with rf:=.ref t } _ s1 rfl (m1.s_refusal (r:=(n,M.base+cc,z)) et)
 .rename_i n e1 ec
  cases ef;rw [ec];have e2:(!decide (oV O=V.non))=false:=by rw [decide_eq_true (show oV O=V.non from rfl)];rfl
  rw [e2];exact xt (q B A H (Same.refl _) rfl m)
 .cases ef
def Mc.picked (M:Mc) (p p' k:Nat) (j:Int):Int:=if (M.mq.getD k []).getD j.toNat false=true then M.nq p j else M.nq p' j
def YQ:FnM:=λtv M js=>match (tv[2]?:Jk),(tv[3]?:Jk),(tv[4]?:Jk) with
 | some (V.int p),Z (V.int p'),Z (V.int k)=>if 0<=p/\(p+1)*M.group<=8/\0<=p'/\(p'+1)*M.group<=8/\0<=k/\k<16 then Z (M,js.map λj=>Z (M.picked p.toNat p'.toNat k.toNat j)) else O
 | _,_,_=>O
def Xf {tv:Jj} {M M':Mc} {js:J6} {ns:List (Option Int)} (h:YQ tv M js=Z (M',ns)):∃ p p' k:Nat,tv[2]?=Z (.int p)/\tv[3]?=Z (.int p')/\tv[4]?=Z (.int k)/\((p:Int)+1)*M.group<=8/\((p':Int)+1)*M.group<=8/\k<16/\M'=M/\ns=js.map λj=>Z (M.picked p p' k j):=by
 unfold YQ at h
 split at h
 .rename_i p p' k e1 e2 e3
  split at h
  .rename_i hc
   obtain ⟨p0,p8,q0,q8,k0,k1⟩:=hc;cases h;refine ⟨p.toNat,p'.toNat,k.toNat,?_,?_,?_,?_,?_,by omega,Y,Y⟩
   .rw [e1];congr 2;omega
   .rw [e2];congr 2;omega
   .rw [e3];congr 2;omega
   .rw [oA p0];exact p8
   .rw [oA q0];exact q8
  .cases h
 .cases h
def pickM_ok:FnMOk YQ where
 ok:=λh ok=>by obtain ⟨_,_,_,_,_,_,_,_,_,rfl,_⟩:=Xf h;exact ok
 g:=λh=>by obtain ⟨_,_,_,_,_,_,_,_,_,rfl,_⟩:=Xf h;rfl
 n:=λh=>by obtain ⟨_,_,_,_,_,_,_,_,_,_,rfl⟩:=Xf h;rw [Je]
def ok_picked {c:MCs} (d:zk K mg "numbers_picked" yW qE) (hzip:mg "zip"=O) (CC:MCls K c) (NI:OkM P w K mg base CX0 3 c.bn "numbers_in" qQ (spNums c K)):Ok P w K mg base CX0 4 "numbers_picked" qE (spFn c YQ):=by
 refine oDf d sc_numbers_picked λg mx A _ s H vs Q E hr h=>?_;obtain ⟨B,A,M,R,st,aa,tv,js,M',ns,rfl,m,es,ea,ef,ok,hj,hl,q⟩:=h;obtain ⟨p,p',k,e2,e3,e4,p8,p8',k16,hM,rfl⟩:=Xf ef;rw [hM] at q;clear hM ef;have nd:=sc_numbers_picked.nd;have hr3:=hr;have CN:=CC.n;have ml:=ok.ml;have l1:=ok.l1;have SL:(3000:Nat)<sizeLine:=by decide
 refine ⟨_,(zd (oRz 3 nd (zX NI CC.n.c hr3 zo (pv 0) (zb (zv zF (pv 1) zg (λ_ _=>rfl)) (zb (pv 2) zc))))
   (zd (oRz 4 nd (zX NI CC.n.c hr3 zo (pv 0) (zb (zv zF (pv 1) zg (λ_ _=>rfl)) (zb (pv 2) zc))))
   (zd (zq (i:=5) nd rfl (Or.inr rfl) (zv z6 (zi (pv 0) rfl) (zv zF (pv 1) zg (λ_ _=>rfl)) (λ_ _=>rfl)))
   (zf (zm (xZ Ud [O,O,O,Z 5] rfl rfl rfl (pi_zip3 rfl hzip (zb (pv 3) (zb (pv 4) (zb (pv 2) zc)))) (λs3 H3 fp=>⟨zcz (K:=K) (n:=3) rfl rfl (yF (oQz 0 (Jl Ud)) (yF (oQz 1 (Jl Ud)) (yF (oQz 2 (Jl Ud)) Xg))),(zat (ya (zv (zek (K:=K) rfl) (pv 3) (pv 2) (λ_ _=>rfl))) (pv 0) (pv 1))⟩))))))),?_⟩
 refine ⟨_,Y,A.b,_,_,Y,m.b,Y,_,Y,st,_,_,_,Y,Y,SqT.of (m.h.sm _ _ es),zB (j:=2) e2,_,Y,B,A,M,R,p,aa,js,Y,m,ok,p8,ea,hj,hl,λB1 H1 x1 s1 m1 ex1=>?_⟩;refine ⟨_,Y,A.b,_,_,Y,m1.b,Y,_,Y,st,_,_,_,Y,Y,SqT.of (m1.h.sm _ _ (s1 _ _ es)),zB (j:=3) e3,_,Y,B1,A,M,R,p',aa,js,Y,m1,ok,p8',s1 _ _ ea,hj,hl,λB2 H2 x2 s2 m2 ex2=>?_⟩;obtain ⟨mk,emk,hmk⟩:=m2.mask (k:=k) (by omega);have s12:=s1.trans s2;refine ⟨_,Y,A.b,_,_,_,.ref A.aM,Y,m2.b,CN.c,CN.mq,Y,_,Y,st,_,_,_,Y,Y,SqT.of (m2.h.sm _ _ (s12 _ _ es)),zB (j:=4) e4,A.aM,_,_,.ref mk,Y,Y,SqL.of (m2.h.sm _ _ m2.bb.msk),zB (j:=k) (by rw [mJ,emk];rfl),?_⟩;refine ⟨_,Y,_,Y,_,Y,x1,x2,aa,Y,⟨_,SqL.of (m2.h.sm _ _ (s2 _ _ ex1))⟩,⟨_,SqL.of (m2.h.sm _ _ ex2)⟩,⟨_,SqL.of (m2.h.sm _ _ (s12 _ _ ea))⟩,_,Y,λD nD=>?_⟩;let f:Int->Int:=λj=>M.picked p p' k j;have h0:Hd H2 [(D,.lst (((js.take 0).map f).map V.int))] (upd H2 D (.lst [])):=Hd.base.new nD;generalize upd H2 D (.lst [])=H3 at h0 ⊢
 have mkl:(M.mq.getD k []).length=4*M.lq:=by
  have kl:k<M.mq.length:=by omega
  rw [q6x,m6 kl];exact ok.mm _ (pw kl)
 have gl:M.group*M.lq<=4*M.lq:=by rcases ok.g with e | e | e <;> rw [e] <;> omega
 refine zb7 (K:=K) (xs:=(js.map (M.nq p)).map V.int) (ys:=(js.map (M.nq p')).map V.int) (zs:=js.map V.int) (λi σ J=>∃ u0 u1 u2,σ=[u0,u1,u2,rq mk]/\Hd H2 [(D,.lst (((js.take i).map f).map V.int))] J) ⟨O,O,O,Y,h0⟩ (λi σ J _ ⟨_,_,_,_,h⟩=>⟨SqL.of (h.sm _ _ (m2.h.sm _ _ (s2 _ _ ex1))),SqL.of (h.sm _ _ (m2.h.sm _ _ ex2)),SqL.of (h.sm _ _ (m2.h.sm _ _ (s12 _ _ ea)))⟩) (by rw [Je,Je,Je,Je]) (by rw [Je,Je,Je]) ?_ ?_
 .clear h0
  rintro i x y z σ J T hx hy hz ⟨u0,u1,u2,rfl,h⟩ nT;obtain ⟨j,e9,rfl⟩:=xl hz;have hlt:i<js.length:=(mF.mp e9).1;obtain ⟨a1,e10,rfl⟩:=xl hx;obtain ⟨a2,e11,rfl⟩:=xl hy;rw [mJ,e9] at e10 e11;cases e10;cases e11;have hjj:=hj j (mP e9);have h:=h.waste (o:=.tup [.int (M.nq p j),.int (M.nq p' j),.int j]) nT;refine ⟨T,_,Y,SqT.of zh,Y,_,_,Y,_,_,Y,_,_,Y,Y,?_⟩;generalize upd J T (.tup [.int (M.nq p j),.int (M.nq p' j),.int j])=J1 at h ⊢;have et:(js.take (i+1)).map f=(js.take i).map f++[f j]:=by rw [nY,e9,Jg];rfl
  rw [et];refine ⟨_,Y,_,Y,mk,_,_,_,Y,Y,SqL.of (h.sm _ _ hmk),at_bl j.toNat (by omega) (by omega),_,Y,?_⟩;refine yw (λz=>?_) (λz=>?_)
  .have ef:f j=M.nq p j:=if_pos z
   rw [ef];refine ⟨_,Y,_,h.get 0 rfl,(by rw [Je,Je,ny];omega),_,_,_,Y,?_⟩;rw [Jg];exact h.put 0 rfl
  .have ef:f j=M.nq p' j:=if_neg z
   rw [ef];refine ⟨_,Y,_,h.get 0 rfl,(by rw [Je,Je,ny];omega),_,_,_,Y,?_⟩;rw [Jg];exact h.put 0 rfl
 .rintro σ J ⟨u0,u1,u2,rfl,h⟩
  rw [Je,Je,oa] at h;have m3:=m2.adopt h;refine q _ A J D (s12.trans (zu (Same.refl _) (m2.h.free nD))) rfl m3 ?_;rw [zh,oP,oP];rfl
def sel_in (js:J6) (m:List Bool) (j:Nat) (hj:j<m.length) (h:(j:Int)∈js∨m.getD j false=true):(sel m js).getD j false=true:=by
 induction js generalizing m with
 | nil =>
  rcases h with h | h
  .cases h
  .exact h
 | cons i js ih =>
  show (sel (m.set i.toNat true) js).getD j false=true;refine ih _ (by rw [nJ];exact hj) ?_;by_cases e:i.toNat=j
  .right
   rw [q6x,e,q8z hj];rfl
  .rcases h with h | h
   .rcases mM.mp h with h | h
    .exact absurd (by rw [← h];rfl) e
    .exact .inl h
   .right
    rw [q6x,nV e,← q6x];exact h
def dst_lt (d:J6) (q:Nat) (m:List Bool) (lo k j:Nat) (h:j<lo):(dst d q m lo k).getD j false=m.getD j false:=by
 induction k with
 | zero=>rfl
 | succ k ih=>rw [zeo,q6x,nV (by omega),← q6x];exact ih
def mem_upto {n j:Nat} (h:j<n):(j:Int)∈ZA n:=o9.mpr ⟨j,nZ.mpr h,Y⟩
def actTo_all (M:Mc) (k n:Nat) (h:∀ j,j<n->M.isAct k j=true):M.actTo k n=ZA n:=by
 unfold Mc.actTo ZA;rw [List.filter_eq_self.mpr λj hj=>h j (nZ.mp hj)];rfl
def strip_act {M:Mc} (ok:MOk0 M) (hg:M.group=1∨M.group=2∨M.group=4) {b:Int} (hb:b<=M.mn_):(M.strip b).act 0=ZA (M.wide b).toNat/\MOk (M.strip b):=by
 have l1:=ok.l1;have rb:M.group*M.lq<=4*M.lq/\1<=M.group*M.lq:=by rcases hg with e | e | e <;> rw [e] <;> omega
 have w01:0<=M.wide b/\M.wide b<=M.group*M.lq:=by unfold Mc.wide;split <;> omega
 have ml:0<M.mq.length:=by rw [ok.ml];decide
 have lm:(M.mq.getD 0 []).length=4*M.lq:=by
  rw [q6x,m6 ml];exact ok.mm _ (pw ml)
 refine ⟨?_,?_⟩
 .refine actTo_all _ _ _ λj hj=>?_
  have hj:j<(M.wide b).toNat:=hj;unfold Mc.isAct
  have e1:((M.strip b).mq.getD 0 []).getD j false=true:=by
   show ((M.mq.set 0 _).getD 0 []).getD j false=true;rw [q6x (l:=M.mq.set 0 _),q8z ml];show (dst _ _ (sel (clr (M.mq.getD 0 []) (M.wide b).toNat) (ZA (M.wide b).toNat)) (M.wide b).toNat _).getD j false=true;rw [dst_lt _ _ _ _ _ _ hj];exact sel_in _ _ _ (by rw [ZX,lm];omega) (.inl (mem_upto hj))
  rw [e1];rfl
 .refine ⟨ok.l1,ok.l64,hg,ok.nl,?_,λm hm=>?_,w01.1,w01.2⟩
  .show (M.mq.set 0 _).length=16
   rw [nJ];exact ok.ml
  .rcases rE hm with hm | rfl
   .exact ok.mm m hm
   .show (dst _ _ (sel (clr (M.mq.getD 0 []) _) _) _ _).length=_
    rw [X7,Y4,ZX,lm];rfl
def layOne_is (told:Jh) (p:Nat) (M:Mc) (t:Nat):M.layOne told p t={ M with nums:=(M.layOne told p t).nums,dq:=(M.layOne told p t).dq }:=by
 unfold Mc.layOne;split <;> rfl
def layTo_is (told:Jh) (p:Nat) (M:Mc) (n:Nat):M.layTo told p n={ M with nums:=(M.layTo told p n).nums,dq:=(M.layTo told p n).dq }:=by
 induction n with
 | zero=>rfl
 | succ n ih =>
  rw [M.layTo_succ];have e:=layOne_is told p (M.layTo told p n) n;rw [e];rw [ih]
def layTo_at (told:Jh) (p:Nat) (M:Mc) (n j:Nat) (v:Int) (hj:j<n) (hin:∀ t:Nat,t<n->0<=(p:Int)*M.group*M.lq+t/\((p:Int)*M.group*M.lq+t).toNat<M.nums.length) (hv:zU told (.inl (j:Int))=Z (.int v)):(M.layTo told p n).nq p j=v:=by
 induction n with
 | zero=>omega
 | succ n ih =>
  have s:=M.layTo_same told p n;have hn:=hin n (by omega);have hjj:=hin j hj;rw [M.layTo_succ];by_cases e:j=n
  .subst e
   unfold Mc.layOne;rw [hv];show (List.set _ _ _).getD _ 0=v;rw [s.g,s.l,q6x,q8z (by rw [s.n];exact hn.2)];rfl
  .have e2:((M.layTo told p n).layOne told p n).nq p j=(M.layTo told p n).nq p j:=by
    unfold Mc.layOne
    split
    .show (List.set _ _ _).getD _ 0=_
     rw [q6x,nV (by rw [s.g,s.l];omega),← q6x];rfl
    .show (List.set _ _ _).getD _ 0=_
     rw [q6x,nV (by rw [s.g,s.l];omega),← q6x];rfl
   rw [e2];exact ih (by omega) λt ht=>hin t (by omega)
inductive Steps (L:Lex) (code:List (Jj)):Nat->Mc->Mc->Prop
 | refl {M}:Steps L code 0 M M
 | cons {n M M1 Mf tv}:0<=M.pc->M.rq_=O->code[M.pc.toNat]?=Z tv->Step L tv M M1->Steps L code n M1 Mf->Steps L code (n+1) M Mf
def Steps.trans {L:Lex} {code:List (Jj)} {n k:Nat} {M M1 M2:Mc} (h:Steps L code n M M1) (h2:Steps L code k M1 M2):Steps L code (n+k) M M2:=by
 induction h with
 | refl=>rw [tE];exact h2
 | cons a b c d _ ih=>rw [Nat.add_right_comm];exact .cons a b c d (ih h2)
def Steps.run {L:Lex} {code:List (Jj)} {n:Nat} {M M1:Mc} (h:Steps L code n M M1) (e:(code.length:Int)<=M1.pc∨M1.rq_.isSome=true):Run L code n M M1:=by
 induction h with
 | refl=>exact .done e
 | cons a b c d _ ih=>exact .step a b c d (ih e)
abbrev Tch:=Int×Str×Int
abbrev DT:=J6×List Tch
def z7 (ds:J6) (ps:List (Int×Int)):J6:=ps.foldl (λd pr=>d.set pr.1.toNat pr.2) ds
def ze8 (ps:List (Int×Int)) (ds:J6):(z7 ds ps).length=ds.length:=by
 induction ps generalizing ds with
 | nil=>rfl
 | cons p ps ih=>show (z7 (ds.set _ _) ps).length=_;rw [ih,nJ]
def zfe (M:Mc) (q:Nat) (ps:List (Int×Int)):(M.puts q ps).cells=z7 M.cells (ps.map λp=>(M.adr q p.1,p.2)):=by
 induction ps generalizing M with
 | nil=>rfl
 | cons p ps ih=>exact ih (M.wrote q p.1 p.2)
def wid (mn_ side b:Int):Nat:=(min mn_ (b+side)-b).toNat
structure InS (S LN:J6) (L pl:Nat) (mn_ my b:Int) (k:Nat) (s:DT) (M:Mc):Prop where
 ok:MOk M
 wle:M.wq<=(wid mn_ (my*L) b:Nat)
 bq:M.bq=(wid mn_ (my*L) b:Nat)
 base:M.base=b
 pc:M.pc=((pl+k:Nat):Int)
 oq:M.oq=(pl:Nat)
 mn_:M.mn_=mn_
 group:M.group=my
 lq:M.lq=L
 rf:M.rq_=O
 starts:M.starts=S
 lens:M.lens=LN
 cells:M.cells=s.1
 tq:M.tq=s.2
structure StripAt (S LN:J6) (L pl:Nat) (mn_ my b:Int) (s:DT) (M:Mc):Prop where
 i:InS S LN L pl mn_ my b 1 s M
 act:M.act 0=ZA (wid mn_ (my*L) b)
 flt:M.fq=[]
 cut:M.cut=O
structure RestAt (S LN:J6) (L:Nat) (pc:Nat) (s:DT) (M:Mc):Prop where
 ok:MOk0 M
 lq:M.lq=L
 rf:M.rq_=O
 starts:M.starts=S
 lens:M.lens=LN
 pc:M.pc=pc
 cells:M.cells=s.1
 tq:M.tq=s.2
def layTo_off (told:Jh) (p:Nat) (M:Mc) (n i:Nat) (h:∀ t:Nat,t<n->((p:Int)*M.group*M.lq+t).toNat≠i):(M.layTo told p n).nums.getD i 0=M.nums.getD i 0:=by
 induction n with
 | zero=>rfl
 | succ n ih =>
  have s:=M.layTo_same told p n;have hn:=h n (by omega);rw [M.layTo_succ]
  have e2:((M.layTo told p n).layOne told p n).nums.getD i 0=(M.layTo told p n).nums.getD i 0:=by
   unfold Mc.layOne
   split
   .show (List.set _ _ _).getD _ 0=_
    rw [q6x,nV (by rw [s.g,s.l];exact hn),← q6x]
   .show (List.set _ _ _).getD _ 0=_
    rw [q6x,nV (by rw [s.g,s.l];exact hn),← q6x]
  rw [e2];exact ih λt ht=>h t (by omega)
def zdr {g L p q j t:Int} (g0:1<=g) (l1:1<=L) (ne:p≠q) (j0:0<=j) (j1:j<g*L) (t0:0<=t) (t1:t<g*L):p*g*L+t≠q*g*L+j:=by
 intro z;rw [Int.mul_assoc,Int.mul_assoc] at z;generalize g*L=x at *;rcases Int.lt_or_gt_of_ne ne with h | h
 .have a:(p+1)*x<=q*x:=oG (by omega) (by omega)
  rw [sk] at a;omega
 .have a:(q+1)*x<=p*x:=oG (by omega) (by omega)
  rw [sk] at a;omega
section
variable {Lx:Lex} {S LN:J6} {L pl k:Nat} {mn_ my b:Int} {s:DT} {M:Mc}
def InS.one {code:List (Jj)} {tv:Jj} {M':Mc} (h:InS S LN L pl mn_ my b k s M) (c:code[pl+k]?=Z tv) (st:Step Lx tv M M'):Steps Lx code 1 M M' :=
 .cons (by rw [h.pc];exact Int.natCast_nonneg _) h.rf (by rw [h.pc,q0z];exact c) st .refl
def InS.mem (h:InS S LN L pl mn_ my b k s M) {m:Nat} {j:Int} (hj:j∈M.act m):0<=j/\j<my*L/\b+j<mn_:=by
 have a:=Mc.act_mem hj;have w:=h.wle;have w0:=h.ok.w0;obtain ⟨wn,ew⟩:=tX w0;obtain ⟨jn,rfl⟩:=tX a.1;have a2:=a.2.1;rw [ew] at w a2;have a3:((jn:Nat):Int)<_:=Int.lt_toNat.mp (q7z a2 (Int.ofNat_le.mp w));have l:=Int.min_le_left mn_ (b+my*L);have r:=Int.min_le_right mn_ (b+my*L);generalize min mn_ (b+my*L)=q at *;exact ⟨a.1,by omega,by omega⟩
def InS.len (h:InS S LN L pl mn_ my b k s M) (m:Nat):(M.act m).length<=wid mn_ (my*L) b:=by
 have a:=M.actTo_len m M.wq.toNat;have w:=h.wle;have w0:=h.ok.w0;unfold Mc.act;omega
def sel_out (js:J6) (m:List Bool) (j:Nat) (h:∀ i∈js,i.toNat≠j):(sel m js).getD j false=m.getD j false:=by
 induction js generalizing m with
 | nil=>rfl
 | cons i js ih =>
  show (sel (m.set i.toNat true) js).getD j false=_;rw [ih _ λi hi=>h i (q6y _ hi),q6x,nV (h i q6z),← q6x]
def clr_lt (m:List Bool) (n j:Nat) (h:j<n):(clr m n).getD j false=false:=by
 induction n with
 | zero=>omega
 | succ n ih =>
  rw [zev,q6x];by_cases e:n=j
  .subst e
   by_cases hl:n<(clr m n).length
   .rw [q8z hl];rfl
   .rw [sE (by rw [nJ];omega)];rfl
  .rw [nV e,← q6x];exact ih (by omega)
def laid_act {M:Mc} (ok:MOk M) {m k:Nat} (m16:m<16) (q:Int->Bool):(M.laidMask m ((M.act k).filter q)).act m=(M.act k).filter q/\MOk (M.laidMask m ((M.act k).filter q)):=by
 have w0:=ok.w0;have w1:=ok.w1;have l1:=ok.l1;have rb:M.group*M.lq<=4*M.lq:=by rcases ok.g with e | e | e <;> rw [e] <;> omega
 have ml:m<M.mq.length:=by rw [ok.ml];exact m16
 have lm:(M.mq.getD m []).length=4*M.lq:=by
  rw [q6x,m6 ml];exact ok.mm _ (pw ml)
 refine ⟨?_,⟨ok.l1,ok.l64,ok.g,ok.nl,?_,λx hx=>?_,ok.w0,ok.w1⟩⟩
 .have hm:(M.laidMask m ((M.act k).filter q)).mq.getD m []=M.maskOf m ((M.act k).filter q):=by
   show (M.mq.set m _).getD m []=_;rw [q6x,q8z ml];rfl
  have hW:(M.laidMask m ((M.act k).filter q)).wq=M.wq:=rfl;have hF:(M.laidMask m ((M.act k).filter q)).fq=M.fq:=rfl
  have key:∀ j:Nat,j<M.wq.toNat->(M.laidMask m ((M.act k).filter q)).isAct m j=(M.isAct k j && q (j:Int)):=λj hj=>by
   unfold Mc.isAct;rw [hm,hF]
   have e1:(M.maskOf m ((M.act k).filter q)).getD j false=(sel (clr (M.mq.getD m []) M.wq.toNat) ((M.act k).filter q)).getD j false:=by
    unfold Mc.maskOf;exact dst_lt _ _ _ _ _ _ hj
   rw [e1];by_cases hin:(j:Int)∈(M.act k).filter q
   .have hp:=nI.mp hin
    have ha:=(Mc.act_mem hp.1).2.2;rw [q0z] at ha;rw [sel_in _ _ _ (by rw [ZX,lm];omega) (.inl hin),hp.2];unfold Mc.isAct at ha;rw [oo] at ha;rw [ha.1,ha.2];rfl
   .rw [sel_out _ _ _ λi hi z=>hin (by
     have:=(Mc.act_mem (nI.mp hi).1).1;have e:(j:Int)=i:=by omega
     rw [e];exact hi),clr_lt _ _ _ hj]
    rw [tK];by_cases ha:M.isAct k j=true
    .by_cases hq:q (j:Int)=true
     .exact absurd (nI.mpr ⟨o9.mpr ⟨j,nI.mpr ⟨nZ.mpr hj,ha⟩,Y⟩,hq⟩) hin
     .rw [Bool.not_eq_true] at hq;rw [hq,Bool.and_false]
    .rw [Bool.not_eq_true] at ha
     unfold Mc.isAct at ha;rw [ha,tK]
  generalize hN:M.laidMask m ((M.act k).filter q)=N at key hW ⊢;unfold Mc.act Mc.actTo;rw [hW,List.filter_map,List.filter_filter];congr 1;refine tQ λj hj=>?_;rw [key j (nZ.mp hj),Bool.and_comm];rfl
 .show (M.mq.set m _).length=16
  rw [nJ];exact ok.ml
 .rcases rE hx with hx | rfl
  .exact ok.mm x hx
  .show (dst _ _ (sel (clr (M.mq.getD m []) _) _) _ _).length=_
   rw [X7,Y4,ZX,lm];rfl
end
def wide_wid {M:Mc} {b:Int} (hb:b<=M.mn_) (hg:0<=M.group*M.lq):M.wide b=(wid M.mn_ (M.group*M.lq) b:Nat):=by
 unfold Mc.wide wid
 split <;> omega
def zae {S LN:J6} {L pl:Nat} {mn_ my b:Int} {s:DT} {M:Mc} (ok:MOk0 M) (hg:my=1∨my=2∨my=4) (e1:M.group=my) (e2:M.mn_=mn_) (e3:M.lq=L) (e4:M.oq=pl) (hb:b<=mn_) (rf:M.rq_=O) (st:M.starts=S) (ln:M.lens=LN) (ce:M.cells=s.1) (to:M.tq=s.2) :
  StripAt S LN L pl mn_ my b s { M.strip b with pc:=pl+1 }:=by
 subst e1 e2 e3;obtain ⟨a,o⟩:=strip_act ok hg hb;have l1:=ok.l1;have gp:0<=M.group*M.lq:=by rcases hg with e | e | e <;> rw [e] <;> omega
 have ww:=wide_wid hb gp;refine ⟨⟨{o with},by show M.wide b<=_;rw [ww];exact tm _,ww,Y,by show (pl:Int)+1=_;omega,e4,Y,Y,Y,rf,st,ln,ce,to⟩,?_,Y,Y⟩;show (M.strip b).act 0=_;rw [a,ww,q0z]
section
variable {Lx:Lex} {S LN:J6} {L pl k:Nat} {mn_ my b:Int} {s:DT} {M:Mc}
def InS.stopAt {n c:Int} {z:Str} (h:InS S LN L pl mn_ my b k s M) (hS:Lx.E "stop" YO) (hc:M.cut=Z c) (hz:zU M.fq (.inl c)=Z (.str z)):∃ M',Step Lx [.str "stop",.int n] M M'/\M'.rq_=Z (n,b+c,z)/\M'.cells=s.1/\M'.tq=s.2:=by
 have e:YO [.str "stop",.int n] M=Z { M with rq_:=Z (n,M.base+c,z) }:=by
  unfold YO;rw [hc];show (match zU M.fq (.inl c) with | some (V.str z)=>_ | _=>_)=_;rw [hz]
 exact ⟨_,Step.eff (word:="stop") hS rfl e h.ok,by show Z (n,M.base+c,z)=_;rw [h.base],h.cells,h.tq⟩
end
def size_iff {mn_ side:Int} (h1:1<=mn_) (h2:1<=side):∃ N:Nat,pY 0 mn_ side=N/\∀ i:Nat,i<N↔(i:Int)*side<mn_:=by
 have e:pY 0 mn_ side=(mn_-0-1) / side+1:=by
  unfold pY;rw [if_pos (show side > 0 by omega),if_pos (by omega)]
 have nn:0<=(mn_-0-1) / side:=Int.ediv_nonneg (by omega) (by omega);refine ⟨((mn_-0-1) / side+1).toNat,by rw [e];omega,λi=>?_⟩;have k:=Int.le_ediv_iff_mul_le (a:=(i:Int)) (b:=mn_-0-1) (show 0<side by omega);constructor
 .intro z
  have:=k.mp (by omega);omega
 .intro z
  have:=k.mpr (by omega);omega
theorem yN:∀ (ns:J6) (r:Nat),(∀ v∈ns,0<=v)->0<=(ns.take r).sum/\(ns.take r).sum<=ns.sum
 | [],r,_=>by rw [List.take_nil];exact ⟨tm _,tm _⟩
 | n::ns,0,h=>by
  have:=(yN ns 0 λv hv=>h v (q6y _ hv));have h0:=h n q6z;rw [List.take_zero,List.sum_nil] at this ⊢;rw [tU];omega
 | n::ns,r+1,h=>by
  have:=(yN ns r λv hv=>h v (q6y _ hv));have h0:=h n q6z;rw [List.take_succ_cons,tU,tU];omega
def YN (ns:J6) (r:Nat) (h:r<ns.length):(ns.take (r+1)).sum=(ns.take r).sum+ns.getD r 0:=by
 rw [nY,q6x,m6 h,List.sum_append];show _+(ns[r]+0)=_+ns[r];omega
def zd1 {ns:J6} {r:Nat} {m:Int} (hv:∀ v∈ns,0<=v) (h:r<ns.length) (hm:m<=ns.getD r 0):0<=(ns.take r).sum/\(ns.take r).sum+m<=ns.sum:=by
 have a:=yN ns r hv;have b:=yN ns (r+1) hv;rw [YN ns r h] at b;omega
def Yy {ns:J6} {r:Nat} (h:r<ns.length):(zG ns).getD r 0=(ns.take r).sum:=by
 unfold zG;rw [q6x,mJ,List.getElem?_range h];rfl
def YV (ns:J6):(zG ns).length=ns.length:=by unfold zG;rw [Je,pf]
def yd {B:Hp} {cs os:Jc} {code one:List (Jj)} (h:CodeAt B cs code) (h2:CodeAt B os one):CodeAt B (cs++os) (code++one):=by
 refine ⟨by rw [Jf,Jf,h.n,h2.n],λt b tv hx hy=>?_⟩;by_cases z:t<cs.length
 .rw [q9x z] at hx
  rw [q9x (by rw [← h.n];exact z)] at hy;exact h.t t b tv hx hy
 .rw [oh (by omega)] at hx
  rw [oh (by rw [← h.n];omega),← h.n] at hy;exact h2.t _ b tv hx hy
theorem zdn (g:Int->V) {j:Int}:∀ (js:J6) (mo:Jh),(j∈js∨zU mo (.inl j)=Z (g j))->zU (putAll mo (js.map λj=>((.inl j:Key),g j))) (.inl j)=Z (g j)
 | [],mo,h=>by
  rcases h with h | h
  .cases h
  .exact h
 | i::js,mo,h=>by
  show zU (putAll (xa mo (.inl i) (g i)) _) _=_;refine zdn g js _ ?_;by_cases e:j=i
  .right;rw [xU,e,if_pos rfl]
  .rcases h with h | h
   .rcases mM.mp h with h | h
    .exact absurd h e
    .exact .inl h
   .right
    rw [xU,if_neg (λz=>e (Sum.inl.inj z))];exact h
def told_memO (g:Int->Option Int) {js:J6} {j:Int} (h:j∈js):zU (xv js (js.map g)) (.inl j)=Z (oV (g j)):=by
 have e:(js.map tS).zip ((js.map g).map oV)=js.map λj=>((.inl j:Key),oV (g j)):=by
  rw [oP,List.zip_map'];rfl
 unfold xv;rw [e];exact zdn (λj=>oV (g j)) js [] (.inl h)
structure Kp (M N:Mc):Prop where
 w:N.wq=M.wq
 cut:N.cut=M.cut
 mq:N.mq=M.mq
 slots:N.slots=M.slots
 cq:N.cq=M.cq
 raised:N.raised=M.raised
 turns:N.turns=M.turns
 pq:N.pq=M.pq
 picks:N.picks=M.picks
section
variable {Lx:Lex} {S LN:J6} {L pl k:Nat} {mn_ my b:Int} {s:DT} {M:Mc}
def InS.seatO {word:Str} {f:FnM} {tv:Jj} {p m:Nat} {T':List Tch} {F':Jh} {g:Int->Option Int} (h:InS S LN L pl mn_ my b k s M) (hS:Lx.S word f) (h0:tv[0]?=Z (.str word)) (h1:tv[1]?=Z (.int p)) (hl:tv.getLast?=Z (.int m)) (p8:((p:Int)+1)*my<=8) (m16:m<16)
  (ef:f tv M (M.act m)=Z ({ M with tq:=M.tq++T',fq:=F' },(M.act m).map g)) :
  ∃ M',Step Lx tv M M'/\InS S LN L pl mn_ my b (k+1) (s.1,s.2++T') M'/\(Kp M M'/\M'.fq=F')/\(∀ j∈M.act m,∀ v,g j=Z v->M'.nq p j=v)/\(∀ (p':Nat) (j:Int),p'≠p->0<=j->j<my*L->M'.nq p' j=M.nq p' j):=by
 have l1:=h.ok.l1;have hg:=h.ok.g;have w0:=h.ok.w0;have w1:=h.ok.w1;have hL:=h.lq;have hG:=h.group;have g1:1<=my:=by rw [← hG];omega
 generalize hN0:({ M with tq:=M.tq++T',fq:=F' }:Mc)=N0 at ef
 have ese:seatM f tv M=Z (N0.laidSeat (xv (M.act m) ((M.act m).map g)) p):=by
  unfold seatM;rw [h1,hl];show (if _ then _ else _)=_;rw [if_pos ⟨by omega,by rw [hG];exact p8,by omega,by omega⟩,q0z,q0z,ef];rfl
 have st1:=Step.seat hS h0 ese h.ok;unfold Mc.laidSeat at st1;have gN0:N0.group=M.group:=by rw [← hN0]
 have lN0:N0.lq=M.lq:=by rw [← hN0]
 have rm:N0.room=(my*(L:Int)).toNat:=by unfold Mc.room;rw [gN0,lN0,hG,hL]
 have hin:∀ t:Nat,t<N0.room->0<=(p:Int)*N0.group*N0.lq+t/\((p:Int)*N0.group*N0.lq+t).toNat<N0.nums.length:=λt ht=>by
  rw [gN0,lN0];rw [rm] at ht;have:=zcj hg (show (1:Int)<=M.lq by omega) (show (0:Int)<=p by omega) (by rw [hG];exact p8) (show (0:Int)<=t by omega) (by rw [hG,hL];omega);have e:N0.nums.length=8*M.lq:=by rw [← hN0];exact h.ok.nl
  rw [e];omega
 have eN:=layTo_is (xv (M.act m) ((M.act m).map g)) p N0 N0.room;have hlen:=(N0.layTo_same (xv (M.act m) ((M.act m).map g)) p N0.room).n
 have hat:∀ j∈M.act m,∀ v,g j=Z v->(N0.layTo (xv (M.act m) ((M.act m).map g)) p N0.room).nq p j=v:=λj hj v hv=>by
  have a:=h.mem hj;obtain ⟨jn,rfl⟩:∃ n:Nat,j=n:=⟨j.toNat,by omega⟩;exact layTo_at _ p _ _ jn _ (by rw [rm];omega) hin (by rw [told_memO g hj,hv];rfl)
 have hoff:∀ (p':Nat) (j:Int),p'≠p->0<=j->j<my*L->(N0.layTo (xv (M.act m) ((M.act m).map g)) p N0.room).nums.getD ((p':Int)*my*L+j).toNat 0=M.nums.getD ((p':Int)*my*L+j).toNat 0:=λp' j ne j0 j1=>by
  have:=layTo_off (xv (M.act m) ((M.act m).map g)) p N0 N0.room ((p':Int)*my*L+j).toNat λt ht z=>by
   have t2:=hin t ht;rw [rm] at ht;rw [gN0,lN0,hG,hL] at z t2;have ap:=zdr (p:=(p:Int)) (q:=(p':Int)) (L:=(L:Int)) g1 (by omega) (λy=>ne (by omega)) j0 j1 (show (0:Int)<=t by omega) (by omega);have pos:0<=(p':Int)*my*L:=sr (sr (by omega) (by omega)) (by omega);omega
  rw [this,← hN0]
 generalize N0.layTo (xv (M.act m) ((M.act m).map g)) p N0.room=N at *
 have eN1:({ N with pc:=N.pc+1 }:Mc)={ M with nums:=N.nums,dq:=N.dq,tq:=M.tq++T',fq:=F',pc:=((pl+(k+1):Nat):Int) }:=by
  have e2:N.pc+1=((pl+(k+1):Nat):Int):=by rw [eN,← hN0];show M.pc+1=_;rw [h.pc];omega
  rw [e2,eN,← hN0]
 have gN:N.group=M.group:=by rw [eN];exact gN0
 have lN:N.lq=M.lq:=by rw [eN];exact lN0
 rw [eN1] at st1;refine ⟨_,st1,⟨⟨h.ok.l1,h.ok.l64,h.ok.g,?_,h.ok.ml,h.ok.mm,w0,w1⟩,h.wle,h.bq,h.base,Y,h.oq,h.mn_,hG,hL,h.rf,h.starts,h.lens,h.cells,?_⟩,⟨⟨Y,Y,Y,Y,Y,Y,Y,Y,Y⟩,Y⟩,λj hj v hv=>?_,λp' j ne j0 j1=>?_⟩
 .show N.nums.length=_
  rw [hlen,← hN0];exact h.ok.nl
 .show M.tq++T'=_
  rw [h.tq]
 .have:=hat j hj v hv
  unfold Mc.nq at this ⊢;rw [gN,lN] at this;exact this
 .have:=hoff p' j ne j0 j1
  unfold Mc.nq;show N.nums.getD ((p':Int)*M.group*M.lq+j).toNat 0=M.nums.getD ((p':Int)*M.group*M.lq+j).toNat 0;rw [hG,hL];exact this
def InS.loadO {r p m:Nat} (h:InS S LN L pl mn_ my b k s M) (hS:Lx.S "load" YS) (p8:((p:Int)+1)*my<=8) (m16:m<16) (hr:r<S.length) (b0:0<=b) (ir:0<=S.getD r 0/\S.getD r 0+mn_<=s.1.length) (ht:s.2.length+(M.act m).length<100000) :
  ∃ M',Step Lx [.str "load",.int p,.int r,.int m] M M'/\InS S LN L pl mn_ my b (k+1) (s.1,s.2++((M.act m).map (b+·)).map λe=>(((pl+k:Nat):Int),("read":Str),S.getD r 0+e)) M'/\(Kp M M'/\M'.fq=M.fq)/\(∀ j∈M.act m,M'.nq p j=s.1.getD (S.getD r 0+(b+j)).toNat 0)/\(∀ (p':Nat) (j:Int),p'≠p->0<=j->j<my*L->M'.nq p' j=M.nq p' j):=by
 have et:M.tq++(M.act m).map (λj=>(M.pc,("read":Str),M.adr r (M.base+j)))=M.tq++((M.act m).map (b+·)).map λe=>(((pl+k:Nat):Int),("read":Str),S.getD r 0+e):=by
  congr 1;rw [oP];refine pR λj hj=>?_;show (M.pc,("read":Str),M.starts.getD r 0+(M.base+j))=(_,_,S.getD r 0+(b+j));rw [h.starts,h.base,h.pc]
 have ef:YS [.str "load",.int p,.int r,.int m] M (M.act m)=Z ({ M with tq:=M.tq++((M.act m).map (b+·)).map λe=>(((pl+k:Nat):Int),("read":Str),S.getD r 0+e),fq:=M.fq },(M.act m).map λj=>Z (s.1.getD (S.getD r 0+(b+j)).toNat 0)):=by
  unfold YS;refine (if_pos ?_).trans ?_
  .rw [q0z,h.tq]
   refine ⟨by omega,⟨by rw [h.starts];exact hr,λj hj=>?_⟩,ht⟩;have:=h.mem hj;unfold Mc.adr;rw [h.starts,h.cells,h.base];omega
  .rw [q0z]
   unfold Mc.reads;rw [et];congr 2;refine pR λj hj=>?_;unfold Mc.valAt Mc.adr;rw [h.starts,h.cells,h.base]
 obtain ⟨M',st,i,w,n,o⟩:=h.seatO (tv:=[.str "load",.int p,.int r,.int m]) hS rfl rfl rfl p8 m16 ef;exact ⟨M',st,i,w,λj hj=>n j hj _ rfl,o⟩
def InS.storeO {q p m:Nat} {F:Int->Int} (h:InS S LN L pl mn_ my b k s M) (hS:Lx.E "store" xI) (p8:((p:Int)+1)*my<=8) (m16:m<16) (hq:q<S.length) (b0:0<=b) (iq:0<=S.getD q 0/\S.getD q 0+mn_<=s.1.length) (ht:s.2.length+(M.act m).length<100000) (hn:∀ j∈M.act m,M.nq p j=F (b+j)) :
  ∃ M',Step Lx [.str "store",.int q,.int p,.int m] M M'/\InS S LN L pl mn_ my b (k+1) (z7 s.1 (((M.act m).map (b+·)).map λe=>(S.getD q 0+e,F e)),s.2++((M.act m).map (b+·)).map λe=>(((pl+k:Nat):Int),("write":Str),S.getD q 0+e)) M'/\(Kp M M'/\M'.fq=M.fq)/\(∀ (p':Nat) (j:Int),M'.nq p' j=M.nq p' j):=by
 have est:xI [.str "store",.int q,.int p,.int m] M=Z (M.puts q ((M.act m).map λj=>(M.base+j,M.nq p j))):=by
  unfold xI;refine (if_pos ?_).trans ?_
  rotate_left
  .rw [q0z,q0z];rfl
  .show _/\_/\_/\_/\_/\rowIn M (Int.toNat q) (M.act (Int.toNat m))/\_+(M.act (Int.toNat m)).length<_
   rw [q0z,q0z,h.group,h.tq];refine ⟨by omega,by omega,p8,by omega,by omega,⟨by rw [h.starts];exact hq,λj hj=>?_⟩,ht⟩;have:=h.mem hj;unfold Mc.adr;rw [h.starts,h.cells,h.base];omega
 have st:=Step.eff (word:="store") hS rfl est h.ok;obtain ⟨pi1,pi2⟩:=M.puts_is q ((M.act m).map λj=>(M.base+j,M.nq p j))
 have ec:(M.puts q ((M.act m).map λj=>(M.base+j,M.nq p j))).cells=z7 s.1 (((M.act m).map (b+·)).map λe=>(S.getD q 0+e,F e)):=by
  rw [zfe,h.cells];congr 1;rw [oP,oP];refine pR λj hj=>?_;show (M.starts.getD q 0+(M.base+j),M.nq p j)=(S.getD q 0+(b+j),F (b+j));rw [h.starts,h.base,hn j hj]
 have et:M.tq++((M.act m).map λj=>(M.base+j,M.nq p j)).map (λp=>(M.pc,("write":Str),M.adr q p.1))=s.2++((M.act m).map (b+·)).map λe=>(((pl+k:Nat):Int),("write":Str),S.getD q 0+e):=by
  rw [h.tq];congr 1;rw [oP,oP];refine pR λj hj=>?_;show (M.pc,("write":Str),M.starts.getD q 0+(M.base+j))=(_,_,S.getD q 0+(b+j));rw [h.starts,h.base,h.pc]
 rw [ec,et] at pi1;generalize M.puts q ((M.act m).map λj=>(M.base+j,M.nq p j))=N at *;subst pi1;refine ⟨_,st,⟨{h.ok with},h.wle,h.bq,h.base,?_,h.oq,h.mn_,h.group,h.lq,h.rf,h.starts,h.lens,Y,Y⟩,⟨⟨Y,Y,Y,Y,Y,Y,Y,Y,Y⟩,Y⟩,λ_ _=>rfl⟩;show M.pc+1=_;rw [h.pc];omega
end
def zb0 (f:Jh) (j:Int):j∈Yn f↔(zU f (.inl j)).isSome=true:=by
 induction f with
 | nil=>exact ⟨(λh=>by cases h),(λh=>by cases h)⟩
 | cons p f ih =>
  obtain ⟨k,v⟩:=p;by_cases e:k=.inl j
  .rw [yC (p:=(k,v)) e]
   subst e;exact ⟨λ_=>rfl,λ_=>q6z⟩
  .rw [yD (p:=(k,v)) e,← ih]
   cases k with
   | inl i =>
    show j∈i::Yn f↔_;refine ⟨λh=>?_,λh=>q6y _ h⟩;rcases mM.mp h with h | h
    .exact absurd (by rw [h]) e
    .exact h
   | inr _=>exact Iff.rfl
def zel {f:Jh} (h:ZW f) (j:Int) (v:V):ZW (xa f (.inl j) v):=by
 unfold xa
 split
 .intro p hp
  obtain ⟨q,hq,rfl⟩:=o9.mp hp;obtain ⟨i,hi⟩:=h q hq;refine ⟨i,?_⟩
  split
  .exact hi
  .exact hi
 .intro p hp
  rcases oO.mp hp with hp | hp
  .exact h p hp
  .cases mV.mp hp;exact ⟨j,Y⟩
def Mc.opOne (M:Mc) (sg:Str) (a b lane:Int):Mc×Option Int:=match doneR sg a b with
 | some r=>(M,Z r)
 | none=>({ M with fq:=xa M.fq (.inl lane) (.str "nought") },O)
def Mc.opOne_is (M:Mc) (sg:Str) (a b lane:Int):(M.opOne sg a b lane).1={ M with fq:=(M.opOne sg a b lane).1.fq }/\(M.opOne sg a b lane).1.fq.length<=M.fq.length+1:=by
 unfold Mc.opOne
 split
 .exact ⟨Y,Nat.le_succ _⟩
 .exact ⟨Y,xp _ _ _⟩
def Mc.opAll (sg:Str):List (Int×Int×Int)->Mc->Mc×List (Option Int)
 | [],M=>(M,[])
 | p::ps,M=>let x:=M.opOne sg p.1 p.2.1 p.2.2;let y:=Mc.opAll sg ps x.1;(y.1,x.2::y.2)
theorem Mc.opAll_snoc (sg:Str) (p:Int×Int×Int):∀ (ps:List (Int×Int×Int)) (M:Mc),Mc.opAll sg (ps++[p]) M=(((Mc.opAll sg ps M).1.opOne sg p.1 p.2.1 p.2.2).1,(Mc.opAll sg ps M).2++[((Mc.opAll sg ps M).1.opOne sg p.1 p.2.1 p.2.2).2])
 | [],M=>rfl
 | q::ps,M=>by
  show ((Mc.opAll sg (ps++[p]) _).1,_::(Mc.opAll sg (ps++[p]) _).2)=_;rw [Mc.opAll_snoc sg p ps];rfl
theorem Mc.opAll_is (sg:Str):∀ (ps:List (Int×Int×Int)) (M:Mc),(Mc.opAll sg ps M).1={ M with fq:=(Mc.opAll sg ps M).1.fq }/\(Mc.opAll sg ps M).1.fq.length<=M.fq.length+ps.length/\(Mc.opAll sg ps M).2.length=ps.length
 | [],M=>⟨Y,m8 _,Y⟩
 | p::ps,M=>by
  obtain ⟨a1,a3⟩:=M.opOne_is sg p.1 p.2.1 p.2.2;obtain ⟨b1,b3,b4⟩:=Mc.opAll_is sg ps (M.opOne sg p.1 p.2.1 p.2.2).1;refine ⟨?_,?_,?_⟩
  .show (Mc.opAll sg ps (M.opOne sg p.1 p.2.1 p.2.2).1).1={ M with fq:=(Mc.opAll sg ps (M.opOne sg p.1 p.2.1 p.2.2).1).1.fq }
   rw [b1];rw [a1]
  .show (Mc.opAll sg ps (M.opOne sg p.1 p.2.1 p.2.2).1).1.fq.length<=_
   rw [q8x];omega
  .show (_::(Mc.opAll sg ps _).2).length=_
   rw [q8x,b4];rfl
open Classical in
noncomputable def opM:FnM:=λtv M js=>match (tv[2]?:Jk),(tv[3]?:Jk),(tv[4]?:Jk) with
 | some (V.str sg),Z (V.int p),Z (V.int p')=>if sg∈signs/\0<=p/\(p+1)*M.group<=8/\0<=p'/\(p'+1)*M.group<=8/\M.fq.length<90000/\∀ j∈js,Kin (M.nq p.toNat j)/\Kin (M.nq p'.toNat j) then Z (Mc.opAll sg (js.map λj=>(M.nq p.toNat j,M.nq p'.toNat j,j)) M) else O
 | _,_,_=>O
def zc6 {tv:Jj} {M M':Mc} {js:J6} {ns:List (Option Int)} (h:opM tv M js=Z (M',ns)):∃ (sg:Str) (p p':Nat),tv[2]?=Z (.str sg)/\tv[3]?=Z (.int p)/\tv[4]?=Z (.int p')/\sg∈signs/\((p:Int)+1)*M.group<=8/\((p':Int)+1)*M.group<=8/\M.fq.length<90000/\(∀ j∈js,Kin (M.nq p j)/\Kin (M.nq p' j))/\M'=(Mc.opAll sg (js.map λj=>(M.nq p j,M.nq p' j,j)) M).1/\ns=(Mc.opAll sg (js.map λj=>(M.nq p j,M.nq p' j,j)) M).2:=by
 unfold opM at h
 split at h
 .rename_i sg p p' e1 e2 e3
  split at h
  .rename_i hc
   obtain ⟨hs,p0,p8,q0,q8,hf,hk⟩:=hc;have h:=nR h;exact ⟨sg,p.toNat,p'.toNat,e1,by rw [e2];congr 2;omega,by rw [e3];congr 2;omega,hs,by rw [oA p0];exact p8,by rw [oA q0];exact q8,hf,hk,by rw [h],by rw [h]⟩
  .cases h
 .cases h
def opM_ok:FnMOk opM where
 ok:=λ{tv M js M' ns} h ok=>by
  obtain ⟨sg,p,p',_,_,_,_,_,_,_,_,rfl,_⟩:=zc6 h;rw [(Mc.opAll_is sg (js.map λj=>(M.nq p j,M.nq p' j,j)) M).1];exact {ok with}
 g:=λ{tv M js M' ns} h=>by
  obtain ⟨sg,p,p',_,_,_,_,_,_,_,_,rfl,_⟩:=zc6 h;rw [(Mc.opAll_is sg (js.map λj=>(M.nq p j,M.nq p' j,j)) M).1]
 n:=λ{tv M js M' ns} h=>by
  obtain ⟨sg,p,p',_,_,_,_,_,_,_,_,_,rfl⟩:=zc6 h;rw [(Mc.opAll_is sg (js.map λj=>(M.nq p j,M.nq p' j,j)) M).2.2,Je]
inductive spOp (c:MCs) (vs:Jj) (H:Hp) (Q:VK) (_:XK):Prop
 | mk (B:Hp) (A:Ma) (M:Mc) (R:Ji) (sg:Str) (a b lane:Int) (_:vs=[.ref A.b,.str sg,.int a,.int b,.int lane]) (_:MAt c B A M R H) (_:sg∈signs) (_:Kin a) (_:Kin b) (_:M.fq.length<100000) (_:∀ B' A' H',Same B B'->A'.b=A.b->MAt c B' A' (M.opOne sg a b lane).1 R H'->Q (oV (M.opOne sg a b lane).2) H')
def ok_opOne {c:MCs} {CN:Ad} (d:zk K mg "number_joined" xi qR) (CC:MCls K c) (hN:mg "ByNought"=Z (.ref CN)) (xm:PySem.W.exmOne K (.ref CN) (.ref CN)=Z true) (DN:Ok P w K mg base (CXe P w base) 3 "done" Ul (spDone CN)):Ok P w K mg base CX0 4 "number_joined" qR (spOp c):=by
 refine oDf d Xv λg mx A _ s H vs Q E hr h=>?_;obtain ⟨B,A,M,R,sg,a,b',lane,rfl,m,hs,ka,kb,hf,q⟩:=h;have hu:=nk (o8 (show 1<=64 by decide) _) hr.units;have hr3:=hr;have CN':=CC.n;have SL:(200000:Nat)<sizeLine:=by decide
 refine ⟨_,(zd (ps_try (t:=λR=>tRet (zbu (spDone CN) [] (XE R) (zad (tVar 1) (zad (tVar 2) (zad (tVar 3) tNil))))) rfl rfl (by intro mn σ₀ R ok;exact ps1_ret (pe1_ok (E:=XE R) DN hr3 rfl (pass_tr (mn:=mn) (σ₀:=σ₀) ok) (zb (pv 1) (zb (pv 2) (zb (pv 3) zc))))) (ph_no rfl rfl hN (λe=>(zf (ps_dput hu (zi (pv 0) rfl) (pv 4) zP rfl))) ph_nil))
   (zf (zm xB))),?_⟩
 refine ⟨λC H'=>C=CN/\doneR sg a b'=O/\H'=H,?_,?_⟩
 .refine ⟨_,Y,_,Y,_,Y,sg,a,b',Y,hs,ka,kb,λr er=>?_,λer=>⟨CN,Y,Y,er,Y⟩⟩
  have e:M.opOne sg a b' lane=(M,Z r):=by unfold Mc.opOne;rw [er]
  rw [e] at q;exact q B A H (Same.refl _) rfl m
 .rintro e C H' ne ⟨rfl,er,rfl⟩
  have e':M.opOne sg a b' lane=({ M with fq:=xa M.fq (.inl lane) (.str "nought") },O):=by unfold Mc.opOne;rw [er]
  rw [e'] at q;refine ⟨true,xm,?_⟩;rw [if_pos rfl];have m2:=m.grow (o:=excO e C) ne;have s2:Same B (upd B e (excO e C)):=zu (Same.refl _) (m.h.free ne);exact ⟨_,Y,A.b,_,_,_,.ref A.aF,Y,m2.b,CN'.c,CN'.fq,Y,_,Y,A.aF,_,Y,DPut.k (k:=.inl lane) (m2.h.get 7 rfl) (by omega),q _ A _ s2 rfl (m2.putFault _)⟩
def ok_op {c:MCs} (d:zk K mg "numbers_joined" yY qE) (hzip:mg "zip"=O) (CC:MCls K c) (NI:OkM P w K mg base CX0 3 c.bn "numbers_in" qQ (spNums c K)) (NJ:Ok P w K mg base CX0 4 "number_joined" qR (spOp c)):Ok P w K mg base CX0 5 "numbers_joined" qE (spFn c opM):=by
 refine oDf d sc_numbers_joined λg mx A _ s H vs Q E hr h=>?_;obtain ⟨B,A,M,R,st,aa,tv,js,M',ns,rfl,m,es,ea,ef,ok,hj,hl,q⟩:=h;obtain ⟨sg,p,p',e2,e3,e4,hs,p8,p8',hf,hk,rfl,rfl⟩:=zc6 ef;have nd:=sc_numbers_joined.nd;have hr4:=hr;have hr3:Room 3 _:=hr.mono (by decide);have CN:=CC.n;have SL:(3000:Nat)<sizeLine:=by decide
 let pr:Int->Int×Int×Int:=λj=>(M.nq p j,M.nq p' j,j);refine ⟨_,(zd (oRz 3 nd (zX NI CC.n.c hr3 zo (pv 0) (zb (zv zF (pv 1) zg (λ_ _=>rfl)) (zb (pv 2) zc))))
   (zd (oRz 4 nd (zX NI CC.n.c hr3 zo (pv 0) (zb (zv zF (pv 1) zg (λ_ _=>rfl)) (zb (pv 2) zc))))
   (zf (zm (xZ qY [O,O,O,Z 0,Z 1] rfl rfl rfl (pi_zip3 rfl hzip (zb (pv 3) (zb (pv 4) (zb (pv 2) zc)))) (λs3 H3 fp=>⟨zcz (K:=K) (n:=3) rfl rfl (yF (oQz 0 (Jl qY)) (yF (oQz 1 (Jl qY)) (yF (oQz 2 (Jl qY)) Xg))),(zD NJ hr4 (by rfl) zo (zb (pv 3) (zb (zv (zdb (K:=K) rfl) (pv 4) zg (λ_ _=>rfl)) (zb (pv 0) (zb (pv 1) (zb (pv 2) zc))))))⟩)))))),?_⟩
 refine ⟨_,Y,A.b,_,_,Y,m.b,Y,_,Y,st,_,_,_,Y,Y,SqT.of (m.h.sm _ _ es),zB (j:=3) e3,_,Y,B,A,M,R,p,aa,js,Y,m,ok,p8,ea,hj,hl,λB1 H1 x1 s1 m1 ex1=>?_⟩;refine ⟨_,Y,A.b,_,_,Y,m1.b,Y,_,Y,st,_,_,_,Y,Y,SqT.of (m1.h.sm _ _ (s1 _ _ es)),zB (j:=4) e4,_,Y,B1,A,M,R,p',aa,js,Y,m1,ok,p8',s1 _ _ ea,hj,hl,λB2 H2 x2 s2 m2 ex2=>?_⟩;have s12:=s1.trans s2;have ex1':=s2 _ _ ex1;have ea2:=s12 _ _ ea;refine ⟨_,Y,_,Y,_,Y,x1,x2,aa,Y,⟨_,SqL.of (m2.h.sm _ _ ex1')⟩,⟨_,SqL.of (m2.h.sm _ _ ex2)⟩,⟨_,SqL.of (m2.h.sm _ _ ea2)⟩,_,Y,λD nD=>?_⟩;have m0:MAt c B2 A (Mc.opAll sg ((js.take 0).map pr) M).1 ((D,.lst ((Mc.opAll sg ((js.take 0).map pr) M).2.map oV))::R) (upd H2 D (.lst [])):=m2.newR nD;generalize upd H2 D (.lst [])=H3 at m0 ⊢;refine zb7 (K:=K) (xs:=(js.map (M.nq p)).map V.int) (ys:=(js.map (M.nq p')).map V.int) (zs:=js.map V.int) (λi σ J=>∃ (u0 u1 u2:Jk) (B3:Hp) (A3:Ma),σ=[u0,u1,u2,rq A.b,rq st]/\Same B2 B3/\A3.b=A.b/\MAt c B3 A3 (Mc.opAll sg ((js.take i).map pr) M).1 ((D,.lst ((Mc.opAll sg ((js.take i).map pr) M).2.map oV))::R) J) ⟨O,O,O,B2,A,Y,Same.refl _,Y,m0⟩ (λi σ J _ ⟨_,_,_,B3,A3,_,s3,_,m3⟩=>⟨SqL.of (m3.h.sm _ _ (s3 _ _ ex1')),SqL.of (m3.h.sm _ _ (s3 _ _ ex2)),SqL.of (m3.h.sm _ _ (s3 _ _ ea2))⟩) (by rw [Je,Je,Je,Je]) (by rw [Je,Je,Je]) ?_ ?_
 .clear m0
  rintro i x y z σ J T hx hy hz ⟨u0,u1,u2,B3,A3,rfl,s3,eb,m3⟩ nT;obtain ⟨j,e9,rfl⟩:=xl hz;have hlt:i<js.length:=(mF.mp e9).1;obtain ⟨a1,e10,rfl⟩:=xl hx;obtain ⟨a2,e11,rfl⟩:=xl hy;rw [mJ,e9] at e10 e11;cases e10;cases e11;have hkj:=hk j (mP e9);have m4:=m3.grow (o:=.tup [.int (M.nq p j),.int (M.nq p' j),.int j]) nT;have s4:Same B3 (upd B3 T (.tup [.int (M.nq p j),.int (M.nq p' j),.int j])):=zu (Same.refl _) (m3.h.free nT);have e5:upd B3 T (.tup [.int (M.nq p j),.int (M.nq p' j),.int j]) T=Z (.tup [.int (M.nq p j),.int (M.nq p' j),.int j]):=zh;generalize upd J T (.tup [.int (M.nq p j),.int (M.nq p' j),.int j])=J4 at m4 ⊢;generalize upd B3 T (.tup [.int (M.nq p j),.int (M.nq p' j),.int j])=B4 at m4 s4 e5;obtain ⟨i1,i3,i4⟩:=Mc.opAll_is sg ((js.take i).map pr) M;have et:(js.take (i+1)).map pr=(js.take i).map pr++[pr j]:=by rw [nY,e9,Jg];rfl
  rw [et,Mc.opAll_snoc];rw [Je,ny] at i3 i4;have sq:SqT K J4 st tv:=SqT.of (m4.h.sm _ _ (s4 _ _ (s3 _ _ (s12 _ _ es))));generalize Mc.opAll sg ((js.take i).map pr) M=X at *;obtain ⟨MX,nX⟩:=X;have i3:MX.fq.length<=M.fq.length+min i js.length:=i3;have i4:nX.length=min i js.length:=i4;refine ⟨T,_,Y,SqT.of (m4.h.sm _ _ e5),Y,_,_,Y,_,_,Y,_,_,Y,Y,?_⟩;refine ⟨_,Y,_,Y,st,_,_,_,Y,Y,sq,zB (j:=2) e2,_,Y,_,Y,_,Y,B4,A3,MX,_,sg,M.nq p j,M.nq p' j,j,by rw [eb];rfl,m4,hs,hkj.1,hkj.2,by omega,λB5 A5 H5 s5 eb5 m5=>?_⟩;refine ⟨_,m5.getR,(by rw [Je];omega),_,_,_,B5,A5,Y,(s3.trans s4).trans s5,eb5.trans eb,?_⟩;rw [Jg];exact m5.putR
 .rintro σ J ⟨u0,u1,u2,B3,A3,rfl,s3,eb,m3⟩
  rw [Je,Je,oa] at m3;have nb:B3 D=O:=m3.h.nw (D,_) (mP atR);exact q _ A3 J D ((s12.trans s3).trans (zu (Same.refl _) nb)) eb m3.settle zh
def Xl (z:Str) (fs:Jh) (js:J6):Jh:=js.foldl (λf j=>xa f (.inl j) (.str z)) fs
theorem zd6 (sg:Str) (F G:Int->Int):∀ (js:J6) (M:Mc),Mc.opAll sg (js.map λj=>(F j,G j,j)) M=({ M with fq:=Xl "nought" M.fq (js.filter λj=>(doneR sg (F j) (G j)).isNone) },js.map λj=>doneR sg (F j) (G j))
 | [],M=>rfl
 | j::js,M=>by
  show ((Mc.opAll sg (js.map λj=>(F j,G j,j)) (M.opOne sg (F j) (G j) j).1).1,(M.opOne sg (F j) (G j) j).2::(Mc.opAll sg (js.map λj=>(F j,G j,j)) (M.opOne sg (F j) (G j) j).1).2)=_;rw [zd6 sg F G js]
  cases e:doneR sg (F j) (G j) with
  | some r =>
   have e1:M.opOne sg (F j) (G j) j=(M,Z r):=by unfold Mc.opOne;rw [e]
   rw [e1,p7 (by rw [e];exact λz=>by cases z),o5,e]
  | none =>
   have e1:M.opOne sg (F j) (G j) j=({ M with fq:=xa M.fq (.inl j) (.str "nought") },O):=by unfold Mc.opOne;rw [e]
   rw [e1,pS (by rw [e];rfl),o5,e];rfl
theorem zb1 (z:Str):∀ (js:J6) (fs:Jh),(Xl z fs js).length<=fs.length+js.length
 | [],fs=>m8 _
 | j::js,fs=>by
  have a:=zb1 z js (xa fs (.inl j) (.str z));have b:=xp fs (.inl j:Key) (.str z);show (Xl z (xa fs (.inl j) (.str z)) js).length<=_;rw [q8x];omega
section
variable {Lx:Lex} {S LN:J6} {L pl k:Nat} {mn_ my b:Int} {s:DT} {M:Mc}
def InS.op {p q r m:Nat} {sg:Str} {F G:Int->Int} (h:InS S LN L pl mn_ my b k s M) (hS:Lx.S "op" opM) (p8:((p:Int)+1)*my<=8) (q8:((q:Int)+1)*my<=8) (r8:((r:Int)+1)*my<=8) (m16:m<16) (sgn:sg∈signs) (hf:M.fq.length<90000) (hq:∀ j∈M.act m,M.nq q j=F (b+j)/\M.nq r j=G (b+j)) (hk:∀ j∈M.act m,Kin (F (b+j))/\Kin (G (b+j))) :
  ∃ M',Step Lx [.str "op",.int p,.str sg,.int q,.int r,.int m] M M'/\InS S LN L pl mn_ my b (k+1) s M'/\(Kp M M'/\M'.fq=Xl "nought" M.fq ((M.act m).filter λj=>(doneR sg (F (b+j)) (G (b+j))).isNone))/\(∀ j∈M.act m,∀ v,doneR sg (F (b+j)) (G (b+j))=Z v->M'.nq p j=v)/\(∀ (p':Nat) (j:Int),p'≠p->0<=j->j<my*L->M'.nq p' j=M.nq p' j):=by
 have ef:opM [.str "op",.int p,.str sg,.int q,.int r,.int m] M (M.act m)=Z ({ M with tq:=M.tq++[],fq:=Xl "nought" M.fq ((M.act m).filter λj=>(doneR sg (F (b+j)) (G (b+j))).isNone) },(M.act m).map λj=>doneR sg (F (b+j)) (G (b+j))):=by
  have e1:opM [.str "op",.int p,.str sg,.int q,.int r,.int m] M (M.act m)=Z (Mc.opAll sg ((M.act m).map λj=>(M.nq q j,M.nq r j,j)) M):=by
   unfold opM;refine (if_pos ?_).trans ?_
   .rw [q0z,q0z,h.group]
    exact ⟨sgn,by omega,q8,by omega,r8,hf,λj hj=>by rw [(hq j hj).1,(hq j hj).2];exact hk j hj⟩
   .rw [q0z,q0z]
  rw [e1];have e2:(M.act m).map (λj=>(M.nq q j,M.nq r j,j))=(M.act m).map λj=>(F (b+j),G (b+j),j):=pR λj hj=>by rw [(hq j hj).1,(hq j hj).2]
  rw [e2,zd6 sg (λj=>F (b+j)) (λj=>G (b+j)),q8y]
 obtain ⟨M',st,i,kp,n1,n2⟩:=h.seatO (word:="op") (p:=p) (m:=m) hS rfl rfl rfl p8 m16 ef;rw [q8y] at i;exact ⟨M',st,i,kp,n1,n2⟩
end
def mem_act {M:Mc} {m:Nat} {j:Int}:j∈M.act m↔0<=j/\j<M.wq/\(M.mq.getD m []).getD j.toNat false=true/\zU M.fq (.inl j)=O:=by
 unfold Mc.act Mc.actTo;rw [o9];constructor
 .rintro ⟨n,hn,rfl⟩
  obtain ⟨h1,h2⟩:=nI.mp hn;have h1:=nZ.mp h1;unfold Mc.isAct at h2;rw [oo] at h2;refine ⟨by omega,by omega,by rw [q0z];exact h2.1,?_⟩
  cases e:zU M.fq (.inl (n:Int)) with
  | none=>rfl
  | some v=>rw [e] at h2;exact absurd h2.2 nz
 .rintro ⟨h0,h1,h2,h3⟩
  refine ⟨j.toNat,nI.mpr ⟨nZ.mpr (by omega),?_⟩,by omega⟩;unfold Mc.isAct;rw [h2,oA h0,h3];rfl
def RowsAt (code:List (Jj)) (pl:Nat) (rs:List (Jj)):Prop:=∀ (i:Nat) tv,rs[i]?=Z tv->code[pl+i]?=Z tv
def RowsAt.left {code:List (Jj)} {pl:Nat} {a b:List (Jj)} (h:RowsAt code pl (a++b)):RowsAt code pl a:=λi tv e=>h i tv (by rw [q9x (mF.mp e).1];exact e)
def RowsAt.right {code:List (Jj)} {pl:Nat} {a b:List (Jj)} (h:RowsAt code pl (a++b)):RowsAt code (pl+a.length) b:=λi tv e=>by
 rw [rO];exact h _ tv (by rw [oh (by omega),Nat.add_sub_cancel_left];exact e)
def kd:Res->Option Str
 | .ok _=>O
 | .nought=>Z "nought"
 | .outside=>Z "outside"
def Yt {r:Res} (h:kd r=O):∃ v,r=.ok v:=by
 cases r with
 | ok v=>exact ⟨v,Y⟩
 | nought=>cases h
 | outside=>cases h
open Classical in
noncomputable def Zy (a:Prop) (r:Res) (old:Jk):Jk:=if a then (match kd r with
 | some z=>Z (.str z)
 | none=>old) else old
structure Kq (M M':Mc):Prop where
 w:M'.wq=M.wq
 cut:M'.cut=M.cut
 car:M'.cq=M.cq
 rs:M'.raised=M.raised
 tu:M'.turns=M.turns
 pq:M'.pq=M.pq
 pk:M'.picks=M.picks
def Kq.trans {M N O0_:Mc} (a:Kq M N) (b:Kq N O0_):Kq M O0_:=⟨b.w.trans a.w,b.cut.trans a.cut,b.car.trans a.car,b.rs.trans a.rs,b.tu.trans a.tu,b.pq.trans a.pq,b.pk.trans a.pk⟩
def Kp.q {M N:Mc} (a:Kp M N):Kq M N:=⟨a.w,a.cut,a.cq,a.raised,a.turns,a.pq,a.picks⟩
structure Wf (N:Nat) (T:List Tch) (M:Mc):Prop where
 t:T.length<=N
 f:M.fq.length<=N
 s:M.slots.length<=N
 ik:ZW M.fq
 i0:∀ j:Int,(zU M.fq (.inl j)).isSome=true->0<=j
 so:SlotsOk M
def Wf.mono {N N':Nat} {T:List Tch} {M:Mc} (h:Wf N T M) (l:N<=N'):Wf N' T M:=⟨mL h.t l,mL h.f l,mL h.s l,h.ik,h.i0,h.so⟩
structure Out (side:Int) (p mk lv s:Nat) (R:Int->Res) (M M':Mc):Prop where
 q:Kq M M'
 m:∀ m,m<2+2*lv->M'.mq.getD m []=M.mq.getD m []
 f:∀ j:Int,zU M'.fq (.inl j)=Zy (j∈M.act mk) (R j) (zU M.fq (.inl j))
 n:∀ j∈M.act mk,∀ v,R j=.ok v->M'.nq p j=v
 l:∀ q,q<p->∀ j:Int,0<=j->j<side->M'.nq q j=M.nq q j
 s:∀ t:Nat,t<s->∀ j:Int,0<=j->j<side->M'.slotN (M'.sad t j)=M.slotN (M.sad t j)
def Zx {a:Prop} {r:Res} {old:Jk} (h:kd r=O):Zy a r old=old:=by
 unfold Zy
 split
 .rw [h]
 .rfl
def yt {a:Prop} {r:Res} {old:Jk} (h:¬ a):Zy a r old=old:=if_neg h
def X6 {a:Prop} {r:Res} {old:Jk} {z:Str} (ha:a) (h:kd r=Z z):Zy a r old=Z (.str z):=by
 unfold Zy;rw [if_pos ha,h]
def Out.act {side:Int} {p mk lv s:Nat} {R:Int->Res} {M M':Mc} (h:Out side p mk lv s R M M') {m:Nat} (hm:m<2+2*lv) {j:Int}:j∈M'.act m↔j∈M.act m/\¬ (j∈M.act mk/\kd (R j)≠O):=by
 rw [mem_act,mem_act (M:=M) (m:=m),h.q.w,h.m m hm,h.f];constructor
 .rintro ⟨h0,h1,h2,h3⟩
  by_cases z:j∈M.act mk/\kd (R j)≠O
  .obtain ⟨z1,z2⟩:=z
   cases e:kd (R j) with
   | none=>exact absurd e z2
   | some x=>rw [X6 z1 e] at h3;cases h3
  .refine ⟨⟨h0,h1,h2,?_⟩,z⟩
   by_cases y:j∈M.act mk
   .rw [Zx (nA λw=>z ⟨y,w⟩)] at h3;exact h3
   .rw [yt y] at h3;exact h3
 .rintro ⟨⟨h0,h1,h2,h3⟩,z⟩
  refine ⟨h0,h1,h2,?_⟩;by_cases y:j∈M.act mk
  .rw [Zx (nA λw=>z ⟨y,w⟩)];exact h3
  .rw [yt y];exact h3
def Out.actS {side:Int} {p mk lv s:Nat} {R:Int->Res} {M M':Mc} (h:Out side p mk lv s R M M') (hm:mk<2+2*lv) {j:Int}:j∈M'.act mk↔j∈M.act mk/\kd (R j)=O:=by
 rw [h.act hm];constructor
 .rintro ⟨a,b⟩
  exact ⟨a,nA λw=>b ⟨a,w⟩⟩
 .rintro ⟨a,b⟩
  exact ⟨a,λw=>w.2 b⟩
def Out.seat {side:Int} {p mk lv s:Nat} {R:Int->Res} {M M':Mc} (kp:Kp M M') (hf:M'.fq=M.fq) (hc:M'.cells=M.cells/\M'.lq=M.lq) (hr:∀ j∈M.act mk,∃ v,R j=.ok v/\M'.nq p j=v) (ho:∀ (p':Nat) (j:Int),p'≠p->0<=j->j<side->M'.nq p' j=M.nq p' j):Out side p mk lv s R M M':=by
 refine ⟨kp.q,λm _=>by rw [kp.mq],λj=>?_,λj hj v e=>?_,λq hq j j0 j1=>ho q j (by omega) j0 j1,λt _ j _ _=>?_⟩
 .rw [hf]
  by_cases y:j∈M.act mk
  .obtain ⟨v,e,_⟩:=hr j y
   rw [Zx (by rw [e];rfl)]
  .rw [yt y]
 .obtain ⟨v',e',n⟩:=hr j hj
  rw [e] at e';cases e';exact n
 .unfold Mc.slotN Mc.sad
  rw [kp.slots,hc.1,hc.2]
structure Own (side:Int) (mk s:Nat) (ow:List Nat) (O0_:Int->J6) (M:Mc):Prop where
 lo:∀ t∈ow,t<s
 at':∀ j∈M.act mk,∀ (i t:Nat),ow[i]?=Z t->M.slotN (M.sad t j)=(O0_ j).getD i 0
def Own.next {side:Int} {p mk mk' lv s:Nat} {R:Int->Res} {M M':Mc} {ow:List Nat} {O0_:Int->J6} (h:Own side mk s ow O0_ M) (o:Out side p mk' lv s R M M') (hs:∀ j∈M'.act mk,j∈M.act mk/\0<=j/\j<side):Own side mk s ow O0_ M' :=
 ⟨h.lo,λj hj i t e=>by
  have a:=hs j hj;rw [o.s t (h.lo t (mP e)) j a.2.1 a.2.2];exact h.at' j a.1 i t e⟩
section
variable (Lx:Lex) (S LN:J6) (L pl:Nat) (mn_ my b:Int) (code:List (Jj)) (cs:J6)
def Zs (c:List (Jj)) (p mk lv s:Nat) (ow:List Nat) (O0_:Int->J6) (R:Int->Res):Prop:=∀ (k:Nat) (T:List Tch) (M:Mc) (N:Nat),InS S LN L pl mn_ my b k (cs,T) M->Wf N T M->N+c.length*wid mn_ (my*L) b<=80000->RowsAt code (pl+k) c->Own (my*L) mk s ow O0_ M->∃ n M' T',Steps Lx code n M M'/\InS S LN L pl mn_ my b (k+c.length) (cs,T') M'/\Wf (N+c.length*wid mn_ (my*L) b) T' M'/\Out (my*L) p mk lv s R M M'
end
section
variable {Lx:Lex} {S LN:J6} {L pl:Nat} {mn_ my b:Int} {code:List (Jj)} {cs:J6}
def InS.low {k:Nat} {s:DT} {M:Mc} (h:InS S LN L pl mn_ my b k s M) {m:Nat} {j:Int} (hj:j∈M.act m):0<=j/\j<my*L:=by have:=h.mem hj;exact ⟨this.1,this.2.1⟩
def zeq {tv:Jj} {p mk lv s:Nat} {ow:List Nat} {O0_:Int->J6} {R:Int->Res} (h:∀ (k:Nat) (T:List Tch) (M:Mc) (N:Nat),InS S LN L pl mn_ my b k (cs,T) M->Wf N T M->N+wid mn_ (my*L) b<=80000->Own (my*L) mk s ow O0_ M->∃ M' T',Step Lx tv M M'/\InS S LN L pl mn_ my b (k+1) (cs,T') M'/\Wf (N+wid mn_ (my*L) b) T' M'/\Out (my*L) p mk lv s R M M'):Zs Lx S LN L pl mn_ my b code cs [tv] p mk lv s ow O0_ R:=by
 intro k T M N i wf hN rw' own;have e1:([tv].length:Nat)*wid mn_ (my*L) b=wid mn_ (my*L) b:=sU _;rw [e1] at hN ⊢;obtain ⟨M',T',st,i',wf',o⟩:=h k T M N i wf hN own;exact ⟨1,M',T',i.one (rw' 0 _ rfl) st,i',wf',o⟩
def zb6 {word:Str} {f:FnM} {tv:Jj} {p mk lv s:Nat} {ow:List Nat} {O0_:Int->J6} {R:Int->Res} (hS:Lx.S word f) (h0:tv[0]?=Z (.str word)) (h1:tv[1]?=Z (.int p)) (hl:tv.getLast?=Z (.int mk)) (p8:((p:Int)+1)*my<=8) (m16:mk<16)
  (ef:∀ (k:Nat) (T:List Tch) (M:Mc),InS S LN L pl mn_ my b k (cs,T) M->SlotsOk M->T.length+wid mn_ (my*L) b<=80000->Own (my*L) mk s ow O0_ M->∃ (T1:List Tch) (v:Int->Int),T1.length<=(M.act mk).length/\f tv M (M.act mk)=Z ({ M with tq:=M.tq++T1,fq:=M.fq },(M.act mk).map λj=>Z (v j))/\∀ j∈M.act mk,R j=.ok (v j)):Zs Lx S LN L pl mn_ my b code cs [tv] p mk lv s ow O0_ R:=by
 refine zeq λk T M N i wf hN own=>?_;obtain ⟨T1,v,tl,e,hr⟩:=ef k T M i wf.so (by have:=wf.t;omega) own;obtain ⟨M',st,i',⟨kp,hf⟩,n1,n2⟩:=i.seatO (g:=λj=>Z (v j)) hS h0 h1 hl p8 m16 e;have al:=i.len mk;refine ⟨M',T++T1,st,i',⟨?_,?_,?_,by rw [hf];exact wf.ik,λj hj=>wf.i0 j (by rw [hf] at hj;exact hj),λk' v' e'=>wf.so k' v' (by rw [kp.slots] at e';exact e')⟩,Out.seat kp hf ⟨i'.cells.trans i.cells.symm,i'.lq.trans i.lq.symm⟩ (λj hj=>⟨v j,hr j hj,n1 j hj _ rfl⟩) n2⟩
 .have:=wf.t;rw [Jf];omega
 .have:=wf.f;rw [hf];omega
 .have:=wf.s;rw [kp.slots];omega
def does_num {p mk lv s:Nat} {ow:List Nat} {O0_:Int->J6} {n:Int} (hS:Lx.S "number" numM) (p8:((p:Int)+1)*my<=8) (m16:mk<16):Zs Lx S LN L pl mn_ my b code cs [[.str "number",.int p,.int n,.int mk]] p mk lv s ow O0_ (λ_=>.ok n) :=
 zb6 hS rfl rfl rfl p8 m16 λk T M i _ _ _=>⟨[],λ_=>n,nK _,by rw [q8y];rfl,λ_ _=>rfl⟩
def does_load {p mk lv s r:Nat} {ow:List Nat} {O0_:Int->J6} (hS:Lx.S "load" YS) (p8:((p:Int)+1)*my<=8) (m16:mk<16) (hr:r<S.length) (b0:0<=b) (ir:0<=S.getD r 0/\S.getD r 0+mn_<=cs.length):Zs Lx S LN L pl mn_ my b code cs [[.str "load",.int p,.int r,.int mk]] p mk lv s ow O0_ (λj=>.ok (cs.getD (S.getD r 0+(b+j)).toNat 0)):=by
 refine zeq λk T M N i wf hN own=>?_;have al:=i.len mk;have wt:=wf.t;obtain ⟨M',st,i',⟨kp,hf⟩,n1,n2⟩:=i.loadO (r:=r) (p:=p) (m:=mk) hS p8 m16 hr b0 ir (by show T.length+_<_;omega);refine ⟨M',_,st,i',⟨?_,?_,?_,by rw [hf];exact wf.ik,λj hj=>wf.i0 j (by rw [hf] at hj;exact hj),λk' v' e'=>wf.so k' v' (by rw [kp.slots] at e';exact e')⟩,Out.seat kp hf ⟨i'.cells.trans i.cells.symm,i'.lq.trans i.lq.symm⟩ (λj hj=>⟨_,Y,n1 j hj⟩) n2⟩
 .show (T++_).length<=_
  rw [Jf,Je,Je];omega
 .have:=wf.f;rw [hf];omega
 .have:=wf.s;rw [kp.slots];omega
def zep {p mk lv s r:Nat} {ow:List Nat} {O0_:Int->J6} (hS:Lx.S "spread" Ze) (p8:((p:Int)+1)*my<=8) (m16:mk<16) (hr:r<S.length) (ir:0<=S.getD r 0/\S.getD r 0<cs.length):Zs Lx S LN L pl mn_ my b code cs [[.str "spread",.int p,.int r,.int mk]] p mk lv s ow O0_ (λ_=>.ok (cs.getD (S.getD r 0).toNat 0)) :=
 zb6 hS rfl rfl rfl p8 m16 λk T M i _ tl _=>by
  have ea:M.adr r 0=S.getD r 0:=by unfold Mc.adr;rw [i.starts,Int.add_zero]
  by_cases z:M.act mk=[]
  .refine ⟨[],λ_=>cs.getD (S.getD r 0).toNat 0,nK _,?_,λ_ _=>rfl⟩
   rw [q8y,z];unfold Ze;show (if _ then _ else _)=_;exact if_pos rfl
  .refine ⟨[(M.pc,"read",M.adr r 0)],λ_=>M.cells.getD (M.adr r 0).toNat 0,?_,?_,λ_ _=>by rw [ea,i.cells]⟩
   .cases e:M.act mk with
    | nil=>exact absurd e z
    | cons a l=>exact rF (nK _)
   .unfold Ze
    show (if _ then _ else if _ then _ else _)=_;rw [if_neg (λy=>z (mS y))];have tt:=i.tq;refine (if_pos ?_).trans ?_
    .rw [q0z,ea,i.starts,i.cells,tt]
     exact ⟨by omega,hr,ir.1,by show (S.getD r 0).toNat<cs.length;omega,by show T.length<_;omega⟩
    .rw [q0z];rfl
theorem zbv (slot:Int) (a:Int):∀ (ps:List (Int×Int)) (M:Mc),(∀ p∈ps,M.sad slot p.1≠a)->zU (M.saves slot ps).slots (.inl a)=zU M.slots (.inl a)
 | [],_,_=>rfl
 | p::ps,M,h=>by
  show zU ((M.wroteSlot slot p.1 p.2).saves slot ps).slots (.inl a)=_;rw [zbv slot a ps (M.wroteSlot slot p.1 p.2) λq hq=>h q (q6y _ hq)];show zU (xa M.slots (.inl (M.sad slot p.1)) (.int p.2)) (.inl a)=_;rw [xU,if_neg λz=>h p q6z (Sum.inl.inj z).symm]
theorem zdz (slot:Int) (g:Int->Int) {j:Int}:∀ (js:J6) (M:Mc),(j∈js∨zU M.slots (.inl (M.sad slot j))=Z (.int (g j)))->zU (M.saves slot (js.map λj=>(j,g j))).slots (.inl (M.sad slot j))=Z (.int (g j))
 | [],_,h=>h.elim (λz=>nomatch z) id
 | i::js,M,h=>by
  show zU ((M.wroteSlot slot i (g i)).saves slot (js.map λj=>(j,g j))).slots (.inl ((M.wroteSlot slot i (g i)).sad slot j))=_;refine zdz slot g js _ ?_;by_cases e:j=i
  .right
   show zU (xa M.slots (.inl (M.sad slot i)) (.int (g i))) (.inl (M.sad slot j))=_;rw [e,xU,if_pos rfl]
  .rcases h with h | h
   .rcases mM.mp h with h | h
    .exact absurd h e
    .exact .inl h
   .right
    show zU (xa M.slots (.inl (M.sad slot i)) (.int (g i))) (.inl (M.sad slot j))=_
    rw [xU,if_neg λz=>by
     have:M.sad slot j=M.sad slot i:=Sum.inl.inj z;unfold Mc.sad at this;omega]
    exact h
theorem zdy (slot:Int):∀ (ps:List (Int×Int)) (M:Mc),SlotsOk M->SlotsOk (M.saves slot ps)
 | [],_,h=>h
 | p::ps,M,h=>zdy slot ps (M.wroteSlot slot p.1 p.2) λk v e=>by
  have e:zU (xa M.slots (.inl (M.sad slot p.1)) (.int p.2)) k=Z v:=e;rw [xU] at e
  split at e
  .cases e;exact ⟨_,Y⟩
  .exact h k v e
def sad_ne {M:Mc} {s t:Nat} {j i:Int} (ne:s≠t) (j0:0<=j) (j1:j<4*M.lq) (i0:0<=i) (i1:i<4*M.lq):M.sad s j≠M.sad t i:=by
 unfold Mc.sad;intro e;have e1:(s:Int)*4*M.lq+j=(t:Int)*4*M.lq+i:=by omega
 rw [Int.mul_assoc,Int.mul_assoc] at e1;generalize (4:Int)*M.lq=w at *;rcases Nat.lt_or_gt_of_ne ne with z | z
 .have:((s:Int)+1)*w<=t*w:=oG (by omega) (by omega)
  rw [sk,Int.one_mul] at this;omega
 .have:((t:Int)+1)*w<=s*w:=oG (by omega) (by omega)
  rw [sk,Int.one_mul] at this;omega
def InS.side4 {k:Nat} {s:DT} {M:Mc} (h:InS S LN L pl mn_ my b k s M):my*L<=4*M.lq:=by
 have g:=h.ok.g;rw [h.group] at g;have:=h.lq;rcases g with e | e | e <;> rw [e,this] <;> omega
def InS.save {k s p mk N:Nat} {T:List Tch} {M:Mc} (h:InS S LN L pl mn_ my b k (cs,T) M) (wf:Wf N T M) (hN:N+wid mn_ (my*L) b<=80000) (hS:Lx.E "save" Y8) (p8:((p:Int)+1)*my<=8) (m16:mk<16) :
  ∃ M' T',Step Lx [.str "save",.int s,.int p,.int mk] M M'/\InS S LN L pl mn_ my b (k+1) (cs,T') M'/\Wf (N+wid mn_ (my*L) b) T' M'/\Kq M M'/\M'.mq=M.mq/\M'.fq=M.fq/\(∀ q j,M'.nq q j=M.nq q j)/\(∀ j∈M.act mk,M'.slotN (M'.sad s j)=M.nq p j)/\(∀ t:Nat,t≠s->∀ j:Int,0<=j->j<my*L->M'.slotN (M'.sad t j)=M.slotN (M.sad t j)):=by
 have wt:=wf.t;have ws:=wf.s;have w0:=h.ok.w0;have al:=h.len mk
 have e:Y8 [.str "save",.int s,.int p,.int mk] M=Z (M.saves s ((M.act mk).map λj=>(j,M.nq p j))):=by
  unfold Y8;show (if _ then _ else _)=_;refine (if_pos ?_).trans ?_
  .rw [h.group,h.tq]
   exact ⟨by omega,p8,by omega,by omega,by show T.length<_;omega,by omega⟩
  .rw [q0z,q0z]
 have st:=Step.eff (word:="save") hS rfl e h.ok;obtain ⟨s1,s2⟩:=M.saves_is s ((M.act mk).map λj=>(j,M.nq p j));have so:=zdy s ((M.act mk).map λj=>(j,M.nq p j)) M wf.so;have s4:=h.side4;have hin:∀ j∈M.act mk,zU (M.saves s ((M.act mk).map λj=>(j,M.nq p j))).slots (.inl (M.sad s j))=Z (.int (M.nq p j)):=λj hj=>zdz s (M.nq p) (M.act mk) M (.inl hj)
 have hoff:∀ t:Nat,t≠s->∀ j:Int,0<=j->j<my*L->zU (M.saves s ((M.act mk).map λj=>(j,M.nq p j))).slots (.inl (M.sad t j))=zU M.slots (.inl (M.sad t j)):=λt ne j j0 j1=>zbv s _ _ M λq hq=>by
  obtain ⟨i,hi,rfl⟩:=o9.mp hq;have:=h.low hi;exact sad_ne (M:=M) (oQ ne) this.1 (by omega) j0 (by omega)
 have ml:((M.act mk).map λj=>(j,M.nq p j)).length=(M.act mk).length:=List.length_map _;generalize hmp:((M.act mk).map λj=>(j,M.nq p j))=ps at *;generalize M.saves s ps=X at *;refine ⟨_,T++ps.map (λp=>(M.pc,("write":Str),M.sad s p.1)),st,⟨⟨?_,?_,?_,?_,?_,?_,?_,?_⟩,?_,?_,?_,?_,?_,?_,?_,?_,?_,?_,?_,?_,?_⟩,⟨?_,?_,?_,?_,?_,so⟩,⟨?_,?_,?_,?_,?_,?_,?_⟩,?_,?_,?_,?_,?_⟩
 .rw [s1];exact h.ok.l1
 .rw [s1];exact h.ok.l64
 .rw [s1];exact h.ok.g
 .rw [s1];exact h.ok.nl
 .rw [s1];exact h.ok.ml
 .rw [s1];exact h.ok.mm
 .rw [s1];exact h.ok.w0
 .rw [s1];exact h.ok.w1
 .rw [s1];exact h.wle
 .rw [s1];exact h.bq
 .rw [s1];exact h.base
 .rw [s1];show M.pc+1=_;rw [h.pc];omega
 .rw [s1];exact h.oq
 .rw [s1];exact h.mn_
 .rw [s1];exact h.group
 .rw [s1];exact h.lq
 .rw [s1];exact h.rf
 .rw [s1];exact h.starts
 .rw [s1];exact h.lens
 .rw [s1];exact h.cells
 .rw [s1];show M.tq++_=_;rw [h.tq]
 .rw [Jf,Je,ml];omega
 .rw [s1];have:=wf.f;show M.fq.length<=_;omega
 .show X.slots.length<=_;omega
 .rw [s1];exact wf.ik
 .rw [s1];exact wf.i0
 .rw [s1]
 .rw [s1]
 .rw [s1]
 .rw [s1]
 .rw [s1]
 .rw [s1]
 .rw [s1]
 .rw [s1]
 .rw [s1]
 .intro q j;rw [s1];rfl
 .intro j hj
  have ex:X.sad s j=M.sad s j:=by rw [s1];rfl
  show X.slotN (X.sad s j)=_;rw [ex];unfold Mc.slotN;rw [hin j hj]
 .intro t ne j j0 j1
  have ex:X.sad t j=M.sad t j:=by rw [s1];rfl
  show X.slotN (X.sad t j)=_;rw [ex];unfold Mc.slotN;rw [hoff t ne j j0 j1]
def InS.bring {k s p mk N:Nat} {T:List Tch} {M:Mc} (h:InS S LN L pl mn_ my b k (cs,T) M) (wf:Wf N T M) (hN:N+wid mn_ (my*L) b<=80000) (hS:Lx.S "bring" Z3) (p8:((p:Int)+1)*my<=8) (m16:mk<16) :
  ∃ M' T',Step Lx [.str "bring",.int p,.int s,.int mk] M M'/\InS S LN L pl mn_ my b (k+1) (cs,T') M'/\Wf (N+wid mn_ (my*L) b) T' M'/\Kp M M'/\M'.fq=M.fq/\(∀ j∈M.act mk,M'.nq p j=M.slotN (M.sad s j))/\(∀ (p':Nat) (j:Int),p'≠p->0<=j->j<my*L->M'.nq p' j=M.nq p' j):=by
 have wt:=wf.t;have al:=h.len mk
 have ef:Z3 [.str "bring",.int p,.int s,.int mk] M (M.act mk)=Z ({ M with tq:=M.tq++(M.act mk).map (λj=>(M.pc,("read":Str),M.sad s j)),fq:=M.fq },(M.act mk).map λj=>Z (M.slotN (M.sad s j))):=by
  unfold Z3;refine (if_pos ⟨wf.so,?_⟩).trans rfl;rw [h.tq];show T.length<_;omega
 obtain ⟨M',st,i',⟨kp,hf⟩,n1,n2⟩:=h.seatO (word:="bring") (p:=p) (m:=mk) hS rfl rfl rfl p8 m16 ef;refine ⟨M',_,st,i',⟨?_,?_,?_,by rw [hf];exact wf.ik,λj hj=>wf.i0 j (by rw [hf] at hj;exact hj),λk' v' e'=>wf.so k' v' (by rw [kp.slots] at e';exact e')⟩,kp,hf,λj hj=>n1 j hj _ rfl,n2⟩
 .show (T++_).length<=_
  rw [Jf,Je];omega
 .have:=wf.f;rw [hf];omega
 .have:=wf.s;rw [kp.slots];omega
end
structure Two (side:Int) (p mk1 mk2 lv s a c:Nat) (Rl Rr:Int->Res) (M M':Mc):Prop where
 q:Kq M M'
 m:∀ m,m<2+2*lv->M'.mq.getD m []=M.mq.getD m []
 f:∀ j:Int,zU M'.fq (.inl j)=Zy (j∈M.act mk2/\¬ (j∈M.act mk1/\kd (Rl j)≠O)) (Rr j) (Zy (j∈M.act mk1) (Rl j) (zU M.fq (.inl j)))
 n1:∀ j∈M'.act mk1,∀ v,Rl j=.ok v->M'.nq a j=v
 n2:∀ j∈M'.act mk2,∀ v,Rr j=.ok v->M'.nq c j=v
 l:∀ q,q<p->∀ j:Int,0<=j->j<side->M'.nq q j=M.nq q j
 s:∀ t:Nat,t<s->∀ j:Int,0<=j->j<side->M'.slotN (M'.sad t j)=M.slotN (M.sad t j)
def Xp {M M':Mc} {m:Nat} (hw:M'.wq=M.wq) (hm:M'.mq.getD m []=M.mq.getD m []) (hf:M'.fq=M.fq) {j:Int}:j∈M'.act m↔j∈M.act m:=by rw [mem_act,mem_act (M:=M),hw,hm,hf]
def Xn {a a':Prop} {r:Res} {old:Jk} (h:a↔a'):Zy a r old=Zy a' r old:=by rw [propext h]
def InS.choose2 {S LN:J6} {L pl k:Nat} {mn_ my b:Int} {s:DT} {M:Mc} {Lx:Lex} {word:Str} {nought:Bool} {m p k':Nat} (h:InS S LN L pl mn_ my b k s M) (hS:Lx.E word (yv nought)) (p8:((p:Int)+1)*my<=8) (m16:m<16) (k16:k'<16) :
  ∃ M',Step Lx [.str word,.int m,.int p,.int k'] M M'/\InS S LN L pl mn_ my b (k+1) s M'/\Kq M M'/\M'.fq=M.fq/\M'.slots=M.slots/\(∀ m',m'≠m->M'.mq.getD m' []=M.mq.getD m' [])/\M'.act m=M.chosen p k' nought/\(∀ (p':Nat) (j:Int),M'.nq p' j=M.nq p' j):=by
 have e:yv nought [.str word,.int m,.int p,.int k'] M=Z (M.laidMask m (M.chosen p k' nought)):=by
  unfold yv;show (if _ then _ else _)=_;rw [if_pos ⟨by omega,by omega,by omega,by rw [h.group];exact p8,by omega,by omega⟩];rfl
 obtain ⟨a,o⟩:=laid_act (k:=k') h.ok m16 λj=>decide (decide (M.nq p j=0)=nought);refine ⟨_,Step.eff hS rfl e h.ok,⟨{o with},h.wle,h.bq,h.base,?_,h.oq,h.mn_,h.group,h.lq,h.rf,h.starts,h.lens,h.cells,h.tq⟩,⟨Y,Y,Y,Y,Y,Y,Y⟩,Y,Y,λm' ne=>?_,a,λ_ _=>rfl⟩
 .show M.pc+1=_
  rw [h.pc];omega
 .show (M.mq.set m _).getD m' []=_
  rw [q6x,nV (oQ ne),← q6x]
section
variable {Lx:Lex} {S LN:J6} {L pl:Nat} {mn_ my b:Int} {code:List (Jj)} {cs:J6}
def Xq (Lx:Lex) (S LN:J6) (L pl:Nat) (mn_ my b:Int) (code:List (Jj)) (cs:J6) (c:List (Jj)) (p mk1 mk2 lv s a c':Nat) (ow:List Nat) (O0_:Int->J6) (Rl Rr:Int->Res):Prop:=∀ (k:Nat) (T:List Tch) (M:Mc) (N:Nat),InS S LN L pl mn_ my b k (cs,T) M->Wf N T M->N+c.length*wid mn_ (my*L) b<=80000->RowsAt code (pl+k) c->Own (my*L) mk1 s ow O0_ M->Own (my*L) mk2 s ow O0_ M->∃ n M' T',Steps Lx code n M M'/\InS S LN L pl mn_ my b (k+c.length) (cs,T') M'/\Wf (N+c.length*wid mn_ (my*L) b) T' M'/\Two (my*L) p mk1 mk2 lv s a c' Rl Rr M M'
def two_a {c1 c2:List (Jj)} {p mk1 mk2 lv s:Nat} {ow:List Nat} {O0_:Int->J6} {Rl Rr:Int->Res} (d1:Zs Lx S LN L pl mn_ my b code cs c1 p mk1 lv s ow O0_ Rl) (d2:Zs Lx S LN L pl mn_ my b code cs c2 (p+1) mk2 lv s ow O0_ Rr) (h1:mk1<2+2*lv) (h2:mk2<2+2*lv) :
  Xq Lx S LN L pl mn_ my b code cs (c1++c2) p mk1 mk2 lv s p (p+1) ow O0_ Rl Rr:=by
 intro k T M N i wf hN rw' o1 o2;rw [Jf,pA] at hN ⊢;obtain ⟨n1,M1,T1,st1,i1,wf1,x1⟩:=d1 k T M N i wf (by omega) rw'.left o1;have r2:=rw'.right;rw [rO] at r2;have o2':Own (my*L) mk2 s ow O0_ M1:=o2.next x1 λj hj=>⟨((x1.act h2).mp hj).1,i1.low hj⟩;obtain ⟨n2,M2,T2,st2,i2,wf2,x2⟩:=d2 (k+c1.length) T1 M1 _ i1 wf1 (by omega) r2 o2';rw [rO] at i2;refine ⟨n1+n2,M2,T2,st1.trans st2,i2,wf2.mono (by omega),⟨x1.q.trans x2.q,λm hm=>(x2.m m hm).trans (x1.m m hm),λj=>?_,λj hj v e=>?_,λj hj v e=>?_,λq hq j j0 j1=>(x2.l q (by omega) j j0 j1).trans (x1.l q hq j j0 j1),λt ht j j0 j1=>(x2.s t ht j j0 j1).trans (x1.s t ht j j0 j1)⟩⟩
 .rw [x2.f,x1.f]
  exact Xn (x1.act h2)
 .have a:=i2.low hj
  have b1:=((x2.act h1).mp hj).1;have b0:=((x1.act h1).mp b1).1;rw [x2.l p (by omega) j a.1 a.2];exact x1.n j b0 v e
 .exact x2.n j ((x2.act h2).mp hj).1 v e
def two_b {c1 c2:List (Jj)} {p mk1 mk2 lv s:Nat} {ow:List Nat} {O0_:Int->J6} {Rl Rr:Int->Res} (hS:Lx.E "save" Y8) (hB:Lx.S "bring" Z3) (p8:((p:Int)+1)*my<=8) (p9:((p+1:Nat)+1:Int)*my<=8) (m16:mk1<16) (d1:Zs Lx S LN L pl mn_ my b code cs c1 p mk1 lv s ow O0_ Rl) (d2:Zs Lx S LN L pl mn_ my b code cs c2 p mk2 lv (s+1) ow O0_ Rr) (h1:mk1<2+2*lv) (h2:mk2<2+2*lv) :
  Xq Lx S LN L pl mn_ my b code cs (c1++[[.str "save",.int s,.int p,.int mk1]]++c2++[[.str "bring",.int (p+1:Nat),.int s,.int mk1]]) p mk1 mk2 lv s (p+1) p ow O0_ Rl Rr:=by
 intro k T M N i wf hN rw' o1 o2
 have el:(c1++[[V.str "save",V.int s,V.int p,V.int mk1]]++c2++[[V.str "bring",V.int (p+1:Nat),V.int s,V.int mk1]]).length=c1.length+1+c2.length+1:=by
  rw [Jf,Jf,Jf];rfl
 rw [el,pA,pA,pA,sU] at hN ⊢;generalize hW:wid mn_ (my*L) b=W at hN ⊢;obtain ⟨n1,M1,T1,st1,i1,wf1,x1⟩:=d1 k T M N i wf (by rw [hW];omega) rw'.left.left.left o1;rw [hW] at wf1;obtain ⟨M2,T2,st2,i2,wf2,q2,m2,f2,nn2,si2,so2⟩:=i1.save (s:=s) (p:=p) (mk:=mk1) wf1 (by rw [hW];omega) hS p8 m16;rw [hW] at wf2;have r1:=rw'.left.left.right 0 _ rfl;have r2:=rw'.left.right;have r3:=rw'.right 0 _ rfl;rw [Nat.add_zero,rO] at r1;rw [Jf] at r2;rw [Jf,Jf] at r3;have a2:∀ {m:Nat} {j:Int},j∈M2.act m↔j∈M1.act m:=λ{m j}=>Xp q2.w (by rw [m2]) f2
 have o2':Own (my*L) mk2 (s+1) ow O0_ M2:=⟨λt ht=>by have:=o2.lo t ht;omega,λj hj i t e=>by
  have lt:=o2.lo t (mP e);have a:=i2.low hj;rw [so2 t (by omega) j a.1 a.2,x1.s t lt j a.1 a.2];exact o2.at' j ((x1.act h2).mp (a2.mp hj)).1 i t e⟩
 have r2':RowsAt code (pl+(k+c1.length+1)) c2:=by
  rw [show pl+(k+c1.length+1)=pl+k+(c1.length+1) by omega];exact r2
 obtain ⟨n3,M3,T3,st3,i3,wf3,x3⟩:=d2 (k+c1.length+1) T2 M2 _ i2 wf2 (by rw [hW];omega) r2' o2';rw [hW] at wf3;obtain ⟨M4,T4,st4,i4,wf4,kp4,f4,n4,l4⟩:=i3.bring (s:=s) (p:=p+1) (mk:=mk1) wf3 (by rw [hW];omega) hB p9 m16;rw [hW] at wf4;have a4:∀ {m:Nat} {j:Int},j∈M4.act m↔j∈M3.act m:=λ{m j}=>Xp kp4.w (by rw [kp4.mq]) f4;rw [show k+c1.length+1+c2.length+1=k+(c1.length+1+c2.length+1) by omega] at i4
 have r3':code[pl+(k+c1.length+1+c2.length)]?=Z [.str "bring",.int (p+1:Nat),.int s,.int mk1]:=by
  rw [show pl+(k+c1.length+1+c2.length)=pl+k+(c1.length+1+c2.length)+0 by omega];exact r3
 have c4:M4.cells=M3.cells/\M4.lq=M3.lq:=⟨i4.cells.trans i3.cells.symm,i4.lq.trans i3.lq.symm⟩
 have s4:∀ t:Nat,∀ j:Int,M4.slotN (M4.sad t j)=M3.slotN (M3.sad t j):=λt j=>by
  unfold Mc.slotN Mc.sad;rw [kp4.slots,c4.1,c4.2]
 refine ⟨_,M4,T4,((st1.trans (i1.one r1 st2)).trans st3).trans (i3.one r3' st4),i4,wf4.mono (by omega),⟨((x1.q.trans q2).trans x3.q).trans kp4.q,λm hm=>?_,λj=>?_,λj hj v e=>?_,λj hj v e=>?_,λq hq j j0 j1=>?_,λt ht j j0 j1=>?_⟩⟩
 .rw [kp4.mq,x3.m m hm,m2,x1.m m hm]
 .rw [f4,x3.f,f2,x1.f]
  exact Xn (a2.trans (x1.act h2))
 .have a:=i4.low hj
  have b3:=a4.mp hj;have b2:=((x3.act h1).mp b3).1;have b1:=a2.mp b2;rw [n4 j b3,x3.s s (by omega) j a.1 a.2,si2 j b1];exact x1.n j ((x1.act h1).mp b1).1 v e
 .have a:=i4.low hj
  rw [l4 p j (by omega) a.1 a.2];exact x3.n j ((x3.act h2).mp (a4.mp hj)).1 v e
 .rw [l4 q j (by omega) j0 j1,x3.l q hq j j0 j1,nn2,x1.l q hq j j0 j1]
 .rw [s4,x3.s t (by omega) j j0 j1,so2 t (by omega) j j0 j1,x1.s t ht j j0 j1]
def Two.act {side:Int} {p mk1 mk2 lv s a c:Nat} {Rl Rr:Int->Res} {M M':Mc} (h:Two side p mk1 mk2 lv s a c Rl Rr M M') {m:Nat} (hm:m<2+2*lv) {j:Int}:j∈M'.act m↔j∈M.act m/\¬ (j∈M.act mk1/\kd (Rl j)≠O)/\¬ (j∈M.act mk2/\kd (Rr j)≠O):=by
 rw [mem_act,mem_act (M:=M) (m:=m),h.q.w,h.m m hm,h.f];by_cases z1:j∈M.act mk1/\kd (Rl j)≠O
 .obtain ⟨z,y⟩:=z1
  cases e:kd (Rl j) with
  | none=>exact absurd e y
  | some x =>
   rw [yt (λw=>w.2 ⟨z,by simp⟩),X6 z e];exact ⟨λw=>(by cases w.2.2.2),λw=>absurd ⟨z,by simp⟩ w.2.1⟩
 .have e1:Zy (j∈M.act mk1) (Rl j) (zU M.fq (.inl j))=zU M.fq (.inl j):=by
   by_cases y:j∈M.act mk1
   .exact Zx (nA λw=>z1 ⟨y,w⟩)
   .exact yt y
  rw [e1];by_cases z2:j∈M.act mk2/\kd (Rr j)≠O
  .obtain ⟨z,y⟩:=z2
   cases e:kd (Rr j) with
   | none=>exact absurd e y
   | some x =>
    rw [X6 ⟨z,z1⟩ e];exact ⟨λw=>(by cases w.2.2.2),λw=>absurd ⟨z,by simp⟩ w.2.2⟩
  .have e2:Zy (j∈M.act mk2/\¬ (j∈M.act mk1/\kd (Rl j)≠O)) (Rr j) (zU M.fq (.inl j))=zU M.fq (.inl j):=by
    by_cases y:j∈M.act mk2
    .exact Zx (nA λw=>z2 ⟨y,w⟩)
    .exact yt λw=>y w.1
   rw [e2];exact ⟨λw=>⟨w,z1,z2⟩,λw=>w.1⟩
theorem XD (z:Str):∀ (js:J6) (fs:Jh) (j:Int),zU (Xl z fs js) (.inl j)=if j∈js then Z (.str z) else zU fs (.inl j)
 | [],fs,j=>(if_neg (by simp)).symm
 | i::js,fs,j=>by
  show zU (Xl z (xa fs (.inl i) (.str z)) js) (.inl j)=_;rw [XD z js,xU];by_cases h:j∈js
  .rw [if_pos h,if_pos (q6y _ h)]
  .rw [if_neg h]
   by_cases e:j=i
   .rw [e,if_pos rfl,if_pos q6z]
   .rw [if_neg (λy=>e (Sum.inl.inj y)),if_neg (λy=>(mM.mp y).elim e h)]
theorem zej (z:Str):∀ (js:J6) {fs:Jh},ZW fs->ZW (Xl z fs js)
 | [],_,h=>h
 | j::js,_,h=>zej z js (zel h j _)
def Two.out {p mk lv s a c:Nat} {Rl Rr R:Int->Res} {z:Str} {bad:J6} {M M1 M2:Mc} (x:Two (my*L) p mk mk lv s a c Rl Rr M M1) (hm:mk<2+2*lv) (kp:Kp M1 M2) (hc:M2.cells=M1.cells/\M2.lq=M1.lq) (hf:M2.fq=Xl z M1.fq bad) (hb:∀ j,j∈bad↔j∈M1.act mk/\kd (R j)≠O) (hz:∀ j∈M1.act mk,kd (R j)≠O->kd (R j)=Z z)
  (hR1:∀ j,kd (Rl j)≠O->R j=Rl j) (hR2:∀ j,kd (Rl j)=O->kd (Rr j)≠O->R j=Rr j) (hn:∀ j∈M1.act mk,∀ v,R j=.ok v->M2.nq p j=v) (ho:∀ (p':Nat) (j:Int),p'≠p->0<=j->j<my*L->M2.nq p' j=M1.nq p' j):Out (my*L) p mk lv s R M M2:=by
 have act1:∀ j,j∈M1.act mk↔j∈M.act mk/\kd (Rl j)=O/\kd (Rr j)=O:=λj=>by
  rw [x.act hm];exact ⟨λ⟨a,b,c⟩=>⟨a,nA λw=>b ⟨a,w⟩,nA λw=>c ⟨a,w⟩⟩,λ⟨a,b,c⟩=>⟨a,λw=>w.2 b,λw=>w.2 c⟩⟩
 refine ⟨x.q.trans kp.q,λm hm=>by rw [kp.mq,x.m m hm],λj=>?_,λj hj v e=>?_,λq hq j j0 j1=>(ho q j (by omega) j0 j1).trans (x.l q hq j j0 j1),λt ht j j0 j1=>?_⟩
 .rw [hf,XD]
  by_cases hj:j∈M.act mk
  .by_cases z1:kd (Rl j)=O
   .by_cases z2:kd (Rr j)=O
    .have a1:=(act1 j).mpr ⟨hj,z1,z2⟩
     by_cases z3:kd (R j)=O
     .rw [if_neg (λw=>((hb j).mp w).2 z3),x.f,Zx z2,Zx z1,Zx z3]
     .rw [if_pos ((hb j).mpr ⟨a1,z3⟩),X6 hj (hz j a1 z3)]
    .rw [if_neg (λw=>z2 ((act1 j).mp ((hb j).mp w).1).2.2),x.f,hR2 j z1 z2,Zx z1]
     exact Xn ⟨λ_=>hj,λ_=>⟨hj,λw=>w.2 z1⟩⟩
   .rw [if_neg (λw=>z1 ((act1 j).mp ((hb j).mp w).1).2.1),x.f,hR1 j z1,yt (λw=>w.2 ⟨hj,z1⟩)]
  .rw [if_neg (λw=>hj ((act1 j).mp ((hb j).mp w).1).1),x.f,yt hj,yt (λw=>hj w.1),yt hj]
 .refine hn j ((act1 j).mpr ⟨hj,?_,?_⟩) v e
  .exact nA λw=>by rw [hR1 j w] at e;rw [e] at w;exact w rfl
  .refine nA λw=>?_
   by_cases z1:kd (Rl j)=O
   .rw [hR2 j z1 w] at e;rw [e] at w;exact w rfl
   .rw [hR1 j z1] at e;rw [e] at z1;exact z1 rfl
 .have e:M2.slotN (M2.sad t j)=M1.slotN (M1.sad t j):=by
   unfold Mc.slotN Mc.sad;rw [kp.slots,hc.1,hc.2]
  rw [e];exact x.s t ht j j0 j1
def Zw (sg:Str) (l r:Res):Res:=match l with
 | .ok a=>(match r with
  | .ok b=>(match doneR sg a b with
   | some n=>.ok n
   | none=>.nought)
  | e=>e)
 | e=>e
def does_pair {c:List (Jj)} {p mk lv s a c':Nat} {ow:List Nat} {O0_:Int->J6} {sg:Str} {Rl Rr:Int->Res} (hO:Lx.S "op" opM) (sgn:sg∈signs) (p8:((p:Int)+1)*my<=8) (a8:((a:Int)+1)*my<=8) (c8:((c':Int)+1)*my<=8) (m16:mk<16) (hm:mk<2+2*lv) (d:Xq Lx S LN L pl mn_ my b code cs c p mk mk lv s a c' ow O0_ Rl Rr)
  (kl:∀ j v,0<=j->b+j<mn_->Rl j=.ok v->Kin v) (kr:∀ j v,0<=j->b+j<mn_->Rr j=.ok v->Kin v) :
  Zs Lx S LN L pl mn_ my b code cs (c++[[.str "op",.int p,.str sg,.int a,.int c',.int mk]]) p mk lv s ow O0_ (λj=>Zw sg (Rl j) (Rr j)):=by
 intro k T M N i wf hN rw' own;rw [Jf,pA] at hN ⊢;have e1:([[V.str "op",.int p,.str sg,.int a,.int c',.int mk]].length:Nat)*wid mn_ (my*L) b=wid mn_ (my*L) b:=sU _;rw [e1] at hN ⊢;obtain ⟨n1,M1,T1,st1,i1,wf1,x⟩:=d k T M N i wf (by omega) rw'.left own own;have r2:=rw'.right 0 _ rfl;rw [Nat.add_zero,rO] at r2
 have act1:∀ j∈M1.act mk,∃ v u,Rl j=.ok v/\Rr j=.ok u/\M1.nq a j=v/\M1.nq c' j=u/\Kin v/\Kin u:=λj hj=>by
  have w:=(x.act hm).mp hj;obtain ⟨v,ev⟩:=Yt (nA λy=>w.2.1 ⟨w.1,y⟩);obtain ⟨u,eu⟩:=Yt (nA λy=>w.2.2 ⟨w.1,y⟩);have mj:=i1.mem hj;exact ⟨v,u,ev,eu,x.n1 j hj v ev,x.n2 j hj u eu,kl j v mj.1 mj.2.2 ev,kr j u mj.1 mj.2.2 eu⟩
 obtain ⟨M2,st2,i2,⟨kp2,f2⟩,n2,o2⟩:=i1.op (p:=p) (q:=a) (r:=c') (m:=mk) (sg:=sg) (F:=λe=>M1.nq a (e-b)) (G:=λe=>M1.nq c' (e-b)) hO p8 a8 c8 m16 sgn (by have:=wf1.f;omega) (λj hj=>⟨by rw [show b+j-b=j by omega],by rw [show b+j-b=j by omega]⟩) (λj hj=>by
  obtain ⟨v,u,_,_,h1,h2,h3,h4⟩:=act1 j hj;rw [show b+j-b=j by omega,h1,h2];exact ⟨h3,h4⟩)
 have eb:∀ j:Int,b+j-b=j:=λj=>by omega
 simp only [eb] at f2 n2;have al:=i1.len mk;have bl:((M1.act mk).filter λj=>(doneR sg (M1.nq a j) (M1.nq c' j)).isNone).length<=(M1.act mk).length:=sD _ _
 have pr:∀ j∈M1.act mk,Zw sg (Rl j) (Rr j)=match doneR sg (M1.nq a j) (M1.nq c' j) with
   | some n=>.ok n
   | none=>.nought:=λj hj=>by
  obtain ⟨v,u,ev,eu,h1,h2,_,_⟩:=act1 j hj;rw [ev,eu,h1,h2];rfl
 refine ⟨_,M2,T1,st1.trans (i1.one r2 st2),by rw [← rO];exact i2,⟨by have:=wf1.t;omega,?_,by have:=wf1.s;rw [kp2.slots];omega,by rw [f2];exact zej _ _ wf1.ik,λj hj=>?_,λk' v' e'=>wf1.so k' v' (by rw [kp2.slots] at e';exact e')⟩,?_⟩
 .have:=zb1 "nought" ((M1.act mk).filter λj=>(doneR sg (M1.nq a j) (M1.nq c' j)).isNone) M1.fq
  have:=wf1.f;rw [f2];omega
 .rw [f2,XD] at hj
  split at hj
  .rename_i y
   exact (i1.low (nI.mp y).1).1
  .exact wf1.i0 j hj
 .refine x.out (R:=λj=>Zw sg (Rl j) (Rr j)) hm kp2 ⟨i2.cells.trans i1.cells.symm,i2.lq.trans i1.lq.symm⟩ f2 (λj=>?_) (λj hj hk=>?_) (λj hk=>?_) (λj h1 h2=>?_) (λj hj v e=>?_) o2
  .rw [nI]
   constructor
   .rintro ⟨h1,h2⟩
    refine ⟨h1,?_⟩;rw [pr j h1]
    cases e:doneR sg (M1.nq a j) (M1.nq c' j) with
    | none=>intro w;cases w
    | some v=>rw [e] at h2;cases h2
   .rintro ⟨h1,h2⟩
    refine ⟨h1,?_⟩;rw [pr j h1] at h2
    cases e:doneR sg (M1.nq a j) (M1.nq c' j) with
    | none=>rfl
    | some v=>rw [e] at h2;exact absurd rfl h2
  .have hk:kd (Zw sg (Rl j) (Rr j))≠O:=hk
   show kd (Zw sg (Rl j) (Rr j))=_;rw [pr j hj] at hk ⊢
   cases e:doneR sg (M1.nq a j) (M1.nq c' j) with
   | none=>rfl
   | some v=>rw [e] at hk;exact absurd rfl hk
  .show Zw sg (Rl j) (Rr j)=_
   cases e:Rl j with
   | ok v=>rw [e] at hk;exact absurd rfl hk
   | nought=>rfl
   | outside=>rfl
  .show Zw sg (Rl j) (Rr j)=_
   obtain ⟨v,ev⟩:=Yt h1;rw [ev]
   cases e:Rr j with
   | ok u=>rw [e] at h2;exact absurd rfl h2
   | nought=>rfl
   | outside=>rfl
  .have e:Zw sg (Rl j) (Rr j)=.ok v:=e
   rw [pr j hj] at e
   cases ed:doneR sg (M1.nq a j) (M1.nq c' j) with
   | none=>rw [ed] at e;cases e
   | some u=>rw [ed] at e;cases e;exact n2 j hj _ ed
def choR (t l r:Res):Res:=match t with
 | .ok v=>if v≠0 then l else r
 | e=>e
def cho_of {t l r:Res} {v:Int} (e:t=.ok v):choR t l r=if v≠0 then l else r:=by rw [e];rfl
def cho_bad {t l r:Res} (h:kd t≠O):choR t l r=t:=by
 cases t with
 | ok v=>exact absurd rfl h
 | nought=>rfl
 | outside=>rfl
def InS.pick {k:Nat} {s:DT} {M:Mc} {p a c m mk:Nat} (h:InS S LN L pl mn_ my b k s M) (hS:Lx.S "pick" YQ) (p8:((p:Int)+1)*my<=8) (a8:((a:Int)+1)*my<=8) (c8:((c:Int)+1)*my<=8) (m16:m<16) (k16:mk<16) :
  ∃ M',Step Lx [.str "pick",.int p,.int a,.int c,.int m,.int mk] M M'/\InS S LN L pl mn_ my b (k+1) s M'/\(Kp M M'/\M'.fq=M.fq)/\(∀ j∈M.act mk,M'.nq p j=M.picked a c m j)/\(∀ (p':Nat) (j:Int),p'≠p->0<=j->j<my*L->M'.nq p' j=M.nq p' j):=by
 have ef:YQ [.str "pick",.int p,.int a,.int c,.int m,.int mk] M (M.act mk)=Z ({ M with tq:=M.tq++[],fq:=M.fq },(M.act mk).map λj=>Z (M.picked a c m j)):=by
  unfold YQ;show (if _ then _ else _)=_;rw [if_pos ⟨by omega,by rw [h.group];exact a8,by omega,by rw [h.group];exact c8,by omega,by omega⟩,q0z,q0z,q0z,q8y]
 obtain ⟨M',st,i,kp,n1,n2⟩:=h.seatO (word:="pick") (p:=p) (m:=mk) hS rfl rfl rfl p8 k16 ef;rw [q8y] at i;exact ⟨M',st,i,kp,λj hj=>n1 j hj _ rfl,n2⟩
def does_cho {ct c:List (Jj)} {p mk lv s a c':Nat} {ow:List Nat} {O0_:Int->J6} {Rt Rl Rr:Int->Res} (hC:Lx.E "choose" (yv false)) (hO:Lx.E "other" (yv true)) (hP:Lx.S "pick" YQ) (p8:((p:Int)+1)*my<=8) (a8:((a:Int)+1)*my<=8) (c8:((c':Int)+1)*my<=8) (hm:mk<2+2*lv) (l6:lv<=6) (dt:Zs Lx S LN L pl mn_ my b code cs ct p mk lv s ow O0_ Rt) (d:Xq Lx S LN L pl mn_ my b code cs c p (2+2*lv) (3+2*lv) (lv+1) s a c' ow O0_ Rl Rr) :
  Zs Lx S LN L pl mn_ my b code cs (ct++[[.str "choose",.int (2+2*lv:Nat),.int p,.int mk],[.str "other",.int (3+2*lv:Nat),.int p,.int mk]]++c++[[.str "pick",.int p,.int a,.int c',.int (2+2*lv:Nat),.int mk]]) p mk lv s ow O0_ (λj=>choR (Rt j) (Rl j) (Rr j)):=by
 intro k T M N i wf hN rw' own
 have el:(ct++[[V.str "choose",V.int (2+2*lv:Nat),V.int p,V.int mk],[V.str "other",V.int (3+2*lv:Nat),V.int p,V.int mk]]++c++[[V.str "pick",V.int p,V.int a,V.int c',V.int (2+2*lv:Nat),V.int mk]]).length=ct.length+2+c.length+1:=by
  rw [Jf,Jf,Jf];rfl
 rw [el,pA,pA,pA,sU] at hN ⊢;generalize hW:wid mn_ (my*L) b=W at hN ⊢;obtain ⟨n1,M1,T1,st1,i1,wf1,x1⟩:=dt k T M N i wf (by rw [hW];omega) rw'.left.left.left own;rw [hW] at wf1;have r1:=rw'.left.left.right 0 _ rfl;have r2:=rw'.left.left.right 1 _ rfl;have r3:=rw'.left.right;have r4:=rw'.right 0 _ rfl;rw [Jf] at r3;rw [Jf,Jf] at r4;obtain ⟨M2,st2,i2,q2,f2,s2,m2,a2,n2⟩:=i1.choose2 (word:="choose") (nought:=false) (m:=2+2*lv) (p:=p) (k':=mk) hC p8 (by omega) (by omega);obtain ⟨M3,st3,i3,q3,f3,s3,m3,a3,n3⟩:=i2.choose2 (word:="other") (nought:=true) (m:=3+2*lv) (p:=p) (k':=mk) hO p8 (by omega) (by omega);have am2:∀ j,j∈M2.act mk↔j∈M1.act mk:=λj=>Xp q2.w (m2 mk (by omega)) f2;have am3:∀ j,j∈M3.act mk↔j∈M2.act mk:=λj=>Xp q3.w (m3 mk (by omega)) f3;have am:∀ j,j∈M3.act mk↔j∈M.act mk/\kd (Rt j)=O:=λj=>(am3 j).trans ((am2 j).trans (x1.actS hm))
 have nv:∀ j∈M1.act mk,∃ v,Rt j=.ok v/\M1.nq p j=v:=λj hj=>by
  have z:=(x1.actS hm).mp hj;obtain ⟨v,e⟩:=Yt z.2;exact ⟨v,e,x1.n j z.1 v e⟩
 have aL:∀ j,j∈M3.act (2+2*lv)↔j∈M1.act mk/\M1.nq p j≠0:=λj=>by
  rw [Xp (M:=M2) q3.w (m3 _ (by omega)) f3,a2];unfold Mc.chosen;rw [nI];simp
 have aR:∀ j,j∈M3.act (3+2*lv)↔j∈M1.act mk/\M1.nq p j=0:=λj=>by
  rw [a3];unfold Mc.chosen;rw [nI,am2,n2];simp
 have sl:∀ t:Nat,∀ j:Int,M3.slotN (M3.sad t j)=M1.slotN (M1.sad t j):=λt j=>by
  unfold Mc.slotN Mc.sad;rw [s3,s2,i3.cells.trans i1.cells.symm,i3.lq.trans i1.lq.symm]
 have own1:Own (my*L) mk s ow O0_ M1:=own.next x1 λj hj=>⟨((x1.act hm).mp hj).1,i1.low hj⟩;have oL:Own (my*L) (2+2*lv) s ow O0_ M3:=⟨own.lo,λj hj i t e=>by rw [sl];exact own1.at' j ((aL j).mp hj).1 i t e⟩;have oR:Own (my*L) (3+2*lv) s ow O0_ M3:=⟨own.lo,λj hj i t e=>by rw [sl];exact own1.at' j ((aR j).mp hj).1 i t e⟩;have wf3:Wf (N+ct.length*W) T1 M3:=⟨wf1.t,by rw [f3,f2];exact wf1.f,by rw [s3,s2];exact wf1.s,by rw [f3,f2];exact wf1.ik,by rw [f3,f2];exact wf1.i0,λk' v' e'=>wf1.so k' v' (by rw [s3,s2] at e';exact e')⟩
 have r3':RowsAt code (pl+(k+ct.length+1+1)) c:=by
  rw [show pl+(k+ct.length+1+1)=pl+k+(ct.length+2) by omega];exact r3
 obtain ⟨n4,M4,T4,st4,i4,wf4,x4⟩:=d (k+ct.length+1+1) T1 M3 _ i3 wf3 (by rw [hW];omega) r3' oL oR;rw [hW] at wf4;obtain ⟨M5,st5,i5,⟨kp5,f5⟩,n5,l5⟩:=i4.pick (p:=p) (a:=a) (c:=c') (m:=2+2*lv) (mk:=mk) hP p8 a8 c8 (by omega) (by omega)
 have r1':code[pl+(k+ct.length)]?=Z [.str "choose",.int (2+2*lv:Nat),.int p,.int mk]:=by
  rw [show pl+(k+ct.length)=pl+k+ct.length+0 by omega];exact r1
 have r2':code[pl+(k+ct.length+1)]?=Z [.str "other",.int (3+2*lv:Nat),.int p,.int mk]:=by
  rw [show pl+(k+ct.length+1)=pl+k+ct.length+1 by omega];exact r2
 have r4':code[pl+(k+ct.length+1+1+c.length)]?=Z [.str "pick",.int p,.int a,.int c',.int (2+2*lv:Nat),.int mk]:=by
  rw [show pl+(k+ct.length+1+1+c.length)=pl+k+(ct.length+2+c.length)+0 by omega];exact r4
 rw [show k+ct.length+1+1+c.length+1=k+(ct.length+2+c.length+1) by omega] at i5;have hx:∀ j,j∈M3.act (2+2*lv)->¬ j∈M3.act (3+2*lv):=λj h1 h2=>((aL j).mp h1).2 ((aR j).mp h2).2
 have flt:∀ j:Int,zU M4.fq (.inl j)=Zy (j∈M.act mk) (choR (Rt j) (Rl j) (Rr j)) (zU M.fq (.inl j)):=λj=>by
  rw [x4.f,f3,f2,x1.f];by_cases hj:j∈M.act mk
  .by_cases ht:kd (Rt j)=O
   .have h1:j∈M1.act mk:=(x1.actS hm).mpr ⟨hj,ht⟩
    obtain ⟨v,ev,nv'⟩:=nv j h1;rw [Zx ht,cho_of ev];by_cases hv:v=0
    .have hr:j∈M3.act (3+2*lv):=(aR j).mpr ⟨h1,nv'.trans hv⟩
     have nl:¬ j∈M3.act (2+2*lv):=λw=>hx j w hr;rw [if_neg (λw=>w hv),yt (a:=j∈M3.act (2+2*lv)) nl];exact Xn ⟨λ_=>hj,λ_=>⟨hr,λw=>nl w.1⟩⟩
    .have hl:j∈M3.act (2+2*lv):=(aL j).mpr ⟨h1,λw=>hv (nv'.symm.trans w)⟩
     rw [if_pos hv,yt (λw=>hx j hl w.1)];exact Xn ⟨λ_=>hj,λ_=>hl⟩
   .have n1:¬ j∈M1.act mk:=λw=>ht ((x1.actS hm).mp w).2
    rw [cho_bad ht,yt (λw=>n1 ((aR j).mp w.1).1),yt (λw=>n1 ((aL j).mp w).1)]
  .have n1:¬ j∈M1.act mk:=λw=>hj ((x1.actS hm).mp w).1
   rw [yt (λw=>n1 ((aR j).mp w.1).1),yt (λw=>n1 ((aL j).mp w).1),yt hj,yt hj]
 have mm:∀ m,m<2+2*lv->M4.mq.getD m []=M.mq.getD m []:=λm h=>by rw [x4.m m (by omega),m3 m (by omega),m2 m (by omega),x1.m m h]
 have sl5:∀ t:Nat,∀ j:Int,M5.slotN (M5.sad t j)=M4.slotN (M4.sad t j):=λt j=>by
  unfold Mc.slotN Mc.sad;rw [kp5.slots,i5.cells.trans i4.cells.symm,i5.lq.trans i4.lq.symm]
 refine ⟨_,M5,T4,(((st1.trans (i1.one r1' st2)).trans (i2.one r2' st3)).trans st4).trans (i4.one r4' st5),i5,⟨by have:=wf4.t;omega,by have:=wf4.f;rw [f5];omega,by have:=wf4.s;rw [kp5.slots];omega,by rw [f5];exact wf4.ik,by rw [f5];exact wf4.i0,λk' v' e'=>wf4.so k' v' (by rw [kp5.slots] at e';exact e')⟩,⟨(((x1.q.trans q2).trans q3).trans x4.q).trans kp5.q,λm h=>by rw [kp5.mq,mm m h],λj=>by rw [f5];exact flt j,λj hj v e=>?_,λq hq j j0 j1=>?_,λt ht j j0 j1=>?_⟩⟩
 .have e:choR (Rt j) (Rl j) (Rr j)=.ok v:=e
  have ht:kd (Rt j)=O:=nA λw=>by rw [cho_bad w] at e;rw [e] at w;exact w rfl
  have h1:j∈M1.act mk:=(x1.actS hm).mpr ⟨hj,ht⟩;obtain ⟨u,eu,nu⟩:=nv j h1;have j01:=i1.low h1;rw [cho_of eu] at e;have z0:=mem_act.mp hj;have h4:j∈M4.act mk:=mem_act.mpr ⟨z0.1,by rw [x4.q.w,q3.w,q2.w,x1.q.w];exact z0.2.1,by rw [mm mk hm];exact z0.2.2.1,by rw [flt j,Zx (by rw [cho_of eu,e];rfl)];exact z0.2.2.2⟩;rw [n5 j h4];unfold Mc.picked;have mk4:M4.mq.getD (2+2*lv) []=M3.mq.getD (2+2*lv) []:=x4.m _ (by omega);have f4:=(mem_act.mp h4).2.2.2;have w4:M4.wq=M3.wq:=x4.q.w;by_cases hu:u=0
  .rw [if_neg (λw=>w hu)] at e
   have hr:j∈M3.act (3+2*lv):=(aR j).mpr ⟨h1,nu.trans hu⟩
   have nl:¬ (M4.mq.getD (2+2*lv) []).getD j.toNat false=true:=λw=>by
    have z3:=mem_act.mp hr;exact hx j (mem_act.mpr ⟨z3.1,z3.2.1,by rw [← mk4];exact w,z3.2.2.2⟩) hr
   rw [if_neg nl];refine x4.n2 j (mem_act.mpr ?_) v e;have z3:=mem_act.mp hr;exact ⟨z3.1,by rw [w4];exact z3.2.1,by rw [x4.m _ (by omega)];exact z3.2.2.1,f4⟩
  .rw [if_pos hu] at e
   have hl:j∈M3.act (2+2*lv):=(aL j).mpr ⟨h1,λw=>hu (nu.symm.trans w)⟩;have z3:=mem_act.mp hl;rw [if_pos (by rw [mk4];exact z3.2.2.1)];exact x4.n1 j (mem_act.mpr ⟨z3.1,by rw [w4];exact z3.2.1,by rw [mk4];exact z3.2.2.1,f4⟩) v e
 .rw [l5 q j (by omega) j0 j1,x4.l q hq j j0 j1,n3,n2,x1.l q hq j j0 j1]
 .rw [sl5,x4.s t ht j j0 j1,sl,x1.s t ht j j0 j1]
end
def sN:F2.Fm->Nat
 | .at' _ p=>sN p
 | .pair _ l r=>max (sN l) (1+sN r)
 | .cho t l r=>max (sN t) (max (sN l) (1+sN r))
 | _=>1
def hF:F2.Fm->Nat
 | .at' _ p=>hF p+1
 | .pair _ l r=>max (hF l) (hF r)+1
 | .cho t l r=>max (hF t) (max (hF l) (hF r))+1
 | _=>0
def cD:F2.Fm->Nat
 | .at' _ p=>cD p
 | .pair _ l r=>max (cD l) (cD r)
 | .cho t l r=>max (cD t) (max (cD l) (cD r)+1)
 | _=>0
def saveT (s p mk:Nat):Jj:=[.str "save",.int s,.int p,.int mk]
def bringT (p s mk:Nat):Jj:=[.str "bring",.int p,.int s,.int mk]
def opT (p:Nat) (sg:Str) (a c mk:Nat):Jj:=[.str "op",.int p,.str sg,.int a,.int c,.int mk]
def Za (p a c m mk:Nat):Jj:=[.str "pick",.int p,.int a,.int c,.int m,.int mk]
def ZY (fits:Prop) [Decidable fits] (c1 c2 c2':List (Jj)) (p s mk:Nat):List (Jj):=if fits then c1++c2 else c1++[saveT s p mk]++c2'++[bringT (p+1) s mk]
def mkF (mB:J6) (se:Nat):F2.Fm->Nat->Nat->Nat->Nat->List (Jj)
 | .num n,p,mk,_,_=>[[.str "number",.int p,.int n,.int mk]]
 | .here,p,mk,_,_=>[[.str "here",.int p,.int mk]]
 | .cell r,p,mk,_,_=>[if mB.getD r.toNat 0=1 then [.str "spread",.int p,.int r,.int mk] else [.str "load",.int p,.int r,.int mk]]
 | .shi r d o,p,mk,_,_=>[[.str "shift",.int p,.int r,.int d,.int o,.int mk]]
 | .at' r f,p,mk,lv,s=>mkF mB se f p mk lv s++[[.str "gather",.int p,.int p,.int r,.int mk]]
 | .pair sg l r,p,mk,lv,s=>ZY (p+1+sN r<=se) (mkF mB se l p mk lv s) (mkF mB se r (p+1) mk lv s) (mkF mB se r p mk lv (s+1)) p s mk++[if p+1+sN r<=se then opT p sg p (p+1) mk else opT p sg (p+1) p mk]
 | .cho t l r,p,mk,lv,s=>mkF mB se t p mk lv s++[[.str "choose",.int (2+2*lv:Nat),.int p,.int mk],[.str "other",.int (3+2*lv:Nat),.int p,.int mk]]++ZY (p+1+sN r<=se) (mkF mB se l p (2+2*lv) (lv+1) s) (mkF mB se r (p+1) (3+2*lv) (lv+1) s) (mkF mB se r p (3+2*lv) (lv+1) (s+1)) p s (2+2*lv)++[if p+1+sN r<=se then Za p p (p+1) (2+2*lv) mk else Za p (p+1) p (2+2*lv) mk]
 | _,_,_,_,_=>[]
def Fit:F2.Fm->Prop
 | .num _=>True
 | .cell _=>True
 | .pair _ l r=>Fit l/\Fit r
 | .cho t l r=>Fit t/\Fit l/\Fit r
 | _=>False
theorem YZ:∀ F:F2.Fm,1<=sN F
 | .num _=>m8 _
 | .here=>m8 _
 | .cell _=>m8 _
 | .shi _ _ _=>m8 _
 | .loc _=>m8 _
 | .call _ _=>m8 _
 | .at' _ p=>YZ p
 | .pair _ l r=>by have:=YZ l;show 1<=max (sN l) (1+sN r);omega
 | .cho t l r=>by have:=YZ t;show 1<=max (sN t) (max (sN l) (1+sN r));omega
abbrev xG (LN cs:J6) (O0_:Int->J6) (b j:Int):SpotD:=⟨LN,cs,b+j,O0_ j⟩
structure LxF (Lx:Lex):Prop where
 num:Lx.S "number" numM
 load:Lx.S "load" YS
 spr:Lx.S "spread" Ze
 op:Lx.S "op" opM
 save:Lx.E "save" Y8
 bring:Lx.S "bring" Z3
 choose:Lx.E "choose" (yv false)
 other:Lx.E "other" (yv true)
 pick:Lx.S "pick" YQ
structure RowsOk (LN cs:J6) (mn_ my b:Int) (L se:Nat):Prop where
 b0:0<=b
 m1:1<=mn_
 g:my=1∨my=2∨my=4
 se:(se:Int)*my=8
 bm:b<mn_
section
variable {Lx:Lex} {LN:J6} {L pl se:Nat} {mn_ my b:Int} {code:List (Jj)} {cs:J6}
def RowsOk.p8 (h:RowsOk LN cs mn_ my b L se) {p:Nat} (hp:p+1<=se):((p:Int)+1)*my<=8:=by
 have g:0<=my:=by have:=h.g;omega
 rw [← h.se];exact oG (by omega) g
def cell_room {r:Int} {O0_:Int->J6} {fs:List F2.Fn} {kk:Nat} (h:RowsOk LN cs mn_ my b L se) (hw:∀ j,0<=b+j->b+j<mn_->F2.WF fs kk (xG LN cs O0_ b j) (.cell r)/\FM.SpotOk (xG LN cs O0_ b j)):∃ n:Nat,r=n/\n<LN.length/\0<=(zG LN).getD n 0/\(zG LN).getD n 0<cs.length/\(LN.getD n 0≠1->(zG LN).getD n 0+mn_<=cs.length):=by
 have m1:=h.m1;obtain ⟨w,o⟩:=hw (mn_-1-b) (by omega) (by omega);obtain ⟨⟨r0,r1⟩,l1,pl'⟩:=w;have r1:r.toNat<LN.length:=r1;have l1:1<=LN.getD r.toNat 0:=l1;refine ⟨r.toNat,by omega,r1,?_⟩;rw [Yy r1];have tot:(cs.length:Int)=LN.sum:=o.tot;have rr:=zd1 (ns:=LN) (r:=r.toNat) (m:=LN.getD r.toNat 0) o.ln r1 (tm _);refine ⟨rr.1,by omega,λz=>?_⟩;have:=(pl' z).2;have:b+(mn_-1-b)<LN.getD r.toNat 0:=this;omega
def exec_cell {O0_:Int->J6} {r:Int} {fs:List F2.Fn} {kk:Nat} {cl:Int->Int->J6->Res} {p mk lv s:Nat} {ow:List Nat} (lx:LxF Lx) (h:RowsOk LN cs mn_ my b L se) (hw:∀ j,0<=b+j->b+j<mn_->F2.WF fs kk (xG LN cs O0_ b j) (.cell r)/\FM.SpotOk (xG LN cs O0_ b j)) (p8:((p:Int)+1)*my<=8) (m16:mk<16):Zs Lx (zG LN) LN L pl mn_ my b code cs (mkF LN se (.cell r) p mk lv s) p mk lv s ow O0_ (λj=>F2.ev (cl j) (xG LN cs O0_ b j) (.cell r)):=by
 obtain ⟨n,rfl,r1,s0,s1,sm⟩:=cell_room h hw;have es:=Yy r1;show Zs Lx (zG LN) LN L pl mn_ my b code cs [if LN.getD (n:Int).toNat 0=1 then _ else _] _ _ _ _ _ _ (λj=>if LN.getD (n:Int).toNat 0=1 then .ok (cs.getD ((LN.take (n:Int).toNat).sum+0).toNat 0) else .ok (cs.getD ((LN.take (n:Int).toNat).sum+(b+j)).toNat 0));rw [q0z,← es];by_cases z:LN.getD n 0=1
 .rw [if_pos z]
  simp only [if_pos z,Int.add_zero];exact zep lx.spr p8 m16 (by rw [YV];exact r1) ⟨s0,s1⟩
 .rw [if_neg z]
  simp only [if_neg z];exact does_load lx.load p8 m16 (by rw [YV];exact r1) h.b0 ⟨s0,sm z⟩
def zem {fl fr:F2.Fm} {O0_:Int->J6} {p mk1 mk2 lv s:Nat} {ow:List Nat} {Rl Rr:Int->Res} (lx:LxF Lx) (h:RowsOk LN cs mn_ my b L se) (p2:p+2<=se) (m1:mk1<2+2*lv) (m2:mk2<2+2*lv) (l7:lv<=7) (d1:Zs Lx (zG LN) LN L pl mn_ my b code cs (mkF LN se fl p mk1 lv s) p mk1 lv s ow O0_ Rl) (d2:∀ p' s',p'+min 2 (sN fr)<=se->Zs Lx (zG LN) LN L pl mn_ my b code cs (mkF LN se fr p' mk2 lv s') p' mk2 lv s' ow O0_ Rr) :
  ∃ a c,(a+1<=se/\c+1<=se)/\(a,c)=(if p+1+sN fr<=se then (p,p+1) else (p+1,p))/\Xq Lx (zG LN) LN L pl mn_ my b code cs (ZY (p+1+sN fr<=se) (mkF LN se fl p mk1 lv s) (mkF LN se fr (p+1) mk2 lv s) (mkF LN se fr p mk2 lv (s+1)) p s mk1) p mk1 mk2 lv s a c ow O0_ Rl Rr:=by
 unfold ZY;by_cases z:p+1+sN fr<=se
 .rw [if_pos z,if_pos z]
  exact ⟨p,p+1,⟨by omega,by omega⟩,Y,two_a d1 (d2 (p+1) s (by omega)) m1 m2⟩
 .rw [if_neg z,if_neg z]
  exact ⟨p+1,p,⟨by omega,by omega⟩,Y,two_b lx.save lx.bring (h.p8 (by omega)) (h.p8 (by omega)) (by omega) d1 (d2 p (s+1) (by omega)) m1 m2⟩
def mxl {a b c n:Nat} (h:a+max b c<=n):a+b<=n:=mL (o8 (Nat.le_max_left _ _) _) h
def mxr {a b c n:Nat} (h:a+max b c<=n):a+c<=n:=mL (o8 (u8 _ _) _) h
def mnl {p x n:Nat} (h:p+2<=n):p+min 2 x<=n:=mL (o8 (Nat.min_le_left _ _) _) h
def mn2 {p x n:Nat} (h:p+min 2 x<=n) (hx:2<=x):p+2<=n:=by rw [sV hx] at h;exact h
def mn1 {p x n:Nat} (h:p+min 2 x<=n) (hx:1<=x):p+1<=n:=mL (o8 (Nat.le_min.mpr ⟨by decide,hx⟩) _) h
theorem exec {O0_:Int->J6} {fs:List F2.Fn} {kk:Nat} {cl:Int->Int->J6->Res} (lx:LxF Lx) (h:RowsOk LN cs mn_ my b L se) (hk:∀ j,0<=b+j->b+j<mn_->∀ (a:Int) l n,0<=a->a.toNat<kk->a.toNat<fs.length->l.length=F2.handsOf fs a->(∀ v∈l,Kin v)->cl j a l=.ok n->Kin n):∀ (F:F2.Fm) (p mk lv s:Nat) (ow:List Nat),Fit F->mk<2+2*lv->lv+cD F<=7->p+min 2 (sN F)<=se->(∀ j,0<=b+j->b+j<mn_->F2.WF fs kk (xG LN cs O0_ b j) F/\FM.SpotOk (xG LN cs O0_ b j))->Zs Lx (zG LN) LN L pl mn_ my b code cs (mkF LN se F p mk lv s) p mk lv s ow O0_ (λj=>F2.ev (cl j) (xG LN cs O0_ b j) F)
 | .num n,p,mk,lv,s,ow,_,hm,hl,hp,_=>does_num lx.num (h.p8 (mn1 hp (YZ _))) (by omega)
 | .cell r,p,mk,lv,s,ow,_,hm,hl,hp,hw=>exec_cell lx h hw (h.p8 (mn1 hp (YZ _))) (by omega)
 | .pair sg l r,p,mk,lv,s,ow,hf,hm,hl,hp,hw=>by
  have e1:cD (.pair sg l r)=max (cD l) (cD r):=rfl;have e2:sN (.pair sg l r)=max (sN l) (1+sN r):=rfl;rw [e1] at hl;rw [e2] at hp;have hl1:=mxl hl;have hl2:=mxr hl;have hp:=mn2 hp (mL (o8 (YZ r) 1) (u8 _ _));clear hl e1 e2;have b0:=h.b0;have hwl:∀ j,0<=b+j->b+j<mn_->F2.WF fs kk (xG LN cs O0_ b j) l/\FM.SpotOk (xG LN cs O0_ b j):=λj a c=>⟨(hw j a c).1.2.1,(hw j a c).2⟩;have hwr:∀ j,0<=b+j->b+j<mn_->F2.WF fs kk (xG LN cs O0_ b j) r/\FM.SpotOk (xG LN cs O0_ b j):=λj a c=>⟨(hw j a c).1.2.2,(hw j a c).2⟩;have d1:=exec lx h hk l p mk lv s ow hf.1 hm hl1 (mnl hp) hwl;obtain ⟨a,c,⟨a1,c1⟩,eac,d⟩:=zem (fl:=l) (fr:=r) (mk1:=mk) (mk2:=mk) lx h hp hm hm (by omega) d1 (λp' s' hp'=>exec lx h hk r p' mk lv s' ow hf.2 hm hl2 hp' hwr);have bm:=h.bm;have dp:=does_pair (sg:=sg) lx.op (hw 0 (by omega) (by omega)).1.1 (h.p8 (p:=p) (by omega)) (h.p8 a1) (h.p8 c1) (by omega) hm d (λj v j0 jm e=>F2.ev_kin (hwl j (by omega) jm).2 (hk j (by omega) jm) (hwl j (by omega) jm).1 e) (λj v j0 jm e=>F2.ev_kin (hwr j (by omega) jm).2 (hk j (by omega) jm) (hwr j (by omega) jm).1 e);show Zs _ _ _ _ _ _ _ _ _ _ (ZY _ _ _ _ _ _ _++[if p+1+sN r<=se then opT p sg p (p+1) mk else opT p sg (p+1) p mk]) _ _ _ _ _ _ _
  have eo:(if p+1+sN r<=se then opT p sg p (p+1) mk else opT p sg (p+1) p mk)=opT p sg a c mk:=by
   by_cases z:p+1+sN r<=se
   .rw [if_pos z] at eac ⊢;cases eac;rfl
   .rw [if_neg z] at eac ⊢;cases eac;rfl
  rw [eo];exact dp
 | .cho t l r,p,mk,lv,s,ow,hf,hm,hl,hp,hw=>by
  have e1:cD (.cho t l r)=max (cD t) (max (cD l) (cD r)+1):=rfl;have e2:sN (.cho t l r)=max (sN t) (max (sN l) (1+sN r)):=rfl;rw [e1] at hl;rw [e2] at hp;have hl1:=mxl hl;have hl2:lv+1+max (cD l) (cD r)<=7:=by have:=mxr hl;rw [Nat.add_right_comm];exact this
  have hl3:=mxr hl2;have hl2:=mxl hl2;have hp:=mn2 hp (mL (o8 (YZ r) 1) (mL (u8 _ _) (u8 _ _)));clear hl e1 e2;have hwt:∀ j,0<=b+j->b+j<mn_->F2.WF fs kk (xG LN cs O0_ b j) t/\FM.SpotOk (xG LN cs O0_ b j):=λj a c=>⟨(hw j a c).1.1,(hw j a c).2⟩;have hwl:∀ j,0<=b+j->b+j<mn_->F2.WF fs kk (xG LN cs O0_ b j) l/\FM.SpotOk (xG LN cs O0_ b j):=λj a c=>⟨(hw j a c).1.2.1,(hw j a c).2⟩;have hwr:∀ j,0<=b+j->b+j<mn_->F2.WF fs kk (xG LN cs O0_ b j) r/\FM.SpotOk (xG LN cs O0_ b j):=λj a c=>⟨(hw j a c).1.2.2,(hw j a c).2⟩;have d0:=exec lx h hk t p mk lv s ow hf.1 hm hl1 (mnl hp) hwt;have d1:=exec lx h hk l p (2+2*lv) (lv+1) s ow hf.2.1 (by omega) hl2 (mnl hp) hwl;obtain ⟨a,c,⟨a1,c1⟩,eac,d⟩:=zem (fl:=l) (fr:=r) (mk1:=2+2*lv) (mk2:=3+2*lv) lx h hp (by omega) (by omega) (by omega) d1 (λp' s' hp'=>exec lx h hk r p' (3+2*lv) (lv+1) s' ow hf.2.2 (by omega) hl3 hp' hwr);have dp:=does_cho lx.choose lx.other lx.pick (h.p8 (p:=p) (by omega)) (h.p8 a1) (h.p8 c1) hm (by omega) d0 d;show Zs _ _ _ _ _ _ _ _ _ _ (mkF LN se t p mk lv s++[[.str "choose",.int (2+2*lv:Nat),.int p,.int mk],[.str "other",.int (3+2*lv:Nat),.int p,.int mk]]++ZY _ _ _ _ _ _ _++[if p+1+sN r<=se then Za p p (p+1) (2+2*lv) mk else Za p (p+1) p (2+2*lv) mk]) _ _ _ _ _ _ _
  have eo:(if p+1+sN r<=se then Za p p (p+1) (2+2*lv) mk else Za p (p+1) p (2+2*lv) mk)=Za p a c (2+2*lv) mk:=by
   by_cases z:p+1+sN r<=se
   .rw [if_pos z] at eac ⊢;cases eac;rfl
   .rw [if_neg z] at eac ⊢;cases eac;rfl
  rw [eo];exact dp
end
inductive ERes
 | pass
 | val (v:Int)
 | bad (z:Str)
def ERes.of:Res->ERes
 | .ok v=>.val v
 | .nought=>.bad "nought"
 | .outside=>.bad "outside"
def Xo (t:Option Res) (v:Res):ERes:=match t with
 | none=>.of v
 | some (.ok a)=>if a=0 then .pass else .of v
 | some e=>.of e
def ERes.flt:ERes->Jk
 | .bad z=>Z (.str z)
 | _=>O
def ERes.isBad:ERes->Bool
 | .bad _=>true
 | _=>false
structure Laid (S LN:J6) (L pl:Nat) (mn_ my b:Int) (mk k N:Nat) (E:Int->ERes) (cs:J6) (T:List Tch) (M0 M:Mc):Prop where
 i:InS S LN L pl mn_ my b k (cs,T) M
 wf:Wf N T M
 q:Kq M0 M
 f:∀ j:Int,zU M.fq (.inl j)=if 0<=j/\j<wid mn_ (my*L) b then (E j).flt else O
 a:∀ j:Int,j∈M.act mk↔(0<=j/\j<wid mn_ (my*L) b)/\∃ v,E j=.val v
 n:∀ j∈M.act mk,∀ v,E j=.val v->M.nq 0 j=v
theorem of_flt (r:Res) (old:Jk):(match kd r with
 | some z=>Z (V.str z)
 | none=>O)=(ERes.of r).flt:=by cases r <;> rfl
def zc2 {side:Int} {mk s:Nat} {O0_:Int->J6} {M:Mc}:Own side mk s [] O0_ M:=⟨λt ht=>absurd ht ua,λj _ i t e=>by cases e⟩
def mem_upto_iff {n:Nat} {j:Int}:j∈ZA n↔0<=j/\j<n:=by
 unfold ZA;rw [o9];constructor
 .rintro ⟨i,hi,rfl⟩
  have:=nZ.mp hi;show 0<=(i:Int)/\(i:Int)<n;omega
 .rintro ⟨h0,h1⟩
  exact ⟨j.toNat,nZ.mpr (by omega),by show (j.toNat:Int)=j;omega⟩
section
variable {Lx:Lex} {S LN:J6} {L pl:Nat} {mn_ my b:Int} {code:List (Jj)} {cs:J6}
def zfr {c:List (Jj)} {Rv:Int->Res} {T:List Tch} {M:Mc} {N:Nat} (h:StripAt S LN L pl mn_ my b (cs,T) M) (wf:Wf N T M) (hN:N+c.length*wid mn_ (my*L) b<=80000) (hc:RowsAt code (pl+1) c) (d:Zs Lx S LN L pl mn_ my b code cs c 0 0 0 0 [] (λ_=>[]) Rv) :
  ∃ n M' T',Steps Lx code n M M'/\Laid S LN L pl mn_ my b 0 (1+c.length) (N+c.length*wid mn_ (my*L) b) (λj=>Xo O (Rv j)) cs T' M M':=by
 obtain ⟨n,M',T',st,i',wf',x⟩:=d 1 T M N h.i wf hN hc zc2;refine ⟨n,M',T',st,i',wf',x.q,λj=>?_,λj=>?_,λj hj v e=>?_⟩
 .rw [x.f,h.flt,h.act]
  by_cases z:0<=j/\j<wid mn_ (my*L) b
  .rw [if_pos z]
   unfold Zy;rw [if_pos (mem_upto_iff.mpr z)];exact of_flt (Rv j) O
  .rw [if_neg z,yt (λw=>z (mem_upto_iff.mp w))];rfl
 .rw [x.actS (by decide),h.act,mem_upto_iff]
  refine and_congr_right λ_=>?_;show _↔∃ v,ERes.of (Rv j)=_
  cases Rv j with
  | ok v=>exact ⟨λ_=>⟨v,Y⟩,λ_=>rfl⟩
  | nought=>exact ⟨λw=>(by cases w),λ⟨v,w⟩=>(by cases w)⟩
  | outside=>exact ⟨λw=>(by cases w),λ⟨v,w⟩=>(by cases w)⟩
 .have a0:=((x.actS (by decide)).mp hj).1
  have e:ERes.of (Rv j)=.val v:=e;refine x.n j a0 v ?_
  cases er:Rv j with
  | ok u=>rw [er] at e;cases e;rfl
  | nought=>rw [er] at e;cases e
  | outside=>rw [er] at e;cases e
def laid_test {ct cv:List (Jj)} {Rt Rv:Int->Res} {T:List Tch} {M:Mc} {N:Nat} (hC:Lx.E "choose" (yv false)) (p8:((0:Nat)+1:Int)*my<=8) (h:StripAt S LN L pl mn_ my b (cs,T) M) (wf:Wf N T M) (hN:N+(ct.length+1+cv.length)*wid mn_ (my*L) b<=80000) (hc:RowsAt code (pl+1) (ct++[[.str "choose",.int 1,.int 0,.int 0]]++cv)) (dt:Zs Lx S LN L pl mn_ my b code cs ct 0 0 0 0 [] (λ_=>[]) Rt) (dv:Zs Lx S LN L pl mn_ my b code cs cv 0 1 0 0 [] (λ_=>[]) Rv) :
  ∃ n M' T',Steps Lx code n M M'/\Laid S LN L pl mn_ my b 1 (1+(ct.length+1+cv.length)) (N+(ct.length+1+cv.length)*wid mn_ (my*L) b) (λj=>Xo (Z (Rt j)) (Rv j)) cs T' M M':=by
 rw [pA,pA,sU] at hN ⊢;obtain ⟨n1,M1,T1,st1,i1,wf1,x1⟩:=dt 1 T M N h.i wf (by omega) hc.left.left zc2;have r2:=hc.left.right 0 _ rfl;rw [Nat.add_zero,rO] at r2;obtain ⟨M2,st2,i2,q2,f2,s2,m2,a2,n2⟩:=i1.choose2 (m:=1) (p:=0) (k':=0) hC p8 (by decide) (by decide);have r3:=hc.right;rw [Jf] at r3
 have r3':RowsAt code (pl+(1+ct.length+1)) cv:=by
  rw [show pl+(1+ct.length+1)=pl+1+(ct.length+1) by omega];exact r3
 have wf2:Wf (N+ct.length*wid mn_ (my*L) b) T1 M2:=⟨wf1.t,by rw [f2];exact wf1.f,by rw [s2];exact wf1.s,by rw [f2];exact wf1.ik,λj hj=>wf1.i0 j (by rw [f2] at hj;exact hj),λk' v' e'=>wf1.so k' v' (by rw [s2] at e';exact e')⟩;obtain ⟨n3,M3,T3,st3,i3,wf3,x3⟩:=dv (1+ct.length+1) T1 M2 _ i2 wf2 (by omega) r3' zc2
 have act2:∀ j,j∈M2.act 1↔(0<=j/\j<wid mn_ (my*L) b)/\∃ v,Rt j=.ok v/\v≠0:=λj=>by
  rw [a2];unfold Mc.chosen;rw [nI,x1.actS (by decide),h.act,mem_upto_iff];constructor
  .rintro ⟨⟨hj,hk⟩,hz⟩
   obtain ⟨v,ev⟩:=Yt hk;have:=x1.n j (by rw [h.act];exact mem_upto_iff.mpr hj) v ev;rw [this] at hz;exact ⟨hj,v,ev,λy=>by rw [y] at hz;exact absurd hz (by decide)⟩
  .rintro ⟨hj,v,ev,hz⟩
   have:=x1.n j (by rw [h.act];exact mem_upto_iff.mpr hj) v ev;rw [this];exact ⟨⟨hj,by rw [ev];rfl⟩,by rw [decide_eq_false hz];rfl⟩
 refine ⟨_,M3,T3,(st1.trans (i1.one r2 st2)).trans st3,by rw [show 1+(ct.length+1+cv.length)=1+ct.length+1+cv.length by omega];exact i3,wf3.mono (by omega),(x1.q.trans q2).trans x3.q,λj=>?_,λj=>?_,λj hj v e=>?_⟩
 .rw [x3.f,f2,x1.f,h.flt,h.act]
  by_cases z:0<=j/\j<wid mn_ (my*L) b
  .rw [if_pos z]
   unfold Zy;rw [if_pos (mem_upto_iff.mpr z)]
   cases et:Rt j with
   | ok v =>
    by_cases y:v=0
    .rw [if_neg (λw=>by obtain ⟨_,u,eu,nu⟩:=(act2 j).mp w;rw [et] at eu;cases eu;exact nu y)]
     show O=(if v=0 then ERes.pass else ERes.of (Rv j)).flt;rw [if_pos y];rfl
    .rw [if_pos ((act2 j).mpr ⟨z,v,et,y⟩)]
     show _=(if v=0 then ERes.pass else ERes.of (Rv j)).flt;rw [if_neg y];exact of_flt (Rv j) O
   | nought=>rw [if_neg (λw=>by obtain ⟨_,u,eu,nu⟩:=(act2 j).mp w;rw [et] at eu;cases eu)];rfl
   | outside=>rw [if_neg (λw=>by obtain ⟨_,u,eu,nu⟩:=(act2 j).mp w;rw [et] at eu;cases eu)];rfl
  .rw [if_neg z,yt (λw=>z ((act2 j).mp w).1),yt (λw=>z (mem_upto_iff.mp w))];rfl
 .rw [x3.actS (by decide),act2]
  constructor
  .rintro ⟨⟨hj,u,eu,nu⟩,hk⟩
   obtain ⟨v,ev⟩:=Yt hk;refine ⟨hj,v,?_⟩;show Xo (Z (Rt j)) (Rv j)=_;rw [eu,ev];show (if u=0 then ERes.pass else _)=_;rw [if_neg nu];rfl
  .rintro ⟨hj,v,e⟩
   have e:Xo (Z (Rt j)) (Rv j)=.val v:=e
   cases et:Rt j with
   | ok u =>
    rw [et] at e;have e:(if u=0 then ERes.pass else ERes.of (Rv j))=.val v:=e;by_cases y:u=0
    .rw [if_pos y] at e;cases e
    .rw [if_neg y] at e
     refine ⟨⟨hj,u,Y,y⟩,?_⟩
     cases er:Rv j with
     | ok w=>rfl
     | nought=>rw [er] at e;cases e
     | outside=>rw [er] at e;cases e
   | nought=>rw [et] at e;cases e
   | outside=>rw [et] at e;cases e
 .have a0:=((x3.actS (by decide)).mp hj).1
  have e:Xo (Z (Rt j)) (Rv j)=.val v:=e;obtain ⟨_,u,eu,nu⟩:=(act2 j).mp a0;rw [eu] at e;have e:(if u=0 then ERes.pass else ERes.of (Rv j))=.val v:=e;rw [if_neg nu] at e;refine x3.n j a0 v ?_
  cases er:Rv j with
  | ok w=>rw [er] at e;cases e;rfl
  | nought=>rw [er] at e;cases e
  | outside=>rw [er] at e;cases e
end
structure Rs (us:List (Int×Int)) (rs:Bool) (pk:J6) (N:Nat) (T:List Tch) (M:Mc):Prop where
 t:T.length<=N
 s:M.slots.length<=N
 so:SlotsOk M
 r:M.raised=rs
 u:M.turns=us
 p:M.picks=pk
def round_run {Lx:Lex} (hB:Lx.W "begin" zdh) (hX:Lx.W "next" nextW) {code:List (Jj)} {S LN:J6} {L pl n NS N0 D:Nat} {mn_ my:Int} {us:List (Int×Int)} {rs:Bool} {pk:J6} {U:Nat->J6} {C:Nat->Option Int} {Z0_:Nat->Prop} {Fin:Mc->Prop} {T:List Tch} {M:Mc} (h:RestAt S LN L pl (U 0,T) M) (hx:Rs us rs pk N0 T M) (C0:C 0=O) (Z0:Z0_ 0) (hg:my=1∨my=2∨my=4) (h1:1<=mn_)
  (c0:code[pl]?=Z [.str "begin",.int mn_,.int my]) (c3:code[pl+(n+1)]?=Z [.str "next"]) (hN:∀ i:Nat,i<NS↔(i:Int)*(my*L)<mn_)
  (go:∀ (i:Nat) (T:List Tch) (M:Mc),i<NS->StripAt S LN L pl mn_ my (i*(my*L)) (U i,T) M->Rs us rs pk (N0+i*D) T M->M.cq=C i->Z0_ i->(∃ k M' T',Steps Lx code k M M'/\InS S LN L pl mn_ my (i*(my*L)) (n+1) (U (i+1),T') M'/\Rs us rs pk (N0+(i+1)*D) T' M'/\M'.cq=C (i+1)/\Z0_ (i+1))∨(∃ k M',Steps Lx code k M M'/\Fin M')) :
  (∃ k M' T',Steps Lx code k M M'/\RestAt S LN L (pl+(n+2)) (U NS,T') M'/\Rs us rs pk (N0+NS*D) T' M'/\Z0_ NS)∨(∃ k M',Steps Lx code k M M'/\Fin M'):=by
 have l1:=h.ok.l1;have hL:=h.lq;have sd:1<=my*(L:Int):=by rcases hg with e | e | e <;> rw [e] <;> omega
 have N1:0<NS:=(hN 0).mpr (by omega);have low:∀ i:Nat,(0:Int)<=i*(my*L):=λi=>sr (by omega) (by omega);have sc:∀ i:Nat,((i+1:Nat):Int)*(my*L)=i*(my*L)+my*L:=λi=>by rw [tj,sk];show _+1*(my*(L:Int))=_;rw [Int.one_mul]
 have at_i:∀ i:Nat,i<NS->(∃ k M' T',Steps Lx code k M M'/\StripAt S LN L pl mn_ my (i*(my*L)) (U i,T') M'/\Rs us rs pk (N0+i*D) T' M'/\M'.cq=C i/\Z0_ i)∨(∃ k M',Steps Lx code k M M'/\Fin M'):=by
  intro i
  induction i with
  | zero =>
   intro _;left;have st:Step Lx [.str "begin",.int mn_,.int my] M { M.round mn_ my with pc:=M.pc+1 }:=Step.way (L:=Lx) (word:="begin") hB rfl ⟨mn_,my,Y,Y,h.ok,hg,by omega,Y,Y⟩;have sa:StripAt S LN L pl mn_ my 0 (U 0,T) { ({ M with oq:=M.pc,mn_:=mn_,group:=my,cq:=O }:Mc).strip 0 with pc:=pl+1 }:=zae ⟨h.ok.l1,h.ok.l64,h.ok.nl,h.ok.ml,h.ok.mm⟩ hg rfl rfl h.lq h.pc (by omega) h.rf h.starts h.lens h.cells h.tq;rw [h.pc] at st;refine ⟨1,_,T,.cons (by rw [h.pc];omega) h.rf (by rw [h.pc,q0z];exact c0) st .refl,?_,⟨by have:=hx.t;omega,by have:=hx.s;show M.slots.length<=_;omega,hx.so,hx.r,hx.u,hx.p⟩,C0.symm,Z0⟩;have e:((0:Nat):Int)*(my*L)=0:=by omega
   rw [e];unfold Mc.round;rw [h.pc] at sa ⊢;exact sa
  | succ i ih =>
   intro hi;rcases ih (by omega) with ⟨k,M1,T1,st,sa,ii,cc,zz⟩ | w
   rotate_left
   .exact .inr w
   have hi1:=(hN (i+1)).mp hi;rw [sc] at hi1;have hl:=low i;have hw:wid mn_ (my*L) (i*(my*L))=(my*(L:Int)).toNat:=by unfold wid;omega
   rcases go i T1 M1 (by omega) sa ii cc zz with ⟨k2,M2,T2,st2,e2,i2,c2,z2⟩ | ⟨k2,M2,st2,fi⟩
   rotate_left
   .exact .inr ⟨_,M2,st.trans st2,fi⟩
   left;have bb:M2.base+M2.bq=((i+1:Nat):Int)*(my*L):=by rw [sc,e2.base,e2.bq,hw];omega
   have st3:Step Lx [.str "next"] M2 { M2.strip (((i+1:Nat):Int)*(my*L)) with pc:=(pl:Int)+1 }:=Step.way (L:=Lx) (word:="next") hX rfl (by
    refine ⟨e2.ok.zero,by rw [e2.group];exact hg,?_⟩;rw [bb,if_pos (by rw [e2.mn_,sc];exact hi1),e2.oq];exact ⟨Y,Y⟩)
   refine ⟨k+k2+1,_,T2,(st.trans st2).trans (e2.one c3 st3),?_,⟨i2.t,i2.s,i2.so,i2.r,i2.u,i2.p⟩,c2,z2⟩;exact zae e2.ok.zero hg e2.group e2.mn_ e2.lq e2.oq (by rw [sc];omega) e2.rf e2.starts e2.lens e2.cells e2.tq
 rcases at_i (NS-1) (by omega) with ⟨k,M1,T1,st,sa,ii,cc,zz⟩ | w
 rotate_left
 .exact .inr w
 have hi0:=(hN (NS-1)).mp (by omega);have hi1:¬ ((NS-1+1:Nat):Int)*(my*L)<mn_:=λz=>by have:=(hN (NS-1+1)).mpr z;omega
 rw [sc] at hi1;have hl:=low (NS-1);have hw:(wid mn_ (my*L) ((NS-1:Nat)*(my*L)):Int)=mn_-(NS-1:Nat)*(my*L):=by unfold wid;omega
 rcases go (NS-1) T1 M1 (by omega) sa ii cc zz with ⟨k2,M2,T2,st2,e2,i2,_,z2⟩ | ⟨k2,M2,st2,fi⟩
 rotate_left
 .exact .inr ⟨_,M2,st.trans st2,fi⟩
 left
 have st3:Step Lx [.str "next"] M2 { M2 with pc:=((pl+(n+2):Nat):Int) }:=by
  refine Step.way (L:=Lx) (word:="next") hX rfl ?_;refine ⟨e2.ok.zero,by rw [e2.group];exact hg,?_⟩;rw [if_neg (by rw [e2.base,e2.bq,e2.mn_];omega),e2.pc];exact ⟨Y,by omega⟩
 have eN:NS=NS-1+1:=by omega
 refine ⟨k+k2+1,_,T2,(st.trans st2).trans (e2.one c3 st3),?_,by rw [eN];exact ⟨i2.t,i2.s,i2.so,i2.r,i2.u,i2.p⟩,by rw [eN];exact z2⟩;rw [eN];exact ⟨⟨e2.ok.l1,e2.ok.l64,e2.ok.nl,e2.ok.ml,e2.ok.mm⟩,e2.lq,e2.rf,e2.starts,e2.lens,Y,e2.cells,e2.tq⟩
def ERes.isVal:ERes->Bool
 | .val _=>true
 | _=>false
def ERes.num:ERes->Int
 | .val v=>v
 | _=>0
def ym (st:Int) (g:Nat->ERes) (m:Nat):List (Int×Int):=((nj m).filter λe=>(g e).isVal).map λe:Nat=>(st+(e:Int),(g e).num)
def ze2 (st:Int) (g:Nat->ERes) (m c:Nat):ym st g (m+c)=ym st g m++(((nj c).filter λi=>(g (m+i)).isVal).map λi:Nat=>(st+((m+i:Nat):Int),(g (m+i)).num)):=by
 unfold ym;rw [List.range_add,py,Jg,List.filter_map,oP];rfl
theorem Xe (q:Nat->Bool):∀ {n c:Nat},c<=n->(nj n).filter (λi=>decide (i<c) && q i)=(nj c).filter q
 | 0,c,h=>by rw [show c=0 by omega];rfl
 | n+1,c,h=>by
  rw [oK,py];by_cases z:c<=n
  .rw [Xe q z,p7 (by rw [decide_eq_false (by omega),tK];exact nz)]
   exact q8y _
  .have e:c=n+1:=by omega
   subst e;rw [oK,py];congr 1
   .exact tQ λi hi=>by rw [decide_eq_true (show i<n+1 by have:=nZ.mp hi;omega),Bool.true_and]
   .rw [List.filter_cons,List.filter_cons,decide_eq_true (show n<n+1 by omega),Bool.true_and];rfl
def act_list {M:Mc} {m c:Nat} {q:Nat->Bool} (h:∀ i:Nat,(i:Int)∈M.act m↔i<c/\q i=true) (hc:(c:Int)<=M.wq):M.act m=((nj c).filter q).map λi:Nat=>(i:Int):=by
 unfold Mc.act Mc.actTo;rw [← Xe q (show c<=M.wq.toNat by omega)];congr 1;refine tQ λi hi=>?_;have hi:=nZ.mp hi
 have a:(i:Int)∈M.act m↔M.isAct m i=true:=by
  rw [mem_act];unfold Mc.isAct;rw [oo,q0z];constructor
  .rintro ⟨_,_,h2,h3⟩
   exact ⟨h2,by rw [h3];rfl⟩
  .rintro ⟨h2,h3⟩
   refine ⟨by omega,by omega,h2,?_⟩
   cases e:zU M.fq (.inl (i:Int)) with
   | none=>rfl
   | some v=>rw [e] at h3;exact absurd h3 nz
 rw [tw,← a,h,oo,decide_eq_true_eq]
def StripAt.wide {S LN:J6} {L pl:Nat} {mn_ my b:Int} {s:DT} {M:Mc} (h:StripAt S LN L pl mn_ my b s M):M.wq=wid mn_ (my*L) b:=by
 have a:=h.i.wle;have w0:=h.i.ok.w0;by_cases z:M.wq=wid mn_ (my*L) b
 .exact z
 .have lt:M.wq<wid mn_ (my*L) b:=by omega
  have:M.wq∈M.act 0:=by rw [h.act];exact mem_upto_iff.mpr ⟨w0,lt⟩
  have:=(mem_act.mp this).2.1;omega
structure Ks (M M':Mc):Prop where
 f:M'.fq=M.fq
 s:M'.slots=M.slots
 m:M'.mq=M.mq
 r:M'.raised=M.raised
 u:M'.turns=M.turns
 p:M'.picks=M.picks
 c:M'.cq=M.cq
section
variable {Lx:Lex} {S LN:J6} {L pl k:Nat} {mn_ my b:Int} {s:DT} {M:Mc}
def InS.trim2 (h:InS S LN L pl mn_ my b k s M) (hS:Lx.E "trim" zab) (ik:ZW M.fq) (hf:M.fq.length<100000) (h0:∀ j∈Yn M.fq,0<=j) :
  ∃ M',Step Lx [.str "trim"] M M'/\InS S LN L pl mn_ my b (k+1) s M'/\Ks M M'/\(∀ (p':Nat) (j:Int),M'.nq p' j=M.nq p' j)/\((M.faulted=[]/\M'.wq=M.wq/\M'.cut=M.cut)∨(M.faulted≠[]/\M'.wq=Yr M.faulted/\M'.cut=Z (Yr M.faulted))):=by
 have e:zab [.str "trim"] M=Z M.trimmed:=by
  unfold zab;exact if_pos ⟨ik,hf⟩
 have st:=Step.eff (word:="trim") hS rfl e h.ok;have hpc:M.pc+1=((pl+(k+1):Nat):Int):=by rw [h.pc];omega
 unfold Mc.trimmed at st;by_cases z:M.faulted=[]
 .rw [if_pos z] at st
  exact ⟨_,st,⟨{h.ok with},h.wle,h.bq,h.base,hpc,h.oq,h.mn_,h.group,h.lq,h.rf,h.starts,h.lens,h.cells,h.tq⟩,⟨Y,Y,Y,Y,Y,Y,Y⟩,λ_ _=>rfl,.inl ⟨z,Y,Y⟩⟩
 .rw [if_neg z] at st
  have mem:=Xj _ z;have mp:=nI.mp mem;have m0:=h0 _ mp.1;have mw:Yr M.faulted<M.wq:=of_decide_eq_true mp.2;have w1:=h.ok.w1;exact ⟨_,st,⟨⟨h.ok.l1,h.ok.l64,h.ok.g,h.ok.nl,h.ok.ml,h.ok.mm,m0,Int.le_trans (Int.le_of_lt mw) w1⟩,Int.le_trans (Int.le_of_lt mw) h.wle,h.bq,h.base,hpc,h.oq,h.mn_,h.group,h.lq,h.rf,h.starts,h.lens,h.cells,h.tq⟩,⟨Y,Y,Y,Y,Y,Y,Y⟩,λ_ _=>rfl,.inr ⟨z,Y,Y⟩⟩
def InS.stop2 {n:Int} (h:InS S LN L pl mn_ my b k s M) (hS:Lx.E "stop" YO) (hc:M.cut=O):∃ M',Step Lx [.str "stop",.int n] M M'/\InS S LN L pl mn_ my b (k+1) s M'/\Ks M M':=by
 have e:YO [.str "stop",.int n] M=Z M:=by
  unfold YO;rw [hc];rfl
 have st:=Step.eff (word:="stop") hS rfl e h.ok;exact ⟨_,st,⟨{h.ok with},h.wle,h.bq,h.base,by show M.pc+1=_;rw [h.pc];omega,h.oq,h.mn_,h.group,h.lq,h.rf,h.starts,h.lens,h.cells,h.tq⟩,⟨Y,Y,Y,Y,Y,Y,Y⟩⟩
end
def Ym (may:Bool) (eff:Jj) (n:Int):List (Jj):=if may=true then [[.str "trim"],eff,[.str "stop",.int n]] else [eff]
def tail_len (may:Bool) (eff:Jj) (n:Int):(Ym may eff n).length<=3:=by cases may <;> exact sC rfl
structure LxT (Lx:Lex):Prop where
 trim:Lx.E "trim" zab
 stop:Lx.E "stop" YO
structure Cut (S LN:J6) (L pl:Nat) (mn_ my b:Int) (mk k N c:Nat) (E:Int->ERes) (cs:J6) (T:List Tch) (M0 M:Mc):Prop where
 i:InS S LN L pl mn_ my b k (cs,T) M
 t:T.length<=N
 s:M.slots.length<=N
 so:SlotsOk M
 r:M.raised=M0.raised
 u:M.turns=M0.turns
 p:M.picks=M0.picks
 ca:M.cq=M0.cq
 w:M.wq=c
 a:M.act mk=((nj c).filter λi:Nat=>(E i).isVal).map λi:Nat=>(i:Int)
 n:∀ j∈M.act mk,M.nq 0 j=(E j).num
section
variable {Lx:Lex} {S LN:J6} {L pl:Nat} {mn_ my b:Int} {code:List (Jj)} {cs:J6}
def Laid.keys {mk k N:Nat} {E:Int->ERes} {T:List Tch} {M0 M:Mc} (h:Laid S LN L pl mn_ my b mk k N E cs T M0 M) (w:M0.wq=wid mn_ (my*L) b) (j:Int):j∈M.faulted↔(0<=j/\j<wid mn_ (my*L) b)/\(E j).isBad=true:=by
 unfold Mc.faulted;rw [nI,zb0,h.f,h.q.w,w];constructor
 .rintro ⟨h1,h2⟩
  by_cases z:0<=j/\j<wid mn_ (my*L) b
  .rw [if_pos z] at h1
   refine ⟨z,?_⟩
   cases e:E j with
   | pass=>rw [e] at h1;cases h1
   | val v=>rw [e] at h1;cases h1
   | bad z=>rfl
  .rw [if_neg z] at h1;cases h1
 .rintro ⟨z,h1⟩
  rw [if_pos z];refine ⟨?_,decide_eq_true z.2⟩
  cases e:E j with
  | pass=>rw [e] at h1;cases h1
  | val v=>rw [e] at h1;cases h1
  | bad z=>rfl
def Laid.cut {mk k N c:Nat} {E:Int->ERes} {T:List Tch} {M0 M:Mc} (h:Laid S LN L pl mn_ my b mk k N E cs T M0 M) (hc:c<=wid mn_ (my*L) b) {k':Nat} {M':Mc} (i:InS S LN L pl mn_ my b k' (cs,T) M') (ks:Ks M M') (hn:∀ (p':Nat) (j:Int),M'.nq p' j=M.nq p' j) (hw:M'.wq=c) (w:M.wq=wid mn_ (my*L) b):Cut S LN L pl mn_ my b mk k' N c E cs T M0 M':=by
 have mem:∀ j:Int,j∈M'.act mk↔j∈M.act mk/\j<c:=λj=>by
  rw [mem_act,mem_act (M:=M),hw,w,ks.m,ks.f];constructor
  .rintro ⟨a,b',c',d⟩;exact ⟨⟨a,by omega,c',d⟩,b'⟩
  .rintro ⟨⟨a,_,c',d⟩,b'⟩;exact ⟨a,b',c',d⟩
 refine ⟨i,h.wf.t,by rw [ks.s];exact h.wf.s,λk v e=>h.wf.so k v (by rw [ks.s] at e;exact e),ks.r.trans h.q.rs,ks.u.trans h.q.tu,ks.p.trans h.q.pk,ks.c.trans h.q.car,hw,act_list (λn=>?_) (by rw [hw];exact tm _),λj hj=>?_⟩
 .rw [mem,h.a]
  constructor
  .rintro ⟨⟨_,v,e⟩,hc'⟩
   exact ⟨by omega,by rw [e];rfl⟩
  .rintro ⟨hc',e⟩
   refine ⟨⟨⟨by omega,by omega⟩,?_⟩,by omega⟩
   cases ev:E (n:Int) with
   | val v=>exact ⟨v,Y⟩
   | pass=>rw [ev] at e;cases e
   | bad z=>rw [ev] at e;cases e
 .have hj':=((mem j).mp hj).1
  obtain ⟨_,v,e⟩:=(h.a j).mp hj';rw [hn,h.n j hj' v e,e];rfl
def Laid.trim {mk k N:Nat} {E:Int->ERes} {T:List Tch} {M0 M:Mc} (lx:LxT Lx) (h:Laid S LN L pl mn_ my b mk k N E cs T M0 M) (w:M0.wq=wid mn_ (my*L) b) (c0:M0.cut=O) (hN:N<=80000) (r:code[pl+k]?=Z [.str "trim"]) :
  ∃ (c:Nat) (M':Mc),Steps Lx code 1 M M'/\Cut S LN L pl mn_ my b mk (k+1) N c E cs T M0 M'/\c<=wid mn_ (my*L) b/\(∀ i:Nat,i<c->(E i).isBad=false)/\((c=wid mn_ (my*L) b/\M'.cut=O)∨(c<wid mn_ (my*L) b/\∃ z,E c=.bad z/\M'.cut=Z (c:Int)/\zU M'.fq (.inl (c:Int))=Z (.str z))):=by
 have mw:M.wq=wid mn_ (my*L) b:=h.q.w.trans w;obtain ⟨M',st,i',ks,hn,hw⟩:=h.i.trim2 lx.trim h.wf.ik (by have:=h.wf.f;omega) (λj hj=>h.wf.i0 j ((zb0 _ _).mp hj));rcases hw with ⟨z,w1,c1⟩ | ⟨z,w1,c1⟩
 .refine ⟨wid mn_ (my*L) b,M',h.i.one r st,h.cut (m8 _) i' ks hn (w1.trans mw) mw,m8 _,λi hi=>?_,.inl ⟨Y,c1.trans (h.q.cut.trans c0)⟩⟩
  cases e:(E (i:Int)).isBad with
  | false=>rfl
  | true =>
   have:(i:Int)∈M.faulted:=(h.keys w i).mpr ⟨⟨by omega,by omega⟩,e⟩;rw [z] at this;cases this
 .have mm:=Xj _ z
  obtain ⟨⟨m0,m1⟩,mb⟩:=(h.keys w _).mp mm;have lt:∀ j∈M.faulted,Yr M.faulted<=j:=zc8 _;obtain ⟨c,ec⟩:∃ c:Nat,Yr M.faulted=c:=⟨(Yr M.faulted).toNat,by omega⟩;rw [ec] at m0 m1 mb lt w1 c1
  obtain ⟨y,ey⟩:∃ y,E (c:Int)=.bad y:=by
   cases e:E (c:Int) with
   | pass=>rw [e] at mb;cases mb
   | val v=>rw [e] at mb;cases mb
   | bad y=>exact ⟨y,Y⟩
  refine ⟨c,M',h.i.one r st,h.cut (by omega) i' ks hn w1 mw,by omega,λi hi=>?_,.inr ⟨by omega,y,ey,c1,?_⟩⟩
  .cases e:(E (i:Int)).isBad with
   | false=>rfl
   | true =>
    have:=lt _ ((h.keys w i).mpr ⟨⟨by omega,by omega⟩,e⟩);omega
  .rw [ks.f,h.f,if_pos ⟨m0,m1⟩,ey];rfl
def Laid.all {mk k N:Nat} {E:Int->ERes} {T:List Tch} {M0 M:Mc} (h:Laid S LN L pl mn_ my b mk k N E cs T M0 M) (w:M0.wq=wid mn_ (my*L) b):Cut S LN L pl mn_ my b mk k N (wid mn_ (my*L) b) E cs T M0 M :=
 h.cut (m8 _) h.i ⟨Y,Y,Y,Y,Y,Y,Y⟩ (λ_ _=>rfl) (h.q.w.trans w) (h.q.w.trans w)
def Cut.store {mk k N c tg B:Nat} {E:Int->ERes} {g:Nat->ERes} {cs0:J6} {T:List Tch} {M0 M:Mc} (hS:Lx.E "store" xI) (p8:((0:Nat)+1:Int)*my<=8) (m16:mk<16) (h:Cut S LN L pl mn_ my b mk k N c E cs T M0 M) (hc:c<=wid mn_ (my*L) b) (hb:b=(B:Int)) (hE:∀ i:Nat,i<wid mn_ (my*L) b->E i=g (B+i)) (ec:cs=z7 cs0 (ym (S.getD tg 0) g B)) (hN:N+wid mn_ (my*L) b<=80000) (ht:tg<S.length) (it:0<=S.getD tg 0/\S.getD tg 0+mn_<=cs.length) (r:code[pl+k]?=Z [.str "store",.int tg,.int 0,.int mk]) :
  ∃ M' T',Steps Lx code 1 M M'/\InS S LN L pl mn_ my b (k+1) (z7 cs0 (ym (S.getD tg 0) g (B+c)),T') M'/\(T'.length<=N+wid mn_ (my*L) b/\Kp M M'/\M'.fq=M.fq):=by
 have al:=h.i.len mk;have ht':=h.t;obtain ⟨M',st,i',⟨kp,hf⟩,_⟩:=h.i.storeO (q:=tg) (p:=0) (m:=mk) (F:=λe=>(E (e-b)).num) hS p8 m16 ht (by omega) it (by show T.length+_<_;omega) (λj hj=>by rw [h.n j hj,show b+j-b=j by omega])
 have e:z7 cs ((((M.act mk).map (b+·)).map λe=>(S.getD tg 0+e,(E (e-b)).num)))=z7 cs0 (ym (S.getD tg 0) g (B+c)):=by
  rw [ze2,ec];unfold z7;rw [oN];congr 1;rw [h.a,oP,oP];have ef:(nj c).filter (λi:Nat=>(E i).isVal)=(nj c).filter λi=>(g (B+i)).isVal:=tQ λi hi=>by rw [hE i (by have:=nZ.mp hi;omega)]
  rw [ef];refine pR λi hi=>?_;have hi:=nZ.mp (nI.mp hi).1;show (S.getD tg 0+(b+(i:Int)),(E (b+(i:Int)-b)).num)=_;rw [show b+(i:Int)-b=i by omega,hE i (by omega),hb,tj]
 have e':(z7 (cs,T).1 ((((M.act mk).map (b+·)).map λe=>(S.getD tg 0+e,(E (e-b)).num))))=z7 cs0 (ym (S.getD tg 0) g (B+c)):=e;rw [e'] at i';refine ⟨M',_,h.i.one r st,i',?_,kp,hf⟩;show (T++_).length<=_;rw [Jf,Je,Je];omega
def strip_let {mk k N tg B:Nat} {n:Int} {E:Int->ERes} {g:Nat->ERes} {may:Bool} {us:List (Int×Int)} {rs:Bool} {pk:J6} {cs0:J6} {T:List Tch} {M0 M:Mc} (lx:LxT Lx) (hS:Lx.E "store" xI) (p8:((0:Nat)+1:Int)*my<=8) (m16:mk<16) (h:Laid S LN L pl mn_ my b mk k N E cs T M0 M) (w:M0.wq=wid mn_ (my*L) b) (c0:M0.cut=O) (hr:M0.raised=rs) (hu:M0.turns=us) (hp:M0.picks=pk) (hca:M0.cq=O) (hb:b=(B:Int)) (hE:∀ i:Nat,i<wid mn_ (my*L) b->E i=g (B+i)) (hmay:may=false->∀ e,(g e).isBad=false) (ec:cs=z7 cs0 (ym (S.getD tg 0) g B)) (hN:N+wid mn_ (my*L) b<=80000) (ht:tg<S.length) (it:0<=S.getD tg 0/\S.getD tg 0+mn_<=cs.length) (r:RowsAt code (pl+k) (Ym may [.str "store",.int tg,.int 0,.int mk] n)) :
  (∃ m M' T',Steps Lx code m M M'/\InS S LN L pl mn_ my b (k+(Ym may [.str "store",.int tg,.int 0,.int mk] n).length) (z7 cs0 (ym (S.getD tg 0) g (B+wid mn_ (my*L) b)),T') M'/\Rs us rs pk (N+wid mn_ (my*L) b) T' M'/\M'.cq=O/\∀ i:Nat,i<wid mn_ (my*L) b->(g (B+i)).isBad=false)∨(∃ m M' c z,Steps Lx code m M M'/\M'.rq_=Z (n,((B+c:Nat):Int),z)/\M'.cells=z7 cs0 (ym (S.getD tg 0) g (B+c))/\c<wid mn_ (my*L) b/\g (B+c)=.bad z/\∀ i:Nat,i<c->(g (B+i)).isBad=false):=by
 have rsd:∀ {c k':Nat} {M1 M2:Mc} {T':List Tch},Cut S LN L pl mn_ my b mk k' N c E cs T M0 M1->T'.length<=N+wid mn_ (my*L) b->Kp M1 M2->Rs us rs pk (N+wid mn_ (my*L) b) T' M2:=λhc tl kp=>⟨tl,by rw [kp.slots];have:=hc.s;omega,λk v e=>hc.so k v (by rw [kp.slots] at e;exact e),kp.raised.trans (hc.r.trans hr),kp.turns.trans (hc.u.trans hu),kp.picks.trans (hc.p.trans hp)⟩
 cases may with
 | false =>
  have hc:=h.all w;obtain ⟨M',T',st,i',tl,kp,_⟩:=hc.store hS p8 m16 (m8 _) hb hE ec hN ht it (r 0 _ rfl);exact .inl ⟨1,M',T',st,i',rsd hc tl kp,kp.cq.trans (hc.ca.trans hca),λi _=>hmay rfl _⟩
 | true =>
  obtain ⟨c,M1,st1,hc,cw,hbad,fin⟩:=h.trim lx w c0 (by omega) (r 0 _ rfl);obtain ⟨M2,T2,st2,i2,tl,kp,hf2⟩:=hc.store hS p8 m16 cw hb hE ec hN ht it (r 1 _ rfl);rcases fin with ⟨e,cn⟩ | ⟨lt,z,ez,cc,fz⟩
  .obtain ⟨M3,st3,i3,ks⟩:=i2.stop2 (n:=n) lx.stop (kp.cut.trans cn)
   have rs2:=rsd hc tl kp;rw [e] at i3;refine .inl ⟨_,M3,T2,(st1.trans st2).trans (i2.one (r 2 _ rfl) st3),i3,⟨rs2.t,by rw [ks.s];exact rs2.s,λk v e=>rs2.so k v (by rw [ks.s] at e;exact e),ks.r.trans rs2.r,ks.u.trans rs2.u,ks.p.trans rs2.p⟩,ks.c.trans (kp.cq.trans (hc.ca.trans hca)),λi hi=>?_⟩;rw [← hE i hi];exact hbad i (by omega)
  .obtain ⟨M3,st3,rf,ce,_⟩:=i2.stopAt (n:=n) (c:=(c:Int)) (z:=z) lx.stop (kp.cut.trans cc) (by rw [hf2];exact fz)
   refine .inr ⟨_,M3,c,z,(st1.trans st2).trans (i2.one (r 2 _ rfl) st3),?_,ce,lt,by rw [← hE c lt];exact ez,λi hi=>?_⟩
   .rw [rf,hb,tj]
   .rw [← hE i (by omega)]
    exact hbad i hi
end
def xr (tv:Jj):Bool:=decide (tv[0]?=Z (.str "gather")) || decide (tv[0]?=Z (.str "reach")) || (decide (tv[0]?=Z (.str "op")) && (decide (tv[2]?=Z (.str "/")) || decide (tv[2]?=Z (.str "rest"))))
def xE:F2.Fm->Bool
 | .at' _ _=>true
 | .pair sg l r=>xE l || xE r || (decide (sg="/") || decide (sg="rest"))
 | .cho t l r=>xE t || xE l || xE r
 | _=>false
def any_two {fits:Prop} [Decidable fits] {c1 c2 c2':List (Jj)} {p s mk:Nat} {x y:Bool} (h1:c1.any xr=x) (h2:c2.any xr=y) (h2':c2'.any xr=y):(ZY fits c1 c2 c2' p s mk).any xr=(x || y):=by
 unfold ZY
 split
 .rw [oY,h1,h2]
 .rw [oY,oY,oY,h1,h2']
  show (x || (xr (saveT s p mk) || false) || y || (xr (bringT (p+1) s mk) || false))=_;rw [show xr (saveT s p mk)=false by rfl,show xr (bringT (p+1) s mk)=false by rfl];simp
def may_op (p:Nat) (sg:Str) (a c mk:Nat):xr (opT p sg a c mk)=(decide (sg="/") || decide (sg="rest")):=by
 have e:∀ z:Str,decide ((opT p sg a c mk)[2]?=Z (.str z))=decide (sg=z):=λz=>decide_eq_decide.mpr ⟨λh=>V.str.inj (nR h),λh=>by rw [h];rfl⟩;unfold xr;rw [e,e];rfl
theorem Z4 (mB:J6) (se:Nat):∀ (F:F2.Fm) (p mk lv s:Nat),Fit F->(mkF mB se F p mk lv s).any xr=xE F
 | .num n,p,mk,lv,s,_=>rfl
 | .cell r,p,mk,lv,s,_=>by
  show ((xr (if mB.getD r.toNat 0=1 then _ else _)) || false)=false
  split <;> rfl
 | .pair sg l r,p,mk,lv,s,hf=>by
  show (ZY _ _ _ _ _ _ _++[if p+1+sN r<=se then _ else _]).any xr=_;rw [oY,any_two (Z4 mB se l p mk lv s hf.1) (Z4 mB se r _ mk lv _ hf.2) (Z4 mB se r _ mk lv _ hf.2)];show (_ || (xr (if p+1+sN r<=se then opT p sg p (p+1) mk else opT p sg (p+1) p mk) || false))=(xE l || xE r || (decide (sg="/") || decide (sg="rest")));rw [tY];congr 1
  split <;> exact may_op _ _ _ _ _
 | .cho t l r,p,mk,lv,s,hf=>by
  show (mkF mB se t p mk lv s++[_,_]++ZY _ _ _ _ _ _ _++[if p+1+sN r<=se then Za p p (p+1) (2+2*lv) mk else Za p (p+1) p (2+2*lv) mk]).any xr=_;rw [oY,oY,oY,Z4 mB se t p mk lv s hf.1,any_two (Z4 mB se l p _ _ s hf.2.1) (Z4 mB se r _ _ _ _ hf.2.2) (Z4 mB se r _ _ _ _ hf.2.2)];have e1:[[V.str "choose",.int (2+2*lv:Nat),.int p,.int mk],[.str "other",.int (3+2*lv:Nat),.int p,.int mk]].any xr=false:=rfl
  have e2:[if p+1+sN r<=se then Za p p (p+1) (2+2*lv) mk else Za p (p+1) p (2+2*lv) mk].any xr=false:=by
   split <;> rfl
  rw [e1,e2,tY,tY,← Bool.or_assoc];rfl
def done_some {sg:Str} (a c:Int) (h:(decide (sg="/") || decide (sg="rest"))=false):(doneR sg a c).isSome=true:=by
 obtain ⟨h1,h2⟩:=pF.mp h;have h1:=of_decide_eq_false h1;have h2:=of_decide_eq_false h2;unfold doneR
 repeat' split
 all_goals first | rfl | contradiction
theorem sure {cl:Int->J6->Res} {S:SpotD}:∀ F:F2.Fm,Fit F->xE F=false->kd (F2.ev cl S F)=O
 | .num n,_,_=>rfl
 | .cell r,_,_=>by
  show kd (if S.len r=1 then _ else _)=O
  split <;> rfl
 | .pair sg l r,hf,h=>by
  obtain ⟨h12,h3⟩:=pF.mp h;obtain ⟨h1,h2⟩:=pF.mp h12;obtain ⟨v,ev⟩:=Yt (sure (cl:=cl) (S:=S) l hf.1 h1);obtain ⟨u,eu⟩:=Yt (sure (cl:=cl) (S:=S) r hf.2 h2);show kd (Zw sg (F2.ev cl S l) (F2.ev cl S r))=O;rw [ev,eu]
  show kd (match doneR sg v u with
   | some n=>.ok n
   | none=>.nought)=O
  have:=done_some (sg:=sg) v u h3
  cases e:doneR sg v u with
  | none=>rw [e] at this;cases this
  | some w=>rfl
 | .cho t l r,hf,h=>by
  obtain ⟨h12,h3⟩:=pF.mp h;obtain ⟨h1,h2⟩:=pF.mp h12;obtain ⟨v,ev⟩:=Yt (sure (cl:=cl) (S:=S) t hf.1 h1);unfold F2.ev;rw [ev];show kd (if v≠0 then _ else _)=O
  split
  .exact sure l hf.2.1 h2
  .exact sure r hf.2.2 h3
def Zz (tg:Int):F2.Fm->Prop
 | .cell r=>r≠tg
 | .shi r _ _=>r≠tg
 | .at' r p=>r≠tg/\Zz tg p
 | .pair _ l r=>Zz tg l/\Zz tg r
 | .cho t l r=>Zz tg t/\Zz tg l/\Zz tg r
 | _=>True
theorem Z8 {cl:Int->J6->Res} {fs:List F2.Fn} {kk:Nat} {tg:Int} {LN cs cs' own:J6} {e:Int} (hc:∀ r:Int,0<=r->r.toNat<LN.length->r≠tg->∀ q,0<=q->q<LN.getD r.toNat 0->(⟨LN,cs,e,own⟩:SpotD).cellAt r q=(⟨LN,cs',e,own⟩:SpotD).cellAt r q):∀ F:F2.Fm,Fit F->Zz tg F->F2.WF fs kk ⟨LN,cs,e,own⟩ F->F2.ev cl ⟨LN,cs,e,own⟩ F=F2.ev cl ⟨LN,cs',e,own⟩ F
 | .num n,_,_,_=>rfl
 | .cell r,_,hn,w=>by
  obtain ⟨⟨r0,r1⟩,l1,pl⟩:=w;have l1:1<=LN.getD r.toNat 0:=l1;show (if LN.getD r.toNat 0=1 then FM.Res.ok _ else FM.Res.ok _)=if LN.getD r.toNat 0=1 then FM.Res.ok _ else FM.Res.ok _;by_cases z:LN.getD r.toNat 0=1
  .rw [if_pos z,if_pos z,hc r r0 r1 hn 0 (by omega) (by omega)]
  .rw [if_neg z,if_neg z,hc r r0 r1 hn e (pl z).1 (pl z).2]
 | .pair sg l r,hf,hn,w=>by
  show Zw sg (F2.ev cl ⟨LN,cs,e,own⟩ l) (F2.ev cl ⟨LN,cs,e,own⟩ r)=Zw sg (F2.ev cl ⟨LN,cs',e,own⟩ l) (F2.ev cl ⟨LN,cs',e,own⟩ r);rw [Z8 hc l hf.1 hn.1 w.2.1,Z8 hc r hf.2 hn.2 w.2.2]
 | .cho t l r,hf,hn,w=>by
  unfold F2.ev;rw [Z8 hc t hf.1 hn.1 w.1,Z8 hc l hf.2.1 hn.2.1 w.2.1,Z8 hc r hf.2.2 hn.2.2 w.2.2]
def zdq {cs:J6} {ps:List (Int×Int)} {i:Nat} (h:∀ p∈ps,p.1.toNat≠i):(z7 cs ps).getD i 0=cs.getD i 0:=by
 induction ps generalizing cs with
 | nil=>rfl
 | cons p ps ih =>
  show (z7 (cs.set p.1.toNat p.2) ps).getD i 0=_;rw [ih λq hq=>h q (q6y _ hq),q6x,nV (h p q6z),← q6x]
def ze9 {P:Int->Prop} {cs:J6} {ps:List (Int×Int)} (h:∀ v∈cs,P v) (hp:∀ p∈ps,P p.2):∀ v∈z7 cs ps,P v:=by
 induction ps generalizing cs with
 | nil=>exact h
 | cons p ps ih =>
  refine ih (λv hv=>?_) λq hq=>hp q (q6y _ hq);rcases rE hv with hv | rfl
  .exact h v hv
  .exact hp p q6z
def zac {ns:J6} (h:∀ v∈ns,0<=v) {r r':Nat} (hr:r<r') (hl:r<ns.length):(ns.take r).sum+ns.getD r 0<=(ns.take r').sum:=by
 rw [← YN ns r hl];have:=yN (ns.take r') (r+1) λv hv=>h v (List.mem_of_mem_take hv);rw [List.take_take,sV (by omega)] at this;exact this.2
def row_keep {LN cs0 own:J6} {e:Int} {tg m:Nat} {g:Nat->ERes} (hp:∀ v∈LN,0<=v) (ht:tg<LN.length) (hm:(m:Int)<=LN.getD tg 0):∀ r:Int,0<=r->r.toNat<LN.length->r≠tg->∀ q,0<=q->q<LN.getD r.toNat 0->(⟨LN,z7 cs0 (ym ((zG LN).getD tg 0) g m),e,own⟩:SpotD).cellAt r q=(⟨LN,cs0,e,own⟩:SpotD).cellAt r q:=λr r0 r1 rn q q0 q1=>by
 refine zdq λp hp'=>?_;obtain ⟨i,hi,rfl⟩:=o9.mp hp';have hi:=nZ.mp (nI.mp hi).1;show ((zG LN).getD tg 0+(i:Int)).toNat≠((LN.take r.toNat).sum+q).toNat;rw [Yy ht];have s1:=(yN LN tg hp).1;have s2:=(yN LN r.toNat hp).1;have ne:r.toNat≠tg:=λz=>rn (by omega);rcases Nat.lt_or_gt_of_ne ne with z | z
 .have:=zac hp z r1
  omega
 .have:=zac hp z ht
  omega
def maskOf:Option F2.Fm->Nat
 | none=>0
 | some _=>1
def yx (mB:J6) (se:Nat) (t:Option F2.Fm) (v:F2.Fm):List (Jj):=match t with
 | none=>mkF mB se v 0 0 0 0
 | some t=>mkF mB se t 0 0 0 0++[[.str "choose",.int 1,.int 0,.int 0]]++mkF mB se v 0 1 0 0
def Yu:Option F2.Fm->Bool
 | none=>false
 | some t=>xE t
def FitT:Option F2.Fm->Prop
 | none=>True
 | some t=>Fit t/\cD t<=7
def Z1 (mn_ g:Int) (body:List (Jj)) (may:Bool) (eff:Jj) (n:Int):List (Jj):=[[.str "begin",.int mn_,.int g]]++body++Ym may eff n++[[.str "next"]]
def Y1 (tg mk:Nat):Jj:=[.str "store",.int tg,.int 0,.int mk]
def any_body (mB:J6) (se:Nat) {t:Option F2.Fm} {v:F2.Fm} (ft:FitT t) (fv:Fit v):(yx mB se t v).any xr=(Yu t || xE v):=by
 cases t with
 | none=>exact Z4 mB se v 0 0 0 0 fv
 | some t =>
  show (mkF mB se t 0 0 0 0++[_]++mkF mB se v 0 1 0 0).any xr=_;rw [oY,oY,Z4 mB se t 0 0 0 0 ft.1,Z4 mB se v 0 1 0 0 fv];show (xE t || (false || false) || xE v)=_;rw [tY,tY];rfl
def YL (fs:List F2.Fn) (kk:Nat) (LN cs:J6) (t:Option F2.Fm) (v:F2.Fm) (e:Nat):ERes:=Xo (t.map λt=>F2.worth fs kk ⟨LN,cs,(e:Int),[]⟩ t) (F2.worth fs kk ⟨LN,cs,(e:Int),[]⟩ v)
structure StepOk (fs:List F2.Fn) (kk:Nat) (LN:J6) (mn_:Int) (t:Option F2.Fm) (v:F2.Fm):Prop where
 fv:Fit v
 ft:FitT t
 dv:cD v<=7
 bo:F2.Bodies fs
 m1:1<=mn_
 m4:mn_<=400
 wv:∀ (cs:J6) (e:Int),0<=e->e<mn_->F2.WF fs kk ⟨LN,cs,e,[]⟩ v
 wt:∀ f,t=Z f->∀ (cs:J6) (e:Int),0<=e->e<mn_->F2.WF fs kk ⟨LN,cs,e,[]⟩ f
 ln:∀ v∈LN,0<=v
 cal:∀ (cs cs':J6) (e:Int),F2.callK fs ⟨LN,cs,e,[]⟩ kk=F2.callK fs ⟨LN,cs',e,[]⟩ kk
structure LxR (Lx:Lex):Prop where
 f:LxF Lx
 t:LxT Lx
 bg:Lx.W "begin" zdh
 nx:Lx.W "next" nextW
 ch:Lx.E "choose" (yv false)
section
variable {Lx:Lex} {LN:J6} {L pl se:Nat} {mn_ my b:Int} {code:List (Jj)} {cs:J6} {fs:List F2.Fn} {kk:Nat} {t:Option F2.Fm} {v:F2.Fm}
def X0 (hs:StepOk fs kk LN mn_ t v) (hc:(cs.length:Int)=LN.sum) (ck:∀ x∈cs,Kin x) {e:Int} (e0:0<=e) (e1:e<mn_):FM.SpotOk ⟨LN,cs,e,[]⟩:=by
 have:=hs.m4;exact ⟨hs.ln,hc,ck,(λx hx=>nomatch hx),⟨by show -9223372036854775808<=e;omega,by show e<=9223372036854775807;omega⟩⟩
def ze5 {N:Nat} {T:List Tch} {M:Mc} (lx:LxR Lx) (hs:StepOk fs kk LN mn_ t v) (h:RowsOk LN cs mn_ my b L se) (hc:(cs.length:Int)=LN.sum) (ck:∀ x∈cs,Kin x) (sa:StripAt (zG LN) LN L pl mn_ my b (cs,T) M) (wf:Wf N T M) (hN:N+(yx LN se t v).length*wid mn_ (my*L) b<=80000) (r:RowsAt code (pl+1) (yx LN se t v)) :
  ∃ n M' T',Steps Lx code n M M'/\Laid (zG LN) LN L pl mn_ my b (maskOf t) (1+(yx LN se t v).length) (N+(yx LN se t v).length*wid mn_ (my*L) b) (λj=>Xo (t.map λf=>F2.worth fs kk ⟨LN,cs,b+j,[]⟩ f) (F2.worth fs kk ⟨LN,cs,b+j,[]⟩ v)) cs T' M M':=by
 have b0:=h.b0;have g:=h.g
 have se2:2<=se:=by
  have:=h.se;rcases g with e | e | e <;> rw [e] at this <;> omega
 have hk:∀ j,0<=b+j->b+j<mn_->∀ (a:Int) l n,0<=a->a.toNat<kk->a.toNat<fs.length->l.length=F2.handsOf fs a->(∀ v∈l,Kin v)->F2.callK fs ⟨LN,cs,b+j,[]⟩ kk a l=.ok n->Kin n:=λj j0 j1 a l n a0 a1 a2 a3 a4 e=>F2.call_kin hs.bo (X0 hs hc ck j0 j1) kk a l n a0 a1 a2 a3 a4 e;have dv:∀ mk,mk<2->Zs Lx (zG LN) LN L pl mn_ my b code cs (mkF LN se v 0 mk 0 0) 0 mk 0 0 [] (λ_=>[]) (λj=>F2.worth fs kk ⟨LN,cs,b+j,[]⟩ v):=λmk hm=>exec (O0_:=λ_=>[]) (cl:=λj=>F2.callK fs ⟨LN,cs,b+j,[]⟩ kk) lx.f h hk v 0 mk 0 0 [] hs.fv (by omega) (by have:=hs.dv;omega) (by omega) (λj j0 j1=>⟨hs.wv cs _ j0 j1,X0 hs hc ck j0 j1⟩)
 cases t with
 | none=>exact zfr sa wf hN r (dv 0 (by decide))
 | some f =>
  have dt:Zs Lx (zG LN) LN L pl mn_ my b code cs (mkF LN se f 0 0 0 0) 0 0 0 0 [] (λ_=>[]) (λj=>F2.worth fs kk ⟨LN,cs,b+j,[]⟩ f):=exec (O0_:=λ_=>[]) (cl:=λj=>F2.callK fs ⟨LN,cs,b+j,[]⟩ kk) lx.f h hk f 0 0 0 0 [] hs.ft.1 (by decide) (by have:=hs.ft.2;omega) (by omega) (λj j0 j1=>⟨hs.wt f rfl cs _ j0 j1,X0 hs hc ck j0 j1⟩)
  have el:(yx LN se (Z f) v).length=(mkF LN se f 0 0 0 0).length+1+(mkF LN se v 0 1 0 0).length:=by
   show (mkF LN se f 0 0 0 0++[_]++mkF LN se v 0 1 0 0).length=_;rw [Jf,Jf];rfl
  rw [el] at hN ⊢;exact laid_test lx.ch (h.p8 (p:=0) (by omega)) sa wf hN r dt (dv 1 (by decide))
def eOut_kin {r:Option Res} {x:Res} {u:Int} (h:Xo r x=.val u) (hx:∀ u,x=.ok u->Kin u):Kin u:=by
 have of:∀ y:Res,ERes.of y=.val u->y=.ok u:=λy e=>by cases y <;> cases e;rfl
 cases r with
 | none=>exact hx u (of x h)
 | some y =>
  cases y with
  | ok a =>
   have h:(if a=0 then ERes.pass else ERes.of x)=.val u:=h
   split at h
   .cases h
   .exact hx u (of x h)
  | nought=>cases h
  | outside=>cases h
def gLet_kin (hs:StepOk fs kk LN mn_ t v) (hc:(cs.length:Int)=LN.sum) (ck:∀ x∈cs,Kin x) {e:Nat} (he:(e:Int)<mn_) {u:Int} (h:YL fs kk LN cs t v e=.val u):Kin u :=
 eOut_kin h λu e'=>F2.worth_kin hs.bo (X0 hs hc ck (by omega) he) (hs.wv cs _ (by omega) he) e'
def bad_may (hs:StepOk fs kk LN mn_ t v) (h:(Yu t || xE v)=false) (e:Nat):(YL fs kk LN cs t v e).isBad=false:=by
 obtain ⟨h1,h2⟩:=pF.mp h;obtain ⟨x,ex⟩:=Yt (sure (cl:=F2.callK fs ⟨LN,cs,(e:Int),[]⟩ kk) (S:=⟨LN,cs,(e:Int),[]⟩) v hs.fv h2)
 cases t with
 | none =>
  show (ERes.of (F2.ev _ _ v)).isBad=false;rw [ex];rfl
 | some f =>
  obtain ⟨y,ey⟩:=Yt (sure (cl:=F2.callK fs ⟨LN,cs,(e:Int),[]⟩ kk) (S:=⟨LN,cs,(e:Int),[]⟩) f hs.ft.1 h1);show (Xo (Z (F2.ev _ _ f)) (F2.ev _ _ v)).isBad=false;rw [ex,ey];show (if y=0 then ERes.pass else ERes.val x).isBad=false
  split <;> rfl
def ze4 {mn_ side:Int} {NS:Nat} (h1:1<=mn_) (sd:1<=side) (hN:∀ i:Nat,i<NS↔(i:Int)*side<mn_):(NS:Int)*min side mn_<=2*mn_:=by
 by_cases z:NS=0
 .subst z;omega
 .have a:=(hN (NS-1)).mp (by omega)
  by_cases y:side<=mn_
  .rw [Int.min_eq_left y]
   have e:(NS:Int)*side=((NS-1:Nat):Int)*side+side:=by
    rw [show (NS:Int)=((NS-1:Nat):Int)+1 by omega,sk,Int.one_mul]
   omega
  .have n1:NS=1:=by
    rcases Nat.lt_or_ge 1 NS with w | w
    .have b:=(hN 1).mp w
     omega
    .omega
   subst n1;omega
def bw_step {mn_:Int} {x s:Nat} (h:(x:Int)<mn_):wid mn_ s x<=(min (s:Int) mn_).toNat/\min (x+s) mn_.toNat=x+wid mn_ s x:=by
 obtain ⟨n,rfl⟩:∃ n:Nat,mn_=n:=⟨mn_.toNat,by omega⟩;rw [q0z];unfold wid;rcases Int.le_total (n:Int) (x+s) with z | z
 .rw [Int.min_eq_left z,Nat.min_eq_right (by omega)]
  exact ⟨Int.toNat_le_toNat (Int.le_min.mpr ⟨by omega,by omega⟩),by omega⟩
 .rw [Int.min_eq_right z,sV (by omega)]
  exact ⟨Int.toNat_le_toNat (Int.le_min.mpr ⟨by omega,by omega⟩),by omega⟩
def round_let {N0 tg:Nat} {n:Int} {us:List (Int×Int)} {rs:Bool} {pk:J6} {T:List Tch} {M:Mc} (lx:LxR Lx) (hS:Lx.E "store" xI) (hs:StepOk fs kk LN mn_ t v) (hg:my=1∨my=2∨my=4) (hse:(se:Int)*my=8) (hc:(cs.length:Int)=LN.sum) (ck:∀ x∈cs,Kin x) (ht:tg<LN.length) (hm:mn_=LN.getD tg 0) (nv:Zz tg v) (nt:∀ f,t=Z f->Zz tg f) (h:RestAt (zG LN) LN L pl (cs,T) M) (hx:Rs us rs pk N0 T M) (hN0:(N0:Int)+2*mn_*((yx LN se t v).length+1)<=80000)
  (r:RowsAt code pl (Z1 mn_ my (yx LN se t v) (Yu t || xE v) (Y1 tg (maskOf t)) n)) :
  (∃ k M' T',Steps Lx code k M M'/\RestAt (zG LN) LN L (pl+(Z1 mn_ my (yx LN se t v) (Yu t || xE v) (Y1 tg (maskOf t)) n).length) (z7 cs (ym ((zG LN).getD tg 0) (YL fs kk LN cs t v) mn_.toNat),T') M'/\Rs us rs pk (N0+(2*mn_*((yx LN se t v).length+1)).toNat) T' M'/\∀ e:Nat,(e:Int)<mn_->(YL fs kk LN cs t v e).isBad=false) ∨
  (∃ k M',Steps Lx code k M M'/\∃ (e:Nat) (z:Str),(e:Int)<mn_/\YL fs kk LN cs t v e=.bad z/\(∀ i:Nat,i<e->(YL fs kk LN cs t v i).isBad=false)/\M'.rq_=Z (n,(e:Int),z)/\M'.cells=z7 cs (ym ((zG LN).getD tg 0) (YL fs kk LN cs t v) e)):=by
 have l1:=h.ok.l1;have hL:=h.lq;have m1:=hs.m1;have sd:1<=my*(L:Int):=by rcases hg with e | e | e <;> rw [e] <;> omega
 obtain ⟨side,es⟩:∃ n:Nat,my*(L:Int)=n:=⟨(my*(L:Int)).toNat,by omega⟩;obtain ⟨NS,_,hN⟩:=size_iff m1 sd;have few:=ze4 m1 sd hN;have st0:=zd1 (ns:=LN) (r:=tg) (m:=mn_) hs.ln ht (by omega);rw [← Yy ht,← hc] at st0;have hN':∀ i:Nat,i<NS↔(i:Int)*(side:Int)<mn_:=λi=>by rw [hN i,es]
 let g:=YL fs kk LN cs t v;let B:Nat->Nat:=λi=>min (i*side) mn_.toNat;let U:Nat->J6:=λi=>z7 cs (ym ((zG LN).getD tg 0) g (B i));let W:Nat:=(min (my*(L:Int)) mn_).toNat
 have Bi:∀ i,i<NS->(i:Int)*(my*L)=(B i:Nat):=λi hi=>by
  have:=(hN' i).mp hi;have e:((i*side:Nat):Int)=(i:Int)*side:=sZ _ _;rw [es];show _=((min (i*side) mn_.toNat:Nat):Int);omega
 have BW:∀ i,i<NS->wid mn_ (my*L) (i*(my*L))<=W/\B (i+1)=B i+wid mn_ (my*L) (i*(my*L)):=λi hi=>by
  have b1:=Bi i hi;have lt:=(hN' i).mp hi;have e:((i*side:Nat):Int)=(i:Int)*side:=sZ _ _;have e2:(i+1)*side=i*side+side:=by rw [pA,sU]
  have hB:B i=i*side:=by
   rw [es] at b1;omega
  have q:=bw_step (x:=B i) (s:=side) (mn_:=mn_) (by rw [← b1,es];exact lt);rw [b1,es];refine ⟨?_,?_⟩
  .show wid mn_ side _<=(min (my*(L:Int)) mn_).toNat
   rw [es];exact q.1
  .show min ((i+1)*side) mn_.toNat=_
   rw [e2,← hB];exact q.2
 have kinG:∀ m:Nat,(m:Int)<=mn_->∀ p∈ym ((zG LN).getD tg 0) g m,Kin p.2:=λm hm' p hp=>by
  obtain ⟨i,hi,rfl⟩:=o9.mp hp;obtain ⟨hi,hv⟩:=nI.mp hi;have hi:=nZ.mp hi;show Kin (g i).num
  cases e:g i with
  | val u=>exact gLet_kin hs hc ck (by omega) e
  | pass=>rw [e] at hv;cases hv
  | bad z=>rw [e] at hv;cases hv
 have lb:∀ i,(B i:Int)<=mn_:=λi=>by show ((min (i*side) mn_.toNat:Nat):Int)<=_;omega
 have ul:∀ i,(U i).length=cs.length:=λi=>ze8 _ _;have uk:∀ i,∀ x∈U i,Kin x:=λi=>ze9 ck (kinG (B i) (lb i))
 have same:∀ (i:Nat) (e:Int),0<=e->e<mn_->F2.worth fs kk ⟨LN,U i,e,[]⟩ v=F2.worth fs kk ⟨LN,cs,e,[]⟩ v/\∀ f,t=Z f->F2.worth fs kk ⟨LN,U i,e,[]⟩ f=F2.worth fs kk ⟨LN,cs,e,[]⟩ f:=λi e e0 e1=>by
  have rk:=row_keep (cs0:=cs) (own:=[]) (e:=e) (g:=g) hs.ln ht (m:=B i) (by rw [← hm];exact lb i)
  have one:∀ F:F2.Fm,Fit F->Zz tg F->(∀ cs:J6,F2.WF fs kk ⟨LN,cs,e,[]⟩ F)->F2.worth fs kk ⟨LN,U i,e,[]⟩ F=F2.worth fs kk ⟨LN,cs,e,[]⟩ F:=λF hf hn hw=>by
   show F2.ev (F2.callK fs ⟨LN,U i,e,[]⟩ kk) ⟨LN,U i,e,[]⟩ F=F2.ev (F2.callK fs ⟨LN,cs,e,[]⟩ kk) ⟨LN,cs,e,[]⟩ F;rw [hs.cal (U i) cs e];exact Z8 rk F hf hn (hw _)
  refine ⟨one v hs.fv nv λcs=>hs.wv cs e e0 e1,λf ef=>one f ?_ (nt f ef) λcs=>hs.wt f ef cs e e0 e1⟩;have ft:=hs.ft;rw [ef] at ft
--@IF test
  exact ft.1
 have c0:=r.left.left.left 0 _ rfl;have cb:=r.left.left.right;have ct:=r.left.right;have cn:=r.right 0 _ rfl
 have el:(Z1 mn_ my (yx LN se t v) (Yu t || xE v) (Y1 tg (maskOf t)) n).length=(yx LN se t v).length+(Ym (Yu t || xE v) (Y1 tg (maskOf t)) n).length+2:=by
  unfold Z1;rw [Jf,Jf,Jf];show 1+_+_+1=_;omega
 rw [Jf,Jf] at cn;rw [Jf] at ct;have cb:RowsAt code (pl+1) (yx LN se t v):=cb;have ct:RowsAt code (pl+(1+(yx LN se t v).length)) (Ym (Yu t || xE v) (Y1 tg (maskOf t)) n):=ct
 have cn:code[pl+((yx LN se t v).length+(Ym (Yu t || xE v) (Y1 tg (maskOf t)) n).length+1)]?=Z [.str "next"]:=by
  rw [show pl+((yx LN se t v).length+(Ym (Yu t || xE v) (Y1 tg (maskOf t)) n).length+1)=pl+(1+(yx LN se t v).length+(Ym (Yu t || xE v) (Y1 tg (maskOf t)) n).length)+0 by omega];exact cn
 have WN:NS*W<=(2*mn_).toNat:=by
  have e:((NS*W:Nat):Int)=(NS:Int)*min (my*(L:Int)) mn_:=by
   rw [sZ];show (NS:Int)*(((min (my*(L:Int)) mn_).toNat:Nat):Int)=_;rw [oA (by omega)]
  omega
 generalize hlen:(yx LN se t v).length=len at *
 have DN:∀ i,i<=NS->N0+i*(W*(len+1))<=N0+(2*mn_*(len+1)).toNat:=λi hi=>by
  have a:i*W<=(2*mn_).toNat:=mL (Nat.mul_le_mul_right W hi) WN;have b':i*W*(len+1)<=(2*mn_).toNat*(len+1):=Nat.mul_le_mul_right _ a;rw [Nat.mul_assoc] at b'
  have c':(2*mn_*(len+1)).toNat=(2*mn_).toNat*(len+1):=by
   have:2*mn_*((len:Int)+1)=(((2*mn_).toNat*(len+1):Nat):Int):=by
    rw [sZ,oA (by omega),tj];rfl
   rw [this,q0z]
  omega
 have tot:N0+(2*mn_*(len+1)).toNat<=80000:=by
  have:0<=2*mn_*((len:Int)+1):=sr (by omega) (by omega);omega
 have U0:U 0=cs:=by
  show z7 cs (ym ((zG LN).getD tg 0) g (min (0*side) mn_.toNat))=cs;rw [Nat.zero_mul,Nat.zero_min];rfl
 have key:=round_run (Lx:=Lx) (n:=len+(Ym (Yu t || xE v) (Y1 tg (maskOf t)) n).length) (D:=W*(len+1)) (N0:=N0) (NS:=NS) (U:=U) (C:=λ_=>O) (Fin:=λM'=>∃ (e:Nat) (z:Str),(e:Int)<mn_/\g e=.bad z/\(∀ i:Nat,i<e->(g i).isBad=false)/\M'.rq_=Z (n,(e:Int),z)/\M'.cells=z7 cs (ym ((zG LN).getD tg 0) g e)) (Z0_:=λi=>∀ e:Nat,e<B i->(g e).isBad=false) (us:=us) (rs:=rs) (pk:=pk) lx.bg lx.nx (by rw [U0];exact h) hx rfl (λe he=>absurd he (by show ¬ e<min (0*side) mn_.toNat;omega)) hg m1 c0 cn hN ?_
 rotate_left
 .intro i T1 M1 hi sa hr hca hz
  obtain ⟨w1,b1⟩:=BW i hi;have bi:=Bi i hi;have lt:=(hN i).mp hi;have d1:=DN (i+1) hi;have wl:wid mn_ (my*L) (i*(my*L))*(len+1)<=W*(len+1):=Nat.mul_le_mul_right _ w1;have e1:(i+1)*(W*(len+1))=i*(W*(len+1))+W*(len+1):=by rw [pA,sU]
  have e2:wid mn_ (my*L) (i*(my*L))*(len+1)=len*wid mn_ (my*L) (i*(my*L))+wid mn_ (my*L) (i*(my*L)):=by rw [Nat.mul_add,Nat.mul_one,Nat.mul_comm]
  rw [e1] at d1 ⊢;have wf:Wf (N0+i*(W*(len+1))) T1 M1:=⟨hr.t,by rw [sa.flt];exact nK _,hr.s,(by rw [sa.flt];exact λp hp=>nomatch hp),(λj hj=>by rw [sa.flt] at hj;cases hj),hr.so⟩;generalize hb:(i:Int)*(my*L)=b at *;have ro:RowsOk LN (U i) mn_ my b L se:=⟨by rw [bi];omega,m1,hg,hse,lt⟩;obtain ⟨k1,M2,T2,st1,ld⟩:=ze5 (code:=code) (t:=t) (v:=v) (fs:=fs) (kk:=kk) lx hs ro (by rw [ul];exact hc) (uk i) sa wf (by rw [hlen];omega) cb;rw [hlen] at ld
  have hE:∀ x:Nat,x<wid mn_ (my*L) b->(λj:Int=>Xo (t.map λf=>F2.worth fs kk ⟨LN,U i,b+j,[]⟩ f) (F2.worth fs kk ⟨LN,U i,b+j,[]⟩ v)) (x:Int)=g (B i+x):=λx hx=>by
   have lx':b+(x:Int)<mn_:=by unfold wid at hx;omega
   obtain ⟨s1,s2⟩:=same i (b+x) (by omega) lx';show Xo (t.map λf=>F2.worth fs kk ⟨LN,U i,b+(x:Int),[]⟩ f) (F2.worth fs kk ⟨LN,U i,b+(x:Int),[]⟩ v)=Xo (t.map λf=>F2.worth fs kk ⟨LN,cs,((B i+x:Nat):Int),[]⟩ f) (F2.worth fs kk ⟨LN,cs,((B i+x:Nat):Int),[]⟩ v);rw [show ((B i+x:Nat):Int)=b+x by rw [bi,tj],s1];congr 1
   cases t with
   | none=>rfl
   | some f=>exact congrArg Z (s2 f rfl)
  have sl:=strip_let (tg:=tg) (n:=n) (g:=g) (B:=B i) (cs0:=cs) (may:=(Yu t || xE v)) (us:=us) (rs:=rs) (pk:=pk) lx.t hS (ro.p8 (p:=0) (by have:=hse;rcases hg with e | e | e <;> rw [e] at this <;> omega)) (by cases t <;> exact sC rfl) ld sa.wide sa.cut hr.r hr.u hr.p hca bi hE (λhm' e=>bad_may hs hm' e) rfl (by omega) (by rw [YV];exact ht) ⟨st0.1,by rw [ul];exact st0.2⟩ ct;rcases sl with ⟨m,M3,T3,st3,i3,r3,c3,z3⟩ | ⟨m,M3,c,z,st3,rf3,ce3,cw,gz,z3⟩
  .refine .inl ⟨_,M3,T3,st1.trans st3,?_,⟨mL r3.t (by omega),mL r3.s (by omega),r3.so,r3.r,r3.u,r3.p⟩,c3,λe he=>?_⟩
   .show InS _ _ _ _ _ _ _ _ (z7 cs (ym ((zG LN).getD tg 0) g (B (i+1))),T3) M3
    rw [b1,show len+(Ym (Yu t || xE v) (Y1 tg (maskOf t)) n).length+1=1+len+(Ym (Yu t || xE v) (Y1 tg (maskOf t)) n).length by omega];exact i3
   .by_cases y:e<B i
    .exact hz e y
    .have:=z3 (e-B i) (by omega)
     rw [show B i+(e-B i)=e by omega] at this;exact this
  .refine .inr ⟨_,M3,st1.trans st3,B i+c,z,?_,gz,λe he=>?_,rf3,ce3⟩
   .unfold wid at cw;omega
   .by_cases y:e<B i
    .exact hz e y
    .have:=z3 (e-B i) (by omega)
     rw [show B i+(e-B i)=e by omega] at this;exact this
 have BN:B NS=mn_.toNat:=by
  have:¬ (NS:Int)*(side:Int)<mn_:=λz=>by have:=(hN' NS).mpr z;omega
  have e:((NS*side:Nat):Int)=(NS:Int)*side:=sZ _ _;show min (NS*side) mn_.toNat=_;omega
 rcases key with ⟨k,M',T',st,rs',hr',z'⟩ | w
 .left
  have d:=DN NS (m8 _);refine ⟨k,M',T',st,?_,⟨mL hr'.t d,mL hr'.s d,hr'.so,hr'.r,hr'.u,hr'.p⟩,λe he=>z' e (by rw [BN];omega)⟩;rw [el,← BN];exact rs'
 .exact .inr w
--@FI
end
structure KF (K:Fg) (C:Ad):Prop where
 cl:Cls K C
 k1:ng K (.ref C) "__class__"=Z (Z (.builtin "object.__class__"))
 k2:pe K (.builtin "object.__class__") "__get__"=Z (Z (.builtin "getset_descriptor.__get__"))
 k3:pG K (.builtin "object.__class__")=Z true
 k4:rp K C (.type "object")=Z true
def KF.ty {K:Fg} {C:Ad} (s:KF K C) {H:Hp} {x dx:Ad} {fl:List (Str×V)} (h:H x=Z (.ins C dx fl)):TyX K H (.ref x) (.ref C):=.inl (.ins h s.cl s.k1 s.k2 s.k3 s.k4)
structure FormG (mg:J0) (c:F2.Cs):Prop where
 at':mg "At"=Z (.ref c.at')
 pair:mg "Pair"=Z (.ref c.pair)
 cho:mg "Choice"=Z (.ref c.cho)
 call:mg "Call"=Z (.ref c.call)
 num:mg "Number"=Z (.ref c.num)
 here:mg "Here"=Z (.ref c.here)
 cell:mg "Cell"=Z (.ref c.cell)
 shi:mg "Shifted"=Z (.ref c.shi)
abbrev isK (K:Fg) (C D:Ad) (b:Bool):Prop:=mE K (.ref C) (.ref D)=Z b
structure ClsK (K:Fg) (c:F2.Cs) (C:Ad) (a p o u n h e s:Bool):Prop where
 k:KF K C
 a:isK K C c.at' a
 p:isK K C c.pair p
 o:isK K C c.cho o
 u:isK K C c.call u
 n:isK K C c.num n
 h:isK K C c.here h
 e:isK K C c.cell e
 s:isK K C c.shi s
def isA:F2.Fm->Bool
 | .at' _ _=>true
 | _=>false
def isP:F2.Fm->Bool
 | .pair _ _ _=>true
 | _=>false
def isO:F2.Fm->Bool
 | .cho _ _ _=>true
 | _=>false
def isU:F2.Fm->Bool
 | .call _ _=>true
 | _=>false
def isN:F2.Fm->Bool
 | .num _=>true
 | _=>false
def isH:F2.Fm->Bool
 | .here=>true
 | _=>false
def isE:F2.Fm->Bool
 | .cell _=>true
 | _=>false
def isS:F2.Fm->Bool
 | .shi _ _ _=>true
 | _=>false
def clsF (c:F2.Cs):F2.Fm->Ad
 | .num _=>c.num
 | .here=>c.here
 | .cell _=>c.cell
 | .shi _ _ _=>c.shi
 | .loc _=>c.loc
 | .at' _ _=>c.at'
 | .pair _ _ _=>c.pair
 | .cho _ _ _=>c.cho
 | .call _ _=>c.call
structure FormK (K:Fg) (c:F2.Cs):Prop where
 num:ClsK K c c.num false false false false true false false false
 n1:NoAttr K c.num "number"
 cell:ClsK K c c.cell false false false false false false true false
 c1:NoAttr K c.cell "row"
 pair:ClsK K c c.pair false true false false false false false false
 p1:NoAttr K c.pair "sign"
 p2:NoAttr K c.pair "left"
 p3:NoAttr K c.pair "right"
 cho:ClsK K c c.cho false false true false false false false false
 o1:NoAttr K c.cho "test"
 o2:NoAttr K c.cho "left"
 o3:NoAttr K c.cho "right"
theorem FormK.of {K:Fg} {c:F2.Cs} (L:FormK K c):∀ F:F2.Fm,Fit F->ClsK K c (clsF c F) (isA F) (isP F) (isO F) (isU F) (isN F) (isH F) (isE F) (isS F)
 | .num _,_=>L.num
 | .cell _,_=>L.cell
 | .pair _ _ _,_=>L.pair
 | .cho _ _ _,_=>L.cho
theorem za7 {c:F2.Cs} {H:Hp} {x:Ad}:∀ {F:F2.Fm},Fit F->F2.FormAt c H F x->∃ dx fl,H x=Z (.ins (clsF c F) dx fl)
 | .num _,_,⟨dx,h⟩=>⟨dx,_,h⟩
 | .cell _,_,⟨dx,h⟩=>⟨dx,_,h⟩
 | .pair _ _ _,_,⟨dx,_,_,h,_⟩=>⟨dx,_,h⟩
 | .cho _ _ _,_,⟨dx,_,_,_,h,_⟩=>⟨dx,_,h⟩
def szU (n:Nat) (h:n<=1000:=by decide):n<=sizeLine:=mL h (by decide)
def zc9 (a c:Nat):(if (c:Int) > (a:Int) then (c:Int) else a)=((max a c:Nat):Int):=by split <;> omega
def spNv:Sp:=λ_ _ _ _=>False
def Z5 {x:Str} {st:Stmt} {N ps:Jb} (d:zk K mg x st ps) (S:FnScope N ps (ze st)):Ok P w K mg base CX0 1 x ps spNv:=by
 obtain ⟨g,fd,m,F,b⟩:=d;exact ⟨g,fd,m,F.kp,b,F.ok S (λ_ _ _ _ h=>h.elim) λ_ _ _ _ _ _ _ _ _ h=>h.elim⟩
inductive spSF (c:F2.Cs) (n:Nat) (vs:Jj) (H:Hp) (Q:VK) (_:XK):Prop
 | mk (x:Ad) (fu:V) (F:F2.Fm) (_:vs=[.ref x,fu]) (_:F2.FormAt c H F x) (_:Fit F) (_:hF F<=n) (_:∀ H',Same H H'->Q (.int (sN F)) H')
inductive spS2 (c:F2.Cs) (n:Nat) (vs:Jj) (H:Hp) (Q:VK) (_:XK):Prop
 | mk (x y:Ad) (fu:V) (F G:F2.Fm) (_:vs=[.ref x,.ref y,fu]) (_:F2.FormAt c H F x) (_:F2.FormAt c H G y) (_:Fit F) (_:Fit G) (_:hF F<=n) (_:hF G<=n) (_:∀ H',Same H H'->Q (.int (max (sN F) (1+sN G):Nat)) H')
def ok_s2 {c:F2.Cs} {n:Nat} (d:zk K mg "seats_for_two" yE qK) (hmax:mg "max"=O) (SF:Ok P w K mg base CX0 (2*n+2) "seats_for" qI (spSF c n)):Ok P w K mg base CX0 (2*n+3) "seats_for_two" qK (spS2 c n):=by
 refine oDf d sc_seats_for_two λg mx A _ s H vs Q E hr h=>?_;obtain ⟨x,y,fu,F,G,rfl,hx,hy,fF,fG,nF,nG,k⟩:=h;have nd:=sc_seats_for_two.nd;have hrS:=hr;refine ⟨_,(zf (zm (zp (YJ rfl) (by rfl) hmax sx (zb (zD SF hrS (by rfl) zo (zb (pv 0) (zb (pv 2) zc))) (zb (zn zQ zg (zD SF hrS (by rfl) zo (zb (pv 1) (zb (pv 2) zc)))) zc))))),?_⟩;refine ⟨_,Y,_,Y,x,fu,F,Y,hx,fF,nF,λH1 s1=>?_⟩;refine ⟨_,Y,_,Y,y,fu,G,Y,hy.same s1,fG,nG,λH2 s2=>?_⟩;refine ⟨_,_,Y,Y,_,_,Y,?_⟩;have e:(1:Int)+(sN G:Int)=((1+sN G:Nat):Int):=by omega
 show Q (.int (if (1:Int)+(sN G:Int) > (sN F:Int) then (1:Int)+(sN G:Int) else (sN F:Int))) H2;rw [e,zc9];exact k H2 (s1.trans s2)
def ok_sf_s {c:F2.Cs} {n:Nat} {spS sp2:Sp} (h1:∀ n',n=n'+1->spS=spSF c n') (h2:∀ n',n=n'+1->sp2=spS2 c n') (d:zk K mg "seats_for" xW qI) (hisi:mg "isinstance"=O) (hmax:mg "max"=O) (G:FormG mg c) (L:FormK K c) (SF:Ok P w K mg base CX0 (2*n+1) "seats_for" qI spS) (S2:Ok P w K mg base CX0 (2*n+1) "seats_for_two" qK sp2) (SC:Ok P w K mg base CX0 1 "seats_for_call" qI spNv):Ok P w K mg base CX0 (2*n+2) "seats_for" qI (spSF c n):=by
 refine oDf d sc_seats_for λg mx A _ s H vs Q E hr h=>?_;obtain ⟨x,fu,F,rfl,hx,fF,nF,k⟩:=h;have nd:=sc_seats_for.nd;have hrS:=hr;have hr1:Room 1 _:=hr.mono (by omega);have s:=L.of F fF;obtain ⟨dx,fl,ex⟩:=za7 fF hx;refine ⟨_,(zd (zO (ya (zp zE (by rfl) hisi m7 (zb (pv 0) (zb (zZ G.at') zc)))) (zf (zm (zD SF hrS (by rfl) zo (zb (zi (pv 0) rfl) (zb (pv 1) zc))))) zC)
   (zd (zO (ya (zp zE (by rfl) hisi m7 (zb (pv 0) (zb (zZ G.pair) zc)))) (zf (zm (zD S2 hrS (by rfl) zo (zb (zi (pv 0) rfl) (zb (zi (pv 0) rfl) (zb (pv 1) zc)))))) zC)
   (zd (zO (ya (zp zE (by rfl) hisi m7 (zb (pv 0) (zb (zZ G.cho) zc)))) (zf (zm (zp (YJ rfl) (by rfl) hmax sx (zb (zD SF hrS (by rfl) zo (zb (zi (pv 0) rfl) (zb (pv 1) zc))) (zb (zD S2 hrS (by rfl) zo (zb (zi (pv 0) rfl) (zb (zi (pv 0) rfl) (zb (pv 1) zc)))) zc))))) zC)
   (zd (zO (ya (zp zE (by rfl) hisi m7 (zb (pv 0) (zb (zZ G.call) zc)))) (zf (zm (zD SC hr1 (by rfl) zo (zb (pv 0) (zb (pv 1) zc))))) zC)
   (zf (zm zg)))))),?_⟩
 show (let s1:L2.TS:=_;let s2:L2.TS:=L2.tSeq _ s1;let s3:L2.TS:=L2.tSeq _ s2;let s4:L2.TS:=L2.tSeq _ s3;L2.tSeq _ s4 _ _ _);intro s1 s2 s3 s4;refine ⟨_,Y,_,_,.ref c.at',_,isA F,Y,Y,(λu r=>r),s.k.ty ex,s.a,_,Y,?_⟩;refine yw (λz=>?_) (λz=>?_)
 .cases F with
  | _=>first | exact absurd z nz | exact fF.elim
 refine ⟨_,Y,_,_,.ref c.pair,_,isP F,Y,Y,(λu r=>r),s.k.ty ex,s.p,_,Y,?_⟩;refine yw (λz=>?_) (λz=>?_)
 .cases F with
  | pair sg l r =>
   obtain ⟨dx,y,y2,ex,hy,hy2⟩:=hx;have nn:max (hF l) (hF r)+1<=n:=nF;have n1:n=n-1+1:=by omega
   have e2:=h2 _ n1;subst e2;exact ⟨_,Y,x,_,dx,_,.ref y,Y,ex,L.pair.k.cl,L.p2,Y,_,Y,x,_,dx,_,.ref y2,Y,ex,L.pair.k.cl,L.p3,Y,_,Y,y,y2,fu,l,r,Y,hy,hy2,fF.1,fF.2,by omega,by omega,k⟩
  | _=>first | exact absurd z nz | exact fF.elim
 refine ⟨_,Y,_,_,.ref c.cho,_,isO F,Y,Y,(λu r=>r),s.k.ty ex,s.o,_,Y,?_⟩;refine yw (λz=>?_) (λz=>?_)
 .cases F with
  | cho t l r =>
   obtain ⟨dx,y0,y,y2,ex,hy0,hy,hy2⟩:=hx;have nn:max (hF t) (max (hF l) (hF r))+1<=n:=nF;have n1:n=n-1+1:=by omega
   have e1:=h1 _ n1;have e2:=h2 _ n1;subst e1 e2;refine ⟨_,Y,x,_,dx,_,.ref y0,Y,ex,L.cho.k.cl,L.o1,Y,_,Y,y0,fu,t,Y,hy0,fF.1,by omega,λH1 s1=>?_⟩;refine ⟨_,Y,x,_,dx,_,.ref y,Y,s1 _ _ ex,L.cho.k.cl,L.o2,Y,_,Y,x,_,dx,_,.ref y2,Y,s1 _ _ ex,L.cho.k.cl,L.o3,Y,_,Y,y,y2,fu,l,r,Y,hy.same s1,hy2.same s1,fF.2.1,fF.2.2,by omega,by omega,λH2 s2=>?_⟩;refine ⟨_,_,Y,?_⟩;rw [zc9];exact k H2 (s1.trans s2)
  | _=>first | exact absurd z nz | exact fF.elim
 refine ⟨_,Y,_,_,.ref c.call,_,isU F,Y,Y,(λu r=>r),s.k.ty ex,s.u,_,Y,?_⟩;refine yw (λz=>?_) (λz=>?_)
 .cases F with
  | call a hs=>exact fF.elim
  | _=>first | exact absurd z nz | exact fF.elim
 have e:sN F=1:=by
  cases F with
  | at' r p=>exact absurd rfl ‹¬isA (.at' r p)=true›
  | pair sg l r=>exact absurd rfl ‹¬isP (.pair sg l r)=true›
  | cho t l r=>exact absurd rfl ‹¬isO (.cho t l r)=true›
  | _=>rfl
 rw [e] at k;exact k H (Same.refl _)
theorem ok_sf {c:F2.Cs} (d:zk K mg "seats_for" xW qI) (d2:zk K mg "seats_for_two" yE qK) (dc:zk K mg "seats_for_call" yT qI) (hisi:mg "isinstance"=O) (hmax:mg "max"=O) (G:FormG mg c) (L:FormK K c):∀ n:Nat,Ok P w K mg base CX0 (2*n+2) "seats_for" qI (spSF c n)
 | 0=>ok_sf_s (λn' e=>by cases e) (λn' e=>by cases e) d hisi hmax G L (Z5 d sc_seats_for) (Z5 d2 sc_seats_for_two) (Z5 dc ZB)
 | n+1=>by
  have h:=ok_sf d d2 dc hisi hmax G L n;exact ok_sf_s (λn' e=>by cases e;rfl) (λn' e=>by cases e;rfl) d hisi hmax G L (h.mono (by omega)) ((ok_s2 d2 hmax h).mono (by omega)) (Z5 dc ZB)
structure QCs where
 ma:Ad
 ai:Ad
 let_:Ad
 put:Ad
 fold:Ad
 run:Ad
 till:Ad
 pr:Ad
structure MakerC (K:Fg) (C:Ad):Prop where
 c:Cls K C
 n0:NoAttr K C "lengths"
 n1:NoAttr K C "functions"
 n2:NoAttr K C "seats"
 n3:NoAttr K C "code"
 n4:NoAttr K C "free_slot"
structure AimC (K:Fg) (C:Ad):Prop where
 c:Cls K C
 n0:NoAttr K C "seat"
 n1:NoAttr K C "mask"
 n2:NoAttr K C "level"
 n3:NoAttr K C "own"
structure AimG (mg:J0) (q:QCs):Prop where
 ma:mg "Maker"=Z (.ref q.ma)
 ai:mg "Aim"=Z (.ref q.ai)
def mkFl (le fu:Ad) (se:Nat) (cd:Ad) (fs:Nat):List (Str×V):=[("lengths",.ref le),("functions",.ref fu),("seats",.int se),("code",.ref cd),("free_slot",.int fs)]
def aimFl (p mk lv:Nat) (ow:Ad):List (Str×V):=[("seat",.int p),("mask",.int mk),("level",.int lv),("own",.ref ow)]
abbrev MkAt (q:QCs) (B:Hp) (m dm le fu cd:Ad) (se fs:Nat) (cs:Jc) (H:Hp):Prop:=Hd B [(cd,.lst (cs.map V.ref)),(m,.ins q.ma dm (mkFl le fu se cd fs))] H
def AimAt (q:QCs) (B:Hp) (a:Ad) (p mk lv:Nat) (ow:Ad):Prop:=∃ da,B a=Z (.ins q.ai da (aimFl p mk lv ow))
def InL (mB:J6):F2.Fm->Prop
 | .cell r=>0<=r/\r.toNat<mB.length
 | .pair _ l r=>InL mB l/\InL mB r
 | .cho t l r=>InL mB t/\InL mB l/\InL mB r
 | .at' _ p=>InL mB p
 | _=>True
def cN:F2.Fm->Nat
 | .pair _ l r=>cN l+cN r+3
 | .cho t l r=>cN t+cN l+cN r+5
 | .at' _ p=>cN p+1
 | _=>1
def XX {fits:Prop} [Decidable fits] {c1 c2 c2':List (Jj)} {p s mk a b:Nat} (h1:c1.length<=a) (h2:c2.length<=b) (h3:c2'.length<=b):(ZY fits c1 c2 c2' p s mk).length<=a+b+2:=by
 unfold ZY
 split
 .rw [Jf];omega
 .rw [Jf,Jf,Jf]
  show c1.length+1+c2'.length+1<=_;omega
theorem yg (mB:J6) (se:Nat):∀ (F:F2.Fm) (p mk lv s:Nat),Fit F->(mkF mB se F p mk lv s).length<=cN F
 | .num n,p,mk,lv,s,_=>m8 _
 | .cell n,p,mk,lv,s,_=>m8 _
 | .pair sg l r,p,mk,lv,s,hf=>by
  show (ZY _ _ _ _ _ _ _++[_]).length<=cN l+cN r+3;rw [Jf];have:=XX (fits:=p+1+sN r<=se) (p:=p) (s:=s) (mk:=mk) (yg mB se l p mk lv s hf.1) (yg mB se r (p+1) mk lv s hf.2) (yg mB se r p mk lv (s+1) hf.2);show _+1<=_;omega
 | .cho t l r,p,mk,lv,s,hf=>by
  show (mkF mB se t p mk lv s++[_,_]++ZY _ _ _ _ _ _ _++[_]).length<=cN t+cN l+cN r+5;rw [Jf,Jf,Jf];have:=XX (fits:=p+1+sN r<=se) (p:=p) (s:=s) (mk:=2+2*lv) (yg mB se l p (2+2*lv) (lv+1) s hf.2.1) (yg mB se r (p+1) (3+2*lv) (lv+1) s hf.2.2) (yg mB se r p (3+2*lv) (lv+1) (s+1) hf.2.2);have:=yg mB se t p mk lv s hf.1;show _+2+_+1<=_;omega
def MkAt.row {q:QCs} {B:Hp} {m dm le fu cd t:Ad} {se fs:Nat} {cs:Jc} {H:Hp} (h:MkAt q B m dm le fu cd se fs cs H):MkAt q B m dm le fu cd se fs (cs++[t]) (upd H cd (.lst (cs.map V.ref++[.ref t]))):=by
 have:=Hd.put (o':=.lst (cs.map V.ref++[.ref t])) h 0 rfl;show Hd B [(cd,.lst ((cs++[t]).map V.ref)),_] _;rw [Jg];exact this
def MkAt.free' {q:QCs} {B:Hp} {m dm le fu cd:Ad} {se fs fs':Nat} {cs:Jc} {H:Hp} (h:MkAt q B m dm le fu cd se fs cs H):MkAt q B m dm le fu cd se fs' cs (upd H m (.ins q.ma dm (mkFl le fu se cd fs'))):=Hd.put h 1 rfl
theorem yp {B:Hp} {t:Ad} {tv:Jj} (e:B t=Z (.tup tv)):CodeAt B [t] [tv]:=⟨Y,λi b v hx hy=>by
 match i,hx,hy with
 | 0,hx,hy=>cases hx;cases hy;exact e
 | i+1,hx,hy=>cases hx⟩
def CodeAt.same {B B':Hp} {cs:Jc} {code:List (Jj)} (h:CodeAt B cs code) (s:Same B B'):CodeAt B' cs code:=⟨h.n,λi a tv x y=>s _ _ (h.t i a tv x y)⟩
def cellT (mB:J6) (p mk:Nat) (r:Int):Jj:=if mB.getD r.toNat 0=1 then [.str "spread",.int p,.int r,.int mk] else [.str "load",.int p,.int r,.int mk]
inductive spCellStep (c:F2.Cs) (q:QCs) (K:Fg) (vs:Jj) (H:Hp) (Q:VK) (_:XK):Prop
 | mk (m x a dm da dx le fu cd ow:Ad) (se fs p mk lv:Nat) (mB:J6) (r:Int) (_:vs=[.ref m,.ref x,.ref a]) (_:H m=Z (.ins q.ma dm (mkFl le fu se cd fs))) (_:H a=Z (.ins q.ai da (aimFl p mk lv ow))) (_:H x=Z (.ins c.cell dx [("row",.int r)])) (_:SqL K H le (mB.map V.int)) (_:0<=r) (_:r.toNat<mB.length) (_:∀ t,H t=O->Q (.ref t) (upd H t (.tup (cellT mB p mk r))))
def zea {c:F2.Cs} {q:QCs} (d:zk K mg "cell_step" ZQ qA) (L:FormK K c) (MC:MakerC K q.ma) (AC:AimC K q.ai):Ok P w K mg base CX0 1 "cell_step" qA (spCellStep c q K):=by
 refine oDf d sc_cell_step λg mx A _ s H vs Q E hr h=>?_;obtain ⟨m,x,a,dm,da,dx,le,fu,cd,ow,se,fs,p,mk,lv,mB,r,rfl,hm,ha,hx,hl,r0,rl,k⟩:=h;have nd:=sc_cell_step.nd;refine ⟨_,(zd (zO (zJ Zc (zv z6 (zi (pv 0) rfl) (zi (pv 1) rfl) (λ_ _=>rfl)) zg (zM _)) (zf (zm (yb (zb zP (zb (zi (pv 2) rfl) (zb (zi (pv 1) rfl) (zb (zi (pv 2) rfl) zc))))))) zC)
   (zf (zm (yb (zb zP (zb (zi (pv 2) rfl) (zb (zi (pv 1) rfl) (zb (zi (pv 2) rfl) zc)))))))),?_⟩
 refine ⟨_,Y,m,_,dm,_,.ref le,Y,hm,MC.c,MC.n0,Y,_,Y,x,_,dx,_,.int r,Y,hx,L.cell.k.cl,L.c1,Y,le,_,_,_,Y,Y,hl,xc r.toNat rl (by omega),Y,_,Y,?_⟩;unfold cellT at k;refine yw (λz=>?_) (λz=>?_)
 .rw [if_pos (V.int.inj (of_decide_eq_true z))] at k
  exact ⟨_,Y,a,_,da,_,.int p,Y,ha,AC.c,AC.n0,Y,_,Y,x,_,dx,_,.int r,Y,hx,L.cell.k.cl,L.c1,Y,_,Y,a,_,da,_,.int mk,Y,ha,AC.c,AC.n1,Y,szU 4,λt nt=>k t nt⟩
 .rw [if_neg (λy=>z (decide_eq_true (congrArg V.int y)))] at k
  exact ⟨_,Y,a,_,da,_,.int p,Y,ha,AC.c,AC.n0,Y,_,Y,x,_,dx,_,.int r,Y,hx,L.cell.k.cl,L.c1,Y,_,Y,a,_,da,_,.int mk,Y,ha,AC.c,AC.n1,Y,szU 4,λt nt=>k t nt⟩
def isLeaf (F:F2.Fm):Bool:=!(isA F || isP F || isO F || isU F)
inductive spLeafStep (c:F2.Cs) (q:QCs) (K:Fg) (vs:Jj) (H:Hp) (Q:VK) (_:XK):Prop
 | mk (m x a dm da le fu cd ow:Ad) (se fs p mk lv:Nat) (mB:J6) (F:F2.Fm) (_:vs=[.ref m,.ref x,.ref a]) (_:H m=Z (.ins q.ma dm (mkFl le fu se cd fs))) (_:H a=Z (.ins q.ai da (aimFl p mk lv ow))) (_:F2.FormAt c H F x) (_:Fit F) (_:isLeaf F=true) (_:SqL K H le (mB.map V.int)) (_:InL mB F) (_:∀ t tv,H t=O->mkF mB se F p mk lv fs=[tv]->Q (.ref t) (upd H t (.tup tv)))
def zd8 {c:F2.Cs} {q:QCs} (d:zk K mg "leaf_step" ZL qA) (hisi:mg "isinstance"=O) (G:FormG mg c) (L:FormK K c) (MC:MakerC K q.ma) (AC:AimC K q.ai) (CS:Ok P w K mg base CX0 1 "cell_step" qA (spCellStep c q K)):Ok P w K mg base CX0 2 "leaf_step" qA (spLeafStep c q K):=by
 refine oDf d sc_leaf_step λg mx A _ s H vs Q E hr h=>?_;obtain ⟨m,x,a,dm,da,le,fu,cd,ow,se,fs,p,mk,lv,mB,F,rfl,hm,ha,hx,fF,lF,hl,rl,k⟩:=h;have nd:=sc_leaf_step.nd;have hr1:=hr;have s:=L.of F fF;obtain ⟨dx',fl',ex'⟩:=za7 fF hx;refine ⟨_,(zd (zO (ya (zp zE (by rfl) hisi m7 (zb (pv 1) (zb (zZ G.num) zc)))) (zf (zm (yb (zb zP (zb (zi (pv 2) rfl) (zb (zi (pv 1) rfl) (zb (zi (pv 2) rfl) zc))))))) zC)
   (zd (zO (ya (zp zE (by rfl) hisi m7 (zb (pv 1) (zb (zZ G.here) zc)))) (zf (zm (yb (zb zP (zb (zi (pv 2) rfl) (zb (zi (pv 2) rfl) zc)))))) zC)
   (zd (zO (ya (zp zE (by rfl) hisi m7 (zb (pv 1) (zb (zZ G.cell) zc)))) (zf (zm (zD CS hr1 (by rfl) zo (zb (pv 0) (zb (pv 1) (zb (pv 2) zc)))))) zC)
   (zd (zO (ya (zp zE (by rfl) hisi m7 (zb (pv 1) (zb (zZ G.shi) zc)))) (zf (zm (yb (zb zP (zb (zi (pv 2) rfl) (zb (zi (pv 1) rfl) (zb (zi (pv 1) rfl) (zb (zi (pv 1) rfl) (zb (zi (pv 2) rfl) zc))))))))) zC)
   (zf (zm (yb (zb zP (zb (zi (pv 2) rfl) (zb (zv z6 (zi (pv 2) rfl) (zi (pv 1) rfl) (λ_ _=>rfl)) (zb (zi (pv 2) rfl) zc))))))))))),?_⟩
 show (let s1:L2.TS:=_;let s2:L2.TS:=L2.tSeq _ s1;let s3:L2.TS:=L2.tSeq _ s2;let s4:L2.TS:=L2.tSeq _ s3;L2.tSeq _ s4 _ _ _);intro s1 s2 s3 s4;refine ⟨_,Y,_,_,.ref c.num,_,isN F,Y,Y,(λu r=>r),s.k.ty ex',s.n,_,Y,?_⟩;refine yw (λz=>?_) (λz1=>?_)
 .cases F with
  | num n =>
   obtain ⟨dx,ex⟩:=hx;exact ⟨_,Y,a,_,da,_,.int p,Y,ha,AC.c,AC.n0,Y,_,Y,x,_,dx,_,.int n,Y,ex,L.num.k.cl,L.n1,Y,_,Y,a,_,da,_,.int mk,Y,ha,AC.c,AC.n1,Y,szU 4,λt nt=>k t _ nt rfl⟩
  | _=>exact absurd z nz
 refine ⟨_,Y,_,_,.ref c.here,_,isH F,Y,Y,(λu r=>r),s.k.ty ex',s.h,_,Y,?_⟩;refine yw (λz=>?_) (λz2=>?_)
 .cases F with
  | _=>first | exact absurd z nz | exact fF.elim
 refine ⟨_,Y,_,_,.ref c.cell,_,isE F,Y,Y,(λu r=>r),s.k.ty ex',s.e,_,Y,?_⟩;refine yw (λz=>?_) (λz3=>?_)
 .cases F with
  | cell r =>
   obtain ⟨dx,ex⟩:=hx;exact ⟨_,Y,_,Y,_,Y,m,x,a,dm,da,dx,le,fu,cd,ow,se,fs,p,mk,lv,mB,r,Y,hm,ha,ex,hl,rl.1,rl.2,λt nt=>k t _ nt rfl⟩
  | _=>exact absurd z nz
 exfalso
 cases F with
 | num n=>exact z1 rfl
 | here=>exact z2 rfl
 | cell r=>exact z3 rfl
 | shi r b o=>exact fF.elim
 | loc a=>exact fF.elim
 | at' r p=>exact absurd lF nz
 | pair sg l r=>exact absurd lF nz
 | cho t l r=>exact absurd lF nz
 | call a hs=>exact absurd lF nz
def Hd.m {q:QCs} {B:Hp} {m dm le fu cd:Ad} {se fs:Nat} {cs:Jc} {H:Hp} (h:MkAt q B m dm le fu cd se fs cs H):H m=Z (.ins q.ma dm (mkFl le fu se cd fs)):=Hd.get h 1 rfl
inductive spMk (c:F2.Cs) (q:QCs) (K:Fg) (n:Nat) (vs:Jj) (H:Hp) (Q:VK) (_:XK):Prop
 | mk (B:Hp) (m x a dm le fu cd ow:Ad) (se fs p mk lv:Nat) (cs:Jc) (mB:J6) (F:F2.Fm) (_:vs=[.ref m,.ref x,.ref a]) (_:MkAt q B m dm le fu cd se fs cs H) (_:AimAt q B a p mk lv ow) (_:F2.FormAt c B F x) (_:Fit F) (_:hF F<=n) (_:SqL K B le (mB.map V.int)) (_:InL mB F) (_:cs.length+cN F<=900) (_:∀ B' H' ts,Same B B'->MkAt q B' m dm le fu cd se fs (cs++ts) H'->CodeAt B' ts (mkF mB se F p mk lv fs)->Q .non H')
inductive spPutBy (q:QCs) (vs:Jj) (H:Hp) (Q:VK) (_:XK):Prop
 | mk (B:Hp) (m dm le fu cd:Ad) (se fs p mk:Nat) (cs:Jc) (_:vs=[.ref m,.int p,.int mk]) (_:MkAt q B m dm le fu cd se fs cs H) (_:cs.length<=900) (_:∀ B' H' t,Same B B'->MkAt q B' m dm le fu cd se (fs+1) (cs++[t]) H'->B' t=Z (.tup (saveT fs p mk))->Q (.int fs) H')
def ok_putby {q:QCs} (d:zN K q.ma "put_by" "Maker.put_by" xz Uo) (MC:MakerC K q.ma):OkM P w K mg base CX0 1 q.ma "put_by" Uo (spPutBy q):=by
 refine oMf d sc_Maker_put_by λf mx A _ s H vs Q E hr h=>?_;obtain ⟨B,m,dm,le,fu,cd,se,fs,p,mk,cs,rfl,h,cl,k⟩:=h;have nd:=sc_Maker_put_by.nd;refine ⟨_,(zd (oRz 3 nd (zi (pv 0) rfl))
   (zd (zy (Zb mU mZ mY ye (zi (pv 0) rfl) (zb (yb (zb zP (zb (pv 3) (zb (pv 1) (zb (pv 2) zc))))) zc)))
   (zd (zt (pv 0) (zn zQ (pv 3) zg) rfl)
   (zf (zm (pv 3)))))),?_⟩
 show (let s1:L2.TS:=_;let s2:L2.TS:=L2.tSeq _ s1;let s3:L2.TS:=L2.tSeq _ s2;L2.tSeq _ s3 _ _ _);intro s1 s2 s3;refine ⟨_,Y,m,_,dm,_,.int fs,Y,Hd.m h,MC.c,MC.n4,Y,?_⟩;refine ⟨_,Y,m,_,dm,_,.ref cd,Y,Hd.m h,MC.c,MC.n3,Y,.inl ⟨Y,_,Hd.lst h 0 rfl⟩,_,Y,_,Y,_,Y,szU 4,λt nt=>?_⟩;generalize hX:upd _ _ _=H1;obtain ⟨B1,s1,e1,h1⟩:=hdG h hX nt;clear hX;refine ⟨cd,_,_,Y,Y,Hd.get h1 0 rfl,(by rw [Je];exact nk cl (by decide)),?_⟩;have h2:=MkAt.row (t:=t) h1;generalize hX:upd _ _ _=H2 at h2 ⊢;clear hX;refine ⟨_,Y,_,_,Y,Y,_,Y,m,_,dm,_,Y,Hd.m h2,MC.c,MC.n4,(by show 5<1000;decide),?_⟩;have h3:=MkAt.free' (fs':=fs+1) h2;exact ⟨_,Y,k B1 _ t s1 h3 e1⟩
inductive spTwo (c:F2.Cs) (q:QCs) (K:Fg) (n:Nat) (vs:Jj) (H:Hp) (Q:VK) (_:XK):Prop
 | mk (B:Hp) (m x a1 y a2 dm le fu cd ow:Ad) (se fs p mk1 mk2 lv:Nat) (cs:Jc) (mB:J6) (F G:F2.Fm) (_:vs=[.ref m,.ref x,.ref a1,.ref y,.ref a2]) (_:MkAt q B m dm le fu cd se fs cs H) (_:AimAt q B a1 p mk1 lv ow) (_:AimAt q B a2 p mk2 lv ow) (_:F2.FormAt c B F x) (_:F2.FormAt c B G y) (_:(Fit F/\Fit G)) (_:hF F<=n) (_:hF G<=n) (_:SqL K B le (mB.map V.int)) (_:InL mB F) (_:InL mB G) (_:cs.length+cN F+cN G+2<=900) (_:∀ B' H' ts t,Same B B'->MkAt q B' m dm le fu cd se fs (cs++ts) H'->CodeAt B' ts (ZY (p+1+sN G<=se) (mkF mB se F p mk1 lv fs) (mkF mB se G (p+1) mk2 lv fs) (mkF mB se G p mk2 lv (fs+1)) p fs mk1)->B' t=Z (.tup (if p+1+sN G<=se then [.int (p:Nat),.int (p+1:Nat)] else [.int (p+1:Nat),.int (p:Nat)]))->Q (.ref t) H')
def ok_two {c:F2.Cs} {q:QCs} {n:Nat} (d:zk K mg "make_two" Zv qF) (MC:MakerC K q.ma) (AC:AimC K q.ai) (AG:AimG mg q) (IA:OkI P w K mg base (CXe P w base) 1 q.ai qH (spI_Aim q.ai)) (PB:OkM P w K mg base CX0 1 q.ma "put_by" Uo (spPutBy q)) (SF:Ok P w K mg base CX0 (2*n+2) "seats_for" qI (spSF c n)) (MF:Ok P w K mg base CX0 (3*n+4) "make_form" qA (spMk c q K n)) :
  Ok P w K mg base CX0 (3*n+5) "make_two" qF (spTwo c q K n):=by
 refine oDf d sc_make_two λg mx A _ s H vs Q E hr h=>?_;obtain ⟨B,m,x,a1,y,a2,dm,le,fu,cd,ow,se,fs,p,mk1,mk2,lv,cs,mB,F,G,rfl,h,ha1,ha2,hx,hy,fFG,nF,nG,hl,lF,lG,cl,k⟩:=h;have nd:=sc_make_two.nd;have hrM:=hr;have hrS:Room (2*n+2) _:=hr.mono (by omega);have hr1:Room 1 _:=hr.mono (by omega);have hr2:Room 2 _:=hr.mono (by omega);obtain ⟨da1,ea1⟩:=ha1;obtain ⟨da2,ea2⟩:=ha2;refine ⟨_,(zd (oRz 5 nd (zi (pv 2) rfl))
   (zd (zy (zD MF hrM (by rfl) zo (zb (pv 0) (zb (pv 1) (zb (pv 2) zc)))))
   (zd (zO (zJ op_le (zn zQ (zn zQ (pv 5) zg) (zD SF hrS (by rfl) zo (zb (pv 3) (zb (zi (pv 0) rfl) zc)))) (zi (pv 0) rfl) (zM _)) (zd (zy (zD MF hrM (by rfl) zo (zb (pv 0) (zb (pv 3) (zb (yc IA AG.ai hr2 (by rfl) yk (zb (zn zQ (pv 5) zg) (zb (zi (pv 4) rfl) (zb (zi (pv 4) rfl) (zb (zi (pv 4) rfl) zc))))) zc)))))
   (zf (zm (yb (zb (pv 5) (zb (zn zQ (pv 5) zg) zc)))))) zC)
   (zd (oRz 6 nd (zX PB MC.c hr1 zo (pv 0) (zb (pv 5) (zb (zi (pv 2) rfl) zc))))
   (zd (zy (zD MF hrM (by rfl) zo (zb (pv 0) (zb (pv 3) (zb (pv 4) zc)))))
   (zd (zy (Zb mU mZ mY ye (zi (pv 0) rfl) (zb (yb (zb zP (zb (zn zQ (pv 5) zg) (zb (pv 6) (zb (zi (pv 2) rfl) zc))))) zc)))
   (zd (zt (pv 0) (pv 6) rfl)
   (zf (zm (yb (zb (zn zQ (pv 5) zg) (zb (pv 5) zc)))))))))))),?_⟩
 show (let s1:L2.TS:=_;let s2:L2.TS:=L2.tSeq _ s1;let s3:L2.TS:=L2.tSeq _ s2;let s4:L2.TS:=L2.tSeq _ s3;let s5:L2.TS:=L2.tSeq _ s4;let s6:L2.TS:=L2.tSeq _ s5;let s7:L2.TS:=L2.tSeq _ s6;L2.tSeq _ s7 _ _ _);intro s1 s2 s3 s4 s5 s6 s7;refine ⟨_,Y,a1,_,da1,_,.int p,Y,h.sm _ _ ea1,AC.c,AC.n0,Y,?_⟩;refine ⟨_,Y,_,Y,_,Y,B,m,x,a1,dm,le,fu,cd,ow,se,fs,p,mk1,lv,cs,mB,F,Y,h,⟨da1,ea1⟩,hx,fFG.1,nF,hl,lF,by omega,λB1 H1 ts1 s1 h1 c1=>?_⟩;have l1:ts1.length<=cN F:=by rw [c1.n];exact yg mB se F p mk1 lv fs fFG.1
 clear h;replace ea1:=s1 _ _ ea1;replace ea2:=s1 _ _ ea2;replace hy:=hy.same s1;replace hl:=zw hl s1;refine ⟨_,Y,_,_,Y,Y,_,Y,_,Y,m,_,dm,_,.ref fu,Y,Hd.m h1,MC.c,MC.n1,Y,y,.ref fu,G,Y,hy.same h1.sm,fFG.2,nG,λH2 s2=>?_⟩;obtain ⟨B2,sB2,h2,_⟩:=h1.over s2;replace h2:MkAt q B2 m dm le fu cd se fs (cs++ts1) H2:=h2;clear h1 s2;replace ea1:=sB2 _ _ ea1;replace ea2:=sB2 _ _ ea2;replace hy:=hy.same sB2;replace hl:=zw hl sB2;replace c1:=c1.same sB2;replace s1:=s1.trans sB2;clear sB2;refine ⟨_,_,Y,Y,_,Y,m,_,dm,_,.int se,Y,Hd.m h2,MC.c,MC.n2,Y,_,_,Y,Y,_,Y,?_⟩;have cs1:(cs++ts1).length<=cs.length+cN F:=by rw [Jf];omega
 refine yw (λz=>?_) (λz=>?_)
 .have z:p+1+sN G<=se:=by have:=of_decide_eq_true z;omega
  unfold ZY at k;rw [if_pos z,if_pos z] at k;refine ⟨_,Y,_,Y,_,Y,_,_,Y,Y,_,Y,a2,_,da2,_,.int mk2,Y,h2.sm _ _ ea2,AC.c,AC.n1,Y,_,Y,a2,_,da2,_,.int lv,Y,h2.sm _ _ ea2,AC.c,AC.n2,Y,_,Y,a2,_,da2,_,.ref ow,Y,h2.sm _ _ ea2,AC.c,AC.n3,Y,?_⟩;refine λai dai n1 n2 n3=>⟨ai,dai,.int ((p:Int)+1),.int mk2,.int lv,.ref ow,Y,zh,λH3 k3 e3=>⟨Y,?_⟩⟩;obtain ⟨B3,s3,e3',h3⟩:=hdM h2 n1 n2 n3 k3 e3;refine ⟨B3,m,y,ai,dm,le,fu,cd,ow,se,fs,p+1,mk2,lv,cs++ts1,mB,G,Y,h3,⟨dai,e3'⟩,hy.same s3,fFG.2,nG,zw hl s3,lG,by omega,λB4 H4 ts2 s4 h4 c2=>?_⟩;refine ⟨_,Y,_,Y,_,_,Y,Y,szU 2,λt nt=>?_⟩;generalize hX:upd _ _ _=H5;obtain ⟨B5,s5,e5,h5⟩:=hdG h4 hX nt;refine k B5 H5 (ts1++ts2) t (((s1.trans s3).trans s4).trans s5) (by rw [← n8];exact h5) (yd (c1.same ((s3.trans s4).trans s5)) (c2.same s5)) e5
 .have z:¬ p+1+sN G<=se:=λy=>z (decide_eq_true (by omega))
  unfold ZY at k;rw [if_neg z,if_neg z] at k;refine ⟨_,Y,m,dm,_,Y,Hd.m h2,Y,_,Y,_,Y,a1,_,da1,_,.int mk1,Y,h2.sm _ _ ea1,AC.c,AC.n1,Y,B2,m,dm,le,fu,cd,se,fs,p,mk1,cs++ts1,Y,h2,by omega,λB3 H3 t3 s3 h3 e3=>?_⟩;refine ⟨_,Y,_,Y,_,Y,B3,m,y,a2,dm,le,fu,cd,ow,se,fs+1,p,mk2,lv,cs++ts1++[t3],mB,G,Y,h3,⟨da2,s3 _ _ ea2⟩,hy.same s3,fFG.2,nG,zw hl s3,lG,by rw [Jf];show (cs++ts1).length+1+cN G<=900;omega,λB4 H4 ts2 s4 h4 c2=>?_⟩;have l2:ts2.length<=cN G:=by rw [c2.n];exact yg mB se G p mk2 lv (fs+1) fFG.2
  refine ⟨_,Y,m,_,dm,_,.ref cd,Y,Hd.m h4,MC.c,MC.n3,Y,.inl ⟨Y,_,Hd.lst h4 0 rfl⟩,_,Y,_,_,Y,Y,_,Y,_,Y,a1,_,da1,_,.int mk1,Y,h4.sm _ _ (s4 _ _ (s3 _ _ ea1)),AC.c,AC.n1,Y,szU 4,λt5 n5=>?_⟩;generalize hX:upd _ _ _=H5;obtain ⟨B5,s5,e5,h5⟩:=hdG h4 hX n5;clear hX;refine ⟨cd,_,_,Y,Y,Hd.get h5 0 rfl,(by rw [Je,Jf,Jf];exact nk (show _<=900 by show (cs++ts1).length+1+ts2.length<=900;omega) (by decide)),?_⟩;have h6:=MkAt.row (t:=t5) h5;generalize hX:upd _ _ _=H6 at h6 ⊢;clear hX;refine ⟨_,Y,_,Y,m,_,dm,_,Y,Hd.m h6,MC.c,MC.n4,(by show 5<1000;decide),?_⟩;have h7:MkAt q B5 m dm le fu cd se fs (cs++ts1++[t3]++ts2++[t5]) (upd H6 m (.ins q.ma dm (zW "free_slot" (.int fs) (mkFl le fu se cd (fs+1))))):=MkAt.free' (fs':=fs) h6;generalize hX:upd _ _ _=H7 at h7 ⊢;clear hX;refine ⟨_,Y,_,_,Y,Y,_,Y,szU 2,λt nt=>?_⟩;generalize hX:upd _ _ _=H8;obtain ⟨B8,s8,e8,h8⟩:=hdG h7 hX nt;have s38:=((s3.trans s4).trans s5).trans s8;refine k B8 H8 (ts1++[t3]++ts2++[t5]) t (s1.trans s38) (by rw [← n8,← n8,← n8];exact h8) (yd (yd (yd (c1.same s38) (yp (((s4.trans s5).trans s8) _ _ e3))) (c2.same (s5.trans s8))) (yp (s8 _ _ e5))) e8
inductive spMP (c:F2.Cs) (q:QCs) (K:Fg) (n:Nat) (vs:Jj) (H:Hp) (Q:VK) (_:XK):Prop
 | mk (B:Hp) (m x a dm le fu cd ow:Ad) (se fs p mk lv:Nat) (cs:Jc) (mB:J6) (sg:Str) (l r:F2.Fm) (_:vs=[.ref m,.ref x,.ref a]) (_:MkAt q B m dm le fu cd se fs cs H) (_:AimAt q B a p mk lv ow) (_:F2.FormAt c B (.pair sg l r) x) (_:(Fit l/\Fit r)) (_:hF l<=n) (_:hF r<=n) (_:SqL K B le (mB.map V.int)) (_:InL mB l) (_:InL mB r) (_:cs.length+cN l+cN r+3<=900) (_:∀ B' H' ts,Same B B'->MkAt q B' m dm le fu cd se fs (cs++ts) H'->CodeAt B' ts (mkF mB se (.pair sg l r) p mk lv fs)->Q .non H')
def ok_mkpair {c:F2.Cs} {q:QCs} {n:Nat} (d:zk K mg "make_pair" xX qA) (L:FormK K c) (MC:MakerC K q.ma) (AC:AimC K q.ai) (MT:Ok P w K mg base CX0 (3*n+5) "make_two" qF (spTwo c q K n)):Ok P w K mg base CX0 (3*n+6) "make_pair" qA (spMP c q K n):=by
 refine oDf d sc_make_pair λg mx A _ s H vs Q E hr h=>?_;obtain ⟨B,m,x,a,dm,le,fu,cd,ow,se,fs,p,mk,lv,cs,mB,sg,l,r,rfl,h,⟨da,ea⟩,⟨dx,y1,y2,ex,hy1,hy2⟩,ff,nl,nr,hl,il,ir,cl,k⟩:=h;have nd:=sc_make_pair.nd;have hrT:=hr;refine ⟨_,(zd (oRz 3 nd (zD MT hrT (by rfl) zo (zb (pv 0) (zb (zi (pv 1) rfl) (zb (pv 2) (zb (zi (pv 1) rfl) (zb (pv 2) zc)))))))
   (zf (zy (Zb mU mZ mY ye (zi (pv 0) rfl) (zb (yb (zb zP (zb (zi (pv 2) rfl) (zb (zi (pv 1) rfl) (zb (zv zF (pv 3) zg (λ_ _=>rfl)) (zb (zv zF (pv 3) zg (λ_ _=>rfl)) (zb (zi (pv 2) rfl) zc))))))) zc))))),?_⟩
 refine ⟨_,Y,_,Y,x,_,dx,_,.ref y1,Y,h.sm _ _ ex,L.pair.k.cl,L.p2,Y,_,Y,_,Y,x,_,dx,_,.ref y2,Y,h.sm _ _ ex,L.pair.k.cl,L.p3,Y,_,Y,?_⟩;refine ⟨B,m,y1,a,y2,a,dm,le,fu,cd,ow,se,fs,p,mk,mk,lv,cs,mB,l,r,Y,h,⟨da,ea⟩,⟨da,ea⟩,hy1,hy2,ff,nl,nr,hl,il,ir,by omega,λB1 H1 ts t s1 h1 c1 e1=>?_⟩;have tl:ts.length<=cN l+cN r+2:=by rw [c1.n];exact XX (yg mB se l p mk lv fs ff.1) (yg mB se r (p+1) mk lv fs ff.2) (yg mB se r p mk lv (fs+1) ff.2)
 obtain ⟨u,v,e1',eo⟩:∃ u v:Nat,B1 t=Z (.tup [.int u,.int v])/\(if p+1+sN r<=se then opT p sg p (p+1) mk else opT p sg (p+1) p mk)=opT p sg u v mk:=by
  by_cases z:p+1+sN r<=se
  .rw [if_pos z] at e1 ⊢;exact ⟨p,p+1,e1,Y⟩
  .rw [if_neg z] at e1 ⊢;exact ⟨p+1,p,e1,Y⟩
 have ea1:=h1.sm _ _ (s1 _ _ ea);have ex1:=h1.sm _ _ (s1 _ _ ex);have et1:=h1.sm _ _ e1';refine ⟨_,Y,m,_,dm,_,.ref cd,Y,Hd.m h1,MC.c,MC.n3,Y,.inl ⟨Y,_,Hd.lst h1 0 rfl⟩,_,Y,a,_,da,_,.int p,Y,ea1,AC.c,AC.n0,Y,_,Y,x,_,dx,_,.str sg,Y,ex1,L.pair.k.cl,L.p1,Y,_,Y,t,_,_,_,Y,Y,SqT.of et1,zB (j:=0) rfl,_,Y,t,_,_,_,Y,Y,SqT.of et1,zB (j:=1) rfl,_,Y,a,_,da,_,.int mk,Y,ea1,AC.c,AC.n1,Y,szU 6,λt5 n5=>?_⟩;generalize hX:upd _ _ _=H5;obtain ⟨B5,s5,e5,h5⟩:=hdG h1 hX n5;clear hX;refine ⟨cd,_,_,Y,Y,Hd.get h5 0 rfl,(by rw [Je,Jf];exact nk (show _<=900 by omega) (by decide)),?_⟩;have h6:=MkAt.row (t:=t5) h5;refine k B5 _ (ts++[t5]) (s1.trans s5) (by rw [← n8];exact h6) ?_;show CodeAt B5 _ (ZY _ _ _ _ _ _ _++[if p+1+sN r<=se then opT p sg p (p+1) mk else opT p sg (p+1) p mk]);rw [eo];exact yd (c1.same s5) (yp e5)
inductive spMO (c:F2.Cs) (q:QCs) (K:Fg) (n:Nat) (vs:Jj) (H:Hp) (Q:VK) (_:XK):Prop
 | mk (B:Hp) (m x a dm le fu cd ow:Ad) (se fs p mk lv:Nat) (cs:Jc) (mB:J6) (t l r:F2.Fm) (_:vs=[.ref m,.ref x,.ref a]) (_:MkAt q B m dm le fu cd se fs cs H) (_:AimAt q B a p mk lv ow) (_:F2.FormAt c B (.cho t l r) x) (_:(Fit t/\Fit l/\Fit r)) (_:hF t<=n) (_:hF l<=n) (_:hF r<=n) (_:SqL K B le (mB.map V.int)) (_:InL mB t) (_:InL mB l) (_:InL mB r) (_:cs.length+cN t+cN l+cN r+5<=900) (_:∀ B' H' ts,Same B B'->MkAt q B' m dm le fu cd se fs (cs++ts) H'->CodeAt B' ts (mkF mB se (.cho t l r) p mk lv fs)->Q .non H')
def ok_mkcho {c:F2.Cs} {q:QCs} {n:Nat} {tF:Tok} (d:zk K mg "make_choice" xg qA) (hFC:mg "FIRST_CHOICE_MASK"=Z (.int 2 tF)) (L:FormK K c) (MC:MakerC K q.ma) (AC:AimC K q.ai) (AG:AimG mg q) (IA:OkI P w K mg base (CXe P w base) 1 q.ai qH (spI_Aim q.ai)) (MF:Ok P w K mg base CX0 (3*n+4) "make_form" qA (spMk c q K n)) (MT:Ok P w K mg base CX0 (3*n+5) "make_two" qF (spTwo c q K n)):Ok P w K mg base CX0 (3*n+6) "make_choice" qA (spMO c q K n):=by
 refine oDf d sc_make_choice λg mx A _ s H vs Q E hr h=>?_;obtain ⟨B,m,x,a,dm,le,fu,cd,ow,se,fs,p,mk,lv,cs,mB,t,l,r,rfl,h,⟨da,ea⟩,⟨dx,y0,y1,y2,ex,hy0,hy1,hy2⟩,ff,n0,nl,nr,hl,i0,il,ir,cl,k⟩:=h;have nd:=sc_make_choice.nd;have hrT:=hr;have hrF:Room (3*n+4) _:=hr.mono (by omega);have hr2:Room 2 _:=hr.mono (by omega);refine ⟨_,(zd (zy (zD MF hrF (by rfl) zo (zb (pv 0) (zb (zi (pv 1) rfl) (zb (pv 2) zc)))))
   (zd (oRz 3 nd (zn zQ (xC hFC) (zn yH zg (zi (pv 2) rfl))))
   (zd (oRz 4 nd (zn zQ (pv 3) zg))
   (zd (zy (Zb mU mZ mY ye (zi (pv 0) rfl) (zb (yb (zb zP (zb (pv 3) (zb (zi (pv 2) rfl) (zb (zi (pv 2) rfl) zc))))) zc)))
   (zd (zy (Zb mU mZ mY ye (zi (pv 0) rfl) (zb (yb (zb zP (zb (pv 4) (zb (zi (pv 2) rfl) (zb (zi (pv 2) rfl) zc))))) zc)))
   (zd (oRz 5 nd (yc IA AG.ai hr2 (by rfl) yk (zb (zi (pv 2) rfl) (zb (pv 3) (zb (zn zQ (zi (pv 2) rfl) zg) (zb (zi (pv 2) rfl) zc))))))
   (zd (oRz 6 nd (yc IA AG.ai hr2 (by rfl) yk (zb (zi (pv 2) rfl) (zb (pv 4) (zb (zn zQ (zi (pv 2) rfl) zg) (zb (zi (pv 2) rfl) zc))))))
   (zd (oRz 7 nd (zD MT hrT (by rfl) zo (zb (pv 0) (zb (zi (pv 1) rfl) (zb (pv 5) (zb (zi (pv 1) rfl) (zb (pv 6) zc)))))))
   (zf (zy (Zb mU mZ mY ye (zi (pv 0) rfl) (zb (yb (zb zP (zb (zi (pv 2) rfl) (zb (zv zF (pv 7) zg (λ_ _=>rfl)) (zb (zv zF (pv 7) zg (λ_ _=>rfl)) (zb (pv 3) (zb (zi (pv 2) rfl) zc))))))) zc)))))))))))),?_⟩
 show (let s1:L2.TS:=_;let s2:L2.TS:=L2.tSeq _ s1;let s3:L2.TS:=L2.tSeq _ s2;let s4:L2.TS:=L2.tSeq _ s3;let s5:L2.TS:=L2.tSeq _ s4;let s6:L2.TS:=L2.tSeq _ s5;let s7:L2.TS:=L2.tSeq _ s6;let s8:L2.TS:=L2.tSeq _ s7;L2.tSeq _ s8 _ _ _);intro s1 s2 s3 s4 s5 s6 s7 s8;refine ⟨_,Y,_,Y,x,_,dx,_,.ref y0,Y,h.sm _ _ ex,L.cho.k.cl,L.o1,Y,_,Y,B,m,y0,a,dm,le,fu,cd,ow,se,fs,p,mk,lv,cs,mB,t,Y,h,⟨da,ea⟩,hy0,ff.1,n0,hl,i0,by omega,λB1 H1 ts0 s1 h1 c1=>?_⟩;have tl0:ts0.length<=cN t:=by rw [c1.n];exact yg mB se t p mk lv fs ff.1
 clear h;replace ea:=s1 _ _ ea;replace ex:=s1 _ _ ex;replace hy1:=hy1.same s1;replace hy2:=hy2.same s1;replace hl:=zw hl s1;refine ⟨_,Y,a,_,da,_,.int lv,Y,h1.sm _ _ ea,AC.c,AC.n2,Y,_,_,Y,Y,.inl ⟨by decide,by decide⟩,_,_,Y,Y,?_⟩;refine ⟨_,Y,_,_,Y,Y,?_⟩;have em:(2:Int)+2*(lv:Int)=((2+2*lv:Nat):Int):=by omega
 have em':((2+2*lv:Nat):Int)+1=((3+2*lv:Nat):Int):=by omega
 rw [em,em'];refine ⟨_,Y,m,_,dm,_,.ref cd,Y,Hd.m h1,MC.c,MC.n3,Y,.inl ⟨Y,_,Hd.lst h1 0 rfl⟩,_,Y,_,Y,a,_,da,_,.int p,Y,h1.sm _ _ ea,AC.c,AC.n0,Y,_,Y,a,_,da,_,.int mk,Y,h1.sm _ _ ea,AC.c,AC.n1,Y,szU 4,λt2 n2=>?_⟩;generalize hX:upd _ _ _=H2;obtain ⟨B2,s2,e2,h2⟩:=hdG h1 hX n2;clear hX h1;refine ⟨cd,_,_,Y,Y,Hd.get h2 0 rfl,(by rw [Je,Jf];exact nk (show _<=900 by omega) (by decide)),?_⟩;replace h2:=MkAt.row (t:=t2) h2;generalize hX:upd _ _ _=H2' at h2 ⊢;clear hX;replace ea:=s2 _ _ ea;replace ex:=s2 _ _ ex;refine ⟨_,Y,m,_,dm,_,.ref cd,Y,Hd.m h2,MC.c,MC.n3,Y,.inl ⟨Y,_,Hd.lst h2 0 rfl⟩,_,Y,_,Y,a,_,da,_,.int p,Y,h2.sm _ _ ea,AC.c,AC.n0,Y,_,Y,a,_,da,_,.int mk,Y,h2.sm _ _ ea,AC.c,AC.n1,Y,szU 4,λt3 n3=>?_⟩;generalize hX:upd _ _ _=H3;obtain ⟨B3,s3,e3,h3⟩:=hdG h2 hX n3;clear hX h2;refine ⟨cd,_,_,Y,Y,Hd.get h3 0 rfl,(by rw [Je,Jf,Jf];exact nk (show _<=900 by show cs.length+ts0.length+1<=900;omega) (by decide)),?_⟩;replace h3:=MkAt.row (t:=t3) h3;generalize hX:upd _ _ _=H3' at h3 ⊢;clear hX;replace ea:=s3 _ _ ea;replace ex:=s3 _ _ ex;have s23:=s2.trans s3;replace c1:=yd (yd (c1.same s23) (yp (s3 _ _ e2))) (yp e3);replace hy1:=hy1.same s23;replace hy2:=hy2.same s23;replace hl:=zw hl s23;replace s1:=s1.trans s23;clear s2 s3 s23 e2 e3;refine ⟨_,Y,a,_,da,_,.int p,Y,h3.sm _ _ ea,AC.c,AC.n0,Y,_,Y,_,Y,a,_,da,_,.int lv,Y,h3.sm _ _ ea,AC.c,AC.n2,Y,_,_,Y,Y,_,Y,a,_,da,_,.ref ow,Y,h3.sm _ _ ea,AC.c,AC.n3,Y,?_⟩;refine λai dai n1 n2 n3=>⟨ai,dai,.int p,.int (2+2*lv:Nat),.int ((lv:Int)+1),.ref ow,Y,zh,λH4 k4 e4=>⟨Y,?_⟩⟩;obtain ⟨B4,s4,e4',h4⟩:=hdM h3 n1 n2 n3 k4 e4;clear h3 k4 e4 n1 n2 n3;replace ea:=s4 _ _ ea;replace ex:=s4 _ _ ex;refine ⟨_,Y,a,_,da,_,.int p,Y,h4.sm _ _ ea,AC.c,AC.n0,Y,_,Y,_,Y,a,_,da,_,.int lv,Y,h4.sm _ _ ea,AC.c,AC.n2,Y,_,_,Y,Y,_,Y,a,_,da,_,.ref ow,Y,h4.sm _ _ ea,AC.c,AC.n3,Y,?_⟩;refine λbi dbi n1 n2 n3=>⟨bi,dbi,.int p,.int (3+2*lv:Nat),.int ((lv:Int)+1),.ref ow,Y,zh,λH5 k5 e5=>⟨Y,?_⟩⟩;obtain ⟨B5,s5,e5',h5⟩:=hdM h4 n1 n2 n3 k5 e5;clear h4 k5 e5 n1 n2 n3;replace ea:=s5 _ _ ea;replace ex:=s5 _ _ ex;have s45:=s4.trans s5
 have lcs:(cs++ts0++[t2]++[t3]).length<=cs.length+cN t+2:=by
  rw [Jf,Jf,Jf];show cs.length+ts0.length+1+1<=_;omega
 refine ⟨_,Y,_,Y,x,_,dx,_,.ref y1,Y,h5.sm _ _ ex,L.cho.k.cl,L.o2,Y,_,Y,_,Y,x,_,dx,_,.ref y2,Y,h5.sm _ _ ex,L.cho.k.cl,L.o3,Y,_,Y,?_⟩;refine ⟨B5,m,y1,ai,y2,bi,dm,le,fu,cd,ow,se,fs,p,2+2*lv,3+2*lv,lv+1,cs++ts0++[t2]++[t3],mB,l,r,Y,h5,⟨dai,s5 _ _ e4'⟩,⟨dbi,e5'⟩,hy1.same s45,hy2.same s45,ff.2,nl,nr,zw hl s45,il,ir,by omega,λB6 H6 ts tp s6 h6 c6 e6=>?_⟩;have tl:ts.length<=cN l+cN r+2:=by rw [c6.n];exact XX (yg mB se l p (2+2*lv) (lv+1) fs ff.2.1) (yg mB se r (p+1) (3+2*lv) (lv+1) fs ff.2.2) (yg mB se r p (3+2*lv) (lv+1) (fs+1) ff.2.2)
 obtain ⟨u,v,e6',eo⟩:∃ u v:Nat,B6 tp=Z (.tup [.int u,.int v])/\(if p+1+sN r<=se then Za p p (p+1) (2+2*lv) mk else Za p (p+1) p (2+2*lv) mk)=Za p u v (2+2*lv) mk:=by
  by_cases z:p+1+sN r<=se
  .rw [if_pos z] at e6 ⊢;exact ⟨p,p+1,e6,Y⟩
  .rw [if_neg z] at e6 ⊢;exact ⟨p+1,p,e6,Y⟩
 have ea1:=h6.sm _ _ (s6 _ _ ea);have et1:=h6.sm _ _ e6';refine ⟨_,Y,m,_,dm,_,.ref cd,Y,Hd.m h6,MC.c,MC.n3,Y,.inl ⟨Y,_,Hd.lst h6 0 rfl⟩,_,Y,a,_,da,_,.int p,Y,ea1,AC.c,AC.n0,Y,_,Y,tp,_,_,_,Y,Y,SqT.of et1,zB (j:=0) rfl,_,Y,tp,_,_,_,Y,Y,SqT.of et1,zB (j:=1) rfl,_,Y,_,Y,a,_,da,_,.int mk,Y,ea1,AC.c,AC.n1,Y,szU 6,λt7 n7=>?_⟩;generalize hX:upd _ _ _=H7;obtain ⟨B7,s7,e7,h7⟩:=hdG h6 hX n7;clear hX;refine ⟨cd,_,_,Y,Y,Hd.get h7 0 rfl,(by rw [Je,Jf];exact nk (show _<=900 by omega) (by decide)),?_⟩;have h8:=MkAt.row (t:=t7) h7;have s57:=(s45.trans s6).trans s7;refine k B7 _ (ts0++[t2]++[t3]++ts++[t7]) (s1.trans s57) (by rw [show cs++(ts0++[t2]++[t3]++ts++[t7])=cs++ts0++[t2]++[t3]++ts++[t7] by simp only [n8]];exact h8) ?_;have fin:=yd (yd (c1.same s57) (c6.same s7)) (yp e7);show CodeAt B7 _ (mkF mB se t p mk lv fs++[_,_]++ZY _ _ _ _ _ _ _++[if p+1+sN r<=se then Za p p (p+1) (2+2*lv) mk else Za p (p+1) p (2+2*lv) mk]);rw [eo];have ea2:mkF mB se t p mk lv fs++[[V.str "choose",.int (2+2*lv:Nat),.int p,.int mk]]++[[V.str "other",.int (3+2*lv:Nat),.int p,.int mk]]=mkF mB se t p mk lv fs++[[V.str "choose",.int (2+2*lv:Nat),.int p,.int mk],[V.str "other",.int (3+2*lv:Nat),.int p,.int mk]]:=by rw [n8];rfl
 rw [ea2] at fin;exact fin
def ok_mk_s {c:F2.Cs} {q:QCs} {n:Nat} {spA spP spO:Sp}
  (hP:∀ n',n=n'+1->spP=spMP c q K n')
  (hO:∀ n',n=n'+1->spO=spMO c q K n')
  (d:zk K mg "make_form" xY qA) (hisi:mg "isinstance"=O) (G:FormG mg c) (L:FormK K c) (MC:MakerC K q.ma) (MA:Ok P w K mg base CX0 (3*n+3) "make_at" qA spA) (MP:Ok P w K mg base CX0 (3*n+3) "make_pair" qA spP) (MO:Ok P w K mg base CX0 (3*n+3) "make_choice" qA spO) (MC0:Ok P w K mg base CX0 1 "make_call" qA spNv) (LS:Ok P w K mg base CX0 2 "leaf_step" qA (spLeafStep c q K)):Ok P w K mg base CX0 (3*n+4) "make_form" qA (spMk c q K n):=by
 refine oDf d sc_make_form λg mx A _ s H vs Q E hr h=>?_;obtain ⟨B,m,x,a,dm,le,fu,cd,ow,se,fs,p,mk,lv,cs,mB,F,rfl,h,ha,hx,fF,nF,hl,iF',cl,k⟩:=h;have nd:=sc_make_form.nd;have hrM:=hr;have hr1:Room 1 _:=hr.mono (by omega);have hr2:Room 2 _:=hr.mono (by omega);have s:=L.of F fF;obtain ⟨dx,fl,ex⟩:=za7 fF (hx.same h.sm);refine ⟨_,(zf (zO (ya (zp zE (by rfl) hisi m7 (zb (pv 1) (zb (zZ G.at') zc)))) (zf (zy (zD MA hrM (by rfl) zo (zb (pv 0) (zb (pv 1) (zb (pv 2) zc)))))) (zf (zO (ya (zp zE (by rfl) hisi m7 (zb (pv 1) (zb (zZ G.pair) zc)))) (zf (zy (zD MP hrM (by rfl) zo (zb (pv 0) (zb (pv 1) (zb (pv 2) zc)))))) (zf (zO (ya (zp zE (by rfl) hisi m7 (zb (pv 1) (zb (zZ G.cho) zc)))) (zf (zy (zD MO hrM (by rfl) zo (zb (pv 0) (zb (pv 1) (zb (pv 2) zc)))))) (zf (zO (ya (zp zE (by rfl) hisi m7 (zb (pv 1) (zb (zZ G.call) zc)))) (zf (zy (zD MC0 hr1 (by rfl) zo (zb (pv 0) (zb (pv 1) (zb (pv 2) zc)))))) (zf (zy (Zb mU mZ mY ye (zi (pv 0) rfl) (zb (zD LS hr2 (by rfl) zo (zb (pv 0) (zb (pv 1) (zb (pv 2) zc)))) zc)))))))))))),?_⟩;refine ⟨_,Y,_,_,.ref c.at',_,isA F,Y,Y,(λu r=>r),s.k.ty ex,s.a,_,Y,?_⟩;refine yw (λz=>?_) (λz1=>?_)
 .cases F with
  | _=>first | exact absurd z nz | exact fF.elim
 refine ⟨_,Y,_,_,.ref c.pair,_,isP F,Y,Y,(λu r=>r),s.k.ty ex,s.p,_,Y,?_⟩;refine yw (λz=>?_) (λz2=>?_)
 .cases F with
  | pair sg l r =>
   have nn:max (hF l) (hF r)+1<=n:=nF;have e1:=hP (n-1) (by omega);subst e1;have cl:cs.length+(cN l+cN r+3)<=900:=cl;exact ⟨_,Y,_,Y,_,Y,B,m,x,a,dm,le,fu,cd,ow,se,fs,p,mk,lv,cs,mB,sg,l,r,Y,h,ha,hx,fF,by omega,by omega,hl,iF'.1,iF'.2,by omega,k⟩
  | _=>first | exact absurd z nz | exact fF.elim
 refine ⟨_,Y,_,_,.ref c.cho,_,isO F,Y,Y,(λu r=>r),s.k.ty ex,s.o,_,Y,?_⟩;refine yw (λz=>?_) (λz3=>?_)
 .cases F with
  | cho t l r =>
   have nn:max (hF t) (max (hF l) (hF r))+1<=n:=nF;have e1:=hO (n-1) (by omega);subst e1;have cl:cs.length+(cN t+cN l+cN r+5)<=900:=cl;exact ⟨_,Y,_,Y,_,Y,B,m,x,a,dm,le,fu,cd,ow,se,fs,p,mk,lv,cs,mB,t,l,r,Y,h,ha,hx,fF,by omega,by omega,by omega,hl,iF'.1,iF'.2.1,iF'.2.2,by omega,k⟩
  | _=>first | exact absurd z nz | exact fF.elim
 refine ⟨_,Y,_,_,.ref c.call,_,isU F,Y,Y,(λu r=>r),s.k.ty ex,s.u,_,Y,?_⟩;refine yw (λz=>?_) (λz4=>?_)
 .cases F with
  | call a hs=>exact fF.elim
  | _=>exact absurd z nz
 have lF:isLeaf F=true:=by
  unfold isLeaf;rw [ph.mpr z1,ph.mpr z2,ph.mpr z3,ph.mpr z4];rfl
 obtain ⟨da,ea⟩:=ha;refine ⟨_,Y,m,_,dm,_,.ref cd,Y,Hd.m h,MC.c,MC.n3,Y,.inl ⟨Y,_,Hd.lst h 0 rfl⟩,_,Y,_,Y,_,Y,m,x,a,dm,da,le,fu,cd,ow,se,fs,p,mk,lv,mB,F,Y,Hd.m h,h.sm _ _ ea,hx.same h.sm,fF,lF,h.sql hl,iF',λt tv nt etv=>?_⟩;generalize hX:upd _ _ _=H5;obtain ⟨B5,s5,e5,h5⟩:=hdG h hX nt;clear hX;refine ⟨cd,_,_,Y,Y,Hd.get h5 0 rfl,(by rw [Je];exact nk (show _<=900 by omega) (by decide)),?_⟩;exact k B5 _ [t] s5 (MkAt.row (t:=t) h5) (by rw [etv];exact yp e5)
inductive Stp
 | let_ (tg:Nat) (v:F2.Fm) (t:Option F2.Fm)
def Stp.v:Stp->F2.Fm
 | .let_ _ v _=>v
def Stp.t:Stp->Option F2.Fm
 | .let_ _ _ t=>t
def Stp.tg:Stp->Nat
 | .let_ tg _ _=>tg
def Stp.mn_ (mB:J6):Stp->Int
 | .let_ tg _ _=>mB.getD tg 0
def Stp.valC (mB:J6) (se mk:Nat):Stp->List (Jj)
 | s=>mkF mB se s.v 0 mk 0 0
def Stp.eff (se mk:Nat):Stp->Jj
 | .let_ tg _ _=>Y1 tg mk
def Stp.seats (s:Stp):Nat:=
 let n:=match s with
  | s=>sN s.v
 match s.t with
  | none=>n
  | some t=>max n (sN t)
def testC (mB:J6) (se:Nat):Option F2.Fm->List (Jj)
 | none=>[]
 | some t=>mkF mB se t 0 0 0 0++[[.str "choose",.int 1,.int 0,.int 0]]
def Stp.body (mB:J6) (se:Nat) (s:Stp):List (Jj):=testC mB se s.t++s.valC mB se (maskOf s.t)
def body_let (mB:J6) (se:Nat) (t:Option F2.Fm) (v:F2.Fm):testC mB se t++mkF mB se v 0 (maskOf t) 0 0=yx mB se t v:=by cases t <;> rfl
def grOf (n:Nat):Nat:=if n<=2 then 4 else if n<=4 then 2 else 1
def Stp.code (mB:J6) (g:Nat) (s:Stp) (n:Int):List (Jj):=Z1 (s.mn_ mB) g (s.body mB (8 / g)) ((s.body mB (8 / g)).any xr) (s.eff (8 / g) (maskOf s.t)) n
def Stp.grp (my:Nat) (s:Stp):Nat:=if my=0 then grOf s.seats else my
def TestAt (c:F2.Cs) (B:Hp) (tv:V):Option F2.Fm->Prop
 | none=>tv=.non
 | some f=>∃ y,tv=.ref y/\F2.FormAt c B f y
def TestAt.same {c:F2.Cs} {B B':Hp} {tv:V} {t:Option F2.Fm} (h:TestAt c B tv t) (s:Same B B'):TestAt c B' tv t:=by
 cases t with
 | none=>exact h
 | some f=>obtain ⟨y,e,q⟩:=h;exact ⟨y,e,q.same s⟩
def StepAt (c:F2.Cs) (q:QCs) (B:Hp) (s:Ad):Stp->Prop
 | .let_ tg v t=>∃ ds x tv,B s=Z (.ins q.let_ ds [("target",.int tg),("value",.ref x),("test",tv)])/\F2.FormAt c B v x/\TestAt c B tv t
theorem StepAt.same {c:F2.Cs} {q:QCs} {B B':Hp} {s:Ad} (z:Same B B'):∀ {st:Stp},StepAt c q B s st->StepAt c q B' s st
 | .let_ _ _ _,⟨ds,x,tv,e,h1,h2⟩=>⟨ds,x,tv,z _ _ e,h1.same z,h2.same z⟩
def clsS (q:QCs):Stp->Ad
 | .let_ _ _ _=>q.let_
def sIsP:Stp->Bool
 | _=>false
def sIsL:Stp->Bool
 | .let_ _ _ _=>true
def sIsF:Stp->Bool
 | _=>false
structure StepG (mg:J0) (q:QCs):Prop where
 let_:mg "Let"=Z (.ref q.let_)
 put:mg "Put"=Z (.ref q.put)
 fold:mg "Fold"=Z (.ref q.fold)
 till:mg "Till"=Z (.ref q.till)
structure StpC (K:Fg) (q:QCs) (C:Ad) (p l f:Bool):Prop where
 k:KF K C
 p:isK K C q.put p
 l:isK K C q.let_ l
 f:isK K C q.fold f
 t:isK K C q.till false
 n0:NoAttr K C "target"
 n1:NoAttr K C "value"
 n2:NoAttr K C "test"
structure StepK (K:Fg) (q:QCs):Prop where
 let_:StpC K q q.let_ false true false
theorem StepK.of {K:Fg} {q:QCs} (L:StepK K q):∀ s:Stp,StpC K q (clsS q s) (sIsP s) (sIsL s) (sIsF s)
 | .let_ _ _ _=>L.let_
theorem StepAt.ins {c:F2.Cs} {q:QCs} {B:Hp} {s:Ad}:∀ {st:Stp},StepAt c q B s st->∃ ds fl x tv,B s=Z (.ins (clsS q st) ds fl)/\fl.lookup ("target":Str)=Z (V.int st.tg)/\fl.lookup ("value":Str)=Z (V.ref x)/\fl.lookup ("test":Str)=Z tv/\fl.lookup ("many_of":Str)=O/\F2.FormAt c B st.v x/\TestAt c B tv st.t
 | .let_ _ _ _,⟨ds,x,tv,e,h1,h2⟩=>⟨ds,_,x,tv,e,Y,Y,Y,Y,h1,h2⟩
structure MkDefs (K:Fg) (mg:J0):Prop where
 f:zk K mg "make_form" xY qA
 a:zk K mg "make_at" Yz qA
 p:zk K mg "make_pair" xX qA
 o:zk K mg "make_choice" xg qA
 u:zk K mg "make_call" ZJ qA
 t:zk K mg "make_two" Zv qF
theorem ok_mk {c:F2.Cs} {q:QCs} {tF:Tok} (d:MkDefs K mg) (hisi:mg "isinstance"=O) (hFC:mg "FIRST_CHOICE_MASK"=Z (.int 2 tF)) (G:FormG mg c) (L:FormK K c) (MC:MakerC K q.ma) (AC:AimC K q.ai) (AG:AimG mg q) (IA:OkI P w K mg base (CXe P w base) 1 q.ai qH (spI_Aim q.ai))
  (PB:OkM P w K mg base CX0 1 q.ma "put_by" Uo (spPutBy q))
  (LS:Ok P w K mg base CX0 2 "leaf_step" qA (spLeafStep c q K)) (SF:∀ n,Ok P w K mg base CX0 (2*n+2) "seats_for" qI (spSF c n)):∀ n:Nat,Ok P w K mg base CX0 (3*n+4) "make_form" qA (spMk c q K n)
 | 0=>ok_mk_s (spA:=spNv) (spP:=spNv) (spO:=spNv)
   (λn' e=>by cases e)
   (λn' e=>by cases e)
   d.f hisi G L MC ((Z5 d.a zah).mono (by decide)) ((Z5 d.p sc_make_pair).mono (by decide)) ((Z5 d.o sc_make_choice).mono (by decide)) (Z5 d.u Y6) LS
 | n+1=>by
  have h:=ok_mk d hisi hFC G L MC AC AG IA
   PB
   LS SF n
  have MT:=ok_two d.t MC AC AG IA PB (SF n) h;exact ok_mk_s
   (λn' e=>by cases e;rfl)
   (λn' e=>by cases e;rfl)
   d.f hisi G L MC
   ((Z5 d.a zah).mono (show 1<=3*(n+1)+3 by omega))
   (ok_mkpair d.p L MC AC MT)
   (ok_mkcho d.o hFC L MC AC AG IA h MT)
   (Z5 d.u Y6) LS
structure FitS (n:Nat) (s:Stp):Prop where
 v:Fit s.v/\hF s.v<=n
 t:∀ f,s.t=Z f->Fit f/\hF f<=n
def Zd (tv:Jj):Prop:=∃ z r,tv=.str z::r/\(z="op"->∃ a sg r',r=a::.str sg::r')
def y9 {z:Str} {r:Jj} (h:z≠"op"):Zd (.str z::r):=⟨z,r,Y,λe=>absurd e h⟩
def row_op (p:Nat) (sg:Str) (a c mk:Nat):Zd (opT p sg a c mk):=⟨"op",_,Y,λ_=>⟨_,_,_,Y⟩⟩
def yO {a b:List (Jj)} (h1:∀ tv∈a,Zd tv) (h2:∀ tv∈b,Zd tv):∀ tv∈a++b,Zd tv:=λtv h=>(oO.mp h).elim (h1 tv) (h2 tv)
def xA {a:Jj} (h1:Zd a):∀ tv∈[a],Zd tv:=λtv h=>by rw [mV.mp h];exact h1
def zd0 {fits:Prop} [Decidable fits] {c1 c2 c2':List (Jj)} {p s mk:Nat} (h1:∀ tv∈c1,Zd tv) (h2:∀ tv∈c2,Zd tv) (h3:∀ tv∈c2',Zd tv):∀ tv∈ZY fits c1 c2 c2' p s mk,Zd tv:=by
 unfold ZY
 split
 .exact yO h1 h2
 .exact yO (yO (yO h1 (xA (y9 (by decide)))) h3) (xA (y9 (by decide)))
theorem Zp (mB:J6) (se:Nat):∀ (F:F2.Fm) (p mk lv s:Nat),Fit F->∀ tv∈mkF mB se F p mk lv s,Zd tv
 | .num n,p,mk,lv,s,_=>xA (y9 (by decide))
 | .cell n,p,mk,lv,s,_=>xA (by split <;> exact y9 (by decide))
 | .pair sg l r,p,mk,lv,s,hf=>yO (zd0 (Zp mB se l _ _ _ _ hf.1) (Zp mB se r _ _ _ _ hf.2) (Zp mB se r _ _ _ _ hf.2)) (xA (by split <;> exact row_op _ _ _ _ _))
 | .cho t l r,p,mk,lv,s,hf=>yO (yO (yO (Zp mB se t _ _ _ _ hf.1) (λtv h=>by
   rcases mM.mp h with rfl | h
   .exact y9 (by decide)
   .exact xA (y9 (by decide)) tv h)) (zd0 (Zp mB se l _ _ _ _ hf.2.1) (Zp mB se r _ _ _ _ hf.2.2) (Zp mB se r _ _ _ _ hf.2.2))) (xA (by split <;> exact y9 (by decide)))
inductive spMay (K:Fg) (vs:Jj) (H:Hp) (Q:VK) (_:XK):Prop
 | mk (t:Ad) (tv:Jj) (_:vs=[.ref t]) (_:SqT K H t tv) (_:Zd tv) (_:∀ H',Same H H'->Q (.bl (xr tv)) H')
def ok_may (d:zk K mg "may_fault" ZH ["step"]):Ok P w K mg base CX0 1 "may_fault" ["step"] (spMay K):=by
 refine oDf d sc_may_fault λg mx A _ s H vs Q E hr h=>?_;obtain ⟨t,tv,rfl,hT,⟨z,r,rfl,ho⟩,k⟩:=h;have nd:=sc_may_fault.nd
 have in2:∀ x y:Str,inV (V.str z) [V.str x,V.str y]=(decide (z=x) || decide (z=y)):=λx y=>by
  unfold inV;by_cases h1:z=x
  .subst h1;simp [eqV]
  .by_cases h2:z=y
   .subst h2;simp [eqV]
   .rw [decide_eq_false h1,decide_eq_false h2]
    simp [eqV];exact ⟨λe=>h1 e.symm,λe=>h2 e.symm⟩
 have e0:∀ x:Str,decide ((V.str z::r)[0]?=Z (V.str x))=decide (z=x):=λx=>decide_eq_decide.mpr ⟨λh=>V.str.inj (nR h),λh=>by rw [h];rfl⟩;unfold xr at k;rw [e0,e0,e0] at k;refine ⟨_,(zf (zm (pe_or (xS zby (zv zF (pv 0) zg (λ_ _=>rfl)) (yb (zb zP (zb zP zc))) rfl) (zc0 (zc1 (xS Zc (zv zF (pv 0) zg (λ_ _=>rfl)) zP (zM _)) (zc0 (xS zby (zv zF (pv 0) zg (λ_ _=>rfl)) (yb (zb zP (zb zP zc))) rfl))))))),?_⟩;refine ⟨_,Y,t,_,_,_,Y,Y,hT,zB (j:=0) rfl,?_⟩;refine ⟨szU 2,λp np=>⟨p,_,Y,.inr (SqT.of zh),Y,Y,_,Y,?_⟩⟩;generalize hX:upd _ _ _=H1;obtain ⟨s1,e1⟩:=Yq hX np;clear hX;rw [in2]
 cases hb:(decide (z="gather") || decide (z="reach")) with
 | true =>
  rw [hb] at k;exact Yl (k H1 s1)
 | false =>
  rw [hb] at k;refine xt ⟨_,Y,t,_,_,_,Y,Y,F2.sqt_same hT s1,zB (j:=0) rfl,Y,_,Y,?_⟩;have ez:decide (V.str z=V.str "op")=decide (z="op"):=decide_eq_decide.mpr ⟨V.str.inj,λh=>by rw [h]⟩;rw [ez]
  cases ho':decide (z="op") with
  | false =>
   rw [ho'] at k;exact xt (k H1 s1)
  | true =>
   rw [ho'] at k;obtain ⟨a,sg,r',rfl⟩:=ho (of_decide_eq_true ho');have e2:∀ x:Str,decide ((V.str z::a::V.str sg::r')[2]?=Z (V.str x))=decide (sg=x):=λx=>decide_eq_decide.mpr ⟨λh=>V.str.inj (nR h),λh=>by rw [h];rfl⟩;rw [e2,e2] at k;refine Yl ⟨_,Y,t,_,_,_,Y,Y,F2.sqt_same hT s1,zB (j:=2) rfl,?_⟩;refine ⟨szU 2,λp2 np2=>⟨p2,_,Y,.inr (SqT.of zh),Y,Y,?_⟩⟩
   have in3:inV (V.str sg) [V.str "/",V.str "rest"]=(decide (sg="/") || decide (sg="rest")):=by
    unfold inV;by_cases h1:sg="/"
    .subst h1;simp [eqV]
    .by_cases h2:sg="rest"
     .subst h2;simp [eqV]
     .rw [decide_eq_false h1,decide_eq_false h2]
      simp [eqV];exact ⟨λe=>h1 e.symm,λe=>h2 e.symm⟩
   rw [in3];exact k _ (s1.trans (zu (Same.refl _) np2))
inductive spSS (c:F2.Cs) (q:QCs) (n:Nat) (vs:Jj) (H:Hp) (Q:VK) (_:XK):Prop
 | mk (s:Ad) (fu:V) (st:Stp) (_:vs=[.ref s,fu]) (_:StepAt c q H s st) (_:FitS n st) (_:∀ H',Same H H'->Q (.int st.seats) H')
def ok_ss {c:F2.Cs} {q:QCs} {n:Nat} (d:zk K mg "seats_for_step" yS ["step","functions"]) (hisi:mg "isinstance"=O) (hmax:mg "max"=O) (SG:StepG mg q) (SK:StepK K q) (SF:Ok P w K mg base CX0 (2*n+2) "seats_for" qI (spSF c n)) (S2:Ok P w K mg base CX0 (2*n+3) "seats_for_two" qK (spS2 c n)):Ok P w K mg base CX0 (2*n+4) "seats_for_step" ["step","functions"] (spSS c q n):=by
 refine oDf d sc_seats_for_step λg mx A _ s H vs Q E hr h=>?_;obtain ⟨s,fu,st,rfl,hs,hf,k⟩:=h;have nd:=sc_seats_for_step.nd;have hrS2:=hr;have hrS:Room (2*n+2) _:=hr.mono (by omega);have kk:=SK.of st;obtain ⟨ds,fl,x,tv,es,f0,f1,f2,f3,hx,ht⟩:=hs.ins;refine ⟨_,(zd (oRz 2 nd (zD SF hrS (by rfl) zo (zb (zi (pv 0) rfl) (zb (pv 1) zc))))
   (zd (Y0 (zO (ya (zp zE (by rfl) hisi m7 (zb (pv 0) (zb (zZ SG.put) zc)))) (zf (oRz 2 nd (zD S2 hrS2 (by rfl) zo (zb (zi (pv 0) rfl) (zb (zi (pv 0) rfl) (zb (pv 1) zc)))))) zC))
   (zd (zO (zJ op_notN (zi (pv 0) rfl) xB (zM _)) (zf (oRz 2 nd (zp (YJ rfl) (by rfl) hmax sx (zb (pv 2) (zb (zD SF hrS (by rfl) zo (zb (zi (pv 0) rfl) (zb (pv 1) zc))) zc))))) zC)
   (zf (zm (pv 2)))))),?_⟩
 refine ⟨_,Y,s,_,ds,_,_,Y,es,kk.k.cl,kk.n1,f1,_,Y,x,fu,st.v,Y,hx,hf.v.1,hf.v.2,λH1 s1=>?_⟩
 let n0:Nat:=match st with
  | s=>sN s.v
 refine ⟨λσ J=>σ=[Z (.ref s),Z fu,Z (.int n0)]/\Same H J,?_,?_⟩
 .refine ⟨_,Y,_,_,.ref q.put,_,sIsP st,Y,Y,(λu r=>r),kk.k.ty (s1 _ _ es),kk.p,_,Y,?_⟩
  cases st with
  | _=>exact xt ⟨Y,s1⟩
 rintro σ J ⟨rfl,sJ⟩;refine ⟨_,Y,s,_,ds,_,tv,Y,sJ _ _ es,kk.k.cl,kk.n2,f2,Y,?_⟩
 have es':st.seats=match st.t with
  | none=>n0
  | some t=>max n0 (sN t):=rfl
 cases et:st.t with
 | none =>
  rw [et] at ht es';have ht:tv=.non:=ht;refine ⟨false,congrArg V.bl (by rw [ht,decide_eq_true rfl];rfl),xt ⟨_,Y,?_⟩⟩;rw [es'] at k;exact k J sJ
 | some f =>
  rw [et] at ht es';obtain ⟨y,ey,hy⟩:=ht;have ft:=hf.t f et;refine ⟨true,congrArg V.bl (by rw [ey,decide_eq_false (by intro z;cases z)];rfl),Yl ?_⟩;refine ⟨_,Y,_,Y,s,_,ds,_,tv,Y,sJ _ _ es,kk.k.cl,kk.n2,f2,_,Y,y,fu,f,by rw [ey];rfl,hy.same sJ,ft.1,ft.2,λH2 s2=>?_⟩;refine ⟨_,_,Y,?_⟩;rw [zc9];rw [es'] at k;exact ⟨_,Y,k H2 (sJ.trans s2)⟩
inductive spGroupF (vs:Jj) (H:Hp) (Q:VK) (_:XK):Prop
 | mk (n:Nat) (_:vs=[.int n]) (_:Q (.int (grOf n)) H)
def ok_groupF (d:zk K mg "group_for" ZP ["seats"]):Ok P w K mg base CX0 1 "group_for" ["seats"] spGroupF:=by
 refine oDf d sc_group_for λg mx A _ s H vs Q E hr h=>?_;obtain ⟨n,rfl,k⟩:=h;have nd:=sc_group_for.nd;unfold grOf at k;refine ⟨_,(zd (zO (zJ op_le (pv 0) zg (zM _)) (zf (zm zg)) zC)
   (zd (zO (zJ op_le (pv 0) zg (zM _)) (zf (zm zg)) zC)
   (zf (zm zg)))),?_⟩
 refine ⟨_,Y,_,_,Y,Y,_,Y,?_⟩;refine yw (λz=>?_) (λz=>?_)
 .rw [if_pos (by have:=of_decide_eq_true z;omega)] at k;exact k
 have z1:¬ n<=2:=λy=>z (decide_eq_true (by omega));rw [if_neg z1] at k;refine ⟨_,Y,_,_,Y,Y,_,Y,?_⟩;refine yw (λz=>?_) (λz=>?_)
 .rw [if_pos (by have:=of_decide_eq_true z;omega)] at k;exact k
 .rw [if_neg (λy=>z (decide_eq_true (by omega)))] at k;exact k
structure PrC (K:Fg) (C:Ad):Prop where
 c:Cls K C
 n0:NoAttr K C "lengths"
 n1:NoAttr K C "functions"
 n2:NoAttr K C "steps"
def prFl (la lb lc:Ad):List (Str×V):=[("lengths",.ref la),("functions",.ref lb),("steps",.ref lc)]
structure InS2 (mB:J6) (s:Stp):Prop where
 v:InL mB s.v
 t:∀ f,s.t=Z f->InL mB f
 g:s.tg<mB.length
def cT:Option F2.Fm->Nat
 | none=>0
 | some f=>cN f+1
def cS (s:Stp):Nat:=cN s.v+1+cT s.t
inductive spMT (c:F2.Cs) (q:QCs) (K:Fg) (n:Nat) (vs:Jj) (H:Hp) (Q:VK) (_:XK):Prop
 | mk (B:Hp) (m s dm le fu cd:Ad) (se:Nat) (cs:Jc) (mB:J6) (st:Stp) (_:vs=[.ref m,.ref s]) (_:MkAt q B m dm le fu cd se 0 cs H) (_:StepAt c q B s st) (_:FitS n st) (_:InS2 mB st) (_:SqL K B le (mB.map V.int)) (_:cs.length+cS st<=900) (_:∀ B' H' ts,Same B B'->MkAt q B' m dm le fu cd se 0 (cs++ts) H'->CodeAt B' ts (testC mB se st.t)->Q (.int (maskOf st.t)) H')
def ok_mt {c:F2.Cs} {q:QCs} {n:Nat} {t:Tok} (d:zk K mg "make_test" ZI ["maker","step"]) (hTM:mg "TEST_MASK"=Z (.int 1 t)) (SK:StepK K q) (MC:MakerC K q.ma) (AG:AimG mg q) (IA:OkI P w K mg base (CXe P w base) 1 q.ai qH (spI_Aim q.ai)) (MF:Ok P w K mg base CX0 (3*n+4) "make_form" qA (spMk c q K n)):Ok P w K mg base CX0 (3*n+5) "make_test" ["maker","step"] (spMT c q K n):=by
 refine oDf d sc_make_test λg mx A _ s H vs Q E hr h=>?_;obtain ⟨B,m,s,dm,le,fu,cd,se,cs,mB,st,rfl,h,hs,hf,il,hl,cl,k⟩:=h;have nd:=sc_make_test.nd;have hrF:=hr;have hr2:Room 2 _:=hr.mono (by omega);have kk:=SK.of st;obtain ⟨ds,fl,x,tv,es,f0,f1,f2,f3,hx,ht⟩:=hs.ins;refine ⟨_,(zd (zO (zJ zaw (zi (pv 1) rfl) xB (zM _)) (zf (zm zg)) zC)
   (zd (zy (zD MF hrF (by rfl) zo (zb (pv 0) (zb (zi (pv 1) rfl) (zb (yc IA AG.ai hr2 (by rfl) yk (zb zg (zb zg (zb zg (zb (yn zc) zc))))) zc)))))
   (zd (zy (Zb mU mZ mY ye (zi (pv 0) rfl) (zb (yb (zb zP (zb (xC hTM) (zb zg (zb zg zc))))) zc)))
   (zf (zm (xC hTM)))))),?_⟩
 show (let s1:L2.TS:=_;let s2:L2.TS:=L2.tSeq _ s1;let s3:L2.TS:=L2.tSeq _ s2;L2.tSeq _ s3 _ _ _);intro s1 s2 s3;refine ⟨_,Y,s,_,ds,_,tv,Y,h.sm _ _ es,kk.k.cl,kk.n2,f2,Y,?_⟩
 cases et:st.t with
 | none =>
  rw [et] at ht k;have ht:tv=.non:=ht;exact ⟨true,congrArg V.bl (by rw [ht,decide_eq_true rfl]),Yl (k B H [] (Same.refl _) (by rw [q8y];exact h) ⟨Y,λi a tv x=>by cases x⟩)⟩
 | some f =>
  have ft:=hf.t f et;have fi:=il.t f et
  have cl':cs.length+cN f+1<=900:=by
   unfold cS at cl;rw [et] at cl;have e:cT (Z f)=cN f+1:=rfl;omega
  rw [et] at ht k;obtain ⟨y,ey,hy⟩:=ht;refine ⟨false,congrArg V.bl (by rw [ey,decide_eq_false (by intro z;cases z)]),xt ?_⟩;refine ⟨_,Y,_,Y,s,_,ds,_,tv,Y,h.sm _ _ es,kk.k.cl,kk.n2,f2,szU 0,λow now=>?_⟩;generalize hX:upd _ _ _=H1;obtain ⟨B1,s1,e1,h1⟩:=hdG h hX now;clear hX;refine λai dai n1 n2 n3=>⟨ai,dai,.int (0:Nat),.int (0:Nat),.int (0:Nat),.ref ow,Y,zh,λH3 k3 e3=>⟨Y,?_⟩⟩;obtain ⟨B3,s3,e3',h3⟩:=hdM h1 n1 n2 n3 k3 e3;have s13:=s1.trans s3;refine ⟨B3,m,y,ai,dm,le,fu,cd,ow,se,0,0,0,0,cs,mB,f,by rw [ey];rfl,h3,⟨dai,e3'⟩,hy.same s13,ft.1,ft.2,zw hl s13,fi,by omega,λB4 H4 ts s4 h4 c4=>?_⟩;have tl:ts.length<=cN f:=by rw [c4.n];exact yg mB se f 0 0 0 0 ft.1
  refine ⟨_,Y,m,_,dm,_,.ref cd,Y,Hd.m h4,MC.c,MC.n3,Y,.inl ⟨Y,_,Hd.lst h4 0 rfl⟩,szU 4,λt5 n5=>?_⟩;generalize hX:upd _ _ _=H5;obtain ⟨B5,s5,e5,h5⟩:=hdG h4 hX n5;clear hX;refine ⟨cd,_,_,Y,Y,Hd.get h5 0 rfl,(by rw [Je,Jf];exact nk (show _<=900 by omega) (by decide)),?_⟩;exact k B5 _ (ts++[t5]) ((s13.trans s4).trans s5) (by rw [← n8];exact MkAt.row (t:=t5) h5) (yd (c4.same s5) (yp e5))
inductive spMV (c:F2.Cs) (q:QCs) (K:Fg) (n:Nat) (vs:Jj) (H:Hp) (Q:VK) (_:XK):Prop
 | mk (B:Hp) (m s dm le fu cd:Ad) (se mk:Nat) (cs:Jc) (mB:J6) (st:Stp) (_:vs=[.ref m,.ref s,.int mk]) (_:MkAt q B m dm le fu cd se 0 cs H) (_:StepAt c q B s st) (_:FitS n st) (_:InS2 mB st) (_:SqL K B le (mB.map V.int)) (_:cs.length+cS st<=900) (_:∀ B' H' ts e,Same B B'->MkAt q B' m dm le fu cd se 0 (cs++ts) H'->CodeAt B' ts (st.valC mB se mk)->B' e=Z (.tup (st.eff se mk))->Q (.ref e) H')
def ok_mv {c:F2.Cs} {q:QCs} {n:Nat} (d:zk K mg "make_value" Zi Uu) (hisi:mg "isinstance"=O) (SG:StepG mg q) (SK:StepK K q) (MC:MakerC K q.ma) (AG:AimG mg q) (IA:OkI P w K mg base (CXe P w base) 1 q.ai qH (spI_Aim q.ai)) (MF:Ok P w K mg base CX0 (3*n+4) "make_form" qA (spMk c q K n))
  (MT:Ok P w K mg base CX0 1 "make_two" qF spNv)
  : Ok P w K mg base CX0 (3*n+6) "make_value" Uu (spMV c q K n):=by
 refine oDf d sc_make_value λg mx A _ s H vs Q E hr h=>?_;obtain ⟨B,m,s,dm,le,fu,cd,se,mk,cs,mB,st,rfl,h,hs,hf,il,hl,cl,k⟩:=h;have nd:=sc_make_value.nd;have hrF:Room (3*n+4) _:=hr.mono (by omega);have hrT:Room 1 _:=hr.mono (by omega);have hr2:Room 2 _:=hr.mono (by omega);have kk:=SK.of st;obtain ⟨ds,fl,x,tv,es,f0,f1,f2,f3,hx,ht⟩:=hs.ins;have clv:cs.length+cN st.v<=900:=by unfold cS at cl;omega
 refine ⟨_,(zd (oRz 3 nd (yc IA AG.ai hr2 (by rfl) yk (zb zg (zb (pv 2) (zb zg (zb (yn zc) zc))))))
   (zd (zO (ya (zp zE (by rfl) hisi m7 (zb (pv 1) (zb (zZ SG.put) zc)))) (zd (oRz 4 nd (zD MT hrT (by rfl) zo (zb (pv 0) (zb (zi (pv 1) rfl) (zb (pv 3) (zb (zi (pv 1) rfl) (zb (pv 3) zc)))))))
   (zd (zy (Zb mU mZ mY ye (zi (pv 0) rfl) (zb (yb (zb zP (zb (zv zF (pv 4) zg (λ_ _=>rfl)) (zb (zv z6 (zi (pv 0) rfl) (zi (pv 1) rfl) (λ_ _=>rfl)) (zb (pv 2) zc))))) zc)))
   (zf (zm (yb (zb zP (zb (zi (pv 1) rfl) (zb (zv zF (pv 4) zg (λ_ _=>rfl)) (zb (zv zF (pv 4) zg (λ_ _=>rfl)) (zb (pv 2) zc)))))))))) zC)
   (zd (zy (zD MF hrF (by rfl) zo (zb (pv 0) (zb (zi (pv 1) rfl) (zb (pv 3) zc)))))
   (zd (zO (ya (zp zE (by rfl) hisi m7 (zb (pv 1) (zb (zZ SG.let_) zc)))) (zf (zm (yb (zb zP (zb (zi (pv 1) rfl) (zb zg (zb (pv 2) zc))))))) zC)
   (zd (zO (ya (zp zE (by rfl) hisi m7 (zb (pv 1) (zb (zZ SG.fold) zc)))) (zf (zm (yb (zb zP (zb (zi (pv 1) rfl) (zb (zi (pv 1) rfl) (zb zg (zb (pv 2) zc)))))))) zC)
   (zf (zm (yb (zb zP (zb (zi (pv 1) rfl) (zb (zi (pv 1) rfl) (zb zg (zb (pv 2) zc))))))))))))),?_⟩
 show (let s1:L2.TS:=_;let s2:L2.TS:=L2.tSeq _ s1;let s3:L2.TS:=L2.tSeq _ s2;let s4:L2.TS:=L2.tSeq _ s3;let s5:L2.TS:=L2.tSeq _ s4;L2.tSeq _ s5 _ _ _);intro s1 s2 s3 s4 s5;refine ⟨_,Y,szU 0,λow now=>?_⟩;generalize hX:upd _ _ _=H1;obtain ⟨B1,s1,e1,h1⟩:=hdG h hX now;clear hX h;refine λai dai n1 n2 n3=>⟨ai,dai,.int (0:Nat),.int mk,.int (0:Nat),.ref ow,Y,zh,λH3 k3 e3=>⟨Y,?_⟩⟩;obtain ⟨B3,s3,e3',h3⟩:=hdM h1 n1 n2 n3 k3 e3;clear h1 k3 e3 n1 n2 n3;have s13:=s1.trans s3;replace hs:=hs.same s13;replace es:=s13 _ _ es;replace hx:=hx.same s13;replace hl:=zw hl s13;refine ⟨_,Y,_,_,.ref q.put,_,sIsP st,Y,Y,(λu r=>r),kk.k.ty (h3.sm _ _ es),kk.p,_,Y,?_⟩;refine yw (λz=>?_) (λz=>?_)
 .cases st with
  | _=>exact absurd z nz
 have ev:st.valC mB se mk=mkF mB se st.v 0 mk 0 0:=by
  cases st with
  | _=>rfl
 rw [ev] at k;refine ⟨_,Y,_,Y,s,_,ds,_,.ref x,Y,h3.sm _ _ es,kk.k.cl,kk.n1,f1,_,Y,B3,m,x,ai,dm,le,fu,cd,ow,se,0,0,mk,0,cs,mB,st.v,Y,h3,⟨dai,e3'⟩,hx,hf.v.1,hf.v.2,hl,il.v,clv,λB4 H4 ts s4 h4 c4=>?_⟩;replace hs:=hs.same s4;replace es:=h4.sm _ _ (s4 _ _ es);refine ⟨_,Y,_,_,.ref q.let_,_,sIsL st,Y,Y,(λu r=>r),kk.k.ty es,kk.l,_,Y,?_⟩;refine yw (λz2=>?_) (λz2=>?_)
 .cases st with
  | let_ tg v t =>
   refine ⟨_,Y,s,_,ds,_,.int tg,Y,es,kk.k.cl,kk.n0,f0,_,Y,szU 4,λe ne=>?_⟩;generalize hX:upd _ _ _=H5;obtain ⟨B5,s5,e5,h5⟩:=hdG h4 hX ne;exact k B5 H5 ts e ((s13.trans s4).trans s5) h5 (c4.same s5) e5
 refine ⟨_,Y,_,_,.ref q.fold,_,sIsF st,Y,Y,(λu r=>r),kk.k.ty es,kk.f,_,Y,?_⟩;refine yw (λz3=>?_) (λz3=>?_)
 .cases st with
  | _=>exact absurd z3 nz
 cases st with
 | let_ tg v t=>exact absurd rfl z2
inductive spI_Mk (q:QCs) (vs:Jj) (H:Hp) (Q:VK) (_:XK):Prop
 | mk (B:Hp) (x dx le fu:Ad) (g:Nat) (_:vs=[.ref x,.ref le,.ref fu,.int g]) (_:Hd B [(x,.ins q.ma dx [])] H) (_:(g=1∨g=2∨g=4)) (_:∀ H' cd,MkAt q B x dx le fu cd (8 / g) 0 [] H'->Q .non H')
def okI_Mk {q:QCs} {t:Tok} (d:yq K q.ma "Maker.__init__" Zl qT) (hMB:mg "MANY_BOXES"=Z (.int 8 t)) (MC:MakerC K q.ma):OkI P w K mg base CX0 1 q.ma qT (spI_Mk q):=by
 refine oIf d zbo λf mx A _ s H vs Q E hr h=>?_;obtain ⟨B,x,dx,le,fu,g,rfl,h,hg,k⟩:=h;refine ⟨_,(zd (zt (pv 0) (pv 1) rfl)
   (zd (zt (pv 0) (pv 2) rfl)
   (zd (zt (pv 0) (zn zax (xC hMB) (pv 3)) rfl)
   (zd (zt (pv 0) (yn zc) rfl)
   (zf (zt (pv 0) zg rfl)))))),?_⟩
 show (let s1:L2.TS:=_;let s2:L2.TS:=L2.tSeq _ s1;let s3:L2.TS:=L2.tSeq _ s2;let s4:L2.TS:=L2.tSeq _ s3;L2.tSeq _ s4 _ _ _);intro s1 s2 s3 s4;refine ⟨_,Y,_,Y,x,q.ma,dx,[],Y,h.get 0 rfl,MC.c,MC.n0,(by show 0<1000;decide),?_⟩;replace h:=h.put (o':=.ins q.ma dx [("lengths",.ref le)]) 0 rfl;refine ⟨_,Y,_,Y,x,q.ma,dx,[("lengths",.ref le)],Y,h.get 0 rfl,MC.c,MC.n1,(by show 1<1000;decide),?_⟩;replace h:=h.put (o':=.ins q.ma dx [("lengths",.ref le),("functions",.ref fu)]) 0 rfl;have eg:(8:Int).fdiv (g:Int)=((8 / g:Nat):Int):=by rcases hg with e | e | e <;> subst e <;> rfl
 refine ⟨_,Y,_,_,Y,Y,⟨by omega,by omega,by omega⟩,_,Y,x,q.ma,dx,[("lengths",.ref le),("functions",.ref fu)],Y,h.get 0 rfl,MC.c,MC.n2,(by show 2<1000;decide),?_⟩;rw [eg];replace h:=h.put (o':=.ins q.ma dx [("lengths",.ref le),("functions",.ref fu),("seats",.int (8 / g:Nat))]) 0 rfl;refine ⟨szU 0,λcd ncd=>?_⟩;replace h:=h.new (o:=.lst []) ncd;refine ⟨_,Y,x,q.ma,dx,[("lengths",.ref le),("functions",.ref fu),("seats",.int (8 / g:Nat))],Y,h.get 1 rfl,MC.c,MC.n3,(by show 3<1000;decide),?_⟩;replace h:=h.put (o':=.ins q.ma dx [("lengths",.ref le),("functions",.ref fu),("seats",.int (8 / g:Nat)),("code",.ref cd)]) 1 rfl;refine ⟨_,Y,x,q.ma,dx,[("lengths",.ref le),("functions",.ref fu),("seats",.int (8 / g:Nat)),("code",.ref cd)],Y,h.get 1 rfl,MC.c,MC.n4,(by show 4<1000;decide),?_⟩;replace h:=h.put (o':=.ins q.ma dx (mkFl le fu (8 / g) cd 0)) 1 rfl;exact k _ cd h
inductive spMany (c:F2.Cs) (q:QCs) (K:Fg) (st:Stp) (vs:Jj) (H:Hp) (Q:VK) (_:XK):Prop
 | mk (s le:Ad) (mB:J6) (_:vs=[.ref s,.ref le]) (_:StepAt c q H s st) (_:SqL K H le (mB.map V.int)) (_:st.tg<mB.length) (_:Q (.int (st.mn_ mB)) H)
def ok_manyL {c:F2.Cs} {q:QCs} {tg:Nat} {v:F2.Fm} {t:Option F2.Fm} (d:zN K q.let_ "many_of" "Let.many_of" xP Ux) (SK:StepK K q):OkM P w K mg base CX0 1 q.let_ "many_of" Ux (spMany c q K (.let_ tg v t)):=by
 refine oMf d zak λf mx A _ s H vs Q E hr h=>?_;obtain ⟨s,le,mB,rfl,⟨ds,x,tv,es,_,_⟩,hl,tl,k⟩:=h;refine ⟨_,(zf (zm (zv z6 (pv 1) (zi (pv 0) rfl) (λ_ _=>rfl)))),?_⟩;exact ⟨_,Y,_,Y,s,_,ds,_,.int tg,Y,es,SK.let_.k.cl,SK.let_.n0,Y,le,_,_,_,Y,Y,hl,xc tg tl rfl,k⟩
def Xr (mB:J6) (se:Nat) {n:Nat} {s:Stp} (hf:FitS n s):(∀ tv∈testC mB se s.t,Zd tv)/\(testC mB se s.t).length<=cT s.t:=by
 cases et:s.t with
 | none=>exact ⟨(λtv h=>nomatch h),m8 _⟩
 | some f =>
  have ft:=hf.t f et;refine ⟨yO (Zp mB se f 0 0 0 0 ft.1) (xA (y9 (by decide))),?_⟩;show (mkF mB se f 0 0 0 0++[_]).length<=_;rw [Jf];have:=yg mB se f 0 0 0 0 ft.1;show _+1<=cN f+1;omega
theorem zdl (mB:J6) (se mk:Nat) {n:Nat} {s:Stp} (hf:FitS n s):(∀ tv∈s.valC mB se mk,Zd tv)/\(s.valC mB se mk).length<=cN s.v
  := by
 cases s with
 | let_ tg v t=>exact ⟨Zp mB se v _ _ _ _ hf.v.1,yg mB se v 0 mk 0 0 hf.v.1⟩
def ze0 (mB:J6) (se:Nat) {n:Nat} {s:Stp} (hf:FitS n s):(s.body mB se).length+1<=cS s:=by
 unfold Stp.body cS;rw [Jf];have a:=(Xr mB se hf).2;have b:=(zdl mB se (maskOf s.t) hf).2;omega
def code_len (mB:J6) (g:Nat) {n:Nat} {s:Stp} (hf:FitS n s) (k:Int):(s.code mB g k).length<=cS s+4:=by
 unfold Stp.code Z1;rw [Jf,Jf,Jf];have a:=ze0 mB (8 / g) hf;have b:=tail_len ((s.body mB (8 / g)).any xr) (s.eff (8 / g) (maskOf s.t)) k;show 1+_+_+1<=_;omega
inductive spRnd (c:F2.Cs) (q:QCs) (K:Fg) (n:Nat) (vs:Jj) (H:Hp) (Q:VK) (_:XK):Prop
 | mk (pr dp la lb lc s:Ad) (mB:J6) (st:Stp) (number:Int) (my:Nat) (_:vs=[.ref pr,.ref s,.int number,.int my]) (_:H pr=Z (.ins q.pr dp (prFl la lb lc))) (_:StepAt c q H s st) (_:FitS n st) (_:InS2 mB st) (_:SqL K H la (mB.map V.int)) (_:cS st<=400) (_:(my=0∨my=1∨my=2∨my=4)) (_:∀ H' l cs,Same H H'->H l=O->H' l=Z (.lst (cs.map V.ref))->CodeAt H' cs (st.code mB (st.grp my) number)->Q (.ref l) H')
def ok_rnd {c:F2.Cs} {q:QCs} {n:Nat} (d:zk K mg "round_of" Ye Ua) (hany:mg "any"=O) (SK:StepK K q) (PC:PrC K q.pr) (MC:MakerC K q.ma) (AG:AimG mg q)
  (SS:Ok P w K mg base CX0 (2*n+4) "seats_for_step" ["step","functions"] (spSS c q n)) (GF:Ok P w K mg base CX0 1 "group_for" ["seats"] spGroupF) (IM:OkI P w K mg base CX0 1 q.ma qT (spI_Mk q)) (MO:∀ st,OkM P w K mg base CX0 1 (clsS q st) "many_of" Ux (spMany c q K st))
  (MTe:Ok P w K mg base CX0 (3*n+5) "make_test" ["maker","step"] (spMT c q K n)) (MV:Ok P w K mg base CX0 (3*n+6) "make_value" Uu (spMV c q K n)) (MY:Ok P w K mg base CX0 1 "may_fault" ["step"] (spMay K)):Ok P w K mg base CX0 (3*n+7) "round_of" Ua (spRnd c q K n):=by
 refine oDf d sc_round_of λg mx A _ s H vs Q E hr h=>?_;obtain ⟨pr,dp,la,lb,lc,s,mB,st,number,my,rfl,hp,hs,hf,il,hl,cl,hg,k⟩:=h;have nd:=sc_round_of.nd;have hrV:=hr;have hrE:Room (3*n+5) _:=hr.mono (by omega);have hrS:Room (2*n+4) _:=hr.mono (by omega);have hr2:Room 2 _:=hr.mono (by omega);have hr1:Room 1 _:=hr.mono (by omega);have kk:=SK.of st;obtain ⟨ds,fl,x,tv,es,f0,f1,f2,f3,hx,ht⟩:=hs.ins;refine ⟨_,(zd (Y0 (zO (zJ Zc (pv 3) zg (zM _)) (zf (oRz 3 nd (zD GF hr1 (by rfl) zo (zb (zD SS hrS (by rfl) zo (zb (pv 1) (zb (zi (pv 0) rfl) zc))) zc)))) zC))
   (zd (oRz 4 nd (yc IM AG.ma hr2 (by rfl) zo (zb (zi (pv 0) rfl) (zb (zi (pv 0) rfl) (zb (pv 3) zc)))))
   (zd (zy (Zb mU mZ mY ye (zi (pv 4) rfl) (zb (yb (zb zP (zb (zX (MO st) kk.k.cl hr1 zo (pv 1) (zb (zi (pv 0) rfl) zc)) (zb (pv 3) zc)))) zc)))
   (zd (oRz 5 nd (zD MTe hrE (by rfl) zo (zb (pv 4) (zb (pv 1) zc))))
   (zd (oRz 6 nd (zD MV hrV (by rfl) zo (zb (pv 4) (zb (pv 1) (zb (pv 5) zc)))))
   (zd (zO (ya (zp (call_anyB rfl) (by rfl) hany PyProof.Rows.boot_any (zb (xZ ["made_step"] [O] rfl rfl rfl (Zq (zi (pv 4) rfl)) (λs3 H3 fp=>⟨oQz 0 (Jl ["made_step"]),(zD MY hr1 (by rfl) zo (zb (pv 0) zc))⟩)) zc))) (zf (zm (zn zc5 (zi (pv 4) rfl) (yn (zb (yb (zb zP zc)) (zb (pv 6) (zb (yb (zb zP (zb (pv 2) zc))) (zb (yb (zb zP zc)) zc)))))))) zC)
   (zf (zm (zn zc5 (zi (pv 4) rfl) (yn (zb (pv 6) (zb (yb (zb zP zc)) zc)))))))))))),?_⟩
 show (let s1:L2.TS:=_;let s2:L2.TS:=L2.tSeq _ s1;let s3:L2.TS:=L2.tSeq _ s2;let s4:L2.TS:=L2.tSeq _ s3;let s5:L2.TS:=L2.tSeq _ s4;let s6:L2.TS:=L2.tSeq _ s5;L2.tSeq _ s6 _ _ _);intro s1 s2 s3 s4 s5 s6;refine ⟨λσ J=>σ=[rq pr,rq s,iq number,iq (st.grp my),O,O,O,O]/\Same H J,?_,?_⟩
 .refine ⟨_,Y,Y,_,Y,?_⟩
  refine yw (λz=>?_) (λz=>?_)
  .have z:(my:Int)=0:=V.int.inj (of_decide_eq_true z)
   have z:my=0:=by omega
   refine ⟨_,Y,_,Y,pr,_,dp,_,.ref lb,Y,hp,PC.c,PC.n1,Y,s,.ref lb,st,Y,hs,hf,λH1 s1=>⟨st.seats,Y,?_⟩⟩;have e:st.grp my=grOf st.seats:=if_pos z;rw [e];exact ⟨Y,s1⟩
  .have z:¬ my=0:=λy=>z (decide_eq_true (by rw [y];rfl))
   have e:st.grp my=my:=if_neg z;rw [e];exact ⟨Y,Same.refl _⟩
 rintro σ J ⟨rfl,sJ⟩
 have gb:st.grp my=1∨st.grp my=2∨st.grp my=4:=by
  unfold Stp.grp grOf
  split
  .split
   .exact .inr (.inr rfl)
   .split
    .exact .inr (.inl rfl)
    .exact .inl rfl
  .next z=>exact hg.resolve_left z
 generalize st.grp my=gg at gb k ⊢;replace hp:=sJ _ _ hp;replace hs:=hs.same sJ;replace es:=sJ _ _ es;replace hl:=zw hl sJ;refine ⟨_,Y,pr,_,dp,_,.ref la,Y,hp,PC.c,PC.n0,Y,_,Y,pr,_,dp,_,.ref lb,Y,hp,PC.c,PC.n1,Y,_,Y,λmk dmk n1 n2 n3=>?_⟩;have s0:Same J (upd J dmk (.own mk)):=zu (Same.refl _) n2;have h0:Hd (upd J dmk (.own mk)) [(mk,.ins q.ma dmk [])] (upd (upd J dmk (.own mk)) mk (.ins q.ma dmk [])):=Hd.base.new (by rw [zj (oQ n3)];exact n1);generalize upd J dmk (.own mk)=B0 at s0 h0;refine ⟨B0,mk,dmk,la,lb,gg,Y,h0,gb,λH1 cd h1=>⟨Y,?_⟩⟩;clear h0 n1 n2 n3;have hp1:=h1.sm _ _ (s0 _ _ hp);refine ⟨_,Y,mk,_,dmk,_,.ref cd,Y,Hd.m h1,MC.c,MC.n3,Y,.inl ⟨Y,_,Hd.lst h1 0 rfl⟩,_,Y,s,ds,_,Y,h1.sm _ _ (s0 _ _ es),f3,_,Y,pr,_,dp,_,.ref la,Y,hp1,PC.c,PC.n0,Y,s,la,mB,Y,hs.same (s0.trans h1.sm),h1.sql (zw hl s0),il.g,_,Y,szU 3,λt0 nt0=>?_⟩;generalize hX:upd _ _ _=H2;obtain ⟨B2,s2,e0,h2⟩:=hdG h1 hX nt0;clear hX h1 hp1;refine ⟨cd,_,_,Y,Y,Hd.get h2 0 rfl,(by show 0<mI;decide),?_⟩;replace h2:=MkAt.row (t:=t0) h2;generalize hX:upd _ _ _=H2' at h2 ⊢;clear hX;replace s2:=s0.trans s2;have cl1:([]++[t0]:Jc).length+cS st<=900:=by show 1+cS st<=900;omega
 refine ⟨_,Y,_,Y,B2,mk,s,dmk,la,lb,cd,8 / gg,[]++[t0],mB,st,Y,h2,hs.same s2,hf,il,zw hl s2,cl1,λB3 H3 ts1 s3 h3 c3=>?_⟩;clear h2;have l3:ts1.length<=cT st.t:=by rw [c3.n];exact (Xr mB (8 / gg) hf).2
 have lt:cT st.t<=cS st:=by unfold cS;omega
 have s23:=s2.trans s3;refine ⟨_,Y,_,Y,_,Y,B3,mk,s,dmk,la,lb,cd,8 / gg,maskOf st.t,[]++[t0]++ts1,mB,st,Y,h3,hs.same s23,hf,il,zw hl s23,by rw [Jf];show 1+ts1.length+cS st<=900;omega,λB4 H4 ts2 te s4 h4 c4 e4=>?_⟩;have em:=Hd.m h4
 have ecd:H4 cd=Z (.lst ((t0::(ts1++ts2)).map V.ref)):=by
  have:=Hd.get h4 0 rfl;rw [show []++[t0]++ts1++ts2=t0::(ts1++ts2) by simp] at this;exact this
 have cc:CodeAt H4 (t0::(ts1++ts2)) ([.str "begin",.int (st.mn_ mB),.int gg]::st.body mB (8 / gg)):=(yd (yp (s4 _ _ (s3 _ _ e0))) (yd (c3.same s4) c4)).same h4.sm;have ete:=h4.sm _ _ e4;have sH4:Same H H4:=((sJ.trans s23).trans s4).trans h4.sm;have rows:∀ tv∈([.str "begin",.int (st.mn_ mB),.int gg]::st.body mB (8 / gg):List (Jj)),Zd tv:=yO (a:=[[.str "begin",.int (st.mn_ mB),.int gg]]) (xA (y9 (by decide))) (yO (Xr mB (8 / gg) hf).1 (zdl mB (8 / gg) (maskOf st.t) hf).1);have bl:=ze0 mB (8 / gg) hf;have cn:=cc.n;have any1:([.str "begin",.int (st.mn_ mB),.int gg]::st.body mB (8 / gg):List (Jj)).any xr=(st.body mB (8 / gg)).any xr:=rfl;clear h4 h3 s3 s4 s23 s2 e0 c3 c4 e4 cl1 l3 lt;unfold Stp.code Z1 at k;generalize hcs:t0::(ts1++ts2)=cs4 at *;generalize hrw:([.str "begin",.int (st.mn_ mB),.int gg]::st.body mB (8 / gg):List (Jj))=rw4 at *;have lcs:cs4.length<=401:=by rw [cn,← hrw];show (st.body mB (8 / gg)).length+1<=401;omega
 have ek:[[V.str "begin",.int (st.mn_ mB),.int gg]]++st.body mB (8 / gg)=rw4:=hrw;rw [ek] at k;refine ⟨_,Y,mk,_,dmk,_,.ref cd,Y,em,MC.c,MC.n3,Y,cd,Y,⟨_,SqL.of ecd⟩,_,Y,λD nD=>?_⟩;refine Z9 (K:=K) (a:=cd) (D:=D) (xs:=cs4.map V.ref) (λi σ J2=>∃ u B4,σ=[u]/\Same H4 B4/\Hd B4 [(D,.lst (((rw4.take i).map xr).map V.bl))] J2) ⟨O,H4,Y,Same.refl _,Hd.base.new nD⟩ (λi σ J2 _ ⟨_,B4,_,s4,h4⟩=>SqL.of (h4.sm _ _ (s4 _ _ ecd))) ?_ ?_
 .rintro i y σ J2 hi ⟨u,B4,rfl,s4,h4⟩
  obtain ⟨t,et,rfl⟩:=xl hi;have il':i<cs4.length:=(mF.mp et).1;obtain ⟨tv',etv⟩:∃ tv',rw4[i]?=Z tv':=⟨_,m6 (by rw [← cn];exact il')⟩;have eT:=cc.t i t tv' et etv;refine ⟨_,Y,t,tv',Y,SqT.of (h4.sm _ _ (s4 _ _ eT)),rows tv' (mP etv),λJ3 s5=>?_⟩;obtain ⟨B5,sB5,h5,_⟩:=h4.over s5;refine ⟨_,h5.get 0 rfl,(by rw [Je,Je,ny];exact nk (show _<=401 by omega) (by decide)),Z (.ref t),B5,Y,s4.trans sB5,?_⟩;rw [nY,etv,Jg,Jg];exact h5.put 0 rfl
 rintro σ J2 ⟨u,B4,rfl,s4,h4⟩;rw [Je,cn,oa] at h4;refine ⟨D,rw4.map xr,Y,h4.lst 0 rfl,_,Y,?_⟩;have eb:(rw4.map xr).any id=(st.body mB (8 / gg)).any xr:=by rw [List.any_map];exact any1
 have sJ2:=s4.trans h4.sm;clear h4 nD;replace em:=sJ2 _ _ em;replace ecd:=sJ2 _ _ ecd;replace cc:=cc.same sJ2;replace ete:=sJ2 _ _ ete;have sA:=sH4.trans sJ2;clear sJ2 s4 sH4;have nl:∀ l,J2 l=O->H l=O:=λl e=>sA.free e;rw [eb];refine yw (λz=>?_) (λz=>?_)
 .rw [z] at k
  refine ⟨_,Y,mk,_,dmk,_,.ref cd,Y,em,MC.c,MC.n3,Y,szU 1,λt5 n5=>?_⟩;generalize hX:upd _ _ _=G1;obtain ⟨sX,e5⟩:=Yq hX n5;replace sA:=sA.trans sX;replace ecd:=sX _ _ ecd;replace cc:=cc.same sX;replace ete:=sX _ _ ete;clear hX sX;refine ⟨_,Y,_,Y,szU 2,λt6 n6=>?_⟩;generalize hX:upd _ _ _=G2;obtain ⟨sX,e6⟩:=Yq hX n6;replace sA:=sA.trans sX;replace ecd:=sX _ _ ecd;replace cc:=cc.same sX;replace ete:=sX _ _ ete;replace e5:=sX _ _ e5;clear hX sX;refine ⟨szU 1,λt7 n7=>?_⟩;generalize hX:upd _ _ _=G3;obtain ⟨sX,e7⟩:=Yq hX n7;replace sA:=sA.trans sX;replace ecd:=sX _ _ ecd;replace cc:=cc.same sX;replace ete:=sX _ _ ete;replace e5:=sX _ _ e5;replace e6:=sX _ _ e6;clear hX sX;refine ⟨szU 4,λl1 nl1=>?_⟩;generalize hX:upd _ _ _=G4;obtain ⟨sX,el1⟩:=Yq hX nl1;replace sA:=sA.trans sX;replace ecd:=sX _ _ ecd;replace cc:=cc.same sX;replace ete:=sX _ _ ete;replace e5:=sX _ _ e5;replace e6:=sX _ _ e6;replace e7:=sX _ _ e7;clear hX sX;refine ⟨cd,l1,_,_,Y,Y,ecd,el1,(by rw [Je];exact mL (show _<=1000 by show cs4.length+4<=1000;omega) (szU 1000)),λl2 nl2=>?_⟩;have nH:H l2=O:=sA.free nl2;generalize hX:upd _ _ _=G5;obtain ⟨sX,el2⟩:=Yq hX nl2;replace sA:=sA.trans sX;replace cc:=cc.same sX;replace ete:=sX _ _ ete;replace e5:=sX _ _ e5;replace e6:=sX _ _ e6;replace e7:=sX _ _ e7;clear hX sX;refine k G5 l2 (cs4++[t5,te,t6]++[t7]) sA nH (by rw [el2,Jg,Jg,n8];rfl) (yd (yd cc ?_) (yp e7));exact yd (yp e5) (yd (yp ete) (yp e6))
 .have z:(st.body mB (8 / gg)).any xr=false:=ph.mpr z
  rw [z] at k;refine ⟨_,Y,mk,_,dmk,_,.ref cd,Y,em,MC.c,MC.n3,Y,_,Y,szU 1,λt7 n7=>?_⟩;generalize hX:upd _ _ _=G3;obtain ⟨sX,e7⟩:=Yq hX n7;replace sA:=sA.trans sX;replace ecd:=sX _ _ ecd;replace cc:=cc.same sX;replace ete:=sX _ _ ete;clear hX sX;refine ⟨szU 2,λl1 nl1=>?_⟩;generalize hX:upd _ _ _=G4;obtain ⟨sX,el1⟩:=Yq hX nl1;replace sA:=sA.trans sX;replace ecd:=sX _ _ ecd;replace cc:=cc.same sX;replace ete:=sX _ _ ete;replace e7:=sX _ _ e7;clear hX sX;refine ⟨cd,l1,_,_,Y,Y,ecd,el1,(by rw [Je];exact mL (show _<=1000 by show cs4.length+2<=1000;omega) (szU 1000)),λl2 nl2=>?_⟩;have nH:H l2=O:=sA.free nl2;generalize hX:upd _ _ _=G5;obtain ⟨sX,el2⟩:=Yq hX nl2;replace sA:=sA.trans sX;replace cc:=cc.same sX;replace ete:=sX _ _ ete;replace e7:=sX _ _ e7;clear hX sX;exact k G5 l2 (cs4++[te]++[t7]) sA nH (by rw [el2,Jg,Jg,n8];rfl) (yd (yd cc (yp ete)) (yp e7))
def yG (mB:J6) (my:Nat):List Stp->Int->List (Jj)
 | [],_=>[]
 | s::ss,n=>s.code mB (s.grp my) n++yG mB my ss (n+1)
theorem zbe (mB:J6) (my:Nat) (s:Stp):∀ (ss:List Stp) (n:Int),yG mB my (ss++[s]) n=yG mB my ss n++s.code mB (s.grp my) (n+ss.length)
 | [],n=>by
  show s.code mB (s.grp my) n++[]=[]++s.code mB (s.grp my) (n+((0:Nat):Int));rw [q8y,List.nil_append,show n+((0:Nat):Int)=n by omega]
 | u::ss,n=>by
  show u.code mB (u.grp my) n++yG mB my (ss++[s]) (n+1)=u.code mB (u.grp my) n++yG mB my ss (n+1)++s.code mB (s.grp my) (n+((ss.length+1:Nat):Int));rw [zbe mB my s ss,n8,show n+1+(ss.length:Int)=n+((ss.length+1:Nat):Int) by omega]
structure StepsAt (c:F2.Cs) (q:QCs) (B:Hp) (ss:Jc) (sts:List Stp):Prop where
 n:ss.length=sts.length
 t:∀ (i:Nat) s st,ss[i]?=Z s->sts[i]?=Z st->StepAt c q B s st
structure FitAll (n:Nat) (mB:J6) (sts:List Stp):Prop where
 f:∀ st∈sts,FitS n st/\InS2 mB st/\cS st<=400
inductive spCnt (c:F2.Cs) (q:QCs) (K:Fg) (vs:Jj) (H:Hp) (Q:VK) (_:XK):Prop
 | mk (l s:Ad) (st:Stp) (_:vs=[.ref l]) (_:SqL K H l [.ref s]) (_:StepAt c q H s st) (_:Q (.int 1) H)
def ok_cnt {c:F2.Cs} {q:QCs} (d:zk K mg "count_of" Yh ["steps"]) (hisi:mg "isinstance"=O) (SG:StepG mg q) (SK:StepK K q) (CO:Ok P w K mg base CX0 1 "count_of" ["steps"] spNv):Ok P w K mg base CX0 2 "count_of" ["steps"] (spCnt c q K):=by
 refine oDf d sc_count_of λg mx A _ s H vs Q E hr h=>?_;obtain ⟨l,s,st,rfl,hl,hs,k⟩:=h;have nd:=sc_count_of.nd;have hr1:=hr;have kk:=SK.of st;obtain ⟨ds,fl,x,tv,es,_⟩:=hs.ins;refine ⟨_,(zd (oRz 1 nd zg)
   (zd (x8 oE rfl (Zq (pv 0)) (oQz 2 nd) (zd (oRz 1 nd (zn zQ (pv 1) zg))
   (zf (zO (ya (zp zE (by rfl) hisi m7 (zb (pv 2) (zb (zZ SG.till) zc)))) (zf (oRz 1 nd (zn zQ (pv 1) (zD CO hr1 (by rfl) zo (zb (zi (pv 2) rfl) zc))))) zC))))
   (zf (zm (pv 1))))),?_⟩
 refine ⟨_,Y,l,Y,⟨_,hl⟩,?_⟩;refine Xm (K:=K) (a:=l) (xs:=[.ref s]) (λi σ J=>∃ u,σ=[rq l,iq i,u]/\J=H) ⟨O,Y,Y⟩ (λi σ J _ ⟨_,_,e⟩=>by rw [e];exact hl) ?_ ?_
 .rintro i y σ J hi ⟨u,rfl,rfl⟩
  have hi1:i<1:=(mF.mp hi).1;obtain rfl:i=0:=by omega
  cases hi;refine ⟨_,Y,_,_,Y,Y,?_⟩;refine ⟨_,Y,_,_,.ref q.till,_,false,Y,Y,(λu r=>r),kk.k.ty es,kk.t,false,Y,xt ?_⟩;exact ⟨_,Y,Y⟩
 .rintro σ J ⟨u,rfl,rfl⟩
  exact ⟨_,Y,k⟩
inductive spCode (c:F2.Cs) (q:QCs) (K:Fg) (n:Nat) (vs:Jj) (H:Hp) (Q:VK) (_:XK):Prop
 | mk (pr dp la lb lc ls:Ad) (ss:Jc) (sts:List Stp) (mB:J6) (first:Int) (my:Nat) (_:vs=[.ref pr,.ref ls,.int first,.int my]) (_:H pr=Z (.ins q.pr dp (prFl la lb lc))) (_:SqL K H la (mB.map V.int)) (_:SqL K H ls (ss.map V.ref)) (_:StepsAt c q H ss sts) (_:FitAll n mB sts) (_:(yG mB my sts first).length<=900) (_:(my=0∨my=1∨my=2∨my=4)) (_:∀ H' l cs,Same H H'->H l=O->H' l=Z (.lst (cs.map V.ref))->CodeAt H' cs (yG mB my sts first)->Q (.ref l) H')
def ok_code {c:F2.Cs} {q:QCs} {n:Nat} (d:zk K mg "code_of" YD Ub) (hisi:mg "isinstance"=O) (SG:StepG mg q) (SK:StepK K q) (NU:Ok P w K mg base CX0 1 "turns_of" ["program","till","number","group"] spNv) (RO:Ok P w K mg base CX0 (3*n+7) "round_of" Ua (spRnd c q K n)) (CO:Ok P w K mg base CX0 2 "count_of" ["steps"] (spCnt c q K)):Ok P w K mg base CX0 (3*n+8) "code_of" Ub (spCode c q K n):=by
 refine oDf d sc_code_of λg mx A _ s H vs Q E hr h=>?_;obtain ⟨pr,dp,la,lb,lc,ls,ss,sts,mB,first,my,rfl,hp,hl,hls,hSt,hF',l9,hg,k⟩:=h;have nd:=sc_code_of.nd;have hrR:=hr;have hr2:Room 2 _:=hr.mono (by omega);have hr1:Room 1 _:=hr.mono (by omega);refine ⟨_,(zd (oRz 4 nd (yn zc))
   (zd (oRz 5 nd (pv 2))
   (zd (x8 oE rfl (Zq (pv 1)) (oQz 6 nd) (zd (zO (ya (zp zE (by rfl) hisi m7 (zb (pv 6) (zb (zZ SG.till) zc)))) (zf (zy (Zb mU PySem.F.slot_list_extend PySem.F.type_list_extend zbz (pv 4) (zb (zD NU hr1 (by rfl) zo (zb (pv 0) (zb (pv 6) (zb (pv 5) (zb (pv 3) zc))))) zc)))) (zf (zy (Zb mU PySem.F.slot_list_extend PySem.F.type_list_extend zbz (pv 4) (zb (zD RO hrR (by rfl) zo (zb (pv 0) (zb (pv 6) (zb (pv 5) (zb (pv 3) zc))))) zc)))))
   (zf (oRz 5 nd (zn zQ (pv 5) (zD CO hr2 (by rfl) zo (zb (yn (zb (pv 6) zc)) zc)))))))
   (zf (zm (pv 4)))))),?_⟩
 refine ⟨szU 0,λcd ncd=>?_⟩;have ncd0:=ncd;have h0:Hd H [(cd,.lst (([]:Jc).map V.ref))] (upd H cd (.lst [])):=Hd.base.new ncd;generalize upd H cd (.lst [])=H1 at h0 ⊢;refine ⟨_,Y,?_⟩;refine ⟨_,Y,ls,Y,⟨_,h0.sql hls⟩,?_⟩;refine Xm (K:=K) (a:=ls) (xs:=ss.map V.ref) (λi σ J=>∃ (u:Jk) (B:Hp) (cs:Jc),σ=[rq pr,rq ls,iq first,iq my,rq cd,iq (first+(i:Int)),u]/\Same H B/\Hd B [(cd,.lst (cs.map V.ref))] J/\CodeAt B cs (yG mB my (sts.take i) first)) ⟨O,H,[],by rw [show first+((0:Nat):Int)=first by omega];rfl,Same.refl _,h0,⟨Y,λi b t x=>by cases x⟩⟩ (λi σ J _ ⟨_,B,_,_,sB,h,_⟩=>h.sql (zw hls sB)) ?_ ?_
 .clear h0
  rintro i y σ J hi ⟨u,B,cs,rfl,sB,h,CB⟩;obtain ⟨s,es,rfl⟩:=xl hi;have il:i<ss.length:=(mF.mp es).1;obtain ⟨st,eF⟩:∃ F,sts[i]?=Z F:=⟨_,m6 (by rw [← hSt.n];exact il)⟩;have hs:=hSt.t i s st es eF;obtain ⟨ff,fi,fc⟩:=hF'.f st (mP eF);have kk:=SK.of st;obtain ⟨ds,fl,x,tv,eh,_⟩:=hs.ins;have sJ:=sB.trans h.sm;have et:sts.take (i+1)=sts.take i++[st]:=by rw [nY,eF];rfl
  have tl:(sts.take i).length=i:=by rw [ny,← hSt.n];omega
  have ec:yG mB my (sts.take (i+1)) first=yG mB my (sts.take i) first++st.code mB (st.grp my) (first+(i:Int)):=by rw [et,zbe,tl]
  have all:yG mB my sts first=yG mB my (sts.take (i+1)) first++yG mB my (sts.drop (i+1)) (first+((i+1:Nat):Int)):=by
   have gen:∀ (a b:List Stp) (n:Int),yG mB my (a++b) n=yG mB my a n++yG mB my b (n+(a.length:Int)):=by
    intro a
    induction a with
    | nil=>intro b n;show yG mB my b n=[]++_;rw [List.nil_append,show n+(([]:List Stp).length:Int)=n by show n+0=n;omega]
    | cons z a ih =>
     intro b n;show z.code mB (z.grp my) n++yG mB my (a++b) (n+1)=z.code mB (z.grp my) n++yG mB my a (n+1)++_;rw [ih,n8,show n+1+(a.length:Int)=n+((z::a).length:Int) by rw [q8x];omega]
   have tl2:(sts.take (i+1)).length=i+1:=by rw [ny,← hSt.n];omega
   have:=gen (sts.take (i+1)) (sts.drop (i+1)) first
   rw [List.take_append_drop,tl2] at this;exact this
  refine ⟨_,Y,_,_,.ref q.till,_,false,Y,Y,(λu r=>r),kk.k.ty (sJ _ _ eh),kk.t,false,Y,xt ?_⟩;refine ⟨_,Y,.inl ⟨Y,_,h.lst 0 rfl⟩,_,Y,_,Y,_,Y,_,Y,pr,dp,la,lb,lc,s,mB,st,first+(i:Int),my,Y,sJ _ _ hp,hs.same sJ,ff,fi,zw hl sJ,fc,hg,λJ2 l cs2 s2 nl el CO2=>?_⟩;have ecd:=s2 _ _ (h.get 0 rfl);have ne:l≠cd:=λe=>by rw [e,h.get 0 rfl] at nl;cases nl
  obtain ⟨B2,sB2,h2,new2⟩:=h.over s2;have out:∀ a o,J2 a=Z o->a≠cd->B2 a=Z o:=λa o e n=>new2 a o e λm=>n (mV.mp m)
  have CO3:CodeAt B2 cs2 (st.code mB (st.grp my) (first+(i:Int))):=⟨CO2.n,λi b tv x y=>out _ _ (CO2.t i b tv x y) λe=>by
   have:=CO2.t i b tv x y;rw [e,ecd] at this;cases this⟩
  have CA:=yd (CB.same sB2) CO3;rw [← ec] at CA
  have csl:(cs++cs2).length<=900:=by
   rw [CA.n];rw [all,Jf] at l9;omega
  refine ⟨cd,l,_,_,Y,Y,ecd,el,(by rw [Je,Je,← List.length_append];exact mL csl (szU 900)),?_⟩;rw [← rP];have h3:=h2.put (o':=.lst ((cs++cs2).map V.ref)) 0 rfl;generalize upd J2 cd (.lst ((cs++cs2).map V.ref))=J3 at h3 ⊢;have s02:=sB.trans sB2;refine ⟨_,Y,_,Y,szU 1,λl3 nl3=>?_⟩;have h4:=h3.waste (o:=.lst [.ref s]) nl3;have e3:upd J3 l3 (.lst [.ref s]) l3=_:=zh;generalize upd J3 l3 (.lst [.ref s])=J4 at h4 e3 ⊢;refine ⟨l3,s,st,Y,SqL.of e3,hs.same (s02.trans h4.sm),_,_,Y,Y,?_⟩;exact ⟨_,B2,cs++cs2,by rw [show first+(i:Int)+1=first+((i+1:Nat):Int) by omega];rfl,s02,h4,CA⟩
 .clear h0
  rintro σ J ⟨u,B,cs,rfl,sB,h,CB⟩;rw [Je,hSt.n,oa] at CB;exact ⟨_,Y,k _ cd cs (sB.trans h.sm) ncd0 (h.get 0 rfl) (CB.same h.sm)⟩
inductive spMade (c:F2.Cs) (q:QCs) (K:Fg) (n:Nat) (vs:Jj) (H:Hp) (Q:VK) (_:XK):Prop
 | mk (pr dp la lb lc:Ad) (ss:Jc) (sts:List Stp) (mB:J6) (my:Nat) (_:vs=[.ref pr,.int my]) (_:H pr=Z (.ins q.pr dp (prFl la lb lc))) (_:SqL K H la (mB.map V.int)) (_:SqL K H lc (ss.map V.ref)) (_:StepsAt c q H ss sts) (_:FitAll n mB sts) (_:(yG mB my sts 0).length<=900) (_:(my=0∨my=1∨my=2∨my=4)) (_:∀ H' l cs,Same H H'->H' l=Z (.lst (cs.map V.ref))->CodeAt H' cs (yG mB my sts 0)->Q (.ref l) H')
def ok_made {c:F2.Cs} {q:QCs} {n:Nat} (d:DefD K mg "made" Xx Ut) (PC:PrC K q.pr) (CD:Ok P w K mg base CX0 (3*n+8) "code_of" Ub (spCode c q K n)):OkD P w K mg base CX0 (3*n+9) "made" Ut (spMade c q K n):=by
 obtain ⟨g,fd,t,m,F,b,b2⟩:=d;refine ⟨g,fd,t,m,F.kp,b,b2,F.ok sc_made (by rintro vs H Q E ⟨_,_,_,_,_,_,_,_,_,e,_⟩;rw [e];rfl) λmx A outer s H vs Q E hr h=>?_⟩;obtain ⟨pr,dp,la,lb,lc,ss,sts,mB,my,rfl,hp,hl,hls,hSt,hF',l9,hg,k⟩:=h;have nd:=sc_made.nd;have hrC:=hr;refine ⟨_,(zf (zm (zD CD hrC (by rfl) zo (zb (pv 0) (zb (zi (pv 0) rfl) (zb zg (zb (pv 1) zc))))))),?_⟩;exact ⟨_,Y,_,Y,pr,_,dp,_,.ref lc,Y,hp,PC.c,PC.n2,Y,_,Y,pr,dp,la,lb,lc,lc,ss,sts,mB,0,my,Y,hp,hl,hls,hSt,hF',l9,hg,λH' l cs s _=>k H' l cs s⟩
def kin_snoc {ls:J6} {v:Int} (h:∀ x∈ls,Kin x) (k:Kin v):∀ x∈ls++[v],Kin x:=λx hx=>by
 rcases oO.mp hx with z | z
 .exact h x z
 .rw [mV.mp z];exact k
def kin_kept (c:Int):Kin (yo c):=by
 unfold yo
 split
 .exact ⟨by omega,by omega⟩
 split
 .have:c / 4 % 6=0∨c / 4 % 6=1∨c / 4 % 6=2∨c / 4 % 6=3∨c / 4 % 6=4∨c / 4 % 6=5:=by omega
  rcases this with e | e | e | e | e | e <;> rw [e] <;> decide
 split
 .exact ⟨by omega,by omega⟩
 .exact ⟨by omega,by omega⟩
inductive spCA (K:Fg) (vs:Jj) (H:Hp) (Q:VK) (_:XK):Prop
 | mk (a:Ad) (ns:J6) (k:Int) (_:vs=[.ref a,.int k]) (_:SqL K H a (ns.map V.int)) (_:0<=k) (_:Q (.int (ns.getD k.toNat 0)) H)
def zfk (d:zk K mg "_law_cell_at" ZO Uh) (hlen:mg "len"=O):Ok P w K mg base CX0 1 "_law_cell_at" Uh (spCA K):=by
 refine oDf d zcm λg mx A _ s H vs Q E hr h=>?_;obtain ⟨a,ns,i,rfl,hS,h0,k⟩:=h;refine ⟨_,(zd (zO (zJ zbw (pv 1) (zp zH (by rfl) hlen o6 (zb (pv 0) zc)) (zM _)) (zf (zm (zv z6 (pv 0) (pv 1) (λ_ _=>rfl)))) zC)
   (zf (zm zg))),?_⟩
 refine ⟨_,Y,_,Y,a,_,Y,.inl hS,_,_,Y,Y,_,Y,?_⟩;rw [Je];refine yw (λz=>?_) (λz=>?_)
 .have z:i<(ns.length:Int):=by simpa using z
  exact ⟨_,Y,_,Y,a,_,_,_,Y,Y,hS,xc i.toNat (by omega) (by omega),k⟩
 .have z:¬ i<(ns.length:Int):=by simpa using z
  have e:ns.getD i.toNat 0=0:=by rw [q6x,sE (by omega)];rfl
  rw [e] at k;exact k
inductive spSomeL (K:Fg) (vs:Jj) (H:Hp) (Q:VK) (_:XK):Prop
 | mk (a:Ad) (ns:J6) (at':Int) (n:Nat) (_:vs=[.ref a,.int at',.int n]) (_:SqL K H a (ns.map V.int)) (_:ns.length<=63) (_:0<=at') (_:at'<=100) (_:n<=1000) (_:∀ H' l (xs:J6),xs.length=n->(∀ v∈xs,Kin v)->Same H H'->H l=O->H' l=Z (.lst (xs.map V.int))->Q (.ref l) H')
def ok_someL (d:zk K mg "_law_some" Xb qX) (hlen:mg "len"=O) (hrg:mg "range"=O) (KB:Ok P w K mg base (CXe P w base) 1 "_law_kept_by" Uw spKB):Ok P w K mg base CX0 2 "_law_some" qX (spSomeL K):=by
 refine oDf d sc_l_some λg mx A _ s H vs Q E hr h=>?_;obtain ⟨a,ns,at',n,rfl,hS,hn,a0,a1,n1,k⟩:=h;have nd:=sc_l_some.nd;have hr1:=hr;have SL:(200000:Nat)<sizeLine:=by decide
 refine ⟨_,(zd (oRz 3 nd (yn zc))
   (zd (x8 oE rfl (xn rfl hrg (zb (pv 2) zc)) (oQz 4 nd) (zd (oRz 5 nd zg)
   (zd (Y0 (zO (zJ op_gt (zp zH (by rfl) hlen o6 (zb (pv 0) zc)) zg (zM _)) (zf (oRz 5 nd (zv z6 (pv 0) (zn yP (zn zQ (pv 1) (zn yH zg (pv 4))) (zp zH (by rfl) hlen o6 (zb (pv 0) zc))) (λ_ _=>rfl)))) zC))
   (zf (zy (Zb mU mZ mY ye (pv 3) (zb (zD KB hr1 (by rfl) yk (zb (zn zQ (zn zQ (zn zax (pv 5) (zn zQ zg (zn yP (pv 4) zg))) (zn yH (zn yH zg (pv 4)) (pv 4))) (zn yH zg (pv 1))) zc)) zc)))))))
   (zf (zm (pv 3))))),?_⟩
 show (let s1:L2.TS:=_;let s2:L2.TS:=L2.tSeq _ s1;L2.tSeq _ s2 _ _ _);intro s1 s2;refine ⟨szU 0,λl nl=>?_⟩;have nl0:=nl;have h0:Hd H [(l,.lst (([]:J6).map V.int))] (upd H l (.lst [])):=Hd.base.new nl;generalize upd H l (.lst [])=H1 at h0 ⊢;refine ⟨_,Y,_,Y,by omega,by omega,?_⟩;rw [q0z];refine Zu (n:=n) (λi σ J=>∃ (u4 u5:Jk) (B:Hp) (xs:J6),σ=[rq a,iq at',iq n,rq l,u4,u5]/\xs.length=i/\(∀ v∈xs,Kin v)/\Same H B/\Hd B [(l,.lst (xs.map V.int))] J) ⟨O,O,H,[],Y,Y,(λv hv=>nomatch hv),Same.refl _,h0⟩ ?_ ?_
 .clear h0
  rintro i σ J hi ⟨u4,u5,B,xs,rfl,lx,xk,sB,h⟩;have hSB:=zw hS sB;refine ⟨λσ J2=>∃ cell:Int,σ=[rq a,iq at',iq n,rq l,iq (0+(i:Int)),iq cell]/\J2=J,?_,?_⟩
  .refine ⟨_,Y,a,_,Y,.inl (h.sql hSB),_,_,Y,Y,_,Y,?_⟩
   rw [Je];refine yw (λz=>?_) (λz=>?_)
   .have z:(0:Int)<(ns.length:Nat):=of_decide_eq_true z
    have m0:=Int.emod_nonneg (at'+5*(0+(i:Int))) (show ((ns.length:Nat):Int)≠0 by omega);have m1:=Int.emod_lt_of_pos (at'+5*(0+(i:Int))) z;refine ⟨_,Y,_,Y,_,Y,_,_,Y,Y,.inl ⟨by decide,by decide⟩,_,_,Y,Y,_,Y,a,_,Y,.inl (h.sql hSB),?_⟩;rw [Je];refine ⟨_,_,Y,Y,z,a,_,_,_,Y,Y,h.sql hSB,xc ((at'+5*(0+(i:Int))) % (ns.length:Nat)).toNat (by omega) (by show (at'+5*(0+(i:Int))) % (ns.length:Nat)=_;omega),?_⟩;exact ⟨_,Y,Y⟩
   .exact ⟨_,Y,Y⟩
  rintro σ J2 ⟨cell,rfl,rfl⟩;have k3:=Int.emod_nonneg (0+(i:Int)) (show (3:Int)≠0 by decide);have k4:=Int.emod_lt_of_pos (0+(i:Int)) (show (0:Int)<3 by decide);refine ⟨_,Y,.inl ⟨Y,_,h.lst 0 rfl⟩,_,Y,_,Y,_,_,Y,Y,(by show (0:Int)<3;decide),_,_,Y,Y,_,_,Y,Y,⟨by omega,by omega,by omega⟩,?_⟩;refine ⟨_,Y,_,_,Y,Y,.inl ⟨by decide,by decide⟩,_,Y,_,_,Y,Y,.inr ⟨by omega,by omega⟩,_,_,Y,Y,_,Y,_,_,Y,Y,.inl ⟨by decide,by decide⟩,_,_,Y,Y,_,Y,λJ3 s3=>?_⟩;obtain ⟨B2,sB2,h2,_⟩:=h.over s3;refine ⟨l,_,_,Y,Y,h2.get 0 rfl,(by rw [Je];omega),?_⟩;refine ⟨_,_,B2,xs++[yo (cell.fdiv (1+(0+(i:Int)) % 3)+7*(0+(i:Int))*(0+(i:Int))+3*at')],Y,by rw [Jf,lx];rfl,kin_snoc xk (kin_kept _),sB.trans sB2,?_⟩;rw [Jg];exact h2.put 0 rfl
 .clear h0
  rintro σ J ⟨u4,u5,B,xs,rfl,lx,xk,sB,h⟩;exact ⟨_,Y,k _ l xs lx xk (sB.trans h.sm) nl0 (h.get 0 rfl)⟩
structure TysK (K:Fg) (mg:J0):Prop where
 tu:mg "tuple"=O
 li:mg "list"=O
 st:mg "str"=O
 ktt:mE K (.type "tuple") (.type "tuple")=Z true
 kll:mE K (.type "list") (.type "list")=Z true
 kss:mE K (.type "str") (.type "str")=Z true
def RvAt (H:Hp) (v:V):Option (Int×Int×Str)->Prop
 | none=>v=.non
 | some (n,p,s)=>∃ u,v=.ref u/\H u=Z (.tup [.int n,.int p,.str s])
def kinds3:Jb:=["nought","outside","endless"]
def dR (n p:Int) (s:Str):PyData:=.tuple [.int n,.int p,.str s]
def dr_dv {H:Hp} {t:Ad} {n p:Int} {s:Str} (h:H t=Z (.tup [.int n,.int p,.str s])):DV K H (.ref t) (dR n p s):=.tup (SqT.of h) (.cons (.int _) (.cons (.int _) (.cons (.str _) .nil)))
def dr_lay {n p:Int} {s:Str} (h:s∈kinds3):(dR n p s).canLay0=true:=by
 simp only [kinds3,mM,ua,or_false] at h;rcases h with rfl | rfl | rfl <;> (simp [dR,PyData.canLay0,PyData.canLayAll0];try decide +kernel)
def dr_dep {n p:Int} {s:Str}:(dR n p s).depth<=64:=mL (dep_tup (n:=2) (zba (by show p5 (.int _)<=2;simp [p5]) (zba (by show p5 (.int _)<=2;simp [p5]) (zba (by show p5 (.str _)<=2;simp [p5]) dep_nil)))) (by decide)
inductive spTold3 (K:Fg) (vs:Jj) (H:Hp) (Q:VK) (_:XK):Prop
 | mk (t c1 c2:Ad) (v1 v2 v3:V) (cs:J6) (r:Option (Int×Int×Str)) (_:vs=[.ref t,.ref c2,v2]) (_:H t=Z (.tup [.ref c1,v1,v3])) (_:H c1=Z (.lst (cs.map V.int))) (_:SqL K H c2 (cs.map V.int)) (_:RvAt H v1 r) (_:RvAt H v2 r) (_:(∀ n p s,r=Z (n,p,s)->s∈kinds3)) (_:Q (.bl true) H)
def ok_told3 (d:zk K mg "_law_told" Xa qV) (hlen:mg "len"=O) (N:Ints K mg) (T:TysK K mg) (WH:Ok P w K mg base (CXe P w base) 1 "_law_whole" ["_law_found"] (sp1 λ_=>.bl true)) :
  Ok P w K mg base CX0 2 "_law_told" qV (spTold3 K):=by
 refine oDf d sc_l_told λg mx A _ s H vs Q E hr h=>?_;obtain ⟨t1,c1,c2,v1,v2,v3,cs,r,rfl,e1,hc1,hc2,rv1,rv2,hK,k⟩:=h;have nd:=sc_l_told.nd;have hr1:=hr;have hu:=hr.units;have htu:=T.tu;have hli:=T.li;have hst:=T.st;refine ⟨_,(zd (zO (pw_or (zaq (ya (zp zE (by rfl) N.isi m7 (zb (pv 0) (zb (XA htu PyProof.Rows.boot_tuple) zc))))) (pw_or (zJ op_ne (zp zH (by rfl) hlen o6 (zb (pv 0) zc)) zg (zM _)) (pw_or1 (zaq (ya (zp zE (by rfl) N.isi m7 (zb (zv zF (pv 0) zg (λ_ _=>rfl)) (zb (XA hli oI) zc)))))))).pt (zf (zm YR)) zC)
   (zd (x8 oE rfl (Zq (zv zF (pv 0) zg (λ_ _=>rfl))) (oQz 3 nd) (zf (zO (zaq (ya (zD WH hr1 (by rfl) yk (zb (pv 3) zc)))) (zf (zm YR)) zC)))
   (zd (zO (zJ (op_neD hu) (zv zF (pv 0) zg (λ_ _=>rfl)) (pv 1) (zM _)) (zf (zm YR)) zC)
   (zd (zO (zJ zaw (pv 2) xB (zM _)) (zf (zm (xS zaw (zv zF (pv 0) zg (λ_ _=>rfl)) xB (zM _)))) zC)
   (zd (zO (pw_or (zaq (ya (zp zE (by rfl) N.isi m7 (zb (zv zF (pv 0) zg (λ_ _=>rfl)) (zb (XA htu PyProof.Rows.boot_tuple) zc))))) (pw_or (zJ op_ne (zp zH (by rfl) hlen o6 (zb (zv zF (pv 0) zg (λ_ _=>rfl)) zc)) zg (zM _)) (pw_or1 (zaq (ya (zp zE (by rfl) N.isi m7 (zb (zv zF (zv zF (pv 0) zg (λ_ _=>rfl)) zg (λ_ _=>rfl)) (zb (XA hst PyProof.Rows.boot_str) zc)))))))).pt (zf (zm YR)) zC)
   (zf (zm (zc1 (zD WH hr1 (by rfl) yk (zb (zv zF (zv zF (pv 0) zg (λ_ _=>rfl)) zg (λ_ _=>rfl)) zc)) (zc1 (zD WH hr1 (by rfl) yk (zb (zv zF (zv zF (pv 0) zg (λ_ _=>rfl)) zg (λ_ _=>rfl)) zc)) (zc0 (xS (op_eqD hu) (zv zF (pv 0) zg (λ_ _=>rfl)) (pv 2) (zM _)))))))))))),?_⟩
 show (let s1:L2.TS:=_;let s2:L2.TS:=L2.tSeq _ s1;let s3:L2.TS:=L2.tSeq _ s2;let s4:L2.TS:=L2.tSeq _ s3;let s5:L2.TS:=L2.tSeq _ s4;L2.tSeq _ s5 _ _ _);intro s1 s2 s3 s4 s5;refine ⟨_,Y,_,_,.type "tuple",.type "tuple",true,Y,Y,(λu r=>r),.inl (.tup e1),T.ktt,true,Y,xt ?_⟩;refine ⟨_,Y,t1,_,Y,.inr (SqT.of e1),Y,_,Y,iteNS rfl ?_⟩;refine ⟨_,Y,t1,_,0,.ref c1,Y,Y,SqT.of e1,Y,_,_,.type "list",.type "list",true,Y,Y,(λu r=>r),.inl (.lst hc1),T.kll,true,Y,xt ?_⟩;refine ⟨_,Y,t1,_,0,.ref c1,Y,Y,SqT.of e1,Y,c1,Y,⟨_,SqL.of hc1⟩,?_⟩;refine Xm (K:=K) (a:=c1) (xs:=cs.map V.int) (λi σ H2=>∃ u,σ=[Z (.ref t1),Z (.ref c2),Z v2,u]/\H2=H) ⟨O,Y,Y⟩ (λi σ H2 _ ⟨_,_,e⟩=>by rw [e];exact SqL.of hc1) ?_ ?_
 .rintro i x σ H2 hi ⟨u,rfl,rfl⟩
  obtain ⟨hlt,rfl⟩:=Yj hi;exact ⟨_,Y,_,Y,true,Y,xt ⟨_,Y,Y⟩⟩
 .rintro σ H2 ⟨u,rfl,rfl⟩
  refine ⟨_,Y,t1,_,0,.ref c1,Y,Y,SqT.of e1,Y,_,Y,dI cs,dI cs,dv_ints (SqL.of hc1),dv_ints hc2,za2,za2,mL dep_ints (by decide),?_⟩;rw [SeqAt.eqv_refl _ za2];refine ⟨false,Y,xt ?_⟩
  cases r with
  | none =>
   cases (show v1=.non from rv1);cases (show v2=.non from rv2);refine ⟨_,Y,Y,true,congrArg V.bl (decide_eq_true rfl),Yl ?_⟩;refine ⟨_,Y,t1,_,1,.non,Y,Y,SqT.of e1,Y,Y,?_⟩;rw [decide_eq_true rfl];exact k
  | some r =>
   obtain ⟨n,p,s3⟩:=r;obtain ⟨u1,rfl,f1⟩:=rv1;obtain ⟨u2,rfl,f2⟩:=rv2;have hs:=hK _ _ _ rfl;refine ⟨_,Y,Y,false,congrArg V.bl (decide_eq_false (λz=>by cases z)),xt ?_⟩;refine ⟨_,Y,t1,_,1,.ref u1,Y,Y,SqT.of e1,Y,_,_,.type "tuple",.type "tuple",true,Y,Y,(λu r=>r),.inl (.tup f1),T.ktt,true,Y,xt ?_⟩;refine ⟨_,Y,t1,_,1,.ref u1,Y,Y,SqT.of e1,Y,u1,_,Y,.inr (SqT.of f1),Y,_,Y,iteNS rfl ?_⟩;refine ⟨_,Y,t1,_,1,.ref u1,Y,Y,SqT.of e1,Y,u1,_,2,.str s3,Y,Y,SqT.of f1,Y,_,_,.type "str",.type "str",true,Y,Y,(λu r=>r),.inl (.str _),T.kss,true,Y,xt ?_⟩;refine ⟨_,Y,t1,_,1,.ref u1,Y,Y,SqT.of e1,Y,u1,_,0,.int n,Y,Y,SqT.of f1,Y,n,Y,true,Y,Yl ?_⟩;refine ⟨_,Y,t1,_,1,.ref u1,Y,Y,SqT.of e1,Y,u1,_,1,.int p,Y,Y,SqT.of f1,Y,p,Y,true,Y,Yl ?_⟩;refine ⟨_,Y,t1,_,1,.ref u1,Y,Y,SqT.of e1,Y,_,Y,dR n p s3,dR n p s3,dr_dv f1,dr_dv f2,dr_lay hs,dr_lay hs,dr_dep,?_⟩;rw [SeqAt.eqv_refl _ (dr_lay hs)];exact k
def code_let (mB:J6) (g:Nat) {tg:Nat} {v:F2.Fm} {t:Option F2.Fm} (ft:FitT t) (fv:Fit v) (n:Int):(Stp.let_ tg v t).code mB g n=Z1 (mB.getD tg 0) g (yx mB (8 / g) t v) (Yu t || xE v) (Y1 tg (maskOf t)) n:=by
 have e:(Stp.let_ tg v t).body mB (8 / g)=yx mB (8 / g) t v:=body_let mB (8 / g) t v;unfold Stp.code;rw [e,any_body mB (8 / g) ft fv];rfl
def run_let {Lx:Lex} {fs:List F2.Fn} {kk L tg my:Nat} {LN cs dus pk:J6} {t:Option F2.Fm} {v:F2.Fm} (lx:LxR Lx) (hS:Lx.E "store" xI) (hs:StepOk fs kk LN (LN.getD tg 0) t v) (hg:my=0∨my=1∨my=2∨my=4) (hc:(cs.length:Int)=LN.sum) (ck:∀ x∈cs,Kin x) (ht:tg<LN.length) (nv:Zz tg v) (nt:∀ f,t=Z f->Zz tg f) (L1:1<=L) (L64:L<=64) (hb:∀ g,2*LN.getD tg 0*(((yx LN (8 / g) t v).length:Int)+1)<=80000) :
  ∃ k M,Run Lx (yG LN my [.let_ tg v t] 0) k (Mc.fresh LN cs L dus pk) M/\((M.rq_=O/\M.cells=z7 cs (ym ((zG LN).getD tg 0) (YL fs kk LN cs t v) (LN.getD tg 0).toNat)/\∀ e:Nat,(e:Int)<LN.getD tg 0->(YL fs kk LN cs t v e).isBad=false)∨(∃ (e:Nat) (z:Str),(e:Int)<LN.getD tg 0/\YL fs kk LN cs t v e=.bad z/\(∀ i:Nat,i<e->(YL fs kk LN cs t v i).isBad=false)/\M.rq_=Z (0,(e:Int),z)/\M.cells=z7 cs (ym ((zG LN).getD tg 0) (YL fs kk LN cs t v) e))):=by
 obtain ⟨g,eg⟩:∃ g,(Stp.let_ tg v t).grp my=g:=⟨_,Y⟩
 have gb:g=1∨g=2∨g=4:=by
  rw [← eg];unfold Stp.grp grOf
  split
  .split
   .exact .inr (.inr rfl)
   .split
    .exact .inr (.inl rfl)
    .exact .inl rfl
  .next z=>exact hg.resolve_left z
 have ec:yG LN my [.let_ tg v t] 0=Z1 (LN.getD tg 0) (g:Int) (yx LN (8 / g) t v) (Yu t || xE v) (Y1 tg (maskOf t)) 0:=by
  show (Stp.let_ tg v t).code LN ((Stp.let_ tg v t).grp my) 0++[]=_;rw [q8y,eg,code_let LN g hs.ft hs.fv]
 rw [ec];have rest0:RestAt (zG LN) LN L 0 (cs,[]) (Mc.fresh LN cs L dus pk):=⟨⟨L1,L64,pZ,pZ,λm hm=>by rw [List.eq_of_mem_replicate hm];exact pZ⟩,Y,Y,Y,Y,Y,Y,Y⟩;have rs0:Rs [] false pk 0 [] (Mc.fresh LN cs L dus pk):=⟨m8 _,m8 _,(λk v e=>by cases e),Y,Y,Y⟩;have hgI:(g:Int)=1∨(g:Int)=2∨(g:Int)=4:=by rcases gb with e | e | e <;> subst e <;> decide
 have hse:((8 / g:Nat):Int)*(g:Int)=8:=by rcases gb with e | e | e <;> subst e <;> rfl
 have key:=round_let (code:=Z1 (LN.getD tg 0) (g:Int) (yx LN (8 / g) t v) (Yu t || xE v) (Y1 tg (maskOf t)) 0) (pl:=0) (n:=0) lx hS hs hgI hse hc ck ht rfl nv nt rest0 rs0 (by have:=hb g;rw [Int.natCast_zero,Int.zero_add];exact this) (λi tv e=>by rw [tE];exact e);rcases key with ⟨k,M',T',st,rs',_,nb⟩ | ⟨k,M',st,e,z,h1,h2,h3,h4,h5⟩
 .exact ⟨k,M',st.run (.inl (by rw [rs'.pc,tE];exact tm _)),.inl ⟨rs'.rf,rs'.cells,nb⟩⟩
 .exact ⟨k,M',st.run (.inr (by rw [h4];rfl)),.inr ⟨e,z,h1,h2,h3,h4,h5⟩⟩
def zfz:F2.Bodies []:=λa S l h0 h1 _=>absurd h1 (Nat.not_lt_zero _)
inductive spI_ProgU (K:Fg) (C:Ad) (vs:Jj) (H:Hp) (Q:VK) (_:XK):Prop
 | mk (B:Hp) (L:Ji) (x dx a b c:Ad) (xs ys zs:Jj) (_:vs=[.ref x,.ref a,.ref b,.ref c]) (_:Hd B ((x,.ins C dx [])::L) H) (_:SqL K B a xs) (_:SqL K B b ys) (_:SqL K B c zs) (_:∀ B' H' la lb lc,Same B B'->Hd B' L H'->B' la=Z (.lst xs)->B' lb=Z (.lst ys)->B' lc=Z (.lst zs)->B' x=Z (.ins C dx (prFl la lb lc))->Q .non H')
def okI_ProgU {C:Ad} (d:yq K C "Program.__init__" xy qS) (hlist:mg "list"=O) (pc:PrC K C):OkI P w K mg base CX0 1 C qS (spI_ProgU K C):=by
 refine oIf d XV λf mx A _ s H vs Q E hr h=>?_;obtain ⟨B,L,x,dx,a,b,c,xs,ys,zs,rfl,h,ha,hb,hc,k⟩:=h;refine ⟨_,(zd (zt (pv 0) (xo xb (by rfl) hlist oI (zb (pv 1) zc)) rfl)
   (zd (zt (pv 0) (xo xb (by rfl) hlist oI (zb (pv 2) zc)) rfl)
   (zf (zt (pv 0) (xo xb (by rfl) hlist oI (zb (pv 3) zc)) rfl)))),?_⟩
 refine ⟨_,Y,a,_,Y,.inl (h.sql ha),λla nla=>?_⟩;replace h:=h.fnew (o:=.lst xs) nla;refine ⟨_,Y,x,C,dx,[],Y,h.get 0 rfl,pc.c,pc.n0,(by show 0<1000;decide),?_⟩;replace h:=h.fput (o':=.ins C dx [("lengths",.ref la)]);refine ⟨_,Y,b,_,Y,.inl (h.sql hb),λlb nlb=>?_⟩;replace h:=h.fnew (o:=.lst ys) nlb;refine ⟨_,Y,x,C,dx,[("lengths",.ref la)],Y,h.get 0 rfl,pc.c,pc.n1,(by show 1<1000;decide),?_⟩;replace h:=h.fput (o':=.ins C dx [("lengths",.ref la),("functions",.ref lb)]);refine ⟨_,Y,c,_,Y,.inl (h.sql hc),λlc nlc=>?_⟩;replace h:=h.fnew (o:=.lst zs) nlc;refine ⟨_,Y,x,C,dx,[("lengths",.ref la),("functions",.ref lb)],Y,h.get 0 rfl,pc.c,pc.n2,(by show 2<1000;decide),?_⟩;replace h:=h.fput (o':=.ins C dx (prFl la lb lc));obtain ⟨B',sB,hB,h2⟩:=Hd.settles (S:=[(x,.ins C dx (prFl la lb lc)),(lc,.lst zs),(lb,.lst ys),(la,.lst xs)]) (L:=L) h;exact k B' _ la lb lc sB h2 (hB (la,_) (by simp)) (hB (lb,_) (by simp)) (hB (lc,_) (by simp)) (hB (x,_) (by simp))
def spLaw (K:Fg):Sp:=λvs H Q _=>∃ (a:Ad) (ns:J6),vs=[.ref a]/\SqL K H a (ns.map V.int)/\ns.length<=63/\∀ H',Q (.bl true) H'
def XM (n:Int) (k:Int):F2.Fm:=.pair "/" (.num n) (.pair "+" (.cell 1) (.num (1-k)))
def stC (x:Int) (k:Int) (f:F2.Fm):F2.Fm:=if x % 2=0 then .cho (.pair "=" (.cell 1) (.num k)) (XM (yo (x / 2)) k) f else .cho (.pair "-" (.cell 1) (.num k)) f (XM (yo (x / 2)) k)
def xH (xs:J6) (last:Int):Nat->F2.Fm
 | 0=>.cho (.cell 1) (.num last) (.num (last / 2))
 | j+1=>stC (xs.getD (xs.length-1-j) 0) ((xs.length-1-j:Nat):Int) (xH xs last j)
def dueC (xs:J6) (last:Int) (j:Nat) (a:Int):Int:=if (xs.length:Int)-j<=a/\a<xs.length then yo (xs.getD a.toNat 0 / 2) else if a≠0 then last else last / 2
def XZ {P:F2.Fm->Prop} (x k:Int) (f:F2.Fm) (h1:P (.cho (.pair "=" (.cell 1) (.num k)) (XM (yo (x / 2)) k) f)) (h2:P (.cho (.pair "-" (.cell 1) (.num k)) f (XM (yo (x / 2)) k))):P (stC x k f):=by
 unfold stC
 split
 .exact h1
 .exact h2
theorem Zt (xs:J6) (last:Int):∀ j,Fit (xH xs last j)
 | 0=>⟨trivial,trivial,trivial⟩
 | j+1=>XZ _ _ _ ⟨⟨trivial,trivial⟩,⟨trivial,trivial,trivial⟩,Zt xs last j⟩ ⟨⟨trivial,trivial⟩,Zt xs last j,trivial,trivial,trivial⟩
theorem zaz (xs:J6) (last:Int):∀ j,hF (xH xs last j)<=j+2/\cN (xH xs last j)<=8+20*j/\cD (xH xs last j)<=j+1
 | 0=>by
  refine ⟨?_,?_,?_⟩
  .show max 0 (max 0 0)+1<=2;decide
  .show 1+1+1+5<=8;decide
  .show max 0 (max 0 0+1)<=1;decide
 | j+1=>by
  obtain ⟨a,b,c⟩:=zaz xs last j;refine XZ (P:=λF=>hF F<=j+1+2/\cN F<=8+20*(j+1)/\cD F<=j+1+1) _ _ _ ⟨?_,?_,?_⟩ ⟨?_,?_,?_⟩
  .exact rF (sO.mpr ⟨Nat.le_add_left 1 (j+1),sO.mpr ⟨Nat.le_add_left 2 j,a⟩⟩)
  .show (1+1+3)+(1+(1+1+3)+3)+cN (xH xs last j)+5<=_;omega
  .exact sO.mpr ⟨nK _,rF (sO.mpr ⟨nK _,c⟩)⟩
  .exact rF (sO.mpr ⟨Nat.le_add_left 1 (j+1),sO.mpr ⟨a,Nat.le_add_left 2 j⟩⟩)
  .show (1+1+3)+cN (xH xs last j)+(1+(1+1+3)+3)+5<=_;omega
  .exact sO.mpr ⟨nK _,rF (sO.mpr ⟨c,nK _⟩)⟩
def Yw {n:Nat}:InL [(n:Int),n] (.cell 1)/\Zz 0 (.cell 1):=⟨⟨by decide,by show 1<2;decide⟩,by show (1:Int)≠0;decide⟩
theorem XB {n:Nat} (xs:J6) (last:Int):∀ j,InL [(n:Int),n] (xH xs last j)/\Zz 0 (xH xs last j)
 | 0=>⟨⟨(Yw (n:=n)).1,trivial,trivial⟩,(Yw (n:=n)).2,trivial,trivial⟩
 | j+1=>by
  have h:=XB (n:=n) xs last j;have c:=Yw (n:=n);exact XZ (P:=λF=>InL [(n:Int),n] F/\Zz 0 F) _ _ _ ⟨⟨⟨c.1,trivial⟩,⟨trivial,c.1,trivial⟩,h.1⟩,⟨c.2,trivial⟩,⟨trivial,c.2,trivial⟩,h.2⟩ ⟨⟨⟨c.1,trivial⟩,h.1,trivial,c.1,trivial⟩,⟨c.2,trivial⟩,h.2,trivial,c.2,trivial⟩
def zdg {n:Nat} {fs:List F2.Fn} {kk:Nat} {cs:J6} {e:Int} (n1:1<=n) (e0:0<=e) (e1:e<n):F2.WF fs kk ⟨[(n:Int),n],cs,e,[]⟩ (.cell 1):=by
 refine ⟨⟨by decide,by show 1<2;decide⟩,?_,λ_=>⟨e0,?_⟩⟩
 .show (1:Int)<=n;omega
 .show e<(n:Int);omega
def half_kin {x:Int} (h:Kin x):Kin (x / 2):=⟨by have:=h.1;have:=h.2;omega,by have:=h.1;have:=h.2;omega⟩
theorem zee {n:Nat} {fs:List F2.Fn} {kk:Nat} {cs:J6} {e:Int} (n1:1<=n) (e0:0<=e) (e1:e<n) (xs:J6) (hx:xs.length<=6) {last:Int} (hl:Kin last):∀ j,F2.WF fs kk ⟨[(n:Int),n],cs,e,[]⟩ (xH xs last j)
 | 0=>⟨zdg n1 e0 e1,hl,half_kin hl⟩
 | j+1=>by
  have h:=zee (fs:=fs) (kk:=kk) (cs:=cs) n1 e0 e1 xs hx hl j;have c:=zdg (fs:=fs) (kk:=kk) (cs:=cs) n1 e0 e1;have kk':Kin ((xs.length-1-j:Nat):Int):=⟨by omega,by omega⟩;have k1:Kin (1-((xs.length-1-j:Nat):Int)):=⟨by omega,by omega⟩;exact XZ (P:=λF=>F2.WF fs kk ⟨[(n:Int),n],cs,e,[]⟩ F) _ _ _ ⟨⟨by decide,c,kk'⟩,⟨by decide,Z7 _,by decide,c,k1⟩,h⟩ ⟨⟨by decide,c,kk'⟩,h,by decide,Z7 _,by decide,c,k1⟩
def cell_ev {n:Nat} {row t0:J6} {cl:Int->J6->Res} {p:Nat} (ht:t0.length=n) (hp:p<n):F2.ev cl ⟨[(n:Int),n],t0++row,(p:Int),[]⟩ (.cell 1)=.ok (row.getD p 0):=by
 have e1:(t0++row).getD ((n:Int)+(p:Int)).toNat 0=row.getD p 0:=by
  rw [q6x,oh (by omega),← q6x];congr 1;omega
 show (if (n:Int)=1 then FM.Res.ok ((t0++row).getD (([(n:Int)]).sum+0).toNat 0) else FM.Res.ok ((t0++row).getD (([(n:Int)]).sum+(p:Int)).toNat 0))=_;have es:([(n:Int)]).sum=n:=by show (n:Int)+0=n;omega
 rw [es]
 split
 .rename_i z
  have p0:p=0:=by omega
  rw [p0] at e1 ⊢;exact congrArg FM.Res.ok e1
 .exact congrArg FM.Res.ok e1
def kept_id {x:Int} (h:Kin x):kept x=x:=by
 unfold kept;have:=h.1;have:=h.2;omega
def side_ev {cl:Int->J6->Res} {S:SpotD} {a x k:Int} (ha:F2.ev cl S (.cell 1)=.ok a) (hx:Kin x) (e:a=k):F2.ev cl S (XM x k)=.ok x:=by
 show Zw "/" (.ok x) (Zw "+" (F2.ev cl S (.cell 1)) (.ok (1-k)))=_;rw [ha]
 show (match (if kept (a+(1-k))=0 then O else Z (kept (x.fdiv (kept (a+(1-k)))))) with
  | some n=>FM.Res.ok n
  | none=>.nought)=_
 have e1:kept (a+(1-k))=1:=by rw [e,show k+(1-k)=1 by omega];decide
 rw [e1,if_neg (by decide),show x.fdiv 1=x from Int.fdiv_one x,kept_id hx]
def stC_ev {cl:Int->J6->Res} {S:SpotD} {a x k:Int} {f:F2.Fm} (ha:F2.ev cl S (.cell 1)=.ok a) (hk:Kin (a-k)):F2.ev cl S (stC x k f)=if a=k then .ok (yo (x / 2)) else F2.ev cl S f:=by
 unfold stC
 split
 .show choR (Zw "=" (F2.ev cl S (.cell 1)) (.ok k)) (F2.ev cl S (XM (yo (x / 2)) k)) (F2.ev cl S f)=_
  rw [ha];show (if (if a=k then (1:Int) else 0)≠0 then _ else _)=_;by_cases z:a=k
  .rw [if_pos z,if_pos z,if_pos (by decide),side_ev ha (Z7 _) z]
  .rw [if_neg z,if_neg z,if_neg (by decide)]
 .show choR (Zw "-" (F2.ev cl S (.cell 1)) (.ok k)) (F2.ev cl S f) (F2.ev cl S (XM (yo (x / 2)) k))=_
  rw [ha];show (if kept (a-k)≠0 then _ else _)=_;rw [kept_id hk];by_cases z:a=k
  .rw [if_pos z,if_neg (by omega),side_ev ha (Z7 _) z]
  .rw [if_neg z,if_pos (by omega)]
theorem zef {cl:Int->J6->Res} {S:SpotD} {a:Int} (ha:F2.ev cl S (.cell 1)=.ok a) (a1:-1<=a) (a7:a<=7) (xs:J6) (hx:xs.length<=6) (last:Int):∀ j,j<=xs.length->F2.ev cl S (xH xs last j)=.ok (dueC xs last j a)
 | 0,_=>by
  show choR (F2.ev cl S (.cell 1)) (.ok last) (.ok (last / 2))=_;rw [ha];unfold dueC;rw [if_neg (by omega)];show (if a≠0 then _ else _)=_
  split <;> rfl
 | j+1,hj=>by
  have ih:=zef ha a1 a7 xs hx last j (by omega);show F2.ev cl S (stC _ _ (xH xs last j))=_;rw [stC_ev ha ⟨by omega,by omega⟩,ih];unfold dueC;by_cases z:a=((xs.length-1-j:Nat):Int)
  .rw [if_pos z,if_pos (by omega),z,q0z]
  .rw [if_neg z]
   by_cases y:(xs.length:Int)-j<=a/\a<xs.length
   .rw [if_pos y,if_pos (by omega)]
   .rw [if_neg y,if_neg (show ¬ ((xs.length:Int)-((j+1:Nat):Int)<=a/\a<xs.length) by omega)]
inductive spSide (c:F2.Cs) (vs:Jj) (H:Hp) (Q:VK) (_:XK):Prop
 | mk (n k:Int) (_:vs=[.int n,.int k]) (_:∀ H' x,Same H H'->F2.FormAt c H' (XM n k) x->Q (.ref x) H')
def ok_side {c:F2.Cs} (d:zk K mg "_law_side" Xc Ui) (G:FormG mg c) (IN:OkI P w K mg base (CXe P w base) 1 c.num Uk (spI_Number c.num)) (IC:OkI P w K mg base (CXe P w base) 1 c.cell Us (spI_Cell c.cell)) (IP:OkI P w K mg base (CXe P w base) 1 c.pair qU (spI_Pair c.pair)):Ok P w K mg base CX0 3 "_law_side" Ui (spSide c):=by
 refine oDf d sc_l_side λg mx A _ s H vs Q E hr h=>?_;obtain ⟨n,k',rfl,k⟩:=h;have hr2:=hr;refine ⟨_,(zf (zm (yc IP G.pair hr2 (by rfl) yk (zb zP (zb (yc IN G.num hr2 (by rfl) yk (zb (pv 0) zc)) (zb (yc IP G.pair hr2 (by rfl) yk (zb zP (zb (yc IC G.cell hr2 (by rfl) yk (zb zg zc)) (zb (yc IN G.num hr2 (by rfl) yk (zb (zn Z2 zg (pv 1)) zc)) zc)))) zc)))))),?_⟩;refine ⟨_,Y,λx1 d1 n1 n2 n3=>⟨x1,d1,.int n,Y,zh,λH1 k1 e1=>⟨Y,?_⟩⟩⟩;have s1:=zV n1 n2 k1;clear n1 n2 n3 k1;refine λx2 d2 n1 n2 n3=>⟨x2,d2,.int 1,Y,zh,λH2 k2 e2=>⟨Y,?_⟩⟩;have s2:=zV n1 n2 k2;clear n1 n2 n3 k2;refine ⟨_,Y,_,_,Y,Y,λx3 d3 n1 n2 n3=>⟨x3,d3,.int (1-k'),Y,zh,λH3 k3 e3=>⟨Y,?_⟩⟩⟩;have s3:=zV n1 n2 k3;clear n1 n2 n3 k3;refine λx4 d4 n1 n2 n3=>⟨x4,d4,.str "+",.ref x2,.ref x3,Y,zh,λH4 k4 e4=>⟨Y,?_⟩⟩;have s4:=zV n1 n2 k4;clear n1 n2 n3 k4;refine λx5 d5 n1 n2 n3=>⟨x5,d5,.str "/",.ref x1,.ref x4,Y,zh,λH5 k5 e5=>⟨Y,?_⟩⟩;have s5:=zV n1 n2 k5;refine k H5 x5 ((((s1.trans s2).trans s3).trans s4).trans s5) ⟨d5,x1,x4,e5,⟨d1,((s2.trans s3).trans (s4.trans s5)) _ _ e1⟩,⟨d4,x2,x3,s5 _ _ e4,⟨d2,(s3.trans (s4.trans s5)) _ _ e2⟩,⟨d3,(s4.trans s5) _ _ e3⟩⟩⟩
inductive spNestC (c:F2.Cs) (K:Fg) (vs:Jj) (H:Hp) (Q:VK) (_:XK):Prop
 | mk (a:Ad) (xs:J6) (last:Int) (_:vs=[.ref a,.int last]) (_:SqL K H a (xs.map V.int)) (_:xs.length<=6) (_:∀ H' x,Same H H'->F2.FormAt c H' (xH xs last xs.length) x->Q (.ref x) H')
def ok_nestC {c:F2.Cs} (d:zk K mg "_law_nest" Xd Uq) (hlen:mg "len"=O) (hrg:mg "range"=O) (G:FormG mg c) (KB:Ok P w K mg base (CXe P w base) 1 "_law_kept_by" Uw spKB) (SD:Ok P w K mg base CX0 3 "_law_side" Ui (spSide c)) (IN:OkI P w K mg base (CXe P w base) 1 c.num Uk (spI_Number c.num)) (IC:OkI P w K mg base (CXe P w base) 1 c.cell Us (spI_Cell c.cell)) (IP:OkI P w K mg base (CXe P w base) 1 c.pair qU (spI_Pair c.pair)) (ICh:OkI P w K mg base (CXe P w base) 1 c.cho qZ (spI_Choice c.cho)):Ok P w K mg base CX0 4 "_law_nest" Uq (spNestC c K):=by
 refine oDf d sc_l_nest λg mx A _ s H vs Q E hr h=>?_;obtain ⟨a,xs,last,rfl,hS,x6,k⟩:=h;have nd:=sc_l_nest.nd;have hr3:=hr;have hr2:Room 2 _:=hr.mono (by decide);have hr1:Room 1 _:=hr.mono (by decide);refine ⟨_,(zd (oRz 2 nd (yc ICh G.cho hr2 (by rfl) yk (zb (yc IC G.cell hr2 (by rfl) yk (zb zg zc)) (zb (yc IN G.num hr2 (by rfl) yk (zb (pv 1) zc)) (zb (yc IN G.num hr2 (by rfl) yk (zb (zn xD (pv 1) zg) zc)) zc)))))
   (zd (x8 oE rfl (xn rfl hrg (zb (zp zH (by rfl) hlen o6 (zb (pv 0) zc)) zc)) (oQz 3 nd) (zd (oRz 4 nd (zn Z2 (zn Z2 (zp zH (by rfl) hlen o6 (zb (pv 0) zc)) zg) (pv 3)))
   (zd (oRz 5 nd (zD SD hr3 (by rfl) zo (zb (zD KB hr1 (by rfl) yk (zb (zn xD (zv z6 (pv 0) (pv 4) (λ_ _=>rfl)) zg) zc)) (zb (pv 4) zc))))
   (zf (zO (zJ Zc (zn yP (zv z6 (pv 0) (pv 4) (λ_ _=>rfl)) zg) zg (zM _)) (zf (oRz 2 nd (yc ICh G.cho hr2 (by rfl) yk (zb (yc IP G.pair hr2 (by rfl) yk (zb zP (zb (yc IC G.cell hr2 (by rfl) yk (zb zg zc)) (zb (yc IN G.num hr2 (by rfl) yk (zb (pv 4) zc)) zc)))) (zb (pv 5) (zb (pv 2) zc)))))) (zf (oRz 2 nd (yc ICh G.cho hr2 (by rfl) yk (zb (yc IP G.pair hr2 (by rfl) yk (zb zP (zb (yc IC G.cell hr2 (by rfl) yk (zb zg zc)) (zb (yc IN G.num hr2 (by rfl) yk (zb (pv 4) zc)) zc)))) (zb (pv 2) (zb (pv 5) zc)))))))))))
   (zf (zm (pv 2))))),?_⟩
 show (let s1:L2.TS:=_;let s2:L2.TS:=L2.tSeq _ s1;L2.tSeq _ s2 _ _ _);intro s1 s2;refine λx1 d1 n1 n2 n3=>⟨x1,d1,.int 1,Y,zh,λH1 k1 e1=>⟨Y,?_⟩⟩;have s1:=zV n1 n2 k1;clear n1 n2 n3 k1;refine ⟨_,Y,λx2 d2 n1 n2 n3=>⟨x2,d2,.int last,Y,zh,λH2 k2 e2=>⟨Y,?_⟩⟩⟩;have s2:=zV n1 n2 k2;clear n1 n2 n3 k2;refine ⟨_,Y,_,_,Y,Y,⟨by decide,by decide⟩,λx3 d3 n1 n2 n3=>⟨x3,d3,.int (last / 2),Y,zh,λH3 k3 e3=>⟨Y,?_⟩⟩⟩;have s3:=zV n1 n2 k3;clear n1 n2 n3 k3;refine λx4 d4 n1 n2 n3=>⟨x4,d4,.ref x1,.ref x2,.ref x3,Y,zh,λH4 k4 e4=>⟨Y,?_⟩⟩;have s4:=zV n1 n2 k4;clear n1 n2 n3 k4;have sA:Same H H4:=((s1.trans s2).trans s3).trans s4;have hF0:F2.FormAt c H4 (xH xs last 0) x4:=⟨d4,x1,x2,x3,e4,⟨d1,((s2.trans s3).trans s4) _ _ e1⟩,⟨d2,(s3.trans s4) _ _ e2⟩,⟨d3,s4 _ _ e3⟩⟩;clear s1 s2 s3 s4 e1 e2 e3 e4;refine ⟨_,Y,a,_,Y,.inl (zw hS sA),_,Y,?_,?_,?_⟩
 .rw [Je];omega
 .rw [Je];omega
 rw [Je,q0z];refine Zu (n:=xs.length) (λi σ J=>∃ (u3 u4 u5:Jk) (y:Ad),σ=[rq a,iq last,rq y,u3,u4,u5]/\Same H J/\F2.FormAt c J (xH xs last i) y) ⟨O,O,O,x4,Y,sA,hF0⟩ ?_ ?_
 .clear hF0 sA
  rintro i σ J hi ⟨u3,u4,u5,y,rfl,sJ,hY⟩;have hS1:=zw hS sJ;refine ⟨_,Y,a,_,Y,.inl hS1,_,_,Y,Y,_,Y,_,_,Y,Y,?_⟩;rw [Je];have ek:(xs.length:Int)-1-(0+(i:Int))=((xs.length-1-i:Nat):Int):=by omega
  rw [ek];have e2:xH xs last (i+1)=stC (xs.getD (xs.length-1-i) 0) ((xs.length-1-i:Nat):Int) (xH xs last i):=rfl;have hk:xs.length-1-i<xs.length:=by omega
  rw [e2];generalize hkk:xs.length-1-i=kx at hk;refine ⟨_,Y,_,Y,a,_,_,_,Y,Y,hS1,xc kx hk rfl,_,_,Y,Y,⟨by decide,by decide⟩,_,Y,λJ1 t1=>?_⟩;refine ⟨_,Y,_,_,Y,λJ2 y2 t2 h2=>?_⟩;have hS2:=zw hS1 (t1.trans t2);have sJ2:=sJ.trans (t1.trans t2);have hY2:=hY.same (t1.trans t2);clear t1 t2;refine ⟨_,Y,_,Y,a,_,_,_,Y,Y,hS2,xc kx hk rfl,_,_,Y,Y,(by show (0:Int)<2;decide),Y,_,Y,?_⟩;unfold stC;generalize xs.getD kx 0=cell at h2 ⊢;refine yw (λz=>?_) (λz=>?_)
  .rw [if_pos (V.int.inj (of_decide_eq_true z))]
   refine λz1 d1 n1 n2 n3=>⟨z1,d1,.int 1,Y,zh,λG1 k1 e1=>⟨Y,?_⟩⟩;have s1:=zV n1 n2 k1;clear n1 n2 n3 k1;refine ⟨_,Y,λz2 d2 n1 n2 n3=>⟨z2,d2,.int (kx:Int),Y,zh,λG2 k2 e2=>⟨Y,?_⟩⟩⟩;have s2:=zV n1 n2 k2;clear n1 n2 n3 k2;refine λz3 d3 n1 n2 n3=>⟨z3,d3,.str "=",.ref z1,.ref z2,Y,zh,λG3 k3 e3=>⟨Y,?_⟩⟩;have s3:=zV n1 n2 k3;clear n1 n2 n3 k3;refine ⟨_,Y,_,Y,?_⟩;refine λz4 d4 n1 n2 n3=>⟨z4,d4,.ref z3,.ref y2,.ref y,Y,zh,λG4 k4 e4=>⟨Y,?_⟩⟩;have s4:=zV n1 n2 k4;have sG:=((s1.trans s2).trans s3).trans s4;exact ⟨_,_,_,z4,Y,sJ2.trans sG,d4,z3,y2,y,e4,⟨d3,z1,z2,s4 _ _ e3,⟨d1,((s2.trans s3).trans s4) _ _ e1⟩,⟨d2,(s3.trans s4) _ _ e2⟩⟩,h2.same sG,hY2.same sG⟩
  .rw [if_neg (λy=>z (decide_eq_true (congrArg V.int y)))]
   refine λz1 d1 n1 n2 n3=>⟨z1,d1,.int 1,Y,zh,λG1 k1 e1=>⟨Y,?_⟩⟩;have s1:=zV n1 n2 k1;clear n1 n2 n3 k1;refine ⟨_,Y,λz2 d2 n1 n2 n3=>⟨z2,d2,.int (kx:Int),Y,zh,λG2 k2 e2=>⟨Y,?_⟩⟩⟩;have s2:=zV n1 n2 k2;clear n1 n2 n3 k2;refine λz3 d3 n1 n2 n3=>⟨z3,d3,.str "-",.ref z1,.ref z2,Y,zh,λG3 k3 e3=>⟨Y,?_⟩⟩;have s3:=zV n1 n2 k3;clear n1 n2 n3 k3;refine ⟨_,Y,_,Y,?_⟩;refine λz4 d4 n1 n2 n3=>⟨z4,d4,.ref z3,.ref y,.ref y2,Y,zh,λG4 k4 e4=>⟨Y,?_⟩⟩;have s4:=zV n1 n2 k4;have sG:=((s1.trans s2).trans s3).trans s4;exact ⟨_,_,_,z4,Y,sJ2.trans sG,d4,z3,y,y2,e4,⟨d3,z1,z2,s4 _ _ e3,⟨d1,((s2.trans s3).trans s4) _ _ e1⟩,⟨d2,(s3.trans s4) _ _ e2⟩⟩,hY2.same sG,h2.same sG⟩
 .rintro σ J ⟨u3,u4,u5,y,rfl,sJ,hY⟩
  exact ⟨_,Y,k J y sJ hY⟩
inductive spDueC (K:Fg) (vs:Jj) (H:Hp) (Q:VK) (_:XK):Prop
 | mk (a:Ad) (xs:J6) (last x:Int) (_:vs=[.ref a,.int last,.int x]) (_:SqL K H a (xs.map V.int)) (_:xs.length<=6) (_:∀ H',Same H H'->Q (.int (dueC xs last xs.length x)) H')
def ok_dueC (d:zk K mg "_law_due" X3 qL) (hlen:mg "len"=O) (KB:Ok P w K mg base (CXe P w base) 1 "_law_kept_by" Uw spKB):Ok P w K mg base CX0 2 "_law_due" qL (spDueC K):=by
 refine oDf d sc_l_due λg mx A _ s H vs Q E hr h=>?_;obtain ⟨a,xs,last,x,rfl,hS,x6,k⟩:=h;have nd:=sc_l_due.nd;have hr1:=hr;unfold dueC at k;refine ⟨_,(zd (zO (pt_chain op_le zbw zg (pv 2) (zp zH (by rfl) hlen o6 (zb (pv 0) zc))) (zf (zm (zD KB hr1 (by rfl) yk (zb (zn xD (zv z6 (pv 0) (pv 2) (λ_ _=>rfl)) zg) zc)))) zC)
   (zd (zO (zJ op_ne (pv 2) zg (zM _)) (zf (zm (pv 1))) zC)
   (zf (zm (zn xD (pv 1) zg))))),?_⟩
 show (let s1:L2.TS:=_;let s2:L2.TS:=L2.tSeq _ s1;L2.tSeq _ s2 _ _ _);intro s1 s2;refine ⟨_,Y,_,_,Y,Y,_,Y,?_⟩
 have tail:¬ ((xs.length:Int)-(xs.length:Nat)<=x/\x<xs.length)->tSeq (tIfS (tTest (tOp rNe (tVar 2) (tC (V.int 0)))) (tRet (tVar 1)) tNext) (tRet (tOp (rI CDiv λi j=>V.int (i / j)) (tVar 1) (tC (V.int 2)))) { nx:=λx H'=>Q V.non H',rt:=Q } [Z (V.ref a),Z (V.int last),Z (V.int x)] H:=λz=>by
  rw [if_neg z] at k;refine ⟨_,Y,Y,_,Y,yw (λy=>?_) (λy=>?_)⟩
  .have y:x≠0:=λw=>by
    rw [w] at y;exact absurd y (by decide)
   rw [if_pos y] at k;exact ⟨_,Y,k H (Same.refl _)⟩
  .have y:¬ x≠0:=λw=>y (by
    rw [tR,decide_eq_false_iff_not];exact λu=>w (V.int.inj u))
   rw [if_neg y] at k;exact ⟨_,Y,_,_,Y,Y,⟨by decide,by decide⟩,k H (Same.refl _)⟩
 by_cases z0:0<=x
 .rw [if_pos (decide_eq_true z0)]
  refine ⟨_,Y,a,_,Y,.inl hS,_,_,Y,Y,_,Y,yw (λz=>?_) (λz=>?_)⟩
  .have z:x<((xs.map V.int).length:Int):=of_decide_eq_true z
   rw [Je] at z;rw [if_pos ⟨by omega,z⟩] at k;exact ⟨_,Y,_,Y,a,_,_,_,Y,Y,hS,xc x.toNat (by omega) (by omega),_,_,Y,Y,⟨by decide,by decide⟩,_,Y,λJ1 t1=>k J1 t1⟩
  .have z:¬ x<((xs.map V.int).length:Int):=λw=>z (decide_eq_true w)
   rw [Je] at z;exact tail (λw=>z w.2)
 .rw [if_neg (λw=>z0 (of_decide_eq_true w))]
  exact ⟨_,Y,xt (tail (λw=>z0 (by omega)))⟩
def cut6 (n:Nat):min 9 n-min 3 n<=6:=by
 rcases Nat.le_total n 3 with z | z
 .rw [Nat.min_eq_right z];exact mL (Nat.sub_le_sub_right (Nat.min_le_right _ _) _) (by rw [Nat.sub_self];exact nK _)
 .rw [sV z];exact Nat.sub_le_sub_right (Nat.min_le_left 9 n) 3
def mod4 (x:Int):x % 4=0∨x % 4=1∨x % 4=2∨x % 4=3:=by
 obtain ⟨n,e⟩:=tX (Int.emod_nonneg x (by decide:(4:Int)≠0));have l:=Int.emod_lt_of_pos x (by decide:(0:Int)<4);rw [e] at l ⊢
 match n,Int.ofNat_lt.mp l with
 | 0,_=>exact .inl rfl
 | 1,_=>exact .inr (.inl rfl)
 | 2,_=>exact .inr (.inr (.inl rfl))
 | 3,_=>exact .inr (.inr (.inr rfl))
def list_at {α:Type} {l:List α} {g:α->V} {i:Nat} {x:V} (h:(l.map g)[i]?=Z x):∃ p,l[i]?=Z p/\x=g p:=by
 rw [mJ] at h
 cases e:l[i]? with
 | none=>rw [e] at h;cases h
 | some z=>rw [e] at h;exact ⟨z,Y,by injection h with h;exact h.symm⟩
def lay_let {t0 row:J6} {n:Nat} (h:t0.length=n) (g:Nat->ERes) (d:Nat->Int) (hg:∀ e,e<n->g e=.val (d e)∨(g e=.pass/\d e=t0.getD e 0)):z7 (t0++row) (ym 0 g n)=(nj n).map d++row:=by
 have key:∀ m,m<=n->z7 (t0++row) (ym 0 g m)=(nj m).map d++(t0.drop m++row):=by
  intro m
  induction m with
  | zero=>intro _;rfl
  | succ m ih =>
   intro hm;have ih:=ih (by omega);unfold ym at ih ⊢;rw [oK,py,Jg,Jg];unfold z7 at ih ⊢;rw [oN,ih,List.drop_eq_getElem_cons (show m<t0.length by omega)];rcases hg m (by omega) with e | ⟨e,e'⟩
   .rw [pS (by rw [e];rfl)]
    show (List.map d (nj m)++(t0[m]::List.drop (m+1) t0++row)).set ((0:Int)+(m:Int)).toNat (g m).num=List.map d (nj m)++[d m]++(List.drop (m+1) t0++row);rw [e,show ((0:Int)+(m:Int)).toNat=m by omega,List.set_append_right _ _ (by rw [Je,pf];exact m8 _),Je,pf,Nat.sub_self,n8];rfl
   .rw [p7 (by rw [e];intro w;cases w)]
    show List.map d (nj m)++(t0[m]::List.drop (m+1) t0++row)=List.map d (nj m)++[d m]++(List.drop (m+1) t0++row);rw [e',q6x,m6 (show m<t0.length by omega),n8];rfl
 rw [key n (m8 _),List.drop_eq_nil_of_le (by omega)];rfl
def xV (b:Bool):Option F2.Fm:=if b=true then Z (.cell 1) else O
def XY {b:Bool} {f:F2.Fm} (e:xV b=Z f):f=.cell 1:=by
 unfold xV at e
 split at e
 .cases e;rfl
 .cases e
def ok_law {c:F2.Cs} {q:QCs} {mc:MCs} {Lx:Lex} {f:Ad} {fd:og} (F:Fun K "law" "law" zan f fd) (hlen:mg "len"=O) (hrg:mg "range"=O) (G:FormG mg c) (SG:StepG mg q) (hPr:mg "Program"=Z (.ref q.pr)) (PC:PrC K q.pr)
  (CA:Ok P w K mg base CX0 1 "_law_cell_at" Uh (spCA K)) (KB:Ok P w K mg base (CXe P w base) 1 "_law_kept_by" Uw spKB) (SM:Ok P w K mg base CX0 2 "_law_some" qX (spSomeL K)) (NS:Ok P w K mg base CX0 4 "_law_nest" Uq (spNestC c K)) (DU:Ok P w K mg base CX0 2 "_law_due" qL (spDueC K)) (TO:Ok P w K mg base CX0 2 "_law_told" qV (spTold3 K))
  (IC:OkI P w K mg base (CXe P w base) 1 c.cell Us (spI_Cell c.cell)) (IL:OkN P w K mg base (CXe P w base) 1 q.let_ qW (spI_Let q.let_)) (IPr:OkI P w K mg base CX0 1 q.pr qS (spI_ProgU K q.pr)) (MD:OkD P w K mg base CX0 36 "made" Ut (spMade c q K 9)) (RN:Ok P w K mg base CX0 10 "ran" qN (spRan mc K Lx)) (lx:LxR Lx) (hSt:Lx.E "store" xI) :
  FnOk P w K mg base CX0 37 f fd ["_law_script"] (spLaw K):=by
 refine F.ok sc_law (by rintro vs H Q E ⟨_,_,e,_⟩;rw [e];rfl) λmx A outer s H vs Q E hr h=>?_;obtain ⟨a,ns,rfl,hS,hn,k⟩:=h;have nd:=sc_law.nd;have MD2:=MD.all;have IL2:=IL.all;have hr1:Room 1 _:=hr.mono (by decide);have hr2:Room 2 _:=hr.mono (by decide);have hr4:Room 4 _:=hr.mono (by decide);have hr10:Room 10 _:=hr.mono (by decide);have hrM:=hr;refine ⟨_,(zd (oRz 1 nd (zn zQ zg (zn yP (zD CA hr1 (by rfl) zo (zb (pv 0) (zb zg zc))) zg)))
   (zd (ps_compC (i:=2) ["_law_number"] [O] rfl rfl rfl (Zq (zD SM hr2 (by rfl) zo (zb (pv 0) (zb zg (zb (pv 1) zc))))) (λs3 H3 fp=>⟨oQz 0 (Jl ["_law_number"]),(zn Z2 (zn yP (pv 0) zg) zg)⟩) nd rfl (Or.inl rfl))
   (zd (oRz 4 nd (zD SM hr2 (by rfl) zo (zb (pv 0) (zb zg (zb (pv 1) zc)))))
   (zd (oRz 5 nd (zd4 sl_list (pv 0) (zcy zg) (zcy zg)))
   (zd (oRz 6 nd (zD KB hr1 (by rfl) yk (zb (zD CA hr1 (by rfl) zo (zb (pv 0) (zb zg zc))) zc)))
   (zd (oRz 7 nd (pe_okN IL SG.let_ hr2 (by rfl) yk (zb zg (zb (zD NS hr4 (by rfl) zo (zb (pv 5) (zb (pv 6) zc))) zc))))
   (zd (oRz 8 nd (xS Zc (zn yP (zD CA hr1 (by rfl) zo (zb (pv 0) (zb zg zc))) zg) zg (zM _)))
   (zd (Y0 (zO (ya (pv 8)) (zf (oRz 7 nd (yc IL2 SG.let_ hr2 (by rfl) yk (zb zg (zb (zD NS hr4 (by rfl) zo (zb (pv 5) (zb (pv 6) zc))) (zb (yc IC G.cell hr2 (by rfl) yk (zb zg zc)) zc)))))) zC))
   (zd (oRz 9 nd (yn zc))
   (zd (x8 oE rfl (xn rfl hrg (zb (pv 1) zc)) (oQz 10 nd) (zf (zO (pw_and (ya (pv 8)) (zcx (zJ Zc (zv z6 (pv 2) (pv 10) (λ_ _=>rfl)) zg (zM _)))).pt (zf (zy (Zb mU mZ mY ye (pv 9) (zb (zv z6 (pv 4) (pv 10) (λ_ _=>rfl)) zc)))) (zf (zy (Zb mU mZ mY ye (pv 9) (zb (zD DU hr2 (by rfl) zo (zb (pv 5) (zb (pv 6) (zb (zv z6 (pv 2) (pv 10) (λ_ _=>rfl)) zc)))) zc)))))))
   (zd (Y0 (oRz 11 nd (yc IPr hPr hr2 (by rfl) zo (zb (yn (zb (pv 1) (zb (pv 1) zc))) (zb (yn zc) (zb (yn (zb (pv 7) zc)) zc))))))
   (zd (oRz 12 nd (zv z6 (yn (zb zg (zb zg (zb zg (zb zg zc))))) (zn yP (zn xD (zD CA hr1 (by rfl) zo (zb (pv 0) (zb zg zc))) zg) zg) (λ_ _=>rfl)))
   (zd (oRz 13 nd (pe_okD MD hrM (by rfl) zo (zb (pv 11) zc)))
   (zd (Y0 (zO (zJ op_ne (pv 12) zg (zM _)) (zf (oRz 13 nd (zD MD2 hrM (by rfl) zo (zb (pv 11) (zb (pv 12) zc))))) zC))
   (zd (oRz 14 nd (zn zQ zg (zn yP (zn xD (zD CA hr1 (by rfl) zo (zb (pv 0) (zb zg zc))) zg) zg)))
   (zd (oRz 15 nd (zD SM hr2 (by rfl) zo (zb (pv 0) (zb zg (zb (zn yP (zn xD (zD CA hr1 (by rfl) zo (zb (pv 0) (zb zg zc))) zg) zg) zc)))))
   (zd (oRz 16 nd (zD RN hr10 (by rfl) zo (zb (pv 13) (zb (yn (zb (pv 1) (zb (pv 1) zc))) (zb (zn zc5 (pv 4) (pv 2)) (zb (pv 14) (zb (pv 15) (zb (yn zc) zc))))))))
   (zf (zm (zD TO hr2 (by rfl) zo (zb (pv 16) (zb (zn zc5 (pv 9) (pv 2)) (zb xB zc))))))))))))))))))))))),?_⟩
 dsimp only [yh,Cx.nox,Cx.wish];show (let s1:L2.TS:=_;let s2:L2.TS:=L2.tSeq _ s1;let s3:L2.TS:=L2.tSeq _ s2;let s4:L2.TS:=L2.tSeq _ s3;let s5:L2.TS:=L2.tSeq _ s4;let s6:L2.TS:=L2.tSeq _ s5;let s7:L2.TS:=L2.tSeq _ s6;let s8:L2.TS:=L2.tSeq _ s7;let s9:L2.TS:=L2.tSeq _ s8;let s10:L2.TS:=L2.tSeq _ s9;let s11:L2.TS:=L2.tSeq _ s10;let s12:L2.TS:=L2.tSeq _ s11;let s13:L2.TS:=L2.tSeq _ s12;let s14:L2.TS:=L2.tSeq _ s13;let s15:L2.TS:=L2.tSeq _ s14;let s16:L2.TS:=L2.tSeq _ s15;let s17:L2.TS:=L2.tSeq _ s16;L2.tSeq _ s17 _ _ _);intro s1 s2 s3 s4 s5 s6 s7 s8 s9 s10 s11 s12 s13 s14 s15 s16 s17;have sA:Same H H:=Same.refl _;refine ⟨_,Y,a,ns,0,Y,hS,by decide,_,_,Y,Y,(by show (0:Int)<9;decide),_,_,Y,Y,?_⟩;obtain ⟨n,en⟩:∃ n:Nat,1+ns.getD (0:Int).toNat 0 % 9=n:=⟨(1+ns.getD 0 0 % 9).toNat,by show 1+ns.getD 0 0 % 9=_;omega⟩;rw [en];have en':1+ns.getD 0 0 % 9=n:=en;have n9:1<=n/\n<=9:=by omega
 refine ⟨_,Y,_,Y,a,ns,1,n,Y,hS,hn,by decide,by decide,by omega,λH1 r0 xs0 lr0 _ s1 _ er0=>?_⟩;refine ⟨r0,Y,⟨_,SqL.of er0⟩,_,Y,λr1 nr1=>?_⟩;generalize hX:upd _ _ _=H2;have h2:=hdN hX nr1;clear hX;have er0':SqL K H1 r0 (xs0.map V.int):=SqL.of er0;refine Z9 (K:=K) (a:=r0) (D:=r1) (xs:=xs0.map V.int) (λi σ J=>∃ u,σ=[u]/\Hd H1 [(r1,.lst (((xs0.take i).map λx=>x % 9-1).map V.int))] J) ⟨O,Y,h2⟩ (λi σ J _ ⟨_,_,h⟩=>h.sql er0') ?_ ?_
 .clear h2
  rintro i y σ J hy ⟨u,rfl,h⟩;obtain ⟨x,hx,rfl⟩:=list_at hy;have il:i<xs0.length:=(mF.mp hx).1;refine ⟨_,Y,_,_,Y,Y,(by show (0:Int)<9;decide),_,_,Y,Y,?_⟩;refine ⟨_,h.get 0 rfl,(by rw [Je,Je,ny];exact nk (show _<=900 by omega) (by decide)),_,Y,?_⟩;have h3:=h.put (o':=.lst (((xs0.take (i+1)).map λx=>x % 9-1).map V.int)) 0 rfl
  have e:(((xs0.take (i+1)).map λx=>x % 9-1).map V.int)=(((xs0.take i).map λx=>x % 9-1).map V.int)++[V.int (x % 9-1)]:=by
   rw [nY,hx,Jg,Jg];rfl
  rw [e] at h3 ⊢;exact h3
 clear h2;rintro σ H2 ⟨u,rfl,h2⟩;rw [Je,oa] at h2;obtain ⟨row,erow⟩:∃ row,xs0.map (λx=>x % 9-1)=row:=⟨_,Y⟩;rw [erow] at h2;have lr:row.length=n:=by rw [← erow,Je,lr0]
 have kr:∀ e,e<n->-1<=row.getD e 0/\row.getD e 0<=7:=λe he=>by
  rw [← erow,q6x,mJ,m6 (by omega)];show -1<=xs0[e] % 9-1/\xs0[e] % 9-1<=7;omega
 have krk:∀ v∈row,Kin v:=λv hv=>by
  rw [← erow] at hv;obtain ⟨x,_,rfl⟩:=o9.mp hv;exact ⟨by omega,by omega⟩
 replace sA:=(sA.trans s1).trans h2.sm;replace hS:=zw hS (s1.trans h2.sm);have er:H2 r1=Z (.lst (row.map V.int)):=h2.get 0 rfl;clear h2 er0 er0' s1 nr1 u;refine ⟨_,Y,_,Y,a,ns,2,n,Y,hS,hn,by decide,by decide,by omega,λH3 t1 t0 lt kt s3 _ et=>?_⟩;replace hS:=zw hS s3;replace er:=s3 _ _ er;replace sA:=sA.trans s3;clear s3;refine ⟨_,Y,3,Y,9,Y,a,_,Y,hS,λpk npk=>?_⟩;rw [cutV_int (by decide) (by decide)];generalize hX:upd _ _ _=H4;obtain ⟨sX,epk⟩:=Yq hX npk;replace sA:=sA.trans sX;replace hS:=zw hS sX;replace er:=sX _ _ er;replace et:=sX _ _ et;clear hX sX;have x6:(cutI ns 3 9).length<=6:=by unfold cutI;rw [ny,List.length_drop];exact mL (Nat.min_le_left _ _) (cut6 _)
 generalize cutI ns 3 9=xs at epk x6;refine ⟨_,Y,a,ns,2,Y,hS,by decide,_,Y,λH5 s5=>?_⟩;replace hS:=zw hS s5;replace er:=s5 _ _ er;replace et:=s5 _ _ et;replace epk:=s5 _ _ epk;replace sA:=sA.trans s5;clear s5;obtain ⟨last,elast⟩:∃ last,yo (ns.getD (2:Int).toNat 0)=last:=⟨_,Y⟩;rw [elast];have klast:Kin last:=by rw [← elast];exact Z7 _
 let F1:F2.Fm:=xH xs last xs.length;refine ⟨_,Y,_,Y,pk,xs,last,Y,SqL.of epk,x6,λH6 y s6 hy=>?_⟩;replace hS:=zw hS s6;replace er:=s6 _ _ er;replace et:=s6 _ _ et;replace epk:=s6 _ _ epk;replace sA:=sA.trans s6;clear s6;refine λst0 dst0 n1 n2 n3=>⟨st0,dst0,.int (0:Nat),.ref y,.non,Y,zh,λH7 k7 e7=>⟨Y,?_⟩⟩;have s7:=zV n1 n2 k7;replace hS:=zw hS s7;replace er:=s7 _ _ er;replace et:=s7 _ _ et;replace epk:=s7 _ _ epk;replace sA:=sA.trans s7;have hst0:StepAt c q H7 st0 (.let_ 0 F1 O):=⟨dst0,y,.non,e7,hy.same s7,Y⟩;clear s7 e7 k7 n1 n2 n3 hy;refine ⟨_,Y,a,ns,1,Y,hS,by decide,_,_,Y,Y,(by show (0:Int)<2;decide),Y,?_⟩;generalize decide (V.int (ns.getD (1:Int).toNat 0 % 2)=V.int 1)=pb;refine ⟨λσ J=>∃ (st:Ad),σ=[rq a,iq n,rq r1,O,rq t1,rq pk,iq last,rq st,Z (.bl pb),O,O,O,O,O,O,O,O]/\Same H7 J/\StepAt c q J st (.let_ 0 F1 (xV pb)),?_,?_⟩
 .refine ⟨_,Y,_,Y,?_⟩
  cases pb with
  | false=>exact xt ⟨st0,Y,Same.refl _,hst0⟩
  | true =>
   refine Yl ⟨_,Y,_,Y,pk,xs,last,Y,SqL.of epk,x6,λJ1 y s1 hy=>?_⟩;refine λz1 d1 n1 n2 n3=>⟨z1,d1,.int 1,Y,zh,λJ2 k2 e2=>⟨Y,?_⟩⟩;have s2:=zV n1 n2 k2;clear n1 n2 n3 k2;refine λst dst n1 n2 n3=>⟨st,dst,.int (0:Nat),.ref y,.ref z1,Y,zh,λJ3 k3 e3=>⟨Y,?_⟩⟩;have s3:=zV n1 n2 k3;exact ⟨st,Y,(s1.trans s2).trans s3,dst,y,.ref z1,e3,hy.same (s2.trans s3),z1,Y,d1,s3 _ _ e2⟩
 clear hst0;rintro σ H8 ⟨st,rfl,s8,hst⟩;replace hS:=zw hS s8;replace er:=s8 _ _ er;replace et:=s8 _ _ et;replace epk:=s8 _ _ epk;replace sA:=sA.trans s8;clear s8;let dF:Nat->Int:=λe=>if pb=true/\row.getD e 0=0 then t0.getD e 0 else dueC xs last xs.length (row.getD e 0);refine ⟨szU 0,λdh ndh=>?_⟩;generalize hX:upd _ _ _=H9;have h9:=hdN hX ndh;clear hX;refine ⟨_,Y,_,Y,by omega,by omega,?_⟩;rw [q0z];refine Zu (n:=n) (λi σ J=>∃ (u:Jk) (B:Hp),σ=[rq a,iq n,rq r1,O,rq t1,rq pk,iq last,rq st,Z (.bl pb),rq dh,u,O,O,O,O,O,O]/\Same H8 B/\Hd B [(dh,.lst (((nj i).map dF).map V.int))] J) ⟨O,H8,Y,Same.refl _,h9⟩ ?_ ?_
 .clear h9
  rintro i σ J hi ⟨u,B,rfl,sB,h⟩;have er1:SqL K J r1 (row.map V.int):=SqL.of (h.sm _ _ (sB _ _ er));have et1:SqL K J t1 (t0.map V.int):=SqL.of (h.sm _ _ (sB _ _ et));have epk1:SqL K J pk (xs.map V.int):=SqL.of (h.sm _ _ (sB _ _ epk));have eS:(((nj (i+1)).map dF).map V.int)=(((nj i).map dF).map V.int)++[V.int (dF i)]:=by rw [oK,Jg,Jg];rfl
  have lS:(((nj i).map dF).map V.int).length<sizeLine:=by rw [Je,Je,pf];exact nk (show i<=900 by omega) (by decide)
  have fin:∀ B2 J2,Same B B2->Hd B2 [(dh,.lst ((((nj i).map dF).map V.int)++[V.int (dF i)]))] J2->∃ (u:Jk) (B':Hp),([rq a,iq n,rq r1,O,rq t1,rq pk,iq last,rq st,Z (.bl pb),rq dh,iq (0+(i:Int)),O,O,O,O,O,O]:St)=[rq a,iq n,rq r1,O,rq t1,rq pk,iq last,rq st,Z (.bl pb),rq dh,u,O,O,O,O,O,O]/\Same H8 B'/\Hd B' [(dh,.lst (((nj (i+1)).map dF).map V.int))] J2:=λB2 J2 s2 h2=>⟨_,B2,Y,sB.trans s2,by rw [eS];exact h2⟩;have no:(¬ (pb=true/\row.getD i 0=0))->dF i=dueC xs last xs.length (row.getD i 0):=λz=>if_neg z;have yes:(pb=true/\row.getD i 0=0)->dF i=t0.getD i 0:=λz=>if_pos z;refine ⟨_,Y,_,Y,?_⟩;by_cases z:pb=true
  .rw [if_pos z]
   refine ⟨_,Y,_,Y,r1,_,_,_,Y,Y,er1,xc i (by omega) (by omega),Y,_,Y,yw (λy=>?_) (λy=>?_)⟩
   .have y:row.getD i 0=0:=V.int.inj (of_decide_eq_true y)
    refine ⟨_,Y,.inl ⟨Y,_,h.lst 0 rfl⟩,_,Y,_,Y,t1,_,_,_,Y,Y,et1,xc i (by omega) (by omega),dh,_,_,Y,Y,h.get 0 rfl,lS,?_⟩;refine fin B _ (Same.refl _) ?_;rw [yes ⟨z,y⟩];exact h.put 0 rfl
   .have y:¬ row.getD i 0=0:=λw=>y (decide_eq_true (congrArg V.int w))
    refine ⟨_,Y,.inl ⟨Y,_,h.lst 0 rfl⟩,_,Y,_,Y,_,Y,_,Y,r1,_,_,_,Y,Y,er1,xc i (by omega) (by omega),pk,xs,last,_,Y,epk1,x6,λJ2 s2=>?_⟩;obtain ⟨B2,sB2,h2,_⟩:=h.over s2;refine ⟨dh,_,_,Y,Y,h2.get 0 rfl,lS,?_⟩;refine fin B2 _ sB2 ?_;rw [no (λw=>y w.2)];exact h2.put 0 rfl
  .rw [if_neg z]
   refine xt ?_;refine ⟨_,Y,.inl ⟨Y,_,h.lst 0 rfl⟩,_,Y,_,Y,_,Y,_,Y,r1,_,_,_,Y,Y,er1,xc i (by omega) (by omega),pk,xs,last,_,Y,epk1,x6,λJ2 s2=>?_⟩;obtain ⟨B2,sB2,h2,_⟩:=h.over s2;refine ⟨dh,_,_,Y,Y,h2.get 0 rfl,lS,?_⟩;refine fin B2 _ sB2 ?_;rw [no (λw=>z w.1)];exact h2.put 0 rfl
 clear h9;rintro σ H9 ⟨u,B,rfl,sB,h⟩;have s9:=sB.trans h.sm;have edh:H9 dh=Z (.lst (((nj n).map dF).map V.int)):=h.get 0 rfl;replace hS:=zw hS s9;replace er:=s9 _ _ er;replace et:=s9 _ _ et;replace hst:=hst.same s9;replace sA:=sA.trans s9;clear s9 h sB epk;refine ⟨λσ J=>∃ (pr dp la lb lc:Ad),σ=[rq a,iq n,rq r1,O,rq t1,rq pk,iq last,rq st,Z (.bl pb),rq dh,u,rq pr,O,O,O,O,O]/\Same H9 J/\J pr=Z (.ins q.pr dp (prFl la lb lc))/\J la=Z (.lst ([(n:Int),n].map V.int))/\J lc=Z (.lst (([st]:Jc).map V.ref)),?_,?_⟩
 .clear sA
  have sA:Same H9 H9:=Same.refl _;refine ⟨_,Y,_,Y,szU 2,λl1 nl1=>?_⟩;generalize hX:upd _ _ _=G1;obtain ⟨sX,el1⟩:=Yq hX nl1;replace sA:=sA.trans sX;replace edh:=sX _ _ edh;clear hX sX;refine ⟨szU 0,λl2 nl2=>?_⟩;generalize hX:upd _ _ _=G2;obtain ⟨sX,el2⟩:=Yq hX nl2;replace sA:=sA.trans sX;replace el1:=sX _ _ el1;clear hX sX;refine ⟨_,Y,szU 1,λl3 nl3=>?_⟩;generalize hX:upd _ _ _=G5;obtain ⟨sX,el3⟩:=Yq hX nl3;replace sA:=sA.trans sX;replace el1:=sX _ _ el1;replace el2:=sX _ _ el2;clear hX sX;refine λpr dpr n1 n2 n3=>?_;have S4:Same G5 (upd G5 dpr (.own pr)):=zu (Same.refl _) n2;have h4:Hd (upd G5 dpr (.own pr)) [(pr,.ins q.pr dpr [])] (upd (upd G5 dpr (.own pr)) pr (.ins q.pr dpr [])):=Hd.base.new (by rw [zj (oQ n3)];exact n1);refine ⟨_,[],pr,dpr,l1,l2,l3,_,_,_,Y,h4,SqL.of (S4 _ _ el1),SqL.of (S4 _ _ el2),SqL.of (S4 _ _ el3),λB9 J9 la lb lc s9 h9 a1 a2 a3 a4=>⟨Y,?_⟩⟩;exact ⟨pr,dpr,la,lb,lc,Y,((sA.trans S4).trans s9).trans h9.sm,h9.sm _ _ a4,h9.sm _ _ a1,h9.sm _ _ a3⟩
 rintro σ H4 ⟨pr,dp,la,lb,lc,rfl,s4,epr,ela,elc⟩;replace hS:=zw hS s4;replace er:=s4 _ _ er;replace et:=s4 _ _ et;replace edh:=s4 _ _ edh;replace hst:=hst.same s4;replace sA:=sA.trans s4;clear s4;refine ⟨szU 4,λlg nlg=>?_⟩;generalize hX:upd _ _ _=H5;obtain ⟨sX,elg⟩:=Yq hX nlg;replace sA:=sA.trans sX;replace hS:=zw hS sX;replace er:=sX _ _ er;replace et:=sX _ _ et;replace edh:=sX _ _ edh;replace epr:=sX _ _ epr;replace ela:=sX _ _ ela;replace elc:=sX _ _ elc;replace hst:=hst.same sX;clear hX sX
 obtain ⟨g,hg,hat⟩:∃ g:Nat,(g=0∨g=1∨g=2∨g=4)/\atI [V.int 0,V.int 1,V.int 2,V.int 4] (ns.getD (1:Int).toNat 0 / 2 % 4)=Z (.int (g:Int)):=by
  have:=mod4 (ns.getD (1:Int).toNat 0 / 2);rcases this with e | e | e | e <;> rw [e]
  .exact ⟨0,.inl rfl,Y⟩
  .exact ⟨1,.inr (.inl rfl),Y⟩
  .exact ⟨2,.inr (.inr (.inl rfl)),Y⟩
  .exact ⟨4,.inr (.inr (.inr rfl)),Y⟩
 refine ⟨_,Y,a,ns,1,Y,hS,by decide,_,_,Y,Y,⟨by decide,by decide⟩,_,_,Y,Y,(by show (0:Int)<4;decide),lg,_,_,.int (g:Int),Y,Y,SqL.of elg,hat,?_⟩;clear elg;obtain ⟨sh,sc',sd⟩:hF F1<=xs.length+2/\cN F1<=8+20*xs.length/\cD F1<=xs.length+1:=zaz xs last xs.length;have ff:FitS 9 (.let_ 0 F1 (xV pb)):=⟨⟨Zt _ _ _,by show hF F1<=9;omega⟩,λf e=>by rw [XY e];exact ⟨trivial,nK _⟩⟩
 have cT2:cT (xV pb)<=2:=by
  unfold xV
  split
  .exact m8 _
  .exact nK _
 have fa:FitAll 9 [(n:Int),n] [.let_ 0 F1 (xV pb)]:=⟨λst' h=>by
  rw [mV.mp h];exact ⟨ff,⟨(XB _ _ _).1,(λf e=>by rw [XY e];exact (Yw (n:=n)).1),by show 0<2;decide⟩,by show cN F1+1+cT (xV pb)<=400;omega⟩⟩
 have cs400:cS (.let_ 0 F1 (xV pb))<=140:=by show cN F1+1+cT (xV pb)<=140;omega
 have c9:∀ gr,(yG [(n:Int),n] gr [.let_ 0 F1 (xV pb)] 0).length<=900:=λgr=>by
  show (Stp.code _ _ _ _++[]).length<=900;rw [q8y];have:=code_len [(n:Int),n] ((Stp.let_ 0 F1 (xV pb)).grp gr) ff 0;omega
 have hSt1:∀ {J:Hp},Same H5 J->StepsAt c q J [st] [.let_ 0 F1 (xV pb)]:=λsJ=>⟨Y,λi s' st' x y=>by
  match i,x,y with
  | 0,x,y=>cases x;cases y;exact hst.same sJ
  | i+1,x,y=>cases x⟩
 refine ⟨_,Y,pr,dp,la,lb,lc,[st],[.let_ 0 F1 (xV pb)],[(n:Int),n],0,Y,epr,SqL.of ela,SqL.of elc,hSt1 (Same.refl _),fa,c9 0,.inl rfl,λH6 cd cs s6 ecd cC=>?_⟩;refine ⟨λσ J=>∃ (cd:Ad) (cs:Jc),σ=[rq a,iq n,rq r1,O,rq t1,rq pk,iq last,rq st,Z (.bl pb),rq dh,u,rq pr,iq g,rq cd,O,O,O]/\Same H5 J/\J cd=Z (.lst (cs.map V.ref))/\CodeAt J cs (yG [(n:Int),n] g [.let_ 0 F1 (xV pb)] 0),?_,?_⟩
 .refine ⟨_,Y,Y,_,Y,yw (λz=>?_) (λz=>?_)⟩
  .refine ⟨_,Y,_,Y,pr,dp,la,lb,lc,[st],[.let_ 0 F1 (xV pb)],[(n:Int),n],g,Y,s6 _ _ epr,SqL.of (s6 _ _ ela),SqL.of (s6 _ _ elc),hSt1 s6,fa,c9 g,hg,λH7 cd2 cs2 s7 ecd2 cC2=>?_⟩
   exact ⟨cd2,cs2,Y,s6.trans s7,ecd2,cC2⟩
  .have z:g=0:=by
    by_cases y:g=0
    .exact y
    .exfalso
     refine z ?_;rw [tR,decide_eq_false_iff_not];intro w;exact y (by have:=V.int.inj w;omega)
   subst z;exact ⟨cd,cs,Y,s6,ecd,cC⟩
 clear s6 ecd cC cs cd H6;rintro σ H6 ⟨cd,cs,rfl,s6,ecd,cC⟩;replace hS:=zw hS s6;replace er:=s6 _ _ er;replace et:=s6 _ _ et;replace edh:=s6 _ _ edh;replace sA:=sA.trans s6;clear s6 epr ela elc hst hSt1 fa;refine ⟨_,Y,a,ns,1,Y,hS,by decide,_,_,Y,Y,⟨by decide,by decide⟩,_,_,Y,Y,(by show (0:Int)<9;decide),_,_,Y,Y,?_⟩;obtain ⟨L,eL⟩:∃ L:Nat,1+ns.getD (1:Int).toNat 0 / 8 % 9=L:=⟨(1+ns.getD (1:Int).toNat 0 / 8 % 9).toNat,by omega⟩;rw [eL];have L9:1<=L/\L<=9:=by omega
 obtain ⟨nd',ed⟩:∃ L:Nat,ns.getD (0:Int).toNat 0 / 9 % 5=L:=⟨(ns.getD (0:Int).toNat 0 / 9 % 5).toNat,by omega⟩;refine ⟨_,Y,_,Y,a,ns,0,Y,hS,by decide,_,_,Y,Y,⟨by decide,by decide⟩,_,_,Y,Y,(by show (0:Int)<5;decide),?_⟩;rw [ed];refine ⟨a,ns,3,nd',Y,hS,hn,by decide,by decide,by omega,λH7 du dus ld _ s7 _ edu=>?_⟩;replace er:=s7 _ _ er;replace et:=s7 _ _ et;replace edh:=s7 _ _ edh;replace sA:=sA.trans s7;replace ecd:=s7 _ _ ecd;replace cC:=cC.same s7;clear s7;refine ⟨_,Y,_,Y,_,Y,szU 2,λln nln=>?_⟩;generalize hX:upd _ _ _=H8;obtain ⟨sX,eln⟩:=Yq hX nln;replace sA:=sA.trans sX;replace er:=sX _ _ er;replace et:=sX _ _ et;replace edh:=sX _ _ edh;replace ecd:=sX _ _ ecd;replace cC:=cC.same sX;replace edu:=sX _ _ edu;clear hX sX;refine ⟨_,Y,_,Y,t1,r1,_,_,Y,Y,et,er,(by rw [Je,Je];exact mL (show _<=1000 by omega) (szU 1000)),λce nce=>?_⟩;rw [← rP];generalize hX:upd _ _ _=H10;obtain ⟨sX,ece⟩:=Yq hX nce;replace sA:=sA.trans sX;replace er:=sX _ _ er;replace edh:=sX _ _ edh;replace ecd:=sX _ _ ecd;replace cC:=cC.same sX;replace edu:=sX _ _ edu;replace eln:=sX _ _ eln;clear hX sX;refine ⟨_,Y,_,Y,szU 0,λpc npc=>?_⟩;generalize hX:upd _ _ _=H11;obtain ⟨sX,epc⟩:=Yq hX npc;replace sA:=sA.trans sX;replace er:=sX _ _ er;replace edh:=sX _ _ edh;replace ecd:=sX _ _ ecd;replace cC:=cC.same sX;replace edu:=sX _ _ edu;replace eln:=sX _ _ eln;replace ece:=sX _ _ ece;clear hX sX;have LN2:(([(n:Int),n]:J6).getD 0 0)=n:=rfl
 have hs:StepOk [] 0 [(n:Int),n] (([(n:Int),n]:J6).getD 0 0) (xV pb) F1:=⟨Zt _ _ _,(by
  unfold xV
  split
  .exact ⟨trivial,nK _⟩
  .trivial),by omega,zfz,by rw [LN2];omega,by rw [LN2];omega,λcs e e0 e1=>zee n9.1 e0 (by rw [LN2] at e1;exact e1) _ x6 klast _,λf e=>(by rw [XY e];exact λcs e e0 e1=>zdg n9.1 e0 (by rw [LN2] at e1;exact e1)),λv hv=>by
  rcases mM.mp hv with rfl | hv
  .omega
  .rw [mV.mp hv];omega,λ_ _ _=>rfl⟩
 have csum:((t0++row).length:Int)=([(n:Int),n]:J6).sum:=by
  rw [Jf,lt,lr];show ((n+n:Nat):Int)=(n:Int)+((n:Int)+0);omega
 obtain ⟨kk,M,run,fin⟩:=run_let (Lx:=Lx) (L:=L) (my:=g) (dus:=dus) (pk:=[]) (tg:=0) lx hSt hs hg csum (λx hx=>(oO.mp hx).elim (kt x) (krk x)) (by show 0<2;decide) (XB (n:=n) _ _ _).2 (λf e=>by rw [XY e];exact (Yw (n:=n)).2) L9.1 (by omega) (λg'=>by
  have b1:=yg [(n:Int),n] (8 / g') F1 0 0 0 0 (Zt _ _ _);have b1':=yg [(n:Int),n] (8 / g') F1 0 1 0 0 (Zt _ _ _);rw [LN2]
  have b2:((yx [(n:Int),n] (8 / g') (xV pb) F1).length:Int)+1<=200:=by
   have:cN F1<=8+20*xs.length:=sc';unfold xV
   split
   .show (((mkF [(n:Int),n] (8 / g') (.cell 1) 0 0 0 0++[[V.str "choose",V.int 1,V.int 0,V.int 0]]++mkF [(n:Int),n] (8 / g') F1 0 1 0 0).length:Nat):Int)+1<=200
    have e1:(mkF [(n:Int),n] (8 / g') (.cell 1) 0 0 0 0).length=1:=rfl;have e2:([[V.str "choose",V.int 1,V.int 0,V.int 0]]:List (Jj)).length=1:=rfl;rw [Jf,Jf,e1,e2];omega
   .show ((mkF [(n:Int),n] (8 / g') F1 0 0 0 0).length:Int)+1<=200
    omega
  have b3:2*(n:Int)*(((yx [(n:Int),n] (8 / g') (xV pb) F1).length:Int)+1)<=2*(n:Int)*200:=Int.mul_le_mul_of_nonneg_left b2 (by omega);omega)
 have gv:∀ e,e<n->YL [] 0 [(n:Int),n] (t0++row) (xV pb) F1 e=.val (dF e)∨(YL [] 0 [(n:Int),n] (t0++row) (xV pb) F1 e=.pass/\dF e=t0.getD e 0):=λe he=>by
  have ce:=cell_ev (row:=row) (cl:=F2.callK [] ⟨[(n:Int),n],t0++row,(e:Int),[]⟩ 0) lt he;have ne:F2.worth [] 0 ⟨[(n:Int),n],t0++row,(e:Int),[]⟩ F1=.ok (dueC xs last xs.length (row.getD e 0)):=zef ce (kr e he).1 (kr e he).2 xs x6 last xs.length (m8 _);have ce:F2.worth [] 0 ⟨[(n:Int),n],t0++row,(e:Int),[]⟩ (.cell 1)=.ok (row.getD e 0):=ce;unfold YL;by_cases z:pb=true
  .have et:xV pb=Z (.cell 1):=if_pos z
   have eo:Xo ((xV pb).map λt=>F2.worth [] 0 ⟨[(n:Int),n],t0++row,(e:Int),[]⟩ t) (F2.worth [] 0 ⟨[(n:Int),n],t0++row,(e:Int),[]⟩ F1)=if row.getD e 0=0 then .pass else .val (dueC xs last xs.length (row.getD e 0)):=by
    rw [et,ne];show Xo (Z (F2.worth [] 0 ⟨[(n:Int),n],t0++row,(e:Int),[]⟩ (.cell 1))) _=_;rw [ce];rfl
   rw [eo];by_cases y:row.getD e 0=0
   .exact .inr ⟨if_pos y,if_pos ⟨z,y⟩⟩
   .refine .inl ?_
    have:dF e=dueC xs last xs.length (row.getD e 0):=if_neg (λw=>y w.2);rw [this];exact if_neg y
  .have et:xV pb=O:=if_neg z
   rw [et,ne];refine .inl ?_;have:dF e=dueC xs last xs.length (row.getD e 0):=if_neg (λw=>z w.1);rw [this];rfl
 obtain ⟨rf,ce'⟩:M.rq_=O/\M.cells=(nj n).map dF++row:=by
  rcases fin with ⟨h1,h2,_⟩ | ⟨e,z,h1,h2,_⟩
  .refine ⟨h1,?_⟩
   rw [h2,LN2,q0z];exact lay_let lt _ dF gv
  .rcases gv e (by rw [LN2] at h1;omega) with w | ⟨w,_⟩
   .rw [w] at h2;cases h2
   .rw [w] at h2;cases h2
 refine ⟨cd,ln,ce,du,pc,cs,_,[(n:Int),n],t0++row,dus,[],L,kk,M,Y,SqL.of ecd,cC,SqL.of eln,SqL.of ece,SqL.of edu,SqL.of epc,by omega,by omega,by show 2<=1000;decide,mL (c9 g) (by decide),run,λB12 A12 H12 t s12 m12 et'=>?_⟩;have sG:=s12.trans m12.h.sm;replace er:=sG _ _ er;replace edh:=sG _ _ edh;have et2:=m12.h.sm _ _ et';have eAC:H12 A12.aC=Z (.lst (M.cells.map V.int)):=m12.h.get (i:=1) (a:=A12.aC) rfl;have rfz:A12.rf=.non:=by have:=m12.bb.rf;rw [rf] at this;exact this
 rw [rfz] at et2;refine ⟨_,Y,_,Y,_,Y,dh,r1,_,_,Y,Y,edh,er,(by rw [Je,Je,Je,pf];exact mL (show _<=1000 by omega) (szU 1000)),λdd ndd=>?_⟩;rw [← rP,← ce'];generalize hX:upd _ _ _=H14;obtain ⟨s14,e14⟩:=Yq hX ndd;exact ⟨t,A12.aC,dd,.non,.non,_,M.cells,O,Y,s14 _ _ et2,s14 _ _ eAC,SqL.of e14,Y,Y,(λ_ _ _ e=>by cases e),k _⟩
def Lx:Lex:=⟨λw f=>(w="number"/\f=numM)∨(w="load"/\f=YS)∨(w="spread"/\f=Ze)∨(w="op"/\f=opM)∨(w="bring"/\f=Z3)∨(w="pick"/\f=YQ),λw f=>(w="save"/\f=Y8)∨(w="store"/\f=xI)∨(w="trim"/\f=zab)∨(w="stop"/\f=YO)∨(w="choose"/\f=yv false)∨(w="other"/\f=yv true),λw f=>(w="begin"/\f=zdh)∨(w="next"/\f=nextW)⟩
def lx_r:LxR Lx:=⟨⟨.inl ⟨Y,Y⟩,.inr (.inl ⟨Y,Y⟩),.inr (.inr (.inl ⟨Y,Y⟩)),.inr (.inr (.inr (.inl ⟨Y,Y⟩))),.inl ⟨Y,Y⟩,.inr (.inr (.inr (.inr (.inl ⟨Y,Y⟩)))),.inr (.inr (.inr (.inr (.inl ⟨Y,Y⟩)))),.inr (.inr (.inr (.inr (.inr ⟨Y,Y⟩)))),.inr (.inr (.inr (.inr (.inr ⟨Y,Y⟩))))⟩,⟨.inr (.inr (.inl ⟨Y,Y⟩)),.inr (.inr (.inr (.inl ⟨Y,Y⟩)))⟩,.inl ⟨Y,Y⟩,.inr ⟨Y,Y⟩,.inr (.inr (.inr (.inr (.inl ⟨Y,Y⟩))))⟩
def lx_store:Lx.E "store" xI:=.inr (.inl ⟨Y,Y⟩)
end K45
namespace K45
open PySem L2
def own_in {K:Fg} {h₀:Heap} {mg:J0} {x:Str} {C:Ad} {bmB:J8} {newId:String} (X:K.In h₀) (hm:mg x=Z (.ref C)) (q:PySem.W.excIn K C bmB newId=true):PyProof.Rows.OwnCls x C bmB newId mg h₀:=by
 refine ⟨hm,?_⟩;unfold PySem.W.excIn at q
 split at q
 .rename_i dd cd sl ho
  split at q
  .rename_i C' bm k0 k1 k2 k3 n k5 hm hs
   simp only [oo,beq_iff_eq,tR] at q;obtain ⟨⟨⟨⟨⟨rfl,rfl⟩,hdel⟩,ht⟩,hok⟩,hni⟩:=q;obtain ⟨nm,bs,mro,ns,qn,hd,sn,sub,ab,col,del⟩:=cd;dsimp only at hm hdel hok hni;subst hm hdel
   obtain rfl:sl=#[k0,k1,k2,k3,Z (.builtin n),k5]:=by
    obtain ⟨l⟩:=sl;simp only at hs;rw [hs]
   exact ⟨bm,ns,nm,qn,bs,hd,sn,sub,ab,col,dd,k0,k1,k2,k3,k5,_,X _ _ ho,.of_isNs (PySem.W.isNs_of_in X hok),PySem.W.nsMap_none_of_in X hok hni,PySem.W.tail_of_in X ht⟩
  .cases q
 .cases q
theorem uc {n:Nat}:∀ {us:J8},us.length=n+1->∃ a r,us=a::r/\r.length=n
 | a::r,h=>⟨a,r,Y,pd h⟩
def us1 {p:J8->Prop} (h:∀ a0,p [a0]):∀ us:J8,us.length=1->p us:=by
 intro us e;obtain ⟨a0,u0,rfl,e0⟩:=uc e;cases mS e0;exact h _
def us2 {p:J8->Prop} (h:∀ a0 a1,p [a0,a1]):∀ us:J8,us.length=2->p us:=by
 intro us e;obtain ⟨a0,u0,rfl,e0⟩:=uc e;obtain ⟨a1,u1,rfl,e1⟩:=uc e0;cases mS e1;exact h _ _
def us3 {p:J8->Prop} (h:∀ a0 a1 a2,p [a0,a1,a2]):∀ us:J8,us.length=3->p us:=by
 intro us e;obtain ⟨a0,u0,rfl,e0⟩:=uc e;obtain ⟨a1,u1,rfl,e1⟩:=uc e0;obtain ⟨a2,u2,rfl,e2⟩:=uc e1;cases mS e2;exact h _ _ _
def us4 {p:J8->Prop} (h:∀ a0 a1 a2 a3,p [a0,a1,a2,a3]):∀ us:J8,us.length=4->p us:=by
 intro us e;obtain ⟨a0,u0,rfl,e0⟩:=uc e;obtain ⟨a1,u1,rfl,e1⟩:=uc e0;obtain ⟨a2,u2,rfl,e2⟩:=uc e1;obtain ⟨a3,u3,rfl,e3⟩:=uc e2;cases mS e3;exact h _ _ _ _
def us5 {p:J8->Prop} (h:∀ a0 a1 a2 a3 a4,p [a0,a1,a2,a3,a4]):∀ us:J8,us.length=5->p us:=by
 intro us e;obtain ⟨a0,u0,rfl,e0⟩:=uc e;obtain ⟨a1,u1,rfl,e1⟩:=uc e0;obtain ⟨a2,u2,rfl,e2⟩:=uc e1;obtain ⟨a3,u3,rfl,e3⟩:=uc e2;obtain ⟨a4,u4,rfl,e4⟩:=uc e3;cases mS e4;exact h _ _ _ _ _
def us6 {p:J8->Prop} (h:∀ a0 a1 a2 a3 a4 a5,p [a0,a1,a2,a3,a4,a5]):∀ us:J8,us.length=6->p us:=by
 intro us e;obtain ⟨a0,u0,rfl,e0⟩:=uc e;obtain ⟨a1,u1,rfl,e1⟩:=uc e0;obtain ⟨a2,u2,rfl,e2⟩:=uc e1;obtain ⟨a3,u3,rfl,e3⟩:=uc e2;obtain ⟨a4,u4,rfl,e4⟩:=uc e3;obtain ⟨a5,u5,rfl,e5⟩:=uc e4;cases mS e5;exact h _ _ _ _ _ _
theorem all_mk {l:PySem.W.OpenLaw} {w:World} {K:Fg} {h:Heap} {mg:J0} {fa j9 iJ gO gP cK cL bY eP dS dU cM bt aQ bB kc gW gX cO cu fP cx fQ fR gY iK fS d8 fU fV aE aV aW cP aX aY aG fW cy fX fY fZ eQ gZ g7 iL jQ bZ b5 eR bC bG b6 bH eU d9 bI b7 dk kP iM gc gd jq jr ju jv jR kQ iN aj av af ae ag ah ad ak ao au bp:Ad} {TS TE TW aI aJ aA aZ bJ cQ b8 bu cR bK bL b9 dn bv bw aw g8 eV eW:Ad} {tB tM tN tT tFC:Tok} {esS esE esW:Array DictEntry} {nS nE nW:Nat} {CN SG:Ad} {tH:Tok} {esG:Array DictEntry} {nG:Nat} {lB lC lD lH:Option Ad} {lI lJ:Array (Ja)} {lK lL lM lO kf lP lQ lR lU lV kg lX:Vl} {ly:Ad} {kR:Vl} {kT:Option Ad} {kU:Array (Ja)} {lY:Nat} {lA:Ad} {kX:Vl} {kY:Option Ad} {kZ:Array (Ja)} {lZ:Nat} {gQ:Tok} (X:K.In h) (G:h.Ns mW mg) (hfa:mg "law"=Z (.ref fa))
  (kh:DH K "kept" zcs j9)
  (iO:DH K "plus" zcr iJ)
  (gR:DH K "minus" X2 gO)
  (gS:DH K "times" X1 gP)
  (cU:DH K "refuse_nought" xh cK)
  (cV:DH K "quotient" Yf cL)
  (cf:DH K "remainder" ZC bY)
  (eX:DH K "lesser" Y9 eP)
  (dW:DH K "greater" YC dS)
  (dX:DH K "is_less" YB dU)
  (cW:DH K "is_equal" Yg cM)
  (bz:DH K "bits_of_both" xx bt)
  (a9:DH K "bits_of_either" yZ aQ)
  (bD:DH K "bits_of_one" xN bB)
  (ki:DH K "done" zct kc)
  (hJ:DH K "start_of" Yd gW)
  (hR:DH K "count_of" Yh gX)
  (cX:DH K "seats_for_two" yE cO)
  (cz:DH K "seats_for_call" yT cu)
  (gf:DH K "seats_for" xW fP)
  (cA:DH K "seats_for_step" yS cx)
  (gh:DH K "cell_step" ZQ fQ)
  (gi:DH K "leaf_step" ZL fR)
  (hU:DH K "make_two" Zv gY)
  (iP:DH K "make_at" Yz iK)
  (gj:DH K "make_pair" xX fS)
  (eA:DH K "make_choice" xg d8)
  (gk:DH K "make_call" ZJ fU)
  (gm:DH K "make_form" xY fV)
  (aK:DH K "numbers_written" yI aE)
  (ba:DH K "numbers_loaded" yX aV)
  (bc:DH K "numbers_spread" yV aW)
  (cY:DH K "number_joined" xi cP)
  (be:DH K "numbers_joined" yY aX)
  (bf:DH K "numbers_picked" yW aY)
  (aO:DH K "numbers_brought" yJ aG)
  (gn:DH K "lays_seat" ZM fW)
  (cB:DH K "play_seat_step" yU cy)
  (gq:DH K "may_fault" ZH fX)
  (gs:DH K "group_for" ZP fY)
  (gw:DH K "make_test" ZI fZ)
  (eY:DH K "make_value" Zi eQ)
  (hZ:DH K "round_of" Ye gZ)
  (ia:DH K "turns_of" YY g7)
  (iQ:DH K "code_of" YD iL)
  (kj:mG K mW "made"=Z (Z (.ref jQ))) (km:K.lookup jQ=Z ⟨lK,lB,.func (o4 "made" "made" (yj Xx) (zS Xx) (ze Xx) (.ref lA) lL lM lO lC kf lP),lI⟩) (ko:oX K kf "made"=true) (kq:mR K (.ref jQ)=true) (jw:K.lookup lA=Z ⟨kX,kY,.seq #[.int 0 gQ] lZ,kZ⟩)
  (cg:DH K "play_trim" ZD bZ)
  (cj:DH K "play_stop" ZE b5)
  (eZ:DH K "lay_chosen" Zj eR)
  (bE:DH K "play_choose" xM bC)
  (bM:DH K "play_other" Zg bG)
  (cm:DH K "play_save" ZF b6)
  (bN:DH K "play_store" Zf bH)
  (fb:DH K "has_effect" Zk eU)
  (eC:DH K "play_effect" xL d9)
  (bO:DH K "play_begin" Zh bI)
  (cp:DH K "play_next" ZG b7)
  (dr:DH K "place_behind" xw dk)
  (k6:DH K "ran" s_ran kP)
  (iR:DH K "_law_whole" YA iM)
  (gx:DH K "_law_cell_at" ZO gc)
  (gy:DH K "_law_kept_by" ZN gd)
  (jx:DH K "_law_some" Xb jq)
  (jy:DH K "_law_told" Xa jr)
  (jz:DH K "_law_side" Xc ju)
  (jA:DH K "_law_nest" Xd jv)
  (jS:DH K "_law_due" X3 jR)
  (k8:DH K "law" zan kQ)
  (iS:mG K mW "Boxes"=Z (Z (.ref aj))) (iT:CH K aj)
  (cZ:FN K aj ["lanes","numbers"])
  (ie:oj K aj=true) (ig:mR K (.ref aj)=true)
  (fg:MH K aj "__init__" "Boxes.__init__" Zn)
  (c7:MH K aj "spot_of" "Boxes.spot_of" xj)
  (gA:MH K aj "lay" "Boxes.lay" ZV)
  (bT:MH K aj "number_at" "Boxes.number_at" yK)
  (jB:mG K mW "Feed"=Z (Z (.ref av))) (jC:CH K av)
  (dY:FN K av ["numbers","at"])
  (iU:oj K av=true) (iV:mR K (.ref av)=true)
  (gB:MH K av "__init__" "Feed.__init__" ZT)
  (fh:MH K av "taken" "Feed.taken" Zm)
  (iW:mG K mW "Bench"=Z (Z (.ref af))) (iX:CH K af)
  (ac:FN K af ["lengths","starts","cells","lanes","boxes","masks","slots","dust","picks","touches","at","opened","many","group","base","begun","width","faults","cut","carried","raised","turns","refusal"])
  (ij:oj K af=true) (im:mR K (.ref af)=true)
  (fj:MH K af "__init__" "Bench.__init__" Zo)
  (bP:MH K af "open_round" "Bench.open_round" yA)
  (bF:MH K af "begin_strip" "Bench.begin_strip" yu)
  (bA:MH K af "active_under" "Bench.active_under" yr)
  (bQ:MH K af "numbers_in" "Bench.numbers_in" yB)
  (cE:MH K af "lay_seat" "Bench.lay_seat" y6)
  (cF:MH K af "lay_mask" "Bench.lay_mask" y8)
  (eE:MH K af "touch" "Bench.touch" xR)
  (bU:MH K af "read_cell" "Bench.read_cell" yM)
  (bR:MH K af "write_cell" "Bench.write_cell" yz)
  (bj:MH K af "address_in_slot" "Bench.address_in_slot" yi)
  (bV:MH K af "read_slot" "Bench.read_slot" yL)
  (bS:MH K af "write_slot" "Bench.write_slot" yy)
  (ip:mG K mW "Number"=Z (Z (.ref ae))) (iu:CH K ae)
  (cr:FN K ae ["number"])
  (gC:oj K ae=true) (gD:mR K (.ref ae)=true)
  (eG:MH K ae "__init__" "Number.__init__" xO)
  (jD:mG K mW "Cell"=Z (Z (.ref ag))) (jE:CH K ag)
  (dZ:FN K ag ["row"])
  (iY:oj K ag=true) (iZ:mR K (.ref ag)=true)
  (gE:MH K ag "__init__" "Cell.__init__" ZU)
  (jF:mG K mW "Pair"=Z (Z (.ref ah))) (jG:CH K ah)
  (ax:FN K ah ["sign","left","right"])
  (i6:oj K ah=true) (i7:mR K (.ref ah)=true)
  (gF:MH K ah "__init__" "Pair.__init__" ZR)
  (iw:mG K mW "Choice"=Z (Z (.ref ad))) (ix:CH K ad)
  (aq:FN K ad ["test","left","right"])
  (gG:oj K ad=true) (gH:mR K (.ref ad)=true)
  (eI:MH K ad "__init__" "Choice.__init__" xQ)
  (jT:mG K mW "Let"=Z (Z (.ref ak))) (jU:CH K ak)
  (az:FN K ak ["target","value","test"])
  (jH:oj K ak=true) (jI:mR K (.ref ak)=true)
  (l0:ng K (.ref ak) "__init__"=Z (Z (.ref iN))) (l8:tD K (.ref iN)=true) (ky:K.lookup iN=Z ⟨lQ,lD,.func (o4 "__init__" "Let.__init__" (yj xJ) (zS xJ) (ze xJ) (.ref ly) lR lU lV lH kg lX),lJ⟩) (kz:oX K kg "Let.__init__"=true) (kA:mR K (.ref iN)=true)
  (jJ:K.lookup ly=Z ⟨kR,kT,.seq #[.none] lY,kU⟩)
  (eJ:MH K ak "many_of" "Let.many_of" xP)
  (gI:mG K mW "Program"=Z (Z (.ref ao))) (gJ:CH K ao)
  (bh:FN K ao ["lengths","functions","steps"])
  (fk:oj K ao=true) (fm:mR K (.ref ao)=true)
  (dw:MH K ao "__init__" "Program.__init__" xy)
  (i8:mG K mW "Maker"=Z (Z (.ref au))) (i9:CH K au)
  (ay:FN K au ["lengths","functions","seats","code","free_slot"])
  (iy:oj K au=true) (iA:mR K (.ref au)=true)
  (fA:MH K au "__init__" "Maker.__init__" Zl)
  (dy:MH K au "put_by" "Maker.put_by" xz)
  (jV:mG K mW "Aim"=Z (Z (.ref bp))) (jW:CH K bp)
  (ar:FN K bp ["seat","mask","level","own"])
  (jK:oj K bp=true) (jL:mR K (.ref bp)=true)
  (iB:MH K bp "__init__" "Aim.__init__" Yi)
  (tb1:TB K mW [("SEAT_STEPS",TS),("EFFECTS",TE),("WAYS",TW),("numbers_of_here",aI),("numbers_shifted",aJ),("numbers_gathered",aA),("numbers_copied",aZ),("play_reach",bJ),("play_put",cQ),("play_fold",b8),("play_running",bu),("play_any",cR),("play_turns",bK),("play_quiet",bL),("play_till",b9),("At",dn),("Call",bv),("Here",bw),("Shifted",aw),("Put",g8),("Fold",eV),("Till",eW),("ByNought",CN),("SIGNS",SG)])
  (lS:K.lookup TS=Z ⟨.type "dict",O,.dict esS nS,#[]⟩)
  (kS:sS w.params esS.toList)
  (lE:K.lookup TE=Z ⟨.type "dict",O,.dict esE nE,#[]⟩)
  (kE:sS w.params esE.toList)
  (lW:K.lookup TW=Z ⟨.type "dict",O,.dict esW nW,#[]⟩)
  (kW:sS w.params esW.toList)
  (tb2:TB K TS [("number",aE),("here",aI),("load",aV),("spread",aW),("shift",aJ),("gather",aA),("op",aX),("pick",aY),("copy",aZ),("bring",aG)])
  (tb3:TB K TE [("reach",bJ),("trim",bZ),("stop",b5),("choose",bC),("other",bG),("save",b6),("store",bH),("put",cQ),("fold",b8),("running",bu),("any",cR)])
  (tb4:TN K TS ["reach","trim","stop","choose","other","save","store","put","fold","running","any","begin","next","turns","quiet","till"])
  (tb5:TB K TW [("begin",bI),("next",b7),("turns",bK),("quiet",bL),("till",b9)])
  (tb6:TN K TE ["begin","next","turns","quiet","till"])
  (loS:(TS == oU)=false)
  (loE:(TE == oU)=false)
  (ja:mE K (.type "int") (.type "int")=Z true)
  (iC:mE K (.type "int") (.type "bool")=Z false)
  (eK:mE K (.type "tuple") (.type "tuple")=Z true)
  (gK:mE K (.type "list") (.type "list")=Z true)
  (jb:mE K (.type "str") (.type "str")=Z true)
  (tb7:TN K mW ["isinstance","int","bool","str","list","tuple","len","range","sum","min","max","any","zip","dict"])
  (aB:mG K mW "MANY_BOXES"=Z (Z (.int 8 tB)))
  (aM:mG K mW "MOST_TOGETHER"=Z (Z (.int 4 tM)))
  (aN:mG K mW "MANY_MASKS"=Z (Z (.int 16 tN)))
  (aT:mG K mW "TEST_MASK"=Z (Z (.int 1 tT)))
  (aFC:mG K mW "FIRST_CHOICE_MASK"=Z (Z (.int 2 tFC)))
  (jc:ng K (.ref ae) "__class__"=Z (Z (.builtin "object.__class__")))
  (jd:pe K (.builtin "object.__class__") "__get__"=Z (Z (.builtin "getset_descriptor.__get__")))
  (je:pG K (.builtin "object.__class__")=Z true)
  (jf:rp K ae (.type "object")=Z true)
  (jX:ng K (.ref ag) "__class__"=Z (Z (.builtin "object.__class__")))
  (jY:pe K (.builtin "object.__class__") "__get__"=Z (Z (.builtin "getset_descriptor.__get__")))
  (jZ:pG K (.builtin "object.__class__")=Z true)
  (j2:rp K ag (.type "object")=Z true)
  (j3:ng K (.ref ah) "__class__"=Z (Z (.builtin "object.__class__")))
  (j4:pe K (.builtin "object.__class__") "__get__"=Z (Z (.builtin "getset_descriptor.__get__")))
  (j5:pG K (.builtin "object.__class__")=Z true)
  (j6:rp K ah (.type "object")=Z true)
  (jg:ng K (.ref ad) "__class__"=Z (Z (.builtin "object.__class__")))
  (jh:pe K (.builtin "object.__class__") "__get__"=Z (Z (.builtin "getset_descriptor.__get__")))
  (ji:pG K (.builtin "object.__class__")=Z true)
  (jj:rp K ad (.type "object")=Z true)
  (kB:ng K (.ref ak) "__class__"=Z (Z (.builtin "object.__class__")))
  (kD:pe K (.builtin "object.__class__") "__get__"=Z (Z (.builtin "getset_descriptor.__get__")))
  (kF:pG K (.builtin "object.__class__")=Z true)
  (kH:rp K ak (.type "object")=Z true)
  (fB:mE K (.ref ae) (.ref dn)=Z false)
  (dA:mE K (.ref ae) (.ref ah)=Z false)
  (cG:mE K (.ref ae) (.ref ad)=Z false)
  (dB:mE K (.ref ae) (.ref bv)=Z false)
  (cH:mE K (.ref ae) (.ref ae)=Z true)
  (dD:mE K (.ref ae) (.ref bw)=Z false)
  (dE:mE K (.ref ae) (.ref ag)=Z false)
  (bW:mE K (.ref ae) (.ref aw)=Z false)
  (iD:mE K (.ref ag) (.ref dn)=Z false)
  (fC:mE K (.ref ag) (.ref ah)=Z false)
  (dG:mE K (.ref ag) (.ref ad)=Z false)
  (fD:mE K (.ref ag) (.ref bv)=Z false)
  (dH:mE K (.ref ag) (.ref ae)=Z false)
  (fE:mE K (.ref ag) (.ref bw)=Z false)
  (fH:mE K (.ref ag) (.ref ag)=Z true)
  (de:mE K (.ref ag) (.ref aw)=Z false)
  (iE:mE K (.ref ah) (.ref dn)=Z false)
  (fI:mE K (.ref ah) (.ref ah)=Z true)
  (dJ:mE K (.ref ah) (.ref ad)=Z false)
  (fJ:mE K (.ref ah) (.ref bv)=Z false)
  (dL:mE K (.ref ah) (.ref ae)=Z false)
  (fK:mE K (.ref ah) (.ref bw)=Z false)
  (fL:mE K (.ref ah) (.ref ag)=Z false)
  (df:mE K (.ref ah) (.ref aw)=Z false)
  (fM:mE K (.ref ad) (.ref dn)=Z false)
  (dM:mE K (.ref ad) (.ref ah)=Z false)
  (cI:mE K (.ref ad) (.ref ad)=Z true)
  (dN:mE K (.ref ad) (.ref bv)=Z false)
  (cJ:mE K (.ref ad) (.ref ae)=Z false)
  (dP:mE K (.ref ad) (.ref bw)=Z false)
  (dQ:mE K (.ref ad) (.ref ag)=Z false)
  (bX:mE K (.ref ad) (.ref aw)=Z false)
  (iF:mE K (.ref ak) (.ref g8)=Z false)
  (iG:mE K (.ref ak) (.ref ak)=Z true)
  (gL:mE K (.ref ak) (.ref eV)=Z false)
  (gM:mE K (.ref ak) (.ref eW)=Z false)
  (md:PySem.W.excIn K CN [.type "ValueError",.type "Exception",.type "BaseException",.type "object"] "ValueError.__new__"=true)
  (j7:PySem.W.exmOne K (.ref CN) (.ref CN)=Z true)
  (aH:mG K mW "HALF"=Z (Z (.int 9223372036854775808 tH)))
  (lG:K.lookup SG=Z ⟨.type "dict",O,.dict esG nG,#[]⟩)
  (kG:sS w.params esG.toList)
  (tb8:TB K SG [("+",iJ),("-",gO),("*",gP),("/",cL),("rest",bY),("least",eP),("most",dS),("<",dU),("=",cM),("&",bt),("|",aQ),("^",bB)])
  : ∃ fd:og,(∀ (s:Sh) (v:Vl),BindsTo s fd ⟨[v],[]⟩ [("_law_script",v)])/\∀ base:Heap,K.In base->base.Ns mW mg->FnOk l.prog w K mg base CX0 37 fa fd ["_law_script"] (spLaw K):=by
 obtain ⟨lh,me,mh,kI,kJ,kK,kL,kM,kN,mi,lj,ll,lp⟩:=k8;have e:=hfa.symm.trans (PySem.W.mg_of X G lh);cases e;have dg:zk K mg "count_of" Yh ["steps"]:=hR.d X G;have br:zk K mg "seats_for_two" yE ["first","second","functions"]:=cX.d X G;have dj:zk K mg "make_two" Zv ["maker","first","first_aim","second","second_aim"]:=hU.d X G;have jk:zk K mg "code_of" YD ["program","steps","first","group"]:=iQ.d X G
 have kO:DefD K mg "made" Xx ["program","group"]:=⟨jQ,_,gQ,PySem.W.mg_of X G kj,(YH km ko kq jw),(YH km ko kq jw).binds (λ_ _ _ _ _ _ _ us hl=>by
  obtain ⟨a0,u0,rfl,e0⟩:=ucV (n:=1) (by simpa using hl);obtain ⟨a1,u1,rfl,e1⟩:=ucV e0;cases mS e1
  exact ⟨_,Y,Y⟩),(YH km ko kq jw).binds (λ_ _ _ _ _ _ _ us hl=>by
  obtain ⟨a0,u0,rfl,e0⟩:=ucV (n:=0) (by simpa using hl);cases mS e0;exact ⟨_,Y,Y⟩)⟩
 have eO:yq K ad "Choice.__init__" xQ ["self","test","left","right"]:=eI.i gG gH
 have iH:InitN K ak "Let.__init__" xJ ["self","target","value","test"]:=⟨iN,_,⟨jH,l0,l8,jI⟩,(YH ky kz kA jJ),(YH ky kz kA jJ).binds (λ_ _ _ _ _ _ _ us hl=>by
  obtain ⟨a0,u0,rfl,e0⟩:=ucV (n:=3) (by simpa using hl);obtain ⟨a1,u1,rfl,e1⟩:=ucV e0;obtain ⟨a2,u2,rfl,e2⟩:=ucV e1;obtain ⟨a3,u3,rfl,e3⟩:=ucV e2;cases mS e3
  exact ⟨_,Y,Y⟩),(YH ky kz kA jJ).binds (λ_ _ _ _ _ _ _ us hl=>by
  obtain ⟨a0,u0,rfl,e0⟩:=ucV (n:=2) (by simpa using hl);obtain ⟨a1,u1,rfl,e1⟩:=ucV e0;obtain ⟨a2,u2,rfl,e2⟩:=ucV e1;cases mS e2;exact ⟨_,Y,Y⟩)⟩
 have jM:Cls K aj:=iT.c;have j8:Cls K av:=jC.c;have jN:Cls K af:=iX.c;have d6:Cls K ae:=iu.c;have gT:Cls K ag:=jE.c;have gU:Cls K ah:=jG.c;have d7:Cls K ad:=ix.c;have jl:Cls K ak:=jU.c;have iI:Cls K ao:=gJ.c;have jO:Cls K au:=i9.c;have jo:Cls K bp:=jW.c;have mm:=λ{x:Str} {v:Vl} (q:mG K mW x=Z (Z v))=>PySem.W.mg_of X G q;have mz:=λ{x:Str} (q:mG K mW x=Z O)=>PySem.W.mg_none_of X G q;refine ⟨o4 "law" "law" (yj zan) (zS zan) (ze zan) .none kI kJ kK kL kM kN,λs v=>.of_eq rfl,λbase kb nb=>?_⟩;let c:MCs:=⟨aj,av,af⟩;let t:TabA:=⟨TS,TE,TW⟩;have BC:BCls K aj:=⟨jM,(cZ.g 0 rfl),(cZ.g 1 rfl)⟩;have FC:FCls K av:=⟨j8,(dY.g 0 rfl),(dY.g 1 rfl)⟩;have NC:NCls K af:=⟨jN,(ac.g 0 rfl),(ac.g 1 rfl),(ac.g 2 rfl),(ac.g 3 rfl),(ac.g 4 rfl),(ac.g 5 rfl),(ac.g 6 rfl),(ac.g 7 rfl),(ac.g 8 rfl),(ac.g 9 rfl),(ac.g 10 rfl),(ac.g 11 rfl),(ac.g 12 rfl),(ac.g 13 rfl),(ac.g 14 rfl),(ac.g 15 rfl),(ac.g 16 rfl),(ac.g 17 rfl),(ac.g 18 rfl),(ac.g 19 rfl),(ac.g 20 rfl),(ac.g 21 rfl),(ac.g 22 rfl)⟩;have CC:MCls K c:=⟨BC,FC,NC⟩;have TT:Tabs w K mg t:=⟨⟨esS,nS,lS,kS⟩,⟨esE,nE,lE,kE⟩,⟨esW,nW,lW,kW⟩,loS,loE,mm (tb1.g 0 rfl),mm (tb1.g 1 rfl),mm (tb1.g 2 rfl),⟨_,(tb2.g 0 rfl),mm aK.1⟩,⟨_,(tb2.g 1 rfl),mm (tb1.g 3 rfl)⟩,⟨_,(tb2.g 2 rfl),mm ba.1⟩,⟨_,(tb2.g 3 rfl),mm bc.1⟩,⟨_,(tb2.g 4 rfl),mm (tb1.g 4 rfl)⟩,⟨_,(tb2.g 5 rfl),mm (tb1.g 5 rfl)⟩,⟨_,(tb2.g 6 rfl),mm be.1⟩,⟨_,(tb2.g 7 rfl),mm bf.1⟩,⟨_,(tb2.g 8 rfl),mm (tb1.g 6 rfl)⟩,⟨_,(tb2.g 9 rfl),mm aO.1⟩,⟨_,(tb3.g 0 rfl),mm (tb1.g 7 rfl)⟩,(tb4.g 0 rfl),⟨_,(tb3.g 1 rfl),mm cg.1⟩,(tb4.g 1 rfl),⟨_,(tb3.g 2 rfl),mm cj.1⟩,(tb4.g 2 rfl),⟨_,(tb3.g 3 rfl),mm bE.1⟩,(tb4.g 3 rfl),⟨_,(tb3.g 4 rfl),mm bM.1⟩,(tb4.g 4 rfl),⟨_,(tb3.g 5 rfl),mm cm.1⟩,(tb4.g 5 rfl),⟨_,(tb3.g 6 rfl),mm bN.1⟩,(tb4.g 6 rfl),⟨_,(tb3.g 7 rfl),mm (tb1.g 8 rfl)⟩,(tb4.g 7 rfl),⟨_,(tb3.g 8 rfl),mm (tb1.g 9 rfl)⟩,(tb4.g 8 rfl),⟨_,(tb3.g 9 rfl),mm (tb1.g 10 rfl)⟩,(tb4.g 9 rfl),⟨_,(tb3.g 10 rfl),mm (tb1.g 11 rfl)⟩,(tb4.g 10 rfl),⟨_,(tb5.g 0 rfl),mm bO.1⟩,(tb4.g 11 rfl),(tb6.g 0 rfl),⟨_,(tb5.g 1 rfl),mm cp.1⟩,(tb4.g 12 rfl),(tb6.g 1 rfl),⟨_,(tb5.g 2 rfl),mm (tb1.g 12 rfl)⟩,(tb4.g 13 rfl),(tb6.g 2 rfl),⟨_,(tb5.g 3 rfl),mm (tb1.g 13 rfl)⟩,(tb4.g 14 rfl),(tb6.g 3 rfl),⟨_,(tb5.g 4 rfl),mm (tb1.g 14 rfl)⟩,(tb4.g 15 rfl),(tb6.g 4 rfl)⟩;have SPo:=ok_spot (P:=l.prog) (w:=w) (mg:=mg) (base:=base) c7.m BC;have LAy:=ok_lay gA.m BC SPo;have NUm:=ok_num bT.m BC SPo;have TK:=ok_taken (P:=l.prog) (w:=w) (mg:=mg) (base:=base) fh.m FC (mz (tb7.g 6 rfl));have IFe:=ok_initF (P:=l.prog) (w:=w) (mg:=mg) (base:=base) (gB.i iU iV) FC (mz (tb7.g 4 rfl));have IBo:=ok_initB (P:=l.prog) (w:=w) (mg:=mg) (base:=base) (fg.i ie ig) BC (mm aB);have TOu:=ok_touch (P:=l.prog) (w:=w) (mg:=mg) (base:=base) (c:=c) eE.m NC;have RCe:=ok_read (c:=c) bU.m NC TOu;have WCe:=ok_write (c:=c) bR.m NC TOu;have AU:=ok_act (P:=l.prog) (w:=w) (mg:=mg) (base:=base) (c:=c) bA.m (mz (tb7.g 7 rfl)) NC;have NI:=ok_nums (c:=c) bQ.m CC NUm;have LMa:=ok_mask (c:=c) cF.m (mz (tb7.g 7 rfl)) CC TK;have LSe:=ok_seat (c:=c) cE.m (mz (tb7.g 7 rfl)) (mz (tb7.g 13 rfl)) (mz (tb7.g 12 rfl)) CC TK LAy;have BSt:=ok_strip (c:=c) bF.m (mz (tb7.g 7 rfl)) (mz (tb7.g 4 rfl)) (mz (tb7.g 9 rfl)) CC LMa;have ORo:=ok_round (c:=c) bP.m CC BSt;have SOf:=ok_start (P:=l.prog) (w:=w) (base:=base) (hJ.d X G) (mz (tb7.g 8 rfl));have INi:=ok_initN (c:=c) (fj.i ij im) CC (mz (tb7.g 4 rfl)) (mz (tb7.g 6 rfl)) (mz (tb7.g 7 rfl)) (mm aM) (mm aN) (mm iS) (mm jB) SOf IBo IFe;have LSW:=ok_lsw (P:=l.prog) (base:=base) (t:=t) (gn.d X G) TT;have HEW:=ok_hew (P:=l.prog) (base:=base) (t:=t) (fb.d X G) TT;have LO:=ok_loaded (c:=c) (ba.d X G) CC RCe;have STo:=ok_store (c:=c) (bN.d X G) (mz (tb7.g 12 rfl)) CC AU NI WCe;have BEg:=ok_begin (c:=c) (bO.d X G) CC ORo;have NEx:=ok_next (c:=c) (cp.d X G) CC BSt;have NW:=zfg (P:=l.prog) (w:=w) (base:=base) (c:=c) (aK.d X G) (mz (tb7.g 6 rfl));have SPr:=ok_spread (c:=c) (bc.d X G) (mz (tb7.g 6 rfl)) CC RCe;have ADr:=ok_adr (P:=l.prog) (w:=w) (base:=base) (c:=c) bj.m NC (mz (tb7.g 6 rfl)) (mm aM);have WSl:=ok_ws (c:=c) bS.m NC ADr TOu;have RSl:=ok_rs (c:=c) bV.m NC ADr TOu;have SAv:=ok_save (c:=c) (cm.d X G) (mz (tb7.g 12 rfl)) CC AU NI WSl;have BRi:=ok_bring (c:=c) (aO.d X G) CC RSl;have TRi:=ok_trim (P:=l.prog) (w:=w) (base:=base) (c:=c) (cg.d X G) (mz (tb7.g 6 rfl)) (mz (tb7.g 9 rfl)) CC;have SPp:=ok_stop (P:=l.prog) (w:=w) (base:=base) (c:=c) (cj.d X G) CC;have LCh:=ok_chosen (c:=c) (eZ.d X G) (mz (tb7.g 12 rfl)) CC AU NI LMa;have CHo:=ok_choose (c:=c) (bE.d X G) LCh;have OTh:=ok_other (c:=c) (bM.d X G) LCh;have PIc:=ok_picked (c:=c) (bf.d X G) (mz (tb7.g 12 rfl)) CC NI;have TG:xT w K SG:=⟨esG,nG,lG,kG⟩;have Sg:Signs K mg SG:=⟨⟨_,(tb8.g 0 rfl),mm iO.1⟩,⟨_,(tb8.g 1 rfl),mm gR.1⟩,⟨_,(tb8.g 2 rfl),mm gS.1⟩,⟨_,(tb8.g 3 rfl),mm cV.1⟩,⟨_,(tb8.g 4 rfl),mm cf.1⟩,⟨_,(tb8.g 5 rfl),mm eX.1⟩,⟨_,(tb8.g 6 rfl),mm dW.1⟩,⟨_,(tb8.g 7 rfl),mm dX.1⟩,⟨_,(tb8.g 8 rfl),mm cW.1⟩,⟨_,(tb8.g 9 rfl),mm bz.1⟩,⟨_,(tb8.g 10 rfl),mm a9.1⟩,⟨_,(tb8.g 11 rfl),mm bD.1⟩⟩;have GK:=ok_kept (P:=l.prog) (w:=w) (base:=base) (kh.d X G) (mm aH);have GN:=ok_refuse (P:=l.prog) (w:=w) (base:=base) (cU.d X G) (own_in kb (mm (tb1.g 22 rfl)) md) PySem.F.excBase_ValueError;have Fs:Fns l.prog w K mg base CN:=⟨ok_plus (iO.d X G) GK,ok_minus (gR.d X G) GK,ok_times (gS.d X G) GK,zd7 (cV.d X G) GK GN,zc7 (cf.d X G) GN,ok_lesser (eX.d X G) (mz (tb7.g 9 rfl)),zfj (dW.d X G) (mz (tb7.g 10 rfl)),zfi (dX.d X G),zd9 (cW.d X G),ok_both (bz.d X G),ok_either (a9.d X G),ok_one (bD.d X G)⟩;have DN:=ok_done (ki.d X G) (mm (tb1.g 23 rfl)) TG Sg Fs;have OP1:=ok_opOne (P:=l.prog) (w:=w) (base:=base) (c:=c) (cY.d X G) CC (mm (tb1.g 22 rfl)) j7 DN;have OPa:=ok_op (c:=c) (be.d X G) (mz (tb7.g 12 rfl)) CC NI OP1
 have SW:XJ l.prog w K mg base c t Lx.S 6:=λword f h=>by
  rcases h with ⟨rfl,rfl⟩ | ⟨rfl,rfl⟩ | ⟨rfl,rfl⟩ | ⟨rfl,rfl⟩ | ⟨rfl,rfl⟩ | ⟨rfl,rfl⟩
  .exact ⟨_,_,TT.s_number,NW.mono (by decide),numM_ok⟩
  .exact ⟨_,_,TT.s_load,LO.mono (by decide),loadM_ok⟩
  .exact ⟨_,_,TT.s_spread,SPr.mono (by decide),ze6⟩
  .exact ⟨_,_,TT.s_op,OPa.mono (by decide),opM_ok⟩
  .exact ⟨_,_,TT.s_bring,BRi.mono (by decide),bringM_ok⟩
  .exact ⟨_,_,TT.s_pick,PIc.mono (by decide),pickM_ok⟩
 have EW:zbh l.prog w K mg base c t Lx.E 7:=λword f h=>by
  rcases h with ⟨rfl,rfl⟩ | ⟨rfl,rfl⟩ | ⟨rfl,rfl⟩ | ⟨rfl,rfl⟩ | ⟨rfl,rfl⟩ | ⟨rfl,rfl⟩
  .exact ⟨TT.es_save,_,_,TT.e_save,SAv.mono (by decide)⟩
  .exact ⟨TT.es_store,_,_,TT.e_store,STo.mono (by decide)⟩
  .exact ⟨TT.es_trim,_,_,TT.e_trim,TRi.mono (by decide)⟩
  .exact ⟨TT.es_stop,_,_,TT.e_stop,SPp.mono (by decide)⟩
  .exact ⟨TT.es_choose,_,_,TT.e_choose,CHo.mono (by decide)⟩
  .exact ⟨TT.es_other,_,_,TT.e_other,OTh.mono (by decide)⟩
 have WW:ze1 l.prog w K mg base c t Lx.W 8:=λword f h=>by
  rcases h with ⟨rfl,rfl⟩ | ⟨rfl,rfl⟩
  .exact ⟨TT.ws_begin,TT.we_begin,_,_,TT.w_begin,BEg.mono (by decide)⟩
  .exact ⟨TT.ws_next,TT.we_next,_,_,TT.w_next,NEx.mono (by decide)⟩
 have PSS:=ok_pss (c:=c) (t:=t) (cB.d X G) CC TT (by decide) AU LSe SW;have PEf:=ok_pe (c:=c) (t:=t) (by decide) (eC.d X G) TT EW;have PBe:=ok_pb (c:=c) (t:=t) (dr.d X G) CC TT (by decide) SW EW WW LSW HEW PSS PEf;have RN:=ok_ran (c:=c) (k6.d X G) CC (mz (tb7.g 6 rfl)) (mm iW) INi PBe;let fc:F2.Cs:=⟨⟨ae,bw,ag,aw,0,dn,ah,ad,0⟩,bv⟩;let q:QCs:=⟨au,bp,ak,g8,eV,0,eW,ao⟩;have FG:FormG mg fc:=⟨mm (tb1.g 15 rfl),mm jF,mm iw,mm (tb1.g 16 rfl),mm ip,mm (tb1.g 17 rfl),mm jD,mm (tb1.g 18 rfl)⟩;have SG:StepG mg q:=⟨mm jT,mm (tb1.g 19 rfl),mm (tb1.g 20 rfl),mm (tb1.g 21 rfl)⟩;have AG:AimG mg q:=⟨mm i8,mm jV⟩;have LK:FormK K fc:=⟨⟨⟨d6,jc,jd,je,jf⟩,fB,dA,cG,dB,cH,dD,dE,bW⟩,(cr.g 0 rfl),⟨⟨gT,jX,jY,jZ,j2⟩,iD,fC,dG,fD,dH,fE,fH,de⟩,(dZ.g 0 rfl),⟨⟨gU,j3,j4,j5,j6⟩,iE,fI,dJ,fJ,dL,fK,fL,df⟩,(ax.g 0 rfl),(ax.g 1 rfl),(ax.g 2 rfl),⟨⟨d7,jg,jh,ji,jj⟩,fM,dM,cI,dN,cJ,dP,dQ,bX⟩,(aq.g 0 rfl),(aq.g 1 rfl),(aq.g 2 rfl)⟩;have SK:StepK K q:=⟨⟨⟨jl,kB,kD,kF,kH⟩,iF,iG,gL,gM,(az.g 0 rfl),(az.g 1 rfl),(az.g 2 rfl)⟩⟩;have MC:MakerC K q.ma:=⟨jO,(ay.g 0 rfl),(ay.g 1 rfl),(ay.g 2 rfl),(ay.g 3 rfl),(ay.g 4 rfl)⟩;have AC:AimC K q.ai:=⟨jo,(ar.g 0 rfl),(ar.g 1 rfl),(ar.g 2 rfl),(ar.g 3 rfl)⟩;have PC:PrC K q.pr:=⟨iI,(bh.g 0 rfl),(bh.g 1 rfl),(bh.g 2 rfl)⟩;have N':Ints K mg:=⟨mz (tb7.g 0 rfl),mz (tb7.g 1 rfl),mz (tb7.g 2 rfl),ja,iC⟩;have Ty:TysK K mg:=⟨mz (tb7.g 5 rfl),mz (tb7.g 4 rfl),mz (tb7.g 3 rfl),eK,gK,jb⟩;have WH:=ok_whole (P:=l.prog) (w:=w) (base:=base) (iR.d X G) N'
 have KB:=zfh (P:=l.prog) (w:=w) (base:=base) (gy.d X G)
 have fN:=zfl (P:=l.prog) (w:=w) (mg:=mg) (base:=base) (eG.i gC gD) d6 (cr.g 0 rfl);have fO:=okI_Cell (P:=l.prog) (w:=w) (mg:=mg) (base:=base) (gE.i iY iZ) gT (dZ.g 0 rfl);have jp:=okI_Pair (P:=l.prog) (w:=w) (mg:=mg) (base:=base) (gF.i i6 i7) gU (ax.g 0 rfl) (ax.g 1 rfl) (ax.g 2 rfl);have jP:=zfm (P:=l.prog) (w:=w) (mg:=mg) (base:=base) eO d7 (aq.g 0 rfl) (aq.g 1 rfl) (aq.g 2 rfl);have lw:=okN_Let (P:=l.prog) (w:=w) (mg:=mg) (base:=base) iH jl (az.g 0 rfl) (az.g 1 rfl) (az.g 2 rfl);have IA:=okI_Aim (P:=l.prog) (w:=w) (mg:=mg) (base:=base) (iB.i jK jL) jo (ar.g 0 rfl) (ar.g 1 rfl) (ar.g 2 rfl) (ar.g 3 rfl);have IM:=okI_Mk (P:=l.prog) (w:=w) (base:=base) (q:=q) (fA.i iy iA) (mm aB) MC;have IPr:=okI_ProgU (P:=l.prog) (w:=w) (mg:=mg) (base:=base) (dw.i fk fm) (mz (tb7.g 4 rfl)) PC;have SFn:=λn=>ok_sf (P:=l.prog) (w:=w) (base:=base) (c:=fc) (gf.d X G) br (cz.d X G) (mz (tb7.g 0 rfl)) (mz (tb7.g 10 rfl)) FG LK n;have SSn:=ok_ss (P:=l.prog) (w:=w) (base:=base) (c:=fc) (q:=q) (n:=9) (cA.d X G) (mz (tb7.g 0 rfl)) (mz (tb7.g 10 rfl)) SG SK (SFn 9) (ok_s2 br (mz (tb7.g 10 rfl)) (SFn 9));have CSt:=zea (P:=l.prog) (w:=w) (mg:=mg) (base:=base) (c:=fc) (q:=q) (gh.d X G) LK MC AC;have LSt:=zd8 (c:=fc) (q:=q) (gi.d X G) (mz (tb7.g 0 rfl)) FG LK MC AC CSt;have PBy:=ok_putby (P:=l.prog) (w:=w) (mg:=mg) (base:=base) (q:=q) dy.m MC;have MFn:=λn=>ok_mk (P:=l.prog) (w:=w) (base:=base) (c:=fc) (q:=q) ⟨(gm.d X G),(iP.d X G),(gj.d X G),(eA.d X G),(gk.d X G),dj⟩ (mz (tb7.g 0 rfl)) (mm aFC) FG LK MC AC AG IA PBy LSt SFn n;have MTe:=ok_mt (c:=fc) (q:=q) (n:=9) (gw.d X G) (mm aT) SK MC AG IA (MFn 9);have MTw:=Z5 (P:=l.prog) (w:=w) (base:=base) dj sc_make_two;have MVa:=ok_mv (c:=fc) (q:=q) (n:=9) (eY.d X G) (mz (tb7.g 0 rfl)) SG SK MC AG IA (MFn 9) MTw
 have MOf:∀ st:Stp,OkM l.prog w K mg base CX0 1 (clsS q st) "many_of" ["self","lengths"] (spMany fc q K st):=λst=>by
  cases st with
  | let_ tg v t=>exact ok_manyL (P:=l.prog) (w:=w) (mg:=mg) (base:=base) (c:=fc) (q:=q) eJ.m SK
 have ROn:=ok_rnd (c:=fc) (q:=q) (n:=9) (hZ.d X G) (mz (tb7.g 11 rfl)) SK PC MC AG SSn (ok_groupF (gs.d X G)) IM MOf MTe MVa (ok_may (gq.d X G));have COn:=ok_cnt (P:=l.prog) (w:=w) (base:=base) (c:=fc) (q:=q) dg (mz (tb7.g 0 rfl)) SG SK (Z5 dg sc_count_of);have CDe:=ok_code (c:=fc) (q:=q) jk (mz (tb7.g 0 rfl)) SG SK (Z5 (ia.d X G) zds) ROn COn;have MDe:=ok_made (c:=fc) (q:=q) kO PC CDe;have CA:=zfk (P:=l.prog) (w:=w) (base:=base) (gx.d X G) (mz (tb7.g 6 rfl));have SM:=ok_someL (jx.d X G) (mz (tb7.g 6 rfl)) (mz (tb7.g 7 rfl)) KB;have TO:=ok_told3 (jy.d X G) (mz (tb7.g 6 rfl)) N' Ty WH;have SDe:=ok_side (c:=fc) (jz.d X G) FG fN fO jp;have NSe:=ok_nestC (c:=fc) (jA.d X G) (mz (tb7.g 6 rfl)) (mz (tb7.g 7 rfl)) FG KB SDe fN fO jp jP;have DUe:=ok_dueC (jS.d X G) (mz (tb7.g 6 rfl)) KB;exact ok_law (c:=fc) (q:=q) (mc:=c) (Lx:=Lx) (Y2 (st:=zan) lj ll lp) (mz (tb7.g 6 rfl)) (mz (tb7.g 7 rfl)) FG SG (mm gI) PC CA KB SM NSe DUe TO fO lw IPr MDe RN lx_r lx_store
def walk {l:PySem.W.OpenLaw} {q:nQ} {loose:Jb} {XP:(J0)->Heap->Prop} {YP:World->Heap->Prop} {d:DefRec} {K:Params->Fg} (hn:l.most=Z 63) (hdf:d.params.defaults=[])
  (hY:∀ (w:World) (h:Heap),YP w h->(K w.params).In h)
  (F:∀ (w:World) (mg:J0) (fa:Ad) (h:Heap),(K w.params).In h->h.Ns mW mg->mg d.name=Z (.ref fa) ->
   ∃ fd:og,(∀ (s:Sh) (u:Vl),BindsTo s fd ⟨[u],[]⟩ [("_law_script",u)])/\∀ base:Heap,(K w.params).In base->base.Ns mW mg->FnOk l.prog w (K w.params) mg base CX0 37 fa fd ["_law_script"] (spLaw (K w.params))) :
  PySem.W.WalkO q loose XP YP l.row.toRowW d [] (λf vs=>PySem.call f vs) :=
 L2.walk_of (n:=63) (k:=37) (x:="_law_script") (CX:=λ_=>CX0) (sp:=λw=>spLaw (K w.params)) hn (by decide) hdf ⟨Y,by decide,by decide⟩ hY F (λ_ _ a ns hl _ hS=>⟨a,ns,Y,hS,hl,λ_=>rfl⟩) λ_ _ _ _ _ z=>z
end K45
open PySem PySem.W PyProof.Rows
set_option maxRecDepth 100000 in
set_option maxHeartbeats 0 in
theorem PySem.Challenge.cw_rowbreadth_k45_choices_made_holds : PySem.Challenge.rw_rowbreadth_k45_choices_made.Holds := by
 refine K45hd ?_
 k_fill
 refine K45.walk (l:=pC) rfl rfl (λw h Y0_=>Y0_) ?F
 case F =>
  intro w mg fa h KX G hmg
  refine' K45.all_mk KX G hmg ?q0 ?q1 ?q2 ?q3 ?q4 ?q5 ?q6 ?q7 ?q8 ?q9 ?qa ?qb ?qc ?qd ?qe ?qf ?qg ?qh ?qi ?qj ?qk ?ql ?qm ?qn ?qo ?qp ?qq ?qr ?qs ?qt ?qu ?qv ?qw ?qx ?qy ?qz ?q10 ?q11 ?q12 ?q13 ?q14 ?q15 ?q16 ?q17 ?q18 ?q19 ?q1a ?q1b ?q1c ?q1d ?q1e ?q1f ?q1g ?q1h ?q1i ?q1j ?q1k ?q1l ?q1m ?q1n ?q1o ?q1p ?q1q ?q1r ?q1s ?q1t ?q1u ?q1v ?q1w ?q1x ?q1y ?q1z ?q20 ?q21 ?q22 ?q23 ?q24 ?q25 ?q26 ?q27 ?q28 ?q29 ?q2a ?q2b ?q2c ?q2d ?q2e ?q2f ?q2g ?q2h ?q2i ?q2j ?q2k ?q2l ?q2m ?q2n ?q2o ?q2p ?q2q ?q2r ?q2s ?q2t ?q2u ?q2v ?q2w ?q2x ?q2y ?q2z ?q30 ?q31 ?q32 ?q33 ?q34 ?q35 ?q36 ?q37 ?q38 ?q39 ?q3a ?q3b ?q3c ?q3d ?q3e ?q3f ?q3g ?q3h ?q3i ?q3j ?q3k ?q3l ?q3m ?q3n ?q3o ?q3p ?q3q ?q3r ?q3s ?q3t ?q3u ?q3v ?q3w ?q3x ?q3y ?q3z ?q40 ?q41 ?q42 ?q43 ?q44 ?q45 ?q46 ?q47 ?q48 ?q49 ?q4a ?q4b ?q4c ?q4d ?q4e ?q4f ?q4g ?q4h ?q4i ?q4j ?q4k ?q4l ?q4m ?q4n ?q4o ?q4p ?q4q ?q4r ?q4s ?q4t ?q4u ?q4v ?q4w ?q4x ?q4y ?q4z ?q50 ?q51 ?q52 ?q53 ?q54 ?q55 ?q56 ?q57 ?q58 ?q59 ?q5a ?q5b ?q5c ?q5d ?q5e ?q5f ?q5g ?q5h ?q5i ?q5j ?q5k ?q5l ?q5m ?q5n ?q5o ?q5p ?q5q ?q5r ?q5s ?q5t ?q5u ?q5v ?q5w ?q5x ?q5y ?q5z ?q60 ?q61 ?q62 ?q63 ?q64 ?q65 ?q66 ?q67 ?q68 ?q69 ?q6a ?q6b ?q6c ?q6d ?q6e ?q6f ?q6g ?q6h ?q6i ?q6j ?q6k ?q6l ?q6m ?q6n ?q6o ?q6p ?q6q ?q6r ?q6s ?q6t ?q6u ?q6v
  (case q0 | q1 | q2 | q3 | q4 | q5 | q6 | q7 | q8 | q9 | qa | qb | qc | qd | qe | qf | qg | qh | qi | qj | qk | ql | qm | qn | qo | qp | qq | qr | qs | qt | qu | qv | qw | qx | qy | qz | q10 | q11 | q12 | q13=>(refine' L2.DH.mk ?a ?b ?c ?d;(case a=>k_is);(case b=>k_is);(case c=>k_is);(case d=>k_is)))
  (case q14 | q15 | q16 | q17 | q18 | q1e | q1f | q1g | q1h | q1i | q1j | q1k | q1l | q1m | q1n | q1o | q1p | q1q | q1r | q1s | q1t | q1u | q1v | q1w | q1x | q1y | q1z=>(refine' L2.DH.mk ?a ?b ?c ?d;(case a=>k_is);(case b=>k_is);(case c=>k_is);(case d=>k_is)))
  (case q19 | q1a | q1b | q1c | q1d | q20=>k_is)
  (case q21=>(refine ⟨?_,?_,?_,?_⟩ <;> k_is))
  (case q22=>(repeat' first | exact trivial | refine pM ?_ ?_ | k_is))
  (case q23 | q24=>k_is)
  (case q25 | q26 | q27 | q28=>(refine' L2.MH.mk ?a ?b ?c ?d ?e;(case a=>k_is);(case b=>k_is);(case c=>k_is);(case d=>k_is);(case e=>k_is)))
  (case q29=>k_is)
  (case q2a=>(refine ⟨?_,?_,?_,?_⟩ <;> k_is))
  (case q2b=>(repeat' first | exact trivial | refine pM ?_ ?_ | k_is))
  (case q2c | q2d=>k_is)
  (case q2e | q2f=>(refine' L2.MH.mk ?a ?b ?c ?d ?e;(case a=>k_is);(case b=>k_is);(case c=>k_is);(case d=>k_is);(case e=>k_is)))
  (case q2g=>k_is)
  (case q2h=>(refine ⟨?_,?_,?_,?_⟩ <;> k_is))
  (case q2i=>(repeat' first | exact trivial | refine pM ?_ ?_ | k_is))
  (case q2j | q2k=>k_is)
  (case q2l | q2m | q2n | q2o | q2p | q2q | q2r | q2s | q2t | q2u | q2v | q2w | q2x=>(refine' L2.MH.mk ?a ?b ?c ?d ?e;(case a=>k_is);(case b=>k_is);(case c=>k_is);(case d=>k_is);(case e=>k_is)))
  (case q2y=>k_is)
  (case q2z=>(refine ⟨?_,?_,?_,?_⟩ <;> k_is))
  (case q30=>(repeat' first | exact trivial | refine pM ?_ ?_ | k_is))
  (case q31 | q32=>k_is)
  (case q33=>(refine' L2.MH.mk ?a ?b ?c ?d ?e;(case a=>k_is);(case b=>k_is);(case c=>k_is);(case d=>k_is);(case e=>k_is)))
  (case q34=>k_is)
  (case q35=>(refine ⟨?_,?_,?_,?_⟩ <;> k_is))
  (case q36=>(repeat' first | exact trivial | refine pM ?_ ?_ | k_is))
  (case q37 | q38=>k_is)
  (case q39=>(refine' L2.MH.mk ?a ?b ?c ?d ?e;(case a=>k_is);(case b=>k_is);(case c=>k_is);(case d=>k_is);(case e=>k_is)))
  (case q3a=>k_is)
  (case q3b=>(refine ⟨?_,?_,?_,?_⟩ <;> k_is))
  (case q3c=>(repeat' first | exact trivial | refine pM ?_ ?_ | k_is))
  (case q3d | q3e=>k_is)
  (case q3f=>(refine' L2.MH.mk ?a ?b ?c ?d ?e;(case a=>k_is);(case b=>k_is);(case c=>k_is);(case d=>k_is);(case e=>k_is)))
  (case q3g=>k_is)
  (case q3h=>(refine ⟨?_,?_,?_,?_⟩ <;> k_is))
  (case q3i=>(repeat' first | exact trivial | refine pM ?_ ?_ | k_is))
  (case q3j | q3k=>k_is)
  (case q3l=>(refine' L2.MH.mk ?a ?b ?c ?d ?e;(case a=>k_is);(case b=>k_is);(case c=>k_is);(case d=>k_is);(case e=>k_is)))
  (case q3m=>k_is)
  (case q3n=>(refine ⟨?_,?_,?_,?_⟩ <;> k_is))
  (case q3o=>(repeat' first | exact trivial | refine pM ?_ ?_ | k_is))
  (case q3p | q3q | q3r | q3s | q3t | q3u | q3v | q3w=>k_is)
  (case q3x=>(refine' L2.MH.mk ?a ?b ?c ?d ?e;(case a=>k_is);(case b=>k_is);(case c=>k_is);(case d=>k_is);(case e=>k_is)))
  (case q3y=>k_is)
  (case q3z=>(refine ⟨?_,?_,?_,?_⟩ <;> k_is))
  (case q40=>(repeat' first | exact trivial | refine pM ?_ ?_ | k_is))
  (case q41 | q42=>k_is)
  (case q43=>(refine' L2.MH.mk ?a ?b ?c ?d ?e;(case a=>k_is);(case b=>k_is);(case c=>k_is);(case d=>k_is);(case e=>k_is)))
  (case q44=>k_is)
  (case q45=>(refine ⟨?_,?_,?_,?_⟩ <;> k_is))
  (case q46=>(repeat' first | exact trivial | refine pM ?_ ?_ | k_is))
  (case q47 | q48=>k_is)
  (case q49 | q4a=>(refine' L2.MH.mk ?a ?b ?c ?d ?e;(case a=>k_is);(case b=>k_is);(case c=>k_is);(case d=>k_is);(case e=>k_is)))
  (case q4b=>k_is)
  (case q4c=>(refine ⟨?_,?_,?_,?_⟩ <;> k_is))
  (case q4d=>(repeat' first | exact trivial | refine pM ?_ ?_ | k_is))
  (case q4e | q4f=>k_is)
  (case q4g=>(refine' L2.MH.mk ?a ?b ?c ?d ?e;(case a=>k_is);(case b=>k_is);(case c=>k_is);(case d=>k_is);(case e=>k_is)))
  (case q4h=>(repeat' first | exact trivial | refine pM ?_ ?_ | k_is))
  (case q4i=>k_is)
  (case q4j=>k_keys)
  (case q4k=>k_is)
  (case q4l=>k_keys)
  (case q4m=>k_is)
  (case q4n=>k_keys)
  (case q4o | q4p | q4q | q4r | q4s=>(repeat' first | exact trivial | refine pM ?_ ?_ | k_is))
  (case q4t | q4u=>rfl)
  (case q4v | q4w | q4x | q4y | q4z=>kit_is)
  (case q50=>(repeat' first | exact trivial | refine pM ?_ ?_ | k_is))
  (case q51 | q52 | q53 | q54 | q55 | q56 | q57 | q58 | q59 | q5a | q5b | q5c | q5d | q5e | q5f | q5g | q5h | q5i | q5j | q5k | q5l | q5m | q5n | q5o | q5p=>k_is)
  (case q5q | q5r | q5s | q5t | q5u | q5v | q5w | q5x | q5y | q5z | q60 | q61 | q62 | q63 | q64 | q65 | q66 | q67 | q68 | q69 | q6a | q6b | q6c | q6d | q6e | q6f | q6g | q6h | q6i | q6j | q6k | q6l | q6m | q6n | q6o | q6p=>kit_is)
  (case q6q=>k_exc)
  (case q6r=>kts_exm)
  (case q6s | q6t=>k_is)
  (case q6u=>k_keys)
  (case q6v=>(repeat' first | exact trivial | refine pM ?_ ?_ | k_is))
