import PyProof.Rows.All
import Wide.All
import Wide.FinOn
import OpenK.KLine
import KE.RegKIsAll
import KE.KDictOf
import KE.KItem
import KE.LcSums
import KE.KBits
import PyProof.EqAt
import PyProof.EqKinds
import PyProof.TupleCall
import PySem.Challenge.RW_rowbreadth_k40_folded_and_running
set_option Elab.async false
set_option linter.all false
set_option maxRecDepth 100000
set_option maxHeartbeats 4000000
namespace PySem.W.Fast
def tw13981177056534704216:Unit:=()
def tw10449882817617191181:Unit:=()
def tw7070460296512829051:Unit:=()
def tw9772216880440471712:Unit:=()
def tw4699837443463344945:Unit:=()
def tw521244489818617362:Unit:=()
def tw3547503755310009210:Unit:=()
def tw4971846163331187847:Unit:=()
def tw5527830450343829098:Unit:=()
def tw17989681175306931351:Unit:=()
def tw2753367290847025194:Unit:=()
def tw2623231478692850593:Unit:=()
def tw12725636669652757165:Unit:=()
def tw412947821327554248:Unit:=()
def tw10252586648768736301:Unit:=()
def tw17250960926503673224:Unit:=()
def tw13743722699872052714:Unit:=()
def tw11888132453123535198:Unit:=()
def tw5260744008767177694:Unit:=()
def tw8163413740688182625:Unit:=()
def tw841807723376309081:Unit:=()
def tw9758115017295752144:Unit:=()
def tw15343183709573141161:Unit:=()
def tw16895283867629351318:Unit:=()
def tw3657388359710731730:Unit:=()
def tw16358818696051707671:Unit:=()
def tw2075545097171714946:Unit:=()
def tw6294261363620145529:Unit:=()
def tw1606818880667873055:Unit:=()
def tw17828008368457585676:Unit:=()
def tw594928466897359971:Unit:=()
def tw9817193874131923020:Unit:=()
def tw17246978234108751082:Unit:=()
def tw4566304811062826289:Unit:=()
def tw13385379430170859360:Unit:=()
def tw6893756819554134818:Unit:=()
def tw11390765529151074178:Unit:=()
def tw9825786064804058303:Unit:=()
def tw9227340757852114828:Unit:=()
def tw14346745267580163764:Unit:=()
def tw4250153278094451766:Unit:=()
def tw2656887195216346418:Unit:=()
def tw9255815321176577365:Unit:=()
def tw6266911564189523502:Unit:=()
def tw15124399193518132000:Unit:=()
def tw2743506548338731608:Unit:=()
def tw17897317414950770203:Unit:=()
def tw5300112358852071505:Unit:=()
def tw4517575027442811092:Unit:=()
def tw1737442672286565233:Unit:=()
def tw17301533311257153471:Unit:=()
def tw7525560365942011896:Unit:=()
def tw12454122129881565029:Unit:=()
def tw9570441862194459899:Unit:=()
def tw5245688525126042863:Unit:=()
def tw8858701145368947699:Unit:=()
def tw9104849839931715752:Unit:=()
def tw11765973111025649527:Unit:=()
def tw5190802096927633411:Unit:=()
def tw9057024561684657626:Unit:=()
def tw611187470487757762:Unit:=()
def tw655111409770694242:Unit:=()
def tw12177762233454135773:Unit:=()
def tw4938941130008990118:Unit:=()
def tw2730392458275470467:Unit:=()
def tw14257962351425662939:Unit:=()
def tw16495704374825837576:Unit:=()
def tw14225887090222827078:Unit:=()
def tw10077872945704058141:Unit:=()
def tw4718086629437736752:Unit:=()
def tw930635049409628950:Unit:=()
def tw14223917749515838288:Unit:=()
def tw12288934589446792674:Unit:=()
def tw3765819037927394387:Unit:=()
def tw1552316989210339698:Unit:=()
def tw15227595433664308936:Unit:=()
def tw4074571617822079734:Unit:=()
def tw16699630820570683291:Unit:=()
def tw12232713661005219516:Unit:=()
def tw14011479086852635530:Unit:=()
def tw18289252516692757130:Unit:=()
def tw13917493936294465235:Unit:=()
def tw9702894712019020069:Unit:=()
def tw12804758644541980512:Unit:=()
def tw6602230102790532876:Unit:=()
def tw8946706568654512224:Unit:=()
def tw7550008510941813058:Unit:=()
def tw16908150385714211833:Unit:=()
def tw2613395433223670852:Unit:=()
def tw14152041713051637130:Unit:=()
def tw4293995596596540731:Unit:=()
def tw17377328687178876146:Unit:=()
def tw18177829045160708841:Unit:=()
def tw6454464000835604143:Unit:=()
def tw5853948363743559941:Unit:=()
def tw9667493201871811216:Unit:=()
def tw5210914579882529060:Unit:=()
def tw13436270025301792895:Unit:=()
def tw2335522704510770055:Unit:=()
def tw3306405588734928255:Unit:=()
def tw15724360489054636899:Unit:=()
def tw17929457541145995410:Unit:=()
def tw7804925394149517721:Unit:=()
def tw11047495926049611824:Unit:=()
def tw3639799080633933732:Unit:=()
def tw7187106946770343709:Unit:=()
def tw8215296521120546300:Unit:=()
def tw4615769354966576011:Unit:=()
def tw9284329454236185127:Unit:=()
def tw9711488091389508753:Unit:=()
def tw15104466712146440836:Unit:=()
def tw920783169833364201:Unit:=()
def tw15030708102901558214:Unit:=()
def tw17857528587901919588:Unit:=()
def tw15464447480196078029:Unit:=()
def tw14426447446794900969:Unit:=()
def tw16673801902787253117:Unit:=()
def tw8171385406477263835:Unit:=()
def tw1745263668134226798:Unit:=()
def tw8586546237322869336:Unit:=()
def tw13812327489458267697:Unit:=()
def tw1608519752197521976:Unit:=()
def tw12546617709235189288:Unit:=()
def tw11983909619855866422:Unit:=()
def tw14692684117604409695:Unit:=()
def tw15716663124302551877:Unit:=()
def tw10482029653841541778:Unit:=()
def tw4602607019491283842:Unit:=()
def tw16398867119998309160:Unit:=()
def tw2999794755712743145:Unit:=()
def tw7011241121807880411:Unit:=()
def tw17172909649032573588:Unit:=()
def tw2388920720124100104:Unit:=()
def tw15996688161838399208:Unit:=()
def tw2068656628640894100:Unit:=()
def tw13815520216752532973:Unit:=()
def tw9496660835474852106:Unit:=()
def tw2885980034087968335:Unit:=()
def tw16575000506093856849:Unit:=()
def tw7169089827611388660:Unit:=()
def tw5018149606945926020:Unit:=()
def tw5990395641618387019:Unit:=()
def tw4204133911017271644:Unit:=()
def tw17097521526862948192:Unit:=()
def tw4612265008015271734:Unit:=()
def tw1902121602680316937:Unit:=()
def tw4946619988357503971:Unit:=()
def tw5956894983584664072:Unit:=()
def tw6877368648020073714:Unit:=()
def tw5131864363455813762:Unit:=()
def tw16308849268222074295:Unit:=()
def tw11153328919092528386:Unit:=()
def tw15402349112374390519:Unit:=()
def tw6217387833199981043:Unit:=()
def tw12630533206097063843:Unit:=()
def tw5283198175311403110:Unit:=()
def tw2758721915540782759:Unit:=()
def tw11788997613651359185:Unit:=()
def tw11259731078826710348:Unit:=()
def tw13378715522035699103:Unit:=()
def tw16361512806473008792:Unit:=()
def tw334220734542399017:Unit:=()
def tw9177534146341210726:Unit:=()
def tw12289660117235059378:Unit:=()
def tw12653814609254733631:Unit:=()
def tw14792152172776466925:Unit:=()
def tw6585254579702821839:Unit:=()
def tw16155147580152411815:Unit:=()
def tw18399512813441532409:Unit:=()
def tw9067731523461245163:Unit:=()
def tw3364800583725262508:Unit:=()
def tw3041196714716601570:Unit:=()
def tw9975548405274114910:Unit:=()
def tw9981664820835213164:Unit:=()
def tw5933055858931141963:Unit:=()
def tw13689477466077722277:Unit:=()
def tw13728764398989359012:Unit:=()
def tw13616709490267895393:Unit:=()
def tw252598530186679139:Unit:=()
def tw4891247984776115823:Unit:=()
def tw14493977802890924349:Unit:=()
def tw4763710320262591275:Unit:=()
def tw5260269553554787612:Unit:=()
def tw3788580360886384160:Unit:=()
def tw887876837724467174:Unit:=()
def tw14774900975239545953:Unit:=()
def tw13122588540170604770:Unit:=()
def tw13560746985690556103:Unit:=()
def tw10710905552813461177:Unit:=()
def tw5952638625590986710:Unit:=()
def tw3081426826259066450:Unit:=()
def tw15657208405337046012:Unit:=()
def tw14977186337884611517:Unit:=()
def tw15108474802326486148:Unit:=()
def tw6068613297203585952:Unit:=()
def tw15513116133490235444:Unit:=()
def tw12698072389517100659:Unit:=()
def tw15299588831683546682:Unit:=()
def tw7514900327931172724:Unit:=()
def tw13500036097401124369:Unit:=()
def tw16460551792866296858:Unit:=()
def tw12601461360399109013:Unit:=()
def tw11442034271656767545:Unit:=()
def tw1650764709625101863:Unit:=()
def tw2075687373041634817:Unit:=()
def tw9106306732440615960:Unit:=()
def tw15442496444896266962:Unit:=()
def tw5601501935751567800:Unit:=()
def tw628951962203342584:Unit:=()
def tw11910811079084098565:Unit:=()
def tw13636538233145841276:Unit:=()
def tw72010460047116791:Unit:=()
def tw18324258199915262469:Unit:=()
def tw324966894181916943:Unit:=()
def tw185298010329912410:Unit:=()
def tw1875722561140113909:Unit:=()
def tw1822855511318128793:Unit:=()
def tw1923109983986477719:Unit:=()
def tw16568811000491958086:Unit:=()
def tw11106171003781835257:Unit:=()
def tw4116565291076861810:Unit:=()
def tw11931797433087951185:Unit:=()
def tw5360770178062716095:Unit:=()
def tw15360475516823277269:Unit:=()
def tw11314381407616856112:Unit:=()
def tw8436702700913759827:Unit:=()
def tw381130719116919679:Unit:=()
def tw7278236197546270155:Unit:=()
def tw9929451789313925878:Unit:=()
def tw8021367394553969703:Unit:=()
def tw6402669561170911940:Unit:=()
def tw6262623359110562844:Unit:=()
def tw8106124747567112922:Unit:=()
def tw16769004137034916001:Unit:=()
def tw11236596454430953528:Unit:=()
def tw6669986417846938769:Unit:=()
def tw7036007774046090417:Unit:=()
def tw7859892630966984015:Unit:=()
def tw11681251780324194230:Unit:=()
def tw5110214702306762634:Unit:=()
def tw10437273794184976417:Unit:=()
def tw13260757254247231218:Unit:=()
def tw7144444794027893462:Unit:=()
def tw3594936372557049782:Unit:=()
def tw14739341116252080749:Unit:=()
def tw12812536232249409910:Unit:=()
def tw15851164592101172344:Unit:=()
def tw14700857832120313006:Unit:=()
def tw16243528224197457222:Unit:=()
def tw1664260797184044512:Unit:=()
def tw12602564050140633938:Unit:=()
def tw1920543205879476900:Unit:=()
def tw2107889382878560071:Unit:=()
def tw6206485057458417723:Unit:=()
def tw10224668741748416845:Unit:=()
def tw16711526615763044830:Unit:=()
def tw16940900778881162638:Unit:=()
def tw12681051269908235839:Unit:=()
def tw9308656557757716498:Unit:=()
def tw6673075359984147631:Unit:=()
def tw5312881630553435282:Unit:=()
def tw8004687967019693346:Unit:=()
def tw12476535327697347523:Unit:=()
def tw14900688035242204854:Unit:=()
def tw657139435651302059:Unit:=()
def tw10911258192233047972:Unit:=()
def tw13567425634784237568:Unit:=()
def tw16903189895270182852:Unit:=()
def tw4198541809815697331:Unit:=()
def tw8318509382903122513:Unit:=()
def tw2089939171324518626:Unit:=()
def tw12094723514646600616:Unit:=()
def tw1265045649850533917:Unit:=()
def tw11813323958496559588:Unit:=()
def tw13754941799980721058:Unit:=()
def tw8386788168504031015:Unit:=()
def tw13948083473166217638:Unit:=()
def tw1856476602750837784:Unit:=()
def tw6304275564299794067:Unit:=()
def tw8423263920089888434:Unit:=()
def tw16239447595234791788:Unit:=()
def tw844229050762485908:Unit:=()
def tw4741063515357066348:Unit:=()
def tw5944764143258187205:Unit:=()
def tw12846704181789848547:Unit:=()
def tw15559540431710882939:Unit:=()
def tw6086692162556059939:Unit:=()
def tw8114787170398405219:Unit:=()
def tw8254844473553983634:Unit:=()
def tw13002293292255432518:Unit:=()
def tw12104844161383476136:Unit:=()
def tw18216051315272233386:Unit:=()
def tw5676771755449427728:Unit:=()
def tw11945361083650186046:Unit:=()
def tw9135731739176715129:Unit:=()
def tw17735620978261409871:Unit:=()
def tw15766805071682371214:Unit:=()
def tw13143934023796476202:Unit:=()
def tw15006120505770693121:Unit:=()
def tw8589412326467657575:Unit:=()
def tw12808645272154069435:Unit:=()
def tw18128387736434776660:Unit:=()
def tw10827004842855619141:Unit:=()
def tw14414759496753370546:Unit:=()
def tw12282149504703075527:Unit:=()
def tw1565363107174664895:Unit:=()
def tw11552089571757064159:Unit:=()
def tw11643898642430944854:Unit:=()
def tw17831230329959008120:Unit:=()
def tw8558173153544568426:Unit:=()
def tw10066313793891415614:Unit:=()
def tw18080975612883820590:Unit:=()
def tw10141030421339307259:Unit:=()
def tw16870076675067281418:Unit:=()
def tw6352759779783234719:Unit:=()
def tw483080571199866780:Unit:=()
def tw7055243321075354037:Unit:=()
def tw11279629412625464775:Unit:=()
def tw7535602109725028061:Unit:=()
def tw13544073677217363512:Unit:=()
def tw8398484201974400284:Unit:=()
def tw3000983596454783370:Unit:=()
def tw7653369940739499371:Unit:=()
def tw11260838679500481798:Unit:=()
def tw695720334907729227:Unit:=()
def tw11387941840390564115:Unit:=()
def tw17384037766255112792:Unit:=()
def tw5896600201079725119:Unit:=()
def tw17368627524973404795:Unit:=()
def tw13752542048876699177:Unit:=()
def tw408234784019061527:Unit:=()
def tw11346033330772176813:Unit:=()
def tw7656725998058798636:Unit:=()
def tw15164935910762862407:Unit:=()
def tw8557609450382658354:Unit:=()
def tw11426109855223439957:Unit:=()
def tw9074590859597090710:Unit:=()
def tw6502888307535234377:Unit:=()
def tw8102479119662821083:Unit:=()
def tw12934778708543090975:Unit:=()
def tw7370859850813265381:Unit:=()
def tw11306693920390740614:Unit:=()
def tw13017889936387671155:Unit:=()
def tw11661164300091676229:Unit:=()
def tw6089705938884196664:Unit:=()
def tw6458297752715052254:Unit:=()
def tw15871874547856564028:Unit:=()
def tw4861376165397635959:Unit:=()
def tw2321829367058792030:Unit:=()
def tw12206906903410004641:Unit:=()
def tw2622599300502614434:Unit:=()
def tw370030490904242189:Unit:=()
def tw17648926284773932879:Unit:=()
def tw15130383995712590057:Unit:=()
def tw4482584725579391308:Unit:=()
def tw8952868977844078738:Unit:=()
def tw16389016567185878213:Unit:=()
def tw6435149989366366529:Unit:=()
def tw15280917697607015072:Unit:=()
def tw4967149449779398185:Unit:=()
def tw9267083682328804029:Unit:=()
def tw7148313941401015361:Unit:=()
def tw11930362672958874689:Unit:=()
def tw7137095760114008145:Unit:=()
def tw3975625174734522775:Unit:=()
def tw3082621589660679007:Unit:=()
def tw15957955106205521124:Unit:=()
def tw16839657004061747370:Unit:=()
def tw2264488732494759524:Unit:=()
def tw7570089335377356312:Unit:=()
def tw1359068766972252583:Unit:=()
def tw3936083747027679480:Unit:=()
def tw5942100526841567402:Unit:=()
def tw1211551400008168509:Unit:=()
def tw4149731198114655498:Unit:=()
def tw9369938056080374528:Unit:=()
def tw12187276920472084065:Unit:=()
def tw12552714104540275257:Unit:=()
def tw6080941327101680571:Unit:=()
def tw76027978839354809:Unit:=()
def tw17937724983953711947:Unit:=()
def tw1429217903955134423:Unit:=()
def tw16081392266939869600:Unit:=()
def tw2607730419622927942:Unit:=()
def tw9148091283762621267:Unit:=()
def tw704703481387770993:Unit:=()
def tw4901991947535220744:Unit:=()
def tw7952647110883195468:Unit:=()
def tw9047919044562219646:Unit:=()
def tw2486152331658835455:Unit:=()
def tw2431400266806226223:Unit:=()
def tw6181081686466598947:Unit:=()
def tw9992583765773636608:Unit:=()
def tw16775828089233457457:Unit:=()
def tw8652375605463489566:Unit:=()
def tw13134502153851105115:Unit:=()
end PySem.W.Fast
namespace L2
open PySem PySem.Spec PyProof.Rows
abbrev Key:=Sum Int Str
def keyIs:Key->Value->Bool
  | .inl k,v=>Value.isInt k v
  | .inr x,v=>Value.isStrOf x v
def keyH (w:World):Key->Int
  | .inl k=>hashInt k
  | .inr x=>hashStr w x
theorem yv:∀ {k:Key} {v:Value},keyIs k v=true->(∃ i t,k=Sum.inl i/\v=Value.int i t)∨(∃ x t,k=Sum.inr x/\v=Value.str x t)
  | .inl i,v,h=>by
    obtain ⟨t,e⟩:=Value.isInt_shape (k:=i) (v:=v) h
    exact .inl ⟨i,t,rfl,e⟩
  | .inr x,v,h=>by
    obtain ⟨t,e⟩:=Value.isStrOf_shape (x:=x) (v:=v) h
    exact .inr ⟨x,t,rfl,e⟩
theorem keyIs_int (i:Int) (t:Tok):keyIs (.inl i) (.int i t)=true:=by simp [keyIs,Value.isInt]
theorem keyIs_str (x:Str) (t:Tok):keyIs (.inr x) (.str x t)=true:=by simp [keyIs,Value.isStrOf]
theorem key_ll (a b:Int):decide ((Sum.inl a:Key)=Sum.inl b)=(a == b):=by
  by_cases e:a=b
  · subst e;simp
  · have h:¬ (Sum.inl a:Key)=Sum.inl b:=fun q=>e (Sum.inl.inj q)
    rw [decide_eq_false h]
    exact (beq_eq_false_iff_ne.mpr e).symm
theorem key_rr (a b:Str):decide ((Sum.inr a:Key)=Sum.inr b)=decide (a=b):=by
  by_cases e:a=b
  · subst e;simp
  · have h:¬ (Sum.inr a:Key)=Sum.inr b:=fun q=>e (Sum.inr.inj q)
    rw [decide_eq_false h,decide_eq_false e]
theorem key_lr (a:Int) (b:Str):decide ((Sum.inl a:Key)=Sum.inr b)=false:=decide_eq_false (fun q=>nomatch q)
theorem key_rl (a:Str) (b:Int):decide ((Sum.inr a:Key)=Sum.inl b)=false:=decide_eq_false (fun q=>nomatch q)
def zW (prog:Program) (w:World):PySem.KeyKind prog w Key where
  is:=keyIs
  hash:=keyH w
  inj:=fun v a b ha hb=>by
    rcases yv ha with ⟨i,t,rfl,rfl⟩ | ⟨x,t,rfl,rfl⟩
    · rcases yv hb with ⟨j,u,rfl,e⟩ | ⟨y,u,rfl,e⟩
      · injection e with e1 _;rw [e1]
      · exact nomatch e
    · rcases yv hb with ⟨j,u,rfl,e⟩ | ⟨y,u,rfl,e⟩
      · exact nomatch e
      · injection e with e1 _;rw [e1]
  byValue:=fun k v h=>by
    rcases yv h with ⟨i,t,rfl,rfl⟩ | ⟨x,t,rfl,rfl⟩ <;> rfl
  pyHash:=fun hv h=>by
    rcases yv hv with ⟨i,t,rfl,rfl⟩ | ⟨x,t,rfl,rfl⟩
    · exact wpAny_pyHash_int h
    · exact wpAny_pyHash_str h
  eqBool:=fun hu hv h=>by
    rcases yv hu with ⟨i,t,rfl,rfl⟩ | ⟨x,t,rfl,rfl⟩
    · rcases yv hv with ⟨j,u,rfl,rfl⟩ | ⟨y,u,rfl,rfl⟩
      · rw [key_ll] at h;exact wpAny_eqBool_int h
      · rw [key_lr] at h;exact SeqAt.EqAt.int_str i t y u _ _ _ _ h
    · rcases yv hv with ⟨j,u,rfl,rfl⟩ | ⟨y,u,rfl,rfl⟩
      · rw [key_rl] at h;exact SeqAt.EqAt.str_int x t j u _ _ _ _ h
      · rw [key_rr] at h;exact wpAny_eqBool_str h
  «strs»:=fun k x t v h=>by
    rcases yv h with ⟨i,u,rfl,e⟩ | ⟨y,u,rfl,e⟩
    · exact nomatch e
    · injection e with e1 _
      subst e1
      cases v <;> rfl
theorem mixKind_int (prog:Program) (w:World) (i:Int) (t:Tok):(zW prog w).is (.inl i) (.int i t)=true:=keyIs_int i t
theorem mixKind_str (prog:Program) (w:World) (x:Str) (t:Tok):(zW prog w).is (.inr x) (.str x t)=true:=keyIs_str x t
end L2
namespace L2
open PySem PySem.Spec PyProof.Rows
inductive V where
  | non | bl (b:Bool) | int (i:Int) | str (x:Str) | byt (b:Array UInt8) | flt (b:UInt64) | ref (a:Addr) | ty (n:String)
  deriving DecidableEq
def RelV:V->Value->Prop
  | .non,u=>u=Value.none
  | .bl b,u=>u=Value.bool b
  | .int i,u=>∃ t,u=Value.int i t
  | .str x,u=>∃ t,u=Value.str x t
  | .byt b,u=>∃ t,u=Value.bytes b t
  | .flt b,u=>∃ t,u=Value.float b t
  | .ref a,u=>u=Value.ref a
  | .ty n,u=>u=Value.type n
abbrev Vals:List V->List Value->Prop:=Paired RelV
theorem Vals.length {xs:List V} {us:List Value} (r:Vals xs us):xs.length=us.length:=Paired.length r
theorem Vals.get:∀ {xs:List V} {us:List Value} {i:Nat} {x:V},Vals xs us->xs[i]?=some x->∃ u,us[i]?=some u/\RelV x u
  | _,_,_,_,.nil,e=>by simp at e
  | _,_,0,_,.cons r _,e=>by simp at e;subst e;exact ⟨_,rfl,r⟩
  | _,_,i+1,x,.cons _ t,e=>by
    obtain ⟨u,h1,h2⟩:=Vals.get (i:=i) (x:=x) t (by simpa using e)
    exact ⟨u,by simpa using h1,h2⟩
theorem Vals.set {x:V} {u:Value} (r:RelV x u):∀ {xs:List V} {us:List Value} (i:Nat),Vals xs us->Vals (xs.set i x) (us.set i u)
  | _,_,_,.nil=>.nil
  | _,_,0,.cons _ t=>.cons r t
  | _,_,i+1,.cons q t=>.cons q (Vals.set r i t)
theorem Vals.append:∀ {xs ys:List V} {us ws:List Value},Vals xs us->Vals ys ws->Vals (xs++ys) (us++ws)
  | _,_,_,_,.nil,s=>s
  | _,_,_,_,.cons r t,s=>.cons r (Vals.append t s)
theorem Vals.take:∀ {xs:List V} {us:List Value} (n:Nat),Vals xs us->Vals (xs.take n) (us.take n)
  | _,_,0,_=>.nil
  | _,_,_+1,.nil=>.nil
  | _,_,n+1,.cons r t=>.cons r (Vals.take n t)
theorem Vals.drop:∀ {xs:List V} {us:List Value} (n:Nat),Vals xs us->Vals (xs.drop n) (us.drop n)
  | _,_,0,r=>r
  | _,_,_+1,.nil=>.nil
  | _,_,n+1,.cons _ t=>Vals.drop n t
def RelO:Option V->Option Value->Prop
  | some v,some u=>RelV v u
  | none,none=>True
  | _,_=>False
def KV {κ:Type}:List (κ×V)->List (κ×Value)->Prop:=Paired fun (p:κ×V) (q:κ×Value)=>p.1=q.1/\RelV p.2 q.2
def kV:Key->V
  | .inl i=>.int i
  | .inr x=>.str x
inductive HO where
    | lst (xs:List V)
    | tup (xs:List V)
    | dK (kvs:List (Key×V)) | dT (kvs:List (List Key×V))
    | set (S:Int->Bool) (n:Nat)
    | ins (C dx:Addr) (fs:List (Str×V))
    | own (x:Addr)
    | xd (fs:List (Str×V))
    | met (f x:Addr)
    | rng (lo hi:Int)
    | frz (o:Obj) (u:HO)
    | tbl (ps:Array Value)
    | ext (φ:Heap->Prop)
abbrev Hp:=Addr->Option HO
def upd (H:Hp) (a:Addr) (o:HO):Hp:=fun b=>if b=a then some o else H b
theorem zg {H:Hp} {a:Addr} {o:HO}:upd H a o a=some o:=by unfold upd;rw [if_pos rfl]
theorem zo {H:Hp} {a b:Addr} {o:HO} (h:b≠a):upd H a o b=H b:=by unfold upd;rw [if_neg h]
theorem ne_of {H:Hp} {a b:Addr} {o u:HO} (h:H a=some o) (h':H b=some u) (d:o≠u):a≠b:=by
  intro e;subst e;rw [h] at h';exact d (Option.some.inj h')
theorem zw {H:Hp} {a b:Addr} {o:HO} (h:H a=some o) (h':H b=none):a≠b:=by
  intro e;subst e;rw [h] at h';cases h'
section
variable (P:Program) (w:World)
def ObjOk (H:Hp) (h:Heap) (a:Addr):HO->Prop
  | .lst xs=>xs.length<=sizeLine/\∃ (its:List Value) (n:Nat),Vals xs its/\h.get? a=some { cls:=.type "list",data:=.seq its.toArray n }
  | .tup xs=>xs.length<=sizeLine/\∃ its:List Value,Vals xs its/\IsTup h a its.toArray
  | .dK kvs=>kvs.length<=sizeLine/\(a == sysModules)=false/\∃ vs,KV kvs vs/\h.DictOf (zW P w) a vs
  | .dT kvs=>kvs.length<=sizeLine/\(a == sysModules)=false/\∃ xs:List (List Key×Addr×Value),
      Paired (fun (p:List Key×V) (q:List Key×Addr×Value)=>p.1=q.1/\H q.2.1=some (.tup (p.1.map kV))/\RelV p.2 q.2.2) kvs xs /\
      ∃ o es ep,h.get? a=some o/\o.ExactDict/\o.data=.dict es ep/\es.toList=xs.map (entryOfKey (tupleKind (zW P w)))/\(xs.map (·.1)).Nodup
  | .set S n=>h.SetOf (intKind P w) a S n
  | .ins C dx fs=>H dx=some (.own a)/\fs.length<=1000/\dx≠a/\h.get? a=some (PySem.W.instObj C dx) /\
      ∃ mA,h.Ns1 dx mA/\(∀ f,RelO (fs.lookup f) (mA f))/\PySem.Within mA (fs.map (·.1))
  | .own _=>∃ o,h.get? a=some o
  | .xd fs=>∃ mA,h.Ns1 a mA/\∀ f,RelO (fs.lookup f) (mA f)
  | .rng lo hi=>∃ t u v,h.get? a=some { cls:=.type "range",data:=.fields #[.int lo t,.int hi u,.int 1 v] }
  | .frz o u=>h.get? a=some o/\ObjOk H h a u
  | .tbl ps=>h.get? a=some { cls:=.none,data:=.fields ps }
  | .met f x=>h.get? a=some (PySem.W.methodObj (.ref f) (.ref x))
  | .ext φ=>φ h/\(∃ o,h.get? a=some o)/\∀ h1 h2:Heap,φ h1->(∀ o,h1.get? a=some o->h2.get? a=some o)->φ h2
def HOk (H:Hp) (h:Heap):Prop:=∀ a o,H a=some o->ObjOk P w H h a o
end
section
variable {P:Program} {w:World} {H H':Hp} {h h':Heap} {a:Addr} {o:HO}
theorem ObjOk.lt (x:ObjOk P w H h a o):a<h.objs.size:=by
  cases o with
  | lst xs=>obtain ⟨_,_,_,_,e⟩:=x;exact Heap.lt_size e
  | tup xs=>obtain ⟨_,_,_,p⟩:=x;exact p.lt
  | dK kvs=>obtain ⟨_,_,_,_,o,_,_,e,_⟩:=x;exact Heap.lt_size e
  | dT kvs=>obtain ⟨_,_,_,_,o,_,_,e,_⟩:=x;exact Heap.lt_size e
  | set S n=>obtain ⟨o,_,_,_,e,_⟩:=x;exact Heap.lt_size e
  | ins C dx fs=>obtain ⟨_,_,_,e,_⟩:=x;exact Heap.lt_size e
  | own y=>obtain ⟨_,e⟩:=x;exact Heap.lt_size e
  | xd fs=>obtain ⟨_,⟨_,_,_,e,_⟩,_⟩:=x;exact Heap.lt_size e
  | rng lo hi=>obtain ⟨_,_,_,e⟩:=x;exact Heap.lt_size e
  | frz ob u=>obtain ⟨e,_⟩:=x;exact Heap.lt_size e
  | tbl ps=>exact Heap.lt_size (show h.get? a=some _ from x)
  | met f y=>exact Heap.lt_size (show h.get? a=some _ from x)
  | ext φ=>obtain ⟨_,⟨_,e⟩,_⟩:=x;exact Heap.lt_size e
theorem Paired.mapP {α β:Type} {F G:α->β->Prop}:∀ {l₁:List α} {l₂:List β},Paired F l₁ l₂->(∀ a b,F a b->G a b)->Paired G l₁ l₂
  | _,_,.nil,_=>.nil
  | _,_,.cons r t,f=>.cons (f _ _ r) (Paired.mapP t f)
theorem ObjOk.stay (x:ObjOk P w H h a o) (k:∀ b u,(b=a∨H b=some (.own a))->h.get? b=some u->h'.get? b=some u)
    (ho:∀ b,H b=some (.own a)->H' b=some (.own a)) (ht:∀ b xs,H b=some (.tup xs)->H' b=some (.tup xs)):ObjOk P w H' h' a o:=by
  induction o with
  | lst xs=>obtain ⟨z,its,n,r,e⟩:=x;exact ⟨z,its,n,r,k _ _ (.inl rfl) e⟩
  | tup xs=>obtain ⟨z,its,r,ob,e,c⟩:=x;exact ⟨z,its,r,ob,k _ _ (.inl rfl) e,c⟩
  | dK kvs=>obtain ⟨z,y,vs,r,ob,es,ep,e,c⟩:=x;exact ⟨z,y,vs,r,ob,es,ep,k _ _ (.inl rfl) e,c⟩
  | dT kvs =>
    obtain ⟨z,y,xs,r,ob,es,ep,e,c⟩:=x
    exact ⟨z,y,xs,Paired.mapP r fun p q z=>⟨z.1,ht _ _ z.2.1,z.2.2⟩,ob,es,ep,k _ _ (.inl rfl) e,c⟩
  | set S n=>obtain ⟨ob,es,ep,t,e,c⟩:=x;exact ⟨ob,es,ep,t,k _ _ (.inl rfl) e,c⟩
  | ins C dx fs =>
    obtain ⟨d,z,ne,e,mA,⟨od,es,ep,e2,c⟩,r⟩:=x
    exact ⟨ho _ d,z,ne,k _ _ (.inl rfl) e,mA,⟨od,es,ep,k _ _ (.inr d) e2,c⟩,r⟩
  | own y=>obtain ⟨ob,e⟩:=x;exact ⟨ob,k _ _ (.inl rfl) e⟩
  | xd fs=>obtain ⟨mA,⟨od,es,ep,e,c⟩,r⟩:=x;exact ⟨mA,⟨od,es,ep,k _ _ (.inl rfl) e,c⟩,r⟩
  | rng lo hi=>obtain ⟨t,u,v,e⟩:=x;exact ⟨t,u,v,k _ _ (.inl rfl) e⟩
  | frz ob u ih=>obtain ⟨e,q⟩:=x;exact ⟨k _ _ (.inl rfl) e,ih q⟩
  | tbl ps =>
    have e:h.get? a=some { cls:=.none,data:=.fields ps }:=x
    show h'.get? a=some { cls:=.none,data:=.fields ps }
    exact k a _ (.inl rfl) e
  | met f y =>
    have e:h.get? a=some (PySem.W.methodObj (.ref f) (.ref y)):=x
    show h'.get? a=some (PySem.W.methodObj (.ref f) (.ref y))
    exact k a _ (.inl rfl) e
  | ext φ=>obtain ⟨p,⟨o,e⟩,st⟩:=x;exact ⟨st _ _ p fun o q=>k _ _ (.inl rfl) q,⟨o,k _ _ (.inl rfl) e⟩,st⟩
theorem HOk.lt (x:HOk P w H h) (e:H a=some o):a<h.objs.size:=(x a o e).lt
theorem HOk.fresh (x:HOk P w H h) (e:h.objs.size<=a):H a=none:=by
  cases q:H a with
  | none=>rfl
  | some u=>exact absurd (Nat.lt_of_lt_of_le (x.lt q) e) (Nat.lt_irrefl _)
theorem HOk.kept (x:HOk P w H h) (k:∀ b u,h.get? b=some u->h'.get? b=some u):HOk P w H h':=fun a o e =>
  (x a o e).stay (fun b u _ q=>k b u q) (fun _ q=>q) fun _ _ q=>q
theorem HOk.laid (x:HOk P w H h) (k:∀ b u,h.get? b=some u->h'.get? b=some u) (hp:h.objs.size<=a) (new:ObjOk P w (upd H a o) h' a o):HOk P w (upd H a o) h':=fun b u e=>by
  have hn:=x.fresh hp
  by_cases hb:b=a
  · subst hb;rw [zg] at e;cases e;exact new
  · rw [zo hb] at e
    exact (x b u e).stay (fun c v _ q=>k c v q) (fun c q=>by rw [zo (zw q hn)];exact q) fun c xs q=>by rw [zo (zw q hn)];exact q
end
def Rd (H:Hp) (a:Addr) (u:HO):Prop:=H a=some u∨∃ o,H a=some (.frz o u)
theorem Rd.ok {P:Program} {w:World} {H:Hp} {h:Heap} {a:Addr} {u:HO} (r:Rd H a u) (x:HOk P w H h):ObjOk P w H h a u:=by
  rcases r with r | ⟨o,r⟩
  · exact x a u r
  · obtain ⟨_,q⟩:=x a _ r
    exact q
def Mut:Option HO->Prop
  | some (.lst _)=>True
  | some (.dK _)=>True
  | some (.dT _)=>True
  | some (.set _ _)=>True
  | some (.ins _ _ _)=>True
  | some (.ext _)=>True
  | _=>False
section
variable {P:Program} {w:World} {H:Hp} {h h':Heap} {x e:Addr} {o':HO}
theorem HOk.write (ok:HOk P w H h) (mu:Mut (H x)) (he:e=x∨H e=some (.own x)) (k:∀ b u,b≠e->h.get? b=some u->h'.get? b=some u) (heo:∃ u,h'.get? e=some u)
    (new:ObjOk P w (upd H x o') h' x o'):HOk P w (upd H x o') h':=fun b u q=>by
  have nown:∀ c y,H c=some (.own y)->c≠x:=fun c y r z=>by subst z;rw [r] at mu;exact mu
  have ntup:∀ c xs,H c=some (.tup xs)->c≠x:=fun c xs r z=>by subst z;rw [r] at mu;exact mu
  by_cases hb:b=x
  · subst hb;rw [zg] at q;cases q;exact new
  · rw [zo hb] at q
    by_cases hbe:b=e
    · have q':H b=some (.own x):=by
        rcases he with z | z
        · exact absurd (hbe.trans z) hb
        · rw [hbe];exact z
      rw [q] at q';cases q'
      obtain ⟨v,hv⟩:=heo
      exact ⟨v,by rw [hbe];exact hv⟩
    · refine (ok b u q).stay (fun c v hc r=>k c v ?_ r) (fun c r=>by rw [zo (nown c b r)];exact r) fun c xs r=>by rw [zo (ntup c xs r)];exact r
      rcases hc with rfl | hc
      · exact hbe
      · rintro rfl
        rcases he with z | z
        · exact nown c b hc z
        · rw [hc] at z;cases z;exact hb rfl
end
structure Un (fs ex:List Addr) (H H':Hp) (h h':Heap):Prop where
  keep:∀ b o,h.get? b=some o->H b=none->b ∉ fs->b ∉ ex->h'.get? b=some o
  slot:∀ b o,h.get? b=some o->H b=none->b∈fs->b ∉ ex->∃ sl,h'.get? b=some { o with slots:=sl }
  free:∀ b o,h.get? b=some o->H b=none->b ∉ ex->H' b=none
  there:∀ b o,h.get? b=some o->b ∉ ex->∃ o',h'.get? b=some o'
  tups:∀ b xs,H b=some (.tup xs)->H' b=some (.tup xs)
  frzs:∀ b o u,H b=some (.frz o u)->H' b=some (.frz o u)
  tbls:∀ b ps,H b=some (.tbl ps)->∃ more,H' b=some (.tbl (ps++more))
section
variable {fs fs' ex ex':List Addr} {H H1 H2:Hp} {h h1 h2 h':Heap} {a x e:Addr} {o:HO}
theorem Un.any (u:Un fs ex H H1 h h1) {b:Addr} {ob:Obj} (q:h.get? b=some ob) (n:H b=none) (hx:b ∉ ex):∃ sl,h1.get? b=some { ob with slots:=sl }:=by
  by_cases hb:b∈fs
  · exact u.slot b ob q n hb hx
  · exact ⟨ob.slots,u.keep b ob q n hb hx⟩
theorem Un.kept (k:∀ b u,h.get? b=some u->h'.get? b=some u):Un fs ex H H h h' :=
  ⟨fun b ob q _ _ _=>k b ob q,fun b ob q _ _ _=>⟨ob.slots,k b ob q⟩,fun _ _ _ n _=>n,fun b ob q _=>⟨ob,k b ob q⟩,fun _ _ q=>q,fun _ _ _ q=>q,fun _ ps q=>⟨#[],by rw [q];simp⟩⟩
theorem Un.refl:Un fs ex H H h h:=Un.kept fun _ _ q=>q
theorem Un.laid (k:∀ b u,h.get? b=some u->h'.get? b=some u) (hp:h.objs.size<=a) (hn:H a=none):Un fs ex H (upd H a o) h h' where
  keep:=fun b u q _ _ _=>k b u q
  slot:=fun b u q _ _ _=>⟨u.slots,k b u q⟩
  free:=fun b u q n _=>by rw [zo (Nat.ne_of_lt (Nat.lt_of_lt_of_le (Heap.lt_size q) hp))];exact n
  there:=fun b u q _=>⟨u,k b u q⟩
  tups:=fun b xs q=>by rw [zo (zw q hn)];exact q
  frzs:=fun b u xs q=>by rw [zo (zw q hn)];exact q
  tbls:=fun b ps q=>⟨#[],by rw [zo (zw q hn),q];simp⟩
theorem Un.write (mu:Mut (H x)) (he:e=x∨H e=some (.own x)) (k:∀ b u,b≠e->h.get? b=some u->h'.get? b=some u) (heo:∃ u,h'.get? e=some u):Un fs ex H (upd H x o) h h':=by
  have hx:∀ b,H b=none->b≠x:=fun b n z=>by subst z;rw [n] at mu;exact mu
  have hb:∀ b,H b=none->b≠e:=fun b n z=>by
    subst z
    rcases he with r | r
    · exact hx b n r
    · rw [n] at r;cases r
  have hm:∀ b u,H b=some u->¬ Mut (some u)->b≠x:=fun b u q nm z=>by subst z;rw [q] at mu;exact nm mu
  refine ⟨fun b u q n _ _=>k b u (hb b n) q,fun b u q n _ _=>⟨u.slots,k b u (hb b n) q⟩,fun b u q n _=>by rw [zo (hx b n)];exact n,fun b u q _=>?_,
    fun b xs q=>by rw [zo (hm b _ q fun z=>z)];exact q,fun b u xs q=>by rw [zo (hm b _ q fun z=>z)];exact q,fun b ps q=>⟨#[],by rw [zo (hm b _ q fun z=>z),q];simp⟩⟩
  by_cases hbe:b=e
  · subst hbe;exact heo
  · exact ⟨u,k b u hbe q⟩
end
def trk (h:Heap) (H:Hp):List Addr:=(List.range h.objs.size).filter fun a=>(H a).isSome
def hidT (h:Heap) (H:Hp):Heap:=PySem.W.hideAll h (trk h H)
theorem hidT_size (h:Heap) (H:Hp):(hidT h H).objs.size=h.objs.size:=PySem.W.hideAll_size _ _
theorem hidT_get {h:Heap} {H:Hp} {b:Addr} {o:Obj} (e:h.get? b=some o) (n:H b=none):(hidT h H).get? b=some o :=
  PySem.W.hideAll_get _ e fun hm=>by
    have q:(H b).isSome=true:=(List.mem_filter.mp hm).2
    rw [n] at q;simp at q
theorem of_hidT {h:Heap} {H:Hp} {b:Addr} {o:Obj} (e:(hidT h H).get? b=some o):h.get? b=some o/\H b=none:=by
  have e':h.get? b=some o:=PySem.W.of_hideAll (trk h H) e
  refine ⟨e',?_⟩
  cases q:H b with
  | none=>rfl
  | some x =>
    have hm:b∈trk h H:=List.mem_filter.mpr ⟨List.mem_range.mpr (Heap.lt_size e'),by simp [q]⟩
    have z:(hidT h H).get? b=none:=PySem.W.hideAll_none (trk h H) hm
    rw [z] at e;cases e
def allNews (g h:Heap) (L:Addr):List (Addr×Obj):=(List.range h.objs.size).filterMap fun a=>if a=L∨(g.get? a).isSome=true then none else (h.get? a).map fun o=>(a,o)
theorem mem_allNews {g h:Heap} {L a:Addr} {o:Obj} (h1:a≠L) (h2:g.get? a=none) (h3:h.get? a=some o):(a,o)∈allNews g h L :=
  List.mem_filterMap.mpr ⟨a,List.mem_range.mpr (Heap.lt_size h3),by simp [h1,h2,h3]⟩
theorem of_mem_allNews {g h:Heap} {L:Addr} {p:Addr×Obj} (hp:p∈allNews g h L):p.1≠L/\g.get? p.1=none/\h.get? p.1=some p.2:=by
  obtain ⟨b,_,e⟩:=List.mem_filterMap.mp hp
  split at e
  · cases e
  · rename_i hn
    cases q:h.get? b with
    | none=>rw [q] at e;simp at e
    | some u =>
      rw [q] at e
      simp only [Option.map_some,Option.some.injEq] at e
      subst e
      refine ⟨fun z=>hn (.inl z),?_,q⟩
      show g.get? b=none
      cases r:g.get? b with
      | none=>rfl
      | some v=>exact (hn (.inr (by simp [r]))).elim
def rest (g h:Heap) (L d:Addr):List (Addr×Obj):=(allNews g h L).filter fun p=>decide (p.1≠d)
theorem news_all {g h:Heap} {L:Addr}:News g L h (allNews g h L):=fun p hp=>let ⟨a,b,c⟩:=of_mem_allNews hp;⟨c,a,b⟩
end L2
namespace L2
open PySem PySem.Spec PyProof.Rows
structure Mod (K:PySem.W.Frag) (mg:Str->Option Value) (base:Heap):Prop where
  kin:K.In base
  glob:base.Ns mainGlobals mg
  blt:∃ mb,base.Ns builtinsNs mb/\∀ x:Str,x≠"__name__"->mb x=bootBuiltins x
  nolimit:base.NoLimit
structure Cx where
  prog:Program
  w:World
  K:PySem.W.Frag
  mg:Str->Option Value
  base:Heap
  A:Around
  N:List Str
  s₀:Shared
  H₀:Hp
  env:Env
  outer:List Env
  stack:List Env
  ex:List Addr
  fn:Str->Bool
  calm:Bool
  pn:List (Addr×Obj)
  xe:Value->Shared->Prop
def frs (l:List Env):List Addr:=l.filterMap (·.frame)
abbrev Cx.fs (X:Cx):List Addr:=frs X.outer
def Vis (sc:Scope) (x:Str):Prop:=sc.names.lookup x=some .local∨sc.names.lookup x=some .cell∨sc.names.lookup x=some .free
def Loc (sc:Scope) (x:Str):Prop:=sc.names.lookup x=some .local∨sc.names.lookup x=some .cell
def Look (env:Env) (h:Heap) (m:Str->Option Value) (x:Str) (u:Value):Prop :=
  (env.kindOf x=some .local/\m x=some u)∨((env.kindOf x=some .cell∨env.kindOf x=some .free)/\∃ c,env.cells.lookup x=some c/\h.IsCell c (some u))
structure Cx.Ok (X:Cx):Prop where
  mod:Mod X.K X.mg X.base
  kind:X.env.scope.kind=.function
  glob:X.env.globals=mainGlobals
  blt:X.env.builtins=builtinsNs
  above:X.s₀.heap.objs.size<=X.env.locals
  inj:∀ x y c,X.env.cells.lookup x=some c->X.env.cells.lookup y=some c->x=y
  has:∀ x,(X.env.kindOf x=some .cell∨X.env.kindOf x=some .free)->∃ c,X.env.cells.lookup x=some c
  cab:∀ x c,X.fn x=true->X.env.cells.lookup x=some c->X.s₀.heap.objs.size<=c
  hd:X.calm=true->X.A.handled=none
  frames:X.A.frames=some X.stack
  stk:X.stack=X.outer∨(X.stack=X.env::X.outer/\X.env.frame=some X.env.locals)
  exf:∀ b∈X.ex,b≠X.env.locals/\∀ x c,X.env.cells.lookup x=some c->c≠b
  bs:∀ b o,X.base.get? b=some o->X.s₀.heap.get? b=some o/\X.H₀ b=none
  bsz:X.base.objs.size<=X.s₀.heap.objs.size
  noex:∀ b o,X.base.get? b=some o->b ∉ X.ex
  exfs:∀ b∈X.ex,b ∉ X.fs
  funs:X.s₀.heap.FunFrames X.base X.outer
  frf:∀ b∈X.fs,X.H₀ b=none
structure Inv (X:Cx) (pins:List (Addr×Obj)) (σ:List (Option V)) (H:Hp) (s:Shared):Prop where
  ok:X.Ok
  os:s.os=X.s₀.os
  bare:AllBare s.gens
  base:Un X.fs X.ex X.H₀ H X.s₀.heap s.heap
  loc:∃ m,s.heap.Ns X.env.locals m/\∀ (i:Nat) (x:Str) (v:V),X.N[i]?=some x->σ[i]?=some (some v)->Vis X.env.scope x->∃ u,RelV v u/\Look X.env s.heap m x u
  cell:∀ x c,X.env.cells.lookup x=some c->∃ v,s.heap.IsCell c v
  free:H X.env.locals=none
  freeC:∀ x c,X.env.cells.lookup x=some c->H c=none
  pin:∀ p∈X.pn++pins,s.heap.get? p.1=some p.2/\H p.1=none/\p.1≠X.env.locals/\p.1 ∉ X.fs/\∀ v,p.2.data≠.cell v
  hok:HOk X.prog X.w H s.heap
  len:σ.length=X.N.length
section
variable {X:Cx} {pins:List (Addr×Obj)} {σ:List (Option V)} {H H':Hp} {s:Shared} {h':Heap}
theorem Cx.Ok.nofr (ok:X.Ok) {b:Addr} {o:Obj} (e:X.base.get? b=some o):b ∉ X.fs:=fun hb=>by
  have:=(ok.funs.mem hb).1
  rw [e] at this;cases this
theorem Inv.bs (I:Inv X pins σ H s):∀ b o,X.base.get? b=some o->s.heap.get? b=some o/\H b=none:=fun b o e =>
  ⟨I.base.keep b o (I.ok.bs b o e).1 (I.ok.bs b o e).2 (I.ok.nofr e) (I.ok.noex b o e),I.base.free b o (I.ok.bs b o e).1 (I.ok.bs b o e).2 (I.ok.noex b o e)⟩
theorem Inv.bk (I:Inv X pins σ H s):∀ b o,X.base.get? b=some o->s.heap.get? b=some o:=fun b o e=>(I.bs b o e).1
theorem Inv.mod (I:Inv X pins σ H s):Mod X.K X.mg X.base:=I.ok.mod
theorem Inv.kIn (I:Inv X pins σ H s):X.K.In s.heap:=I.ok.mod.kin.keeps I.bk
theorem Inv.lt (I:Inv X pins σ H s):X.env.locals<s.heap.objs.size:=let ⟨_,hn,_⟩:=I.loc;hn.lt
theorem Inv.sz (I:Inv X pins σ H s):X.s₀.heap.objs.size<=s.heap.objs.size:=Nat.le_trans I.ok.above (Nat.le_of_lt I.lt)
theorem Inv.nofs (I:Inv X pins σ H s) {a:Addr} (h:s.heap.objs.size<=a):a ∉ X.fs:=fun hb=>by
  obtain ⟨_,o,ho,_⟩:=I.ok.funs.mem hb
  exact absurd (Nat.lt_of_lt_of_le (Heap.lt_size ho) (Nat.le_trans I.sz h)) (Nat.lt_irrefl _)
theorem Inv.cne (I:Inv X pins σ H s):∀ x c,X.env.cells.lookup x=some c->c≠X.env.locals:=fun x c e z=>by
  obtain ⟨v,o,ho,hd⟩:=I.cell x c e
  obtain ⟨m,⟨o',es,ep,ho',hd',_⟩,_⟩:=I.loc
  rw [z,ho'] at ho;cases ho;rw [hd'] at hd;cases hd
theorem Inv.funs (I:Inv X pins σ H s):s.heap.FunFrames X.base X.outer:=by
  have all:∀ (l:List Env),(∀ b∈frs l,b∈X.fs)->X.s₀.heap.FunFrames X.base l->s.heap.FunFrames X.base l:=by
    intro l
    induction l with
    | nil=>intro _ _;trivial
    | cons env r ih =>
      intro hs hl
      obtain ⟨hk,⟨L,o,hf,hn,ho,hd⟩,hr⟩:=hl
      have hL:L∈X.fs:=hs L (by unfold frs;rw [List.filterMap_cons,hf];exact List.mem_cons_self)
      obtain ⟨sl,e⟩:=I.base.slot L o ho (I.ok.frf L hL) hL fun z=>I.ok.exfs L z hL
      exact ⟨hk,⟨L,_,hf,hn,e,hd⟩,ih (fun b hb=>hs b (by unfold frs;rw [List.filterMap_cons,hf];exact List.mem_cons_of_mem _ hb)) hr⟩
  exact all X.outer (fun _ hb=>hb) I.ok.funs
theorem Inv.stack (I:Inv X pins σ H s):s.heap.FunFrames X.base X.stack:=by
  rcases I.ok.stk with e | ⟨e,hf⟩
  · rw [e];exact I.funs
  · rw [e]
    obtain ⟨m,hn,_⟩:=I.loc
    refine .cons (by rw [I.ok.kind];decide) hf hn ?_ I.funs
    exact Heap.get?_none_of_le (Nat.le_trans I.ok.bsz I.ok.above)
theorem Inv.stkSub (I:Inv X pins σ H s):∀ b∈frs X.stack,b∈X.env.locals::X.fs:=fun b hb=>by
  rcases I.ok.stk with e | ⟨e,hf⟩
  · rw [e] at hb;exact List.mem_cons_of_mem _ hb
  · rw [e] at hb
    unfold frs at hb
    rw [List.filterMap_cons,hf] at hb
    exact hb
theorem Inv.stkFree (I:Inv X pins σ H s):∀ b∈frs X.stack,H b=none:=fun b hb=>by
  rcases List.mem_cons.mp (I.stkSub b hb) with e | hb
  · rw [e];exact I.free
  · obtain ⟨_,o,ho,_⟩:=I.ok.funs.mem hb
    exact I.base.free b o ho (I.ok.frf b hb) fun z=>I.ok.exfs b z hb
theorem Inv.step {g':Array GenState} {t':Nat} {d':Drawn} {ch:List Addr} (I:Inv X pins σ H s)
    (hch:∀ b∈ch,(b∈X.ex∨X.s₀.heap.objs.size<=b)/\b≠X.env.locals/\(∀ x c,X.env.cells.lookup x=some c->c≠b)/\∀ p∈X.pn++pins,p.1≠b)
    (keep:∀ b o,b≠X.env.locals->b ∉ X.fs->b ∉ ch->s.heap.get? b=some o->H b=none->h'.get? b=some o)
    (slot:∀ b o,b≠X.env.locals->b∈X.fs->b ∉ ch->s.heap.get? b=some o->H b=none->∃ sl,h'.get? b=some { o with slots:=sl }) (free:∀ b o,b ∉ ch->s.heap.get? b=some o->H b=none->H' b=none)
    (there:∀ b o,b ∉ ch->s.heap.get? b=some o->∃ o',h'.get? b=some o')
    (tups:∀ b xs,H b=some (.tup xs)->H' b=some (.tup xs)) (frzs:∀ b o u,H b=some (.frz o u)->H' b=some (.frz o u)) (tbls:∀ b ps,H b=some (.tbl ps)->∃ more,H' b=some (.tbl (ps++more)))
    (ns:∀ m,s.heap.Ns X.env.locals m->h'.Ns X.env.locals m) (hok:HOk X.prog X.w H' h') (hg:AllBare g') :
    Inv X pins σ H' { s with heap:=h',gens:=g',drawn:=d',toks:=t' }:=by
  have neL:∀ b o,X.s₀.heap.get? b=some o->b≠X.env.locals:=fun b o e=>Nat.ne_of_lt (Nat.lt_of_lt_of_le (Heap.lt_size e) I.ok.above)
  have neC:∀ b o,X.s₀.heap.get? b=some o->b ∉ X.ex->b ∉ ch:=fun b o e hx hb=>by
    rcases (hch b hb).1 with z | z
    · exact hx z
    · exact absurd (Nat.lt_of_lt_of_le (Heap.lt_size e) z) (Nat.lt_irrefl _)
  have cellK:∀ x c,X.env.cells.lookup x=some c->∀ v,s.heap.IsCell c v->h'.IsCell c v:=fun x c e v ⟨o,ho,hd⟩=>by
    have nch:c ∉ ch:=fun z=>(hch c z).2.2.1 x c e rfl
    by_cases hc:c∈X.fs
    · obtain ⟨sl,q⟩:=slot c o (I.cne x c e) hc nch ho (I.freeC x c e)
      exact ⟨_,q,hd⟩
    · exact ⟨o,keep c o (I.cne x c e) hc nch ho (I.freeC x c e),hd⟩
  refine ⟨I.ok,I.os,hg,⟨fun b o e n hb hx=>?_,fun b o e n hb hx=>?_,fun b o e n hx=>?_,fun b o e hx=>?_,fun b xs e=>tups b xs (I.base.tups b xs e),fun b o xs e=>frzs b o xs (I.base.frzs b o xs e),fun b ps e=>?_⟩,?_,fun x c e=>?_,?_,fun x c e=>?_,fun p hp=>?_,hok,I.len⟩
  · exact keep b o (neL b o e) hb (neC b o e hx) (I.base.keep b o e n hb hx) (I.base.free b o e n hx)
  · obtain ⟨sl,e1⟩:=I.base.slot b o e n hb hx
    obtain ⟨sl',e2⟩:=slot b _ (neL b o e) hb (neC b o e hx) e1 (I.base.free b o e n hx)
    exact ⟨sl',e2⟩
  · obtain ⟨o',e1⟩:=I.base.there b o e hx
    exact free b o' (neC b o e hx) e1 (I.base.free b o e n hx)
  · obtain ⟨o',e1⟩:=I.base.there b o e hx
    exact there b o' (neC b o e hx) e1
  · obtain ⟨m1,e1⟩:=I.base.tbls b ps e
    obtain ⟨m2,e2⟩:=tbls b _ e1
    exact ⟨m1++m2,by rw [e2,Array.append_assoc]⟩
  · obtain ⟨m,hn,hl⟩:=I.loc
    refine ⟨m,ns m hn,fun i x v e1 e2 e3=>?_⟩
    obtain ⟨u,r,l⟩:=hl i x v e1 e2 e3
    refine ⟨u,r,?_⟩
    rcases l with l | ⟨k,c,e,z⟩
    · exact .inl l
    · exact .inr ⟨k,c,e,cellK x c e _ z⟩
  · obtain ⟨v,z⟩:=I.cell x c e
    exact ⟨v,cellK x c e v z⟩
  · obtain ⟨m,⟨o,_,_,ho,_⟩,_⟩:=I.loc
    exact free _ o (fun z=>(hch _ z).2.1 rfl) ho I.free
  · obtain ⟨v,o,ho,hd⟩:=I.cell x c e
    exact free c o (fun z=>(hch c z).2.2.1 x c e rfl) ho (I.freeC x c e)
  · obtain ⟨e,n,ne,nf,d⟩:=I.pin p hp
    have nch:p.1 ∉ ch:=fun z=>(hch p.1 z).2.2.2 p hp rfl
    exact ⟨keep p.1 p.2 ne nf nch e n,free p.1 p.2 nch e n,ne,nf,d⟩
theorem Inv.un {t':Nat} (I:Inv X pins σ H s) (u:Un X.fs [] H H' s.heap h') (hok:HOk X.prog X.w H' h'):Inv X pins σ H' { s with heap:=h',toks:=t' }:=by
  obtain ⟨m,⟨o,es,ep,ho,r⟩,_⟩:=id I.loc
  obtain ⟨sl,hL⟩:=u.any ho I.free (by simp)
  exact I.step (g':=s.gens) (d':=s.drawn) (ch:=[]) (fun _ z=>nomatch z) (fun b o _ hb _ e n=>u.keep b o e n hb (by simp)) (fun b o _ hb _ e n=>u.slot b o e n hb (by simp)) (fun b o _ e n=>u.free b o e n (by simp)) (fun b o _ e=>u.there b o e (by simp)) u.tups u.frzs u.tbls (fun m' hm=>by
    obtain ⟨o',es',ep',ho',r'⟩:=hm
    rw [ho] at ho';cases ho'
    exact ⟨_,es',ep',hL,r'⟩) hok I.bare
theorem Inv.call {g':Array GenState} {t':Nat} {d':Drawn} {ch:List Addr} (I:Inv X pins σ H s) (u:Un (frs X.stack) ch H H' s.heap h') (hok:HOk X.prog X.w H' h') (hg:AllBare g')
    (hch:∀ b∈ch,(b∈X.ex∨X.s₀.heap.objs.size<=b)/\b≠X.env.locals/\(∀ x c,X.env.cells.lookup x=some c->c≠b)/\∀ p∈X.pn++pins,p.1≠b) :
    Inv X pins σ H' { s with heap:=h',gens:=g',drawn:=d',toks:=t' }:=by
  obtain ⟨m,⟨o,es,ep,ho,r⟩,_⟩:=id I.loc
  obtain ⟨sl,hL⟩:=u.any ho I.free fun z=>(hch _ z).2.1 rfl
  exact I.step (ch:=ch) hch (fun b o hL hb hc e n=>u.keep b o e n (fun z=>(List.mem_cons.mp (I.stkSub b z)).elim hL hb) hc) (fun b o _ _ hc e n=>u.any e n hc) (fun b o hc e n=>u.free b o e n hc) (fun b o hc e=>u.there b o e hc) u.tups u.frzs u.tbls (fun m' hm=>by
    obtain ⟨o',es',ep',ho',r'⟩:=hm
    rw [ho] at ho';cases ho'
    exact ⟨_,es',ep',hL,r'⟩) hok hg
theorem Inv.turned {t':Nat} {it:Addr} (I:Inv X pins σ H s) (k:∀ b o,b≠it->s.heap.get? b=some o->h'.get? b=some o) (hn:H it=none) (hL:it≠X.env.locals)
    (h1:it∈X.ex∨X.s₀.heap.objs.size<=it) (h2:∀ x c,X.env.cells.lookup x=some c->c≠it) (h3:∀ p∈X.pn++pins,p.1≠it):Inv X pins σ H { s with heap:=h',toks:=t' }:=by
  have nit:∀ b u,H b=some u->b≠it:=fun b u e z=>by rw [z,hn] at e;cases e
  refine I.step (g':=s.gens) (d':=s.drawn) (ch:=[it]) (fun b hb=>?_) (fun b o _ _ hc e _=>k b o (fun z=>hc (by simp [z])) e) (fun b o _ _ hc e _=>⟨o.slots,k b o (fun z=>hc (by simp [z])) e⟩) (fun _ _ _ _ n=>n)
    (fun b o hc e=>⟨o,k b o (fun z=>hc (by simp [z])) e⟩) (fun _ _ e=>e) (fun _ _ _ e=>e) (fun b ps e=>⟨#[],by rw [e];simp⟩) (fun m hm=>?_) (fun b u e=>?_) I.bare
  · have e:b=it:=by simpa using hb
    subst e
    exact ⟨h1,hL,h2,h3⟩
  · obtain ⟨o,es,ep,ho,r⟩:=hm
    exact ⟨o,es,ep,k _ o (Ne.symm hL) ho,r⟩
  · refine (I.hok b u e).stay (fun c v hc q=>k c v ?_ q) (fun _ q=>q) fun _ _ q=>q
    rcases hc with z | z
    · rw [z];exact nit b u e
    · exact nit c _ z
theorem Inv.tok (I:Inv X pins σ H s) (t:Nat):Inv X pins σ H { s with toks:=t }:=I.un (h':=s.heap) (t':=t) Un.refl I.hok
theorem Inv.kept {t':Nat} (I:Inv X pins σ H s) (k:∀ b u,s.heap.get? b=some u->h'.get? b=some u):Inv X pins σ H { s with heap:=h',toks:=t' }:=I.un (Un.kept k) (I.hok.kept k)
theorem Inv.laid {a:Addr} {o:HO} {t':Nat} (I:Inv X pins σ H s) (k:∀ b u,s.heap.get? b=some u->h'.get? b=some u) (hp:s.heap.objs.size<=a) (new:ObjOk X.prog X.w (upd H a o) h' a o) :
    Inv X pins σ (upd H a o) { s with heap:=h',toks:=t' }:=I.un (Un.laid k hp (I.hok.fresh hp)) (I.hok.laid k hp new)
theorem Inv.write {x e:Addr} {o:HO} {t':Nat} (I:Inv X pins σ H s) (mu:Mut (H x)) (he:e=x∨H e=some (.own x)) (k:∀ b u,b≠e->s.heap.get? b=some u->h'.get? b=some u) (heo:∃ u,h'.get? e=some u)
    (new:ObjOk X.prog X.w (upd H x o) h' x o):Inv X pins σ (upd H x o) { s with heap:=h',toks:=t' }:=I.un (Un.write mu he k heo) (I.hok.write mu he k heo new)
theorem Inv.pins_of {pins':List (Addr×Obj)} (I:Inv X pins σ H s) (h:∀ p∈pins',s.heap.get? p.1=some p.2/\H p.1=none/\p.1≠X.env.locals/\p.1 ∉ X.fs/\∀ v,p.2.data≠.cell v):Inv X pins' σ H s :=
  ⟨I.ok,I.os,I.bare,I.base,I.loc,I.cell,I.free,I.freeC,fun p hp=>(List.mem_append.mp hp).elim (fun z=>I.pin p (List.mem_append_left _ z)) (h p),I.hok,I.len⟩
theorem nodup_ix {N:List Str} (hN:N.Nodup) {i j:Nat} {x:Str} (a:N[i]?=some x) (b:N[j]?=some x):i=j:=by
  obtain ⟨h1,e1⟩:=List.getElem?_eq_some_iff.mp a
  obtain ⟨h2,e2⟩:=List.getElem?_eq_some_iff.mp b
  exact (List.getElem_inj hN).mp (e1.trans e2.symm)
theorem store_ok2 {M:Model} {A:Around} {E:Value->Shared->Prop} {i:Nat} {x:Str} {v:V} {u:Value} {Q:Unit->Shared->Prop} (I:Inv X pins σ H s) (hN:X.N.Nodup) (hi:X.N[i]?=some x) (hx:Loc X.env.scope x) (r:RelV v u)
    (h:∀ s',Inv X pins (σ.set i (some v)) H s'->(∃ a,Heap.SameBut a s.heap s'.heap/\(a=X.env.locals∨X.env.cells.lookup x=some a))->Q () s') (hf:X.fn x=true∨X.env.scope.names.lookup x=some .local:=by first | exact .inl rfl | exact .inr rfl | assumption):wpAny M A (storeName X.env x u) Q E s:=by
  obtain ⟨m,hn,hl⟩:=id I.loc
  have hcls:(X.env.scope.kind == .class || (X.env.scope.kind == .module && X.env.locals != X.env.globals))=false:=by rw [I.ok.kind];rfl
  have hiσ:i<σ.length:=by rw [I.len];exact (List.getElem?_eq_some_iff.mp hi).1
  have cne:=I.cne
  have tracked:∀ {a:Addr} {h':Heap},(∃ o,s.heap.get? a=some o/\H a=none)->Heap.SameBut a s.heap h'->HOk X.prog X.w H h':=fun {a h'} ha hs b ob e=>by
    obtain ⟨_,_,hfree⟩:=ha
    refine (I.hok b ob e).stay (fun c w' hc q=>(hs.2 c ?_).trans q) (fun _ q=>q) fun _ _ q=>q
    rintro rfl
    rcases hc with rfl | hc
    · rw [hfree] at e;cases e
    · rw [hfree] at hc;cases hc
  rcases hx with hk | hk
  · refine wpAny_storeName_local hk hn (fun h' hn' hs=>?_) hcls
    obtain ⟨oL,_,_,hoL,_⟩:=id hn
    refine h _ ⟨I.ok,I.os,I.bare,⟨fun b o e n hb hx=>?_,fun b o e n hb hx=>?_,I.base.free,fun b o e hx=>?_,I.base.tups,I.base.frzs,I.base.tbls⟩,⟨_,hn',fun j y v' e1 e2 e3=>?_⟩,fun y c e=>?_,I.free,I.freeC,fun p hp=>?_,tracked ⟨oL,hoL,I.free⟩ hs,by simpa using I.len⟩ ⟨_,hs,.inl rfl⟩
    · exact (hs.2 b (Nat.ne_of_lt (Nat.lt_of_lt_of_le (Heap.lt_size e) I.ok.above))).trans (I.base.keep b o e n hb hx)
    · obtain ⟨sl,e1⟩:=I.base.slot b o e n hb hx
      exact ⟨sl,(hs.2 b (Nat.ne_of_lt (Nat.lt_of_lt_of_le (Heap.lt_size e) I.ok.above))).trans e1⟩
    · obtain ⟨o',e1⟩:=I.base.there b o e hx
      exact ⟨o',(hs.2 b (Nat.ne_of_lt (Nat.lt_of_lt_of_le (Heap.lt_size e) I.ok.above))).trans e1⟩
    · by_cases hj:j=i
      · subst hj
        rw [hi] at e1;cases e1
        rw [List.getElem?_set_self hiσ] at e2
        cases e2
        exact ⟨u,r,.inl ⟨hk,by simp⟩⟩
      · rw [List.getElem?_set_ne (Ne.symm hj)] at e2
        obtain ⟨u',r',q⟩:=hl j y v' e1 e2 e3
        refine ⟨u',r',?_⟩
        rcases q with ⟨k,e⟩ | ⟨k,c,e,z⟩
        · refine .inl ⟨k,?_⟩
          have:y≠x:=fun e=>hj (nodup_ix hN e1 (e ▸ hi))
          simp [this,e]
        · exact .inr ⟨k,c,e,z.sameBut hs (cne y c e)⟩
    · obtain ⟨w',z⟩:=I.cell y c e
      exact ⟨w',z.sameBut hs (cne y c e)⟩
    · obtain ⟨e,n,ne,nf,d⟩:=I.pin p hp
      exact ⟨(hs.2 p.1 ne).trans e,n,ne,nf,d⟩
  · have hfn:X.fn x=true:=by
      rcases hf with z | z
      · exact z
      · rw [z] at hk;cases hk
    obtain ⟨c,hc⟩:=I.ok.has x (.inl hk)
    obtain ⟨w',z⟩:=I.cell x c hc
    refine wpAny_storeName_cell I.ok.kind hk hc z (fun h' hc' hs=>?_)
    obtain ⟨oc,hoc,hocd⟩:=id z
    refine h { s with heap:=h' } ⟨I.ok,I.os,I.bare,⟨fun b o e n hb hx=>?_,fun b o e n hb hx=>?_,I.base.free,fun b o e hx=>?_,I.base.tups,I.base.frzs,I.base.tbls⟩,⟨m,hn.sameBut hs (Ne.symm (cne x c hc)),fun j y v' e1 e2 e3=>?_⟩,fun y c' e=>?_,I.free,I.freeC,fun p hp=>?_,tracked ⟨oc,hoc,I.freeC x c hc⟩ hs,by simpa using I.len⟩ ⟨c,hs,.inr hc⟩
    · exact (hs.2 b (Nat.ne_of_lt (Nat.lt_of_lt_of_le (Heap.lt_size e) (I.ok.cab x c hfn hc)))).trans (I.base.keep b o e n hb hx)
    · obtain ⟨sl,e1⟩:=I.base.slot b o e n hb hx
      exact ⟨sl,(hs.2 b (Nat.ne_of_lt (Nat.lt_of_lt_of_le (Heap.lt_size e) (I.ok.cab x c hfn hc)))).trans e1⟩
    · obtain ⟨o',e1⟩:=I.base.there b o e hx
      exact ⟨o',(hs.2 b (Nat.ne_of_lt (Nat.lt_of_lt_of_le (Heap.lt_size e) (I.ok.cab x c hfn hc)))).trans e1⟩
    · by_cases hj:j=i
      · subst hj
        rw [hi] at e1;cases e1
        rw [List.getElem?_set_self hiσ] at e2
        cases e2
        exact ⟨u,r,.inr ⟨.inl hk,c,hc,hc'⟩⟩
      · rw [List.getElem?_set_ne (Ne.symm hj)] at e2
        obtain ⟨u',r',q⟩:=hl j y v' e1 e2 e3
        refine ⟨u',r',?_⟩
        rcases q with q | ⟨k,c',e,z'⟩
        · exact .inl q
        · refine .inr ⟨k,c',e,z'.sameBut hs ?_⟩
          rintro rfl
          exact hj (nodup_ix hN e1 (I.ok.inj _ _ _ e hc ▸ hi))
    · by_cases hcc:c'=c
      · subst hcc;exact ⟨_,hc'⟩
      · obtain ⟨w2,z2⟩:=I.cell y c' e
        exact ⟨w2,z2.sameBut hs hcc⟩
    · obtain ⟨e,n,ne,nf,d⟩:=I.pin p hp
      refine ⟨(hs.2 p.1 ?_).trans e,n,ne,nf,d⟩
      intro q
      rw [q,hoc] at e
      have q':oc=p.2:=Option.some.inj e
      exact d w' (by rw [← q'];exact hocd)
theorem store_ok {M:Model} {A:Around} {E:Value->Shared->Prop} {i:Nat} {x:Str} {v:V} {u:Value} {Q:Unit->Shared->Prop} (I:Inv X pins σ H s) (hN:X.N.Nodup) (hi:X.N[i]?=some x) (hx:Loc X.env.scope x) (r:RelV v u)
    (h:∀ s',Inv X pins (σ.set i (some v)) H s'->Q () s') (hf:X.fn x=true∨X.env.scope.names.lookup x=some .local:=by first | exact .inl rfl | exact .inr rfl | assumption):wpAny M A (storeName X.env x u) Q E s :=
  store_ok2 I hN hi hx r (fun s' I' _=>h s' I') hf
theorem Inv.call' {s':Shared} {ch:List Addr} (I:Inv X pins σ H s) (ho:s'.os=s.os) (u:Un (frs X.stack) ch H H' s.heap s'.heap) (hok:HOk X.prog X.w H' s'.heap) (hg:AllBare s'.gens)
    (hch:∀ b∈ch,(b∈X.ex∨X.s₀.heap.objs.size<=b)/\b≠X.env.locals/\(∀ x c,X.env.cells.lookup x=some c->c≠b)/\∀ p∈X.pn++pins,p.1≠b):Inv X pins σ H' s':=by
  obtain ⟨h',g',d',t',o'⟩:=s'
  have e:o'=s.os:=ho
  subst e
  exact I.call (g':=g') (t':=t') (d':=d') u hok hg hch
end
abbrev XK:=Value->Option Addr->Hp->Prop
abbrev St:=List (Option V)
abbrev VK:=V->Hp->Prop
abbrev TE:=St->Hp->VK->Prop
abbrev TT:=St->Hp->(Bool->Hp->Prop)->Prop
abbrev TA:=St->Hp->(List V->Hp->Prop)->Prop
structure Ends where
  nx:St->Hp->Prop
  rt:VK
  bk:St->Hp->Prop:=fun _ _=>False
  ct:St->Hp->Prop:=fun _ _=>False
abbrev TS:=Ends->St->Hp->Prop
def EP (X:Cx) (pins:List (Addr×Obj)) (σ:St) (Q:VK) (u:Value) (s':Shared):Prop:=∃ v H',Inv X pins σ H' s'/\RelV v u/\Q v H'
def TP (X:Cx) (pins:List (Addr×Obj)) (σ:St) (Q:Bool->Hp->Prop) (b:Bool) (s':Shared):Prop:=∃ H',Inv X pins σ H' s'/\Q b H'
def AP (X:Cx) (pins:List (Addr×Obj)) (σ:St) (Q:List V->Hp->Prop) (us:List Value) (s':Shared):Prop:=∃ vs H',Inv X pins σ H' s'/\Vals vs us/\Q vs H'
def SP (X:Cx) (pins:List (Addr×Obj)) (D:Ends) (f:Flow) (s':Shared):Prop :=
  match f with
  | .next=>∃ σ' H',Inv X pins σ' H' s'/\D.nx σ' H'
  | .brk=>∃ σ' H',Inv X pins σ' H' s'/\D.bk σ' H'
  | .cont=>∃ σ' H',Inv X pins σ' H' s'/\D.ct σ' H'
  | .ret u=>∃ v σ' H',Inv X pins σ' H' s'/\RelV v u/\D.rt v H'
def PE (X:Cx) (e:Expr) (t:TE):Prop :=
  ∀ (pins:List (Addr×Obj)) (s:Shared) (σ:St) (H:Hp) (Q:VK),Inv X pins σ H s->t σ H Q->wpAny (model X.prog X.w) X.A (eval e X.env) (EP X pins σ Q) X.xe s
def PT (X:Cx) (e:Expr) (t:TT):Prop :=
  ∀ (pins:List (Addr×Obj)) (s:Shared) (σ:St) (H:Hp) (Q:Bool->Hp->Prop),Inv X pins σ H s->t σ H Q->wpAny (model X.prog X.w) X.A (isTrue e X.env (eval e X.env)) (TP X pins σ Q) X.xe s
def PW (X:Cx) (e:Expr) (t:TT):Prop :=
  ∀ (whole:Sem Value) (pins:List (Addr×Obj)) (s:Shared) (σ:St) (H:Hp) (Q:Bool->Hp->Prop),Inv X pins σ H s->t σ H Q->wpAny (model X.prog X.w) X.A (isTrue e X.env whole) (TP X pins σ Q) X.xe s
theorem PW.pt {X:Cx} {e:Expr} {t:TT} (h:PW X e t):PT X e t:=h _
def PA (X:Cx) (es:List Expr) (t:TA):Prop :=
  ∀ (pos:Pos) (pins:List (Addr×Obj)) (s:Shared) (σ:St) (H:Hp) (Q:List V->Hp->Prop),Inv X pins σ H s->t σ H Q->wpAny (model X.prog X.w) X.A (spliced (backTo pos (starEach es X.env))) (AP X pins σ Q) X.xe s
def PS (X:Cx) (st:Stmt) (t:TS):Prop :=
  ∀ (pins:List (Addr×Obj)) (s:Shared) (σ:St) (H:Hp) (D:Ends),Inv X pins σ H s->t D σ H->wpAny (model X.prog X.w) X.A (exec st X.env) (SP X pins D) X.xe s
def PSs (X:Cx) (st:List Stmt) (t:TS):Prop :=
  ∀ (pins:List (Addr×Obj)) (s:Shared) (σ:St) (H:Hp) (D:Ends),Inv X pins σ H s->t D σ H->wpAny (model X.prog X.w) X.A (execs st X.env) (SP X pins D) X.xe s
theorem thn {α:Type} {t:Sem α} {Q Q':α->Shared->Prop} {M:Model} {A:Around} {E:Value->Shared->Prop} {s:Shared} (h:wpAny M A t Q E s) (hQ:∀ a s,Q a s->Q' a s):wpAny M A t Q' E s:=wpAny_mono h hQ fun _ _ x=>x
end L2
namespace L2
open PySem PySem.Spec PyProof.Rows
section
variable {X:Cx}
def tVar (i:Nat):TE:=fun σ H Q=>∃ v,σ[i]?=some (some v)/\Q v H
def tC (v:V):TE:=fun _ H Q=>Q v H
theorem pe_var {i:Nat} {x:Str} {pos:Pos} (hN:X.N[i]?=some x) (hv:Vis X.env.scope x) (hd:(x == ("__debug__":Str))=false:=by decide) (hcd:(x == ("__classdict__":Str))=false:=by decide):PE X (.Name x pos) (tVar i):=by
  intro pins s σ H Q I h
  obtain ⟨v,e,h⟩:=h
  obtain ⟨m,hn,hl⟩:=I.loc
  obtain ⟨u,r,l⟩:=hl i x v hN e hv
  have fin:EP X pins σ Q u s:=⟨v,H,I,r,h⟩
  rcases l with ⟨hk,hm⟩ | ⟨hk,c,hc,hcell⟩
  · exact wpAny_Name (wpAny_loadName_local I.ok.kind hk hn hm fin) hd
  · rcases hk with hk | hk
    · exact wpAny_Name (wpAny_loadName_cell I.ok.kind hk hc hcell fin) hd
    · exact wpAny_Name (wpAny_loadName_free I.ok.kind hk hc hcell fin hcd) hd
theorem ze {i j pos}:PE X (.Constant (.int i) j pos) (tC (.int i)):=fun _ _ _ H _ I h=>wpAny_Constant_int ⟨.int i,H,I.tok _,⟨_,rfl⟩,h⟩
theorem pe_bl {b j pos}:PE X (.Constant (.bool b) j pos) (tC (.bl b)):=fun _ _ _ H _ I h=>Constant_bool ⟨.bl b,H,I,rfl,h⟩
theorem pe_non {j pos}:PE X (.Constant .none j pos) (tC .non):=fun _ _ _ H _ I h=>Constant_none ⟨.non,H,I,rfl,h⟩
theorem zX {x j pos}:PE X (.Constant (.str x) j pos) (tC (.str x)):=fun _ _ _ H _ I h=>Calls.Constant_str ⟨.str x,H,I.tok _,⟨_,rfl⟩,h⟩
def Gl (X:Cx) (x:Str):Prop:=X.env.kindOf x=some .globalImplicit
theorem ld_glob {E:Value->Shared->Prop} {pins:List (Addr×Obj)} {s:Shared} {σ:St} {H:Hp} {x:Str} {u:Value} {pos:Pos} {Q:Value->Shared->Prop} (I:Inv X pins σ H s) (hg:Gl X x) (hm:X.mg x=some u) (h:Q u s)
    (hd:(x == ("__debug__":Str))=false:=by decide):wpAny (model X.prog X.w) X.A (eval (.Name x pos) X.env) Q E s :=
  Calls.Name_function_global I.ok.kind hg (Calls.loadGlobal_global (by rw [I.ok.glob];exact I.mod.glob.keeps I.bk) hm h) hd
theorem ld_blt {E:Value->Shared->Prop} {pins:List (Addr×Obj)} {s:Shared} {σ:St} {H:Hp} {x:Str} {u:Value} {pos:Pos} {Q:Value->Shared->Prop} (I:Inv X pins σ H s) (hg:Gl X x) (hm:X.mg x=none) (hv:bootBuiltins x=some u) (h:Q u s)
    (hn:x≠"__name__":=by decide) (hd:(x == ("__debug__":Str))=false:=by decide):wpAny (model X.prog X.w) X.A (eval (.Name x pos) X.env) Q E s:=by
  obtain ⟨mb,h1,h2⟩:=I.mod.blt
  exact Calls.Name_function_global I.ok.kind hg (Calls.loadGlobal_builtin (by rw [I.ok.glob];exact I.mod.glob.keeps I.bk) hm (by rw [I.ok.blt];exact h1.keeps I.bk) ((h2 x hn).trans hv) h) hd
theorem pe_glob {x:Str} {v:V} {u:Value} {pos:Pos} (hg:Gl X x) (hm:X.mg x=some u) (r:RelV v u) (hd:(x == ("__debug__":Str))=false:=by decide):PE X (.Name x pos) (tC v) :=
  fun _ _ _ H _ I h=>ld_glob I hg hm ⟨v,H,I,r,h⟩ hd
theorem pe_bltn {x:Str} {v:V} {u:Value} {pos:Pos} (hg:Gl X x) (hm:X.mg x=none) (hv:bootBuiltins x=some u) (r:RelV v u) (hn:x≠"__name__":=by decide) (hd:(x == ("__debug__":Str))=false:=by decide):PE X (.Name x pos) (tC v) :=
  fun _ _ _ H _ I h=>ld_blt I hg hm hv ⟨v,H,I,r,h⟩ hn hd
variable {a b:Expr} {ta tb:TE} {pos:Pos}
def PC (X:Cx) (op:CmpOp) (a b:Expr) (t:TE):Prop :=
  ∀ (pins:List (Addr×Obj)) (s:Shared) (σ:St) (H:Hp) (Q:VK),Inv X pins σ H s->t σ H Q ->
    wpAny (model X.prog X.w) X.A (eval a X.env) (fun v s₁=>wpAny (model X.prog X.w) X.A (eval b X.env) (fun u s₂=>wpAny (model X.prog X.w) X.A (compareOp op v u) (EP X pins σ Q) X.xe s₂) X.xe s₁) X.xe s
theorem nobehind (b:Expr) {op:CmpOp} (h:op≠.In) (h2:op≠.NotIn):behindInMarks op b=false:=by
  have e1:(op == CmpOp.In)=false:=by cases op <;> first | rfl | exact absurd rfl h
  have e2:(op == CmpOp.NotIn)=false:=by cases op <;> first | rfl | exact absurd rfl h2
  cases b <;> simp [behindInMarks,e1,e2]
def tB (t:TE):TT:=fun σ H Q=>t σ H fun x H1=>∃ c,x=.bl c/\Q c H1
theorem pt_cmp {op:CmpOp} {t:TE} (h:PC X op a b t) (h1:behindInMarks op b=false:=by first | exact nobehind _ (by decide) (by decide) | rfl):PT X (.Compare a [op] [b] pos) (tB t):=by
  intro pins s σ H Q I hw
  refine wpAny_isTrue_Compare1 (thn (h pins s σ H _ I hw) fun v s1 h1=>thn h1 fun u s2 h2=>thn h2 fun c s3 ⟨x,H1,I1,r1,q1⟩=>?_) h1
  obtain ⟨d,rfl,q⟩:=q1
  cases r1
  exact wpAny_truthy_bool ⟨H1,I1,q⟩
theorem xF {e:Expr} {t:TE} (h:PE X e t) (he:∀ whole,isTrue e X.env whole=(do let v ← whole;standAt e.pos;holding [v] (truthy v)):=by intro _;rfl):PT X e (tB t):=by
  intro pins s σ H Q I hw
  refine isTrue_plain (thn (h pins s σ H _ I hw) fun v s1 ⟨x,H1,I1,r1,q1⟩=>?_) (he _)
  obtain ⟨d,rfl,q⟩:=q1
  cases r1
  exact wpAny_truthy_bool ⟨H1,I1,q⟩
variable {tA tB':TT} {rest:List Expr}
def tAnd (t u:TT):TT:=fun σ H Q=>t σ H fun c H1=>if c=true then u σ H1 Q else Q false H1
def tNot (t:TT):TT:=fun σ H Q=>t σ H fun c H1=>Q (!c) H1
theorem pw_and1 (ha:PT X a tA):PW X (.BoolOp .And [a] pos) tA:=by
  intro wh pins s σ H Q I h
  refine isTrue_and (thn (ha pins s σ H Q I h) fun c s1 e=>?_)
  cases c with
  | true=>exact isTrue_and_nil e
  | false=>exact e
theorem pw_and (ha:PT X a tA) (hb:PW X (.BoolOp .And (b::rest) pos) tB'):PW X (.BoolOp .And (a::b::rest) pos) (tAnd tA tB'):=by
  intro wh pins s σ H Q I h
  refine isTrue_and (thn (ha pins s σ H _ I h) fun c s1 ⟨H1,I1,q1⟩=>?_)
  cases c with
  | true=>exact hb wh pins s1 σ H1 Q I1 q1
  | false=>exact ⟨H1,I1,q1⟩
theorem pt_not (ha:PT X a tA):PT X (.UnaryOp .Not a pos) (tNot tA):=by
  intro pins s σ H Q I h
  exact isTrue_not (ha pins s σ H (fun c H1=>Q (!c) H1) I h)
def tAndV (ta tb:TE):TE:=fun σ H Q=>ta σ H fun x H1=>∃ c,x=.bl c/\if c=true then tb σ H1 Q else Q (.bl false) H1
def tNotV (ta:TE):TE:=fun σ H Q=>ta σ H fun x H1=>∃ c,x=.bl c/\Q (.bl (!c)) H1
theorem pe_one {op} {t:TE} (h:PE X a t):PE X (.BoolOp op [a] pos) t:=fun pins s σ H Q I hw=>BoolOp_one (h pins s σ H Q I hw)
theorem pe_and (ha:PE X a ta) (hb:PE X (.BoolOp .And (b::rest) pos) tb):PE X (.BoolOp .And (a::b::rest) pos) (tAndV ta tb):=by
  intro pins s σ H Q I h
  refine BoolOp_and (thn (ha pins s σ H _ I h) fun v s1 ⟨x,H1,I1,r1,q1⟩=>?_)
  obtain ⟨c,rfl,q1⟩:=q1
  cases r1
  refine wpAny_truthy_bool ?_
  cases c with
  | true=>exact hb pins s1 σ H1 Q I1 q1
  | false=>exact ⟨.bl false,H1,I1,rfl,q1⟩
theorem pe_not (ha:PE X a ta):PE X (.UnaryOp .Not a pos) (tNotV ta):=by
  intro pins s σ H Q I h
  refine UnaryOp_ (thn (ha pins s σ H _ I h) fun v s1 ⟨x,H1,I1,r1,q1⟩=>?_)
  obtain ⟨c,rfl,q1⟩:=q1
  cases r1
  exact not_of (wpAny_truthy_bool ⟨.bl (!c),H1,I1,rfl,q1⟩)
end
end L2
namespace L2
open PySem PySem.Spec PyProof.Rows
def SqL (K:PySem.W.Frag) (H:Hp) (a:Addr) (xs:List V):Prop :=
  Rd H a (.lst xs) ∨
    ∃ (o:Obj) (its:Array Value) (n:Nat),K.lookup a=some o/\o.cls=.type "list"/\o.dict=none/\o.data=.seq its n/\its.size<=sizeLine/\Vals xs its.toList
def SqT (K:PySem.W.Frag) (H:Hp) (a:Addr) (xs:List V):Prop :=
  Rd H a (.tup xs) ∨
    ∃ (o:Obj) (its:Array Value) (n:Nat),K.lookup a=some o/\o.cls=.type "tuple"/\o.data=.seq its n/\its.size<=sizeLine/\Vals xs its.toList
def absV:Value->Option V
  | .none=>some .non
  | .bool b=>some (.bl b)
  | .int i _=>some (.int i)
  | .str x _=>some (.str x)
  | .bytes b _=>some (.byt b)
  | .float b _=>some (.flt b)
  | .ref a=>some (.ref a)
  | .type n=>some (.ty n)
  | _=>none
theorem RelV.abs {x:V} {u:Value} (r:RelV x u):absV u=some x:=by
  cases x with
  | non=>cases r;rfl
  | bl _=>cases r;rfl
  | int _=>obtain ⟨t,rfl⟩:=r;rfl
  | str _=>obtain ⟨t,rfl⟩:=r;rfl
  | byt _=>obtain ⟨t,rfl⟩:=r;rfl
  | flt _=>obtain ⟨t,rfl⟩:=r;rfl
  | ref _=>cases r;rfl
  | ty _=>cases r;rfl
theorem RelV.inj {x y:V} {u:Value} (r:RelV x u) (q:RelV y u):x=y:=Option.some.inj (r.abs.symm.trans q.abs)
theorem Vals.inj:∀ {xs ys:List V} {us:List Value},Vals xs us->Vals ys us->xs=ys
  | _,_,_,.nil,.nil=>rfl
  | _,_,_,.cons r t,.cons r' t'=>by rw [r.inj r',Vals.inj t t']
section
variable {X:Cx} {pins:List (Addr×Obj)} {σ:St} {H:Hp} {s:Shared} {a:Addr} {xs ys:List V}
theorem SqL.of {K:PySem.W.Frag} (h:H a=some (.lst xs)):SqL K H a xs:=.inl (.inl h)
theorem SqT.of {K:PySem.W.Frag} (h:H a=some (.tup xs)):SqT K H a xs:=.inl (.inl h)
theorem Inv.list (I:Inv X pins σ H s) (h:SqL X.K H a xs):∃ its:List Value,Vals xs its/\PlainL s.heap a its.toArray/\xs.length<=sizeLine:=by
  rcases h with h | ⟨o,its,n,hk,hc,hd,hs,hz,r⟩
  · obtain ⟨z,its,n,r,e⟩:=h.ok I.hok
    exact ⟨its,r,⟨_,n,e,rfl,rfl,rfl⟩,z⟩
  · refine ⟨its.toList,r,⟨o,n,I.kIn a o hk,hc,hd,by simpa using hs⟩,?_⟩
    have e:=r.length
    simp only [Array.length_toList] at e
    omega
theorem Inv.tuple (I:Inv X pins σ H s) (h:SqT X.K H a xs):∃ its:List Value,Vals xs its/\IsTup s.heap a its.toArray/\xs.length<=sizeLine:=by
  rcases h with h | ⟨o,its,n,hk,hc,hs,hz,r⟩
  · obtain ⟨z,its,r,p⟩:=h.ok I.hok
    exact ⟨its,r,p,z⟩
  · refine ⟨its.toList,r,⟨o,I.kIn a o hk,hc,n,by simpa using hs⟩,?_⟩
    have e:=r.length
    simp only [Array.length_toList] at e
    omega
theorem Inv.list_inj (I:Inv X pins σ H s) (h:SqL X.K H a xs) (h':SqL X.K H a ys):xs=ys:=by
  obtain ⟨its,r,⟨o,n,e,_,_,d⟩,_⟩:=I.list h
  obtain ⟨its',r',⟨o',n',e',_,_,d'⟩,_⟩:=I.list h'
  rw [e] at e';cases e'
  rw [d] at d'
  injection d' with d1 _
  have:its=its':=by simpa using congrArg Array.toList d1
  subst this
  exact r.inj r'
theorem Inv.tuple_inj (I:Inv X pins σ H s) (h:SqT X.K H a xs) (h':SqT X.K H a ys):xs=ys:=by
  obtain ⟨its,r,⟨o,e,_,n,d⟩,_⟩:=I.tuple h
  obtain ⟨its',r',⟨o',e',_,n',d'⟩,_⟩:=I.tuple h'
  rw [e] at e';cases e'
  rw [d] at d'
  injection d' with d1 _
  have:its=its':=by simpa using congrArg Array.toList d1
  subst this
  exact r.inj r'
end
abbrev Cx.wish (X:Cx) (E:Value->Shared->Prop):Cx:={ X with xe:=E }
abbrev Cx.nox (X:Cx):Cx:=X.wish fun _ _=>False
theorem Cx.Ok.wish {X:Cx} (ok:X.Ok) (E:Value->Shared->Prop):(X.wish E).Ok :=
  ⟨ok.mod,ok.kind,ok.glob,ok.blt,ok.above,ok.inj,ok.has,ok.cab,ok.hd,ok.frames,ok.stk,ok.exf,ok.bs,ok.bsz,ok.noex,ok.exfs,ok.funs,ok.frf⟩
theorem Cx.Ok.unwish {X:Cx} {E:Value->Shared->Prop} (ok:(X.wish E).Ok):X.Ok :=
  ⟨ok.mod,ok.kind,ok.glob,ok.blt,ok.above,ok.inj,ok.has,ok.cab,ok.hd,ok.frames,ok.stk,ok.exf,ok.bs,ok.bsz,ok.noex,ok.exfs,ok.funs,ok.frf⟩
section
variable {X:Cx} {pins:List (Addr×Obj)} {σ:St} {H:Hp} {s:Shared} {E:Value->Shared->Prop}
theorem Inv.wish (I:Inv X pins σ H s) (E:Value->Shared->Prop):Inv (X.wish E) pins σ H s:=⟨I.ok.wish E,I.os,I.bare,I.base,I.loc,I.cell,I.free,I.freeC,I.pin,I.hok,I.len⟩
theorem Inv.unwish (I:Inv (X.wish E) pins σ H s):Inv X pins σ H s:=⟨I.ok.unwish,I.os,I.bare,I.base,I.loc,I.cell,I.free,I.freeC,I.pin,I.hok,I.len⟩
theorem SP.unwish {D:Ends} {f:Flow} {s':Shared} (h:SP (X.wish E) pins D f s'):SP X pins D f s':=by
  cases f with
  | next=>obtain ⟨σ',H',I,q⟩:=h;exact ⟨σ',H',I.unwish,q⟩
  | brk=>obtain ⟨σ',H',I,q⟩:=h;exact ⟨σ',H',I.unwish,q⟩
  | cont=>obtain ⟨σ',H',I,q⟩:=h;exact ⟨σ',H',I.unwish,q⟩
  | ret u=>obtain ⟨v,σ',H',I,r,q⟩:=h;exact ⟨v,σ',H',I.unwish,r,q⟩
theorem PSs.nox {st:List Stmt} {t:TS} (h:PSs X.nox st t):PSs X st t:=fun pins s σ H D I hw =>
  wpAny_mono (h pins s σ H D (I.wish _) hw) (fun _ _ q=>q.unwish) fun _ _ z=>False.elim z
end
section
variable {X:Cx} {st:Stmt} {rest:List Stmt} {t u:TS} {e:Expr} {te:TE} {pos:Pos}
def tNext:TS:=fun D σ H=>D.nx σ H
def tSeq (t u:TS):TS:=fun D σ H=>t { D with nx:=u D } σ H
theorem zI:PSs X [] tNext:=fun _ _ σ H _ I h=>wpAny_execs_nil ⟨σ,H,I,h⟩
theorem zc (h1:PS X st t) (h2:PSs X rest u):PSs X (st::rest) (tSeq t u):=by
  intro pins s σ H D I h
  refine wpAny_execs_cons (thn (h1 pins s σ H { D with nx:=u D } I h) fun f s1 q=>?_)
  cases f with
  | next =>
    obtain ⟨σ',H',I',q⟩:=q
    exact h2 pins s1 σ' H' D I' q
  | ret v=>exact q
  | brk=>exact q
  | cont=>exact q
theorem zf (h1:PS X st t):PSs X [st] t:=by
  intro pins s σ H D I h
  refine wpAny_execs_cons (thn (h1 pins s σ H D I h) fun f s1 q=>?_)
  cases f with
  | next=>exact wpAny_execs_nil q
  | ret v=>exact q
  | brk=>exact q
  | cont=>exact q
theorem Inv.quiet {pins:List (Addr×Obj)} {σ:St} {H:Hp} {s:Shared} (I:Inv X pins σ H s):interactive X.env=false:=by simp [interactive,I.ok.kind]
def tDrop (te:TE):TS:=fun D σ H=>te σ H fun _ H1=>D.nx σ H1
theorem zQ (he:PE X e te) (hs:swapsWith e none pos.line X.env=pure false:=by rfl):PS X (.Expr e pos) (tDrop te):=by
  intro pins s σ H D I h
  exact wpAny_Expr_any (thn (he pins s σ H _ I h) fun v s1 ⟨x,H1,I1,r1,q1⟩=>⟨σ,H1,I1,q1⟩) I.quiet hs
def tRet (te:TE):TS:=fun D σ H=>te σ H D.rt
theorem zq (he:PE X e te):PS X (.Return (some e) pos) (tRet te):=by
  intro pins s σ H D I h
  exact wpAny_Return_some (thn (he pins s σ H _ I h) fun v s1 ⟨x,H1,I1,r1,q1⟩=>⟨x,σ,H1,I1,r1,q1⟩)
def tIfS (c:TT) (t u:TS):TS:=fun D σ H=>c σ H fun b H1=>if b=true then t D σ H1 else u D σ H1
theorem zV {c:Expr} {a b:List Stmt} {tc:TT} (hc:PT X c tc) (ha:PSs X a t) (hb:PSs X b u):PS X (.If c a b pos) (tIfS tc t u):=by
  intro pins s σ H D I h
  refine wpAny_If (thn (hc pins s σ H _ I h) fun d s1 ⟨H1,I1,q1⟩=>?_)
  cases d with
  | true=>exact ha pins s1 σ H1 D I1 q1
  | false=>exact hb pins s1 σ H1 D I1 q1
end
abbrev TG:=V->St->Hp->(St->Hp->Prop)->Prop
abbrev TGs:=List V->St->Hp->(St->Hp->Prop)->Prop
def PG (X:Cx) (target:Expr) (t:TG):Prop :=
  ∀ (pins:List (Addr×Obj)) (s:Shared) (σ:St) (H:Hp) (v:V) (u:Value) (Q:St->Hp->Prop),Inv X pins σ H s->RelV v u->t v σ H Q ->
    wpAny (model X.prog X.w) X.A (assign target X.env u) (fun _ s'=>∃ σ' H',Inv X pins σ' H' s'/\Q σ' H') X.xe s
def PGs (X:Cx) (ts:List Expr) (t:TGs):Prop :=
  ∀ (pins:List (Addr×Obj)) (s:Shared) (σ:St) (H:Hp) (vs:List V) (us:List Value) (Q:St->Hp->Prop),Inv X pins σ H s->Vals vs us->t vs σ H Q ->
    wpAny (model X.prog X.w) X.A (assignInOrder ((assignEach ts X.env).map (·.2)) us) (fun _ s'=>∃ σ' H',Inv X pins σ' H' s'/\Q σ' H') X.xe s
abbrev TSet:=V->V->V->Hp->(Hp->Prop)->Prop
def PSet (X:Cx) (t:TSet):Prop :=
  ∀ (pins:List (Addr×Obj)) (s:Shared) (σ:St) (H:Hp) (o i v:V) (ov iv u:Value) (Q:Hp->Prop),Inv X pins σ H s->RelV o ov->RelV i iv->RelV v u->t o i v H Q ->
    wpAny (model X.prog X.w) X.A (setItem ov iv u) (fun _ s'=>∃ H',Inv X pins σ H' s'/\Q H') X.xe s
section
variable {X:Cx} {pos:Pos}
def gName (i:Nat):TG:=fun v σ H Q=>Q (σ.set i (some v)) H
theorem zB {i:Nat} {x:Str} (hN:X.N.Nodup) (hi:X.N[i]?=some x) (hx:Loc X.env.scope x) (hf:X.fn x=true∨X.env.scope.names.lookup x=some .local:=by first | exact .inl rfl | exact .inr rfl | assumption):PG X (.Name x pos) (gName i):=by
  intro pins s σ H v u Q I r h
  exact wpAny_assign_Name (store_ok I hN hi hx r (fun s' I'=>⟨_,H,I',h⟩) hf)
def gNil:TGs:=fun vs σ H Q=>vs=[]/\Q σ H
def gCons (t:TG) (u:TGs):TGs:=fun vs σ H Q=>∃ v r,vs=v::r/\t v σ H fun σ' H'=>u r σ' H' Q
theorem pgs_nil:PGs X [] gNil:=by
  intro pins s σ H vs us Q I r h
  obtain ⟨e,h⟩:=h
  subst e
  cases r
  exact assignInOrder_nil ⟨σ,H,I,h⟩
theorem yl {e:Expr} {es:List Expr} {t:TG} {u:TGs} (h1:PG X e t) (h2:PGs X es u)
    (hs:(assignEach (e::es) X.env).map (·.2)=assign e X.env::(assignEach es X.env).map (·.2):=by rfl):PGs X (e::es) (gCons t u):=by
  intro pins s σ H vs us Q I r h
  obtain ⟨v,vr,e1,h⟩:=h
  subst e1
  cases r with
  | cons r rr =>
    rw [hs]
    refine assignInOrder_cons (thn (h1 pins s σ H _ _ _ I r h) fun _ s1 ⟨σ1,H1,I1,q1⟩=>?_)
    exact h2 pins s1 σ1 H1 _ _ Q I1 rr q1
def gTup (K:PySem.W.Frag) (n:Nat) (t:TGs):TG:=fun v σ H Q=>∃ a xs,v=.ref a/\SqT K H a xs/\xs.length=n/\t xs σ H Q
theorem pg_tup {es:List Expr} {k:Nat} {t:TGs} {n:Nat} (hc:X.calm=true) (h:PGs X es t)
    (hn:(assignEach es X.env).length=n:=by rfl) (hst:(assignEach es X.env).findIdx? (·.1)=none:=by rfl):PG X (.Tuple es k pos) (gTup X.K n t):=by
  intro pins s σ H v u Q I r hw
  obtain ⟨a,xs,e1,hq,hl,hw⟩:=hw
  subst e1
  cases r
  obtain ⟨its,rv,ht,hz⟩:=I.tuple hq
  refine assign_Tuple_tuple (I.ok.hd hc) ht (by simp [hn,← hl,rv.length]) hst fun h' hx=>?_
  have I1:Inv X pins σ H { s with heap:=h' }:=I.kept (t':=s.toks) fun b o e=>hx b o (Nat.ne_of_lt (Heap.lt_size e)) e
  exact h pins _ σ H xs _ Q I1 (by simpa using rv) hw
def gSub (to ti:TE) (t:TSet):TG:=fun v σ H Q=>to σ H fun o H1=>ti σ H1 fun i H2=>t o i v H2 fun H3=>Q σ H3
theorem pg_sub {o i:Expr} {to ti:TE} {t:TSet} (ho:PE X o to) (hi:PE X i ti) (hs:PSet X t)
    (ha:∀ v,assign (.Subscript o i pos) X.env v=(do
      let ov ← holding [v] (eval o X.env)
      let iv ← holding [v,ov] (eval i X.env)
      standAt pos
      holding [v,ov,iv] (setItem ov iv v)
      release [v,ov,iv] []):=by intro _;rfl):PG X (.Subscript o i pos) (gSub to ti t):=by
  intro pins s σ H v u Q I r h
  rw [ha]
  refine wpAny_bind (wpAny_holding (thn (ho pins s σ H _ I h) fun ov s1 ⟨x,H1,I1,r1,q1⟩=>?_))
  refine wpAny_bind (wpAny_holding (thn (hi pins s1 σ H1 _ I1 q1) fun iv s2 ⟨y,H2,I2,r2,q2⟩=>?_))
  refine wpAny_bind (wpAny_standAt (wpAny_bind (wpAny_holding (thn (hs pins s2 σ H2 x y v ov iv u _ I2 r1 r2 r q2) fun _ s3 ⟨H3,I3,q3⟩=>?_))))
  exact wpAny_release ⟨σ,H3,I3,q3⟩
def tAsg (te:TE) (g:TG):TS:=fun D σ H=>te σ H fun x H1=>g x σ H1 D.nx
theorem ps_asg {tg e:Expr} {te:TE} {g:TG} (he:PE X e te) (hg:PG X tg g) (hs:swapsWithSole [tg] e pos.line X.env=pure false:=by rfl) (hw:swappedStores [tg] e X.env=pure none:=by rfl)
    (h1:(assignEach [tg] X.env).map (·.2)=[assign tg X.env]:=by rfl):PS X (.Assign [tg] e pos) (tAsg te g):=by
  intro pins s σ H D I h
  refine wpAny_Assign_stores (thn (he pins s σ H _ I h) fun v s1 ⟨x,H1,I1,r1,q1⟩=>?_) hs hw
  rw [h1]
  exact thn (hg pins s1 σ H1 x v _ I1 r1 q1) fun _ s2 q=>q
theorem zu {i:Nat} {x:Str} {e:Expr} {te:TE} {pos':Pos} (hN:X.N.Nodup) (hi:X.N[i]?=some x) (hx:Loc X.env.scope x) (he:PE X e te) (hs:swapsWith e (some (.Name x pos')) pos.line X.env=pure false:=by rfl) (hf:X.fn x=true∨X.env.scope.names.lookup x=some .local:=by first | exact .inl rfl | exact .inr rfl | assumption) :
    PS X (.Assign [.Name x pos'] e pos) (tAsg te (gName i)):=by
  intro pins s σ H D I h
  refine wpAny_Assign_Name (thn (he pins s σ H _ I h) fun v s1 ⟨y,H1,I1,r1,q1⟩=>?_) hs
  exact store_ok I1 hN hi hx r1 (fun s2 I2=>⟨_,H1,I2,q1⟩) hf
end
section
variable {X:Cx} {pos:Pos}
def tWhile (c:TT) (tb:TS):TS:=fun D σ H=>∃ W:Nat->St->Hp->Prop,(∃ m,W m σ H)/\∀ m σ H,W m σ H ->
  c σ H fun b H1=>if b=true then ∃ N:St->Hp->Prop,(∀ σ' H',N σ' H'->∃ m',m'<m/\W m' σ' H')/\tb { D with nx:=N,ct:=N,bk:=D.nx } σ H1 else D.nx σ H1
theorem ps_while {c:Expr} {body:List Stmt} {tc:TT} {tb:TS} (hp:PassesOwn (model X.prog X.w) X.A X.env X.xe) (hc:PT X c tc) (hb:PSs X body tb):PS X (.While c body [] pos) (tWhile tc tb):=by
  intro pins s σ H D I h
  obtain ⟨W,⟨m0,w0⟩,turn⟩:=h
  refine wpAny_While (codeAny_whileLoop (fun n s'=>∃ σ' H',Inv X pins σ' H' s'/\W n σ' H') ?_ m0 ⟨σ,H,I,w0⟩)
  rintro n s1 ⟨σ1,H1,I1,w1⟩
  refine wpAny_passesOwn hp (thn (hc pins s1 σ1 H1 _ I1 (turn n σ1 H1 w1)) fun b s2 ⟨H2,I2,q2⟩=>?_)
  cases b with
  | true =>
    obtain ⟨N,hN,q2⟩:=q2
    rw [if_pos rfl]
    refine wpAny_passesOwn hp (thn (hb pins s2 σ1 H2 _ I2 q2) fun f s3 q3=>?_)
    cases f with
    | next =>
      obtain ⟨σ3,H3,I3,n3⟩:=q3
      obtain ⟨m',hm,w3⟩:=hN σ3 H3 n3
      exact ⟨m',hm,σ3,H3,I3,w3⟩
    | cont =>
      obtain ⟨σ3,H3,I3,n3⟩:=q3
      obtain ⟨m',hm,w3⟩:=hN σ3 H3 n3
      exact ⟨m',hm,σ3,H3,I3,w3⟩
    | brk=>exact q3
    | ret v=>exact q3
  | false =>
    rw [if_neg Bool.false_ne_true]
    exact wpAny_execs_nil ⟨σ1,H2,I2,q2⟩
end
structure It where
  go:Nat->Hp->Prop
  yld:Nat->Hp->V->Hp->Prop
  stop:Nat->Hp->Prop
def FpOk (X:Cx) (pins:List (Addr×Obj)) (H:Hp) (b:Addr):Prop :=
  H b=none/\b≠X.env.locals/\b ∉ X.fs/\(b∈X.ex∨X.s₀.heap.objs.size<=b)/\(∀ x c,X.env.cells.lookup x=some c->c≠b)/\∀ p∈X.pn++pins,p.1≠b
theorem Inv.fpOk {X:Cx} {pins:List (Addr×Obj)} {σ:St} {H H':Hp} {s:Shared} {b:Addr} (I:Inv X pins σ H s) (hb:s.heap.objs.size<=b) (hn:H' b=none):FpOk X pins H' b:=by
  refine ⟨hn,Nat.ne_of_gt (Nat.lt_of_lt_of_le I.lt hb),I.nofs hb,.inr (Nat.le_trans I.sz hb),fun x c e z=>?_,fun p hp z=>?_⟩
  · obtain ⟨v,q⟩:=I.cell x c e
    exact absurd (Nat.lt_of_lt_of_le q.lt (by rw [z];exact hb)) (Nat.lt_irrefl _)
  · exact absurd (Nat.lt_of_lt_of_le (Heap.lt_size (I.pin p hp).1) (by rw [z];exact hb)) (Nat.lt_irrefl _)
structure Turn (P:Program) (w:World) (K:PySem.W.Frag) (tg:Expr) (J:It) (fp:List Addr) (it:Addr) (tn:Nat->Heap->Prop):Prop where
  mem:it∈fp
  obj:∀ i h,tn i h->∀ b∈fp,∃ o,h.get? b=some o/\∀ v,o.data≠.cell v
  keep:∀ i h h',tn i h->(∀ b∈fp,∀ o,h.get? b=some o->h'.get? b=some o)->tn i h'
  item:∀ (X:Cx),X.prog=P->X.w=w->X.K=K->X.calm=true->∀ (i:Nat) (pins:List (Addr×Obj)) (s:Shared) (σ:St) (H:Hp) (E:Value->Shared->Prop),Inv X pins σ H s->(∀ b∈fp,FpOk X pins H b)->tn i s.heap->J.go i H ->
    wpAny (model P w) X.A (pyNext (.ref it)) (fun r s1=>∃ u,r=some u /\
      wpAny (model P w) X.A (letOwnedTupleGo tg (.ref it) u) (fun _ s2=>∃ x H',Inv X pins σ H' s2/\RelV x u/\J.yld i H x H'/\tn (i+1) s2.heap/\∀ b∈fp,H' b=none) E s1) E s
  done:∀ (X:Cx),X.prog=P->X.w=w->X.K=K->X.calm=true->∀ (i:Nat) (pins:List (Addr×Obj)) (s:Shared) (σ:St) (H:Hp) (E:Value->Shared->Prop),Inv X pins σ H s->(∀ b∈fp,FpOk X pins H b)->tn i s.heap->J.stop i H ->
    wpAny (model P w) X.A (pyNext (.ref it)) (fun r s1=>r=none/\Inv X pins σ H s1) E s
  self:∀ (A:Around) (i:Nat) (s:Shared) (Q:Value->Shared->Prop) (E:Value->Shared->Prop),tn i s.heap->Q (.ref it) s->wpAny (model P w) A (pyIter (.ref it)) Q E s
abbrev TI:=St->Hp->(It->Hp->Prop)->Prop
def PIE (X:Cx) (pins:List (Addr×Obj)) (σ:St) (tg:Expr) (R:It->Hp->Prop) (itv:Value) (s2:Shared):Prop :=
  ∃ (it:Addr) (fp:List Addr) (tn:Nat->Heap->Prop) (J:It) (H':Hp),itv=.ref it/\Inv X pins σ H' s2/\Turn X.prog X.w X.K tg J fp it tn/\tn 0 s2.heap/\(∀ b∈fp,FpOk X pins H' b)/\R J H'
def PI (X:Cx) (tg iter:Expr) (wi:TI):Prop :=
  ∀ (pins:List (Addr×Obj)) (s:Shared) (σ:St) (H:Hp) (R:It->Hp->Prop),Inv X pins σ H s->wi σ H R ->
    wpAny (model X.prog X.w) X.A (eval iter X.env) (fun v s1=>wpAny (model X.prog X.w) X.A (pyIter v) (PIE X pins σ tg R) X.xe s1) X.xe s
theorem go_of {M:Model} {A:Around} {E:Value->Shared->Prop} {s:Shared} {tg:Expr} {it:Addr} {u:Value} {o:Obj} {n:String} {vs:Array Value} {Q:Unit->Shared->Prop} (ho:s.heap.get? it=some o) (hc:o.cls=.type n) (hd:o.data=.fields vs)
    (hn:["enumerate","zip","dict_itemiterator","dict_reverseitemiterator","odict_iterator","itertools.zip_longest","itertools.pairwise"].contains n=false) (hQ:Q () s):wpAny M A (letOwnedTupleGo tg (.ref it) u) Q E s:=by
  unfold letOwnedTupleGo
  cases tg <;> first
    | exact wpAny_pure hQ
    | (cases u <;> first
        | exact wpAny_pure hQ
        | (refine wpAny_bind (wpAny_load ho ?_)
           rw [hc,hd]
           show wpAny M A (if (["enumerate","zip","dict_itemiterator","dict_reverseitemiterator","odict_iterator","itertools.zip_longest","itertools.pairwise"].contains n && vs[0]? == some (rawInt _))=true then _ else _) Q E s
           rw [if_neg (by intro h;rw [hn,Bool.false_and] at h;cases h)]
           exact wpAny_pure hQ))
def Itl (K:PySem.W.Frag) (a:Addr):It :=
  ⟨fun i H=>∃ xs x,SqL K H a xs/\xs[i]?=some x,fun i H x H'=>H'=H/\∀ xs,SqL K H a xs->xs[i]?=some x,fun i H=>∃ xs,SqL K H a xs/\xs.length<=i⟩
def Itr (lo:Int) (n:Nat):It:=⟨fun i _=>i<n,fun i H x H'=>H'=H/\x=.int (lo+i),fun i _=>n<=i⟩
theorem turn_list {P:Program} {w:World} {K:PySem.W.Frag} {tg:Expr} (a it:Addr):Turn P w K tg (Itl K a) [it] it (fun i h=>h.IsListIter it a i) where
  mem:=by simp
  obj:=fun i h st b hb=>by
    have e:b=it:=by simpa using hb
    subst e
    obtain ⟨o,e,c,d⟩:=st
    exact ⟨o,e,fun v z=>by rw [d] at z;cases z⟩
  keep:=fun i h h' st k=>st.at fun o e=>k it (by simp) o e
  item:=by
    intro X hP hw hK hc i pins s σ H E I hf st hg
    subst hP hw hK
    obtain ⟨xs,x,hq,hx⟩:=hg
    obtain ⟨its,rv,p,hz⟩:=I.list hq
    obtain ⟨u,hu,ru⟩:=rv.get hx
    obtain ⟨f0,f1,f2,f3,f4,f5⟩:=hf it (by simp)
    refine wpAny_pyNext_list_item st p.isList (x:=u) (by simpa using hu) fun h' st' sb=>?_
    have I1:Inv X pins σ H { s with heap:=h' }:=I.turned (t':=s.toks) (fun b o hb e=>(sb.2 b hb).trans e) f0 f1 f3 f4 f5
    obtain ⟨o,e,c,d⟩:=id st'
    exact ⟨u,rfl,go_of (s:={ s with heap:=h' }) e c d (by decide) ⟨x,H,I1,ru,⟨rfl,fun ys hy=>by rw [I.list_inj hy hq];exact hx⟩,st',fun b hb=>(hf b hb).1⟩⟩
  done:=by
    intro X hP hw hK hc i pins s σ H E I hf st hg
    subst hP hw hK
    obtain ⟨xs,hq,hx⟩:=hg
    obtain ⟨its,rv,p,hz⟩:=I.list hq
    obtain ⟨f0,f1,f2,f3,f4,f5⟩:=hf it (by simp)
    have hl:=rv.length
    exact wpAny_pyNext_list_end (I.ok.hd hc) st p.isList (by simp;omega) fun h' eb=>⟨rfl,I.turned (t':=s.toks) (fun b o hb e=>eb b o hb e) f0 f1 f3 f4 f5⟩
  self:=fun _ _ _ _ _ st h=>wpAny_pyIter_listiter st h
theorem turn_range {P:Program} {w:World} {K:PySem.W.Frag} {tg:Expr} (it:Addr) (lo:Int) (n:Nat):Turn P w K tg (Itr lo n) [it] it (fun i h=>IsRangeIter h it (lo+(i:Nat)*1) ((n:Int)-(i:Nat)) 1) where
  mem:=by simp
  obj:=fun i h st b hb=>by
    have e:b=it:=by simpa using hb
    subst e
    exact ⟨_,st,fun v z=>by
      have z':Data.fields _=Data.cell v:=z
      cases z'⟩
  keep:=fun i h h' st k=>k it (by simp) _ st
  item:=by
    intro X hP hw hK hc i pins s σ H E I hf st hg
    subst hP hw hK
    obtain ⟨f0,f1,f2,f3,f4,f5⟩:=hf it (by simp)
    have W:=Walks.range (prog:=X.prog) (w:=X.w) (I.ok.hd hc) it lo 1 n
    refine W.item i s _ _ hg st fun v h' tk hv st' kk=>?_
    obtain ⟨t,rfl⟩:=hv
    have I1:Inv X pins σ H { s with heap:=h',toks:=tk }:=I.turned (fun b o hb e=>kk b o (by simpa using hb) e) f0 f1 f3 f4 f5
    refine ⟨_,rfl,go_of (s:={ s with heap:=h',toks:=tk }) (n:="range_iterator") st' rfl rfl (by decide) ⟨.int (lo+i),H,I1,⟨t,?_⟩,⟨rfl,rfl⟩,st',fun b hb=>(hf b hb).1⟩⟩
    rw [Int.mul_one]
  done:=by
    intro X hP hw hK hc i pins s σ H E I hf st hg
    subst hP hw hK
    obtain ⟨f0,f1,f2,f3,f4,f5⟩:=hf it (by simp)
    exact wpAny_pyNext_range_end (I.ok.hd hc) st (by have:n<=i:=hg;omega) fun h' eb=>⟨rfl,I.turned (t':=s.toks) (fun b o hb e=>eb b o hb e) f0 f1 f3 f4 f5⟩
  self:=fun _ _ _ _ _ st h=>wpAny_pyIter_rangeiter st h
end L2
namespace L2
open PySem PySem.Spec PyProof.Rows
section
variable {X:Cx} {tg:Expr}
def iList (K:PySem.W.Frag) (tl:TE):TI:=fun σ H R=>tl σ H fun x H1=>∃ a,x=.ref a/\(∃ xs,SqL K H1 a xs)/\R (Itl K a) H1
theorem xv {l:Expr} {tl:TE} (hl:PE X l tl):PI X tg l (iList X.K tl):=by
  intro pins s σ H R I h
  refine thn (hl pins s σ H _ I h) fun v s1 ⟨x,H1,I1,r1,q1⟩=>?_
  obtain ⟨a,e,⟨xs,hq⟩,q⟩:=q1
  subst e
  cases r1
  obtain ⟨its,rv,p,hz⟩:=I1.list hq
  refine wpAny_pyIter_list p.isList ?_
  refine ⟨s1.heap.objs.size,[s1.heap.objs.size],_,_,H1,rfl,I1.kept (t':=s1.toks) fun b o e=>Heap.get?_push_of_some _ e,turn_list a _,⟨_,Heap.get?_push_size _ rfl,rfl,rfl⟩,fun b hb=>?_,q⟩
  have e:b=s1.heap.objs.size:=by simpa using hb
  subst e
  exact I1.fpOk (Nat.le_refl _) (I1.hok.fresh (Nat.le_refl _))
theorem range_it {pins:List (Addr×Obj)} {σ:St} {H:Hp} {s:Shared} {R:It->Hp->Prop} {E:Value->Shared->Prop} {lo hi:Int} {t u v:Tok} {tk:Nat} (I:Inv X pins σ H s) (h1:-(2 ^ 62)<=lo) (h2:lo<2 ^ 62) (h3:-(2 ^ 62)<=hi) (h4:hi<2 ^ 62)
    (q:R (Itr lo (hi-lo).toNat) H):wpAny (model X.prog X.w) X.A (pyIter (.ref s.heap.objs.size)) (PIE X pins σ tg R) E { s with heap:=s.heap.push { cls:=.type "range",data:=.fields #[.int lo t,.int hi u,.int 1 v] },toks:=tk }:=by
  refine wpAny_pyIter_range (IsRange.new ..) (small_one h1 h2 h3 h4) ?_
  have I1:Inv X pins σ H { s with heap:=s.heap.push { cls:=.type "range",data:=.fields #[.int lo t,.int hi u,.int 1 v] },toks:=tk }:=I.kept fun b o e=>Heap.get?_push_of_some _ e
  refine ⟨(s.heap.push { cls:=.type "range",data:=.fields #[.int lo t,.int hi u,.int 1 v] }).objs.size,[(s.heap.push { cls:=.type "range",data:=.fields #[.int lo t,.int hi u,.int 1 v] }).objs.size],_,_,H,rfl,
    I1.kept (t':=tk) fun b o e=>Heap.get?_push_of_some _ e,turn_range _ lo (hi-lo).toNat,?_,fun b hb=>?_,q⟩
  · have e1:lo+((0:Nat):Int)*1=lo:=by simp
    have e2:(((hi-lo).toNat:Nat):Int)-((0:Nat):Int)=Builtin.Range.rangeSize lo hi 1:=by rw [rangeSize_one];split <;> omega
    show IsRangeIter _ _ (lo+((0:Nat):Int)*1) ((((hi-lo).toNat:Nat):Int)-((0:Nat):Int)) 1
    rw [e1,e2]
    exact Heap.get?_push_size _ rfl
  · have e:b=(s.heap.push { cls:=.type "range",data:=.fields #[.int lo t,.int hi u,.int 1 v] }).objs.size:=by simpa using hb
    subst e
    exact I1.fpOk (Nat.le_refl _) (I1.hok.fresh (Nat.le_refl _))
def iRng1 (ta:TA):TI:=fun σ H R=>ta σ H fun vs H1=>∃ j:Int,vs=[.int j]/\-(2 ^ 62)<=j/\j<2 ^ 62/\R (Itr 0 j.toNat) H1
def iRng2 (ta:TA):TI:=fun σ H R=>ta σ H fun vs H1=>∃ i j:Int,vs=[.int i,.int j]/\(-(2 ^ 62)<=i/\i<2 ^ 62/\-(2 ^ 62)<=j/\j<2 ^ 62)/\R (Itr i (j-i).toNat) H1
theorem yN {a:Expr} {ta:TA} {p pos:Pos} (hg:Gl X "range") (hm:X.mg "range"=none) (ha:PA X [a] ta) (hs:starEach [a] X.env=[(false,eval a X.env)]:=by rfl):PI X tg (.Call (.Name "range" p) [a] [] pos) (iRng1 ta):=by
  intro pins s σ H R I h
  refine Call_ (ld_blt I hg hm boot_range (PyProof.Rows.callWith_type1 (thn (ha pos pins s σ H _ I h) fun us s1 ⟨vs,H1,I1,r1,q1⟩=>?_) hs rfl))
  obtain ⟨j,e,q1,q2,q⟩:=q1
  subst e
  cases r1 with
  | cons r rr =>
    cases rr
    obtain ⟨t,rfl⟩:=r
    exact call_range_1 (range_it I1 (by omega) (by omega) q1 q2 (by simpa using q))
theorem pi_range2 {a b:Expr} {ta:TA} {p pos:Pos} (hg:Gl X "range") (hm:X.mg "range"=none) (ha:PA X [a,b] ta) (hs:starEach [a,b] X.env=[(false,eval a X.env),(false,eval b X.env)]:=by rfl) (hs2:starEach [b] X.env=[(false,eval b X.env)]:=by rfl) :
    PI X tg (.Call (.Name "range" p) [a,b] [] pos) (iRng2 ta):=by
  intro pins s σ H R I h
  refine Call_ (ld_blt I hg hm boot_range (PyProof.Rows.callWith_type1 (thn (ha pos pins s σ H _ I h) fun us s1 ⟨vs,H1,I1,r1,q1⟩=>?_) (by rw [hs,hs2]) (by rw [hs2];rfl)))
  obtain ⟨i,j,e,⟨q1,q2,q3,q4⟩,q⟩:=q1
  subst e
  cases r1 with
  | cons r rr =>
    cases rr with
    | cons r' rr =>
      cases rr
      obtain ⟨t,rfl⟩:=r
      obtain ⟨t',rfl⟩:=r'
      exact call_range_2 (range_it I1 q1 q2 q3 q4 q)
def tFor (wi:TI) (g:TG) (tb:TS):TS:=fun D σ H=>wi σ H fun J H1=>∃ W:Nat->Nat->St->Hp->Prop,(∃ m,W 0 m σ H1)/\∀ i m σ H,W i m σ H ->
  (J.stop i H/\D.nx σ H)∨(J.go i H/\∃ N:St->Hp->Prop,(∀ σ' H',N σ' H'->∃ m',m'<m/\W (i+1) m' σ' H')/\∀ x H',J.yld i H x H'->g x σ H' fun σ2 H2=>tb { D with nx:=N,ct:=N,bk:=D.nx } σ2 H2)
def pinsAt (fp:List Addr) (h:Heap):List (Addr×Obj):=fp.filterMap fun b=>(h.get? b).map fun o=>(b,o)
theorem xH {fp:List Addr} {h:Heap} {b:Addr} {o:Obj} (hb:b∈fp) (e:h.get? b=some o):(b,o)∈pinsAt fp h:=List.mem_filterMap.mpr ⟨b,hb,by rw [e];rfl⟩
theorem of_pinsAt {fp:List Addr} {h:Heap} {p:Addr×Obj} (hp:p∈pinsAt fp h):p.1∈fp/\h.get? p.1=some p.2:=by
  obtain ⟨b,hb,e⟩:=List.mem_filterMap.mp hp
  cases q:h.get? b with
  | none=>rw [q] at e;cases e
  | some o =>
    rw [q] at e
    have e':(b,o)=p:=Option.some.inj e
    subst e'
    exact ⟨hb,q⟩
theorem Inv.pinned {pins:List (Addr×Obj)} {σ:St} {H:Hp} {s:Shared} {fp:List Addr} (I:Inv X pins σ H s) (hf:∀ b∈fp,FpOk X pins H b) (ho:∀ b∈fp,∃ o,s.heap.get? b=some o/\∀ v,o.data≠.cell v):Inv X (pins++pinsAt fp s.heap) σ H s :=
  I.pins_of fun p hp=>(List.mem_append.mp hp).elim (fun z=>I.pin p (List.mem_append_right _ z)) fun z=>by
    obtain ⟨hb,e⟩:=of_pinsAt z
    obtain ⟨f0,f1,f2,_⟩:=hf p.1 hb
    obtain ⟨o,e',d⟩:=ho p.1 hb
    rw [e] at e';cases e'
    exact ⟨e,f0,f1,f2,d⟩
theorem Inv.unpinned {pins pl:List (Addr×Obj)} {σ:St} {H:Hp} {s:Shared} (I:Inv X (pins++pl) σ H s):Inv X pins σ H s:=I.pins_of fun p hp=>I.pin p (List.mem_append_right _ (List.mem_append_left _ hp))
theorem xc {iter:Expr} {body:List Stmt} {wi:TI} {g:TG} {tb:TS} {pos:Pos} (hp:PassesOwn (model X.prog X.w) X.A X.env X.xe) (hc:X.calm=true) (hi:PI X tg iter wi) (hg:PG X tg g) (hb:PSs X body tb)
    (hs:∀ x,foldedSetIterable iter X.env x=pure x:=by intro _;rfl):PS X (.For tg iter body [] pos) (tFor wi g tb):=by
  intro pins s σ H D I h
  refine wpAny_For (thn (hi pins s σ H _ I h) fun v s1 h1=>thn h1 fun itv s2 h2=>?_) hs
  obtain ⟨it,fp,tn,J,H2,e,I2,T,st2,f2,W,⟨m0,w0⟩,turn⟩:=h2
  subst e
  have stat:∀ {H':Hp},(∀ b∈fp,H' b=none)->∀ b∈fp,FpOk X pins H' b:=fun hn b hb=>⟨hn b hb,(f2 b hb).2⟩
  refine codeAny_forLoop_any (fun n s'=>∃ i σ' H',Inv X pins σ' H' s'/\tn i s'.heap/\(∀ b∈fp,H' b=none)/\W i n σ' H') ?_ m0 ⟨0,σ,H2,I2,st2,fun b hb=>(f2 b hb).1,w0⟩
  rintro n s3 ⟨i,σ3,H3,I3,st3,fr3,w3⟩
  rcases turn i n σ3 H3 w3 with ⟨stop,qn⟩ | ⟨go,N,hN,step⟩
  · refine wpAny_passesOwn hp (thn (T.done X rfl rfl rfl hc i pins s3 σ3 H3 X.xe I3 (stat fr3) st3 stop) fun r s4 ⟨hr,I4⟩=>?_)
    subst hr
    exact wpAny_execs_nil ⟨σ3,H3,I4,qn⟩
  · refine wpAny_passesOwn hp (thn (T.item X rfl rfl rfl hc i pins s3 σ3 H3 X.xe I3 (stat fr3) st3 go) fun r s4 ⟨u,hr,h4⟩=>?_)
    subst hr
    refine wpAny_passesOwn hp (thn h4 fun _ s5 ⟨x,H5,I5,r5,y5,st5,fr5⟩=>?_)
    have I5':=I5.pinned (stat fr5) (T.obj _ _ st5)
    refine wpAny_passesOwn hp (thn (hg _ s5 σ3 H5 x u _ I5' r5 (step x H5 y5)) fun _ s6 ⟨σ6,H6,I6,q6⟩=>?_)
    refine wpAny_passesOwn hp (thn (hb _ s6 σ6 H6 _ I6 q6) fun f s7 q7=>?_)
    have again:∀ {σ7:St} {H7:Hp},Inv X (pins++pinsAt fp s5.heap) σ7 H7 s7->N σ7 H7->∃ m,m<n/\∃ i σ' H',Inv X pins σ' H' s7/\tn i s7.heap/\(∀ b∈fp,H' b=none)/\W i m σ' H':=fun {σ7 H7} I7 n7=>by
      obtain ⟨m',hm,w7⟩:=hN σ7 H7 n7
      refine ⟨m',hm,i+1,σ7,H7,I7.unpinned,T.keep _ _ _ st5 fun b hb o e=>(I7.pin (b,o) (List.mem_append_right _ (List.mem_append_right _ (xH hb e)))).1,fun b hb=>?_,w7⟩
      obtain ⟨o,e,d⟩:=T.obj _ _ st5 b hb
      exact (I7.pin (b,o) (List.mem_append_right _ (List.mem_append_right _ (xH hb e)))).2.1
    cases f with
    | next=>obtain ⟨σ7,H7,I7,n7⟩:=q7;exact again I7 n7
    | cont=>obtain ⟨σ7,H7,I7,n7⟩:=q7;exact again I7 n7
    | brk=>obtain ⟨σ7,H7,I7,q7⟩:=q7;exact ⟨σ7,H7,I7.unpinned,q7⟩
    | ret v=>obtain ⟨x7,σ7,H7,I7,r7,q7⟩:=q7;exact ⟨x7,σ7,H7,I7.unpinned,r7,q7⟩
end
theorem for_list {K:PySem.W.Frag} {a:Addr} {xs:List V} {g:TG} {tb:TS} {D:Ends} {σ:St} {H:Hp} (Pv:Nat->St->Hp->Prop) (h0:Pv 0 σ H) (hl:∀ i σ H,i<=xs.length->Pv i σ H->SqL K H a xs)
    (hs:∀ i x σ H,xs[i]?=some x->Pv i σ H->g x σ H fun σ2 H2=>tb { D with nx:=Pv (i+1),ct:=Pv (i+1),bk:=D.nx } σ2 H2) (hd:∀ σ H,Pv xs.length σ H->D.nx σ H) :
    ∃ W:Nat->Nat->St->Hp->Prop,(∃ m,W 0 m σ H)/\∀ i m σ H,W i m σ H ->
      ((Itl K a).stop i H/\D.nx σ H)∨((Itl K a).go i H/\∃ N:St->Hp->Prop,(∀ σ' H',N σ' H'->∃ m',m'<m/\W (i+1) m' σ' H')/\∀ x H',(Itl K a).yld i H x H'->g x σ H' fun σ2 H2=>tb { D with nx:=N,ct:=N,bk:=D.nx } σ2 H2):=by
  refine ⟨fun i m σ H=>m=xs.length-i/\i<=xs.length/\Pv i σ H,⟨xs.length,by simp,Nat.zero_le _,h0⟩,?_⟩
  rintro i m σ H ⟨rfl,hi,p⟩
  have q:=hl i σ H hi p
  by_cases hlt:i<xs.length
  · refine .inr ⟨⟨xs,xs[i],q,by simp [hlt]⟩,Pv (i+1),fun σ' H' p'=>⟨xs.length-(i+1),by omega,rfl,hlt,p'⟩,fun x H' y=>?_⟩
    obtain ⟨e,y⟩:=y
    subst e
    exact hs i x σ _ (y xs q) p
  · have e:i=xs.length:=by omega
    subst e
    exact .inl ⟨⟨xs,q,Nat.le_refl _⟩,hd σ H p⟩
theorem xT {lo:Int} {n:Nat} {g:TG} {tb:TS} {D:Ends} {σ:St} {H:Hp} (Pv:Nat->St->Hp->Prop) (h0:Pv 0 σ H)
    (hs:∀ i σ H,i<n->Pv i σ H->g (.int (lo+i)) σ H fun σ2 H2=>tb { D with nx:=Pv (i+1),ct:=Pv (i+1),bk:=D.nx } σ2 H2) (hd:∀ σ H,Pv n σ H->D.nx σ H) :
    ∃ W:Nat->Nat->St->Hp->Prop,(∃ m,W 0 m σ H)/\∀ i m σ H,W i m σ H ->
      ((Itr lo n).stop i H/\D.nx σ H)∨((Itr lo n).go i H/\∃ N:St->Hp->Prop,(∀ σ' H',N σ' H'->∃ m',m'<m/\W (i+1) m' σ' H')/\∀ x H',(Itr lo n).yld i H x H'->g x σ H' fun σ2 H2=>tb { D with nx:=N,ct:=N,bk:=D.nx } σ2 H2):=by
  refine ⟨fun i m σ H=>m=n-i/\i<=n/\Pv i σ H,⟨n,by simp,Nat.zero_le _,h0⟩,?_⟩
  rintro i m σ H ⟨rfl,hi,p⟩
  by_cases hlt:i<n
  · refine .inr ⟨hlt,Pv (i+1),fun σ' H' p'=>⟨n-(i+1),by omega,rfl,hlt,p'⟩,fun x H' y=>?_⟩
    obtain ⟨e,y⟩:=y
    subst e y
    exact hs i σ _ hlt p
  · have e:i=n:=by omega
    subst e
    exact .inl ⟨Nat.le_refl _,hd σ H p⟩
end L2
namespace L2
open PySem PySem.Spec PyProof.Rows
abbrev R2:=V->V->Hp->VK->Prop
def OpR (X:Cx) (f:Value->Value->Sem Value) (r:R2):Prop :=
  ∀ (pins:List (Addr×Obj)) (s:Shared) (σ:St) (H:Hp) (x y:V) (v u:Value) (Q:VK),Inv X pins σ H s->RelV x v->RelV y u->r x y H Q ->
    wpAny (model X.prog X.w) X.A (f v u) (EP X pins σ Q) X.xe s
def UnR (X:Cx) (f:Value->Sem Value) (r:V->Hp->VK->Prop):Prop :=
  ∀ (pins:List (Addr×Obj)) (s:Shared) (σ:St) (H:Hp) (x:V) (v:Value) (Q:VK),Inv X pins σ H s->RelV x v->r x H Q ->
    wpAny (model X.prog X.w) X.A (f v) (EP X pins σ Q) X.xe s
def CallR (X:Cx) (f:Value) (r:List V->Hp->VK->Prop):Prop :=
  ∀ (pins:List (Addr×Obj)) (s:Shared) (σ:St) (H:Hp) (xs:List V) (us:List Value) (Q:VK),Inv X pins σ H s->Vals xs us->r xs H Q ->
    wpAny (model X.prog X.w) X.A (call f us) (EP X pins σ Q) X.xe s
def tOp (r:R2) (ta tb:TE):TE:=fun σ H Q=>ta σ H fun x H1=>tb σ H1 fun y H2=>r x y H2 Q
def tUn (r:V->Hp->VK->Prop) (ta:TE):TE:=fun σ H Q=>ta σ H fun x H1=>r x H1 Q
def rI (C:Int->Int->Prop) (g:Int->Int->V):R2:=fun x y H Q=>∃ i j,x=.int i/\y=.int j/\C i j/\Q (g i j) H
def rI0 (g:Int->Int->V):R2:=fun x y H Q=>∃ i j,x=.int i/\y=.int j/\Q (g i j) H
def rU (g:Int->V):V->Hp->VK->Prop:=fun x H Q=>∃ i,x=.int i/\Q (g i) H
section
variable {X:Cx} {a b c:Expr} {ta tb tc:TE} {pos:Pos}
theorem binT (ha:PE X a ta) (hb:PE X b tb) {pins:List (Addr×Obj)} {s:Shared} {σ:St} {H:Hp} {R:V->V->Hp->Prop} (I:Inv X pins σ H s)
    (h:ta σ H fun x H1=>tb σ H1 fun y H2=>R x y H2) {Q:Value->Shared->Prop} {f:Value->Value->Sem Value}
    (hf:∀ v u s2 x y H2,Inv X pins σ H2 s2->RelV x v->RelV y u->R x y H2->wpAny (model X.prog X.w) X.A (f v u) Q X.xe s2) :
    wpAny (model X.prog X.w) X.A (eval a X.env) (fun v s₁=>wpAny (model X.prog X.w) X.A (eval b X.env) (fun u s₂=>wpAny (model X.prog X.w) X.A (f v u) Q X.xe s₂) X.xe s₁) X.xe s:=by
  refine thn (ha pins s σ H _ I h) fun v s1 ⟨x,H1,I1,r1,q1⟩=>?_
  refine thn (hb pins s1 σ H1 _ I1 q1) fun u s2 ⟨y,H2,I2,r2,q2⟩=>?_
  exact hf v u s2 x y H2 I2 r1 r2 q2
theorem zi {op:Operator} {r:R2} (ho:OpR X (binaryOp op) r) (ha:PE X a ta) (hb:PE X b tb):PE X (.BinOp a op b pos) (tOp r ta tb):=by
  intro pins s σ H Q I h
  exact wpAny_BinOp (binT ha hb I h fun v u s2 x y H2 I2 rx ry q=>ho pins s2 σ H2 x y v u Q I2 rx ry q)
theorem pe_un {op:UnaryOp} {r:V->Hp->VK->Prop} (ho:UnR X (unaryOp op) r) (ha:PE X a ta):PE X (.UnaryOp op a pos) (tUn r ta):=by
  intro pins s σ H Q I h
  exact UnaryOp_ (thn (ha pins s σ H _ I h) fun v s1 ⟨x,H1,I1,r1,q1⟩=>ho pins s1 σ H1 x v Q I1 r1 q1)
theorem opI {f:Value->Value->Sem Value} {C:Int->Int->Prop} {g:Int->Int->Int}
    (rule:∀ (i j:Int) (t u:Tok) (s:Shared) (Q:Value->Shared->Prop) (E:Value->Shared->Prop),C i j->Q (.int (g i j) s.toks) { s with toks:=s.toks+1 }->wpAny (model X.prog X.w) X.A (f (.int i t) (.int j u)) Q E s) :
    OpR X f (rI C fun i j=>.int (g i j)):=by
  intro pins s σ H x y v u Q I rx ry h
  obtain ⟨i,j,rfl,rfl,hc,q⟩:=h
  obtain ⟨t,rfl⟩:=rx
  obtain ⟨t',rfl⟩:=ry
  exact rule i j t t' s _ _ hc ⟨.int (g i j),H,I.tok _,⟨_,rfl⟩,q⟩
theorem opI0 {f:Value->Value->Sem Value} {g:Int->Int->Int}
    (rule:∀ (i j:Int) (t u:Tok) (s:Shared) (Q:Value->Shared->Prop) (E:Value->Shared->Prop),Q (.int (g i j) s.toks) { s with toks:=s.toks+1 }->wpAny (model X.prog X.w) X.A (f (.int i t) (.int j u)) Q E s) :
    OpR X f (rI0 fun i j=>.int (g i j)):=by
  intro pins s σ H x y v u Q I rx ry h
  obtain ⟨i,j,rfl,rfl,q⟩:=h
  obtain ⟨t,rfl⟩:=rx
  obtain ⟨t',rfl⟩:=ry
  exact rule i j t t' s _ _ ⟨.int (g i j),H,I.tok _,⟨_,rfl⟩,q⟩
theorem opB0 {f:Value->Value->Sem Value} {g:Int->Int->Bool}
    (rule:∀ (i j:Int) (t u:Tok) (s:Shared) (Q:Value->Shared->Prop) (E:Value->Shared->Prop),Q (.bool (g i j)) s->wpAny (model X.prog X.w) X.A (f (.int i t) (.int j u)) Q E s) :
    OpR X f (rI0 fun i j=>.bl (g i j)):=by
  intro pins s σ H x y v u Q I rx ry h
  obtain ⟨i,j,rfl,rfl,q⟩:=h
  obtain ⟨t,rfl⟩:=rx
  obtain ⟨t',rfl⟩:=ry
  exact rule i j t t' s _ _ ⟨.bl (g i j),H,I,rfl,q⟩
def CDiv (i j:Int):Prop:=0<j/\j<1073741824
def CPow (i j:Int):Prop:=0<=j/\j<=1000000/\i.natAbs<2 ^ 64
def CMul (i j:Int):Prop:=(-(2 ^ 64)<i/\i<2 ^ 64)∨(-(2 ^ 64)<j/\j<2 ^ 64)
theorem CMul.ok {i j:Int} (h:CMul i j):IntMulOk i j:=by
  rcases h with ⟨h1,h2⟩ | ⟨h1,h2⟩
  · exact .of_left (intBits_le_64 h1 h2)
  · exact .of_right (intBits_le_64 h1 h2)
theorem zF:OpR X (binaryOp .Add) (rI0 fun i j=>.int (i+j)):=opI0 fun _ _ _ _ _ _ _ q=>add_int q
theorem op_sub:OpR X (binaryOp .Sub) (rI0 fun i j=>.int (i-j)):=opI0 fun _ _ _ _ _ _ _ q=>sub_int q
theorem ya:OpR X (binaryOp .Mult) (rI CMul fun i j=>.int (i*j)):=opI fun _ _ _ _ _ _ _ hc q=>mul_int q hc.ok
theorem op_fdiv:OpR X (binaryOp .FloorDiv) (rI CDiv fun i j=>.int (i / j)):=opI fun i j _ _ _ _ _ hc q=>by
  have h1:(0:Int)<j:=hc.1
  have h2:j<1073741824:=hc.2
  exact floordiv_int (by omega) (by rw [Int.fdiv_eq_ediv_of_nonneg i (by omega)];exact q) (.inl (PyProof.noPylong_small (by omega)))
theorem yU:OpR X (binaryOp .Mod) (rI (fun _ j=>0<j) fun i j=>.int (i % j)):=opI fun i j _ _ _ _ _ hc q=>by
  have h1:(0:Int)<j:=hc
  exact mod_int' (by omega) (by rw [Int.fmod_eq_emod_of_nonneg i (by omega)];exact q)
theorem op_pow:OpR X (binaryOp .Pow) (rI CPow fun i j=>.int (i ^ j.toNat)):=opI fun _ _ _ _ _ _ _ hc q=>pow_int_small hc.1 hc.2.1 hc.2.2 q
theorem op_and:OpR X (binaryOp .BitAnd) (rI0 fun i j=>.int (Builtin.bitAnd i j)):=opI0 fun _ _ _ _ _ _ _ q=>and_int q
theorem op_or:OpR X (binaryOp .BitOr) (rI0 fun i j=>.int (Builtin.bitOr i j)):=opI0 fun _ _ _ _ _ _ _ q=>or_int q
theorem op_xor:OpR X (binaryOp .BitXor) (rI0 fun i j=>.int (Builtin.bitXor i j)):=opI0 fun _ _ _ _ _ _ _ q=>xor_int q
theorem unI {f:Value->Sem Value} {g:Int->Int}
    (rule:∀ (i:Int) (t:Tok) (s:Shared) (Q:Value->Shared->Prop) (E:Value->Shared->Prop),Q (.int (g i) s.toks) { s with toks:=s.toks+1 }->wpAny (model X.prog X.w) X.A (f (.int i t)) Q E s) :
    UnR X f (rU fun i=>.int (g i)):=by
  intro pins s σ H x v Q I rx h
  obtain ⟨i,rfl,q⟩:=h
  obtain ⟨t,rfl⟩:=rx
  exact rule i t s _ _ ⟨.int (g i),H,I.tok _,⟨_,rfl⟩,q⟩
theorem un_neg:UnR X (unaryOp .USub) (rU fun i=>.int (-i)):=unI fun _ _ _ _ _ q=>neg_int q
end
def scal:V->V->Bool
  | .non,.non=>true | .non,.int _=>true | .int _,.non=>true | .non,.bl _=>true | .bl _,.non=>true | .non,.str _=>true | .str _,.non=>true
  | .int _,.int _=>true | .bl _,.bl _=>true | .str _,.str _=>true | .byt _,.byt _=>true
  | .int _,.str _=>true | .str _,.int _=>true | .bl _,.str _=>true | .str _,.bl _=>true
  | _,_=>false
def rEq:R2:=fun x y H Q=>scal x y=true/\Q (.bl (decide (x=y))) H
def rNe:R2:=fun x y H Q=>scal x y=true/\Q (.bl (!decide (x=y))) H
theorem dec_int {i j:Int}:decide (V.int i=V.int j)=(i == j):=by
  rw [Bool.eq_iff_iff]
  simp
theorem dec_bl {i j:Bool}:decide (V.bl i=V.bl j)=(i == j):=by
  rw [Bool.eq_iff_iff]
  simp
theorem dec_str {i j:Str}:decide (V.str i=V.str j)=(i == j):=by
  rw [Bool.eq_iff_iff]
  simp
theorem dec_byt {i j:Array UInt8}:decide (V.byt i=V.byt j)=(i.toList == j.toList):=by
  rw [Bool.eq_iff_iff]
  cases i
  cases j
  simp
section
variable {X:Cx} {a b c:Expr} {ta tb tc:TE} {pos:Pos}
theorem zS {pins:List (Addr×Obj)} {σ:St} {H:Hp} {s:Shared} {Q:VK} {k k':Bool} (I:Inv X pins σ H s) (q:Q (.bl k) H) (e:k=k'):EP X pins σ Q (.bool k') s:=by
  subst e
  exact ⟨.bl k,H,I,rfl,q⟩
theorem yF:OpR X (compareOp .Eq) rEq:=by
  intro pins s σ H x y v u Q I rx ry h
  obtain ⟨hs,q⟩:=h
  cases x with
  | non =>
    cases rx
    cases y with
    | non=>cases ry;exact PySem.EqNone.eq_none_none (zS I q (by simp))
    | bl j=>cases ry;exact PySem.EqNone.eq_none_bool (zS I q (by simp))
    | int j=>obtain ⟨t',rfl⟩:=ry;exact PySem.EqNone.eq_none_int (zS I q (by simp))
    | str j=>obtain ⟨t',rfl⟩:=ry;exact PySem.EqNone.eq_none_str (zS I q (by simp))
    | _=>exact absurd (show false=true from hs) Bool.false_ne_true
  | bl i =>
    cases rx
    cases y with
    | non=>cases ry;exact PySem.EqNone.eq_bool_none (zS I q (by simp))
    | bl j=>cases ry;exact eq_bool (zS I q dec_bl)
    | str j=>obtain ⟨t',rfl⟩:=ry;exact PySem.EqMixed.eq_bool_str (zS I q (by simp))
    | _=>exact absurd (show false=true from hs) Bool.false_ne_true
  | int i =>
    obtain ⟨t,rfl⟩:=rx
    cases y with
    | non=>cases ry;exact PySem.EqNone.eq_int_none (zS I q (by simp))
    | int j=>obtain ⟨t',rfl⟩:=ry;exact eq_int (zS I q dec_int)
    | str j=>obtain ⟨t',rfl⟩:=ry;exact PySem.EqMixed.eq_int_str (zS I q (by simp))
    | _=>exact absurd (show false=true from hs) Bool.false_ne_true
  | str i =>
    obtain ⟨t,rfl⟩:=rx
    cases y with
    | non=>cases ry;exact PySem.EqNone.eq_str_none (zS I q (by simp))
    | bl j=>cases ry;exact PySem.EqMixed.eq_str_bool (zS I q (by simp))
    | int j=>obtain ⟨t',rfl⟩:=ry;exact PySem.EqMixed.eq_str_int (zS I q (by simp))
    | str j=>obtain ⟨t',rfl⟩:=ry;exact eq_str (zS I q dec_str)
    | _=>exact absurd (show false=true from hs) Bool.false_ne_true
  | byt i =>
    obtain ⟨t,rfl⟩:=rx
    cases y with
    | byt j=>obtain ⟨t',rfl⟩:=ry;exact PySem.W.eq_bytes (zS I q dec_byt)
    | _=>exact absurd (show false=true from hs) Bool.false_ne_true
  | _=>cases y <;> exact absurd (show false=true from hs) Bool.false_ne_true
theorem op_ne:OpR X (compareOp .NotEq) rNe:=by
  intro pins s σ H x y v u Q I rx ry h
  obtain ⟨hs,q⟩:=h
  cases x with
  | non =>
    cases rx
    cases y with
    | non=>cases ry;exact PySem.EqNone.ne_none_none (zS I q (by simp))
    | bl j=>cases ry;exact PySem.EqNone.ne_none_bool (zS I q (by simp))
    | int j=>obtain ⟨t',rfl⟩:=ry;exact PySem.EqNone.ne_none_int (zS I q (by simp))
    | str j=>obtain ⟨t',rfl⟩:=ry;exact PySem.EqNone.ne_none_str (zS I q (by simp))
    | _=>exact absurd (show false=true from hs) Bool.false_ne_true
  | bl i =>
    cases rx
    cases y with
    | non=>cases ry;exact PySem.EqNone.ne_bool_none (zS I q (by simp))
    | bl j=>cases ry;exact ne_bool (zS I q (congrArg not dec_bl))
    | str j=>obtain ⟨t',rfl⟩:=ry;exact PySem.EqMixed.ne_bool_str (zS I q (by simp))
    | _=>exact absurd (show false=true from hs) Bool.false_ne_true
  | int i =>
    obtain ⟨t,rfl⟩:=rx
    cases y with
    | non=>cases ry;exact PySem.EqNone.ne_int_none (zS I q (by simp))
    | int j=>obtain ⟨t',rfl⟩:=ry;exact ne_int (zS I q (congrArg not dec_int))
    | str j=>obtain ⟨t',rfl⟩:=ry;exact PySem.EqMixed.ne_int_str (zS I q (by simp))
    | _=>exact absurd (show false=true from hs) Bool.false_ne_true
  | str i =>
    obtain ⟨t,rfl⟩:=rx
    cases y with
    | non=>cases ry;exact PySem.EqNone.ne_str_none (zS I q (by simp))
    | bl j=>cases ry;exact PySem.EqMixed.ne_str_bool (zS I q (by simp))
    | int j=>obtain ⟨t',rfl⟩:=ry;exact PySem.EqMixed.ne_str_int (zS I q (by simp))
    | str j=>obtain ⟨t',rfl⟩:=ry;exact ne_str (zS I q (congrArg not dec_str))
    | _=>exact absurd (show false=true from hs) Bool.false_ne_true
  | byt i =>
    obtain ⟨t,rfl⟩:=rx
    cases y with
    | byt j=>obtain ⟨t',rfl⟩:=ry;exact PySem.W.ne_bytes (zS I q (congrArg not dec_byt))
    | _=>exact absurd (show false=true from hs) Bool.false_ne_true
  | _=>cases y <;> exact absurd (show false=true from hs) Bool.false_ne_true
theorem op_lt:OpR X (compareOp .Lt) (rI0 fun i j=>.bl (decide (i<j))):=opB0 fun _ _ _ _ _ _ _ q=>lt_int q
theorem op_le:OpR X (compareOp .LtE) (rI0 fun i j=>.bl (decide (i<=j))):=opB0 fun _ _ _ _ _ _ _ q=>le_int q
theorem op_gt:OpR X (compareOp .Gt) (rI0 fun i j=>.bl (decide (j<i))):=opB0 fun _ _ _ _ _ _ _ q=>gt_int q
theorem op_isN:OpR X (compareOp .Is) (fun x y H Q=>y=.non/\Q (.bl (decide (x=.non))) H):=by
  intro pins s σ H x y v u Q I rx ry h
  obtain ⟨rfl,q⟩:=h
  cases ry
  refine is_none_gen (zS I q ?_)
  cases x <;> first
    | (cases rx;rfl)
    | (obtain ⟨t,rfl⟩:=rx;rfl)
theorem op_notN:OpR X (compareOp .IsNot) (fun x y H Q=>y=.non/\Q (.bl (!decide (x=.non))) H):=by
  intro pins s σ H x y v u Q I rx ry h
  obtain ⟨rfl,q⟩:=h
  cases ry
  refine isnot_none_gen (zS I q ?_)
  cases x <;> first
    | (cases rx;rfl)
    | (obtain ⟨t,rfl⟩:=rx;rfl)
theorem zL (b:Expr) {op:CmpOp} (h:op≠.In:=by decide) (h2:op≠.NotIn:=by decide):behindInMarks op b=false:=by
  have e1:(op == CmpOp.In)=false:=by cases op <;> first | rfl | exact absurd rfl h
  have e2:(op == CmpOp.NotIn)=false:=by cases op <;> first | rfl | exact absurd rfl h2
  cases b <;> simp [behindInMarks,e1,e2]
theorem pe_cmpR {op:CmpOp} {r:R2} (ho:OpR X (compareOp op) r) (ha:PE X a ta) (hb:PE X b tb) (hm:behindInMarks op b=false):PE X (.Compare a [op] [b] pos) (tOp r ta tb):=by
  intro pins s σ H Q I h
  exact wpAny_Compare1 (binT ha hb I h fun v u s2 x y H2 I2 rx ry q=>ho pins s2 σ H2 x y v u Q I2 rx ry q) hm
def tTest (t:TE):TT:=fun σ H Q=>t σ H fun x H'=>∃ k,x=.bl k/\Q k H'
theorem zH {op:CmpOp} {r:R2} (ho:OpR X (compareOp op) r) (ha:PE X a ta) (hb:PE X b tb) (hm:behindInMarks op b=false):PT X (.Compare a [op] [b] pos) (tTest (tOp r ta tb)):=by
  intro pins s σ H Q I h
  refine wpAny_isTrue_Compare1 (thn (ha pins s σ H _ I h) fun v s1 ⟨x,H1,I1,r1,q1⟩=>thn (hb pins s1 σ H1 _ I1 q1) fun u s2 ⟨y,H2,I2,r2,q2⟩ =>
    thn (ho pins s2 σ H2 x y v u _ I2 r1 r2 q2) fun c s3 ⟨z,H3,I3,r3,k,e,q3⟩=>?_) hm
  subst e
  cases r3
  exact wpAny_truthy_bool ⟨H3,I3,q3⟩
def tChain (r r':R2) (ta tb tc:TE):TE:=fun σ H Q=>ta σ H fun x H1=>tb σ H1 fun y H2=>r x y H2 fun z H3=>∃ k,z=.bl k /\
  (if k=true then tc σ H3 fun w' H4=>r' y w' H4 Q else Q (.bl false) H3)
theorem pt_chain {op op':CmpOp} {r r':R2} (ho:OpR X (compareOp op) r) (ho':OpR X (compareOp op') r') (ha:PE X a ta) (hb:PE X b tb) (hc:PE X c tc)
    (hm:lastMarks [op,op'] [b,c]=false:=by with_unfolding_all rfl):PT X (.Compare a [op,op'] [b,c] pos) (tTest (tChain r r' ta tb tc)):=by
  intro pins s σ H Q I h
  refine isTrue_chain (thn (ha pins s σ H _ I h) fun v s1 ⟨x,H1,I1,r1,q1⟩=>test_link (thn (hb pins s1 σ H1 _ I1 q1) fun u s2 ⟨y,H2,I2,r2,q2⟩ =>
    thn (ho pins s2 σ H2 x y v u _ I2 r1 r2 q2) fun d s3 ⟨z,H3,I3,r3,k,e,q3⟩=>?_)) hm
  subst e
  cases r3
  refine wpAny_truthy_bool ?_
  cases k with
  | false =>
    obtain ⟨k',e',q'⟩:=q3
    cases e'
    exact ite_ff ⟨H3,I3,q'⟩
  | true =>
    refine ite_tt (test_last (thn (hc pins s3 σ H3 _ I3 q3) fun w' s4 ⟨z',H4,I4,r4,q4⟩=>thn (ho' pins s4 σ H4 y z' u w' _ I4 r2 r4 q4) fun d' s5 ⟨z2,H5,I5,r5,k2,e2,q5⟩=>?_))
    subst e2
    cases r5
    exact wpAny_truthy_bool ⟨H5,I5,q5⟩
theorem line63:(sizeLine:Nat)<2 ^ 63:=by rw [sizeLine_eq];decide
theorem vals1 {x:V} {us:List Value} (r:Vals [x] us):∃ u,us=[u]/\RelV x u:=by
  cases r with
  | cons r1 r2=>cases r2;exact ⟨_,rfl,r1⟩
theorem vals2 {x y:V} {us:List Value} (r:Vals [x,y] us):∃ u w',us=[u,w']/\RelV x u/\RelV y w':=by
  cases r with
  | cons r1 r2 =>
    cases r2 with
    | cons r3 r4=>cases r4;exact ⟨_,_,rfl,r1,r3⟩
theorem call_max2 (hc:X.calm=true):CallR X (.builtin "max") (fun xs H Q=>∃ i j,xs=[.int i,.int j]/\Q (.int (if j > i then j else i)) H):=by
  intro pins s σ H xs us Q I r h
  obtain ⟨i,j,rfl,q⟩:=h
  obtain ⟨u,w',rfl,⟨t,rfl⟩,⟨t',rfl⟩⟩:=vals2 r
  refine max_two_ints (I.ok.hd hc) fun h' tk k=>⟨_,H,I.kept k,?_,q⟩
  by_cases hj:j > i
  · rw [if_pos hj,if_pos hj];exact ⟨_,rfl⟩
  · rw [if_neg hj,if_neg hj];exact ⟨_,rfl⟩
theorem xI (hc:X.calm=true):CallR X (.builtin "min") (fun xs H Q=>∃ i j,xs=[.int i,.int j]/\Q (.int (if j<i then j else i)) H):=by
  intro pins s σ H xs us Q I r h
  obtain ⟨i,j,rfl,q⟩:=h
  obtain ⟨u,w',rfl,⟨t,rfl⟩,⟨t',rfl⟩⟩:=vals2 r
  refine min_two_ints (I.ok.hd hc) fun h' tk k=>⟨_,H,I.kept k,?_,q⟩
  by_cases hj:j<i
  · rw [if_pos hj,if_pos hj];exact ⟨_,rfl⟩
  · rw [if_neg hj,if_neg hj];exact ⟨_,rfl⟩
end
end L2
namespace L2
open PySem PySem.Spec PyProof.Rows
structure ObjM (h:Heap) (x dx C:Addr) (mA:Str->Option Value):Prop where
  obj:h.get? x=some (PySem.W.instObj C dx)
  ns:h.Ns1 dx mA
  ne:dx≠x
theorem lookIn_ns {h:Heap} {dx:Addr} {mA:Str->Option Value} (n:h.Ns1 dx mA):∃ od,h.get? dx=some od/\∀ name,PySem.W.lookIn name od=some (mA name):=by
  obtain ⟨o,es,ep,ho,hd,hk,_,hm⟩:=n
  refine ⟨o,ho,fun name=>?_⟩
  have e:=hm name
  unfold nsFind findBy at e
  rw [← Array.find?_toList] at e
  unfold PySem.W.lookIn
  rw [hd]
  dsimp only
  split
  · rename_i y q
    rw [q] at e
    exact congrArg some e
  · rename_i q
    rw [q] at e
    have a:es.toList.any (·.refKey)=false:=by
      rw [List.any_eq_false]
      intro y hy
      obtain ⟨z,t,hkey⟩:=hk y (Array.mem_toList_iff.mp hy)
      simp [DictEntry.refKey,hkey]
    have a':¬ es.toList.any (·.refKey)=true:=by rw [a];exact Bool.false_ne_true
    rw [if_neg a']
    exact congrArg some e
theorem ObjM.look {h:Heap} {x dx C:Addr} {mA:Str->Option Value} (I:ObjM h x dx C mA):∃ od,PySem.W.InstAt h x (PySem.W.instObj C dx) C (some od)/\∀ name,PySem.W.lookIn name od=some (mA name) :=
  let ⟨od,ho,hl⟩:=lookIn_ns I.ns
  ⟨od,⟨I.obj,rfl,rfl,ho⟩,hl⟩
section
variable {prog:Program} {w:World} {A:Around} {E:Value->Shared->Prop} {s:Shared} {K:PySem.W.Frag} {x dx C f:Addr} {mA:Str->Option Value} {name:Str} {v:Value}
theorem get_map {expr:Bool} {Q:Value->Shared->Prop} (X:K.In s.heap) (I:ObjM s.heap x dx C mA) (hg:PySem.W.plainGet K C name=true) (hh:PySem.W.hasDictIn K C=true)
    (ha:PySem.W.findIn K (.ref C) name=some none) (hv:mA name=some v) (hv':PySem.W.handedIn v=true) (h:Q v { s with toks:=s.toks+1 }) :
    wpAny (model prog w) A (getAttr (.ref x) name expr) Q E s:=by
  obtain ⟨od,J,hl⟩:=I.look
  exact PySem.W.get_value X J (PySem.W.plainGet_of hg).1 (PySem.W.findObj_own hh ha rfl (by rw [hl,hv])) hv' h
theorem get_meth {pl:Sem Bool} {Q:Value×List Value->Shared->Prop} (X:K.In s.heap) (I:ObjM s.heap x dx C mA) (hg:PySem.W.plainGet K C name=true)
    (hf:PySem.W.findIn K (.ref C) name=some (some (.ref f))) (ht:PySem.W.isFn K (.ref f)=true) (hv:mA name=none) (h:Q (.ref f,[.ref x]) s) :
    wpAny (model prog w) A (getMethod (.ref x) name pl) Q E s:=by
  obtain ⟨od,J,hl⟩:=I.look
  exact PySem.W.method_fn X J (PySem.W.plainGet_of hg).1 (PySem.W.plainGet_of hg).2 hf (beq_iff_eq.mp ht) (by show (PySem.W.lookIn name od).map (·.isSome)=some false;rw [hl,hv];rfl) h
theorem set_map {ns:List Str} {Q:Unit->Shared->Prop} (X:K.In s.heap) (I:ObjM s.heap x dx C mA)
    (hs:PySem.W.findIn K (.ref C) "__setattr__"=some (some (.builtin "object.__setattr__"))) (hp:PySem.W.plainOver K C=true) (ht:PySem.W.takerIn K C name=some none) (hh:PySem.W.hasDictIn K C=true)
    (hw:PySem.Within mA ns) (hsz:ns.length<=sizeLine)
    (h:∀ h',ObjM h' x dx C (fun y=>if y=name then some v else mA y)->Heap.SameBut dx s.heap h'->Q () { s with heap:=h',toks:=s.toks+2 }) :
    wpAny (model prog w) A (setAttr (.ref x) name v) Q E s:=by
  obtain ⟨od,J,hl⟩:=I.look
  refine PySem.W.set_plain X J hs (PySem.W.osa_open (s:={ s with toks:=s.toks+1 }) (r:=none) X J hp ht fun b=>?_)
  obtain ⟨cd,hc,hd'⟩:=PySem.W.any_some hh
  have hx:s.heap.get? x=some ⟨.ref C,some dx,.plain,#[]⟩:=I.obj
  refine wpAny_bind (wpAny_pure (wpAny_bind (wpAny_bind (wpAny_loadPart hx (wpAny_bind (PySem.W.Looks.here (s:={ s with toks:=s.toks+1 }) (PySem.W.looks_clsIn X hc) ?_))))))
  rw [hd']
  refine wpAny_pure (a:=some dx) (wpAny_bind (wpAny_pure (wpAny_bind ?_)))
  refine wpAny_nsSet1 (s:={ s with toks:=s.toks+1 }) I.ns fun h' hn2 hs2=>?_
  obtain ⟨oD,esD,epD,hoD,hdD,hcD⟩:=hn2.count (PySem.Within.cons name v hw)
  refine wpAny_bind (wpAny_lookBehind hoD (by rw [hdD];exact pastItsLine_dict (Nat.le_trans hcD (by rw [List.length_cons];omega))) ?_)
  exact wpAny_pure (h _ ⟨(hs2.2 _ (Ne.symm I.ne)).trans I.obj,hn2,I.ne⟩ hs2)
theorem make_map {R:Result->Shared->Prop} {vs:List Value} {kw:List (Str×Value)} (X:K.In s.heap) (hm:PySem.W.makesIn K C=true)
    (hi:PySem.W.findIn K (.ref C) "__init__"=some (some (.ref f))) (hf:PySem.W.typeIn K (.ref f)=some (.type "function"))
    (h:codeAny (model prog w) (A.under (.builtin "type.__call__" ⟨.ref C::vs,kw⟩)) (.call (.ref f) ⟨.ref (s.heap.objs.size+1)::vs,kw⟩) (PySem.W.InitBack (s.heap.objs.size+1) R)
      { s with heap:=(s.heap.push PySem.W.emptyDict).push (PySem.W.instObj C s.heap.objs.size) }) :
    codeAny (model prog w) A (.call (.ref C) ⟨vs,kw⟩) R s:=by
  obtain ⟨hh,g,d,t,os⟩:=s
  exact PySem.W.make_core (PySem.W.makes_of X hm) (PySem.W.looks_findIn X hi) (fun self=>PySem.W.bind_fn X self hf) (.inl rfl) h
end
def zM (f:Str) (v:V):List (Str×V)->List (Str×V)
  | []=>[(f,v)]
  | (g,x)::r=>if g=f then (g,v)::r else (g,x)::zM f v r
theorem lookup_putF (f g:Str) (v:V):∀ fs:List (Str×V),(zM f v fs).lookup g=if g=f then some v else fs.lookup g
  | []=>by
    show List.lookup g [(f,v)]=_
    by_cases h:g=f
    · have hb:(g == f)=true:=beq_iff_eq.mpr h
      simp only [List.lookup,hb,if_pos h]
    · have hb:(g == f)=false:=beq_eq_false_iff_ne.mpr h
      simp only [List.lookup,hb,if_neg h]
  | (k,x)::r=>by
    have ih:=lookup_putF f g v r
    rw [show zM f v ((k,x)::r)=(if k=f then (k,v)::r else (k,x)::zM f v r) from rfl]
    by_cases hk:k=f
    · rw [if_pos hk]
      by_cases h:g=k
      · have hb:(g == k)=true:=beq_iff_eq.mpr h
        simp only [List.lookup,hb,if_pos (h.trans hk)]
      · have hb:(g == k)=false:=beq_eq_false_iff_ne.mpr h
        simp only [List.lookup,hb,if_neg (fun e:g=f=>h (e.trans hk.symm))]
    · rw [if_neg hk]
      by_cases h:g=k
      · have hb:(g == k)=true:=beq_iff_eq.mpr h
        simp only [List.lookup,hb,if_neg (fun e:g=f=>hk (h.symm.trans e))]
      · have hb:(g == k)=false:=beq_eq_false_iff_ne.mpr h
        simp only [List.lookup,hb]
        exact ih
theorem keys_putF (f:Str) (v:V):∀ fs:List (Str×V),f∈(zM f v fs).map (·.1)/\∀ g,g∈fs.map (·.1)->g∈(zM f v fs).map (·.1)
  | []=>⟨by simp [zM],fun g h=>by simp at h⟩
  | (k,x)::r=>by
    obtain ⟨i1,i2⟩:=keys_putF f v r
    rw [show zM f v ((k,x)::r)=(if k=f then (k,v)::r else (k,x)::zM f v r) from rfl]
    by_cases hk:k=f
    · rw [if_pos hk]
      subst hk
      exact ⟨by simp,fun g h=>by simpa using h⟩
    · rw [if_neg hk]
      refine ⟨?_,fun g h=>?_⟩
      · rw [List.map_cons]
        exact List.mem_cons_of_mem _ i1
      · rw [List.map_cons] at h ⊢
        rcases List.mem_cons.mp h with e | e
        · exact List.mem_cons.mpr (.inl e)
        · exact List.mem_cons_of_mem _ (i2 g e)
theorem length_putF (f:Str) (v:V):∀ fs:List (Str×V),(zM f v fs).length<=fs.length+1
  | []=>by simp [zM]
  | (k,x)::r=>by
    have ih:=length_putF f v r
    rw [show zM f v ((k,x)::r)=(if k=f then (k,v)::r else (k,x)::zM f v r) from rfl]
    by_cases hk:k=f
    · rw [if_pos hk,List.length_cons,List.length_cons];omega
    · rw [if_neg hk,List.length_cons,List.length_cons];omega
theorem RelO.some_of {v:V} {o:Option Value} (r:RelO (some v) o):∃ u,o=some u/\RelV v u:=by
  cases o with
  | none=>exact (show False from r).elim
  | some u=>exact ⟨u,rfl,r⟩
theorem RelO.none_of {o:Option Value} (r:RelO none o):o=none:=by
  cases o with
  | none=>rfl
  | some u=>exact (show False from r).elim
theorem handed_of {v:V} {u:Value} (r:RelV v u):PySem.W.handedIn u=true:=by
  cases v with
  | non=>cases (show u=Value.none from r);rfl
  | bl b=>cases (show u=Value.bool b from r);rfl
  | int i=>obtain ⟨t,e⟩:=(show ∃ t,u=Value.int i t from r);cases e;rfl
  | str x=>obtain ⟨t,e⟩:=(show ∃ t,u=Value.str x t from r);cases e;rfl
  | byt b=>obtain ⟨t,e⟩:=(show ∃ t,u=Value.bytes b t from r);cases e;rfl
  | flt b=>obtain ⟨t,e⟩:=(show ∃ t,u=Value.float b t from r);cases e;rfl
  | ref a=>cases (show u=Value.ref a from r);rfl
  | ty n=>cases (show u=Value.type n from r);rfl
section
variable {P:Program} {w:World} {H H':Hp} {h h':Heap} {a C dx:Addr} {fs fs':List (Str×V)}
theorem ins_get (hok:HOk P w H h) (e:H a=some (.ins C dx fs)):∃ mA,ObjM h a dx C mA/\(∀ f,RelO (fs.lookup f) (mA f))/\PySem.Within mA (fs.map (·.1))/\fs.length<=1000/\H dx=some (.own a):=by
  obtain ⟨d,z,ne,ob,mA,n,r,q⟩:=(show ObjOk P w H h a (.ins C dx fs) from hok a _ e)
  exact ⟨mA,⟨ob,n,ne⟩,r,q,z,d⟩
end
structure Cls (K:PySem.W.Frag) (C:Addr):Prop where
  pg:PySem.W.plainGet K C Str.empty=true
  hd:PySem.W.hasDictIn K C=true
  po:PySem.W.plainOver K C=true
  sa:PySem.W.findIn K (.ref C) "__setattr__"=some (some (.builtin "object.__setattr__"))
theorem Cls.get {K:PySem.W.Frag} {C:Addr} (c:Cls K C) (f:Str):PySem.W.plainGet K C f=true:=c.pg
def NoAttr (K:PySem.W.Frag) (C:Addr) (f:Str):Prop:=PySem.W.findIn K (.ref C) f=some none
theorem NoAttr.taker {K:PySem.W.Frag} {C:Addr} {f:Str} (n:NoAttr K C f):PySem.W.takerIn K C f=some none:=by
  unfold PySem.W.takerIn
  rw [show PySem.W.findIn K (.ref C) f=some none from n]
  rfl
structure Meth (K:PySem.W.Frag) (C:Addr) (m:Str) (f:Addr):Prop where
  at_:PySem.W.findIn K (.ref C) m=some (some (.ref f))
  fn:PySem.W.isFn K (.ref f)=true
  kp:PySem.W.keepIn K (.ref f)=true
section
variable {X:Cx} {pins:List (Addr×Obj)} {σ:St} {H:Hp} {s:Shared} {a C dx:Addr} {fs:List (Str×V)} {f:Str} {v:V} {A:Around} {E:Value->Shared->Prop}
theorem getattr_ok {b:Bool} {Q:Value->Shared->Prop} (I:Inv X pins σ H s) (e:H a=some (.ins C dx fs)) (c:Cls X.K C) (n:NoAttr X.K C f) (l:fs.lookup f=some v)
    (h:∀ u s',Inv X pins σ H s'->RelV v u->Q u s'):wpAny (model X.prog X.w) A (getAttr (.ref a) f b) Q E s:=by
  obtain ⟨mA,O,r,_,_,_⟩:=ins_get I.hok e
  obtain ⟨u,hu,ru⟩:=RelO.some_of (v:=v) (o:=mA f) (by rw [← l];exact r f)
  exact get_map I.kIn O (c.get f) c.hd n hu (handed_of ru) (h u _ (I.tok _) ru)
theorem getmeth_ok {m:Str} {g:Addr} {pl:Sem Bool} {Q:Value×List Value->Shared->Prop} (I:Inv X pins σ H s) (e:H a=some (.ins C dx fs)) (c:Cls X.K C) (k:Meth X.K C m g) (l:fs.lookup m=none)
    (h:Q (.ref g,[.ref a]) s):wpAny (model X.prog X.w) A (getMethod (.ref a) m pl) Q E s:=by
  obtain ⟨mA,O,r,_,_,_⟩:=ins_get I.hok e
  have hn:mA m=none:=RelO.none_of (by rw [← l];exact r m)
  exact get_meth I.kIn O (c.get m) k.at_ k.fn hn h
theorem setattr_ok {y:V} {u:Value} {Q:Unit->Shared->Prop} (I:Inv X pins σ H s) (e:H a=some (.ins C dx fs)) (c:Cls X.K C) (n:NoAttr X.K C f) (hl:fs.length<1000) (ry:RelV y u)
    (h:∀ s',Inv X pins σ (upd H a (.ins C dx (zM f y fs))) s'->Q () s'):wpAny (model X.prog X.w) A (setAttr (.ref a) f u) Q E s:=by
  obtain ⟨mA,O,r,wi,_,ho⟩:=ins_get I.hok e
  have hz:(fs.map (·.1)).length<=sizeLine:=by rw [List.length_map,sizeLine_eq];omega
  refine set_map I.kIn O c.sa c.po n.taker c.hd wi hz fun h' O' sb=>h _ ?_
  have hd:∃ o,h'.get? dx=some o:=let ⟨o,_,_,e',_⟩:=O'.ns;⟨o,e'⟩
  refine I.write (x:=a) (e:=dx) (by rw [e];exact True.intro) (.inr ho) (fun b q hb z=>(sb.2 b hb).trans z) hd ?_
  refine ⟨by rw [zo O.ne];exact ho,?_,O.ne,O'.obj,_,O'.ns,fun g=>?_,fun g hg=>?_⟩
  · have:=length_putF f y fs;omega
  · show RelO ((zM f y fs).lookup g) (if g=f then some u else mA g)
    rw [lookup_putF]
    by_cases q:g=f
    · rw [if_pos q,if_pos q];exact ry
    · rw [if_neg q,if_neg q];exact r g
  · by_cases q:g=f
    · rw [q];exact (keys_putF f y fs).1
    · refine (keys_putF f y fs).2 g (wi g fun z=>hg ?_)
      show (if g=f then some u else mA g)=none
      rw [if_neg q];exact z
theorem Inv.made (I:Inv X pins σ H s):Inv X pins σ (upd (upd H s.heap.objs.size (.own (s.heap.objs.size+1))) (s.heap.objs.size+1) (.ins C s.heap.objs.size []))
    { s with heap:=(s.heap.push PySem.W.emptyDict).push (PySem.W.instObj C s.heap.objs.size) }:=by
  have e1:(s.heap.push PySem.W.emptyDict).get? s.heap.objs.size=some PySem.W.emptyDict:=Heap.get?_push_size s.heap rfl
  have e2:((s.heap.push PySem.W.emptyDict).push (PySem.W.instObj C s.heap.objs.size)).get? (s.heap.objs.size+1)=some (PySem.W.instObj C s.heap.objs.size):=by
    have:=Heap.get?_push_size (s.heap.push PySem.W.emptyDict) (o:=PySem.W.instObj C s.heap.objs.size) rfl
    rwa [Heap.size_push] at this
  have e3:(s.heap.push PySem.W.emptyDict).Ns s.heap.objs.size (fun _=>none):=⟨PySem.W.emptyDict,#[],_,e1,rfl,(fun e he=>absurd he (by simp)),fun _=>rfl⟩
  have I1:=I.laid (a:=s.heap.objs.size) (o:=.own (s.heap.objs.size+1)) (h':=s.heap.push PySem.W.emptyDict) (t':=s.toks) (fun b u q=>Heap.get?_push_of_some _ q) (Nat.le_refl _) ⟨_,e1⟩
  refine I1.laid (a:=s.heap.objs.size+1) (o:=.ins C s.heap.objs.size []) (t':=s.toks) (fun b u q=>Heap.get?_push_of_some _ q) (Nat.le_of_eq (Heap.size_push _ _)) ?_
  have ne:s.heap.objs.size≠s.heap.objs.size+1:=Nat.ne_of_lt (Nat.lt_succ_self _)
  refine ⟨by rw [zo ne,zg],Nat.zero_le _,ne,e2,fun _=>none,(Heap.Ns1.of_empty e3).at fun o q=>Heap.get?_push_of_some _ q,fun _=>True.intro,fun y hy=>absurd rfl hy⟩
theorem attr_of {prog:Program} {w:World} {env:Env} {e:Expr} {f:Str} {pos:Pos} {s:Shared} {Q:Value->Shared->Prop} (hb:attributeBase e f env (eval e env)=eval e env)
    (h:wpAny (model prog w) A (eval e env) (fun o s₁=>wpAny (model prog w) A (getAttr o f true) Q E s₁) E s):wpAny (model prog w) A (eval (.Attribute e f pos) env) Q E s :=
  Attribute_any_ h (by rw [arm_eval_Attribute,hb])
end
def tFld (K:PySem.W.Frag) (ta:TE) (f:Str):TE:=fun σ H Q=>ta σ H fun x H1=>∃ a C dx fs v,x=.ref a/\H1 a=some (.ins C dx fs)/\Cls K C/\NoAttr K C f/\fs.lookup f=some v/\Q v H1
def sFld (K:PySem.W.Frag) (ta tv:TE) (f:Str):TS:=fun D σ H=>tv σ H fun y H1=>ta σ H1 fun x H2=>∃ a C dx fs,x=.ref a/\H2 a=some (.ins C dx fs)/\Cls K C/\NoAttr K C f/\fs.length<1000 /\
  D.nx σ (upd H2 a (.ins C dx (zM f y fs)))
section
variable {X:Cx} {o e value:Expr} {f:Str} {pos pos' tpos:Pos} {ta tv:TE}
theorem zC (he:PE X e ta) (hb:attributeBase e f X.env (eval e X.env)=eval e X.env):PE X (.Attribute e f pos) (tFld X.K ta f):=by
  intro pins s σ H Q I h
  refine attr_of hb (thn (he pins s σ H _ I h) fun u s1 ⟨x,H1,I1,rx,a,C,dx,fs,v,ex,ea,c,n,l,q⟩=>?_)
  subst ex
  obtain rfl:u=Value.ref a:=rx
  exact getattr_ok I1 ea c n l fun u' s2 I2 ru=>⟨v,H1,I2,ru,q⟩
theorem zN (ha:PE X o ta) (hv:PE X value tv) (hs:swapsWith value (some (.Attribute o f pos')) pos.line X.env=pure false):PS X (.Assign [.Attribute o f pos'] value pos) (sFld X.K ta tv f):=by
  intro pins s σ H D I h
  refine plainObj_wpAny_Assign_Attribute (thn (hv pins s σ H _ I h) fun u s1 ⟨y,H1,I1,ry,q⟩=>thn (ha pins s1 σ H1 _ I1 q) fun ov s2 ⟨x,H2,I2,rx,a,C,dx,fs,ex,ea,c,n,l,q2⟩=>?_) hs
  subst ex
  obtain rfl:ov=Value.ref a:=rx
  exact setattr_ok I2 ea c n l ry fun s3 I3=>⟨σ,_,I3,q2⟩
end
section
variable {X:Cx} {pins:List (Addr×Obj)} {σ:St} {H:Hp} {s:Shared} {A:Around} {E:Value->Shared->Prop} {Q:Value->Shared->Prop} {c:Value} {b:Bool}
inductive TyOf (K:PySem.W.Frag) (H:Hp):V->Value->Prop where
  | non:TyOf K H .non (.type "NoneType")
  | bl (x:Bool):TyOf K H (.bl x) (.type "bool")
  | int (i:Int):TyOf K H (.int i) (.type "int")
  | str (x:Str):TyOf K H (.str x) (.type "str")
  | flt (x:UInt64):TyOf K H (.flt x) (.type "float")
  | lst {a:Addr} {xs:List V} (e:H a=some (.lst xs)):TyOf K H (.ref a) (.type "list")
  | frz {a:Addr} {o:Obj} {xs:List V} (e:H a=some (.frz o (.lst xs))):TyOf K H (.ref a) (.type "list")
  | tup {a:Addr} {xs:List V} (e:H a=some (.tup xs)):TyOf K H (.ref a) (.type "tuple")
  | dK {a:Addr} {kvs:List (Key×V)} (e:H a=some (.dK kvs)):TyOf K H (.ref a) (.type "dict")
  | dT {a:Addr} {kvs:List (List Key×V)} (e:H a=some (.dT kvs)):TyOf K H (.ref a) (.type "dict")
  | ins {a C dx:Addr} {fs:List (Str×V)} (e:H a=some (.ins C dx fs)) (cl:Cls K C) (ha:PySem.W.findIn K (.ref C) "__class__"=some (some (.builtin "object.__class__")))
      (hn:PySem.W.specialIn K (.builtin "object.__class__") "__get__"=some (some (.builtin "getset_descriptor.__get__"))) (htk:PySem.W.takesIn K (.builtin "object.__class__")=some true)
      (hm:PySem.W.mroIn K C (.type "object")=some true):TyOf K H (.ref a) (.ref C)
theorem isinst_ok {x:V} {u t:Value} (I:Inv X pins σ H s) (rx:RelV x u) (ty:TyOf X.K H x t) (e:PySem.W.kitOne X.K t c=some b) (h:∀ tk,Q (.bool b) { s with toks:=tk }) :
    wpAny (model X.prog X.w) A (call (.builtin "isinstance") [u,c]) Q E s:=by
  cases ty with
  | non=>cases (show u=Value.none from rx);exact PySem.W.kia_one PySem.W.kitx_none I.kIn True.intro e (fun z=>nomatch z) h
  | bl y=>cases (show u=Value.bool y from rx);exact PySem.W.kia_one PySem.W.kitx_bool I.kIn True.intro e (fun z=>nomatch z) h
  | int i=>obtain ⟨t,q⟩:=(show ∃ t,u=Value.int i t from rx);cases q;exact PySem.W.kia_one PySem.W.kitx_int I.kIn True.intro e (fun z=>nomatch z) h
  | str y=>obtain ⟨t,q⟩:=(show ∃ t,u=Value.str y t from rx);cases q;exact PySem.W.kia_one PySem.W.kitx_str I.kIn True.intro e (fun z=>nomatch z) h
  | flt y=>obtain ⟨t,q⟩:=(show ∃ t,u=Value.float y t from rx);cases q;exact PySem.W.kia_one PySem.W.kitx_float I.kIn True.intro e (fun z=>nomatch z) h
  | @lst a xs ea =>
    cases (show u=Value.ref a from rx)
    obtain ⟨_,_,n,_,h1⟩:=(show ObjOk X.prog X.w H s.heap a (.lst xs) from I.hok a _ ea)
    exact PySem.W.kia_one PySem.W.kitx_list I.kIn ⟨_,h1,rfl⟩ e (fun z=>nomatch z) h
  | @frz a ob xs ea =>
    cases (show u=Value.ref a from rx)
    obtain ⟨_,_,_,n,_,h1⟩:=(show ObjOk X.prog X.w H s.heap a (.frz ob (.lst xs)) from I.hok a _ ea)
    exact PySem.W.kia_one PySem.W.kitx_list I.kIn ⟨_,h1,rfl⟩ e (fun z=>nomatch z) h
  | @tup a xs ea =>
    cases (show u=Value.ref a from rx)
    obtain ⟨_,_,_,p⟩:=(show ObjOk X.prog X.w H s.heap a (.tup xs) from I.hok a _ ea)
    obtain ⟨o,h1,h2,_⟩:=p
    exact PySem.W.kia_one PySem.W.kitx_tuple I.kIn ⟨o,h1,h2⟩ e (fun z=>nomatch z) h
  | @dK a kvs ea =>
    cases (show u=Value.ref a from rx)
    obtain ⟨_,_,vs,_,p⟩:=(show ObjOk X.prog X.w H s.heap a (.dK kvs) from I.hok a _ ea)
    obtain ⟨o,es,ep,h1,h2,_⟩:=p
    exact PySem.W.kia_one PySem.W.kitx_dict I.kIn ⟨o,h1,h2.1⟩ e (fun z=>nomatch z) h
  | @dT a kvs ea =>
    cases (show u=Value.ref a from rx)
    obtain ⟨_,_,xs,_,o,es,ep,h1,h2,_⟩:=(show ObjOk X.prog X.w H s.heap a (.dT kvs) from I.hok a _ ea)
    exact PySem.W.kia_one PySem.W.kitx_dict I.kIn ⟨o,h1,h2.1⟩ e (fun z=>nomatch z) h
  | @ins a C dx fs ea cl ha hn htk hm =>
    cases (show u=Value.ref a from rx)
    obtain ⟨mA,O,_⟩:=ins_get I.hok ea
    obtain ⟨od,J,_⟩:=O.look
    exact PySem.W.kia_one (PySem.W.kitx_own (cl.get _) cl.hd ha hn htk hm) I.kIn J e (fun z=>nomatch z) h
end
end L2
namespace L2
open PySem PySem.Spec PyProof.Rows
structure Room (k:Nat) (A:Around):Prop where
  hd:A.handled=none
  dp:A.depth+3*k+5<recursionLimit
  un:A.units+16*k+200<cLine
theorem Room.mono {j k:Nat} {A:Around} (r:Room k A) (h:j<=k):Room j A:=⟨r.hd,by have:=r.dp;omega,by have:=r.un;omega⟩
theorem Room.deeper {k:Nat} {A:Around} (r:Room (k+1) A) (env:Env):Room k (A.deeper env) :=
  ⟨r.hd,by have:=r.dp;show A.depth+1+3*k+5<_;omega,by have:=r.un;show A.units+3+16*k+200<_;omega⟩
theorem make_depth {A:Around} {C:Addr} {us:List Value} {kw:List (Str×Value)}:(A.under (.builtin "type.__call__" ⟨.ref C::us,kw⟩)).depth=A.depth+1:=by
  first | rfl | simp [Around.under,Code.weight,Code.isCreation,Code.isGuard,Code.isCaller,Code.frames,Code.isFrame,guardIds]
theorem make_units {A:Around} {C:Addr} {us:List Value} {kw:List (Str×Value)}:(A.under (.builtin "type.__call__" ⟨.ref C::us,kw⟩)).units=A.units+1:=by
  first | rfl | simp [Around.under,Code.cUnits,Code.frames,Code.isFrame]
theorem Room.make {k:Nat} {A:Around} (r:Room (k+1) A) (C:Addr) (us:List Value) (kw:List (Str×Value)):Room k (A.under (.builtin "type.__call__" ⟨.ref C::us,kw⟩)) :=
  ⟨r.hd,by have:=r.dp;rw [make_depth];omega,by have:=r.un;rw [make_units];omega⟩
theorem Room.depth {k:Nat} {A:Around} (r:Room k A):A.depth<recursionLimit:=by have:=r.dp;omega
theorem Room.units {k:Nat} {A:Around} (r:Room k A):A.units+64<cLine:=by have:=r.un;omega
def tNil:TA:=fun _ H Q=>Q [] H
def tCons (ta:TE) (tr:TA):TA:=fun σ H Q=>ta σ H fun x H1=>tr σ H1 fun xs H2=>Q (x::xs) H2
section
variable {X:Cx} {e:Expr} {es:List Expr} {te:TE} {t:TA} {pos:Pos}
theorem zb:PA X [] tNil:=fun _ _ _ _ H Q I h=>Calls.spliced_nil ⟨[],H,I,.nil,h⟩
theorem za (ha:PE X e te) (hr:PA X es t) (hs:starEach (e::es) X.env=(false,eval e X.env)::starEach es X.env:=by rfl):PA X (e::es) (tCons te t):=by
  intro pos pins s σ H Q I h
  rw [hs]
  show wpAny _ _ (spliced ((false,eval e X.env)::backTo pos (starEach es X.env))) _ _ s
  refine Calls.spliced_cons (thn (ha pins s σ H _ I h) fun u s1 ⟨x,H1,I1,r1,q1⟩=>?_)
  exact thn (hr pos pins s1 σ H1 _ I1 q1) fun us s2 ⟨xs,H2,I2,r2,q2⟩=>⟨x::xs,H2,I2,.cons r1 r2,q2⟩
def tTup (t:TA):TE:=fun σ H Q=>t σ H fun xs H1=>xs.length<=sizeLine/\∀ p,H1 p=none->Q (.ref p) (upd H1 p (.tup xs))
def tLst (t:TA):TE:=fun σ H Q=>t σ H fun xs H1=>xs.length<=sizeLine/\∀ p,H1 p=none->Q (.ref p) (upd H1 p (.lst xs))
theorem xi {x1} (h:PA X es t):PE X (.Tuple es x1 pos) (tTup t):=by
  intro pins s σ H Q I hq
  refine wpAny_Tuple_spliced (thn (h pos pins s σ H _ I hq) fun us s1 ⟨xs,H1,I1,r,z,q⟩=>⟨by rw [← r.length];exact z,?_⟩)
  have hf:H1 s1.heap.objs.size=none:=I1.hok.fresh (Nat.le_refl _)
  refine ⟨.ref s1.heap.objs.size,upd H1 s1.heap.objs.size (.tup xs),I1.laid (t':=s1.toks) (fun b u e=>Heap.get?_push_of_some _ e) (Nat.le_refl _) ?_,rfl,q _ hf⟩
  exact ⟨z,us,r,⟨_,Heap.get?_push_size _ rfl,rfl,_,rfl⟩⟩
theorem yw (h:PA X es t):PE X (.List es pos) (tLst t):=by
  intro pins s σ H Q I hq
  refine wpAny_List_spliced (thn (h pos pins s σ H _ I hq) fun us s1 ⟨xs,H1,I1,r,z,q⟩=>⟨by rw [← r.length];exact z,?_⟩)
  have hf:H1 s1.heap.objs.size=none:=I1.hok.fresh (Nat.le_refl _)
  refine ⟨.ref s1.heap.objs.size,upd H1 s1.heap.objs.size (.lst xs),I1.laid (t':=s1.toks) (fun b u e=>Heap.get?_push_of_some _ e) (Nat.le_refl _) ?_,rfl,q _ hf⟩
  exact ⟨z,us,0,r,Heap.get?_push_size _ rfl⟩
end
abbrev Sp:=List V->Hp->VK->XK->Prop
abbrev CXT:=List Env->Hp->Shared->XK->Value->Shared->Prop
structure Env0 (P:Program) (w:World) (K:PySem.W.Frag) (mg:Str->Option Value) (base:Heap) (A:Around) (outer:List Env) (s:Shared) (H:Hp):Prop where
  frames:A.frames=some outer
  mod:Mod K mg base
  bs:∀ b o,base.get? b=some o->s.heap.get? b=some o/\H b=none
  bsz:base.objs.size<=s.heap.objs.size
  funs:s.heap.FunFrames base outer
  frf:∀ b∈frs outer,H b=none
  hok:HOk P w H s.heap
  bare:AllBare s.gens
def CE (outer:List Env) (P:Program) (w:World) (H:Hp) (s:Shared) (Q:VK) (u:Value) (s':Shared):Prop :=
  ∃ v H',s'.os=s.os/\AllBare s'.gens/\Un (frs outer) [] H H' s.heap s'.heap/\HOk P w H' s'.heap/\RelV v u/\Q v H'
def CR (CX:CXT) (outer:List Env) (P:Program) (w:World) (H:Hp) (s:Shared) (Q:VK) (E:XK) (r:Result) (s':Shared):Prop :=
  match r with
  | .ok (.ret u)=>CE outer P w H s Q u s'
  | .ok _=>False
  | .error e=>CX outer H s E e s'
structure FnOk (P:Program) (w:World) (K:PySem.W.Frag) (mg:Str->Option Value) (base:Heap) (CX:CXT) (k:Nat) (f:Addr) (fd:FuncData) (ps:List Str) (sp:Sp):Prop where
  len:∀ vs H Q E,sp vs H Q E->vs.length=ps.length
  run:∀ (A:Around) (outer:List Env) (s:Shared) (H:Hp) (args:Args) (us:List Value) (vs:List V) (Q:VK) (E:XK),Room k A->Env0 P w K mg base A outer s H->BindsTo s fd args (ps.zip us)->Vals vs us->sp vs H Q E ->
    codeAny (model P w) A (.call (.ref f) args) (CR CX outer P w H s Q E) s
theorem FnOk.mono {P:Program} {w:World} {K:PySem.W.Frag} {mg:Str->Option Value} {base:Heap} {CX:CXT} {j k:Nat} {f:Addr} {fd:FuncData} {ps:List Str} {sp:Sp} (F:FnOk P w K mg base CX j f fd ps sp) (h:j<=k) :
    FnOk P w K mg base CX k f fd ps sp:=⟨F.len,fun A outer s H args us vs Q E hr=>F.run A outer s H args us vs Q E (hr.mono h)⟩
theorem Env0.make {P:Program} {w:World} {K:PySem.W.Frag} {mg:Str->Option Value} {base:Heap} {A:Around} {outer:List Env} {s:Shared} {H:Hp} (e:Env0 P w K mg base A outer s H) (C:Addr) (us:List Value) (kw:List (Str×Value)) :
    Env0 P w K mg base (A.under (.builtin "type.__call__" ⟨.ref C::us,kw⟩)) outer s H:=⟨by first | exact e.frames | (simpa [Around.under,Code.envs,Code.isFrame,pushEnvs] using e.frames),e.mod,e.bs,e.bsz,e.funs,e.frf,e.hok,e.bare⟩
section
variable {X:Cx} {pins:List (Addr×Obj)} {σ:St} {H:Hp} {s s':Shared}
theorem Inv.env0 (I:Inv X pins σ H s):Env0 X.prog X.w X.K X.mg X.base X.A X.stack s H :=
  ⟨I.ok.frames,I.ok.mod,I.bs,Nat.le_trans I.ok.bsz I.sz,I.stack,I.stkFree,I.hok,I.bare⟩
theorem Inv.after {Q:VK} {u:Value} (I:Inv X pins σ H s) (h:CE X.stack X.prog X.w H s Q u s'):EP X pins σ Q u s':=by
  obtain ⟨v,H',os,bare,un,hok,r,q⟩:=h
  obtain ⟨hh,g,d,t,os'⟩:=s'
  obtain rfl:os'=s.os:=os
  exact ⟨v,H',I.call (h':=hh) (g':=g) (d':=d) (t':=t) (ch:=[]) un hok bare (fun b z=>absurd z (by simp)),r,q⟩
end
def tCall (sp:Sp) (dvs:List V) (E:XK) (t:TA):TE:=fun σ H Q=>t σ H fun vs H1=>sp (vs++dvs) H1 Q E
def tMeth (C:Addr) (m:Str) (sp:Sp) (dvs:List V) (E:XK) (ta:TE) (t:TA):TE:=fun σ H Q=>ta σ H fun x H1=>∃ a dx fs,x=.ref a/\H1 a=some (.ins C dx fs)/\fs.lookup m=none /\
  t σ H1 fun vs H2=>sp (x::(vs++dvs)) H2 Q E
def tMake (C:Addr) (sp:Sp) (dvs:List V) (E:XK) (t:TA):TE:=fun σ H Q=>t σ H fun vs H1=>∀ x dx,H1 x=none->H1 dx=none->dx≠x ->
  sp (.ref x::(vs++dvs)) (upd (upd H1 dx (.own x)) x (.ins C dx [])) (fun v H2=>v=.non/\Q (.ref x) H2) E
def Binds (K:PySem.W.Frag) (fd:FuncData) (ps:List Str) (ds:List Value):Prop :=
  ∀ (s:Shared) (us:List Value),K.In s.heap->(us++ds).length=ps.length->BindsTo s fd ⟨us,[]⟩ (ps.zip (us++ds))
theorem Binds.all {K:PySem.W.Frag} {fd:FuncData} {ps:List Str} (h:∀ us:List Value,us.length=ps.length->bindArgs fd ⟨us,[]⟩=pure (ps.zip us)):Binds K fd ps []:=fun s us _ hl=>by
  rw [List.append_nil] at hl ⊢
  exact .of_eq (h us hl)
def xA (CX:CXT) (X:Cx) (E:XK):Prop:=∀ (pins:List (Addr×Obj)) (σ:St) (H:Hp) (s:Shared) (e:Value) (s':Shared),Inv X pins σ H s->CX X.stack H s E e s'->X.xe e s'
section
variable {X:Cx} {CX:CXT} {k:Nat} {f C:Addr} {fd:FuncData} {ps:List Str} {sp:Sp} {dvs:List V} {ds:List Value} {E:XK} {x m:Str} {p pos apos:Pos} {e o:Expr} {es:List Expr} {ta:TE} {t:TA}
theorem run_fn {pins:List (Addr×Obj)} {σ:St} {H:Hp} {s:Shared} {Q:VK} {us:List Value} {vs:List V} (F:FnOk X.prog X.w X.K X.mg X.base CX k f fd ps sp) (hr:Room k X.A) (hb:Binds X.K fd ps ds) (hd:Vals dvs ds) (hx:xA CX X E)
    (I:Inv X pins σ H s) (r:Vals vs us) (h:sp (vs++dvs) H Q E):wpAny (model X.prog X.w) X.A (call (.ref f) us) (EP X pins σ Q) X.xe s:=by
  have r2:Vals (vs++dvs) (us++ds):=r.append hd
  have hl:(us++ds).length=ps.length:=by rw [← r2.length];exact F.len _ _ _ _ h
  refine wpAny_call (codeAny_mono (F.run X.A X.stack s H ⟨us,[]⟩ (us++ds) (vs++dvs) Q E hr I.env0 (hb s us I.kIn hl) r2 h) fun r s' hq=>?_)
  cases r with
  | error e=>exact hx pins σ H s e s' I hq
  | ok fl =>
    cases fl with
    | ret u=>exact I.after hq
    | next=>exact False.elim hq
    | brk=>exact False.elim hq
    | cont=>exact False.elim hq
theorem pe_call (F:FnOk X.prog X.w X.K X.mg X.base CX k f fd ps sp) (hr:Room k X.A) (hg:Gl X x) (hm:X.mg x=some (.ref f)) (hk:PySem.W.keepIn X.K (.ref f)=true) (hb:Binds X.K fd ps ds) (hd:Vals dvs ds) (hx:xA CX X E)
    (ha:PA X (e::es) t) (hdb:(x == ("__debug__":Str))=false:=by decide) (he:starEach (e::es) X.env=(false,eval e X.env)::starEach es X.env:=by rfl) (hpl:(backTo pos (starEach es X.env)).any (·.1)=false:=by rfl) :
    PE X (.Call (.Name x p) (e::es) [] pos) (tCall sp dvs E t):=by
  intro pins s σ H Q I h
  refine wpAny_Call_Name_kw (ld_glob I hg hm ?_ hdb)
  refine PySem.W.callWith_K (h₀:=X.base) I.ok.mod.kin hk (thn (ha pos pins s σ H _ I h) fun us s1 ⟨vs,H1,I1,r,q⟩=>⟨I1.kIn,?_⟩) he hpl
  exact run_fn F hr hb hd hx I1 r q
theorem pe_meth {pl:Sem Bool} (he:PE X o ta) (c:Cls X.K C) (hm:Meth X.K C m f) (F:FnOk X.prog X.w X.K X.mg X.base CX k f fd ps sp) (hr:Room k X.A) (hb:Binds X.K fd ps ds) (hd:Vals dvs ds) (hx:xA CX X E) (ha:PA X (e::es) t)
    (hst:starEach (e::es) X.env=(false,eval e X.env)::starEach es X.env:=by rfl) (hpl:(backTo pos (starEach es X.env)).any (·.1)=false:=by rfl)
    (ht:eval (.Call (.Attribute o m apos) (e::es) [] pos) X.env=(do
      let ov ← eval o X.env
      standAt apos.atName
      let (f,first) ← holding [ov] (getMethod ov m pl)
      callWith pos f first (backTo pos (starEach (e::es) X.env)) (backToKw pos (keywordEach [] X.env))):=by rfl) :
    PE X (.Call (.Attribute o m apos) (e::es) [] pos) (tMeth C m sp dvs E ta t):=by
  intro pins s σ H Q I h
  refine PySem.W.methodCall_KW (pl:=pl) (thn (he pins s σ H _ I h) fun u s1 ⟨x,H1,I1,rx,a,dx,fs,ex,ea,l,q⟩=>?_) ht
  subst ex
  obtain rfl:u=Value.ref a:=rx
  refine getmeth_ok I1 ea c hm l ?_
  refine PySem.W.callWith_K (first:=[.ref a]) (h₀:=X.base) I.ok.mod.kin hm.kp (thn (ha pos pins s1 σ H1 _ I1 q) fun us s2 ⟨vs,H2,I2,r,q2⟩=>⟨I2.kIn,?_⟩) hst hpl
  exact run_fn (us:=.ref a::us) (vs:=.ref a::vs) F hr hb hd hx I2 (.cons rfl r) q2
theorem pe_meth0 {pl:Sem Bool} (he:PE X o ta) (c:Cls X.K C) (hm:Meth X.K C m f) (F:FnOk X.prog X.w X.K X.mg X.base CX k f fd ps sp) (hr:Room k X.A) (hb:Binds X.K fd ps ds) (hd:Vals dvs ds) (hx:xA CX X E)
    (ht:eval (.Call (.Attribute o m apos) [] [] pos) X.env=(do
      let ov ← eval o X.env
      standAt apos.atName
      let (f,first) ← holding [ov] (getMethod ov m pl)
      callWith pos f first (backTo pos (starEach [] X.env)) (backToKw pos (keywordEach [] X.env))):=by rfl) :
    PE X (.Call (.Attribute o m apos) [] [] pos) (tMeth C m sp dvs E ta tNil):=by
  intro pins s σ H Q I h
  refine PySem.W.methodCall_KW (pl:=pl) (thn (he pins s σ H _ I h) fun u s1 ⟨x,H1,I1,rx,a,dx,fs,ex,ea,l,q⟩=>?_) ht
  subst ex
  obtain rfl:u=Value.ref a:=rx
  refine getmeth_ok I1 ea c hm l ?_
  exact PySem.W.callWith_K0 (first:=[.ref a]) I1.kIn hm.kp (run_fn (us:=[.ref a]) (vs:=[.ref a]) F hr hb hd hx I1 (.cons rfl .nil) q)
structure Mk (K:PySem.W.Frag) (C f:Addr):Prop where
  makes:PySem.W.makesIn K C=true
  init:PySem.W.findIn K (.ref C) "__init__"=some (some (.ref f))
  fn:PySem.W.isFn K (.ref f)=true
  kp:PySem.W.keepIn K (.ref C)=true
theorem run_make {pins:List (Addr×Obj)} {σ:St} {H:Hp} {s:Shared} {Q:VK} {us:List Value} {vs:List V} (M:Mk X.K C f) (F:FnOk X.prog X.w X.K X.mg X.base CX k f fd ps sp) (hr:Room (k+1) X.A) (hb:Binds X.K fd ps ds) (hd:Vals dvs ds)
    (hx:xA CX X E) (I:Inv X pins σ H s) (r:Vals vs us)
    (h:∀ x dx,H x=none->H dx=none->dx≠x->sp (.ref x::(vs++dvs)) (upd (upd H dx (.own x)) x (.ins C dx [])) (fun v H2=>v=.non/\Q (.ref x) H2) E) :
    wpAny (model X.prog X.w) X.A (call (.ref C) us) (EP X pins σ Q) X.xe s:=by
  have hq:=h (s.heap.objs.size+1) s.heap.objs.size (I.hok.fresh (Nat.le_succ _)) (I.hok.fresh (Nat.le_refl _)) (Nat.ne_of_lt (Nat.lt_succ_self _))
  have I2:=Inv.made (C:=C) I
  have r2:Vals (V.ref (s.heap.objs.size+1)::(vs++dvs)) (Value.ref (s.heap.objs.size+1)::(us++ds)):=.cons rfl (r.append hd)
  have hl:(Value.ref (s.heap.objs.size+1)::us++ds).length=ps.length:=by
    have e:=r2.length
    rw [F.len _ _ _ _ hq] at e
    exact e.symm
  refine wpAny_call (make_map (f:=f) I.kIn M.makes M.init (beq_iff_eq.mp M.fn) (codeAny_mono (F.run _ X.stack _ _ ⟨Value.ref (s.heap.objs.size+1)::us,[]⟩ (Value.ref (s.heap.objs.size+1)::(us++ds)) _ _ E (hr.make C us [])
    (I2.env0.make C us []) (hb _ (Value.ref (s.heap.objs.size+1)::us) I2.kIn hl) r2 hq) fun r s' hq'=>?_))
  cases r with
  | error e=>exact hx pins σ _ _ e s' I2 hq'
  | ok fl =>
    cases fl with
    | ret u =>
      obtain ⟨v,H',I3,rv,ev,q3⟩:=I2.after hq'
      subst ev
      exact ⟨rv,⟨V.ref (s.heap.objs.size+1),H',I3,rfl,q3⟩⟩
    | next=>exact False.elim hq'
    | brk=>exact False.elim hq'
    | cont=>exact False.elim hq'
theorem pe_make (M:Mk X.K C f) (F:FnOk X.prog X.w X.K X.mg X.base CX k f fd ps sp) (hr:Room (k+1) X.A) (hg:Gl X x) (hm:X.mg x=some (.ref C)) (hb:Binds X.K fd ps ds) (hd:Vals dvs ds) (hx:xA CX X E)
    (ha:PA X (e::es) t) (hdb:(x == ("__debug__":Str))=false:=by decide) (he:starEach (e::es) X.env=(false,eval e X.env)::starEach es X.env:=by rfl) (hpl:(backTo pos (starEach es X.env)).any (·.1)=false:=by rfl) :
    PE X (.Call (.Name x p) (e::es) [] pos) (tMake C sp dvs E t):=by
  intro pins s σ H Q I h
  refine wpAny_Call_Name_kw (ld_glob I hg hm ?_ hdb)
  refine PySem.W.callWith_K (h₀:=X.base) I.ok.mod.kin M.kp (thn (ha pos pins s σ H _ I h) fun us s1 ⟨vs,H1,I1,r,q⟩=>⟨I1.kIn,?_⟩) he hpl
  exact run_make M F hr hb hd hx I1 r q
end
section
variable {X:Cx} {CX:CXT} {k:Nat} {f C:Addr} {fd:FuncData} {ps ks:List Str} {sp:Sp} {E:XK} {x m:Str} {p pos apos kpos:Pos} {e o:Expr} {es:List Expr} {kws:List Keyword} {te ta:TE} {t tk:TA} {nm:Option Str}
variable {g:List Value->List Value->List Value} {gV:List V->List V->List V}
end
structure FnScope (N P:List Str) (sc:Scope):Prop where
  kind:sc.kind=.function
  co:sc.isCoroutine=false
  gen:sc.isGenerator=false
  nd:N.Nodup
  pre:N.take P.length=P
  par:∀ x∈P,sc.names.lookup x=some .local∨sc.names.lookup x=some .cell
  nofree:∀ y∈sc.names,y.2≠.free
theorem bindL_out {kindOf:Str->Option NameKind} {x:Str}:∀ {binds:List (Str×Value)} {m:Str->Option Value},(∀ v,(x,v) ∉ binds)->bindL kindOf binds m x=m x
  | [],_,_=>rfl
  | (n,v)::r,m,h=>by
    unfold bindL
    rw [bindL_out fun w hw=>h w (List.mem_cons_of_mem _ hw)]
    split
    · have:x≠n:=by rintro rfl;exact h v List.mem_cons_self
      simp [this]
    · rfl
theorem bindC_out {kindOf:Str->Option NameKind} {x:Str}:∀ {binds:List (Str×Value)} {m:Str->Option Value},(∀ v,(x,v) ∉ binds)->bindC kindOf binds m x=m x
  | [],_,_=>rfl
  | (n,v)::r,m,h=>by
    unfold bindC
    rw [bindC_out fun w hw=>h w (List.mem_cons_of_mem _ hw)]
    split
    · rfl
    · have:x≠n:=by rintro rfl;exact h v List.mem_cons_self
      simp [this]
theorem bindL_get {kindOf:Str->Option NameKind} {x:Str} {v:Value}:∀ {P:List Str} {vs:List Value} {i:Nat} {m:Str->Option Value},P.Nodup->P[i]?=some x->vs[i]?=some v->kindOf x=some .local ->
    bindL kindOf (P.zip vs) m x=some v
  | [],_,_,_,_,h,_,_=>by simp at h
  | _::_,[],_,_,_,_,h,_=>by simp at h
  | p::P,w::vs,0,m,nd,h1,h2,hk=>by
    simp at h1 h2;subst h1;subst h2
    show bindL kindOf ((p,w)::P.zip vs) m p=_
    unfold bindL
    rw [bindL_out fun v hv=>(List.nodup_cons.mp nd).1 (List.of_mem_zip hv).1,if_pos hk]
    simp
  | p::P,w::vs,i+1,m,nd,h1,h2,hk=>by
    show bindL kindOf ((p,w)::P.zip vs) m x=_
    unfold bindL
    exact bindL_get (i:=i) (List.nodup_cons.mp nd).2 (by simpa using h1) (by simpa using h2) hk
theorem bindC_get {kindOf:Str->Option NameKind} {x:Str} {v:Value}:∀ {P:List Str} {vs:List Value} {i:Nat} {m:Str->Option Value},P.Nodup->P[i]?=some x->vs[i]?=some v->kindOf x≠some .local ->
    bindC kindOf (P.zip vs) m x=some v
  | [],_,_,_,_,h,_,_=>by simp at h
  | _::_,[],_,_,_,_,h,_=>by simp at h
  | p::P,w::vs,0,m,nd,h1,h2,hk=>by
    simp at h1 h2;subst h1;subst h2
    show bindC kindOf ((p,w)::P.zip vs) m p=_
    unfold bindC
    rw [bindC_out fun v hv=>(List.nodup_cons.mp nd).1 (List.of_mem_zip hv).1,if_neg hk]
    simp
  | p::P,w::vs,i+1,m,nd,h1,h2,hk=>by
    show bindC kindOf ((p,w)::P.zip vs) m x=_
    unfold bindC
    exact bindC_get (i:=i) (List.nodup_cons.mp nd).2 (by simpa using h1) (by simpa using h2) hk
def start (N:List Str) (vs:List V):St:=vs.map some++List.replicate (N.length-vs.length) none
def yt (CX:CXT) (P:Program) (w:World) (K:PySem.W.Frag) (mg:Str->Option Value) (base:Heap) (N:List Str) (qual:Str) (scope:Scope) (f:Addr) (cd:Value) (A:Around) (outer:List Env) (s:Shared) (H:Hp) (E:XK):Cx where
  prog:=P
  w:=w
  K:=K
  mg:=mg
  base:=base
  A:=A.deeper (envOfC qual scope s.heap.objs.size f cd)
  N:=N
  s₀:=s
  H₀:=H
  env:=envOfC qual scope s.heap.objs.size f cd
  outer:=outer
  stack:=envOfC qual scope s.heap.objs.size f cd::outer
  ex:=[]
  calm:=true
  fn:=fun _=>true
  pn:=[]
  xe:=fun e s'=>wpAny (model P w) (A.deeper (envOfC qual scope s.heap.objs.size f cd)) (leaving (envOfC qual scope s.heap.objs.size f cd) e) (fun _ s''=>CX outer H s E e s'') (fun e' s''=>CX outer H s E e' s'') s'
theorem cell_has {sc:Scope} {n:Nat} {x:Str} (h:sc.names.lookup x=some .cell):∃ c,(cellsFrom n sc.names []).lookup x=some c:=by
  have q:=PySem.W.cellsFrom_some sc.names n [] (.inl h)
  exact Option.isSome_iff_exists.mp q
theorem inv_start {CX:CXT} {P:Program} {w:World} {K:PySem.W.Frag} {mg:Str->Option Value} {base:Heap} {N ps:List Str} {qual:Str} {scope:Scope} {f:Addr} {cd:Value} {A:Around} {outer:List Env} {s s1:Shared} {H:Hp} {E:XK} {us:List Value} {vs:List V}
    (S:FnScope N ps scope) (hd:A.handled=none) (e0:Env0 P w K mg base A outer s H) (hl:vs.length=ps.length) (r:Vals vs us)
    (x:InCallC s s.heap.objs.size (bindL (envOfC qual scope s.heap.objs.size f cd).kindOf (ps.zip us) fun _=>none) (cellsFrom (s.heap.objs.size+1) scope.names []) (bindC (envOfC qual scope s.heap.objs.size f cd).kindOf (ps.zip us) fun _=>none) s1) :
    Inv (yt CX P w K mg base N qual scope f cd A outer s H E) [] (start N vs) H s1:=by
  have hpl:ps.length<=N.length:=by have:=congrArg List.length S.pre;rw [List.length_take] at this;omega
  obtain ⟨h1,tk,rfl,hk⟩:=x.done
  have noA:∀ b:Addr,b ∉ (yt CX P w K mg base N qual scope f cd A outer s H E).ex:=fun b z=>absurd (show b∈([]:List Addr) from z) (by simp)
  refine ⟨⟨e0.mod,S.kind,rfl,rfl,Nat.le_refl _,fun y z c h1 h2=>?_,fun y hy=>?_,fun y c _ h=>?_,fun _=>hd,Around.frames_deeper e0.frames,.inr ⟨rfl,rfl⟩,fun b z=>absurd z (noA b),e0.bs,e0.bsz,fun b _ _=>noA b,fun b z=>absurd z (noA b),e0.funs,e0.frf⟩,
    rfl,e0.bare,Un.kept hk,⟨_,x.toInCall.ns,fun i y v h1 h2 h3=>?_⟩,fun y c h=>⟨_,x.cell y c h⟩,e0.hok.fresh (Nat.le_refl _),fun y c h=>?_,fun p hp=>absurd (show p∈([]:List (Addr×Obj)) from hp) (by simp),e0.hok.kept hk,?_⟩
  · exact name_of_addr x.apart (PySem.mem_of_lookup h1) (PySem.mem_of_lookup h2)
  · have hy:scope.names.lookup y=some .cell∨scope.names.lookup y=some .free:=hy
    rcases hy with hy | hy
    · exact cell_has hy
    · exact absurd rfl (S.nofree _ (PySem.mem_of_lookup hy))
  · exact Nat.le_of_lt (x.above y c (PySem.mem_of_lookup h))
  · have hi:i<vs.length:=by
      unfold start at h2
      by_cases hi:i<vs.length
      · exact hi
      · rw [List.getElem?_append_right (by simpa using hi)] at h2
        rw [List.getElem?_replicate] at h2
        split at h2 <;> cases h2
    have ha:vs[i]?=some v:=by
      unfold start at h2
      rw [List.getElem?_append_left (by simpa using hi),List.getElem?_map] at h2
      cases e:vs[i]? with
      | none=>rw [e] at h2;cases h2
      | some a=>rw [e] at h2;cases h2;rfl
    obtain ⟨u,hu,rv⟩:=r.get ha
    have hp:ps[i]?=some y:=by
      rw [← S.pre,List.getElem?_take_of_lt (by omega)];exact h1
    have ndP:ps.Nodup:=by rw [← S.pre];exact S.nd.sublist (List.take_sublist _ _)
    refine ⟨u,rv,?_⟩
    rcases S.par y (List.mem_of_getElem? hp) with k | k
    · exact .inl ⟨k,bindL_get ndP hp hu k⟩
    · obtain ⟨c,e⟩:=cell_has (n:=s.heap.objs.size+1) k
      refine .inr ⟨.inl k,c,e,?_⟩
      have q:=x.cell y c e
      rw [bindC_get ndP hp hu (by show scope.names.lookup y≠_;rw [k];decide)] at q
      exact q
  · exact e0.hok.fresh (Nat.le_of_lt (x.above y c (PySem.mem_of_lookup h)))
  · unfold start
    show _=N.length
    rw [List.length_append,List.length_map,List.length_replicate]
    omega
theorem fn_of {CX:CXT} {P:Program} {w:World} {K:PySem.W.Frag} {mg:Str->Option Value} {base:Heap} {k:Nat} {f:Addr} {name qual:Str} {params:Arguments} {body:List Stmt} {scope:Scope} {dV kV doc pm cdv ct oc:Value} {an od:Option Addr}
    {osl:Array (Option Value)} {N ps:List Str} {sp:Sp} (lk:K.lookup f=some ⟨oc,od,.func (PySem.W.fnOf name qual params body scope dV kV doc pm an cdv ct),osl⟩) (hcd:PySem.W.codeIn K cdv qual=true) (S:FnScope N ps scope)
    (len:∀ vs H Q E,sp vs H Q E->vs.length=ps.length)
    (hbody:∀ (A:Around) (outer:List Env) (s:Shared) (H:Hp) (vs:List V) (Q:VK) (E:XK),Room k (A.deeper (envOfC qual scope s.heap.objs.size f cdv))->sp vs H Q E ->
      ∃ t,PSs (yt CX P w K mg base N qual scope f cdv A outer s H E) body t/\t { nx:=fun _ H'=>Q .non H',rt:=Q } (start N vs) H) :
    FnOk P w K mg base CX (k+1) f (PySem.W.fnOf name qual params body scope dV kV doc pm an cdv ct) ps sp:=by
  refine ⟨len,fun A outer s H args us vs Q E hr e0 hb r hsp=>?_⟩
  have hl:=len _ _ _ _ hsp
  have KX:K.In s.heap:=e0.mod.kin.keeps fun b o e=>(e0.bs b o e).1
  have lim:s.heap.NoLimit:=e0.mod.nolimit.keeps fun b o e=>(e0.bs b o e).1
  have hkind:∀ y∈ps.zip us,scope.names.lookup y.1=some .local∨(scope.names.lookup y.1=some .cell/\((cellsFrom (s.heap.objs.size+1) scope.names []).lookup y.1).isSome=true):=fun ⟨n,v⟩ hy=>by
    rcases S.par n (List.of_mem_zip hy).1 with q | q
    · exact .inl q
    · exact .inr ⟨q,PySem.W.cellsFrom_some _ _ _ (.inl q)⟩
  refine codeAny_call_function hr.depth (KX _ _ lk) rfl S.co S.gen rfl (PySem.W.codeRec_of KX hcd) (hb _ _ _ _ ?_)
  refine wpAny_newFunctionEnv_cells S.kind hkind fun env he s1 x=>?_
  subst he
  refine ⟨lim.keeps x.toInCall.keep,codeAny_func ?_⟩
  obtain ⟨t,ht,hq⟩:=hbody A outer s H vs Q E (hr.deeper _) hsp
  have I:Inv (yt CX P w K mg base N qual scope f cdv A outer s H E) [] (start N vs) H s1:=inv_start S hr.hd e0 hl r x
  refine wpAny_mono (ht [] s1 (start N vs) H _ I hq) (fun fl s' hs=>?_) fun e s' hs=>hs
  have fin:∀ {σ':St} {H':Hp} {v:V} {u:Value},Inv (yt CX P w K mg base N qual scope f cdv A outer s H E) [] σ' H' s'->RelV v u->Q v H'->CE outer P w H s Q u s' :=
    fun {σ' H' v u} J rv q=>⟨v,H',J.os,J.bare,J.base,J.hok,rv,q⟩
  cases fl with
  | ret u =>
    obtain ⟨v,σ',H',J,rv,q⟩:=hs
    exact fin J rv q
  | next =>
    obtain ⟨σ',H',J,q⟩:=hs
    exact fin (v:=V.non) (u:=Value.none) J rfl q
  | brk =>
    obtain ⟨_,_,_,q⟩:=hs
    exact False.elim q
  | cont =>
    obtain ⟨_,_,_,q⟩:=hs
    exact False.elim q
end L2
namespace L2
open PySem PySem.Spec PyProof.Rows
section
variable {X:Cx} {x:Str} {p pos:Pos} {e:Expr} {es:List Expr} {t:TA} {id T:String} {r:List V->Hp->VK->Prop}
def tCB (r:List V->Hp->VK->Prop) (t:TA):TE:=fun σ H Q=>t σ H fun vs H1=>r vs H1 Q
theorem zv (hc:CallR X (.builtin id) r) (hg:Gl X x) (hm:X.mg x=none) (hv:bootBuiltins x=some (.builtin id)) (ha:PA X (e::es) t) (hn:x≠"__name__":=by decide) (hdb:(x == ("__debug__":Str))=false:=by decide)
    (he:starEach (e::es) X.env=(false,eval e X.env)::starEach es X.env:=by rfl) (hpl:(backTo pos (starEach es X.env)).any (·.1)=false:=by rfl):PE X (.Call (.Name x p) (e::es) [] pos) (tCB r t):=by
  intro pins s σ H Q I h
  refine wpAny_Call_Name_kw (ld_blt I hg hm hv ?_ hn hdb)
  exact PyProof.Rows.callWith_builtin1 (thn (ha pos pins s σ H _ I h) fun us s1 ⟨vs,H1,I1,r1,q1⟩=>hc pins s1 σ H1 vs us Q I1 r1 q1) he hpl
theorem ye (hc:CallR X (.type T) r) (hg:Gl X x) (hm:X.mg x=none) (hv:bootBuiltins x=some (.type T)) (ha:PA X (e::es) t) (hn:x≠"__name__":=by decide) (hdb:(x == ("__debug__":Str))=false:=by decide)
    (he:starEach (e::es) X.env=(false,eval e X.env)::starEach es X.env:=by rfl) (hpl:(backTo pos (starEach es X.env)).any (·.1)=false:=by rfl):PE X (.Call (.Name x p) (e::es) [] pos) (tCB r t):=by
  intro pins s σ H Q I h
  refine wpAny_Call_Name_kw (ld_blt I hg hm hv ?_ hn hdb)
  exact PyProof.Rows.callWith_type1 (thn (ha pos pins s σ H _ I h) fun us s1 ⟨vs,H1,I1,r1,q1⟩=>hc pins s1 σ H1 vs us Q I1 r1 q1) he hpl
end
end L2
namespace HT
open PySem PyProof.Rows
section
open PySem.SeqAt
open PySem.AutoSeq1 (wpAny_loadPart')
open PySem.MeetsSeq PySem.MeetsSeq2 PySem.MeetsSeq3
end
section
variable {prog:Program} {w:World} {A:Around} {E:Value->Shared->Prop} {s:Shared}
def sIx (n d:Nat):Option Int->Nat
  | none=>d
  | some v=>if v<0 then (v+(n:Int)).toNat else min v.toNat n
theorem sIx_none (n d:Nat):sIx n d none=d:=rfl
end
end HT
namespace L2
open PySem PySem.Spec PyProof.Rows
abbrev TO:=St->Hp->(Option Int->Hp->Prop)->Prop
def PO (X:Cx) (e:Option Expr) (t:TO):Prop :=
  ∀ (pins:List (Addr×Obj)) (s:Shared) (σ:St) (H:Hp) (Q:Option Int->Hp->Prop),Inv X pins σ H s->t σ H Q ->
    wpAny (model X.prog X.w) X.A (evalPart e X.env) (fun u s'=>∃ o H',Inv X pins σ H' s'/\IsPart u o/\Q o H') X.xe s
def tNoPart:TO:=fun _ H Q=>Q none H
def tPart (t:TE):TO:=fun σ H Q=>t σ H fun x H1=>∃ i,x=.int i/\Q (some i) H1
section
variable {X:Cx} {e:Expr} {te:TE} {lo hi:Option Expr} {tl th:TO} {pos p2:Pos}
theorem xJ:PO X none tNoPart:=by
  intro pins s σ H Q I h
  rw [evalPart_none]
  exact wpAny_pure ⟨none,H,I,.none,h⟩
theorem xg (h:PE X e te):PO X (some e) (tPart te):=by
  intro pins s σ H Q I hw
  rw [evalPart_some]
  refine thn (h pins s σ H _ I hw) fun u s1 ⟨x,H1,I1,r1,q1⟩=>?_
  obtain ⟨i,rfl,q⟩:=q1
  obtain ⟨t,rfl⟩:=r1
  exact ⟨some i,H1,I1,.int i t,q⟩
def SlR (X:Cx) (r:V->Option Int->Option Int->Hp->VK->Prop):Prop :=
  ∀ (pins:List (Addr×Obj)) (s:Shared) (σ:St) (H:Hp) (x:V) (v vl vu:Value) (lo hi:Option Int) (sl:Addr) (Q:VK),Inv X pins σ H s->RelV x v->s.heap.IsSliceOf sl vl vu .none->IsPart vl lo->IsPart vu hi->r x lo hi H Q ->
    ∃ T id,typeLookup (.type T) "__getitem__"=pure (some (.builtin id))/\s.TypeIs v T/\wpAny (model X.prog X.w) X.A (getItem v (.ref sl)) (EP X pins σ Q) X.xe s
def tSl (r:V->Option Int->Option Int->Hp->VK->Prop) (te:TE) (tl th:TO):TE:=fun σ H Q=>te σ H fun x H1=>tl σ H1 fun l H2=>th σ H2 fun u H3=>r x l u H3 Q
theorem yT {r:V->Option Int->Option Int->Hp->VK->Prop} (hr:SlR X r) (he:PE X e te) (hl:PO X lo tl) (hu:PO X hi th):PE X (.Subscript e (.Slice lo hi none p2) pos) (tSl r te tl th):=by
  intro pins s σ H Q I h
  refine Subscript_ (thn (he pins s σ H _ I h) fun v s1 ⟨x,H1,I1,r1,q1⟩=>?_)
  refine wpAny_Slice (thn (hl pins s1 σ H1 _ I1 q1) fun vl s2 ⟨l,H2,I2,pl,q2⟩=>thn (hu pins s2 σ H2 _ I2 q2) fun vu s3 ⟨u,H3,I3,pu,q3⟩=>?_)
  rw [evalPart_none]
  refine wpAny_pure ?_
  have I4:Inv X pins σ H3 { s3 with heap:=s3.heap.push { cls:=.type "slice",data:=.fields #[vl,vu,.none] } }:=I3.kept (t':=s3.toks) fun b ob q=>Heap.get?_push_of_some _ q
  obtain ⟨T,id,hT,ht,hg⟩:=hr pins { s3 with heap:=s3.heap.push { cls:=.type "slice",data:=.fields #[vl,vu,.none] } } σ H3 x v vl vu l u s3.heap.objs.size Q I4 r1 (Heap.IsSliceOf.new ..) pl pu q3
  show wpAny (model X.prog X.w) X.A (subscriptTail e (.Slice lo hi none p2) v (.ref s3.heap.objs.size)) (EP X pins σ Q) X.xe { s3 with heap:=s3.heap.push { cls:=.type "slice",data:=.fields #[vl,vu,.none] } }
  exact tail_any (ops:=[.ref s3.heap.objs.size,v]) ht hT hg (by with_unfolding_all rfl)
def cutV (xs:List V) (lo hi:Option Int):List V:=(xs.drop (HT.sIx xs.length 0 lo)).take (HT.sIx xs.length xs.length hi-HT.sIx xs.length 0 lo)
theorem cutV_length (xs:List V) (lo hi:Option Int):(cutV xs lo hi).length<=xs.length:=by
  unfold cutV
  rw [List.length_take,List.length_drop]
  omega
end
end L2
namespace L2
open PySem PySem.Spec PyProof.Rows
def ixN (n:Nat) (i:Int):Option Nat:=if 0<=i then (if i<n then some i.toNat else none) else if -(n:Int)<=i then some (i+n).toNat else none
def atI {α:Type} (xs:List α) (i:Int):Option α:=(ixN xs.length i).bind fun j=>xs[j]?
theorem ixN_seq {n:Nat} {i:Int} {j:Nat} (h:ixN n i=some j):seqIndex? i n=some j/\j<n/\-(n:Int)<=i/\i<n:=by
  unfold ixN at h
  by_cases h0:0<=i
  · rw [if_pos h0] at h
    by_cases h1:i<n
    · rw [if_pos h1] at h
      have e:i.toNat=j:=Option.some.inj h
      exact ⟨by rw [seqIndex_of h0 h1,e],by omega,by omega,h1⟩
    · rw [if_neg h1] at h;cases h
  · rw [if_neg h0] at h
    by_cases h1:-(n:Int)<=i
    · rw [if_pos h1] at h
      have e:(i+n).toNat=j:=Option.some.inj h
      exact ⟨by rw [seqIndex_neg (by omega) h1,e],by omega,h1,by omega⟩
    · rw [if_neg h1] at h;cases h
theorem atI_get {α:Type} {xs:List α} {i:Int} {v:α} (h:atI xs i=some v):∃ j,seqIndex? i xs.length=some j/\xs[j]?=some v/\j<xs.length/\-(xs.length:Int)<=i/\i<xs.length:=by
  unfold atI at h
  cases e:ixN xs.length i with
  | none=>rw [e] at h;cases h
  | some j =>
    rw [e] at h
    obtain ⟨h1,h2,h3,h4⟩:=ixN_seq e
    exact ⟨j,h1,h,h2,h3,h4⟩
theorem zK {α:Type} {xs:List α} {j:Nat} {v:α} (h:xs[j]?=some v):atI xs (j:Int)=some v:=by
  have hj:j<xs.length:=(List.getElem?_eq_some_iff.mp h).1
  have e:ixN xs.length (j:Int)=some j:=by
    unfold ixN
    rw [if_pos (by omega),if_pos (by omega)];simp
  unfold atI;rw [e];exact h
theorem atI_last {α:Type} (xs:List α) (v:α):atI (xs++[v]) (-1)=some v:=by
  have hl:(xs++[v]).length=xs.length+1:=by simp
  have e:ixN (xs++[v]).length (-1)=some xs.length:=by
    unfold ixN
    rw [hl,if_neg (by decide),if_pos (by omega)]
    congr 1
    omega
  unfold atI
  rw [e]
  show (xs++[v])[xs.length]?=some v
  simp
def PlainIx (b:Expr):Prop:=∀ o i,subscripted b false o i=operate [o,i] (getItem o i)
def IxR (X:Cx) (r:R2):Prop :=
  ∀ (value slice:Expr) (pins:List (Addr×Obj)) (s:Shared) (σ:St) (H:Hp) (x y:V) (v u:Value) (Q:VK),Inv X pins σ H s->RelV x v->RelV y u->r x y H Q ->
    subscripted slice false v u=operate [v,u] (getItem v u)->wpAny (model X.prog X.w) X.A (subscriptTail value slice v u) (EP X pins σ Q) X.xe s
def MtR (X:Cx) (id:String) (r:V->List V->Hp->VK->Prop):Prop :=
  ∀ (pins:List (Addr×Obj)) (s:Shared) (σ:St) (H:Hp) (x:V) (xs:List V) (v:Value) (us:List Value) (Q:VK),Inv X pins σ H s->RelV x v->Vals xs us->r x xs H Q ->
    wpAny (model X.prog X.w) X.A (call (.builtin id) (v::us)) (EP X pins σ Q) X.xe s
section
variable {X:Cx} {a b:Expr} {ta tb:TE} {pos:Pos}
theorem zy {r:R2} (hr:IxR X r) (ha:PE X a ta) (hb:PE X b tb) (hs:PlainIx b):PE X (.Subscript a b pos) (tOp r ta tb):=by
  intro pins s σ H Q I h
  exact Subscript_ (binT ha hb I h fun v u s2 x y H2 I2 rx ry q=>hr a b pins s2 σ H2 x y v u Q I2 rx ry q (hs _ _))
def rIxL (K:PySem.W.Frag):R2:=fun x y H Q=>∃ p xs i v,x=.ref p/\y=.int i/\SqL K H p xs/\atI xs i=some v/\Q v H
def rIxT (K:PySem.W.Frag):R2:=fun x y H Q=>∃ p xs i v,x=.ref p/\y=.int i/\SqT K H p xs/\atI xs i=some v/\Q v H
theorem zR:IxR X (rIxL X.K):=by
  intro value slice pins s σ H x y v u Q I rx ry h hs
  obtain ⟨p,xs,i,z,rfl,rfl,hq,he,q⟩:=h
  cases rx
  obtain ⟨t,rfl⟩:=ry
  obtain ⟨its,r,pl,hz⟩:=I.list hq
  obtain ⟨j,h1,h2,h3,h4,h5⟩:=atI_get he
  obtain ⟨w,ew,rw'⟩:=r.get h2
  have hl:=r.length
  have hn:=line63
  have fin:EP X pins σ Q w s:=⟨z,H,I,rw',q⟩
  by_cases h0:0<=i
  · have hj:i.toNat=j:=by
      rw [seqIndex_of h0 h5] at h1
      exact Option.some.inj h1
    exact item_listR pl.isList h0 (by omega) (by rw [hj];simpa using ew) fin hs
  · have hj:(i+(its.toArray.size:Int)).toNat=j:=by
      rw [seqIndex_neg (by omega) h4] at h1
      rw [List.size_toArray,← hl]
      exact Option.some.inj h1
    exact subscriptTail_builtinR (x:=w) pl.isList.typeIs slot_list_getitem.lookup
      (wpAny_getItem_list_neg (Q:=fun r s'=>r=w/\EP X pins σ Q r s') pl.isList (by omega) (by rw [List.size_toArray] <;> omega) (by omega) (by rw [hj];simpa using ew) ⟨rfl,fin⟩) hs
theorem zP:IxR X (rIxT X.K):=by
  intro value slice pins s σ H x y v u Q I rx ry h hs
  obtain ⟨p,xs,i,z,rfl,rfl,hq,he,q⟩:=h
  cases rx
  obtain ⟨t,rfl⟩:=ry
  obtain ⟨its,r,pl,hz⟩:=I.tuple hq
  obtain ⟨j,h1,h2,h3,h4,h5⟩:=atI_get he
  obtain ⟨w,ew,rw'⟩:=r.get h2
  have hl:=r.length
  have hn:=line63
  have fin:EP X pins σ Q w s:=⟨z,H,I,rw',q⟩
  exact subscriptTail_builtinR (x:=w) pl.typeIs slot_tuple_getitem.lookup
    (getItem_tuple (j:=j) (Q:=fun r s'=>r=w/\EP X pins σ Q r s') pl (by omega) (by omega) (by rw [List.size_toArray,← hl];exact h1) (by simpa using ew) ⟨rfl,fin⟩) hs
theorem mapSeq_set (its:List Value) (n j:Nat) (u:Value):Obj.mapSeq (·.setIfInBounds j u) { cls:=.type "list",data:=.seq its.toArray n }={ cls:=.type "list",data:=.seq (its.set j u).toArray n }:=by
  simp [Obj.mapSeq]
theorem Inv.lst {pins:List (Addr×Obj)} {σ:St} {H:Hp} {s:Shared} {p:Addr} {xs:List V} (I:Inv X pins σ H s) (h:H p=some (.lst xs)) :
    ∃ (its:List Value) (n:Nat),Vals xs its/\s.heap.get? p=some { cls:=.type "list",data:=.seq its.toArray n }/\xs.length<=sizeLine:=by
  obtain ⟨z,its,n,r,e⟩:=I.hok p _ h
  exact ⟨its,n,r,e,z⟩
theorem Inv.lstUpd {pins:List (Addr×Obj)} {σ:St} {H:Hp} {s:Shared} {p:Addr} {xs ys:List V} {its its':List Value} {n n':Nat} {f:Obj->Obj} (I:Inv X pins σ H s) (h:H p=some (.lst xs))
    (ho:s.heap.get? p=some { cls:=.type "list",data:=.seq its.toArray n }) (hf:f { cls:=.type "list",data:=.seq its.toArray n }={ cls:=.type "list",data:=.seq its'.toArray n' }) (r:Vals ys its') (hz:ys.length<=sizeLine) (t:Nat) :
    Inv X pins σ (upd H p (.lst ys)) { s with heap:=s.heap.update p f,toks:=t }:=by
  have e:(s.heap.update p f).get? p=some { cls:=.type "list",data:=.seq its'.toArray n' }:=by
    rw [Heap.get?_update_self f ho (by rw [hf] <;> rfl),hf]
  refine I.write (x:=p) (e:=p) (by rw [h];trivial) (.inl rfl) (fun b u hb q=>(Heap.get?_update_other _ _ (Ne.symm hb)).trans q) ⟨_,e⟩ ?_
  exact ⟨hz,its',n',r,e⟩
def rSetL:V->V->V->Hp->(Hp->Prop)->Prop:=fun o i v H Q=>∃ p xs k j,o=.ref p/\i=.int k/\H p=some (.lst xs)/\ixN xs.length k=some j/\Q (upd H p (.lst (xs.set j v)))
theorem xW:PSet X rSetL:=by
  intro pins s σ H o i v ov iv u Q I ro ri rv h
  obtain ⟨p,xs,k,j,rfl,rfl,hp,hj,q⟩:=h
  cases ro
  obtain ⟨t,rfl⟩:=ri
  obtain ⟨its,n,r,ho,hz⟩:=I.lst hp
  obtain ⟨h1,h2,h3,h4⟩:=ixN_seq hj
  have hl:=r.length
  have hn:=line63
  have I':Inv X pins σ (upd H p (.lst (xs.set j v))) { s with heap:=s.heap.update p (Obj.mapSeq (·.setIfInBounds j u)) } :=
    I.lstUpd hp ho (mapSeq_set its n j u) (r.set rv j) (by rw [List.length_set];exact hz) s.toks
  by_cases h0:0<=k
  · have hk:k.toNat=j:=by
      rw [seqIndex_of h0 h4] at h1
      exact Option.some.inj h1
    exact PySem.W.ki_setAt ho h0 (by omega) (by rw [List.size_toArray,← hl];exact h4) (by rw [hk];exact ⟨_,I',q⟩)
  · have hk:(k+(its.toArray.size:Int)).toNat=j:=by
      rw [seqIndex_neg (by omega) h3] at h1
      rw [List.size_toArray,← hl]
      exact Option.some.inj h1
    exact PySem.W.ki_setBack ho (by omega) (by rw [List.size_toArray,← hl];exact h3) (by omega) (by rw [hk];exact ⟨_,I',q⟩)
theorem slice_bounds (lo hi:Option Int) (n:Nat):(sliceBounds lo hi none n).1=((HT.sIx n 0 lo:Nat):Int)/\(sliceBounds lo hi none n).2.1=((HT.sIx n n hi:Nat):Int)/\(sliceBounds lo hi none n).2.2=1:=by
  refine ⟨?_,?_,rfl⟩
  · cases lo with
    | none=>simp [sliceBounds,HT.sIx]
    | some i =>
      simp only [sliceBounds,HT.sIx,Option.getD_none,show (1:Int) > 0 by decide,if_true]
      by_cases h:i<0
      · simp only [h,if_true] <;> omega
      · simp only [h,if_false] <;> omega
  · cases hi with
    | none=>simp [sliceBounds,HT.sIx]
    | some i =>
      simp only [sliceBounds,HT.sIx,Option.getD_none,show (1:Int) > 0 by decide,if_true]
      by_cases h:i<0
      · simp only [h,if_true] <;> omega
      · simp only [h,if_false] <;> omega
theorem slicePick_cut (its:List Value) (lo hi:Option Int):slicePick its.toArray lo hi none=((its.drop (HT.sIx its.length 0 lo)).take (HT.sIx its.length its.length hi-HT.sIx its.length 0 lo)).toArray:=by
  obtain ⟨h1,h2,h3⟩:=slice_bounds lo hi its.toArray.size
  unfold slicePick
  rw [h1,h2,h3]
  simp only [sliceRange_one,pick_run,List.size_toArray] <;> rfl
def rSlL (K:PySem.W.Frag):V->Option Int->Option Int->Hp->VK->Prop:=fun x lo hi H Q=>∃ a xs,x=.ref a/\SqL K H a xs/\∀ p,H p=none->Q (.ref p) (upd H p (.lst (cutV xs lo hi)))
theorem xu:SlR X (rSlL X.K):=by
  intro pins s σ H x v vl vu lo hi sl Q I rx hs pl pu h
  obtain ⟨a,xs,rfl,hx,q⟩:=h
  cases rx
  obtain ⟨its,r,ht,hz⟩:=I.list hx
  have hlen:=r.length
  refine ⟨"list",_,slot_list_getitem.lookup,ht.isList.typeIs,?_⟩
  refine wpAny_getItem_list_slice ht.isList hs pl pu .none (by simp) ?_ (by rw [List.size_toArray] <;> omega)
  rw [slicePick_cut,← hlen]
  refine ⟨.ref s.heap.objs.size,_,I.laid (t':=s.toks) (o:=.lst (cutV xs lo hi)) (fun b ob q=>Heap.get?_push_of_some _ q) (Nat.le_refl _) ?_,rfl,q _ (I.hok.fresh (Nat.le_refl _))⟩
  exact ⟨Nat.le_trans (cutV_length xs lo hi) hz,_,0,(r.drop (HT.sIx xs.length 0 lo)).take (HT.sIx xs.length xs.length hi-HT.sIx xs.length 0 lo),Heap.get?_push_size _ rfl⟩
theorem zG:CallR X (.builtin "len") (fun xs H Q=>∃ p ys,xs=[.ref p]/\(SqL X.K H p ys∨SqT X.K H p ys)/\Q (.int ys.length) H):=by
  intro pins s σ H xs us Q I r h
  obtain ⟨p,ys,rfl,hq,q⟩:=h
  obtain ⟨u,rfl,rx⟩:=vals1 r
  cases rx
  have hn:=line63
  rcases hq with hq | hq
  · obtain ⟨its,r',pl,hz⟩:=I.list hq
    have hlen:=r'.length
    exact Calls.call_len_list pl.isList (by simp only [List.size_toArray] <;> omega) ⟨.int ys.length,H,I.tok _,⟨s.toks+1,by rw [List.size_toArray,hlen]⟩,q⟩
  · obtain ⟨its,r',pl,hz⟩:=I.tuple hq
    have hlen:=r'.length
    exact len_tuple pl (by simp only [List.size_toArray] <;> omega) ⟨.int ys.length,H,I.tok _,⟨s.toks+1,by rw [List.size_toArray,hlen]⟩,q⟩
theorem zY:CallR X (.type "list") (fun xs H Q=>∃ p ys,xs=[.ref p]/\(SqL X.K H p ys∨SqT X.K H p ys)/\∀ l,H l=none->Q (.ref l) (upd H l (.lst ys))):=by
  intro pins s σ H xs us Q I r h
  obtain ⟨p,ys,rfl,hq,q⟩:=h
  obtain ⟨u,rfl,rx⟩:=vals1 r
  cases rx
  have fin:∀ (its:List Value),Vals ys its->ys.length<=sizeLine->∀ (h':Heap) (c':Nat),(∀ b o',s.heap.get? b=some o'->h'.get? b=some o') ->
      h'.get? s.heap.objs.size=some { cls:=.type "list",dict:=none,data:=.seq its.toArray c',slots:=#[] }->EP X pins σ Q (.ref s.heap.objs.size) { s with heap:=h' }:=fun its r' hz h' c' kp e =>
    ⟨.ref s.heap.objs.size,_,I.laid (t':=s.toks) kp (Nat.le_refl _) (show ObjOk X.prog X.w _ h' _ (.lst ys) from ⟨hz,its,c',r',e⟩),rfl,q _ (I.hok.fresh (Nat.le_refl _))⟩
  rcases hq with hq | hq
  · obtain ⟨its,r',pl,hz⟩:=I.list hq
    have hlen:=r'.length
    obtain ⟨o,ho,hc,n,hd⟩:=pl.isList
    exact call_list_seq p (.inl rfl) ho hc hd (fun h' c' kp e=>fin its r' hz h' c' kp e) (by simp only [List.size_toArray] <;> omega)
  · obtain ⟨its,r',pl,hz⟩:=I.tuple hq
    have hlen:=r'.length
    obtain ⟨o,ho,hc,n,hd⟩:=pl
    exact call_list_seq p (.inr rfl) ho hc hd (fun h' c' kp e=>fin its r' hz h' c' kp e) (by simp only [List.size_toArray] <;> omega)
def tyV (K:PySem.W.Frag) (T:String) (x:V) (H:Hp):Prop:=match x with
  | .str _=>T="str"
  | .int _=>T="int"
  | .ref p=>(T="list"/\∃ xs,SqL K H p xs)∨(T="tuple"/\∃ o,K.lookup p=some o/\o.cls=.type "tuple"/\o.dict=none) ∨
      (T="dict"/\((∃ kvs,H p=some (.dK kvs))∨∃ kvs,H p=some (.dT kvs)))∨(T="set"/\∃ S n,H p=some (.set S n))
  | _=>False
theorem tyV_is {pins:List (Addr×Obj)} {σ:St} {H:Hp} {s:Shared} {T:String} {x:V} {v:Value} (I:Inv X pins σ H s) (r:RelV x v) (ty:tyV X.K T x H) :
    s.TypeIs v T/\∀ a,v=.ref a->∃ ob,s.heap.get? a=some ob/\ob.dict=none:=by
  cases x with
  | str z =>
    obtain ⟨t,rfl⟩:=r
    cases (show T="str" from ty)
    exact ⟨typeIs_str s z t,fun _ e=>nomatch e⟩
  | int i =>
    obtain ⟨t,rfl⟩:=r
    cases (show T="int" from ty)
    exact ⟨typeIs_int s i t,fun _ e=>nomatch e⟩
  | ref p =>
    cases r
    rcases ty with ⟨rfl,xs,hq⟩ | ⟨rfl,o,hk,hc,hd⟩ | ⟨rfl,hk⟩ | ⟨rfl,S,n,hk⟩
    · obtain ⟨its,_,pl,_⟩:=I.list hq
      refine ⟨pl.isList.typeIs,fun a e=>?_⟩
      cases e
      obtain ⟨o,n,e,c,hd,_⟩:=pl
      exact ⟨o,e,hd⟩
    · refine ⟨⟨o,I.kIn p o hk,hc⟩,fun a e=>?_⟩
      cases e
      exact ⟨o,I.kIn _ o hk,hd⟩
    · have z:∃ o,s.heap.get? p=some o/\o.ExactDict:=by
        rcases hk with ⟨kvs,hk⟩ | ⟨kvs,hk⟩
        · obtain ⟨_,_,_,_,o,_,_,e,ex,_⟩:=I.hok p _ hk
          exact ⟨o,e,ex⟩
        · obtain ⟨_,_,_,_,o,_,_,e,ex,_⟩:=I.hok p _ hk
          exact ⟨o,e,ex⟩
      obtain ⟨o,e,ex⟩:=z
      refine ⟨⟨o,e,ex.1⟩,fun a e2=>?_⟩
      cases e2
      exact ⟨o,e,ex.2.1⟩
    · obtain ⟨o,_,_,_,e,ex,_⟩:=I.hok p _ hk
      refine ⟨⟨o,e,ex.1⟩,fun a e2=>?_⟩
      cases e2
      exact ⟨o,e,ex.2.1⟩
  | _=>exact False.elim ty
def tBM0 (K:PySem.W.Frag) (T:String) (r:V->List V->Hp->VK->Prop) (to:TE):TE:=fun σ H Q=>to σ H fun x H1=>tyV K T x H1/\r x [] H1 Q
def tBM (K:PySem.W.Frag) (T:String) (r:V->List V->Hp->VK->Prop) (to:TE) (t:TA):TE:=fun σ H Q=>to σ H fun x H1=>tyV K T x H1/\t σ H1 fun xs H2=>r x xs H2 Q
variable {o e:Expr} {es:List Expr} {to:TE} {t:TA} {name:Str} {apos cpos:Pos} {T id:String} {r:V->List V->Hp->VK->Prop}
theorem pe_bm0 (pa:PlainAttrs T) (slot:Slot T name id) (hty:typeOf (.builtin id)=pure (.type "method_descriptor")) (hm:MtR X id r) (ho:PE X o to)
    (hbase:attributeBase o name X.env (eval o X.env)=eval o X.env:=by rfl) (hline:(apos.endLine == cpos.line)=true:=by rfl):PE X (.Call (.Attribute o name apos) [] [] cpos) (tBM0 X.K T r to):=by
  intro pins s σ H Q I h
  refine wpAny_Call_method0_late hbase hline (thn (ho pins s σ H _ I h) fun v s1 ⟨x,H1,I1,r1,ty,q1⟩=>?_)
  obtain ⟨h1,h2⟩:=tyV_is I1 r1 ty
  exact ⟨T,id,pa,slot,hty,h1,h2,Calls.callWith_builtin rfl (PySem.evalArgs_none (hm pins s1 σ H1 x [] v [] Q I1 r1 .nil q1))⟩
theorem pe_bm (pa:PlainAttrs T) (slot:Slot T name id) (hty:typeOf (.builtin id)=pure (.type "method_descriptor")) (hm:MtR X id r) (ho:PE X o to) (ha:PA X (e::es) t)
    (hbase:attributeBase o name X.env (eval o X.env)=eval o X.env:=by rfl)
    (hfew:((backTo cpos (starEach (e::es) X.env)).all (fun x=>!x.1) && (backToKw cpos (keywordEach [] X.env)).all (fun x=>x.1.isSome)
      && decide ((e::es).length+([]:List Keyword).length+(if ([]:List Keyword).isEmpty then 0 else 1)<30))=true:=by rfl)
    (hline:(apos.endLine == cpos.line)=true:=by rfl) (hs:starEach (e::es) X.env=(false,eval e X.env)::starEach es X.env:=by rfl) (hplain:(backTo cpos (starEach es X.env)).any (·.1)=false:=by rfl) :
    PE X (.Call (.Attribute o name apos) (e::es) [] cpos) (tBM X.K T r to t):=by
  intro pins s σ H Q I h
  refine wpAny_Call_method_late hbase hfew hline rfl (thn (ho pins s σ H _ I h) fun v s1 ⟨x,H1,I1,r1,ty,q1⟩=>?_)
  obtain ⟨h1,h2⟩:=tyV_is I1 r1 ty
  refine ⟨T,id,pa,slot,hty,h1,h2,?_⟩
  have hA:=ha cpos pins s1 σ H1 _ I1 q1
  rw [hs] at hA ⊢
  refine Calls.callWith_builtin (by show (false || (backTo cpos (starEach es X.env)).any (·.1))=false;rw [hplain] <;> rfl) (Calls.evalArgs_plain ?_)
  exact thn hA fun us s2 ⟨vs,H2,I2,r2,q2⟩=>hm pins s2 σ H2 x vs v us Q I2 r1 r2 q2
/- xs.append(e),list.index on a module's tuple .. are MtR facts of 06m -/
end
end L2
namespace L2
open PySem PySem.Spec PyProof.Rows
def MtM (X:Cx) (id:String) (r:V->List V->Hp->VK->Prop):Prop :=
  ∀ (pins:List (Addr×Obj)) (s:Shared) (σ:St) (H:Hp) (x:V) (xs:List V) (v:Value) (us:List Value) (Q:VK),Inv X pins σ H s->RelV x v->Vals xs us->r x xs H Q ->
    wpAny (model X.prog X.w) X.A (call (.builtin id) (v::us)) (EP X pins σ Q) X.xe s
theorem Vals.one:∀ {x:V} {us:List Value},Vals [x] us->∃ u,us=[u]/\RelV x u
  | _,_,.cons r .nil=>⟨_,rfl,r⟩
theorem Vals.zero:∀ {us:List Value},Vals [] us->us=[]
  | _,.nil=>rfl
theorem Vals.dropLast {xs:List V} {us:List Value} (h:Vals xs us):Vals xs.dropLast us.dropLast:=by
  induction h with
  | nil=>exact .nil
  | cons r t ih =>
    cases t with
    | nil=>exact .nil
    | cons q t'=>exact .cons r ih
theorem Vals.rep {xs:List V} {us:List Value} (h:Vals xs us):∀ k:Nat,Vals (List.replicate k xs).flatten (List.replicate k us).flatten
  | 0=>.nil
  | k+1=>by
    rw [List.replicate_succ,List.replicate_succ,List.flatten_cons,List.flatten_cons]
    exact Vals.append h (Vals.rep h k)
theorem erase_last {α:Type} (l:List α):l.eraseIdx (l.length-1)=l.dropLast:=by
  induction l with
  | nil=>rfl
  | cons a r ih =>
    cases r with
    | nil=>rfl
    | cons b r =>
      have e:(a::b::r).length-1=((b::r).length-1)+1:=by
        have h1:(a::b::r).length=r.length+2:=rfl
        have h2:(b::r).length=r.length+1:=rfl
        omega
      rw [e,List.eraseIdx_cons_succ,ih]
      all_goals rfl
theorem foldl_rep (its:List Value):∀ (k:Nat) (acc:List Value),
    List.foldl (fun x1 x2=>x1++x2) acc.toArray (List.replicate k its.toArray)=(acc++(List.replicate k its).flatten).toArray
  | 0,acc=>by simp
  | k+1,acc=>by
    have e:acc.toArray++its.toArray=(acc++its).toArray:=by simp
    have e2:(acc++its)++(List.replicate k its).flatten=acc++(List.replicate (k+1) its).flatten:=by
      rw [List.replicate_succ,List.flatten_cons,List.append_assoc]
    rw [← e2,← foldl_rep its k (acc++its),← e,List.replicate_succ,List.foldl_cons]
section
variable {X:Cx} {pins:List (Addr×Obj)} {σ:St} {H:Hp} {s:Shared} {l b:Addr} {xs ys zs:List V}
theorem Inv.lset {its its':List Value} {n:Nat} {f:Array Value->Array Value} {t':Nat} (I:Inv X pins σ H s) (hH:H l=some (.lst xs))
    (e:s.heap.get? l=some { cls:=.type "list",data:=.seq its.toArray n }) (hf:f its.toArray=its'.toArray) (hv:Vals ys its') (hz:ys.length<=sizeLine) :
    Inv X pins σ (upd H l (.lst ys)) { s with heap:=s.heap.update l (Obj.mapSeq f),toks:=t' }:=by
  have q:=PySem.IsL.update e f
  rw [hf] at q
  refine I.write (x:=l) (e:=l) (by rw [hH];exact trivial) (.inl rfl) (fun b' u hb hu=>(Heap.get?_update_other s.heap (Obj.mapSeq f) (Ne.symm hb)).trans hu) ⟨_,q⟩ ?_
  exact ⟨hz,its',_,hv,q⟩
theorem Inv.lnew {its:List Value} {t':Nat} (I:Inv X pins σ H s) (hv:Vals ys its) (hz:ys.length<=sizeLine) :
    Inv X pins σ (upd H s.heap.objs.size (.lst ys)) { s with heap:=s.heap.push { cls:=.type "list",data:=.seq its.toArray },toks:=t' } :=
  I.laid (fun _ _ q=>Heap.get?_push_of_some _ q) (Nat.le_refl _) ⟨hz,its,0,hv,Heap.get?_push_size _ rfl⟩
theorem Inv.fresh (I:Inv X pins σ H s):H s.heap.objs.size=none:=I.hok.fresh (Nat.le_refl _)
theorem Inv.lstM (I:Inv X pins σ H s) (hH:H l=some (.lst xs)):xs.length<=sizeLine/\∃ (its:List Value) (n:Nat),Vals xs its/\xs.length=its.length/\s.heap.get? l=some { cls:=.type "list",data:=.seq its.toArray n }:=by
  obtain ⟨z,its,n,r,e⟩:=I.hok l _ hH
  exact ⟨z,its,n,r,r.length,e⟩
theorem notLongL {n:Nat} (h:n<=sizeLine):Builtin.List.listTooLong n=false:=by
  unfold Builtin.List.listTooLong
  exact decide_eq_false (by omega)
end
section
variable {X:Cx}
def rAppend:V->List V->Hp->VK->Prop:=fun x vs H Q=>∃ l xs y,x=.ref l/\vs=[y]/\H l=some (.lst xs)/\xs.length<sizeLine/\Q .non (upd H l (.lst (xs++[y])))
theorem yO:MtM X "list.append" rAppend:=by
  intro pins s σ H x vs v us Q I rx rv h
  obtain ⟨l,xs,y,rfl,rfl,hH,hz,q⟩:=h
  cases rx
  obtain ⟨u,rfl,ru⟩:=rv.one
  obtain ⟨z,its,n,r,hl,e⟩:=I.lstM hH
  refine call_meets F.slot_list_append ⟨_,e,rfl⟩ F.entry_list_append (F.args_list_append_2 _ _) (PySem.list_append l its.toArray n u (by rw [List.size_toArray];omega)) ⟨e,?_⟩
  refine ⟨.non,_,I.lset (its':=its++[u]) hH e (by simp) (r.append (.cons ru .nil)) ?_,rfl,q⟩
  rw [List.length_append,List.length_singleton]
  omega
def rPop:V->List V->Hp->VK->Prop:=fun x vs H Q=>∃ l xs y,x=.ref l/\vs=[]/\H l=some (.lst xs)/\xs[xs.length-1]?=some y/\Q y (upd H l (.lst xs.dropLast))
theorem mt_pop:MtM X "list.pop" rPop:=by
  intro pins s σ H x vs v us Q I rx rv h
  obtain ⟨l,xs,y,rfl,rfl,hH,hy,q⟩:=h
  cases rx
  have hus:=rv.zero
  subst hus
  obtain ⟨z,its,n,r,hl,e⟩:=I.lstM hH
  obtain ⟨u,hu,ru⟩:=r.get hy
  have hy':its.toArray[its.toArray.size-1]?=some u:=by
    show its.toArray[its.length-1]?=some u
    rw [← Array.getElem?_toList,← hl]
    exact hu
  refine call_meets F.slot_list_pop ⟨_,e,rfl⟩ F.entry_list_pop (F.args_list_pop_1 _) (MeetsSeq.list_pop_last l its.toArray n u hy' (by rw [List.size_toArray];omega)) ⟨e,?_⟩
  refine ⟨y,_,I.lset (its':=its.dropLast) hH e ?_ r.dropLast ?_,ru,q⟩
  · show its.toArray.eraseIdxIfInBounds (its.toArray.size-1)=its.dropLast.toArray
    rw [List.size_toArray,List.eraseIdxIfInBounds_toArray,erase_last]
  · rw [List.length_dropLast]
    omega
def rCat:R2:=fun x y H Q=>∃ l b xs zs,x=.ref l/\y=.ref b/\H l=some (.lst xs)/\H b=some (.lst zs)/\xs.length+zs.length<=sizeLine/\∀ p,H p=none->Q (.ref p) (upd H p (.lst (xs++zs)))
theorem op_cat:OpR X (binaryOp .Add) rCat:=by
  intro pins s σ H x y v u Q I rx ry h
  obtain ⟨l,b,xs,zs,rfl,rfl,hH,hB,hz,q⟩:=h
  cases rx
  cases ry
  obtain ⟨z,its,n,r,hl,e⟩:=I.lstM hH
  obtain ⟨z2,its2,n2,r2,hl2,e2⟩:=I.lstM hB
  refine PySem.P.add_list e e2 ?_ (by rw [List.size_toArray,List.size_toArray];omega)
  have ea:its.toArray++its2.toArray=(its++its2).toArray:=by simp
  rw [ea]
  exact ⟨.ref _,_,I.lnew (t':=s.toks) (r.append r2) (by rw [List.length_append];omega),rfl,q _ I.fresh⟩
def rRep:R2:=fun x y H Q=>∃ l k xs,x=.ref l/\y=.int k/\H l=some (.lst xs)/\-(2 ^ 63)<=k/\k<2 ^ 63/\xs.length*k.toNat<=sizeLine /\
  ∀ p,H p=none->Q (.ref p) (upd H p (.lst (List.replicate k.toNat xs).flatten))
theorem len_rep {α:Type} (xs:List α) (k:Nat):(List.replicate k xs).flatten.length=k*xs.length:=by
  induction k with
  | zero=>simp
  | succ k ih=>rw [List.replicate_succ,List.flatten_cons,List.length_append,ih,Nat.succ_mul,Nat.add_comm]
theorem op_rep:OpR X (binaryOp .Mult) rRep:=by
  intro pins s σ H x y v u Q I rx ry h
  obtain ⟨l,k,xs,rfl,rfl,hH,h1,h2,hz,q⟩:=h
  cases rx
  obtain ⟨t,rfl⟩:=ry
  obtain ⟨z,its,n,r,hl,e⟩:=I.lstM hH
  have hlen:its.toArray.size*k.toNat<=sizeLine:=by rw [List.size_toArray,← hl];exact hz
  have hcap:¬ its.toArray.size*k.toNat > (2 ^ 63-1) / 8:=by
    have:(sizeLine:Nat)<=(2 ^ 63-1) / 8:=by decide
    omega
  have hfit:¬ (!Builtin.List.listFitsIndex k)=true:=by
    rw [fitsIndex_both h1 h2]
    exact Bool.false_ne_true
  have hlong:¬ Builtin.List.listTooLong (its.toArray.size*k.toNat)=true:=by
    rw [notLongL hlen]
    exact Bool.false_ne_true
  have hnew:List.foldl (fun x1 x2=>x1++x2) #[] (List.replicate (if its.toArray.isEmpty=true then 0 else k.toNat) its.toArray)=(List.replicate k.toNat its).flatten.toArray:=by
    have f0:∀ m:Nat,List.foldl (fun x1 x2=>x1++x2) #[] (List.replicate m its.toArray)=(List.replicate m its).flatten.toArray:=fun m=>by
      have:=foldl_rep its m []
      rw [List.nil_append] at this
      exact this
    rw [f0]
    cases its with
    | nil=>simp
    | cons a r'=>rw [if_neg (by simp)]
  refine wpAny_binaryOp_repeat_ref (T:="list") (U:="int") (by decide) ⟨_,e,rfl⟩ (fun s'=>typeIs_int s' k t) noFill_list_mul F.fills_int_mul F.slot_int_rmul repeat_list F.slot_int_index.lookup
    (call_meets F.slot_int_rmul (typeIs_int s k t) F.entry_int_rmul (F.args_int_rmul_2 _ _) (int___rmul___int_list k t l its.toArray n)
      ⟨e,rfl,⟨_,e,rfl⟩,call_meets F.slot_list_mul ⟨_,e,rfl⟩ F.entry_list_mul (F.args_list_mul_2 _ _) (AutoListH.list___mul___list_int_3 l its.toArray n k t hfit hcap hlong) ⟨e,?_⟩⟩)
  rw [hnew]
  exact ⟨.ref _,_,I.lnew (t':=s.toks) (r.rep k.toNat) (by rw [len_rep,Nat.mul_comm];exact hz),rfl,q _ I.fresh⟩
end
section
variable {prog:Program} {w:World} {A:Around} {E:Value->Shared->Prop} {s:Shared}
set_option maxRecDepth 100000 in
end
section
variable {X:Cx}
end
end L2
namespace Att
open PySem PySem.W PySem.Calls PyProof.Rows
theorem ints_of_wellAll {P:Params} {h:Heap}:∀ (ns:List Int) (vs:List Value),WellAll P h vs (ns.map WData.int)->IntsAre vs ns:=by
  intro ns
  induction ns with
  | nil =>
    intro vs w
    rw [List.map_nil] at w
    cases w
    exact .nil
  | cons n ns ih =>
    intro vs w
    rw [List.map_cons] at w
    cases w with
    | cons a b =>
      cases a
      exact .cons _ _ (ih _ b)
theorem script_of {l:OpenLaw} {n:Nat} (hn:l.most=some n) {P:Params} {h:Heap} {args:List WData} {vals:List Value}
    (hpre:l.row.toRowW.claim.pre args=true) (hwl:WellAll P h vals args) :
    ∃ a vs ns,vals=[Value.ref a]/\args=[WData.list (ns.map WData.int)]/\h.get? a=some { cls:=.type "list",data:=.seq vs.toArray }/\IntsAre vs ns/\ns.length<=n:=by
  have hsh:WShape.hasAll [] args [.list .int]=true:=(pre_splitW hpre).1
  have hc:l.pre.holds [] { args:=args }=true:=(pre_splitW hpre).2
  obtain ⟨d,r,rfl,h1,h2⟩:=hasAllW_cons hsh
  obtain rfl:=hasAllW_nil h2
  obtain ⟨xs,rfl,h3⟩:=hasW_list h1
  obtain ⟨ns,rfl⟩:=items_int h3
  have hlen:ns.length<=n:=by
    unfold OpenLaw.pre at hc
    have h4:(WTm.not (.lt (.lit (.int (n:Int))) (.len (.arg 0)))).holds [] { args:=[.list (ns.map .int)] }=true:=by
      have h4:=(holds_andW hc).1
      rw [hn] at h4
      exact h4
    have h5:=condW_of h4 (w_not (w_lt w_lit (w_len_list (w_arg rfl))))
    rw [List.length_map] at h5
    refine Nat.le_of_not_lt fun q=>?_
    have q':(n:Int)<((ns.length:Nat):Int):=by omega
    first
      | (rw [decide_eq_true q'] at h5;exact absurd h5 (by decide))
      | (simp at h5;omega)
  cases hwl with
  | cons w1 w2 =>
    cases w2
    cases w1 with
    | list ho hall=>exact ⟨_,_,ns,rfl,rfl,ho,ints_of_wellAll ns _ hall,hlen⟩
theorem post_true (l:OpenLaw) (args:List WData):l.row.toRowW.claim.post args (.bool true) args=true :=
  postW_of (r:=l.row.toRowW) (X:=(true == true))
    (show WShape.has [] (.bool true) .bool=true by first | rfl | decide | simp [WShape.has,WShape.arms,WShape.armsAll])
    (show (WTm.eq .res (.lit (.bool true))).value [] { args:=args,res:=some (.bool true),after:=args }=some (.bool (true == true)) from w_eq_bool (w_res rfl) w_lit) rfl
theorem attach_call {l:OpenLaw} {n:Nat} {q:Program} {loose:List Str} {XP:(Str->Option Value)->Heap->Prop} {YP:World->Heap->Prop} {d:DefRec}
    (hn:l.most=some n) (hdf:d.params.defaults=[])
    (call:∀ (w:World) (s₀ s₁:Shared) (mg mb:Str->Option Value) (fa:Addr) (o:Obj) (pm cd doc:Value) (a:Addr) (vs:List Value) (ns:List Int),
      Ground q loose [] XP w s₀ mg mb s₁.heap->YP w s₁.heap ->
      s₁.heap.get? fa=some o->o.data=.func (docDef d.name d.params d.body d.scope pm cd doc)->s₁.heap.CodeRec cd d.name->mg d.name=some (.ref fa) ->
      s₁.heap.get? a=some { cls:=.type "list",data:=.seq vs.toArray }->IntsAre vs ns->ns.length<=n->s₁.gens=#[] ->
      codeAny (model l.prog w) callerA (.call (.ref fa) ⟨[.ref a],[]⟩) (fun r s'=>r=.ok (.ret (.bool true))/\OldK s₁.heap s'.heap/\s'.os=s₁.os/\AllBare s'.gens) s₁) :
    WalkO q loose XP YP l.row.toRowW d [] (fun f vs=>PySem.call f vs):=by
  intro w s₀ s₁ mg mb G Y fa o pm cd doc dV kV ho hd hcd hD hmg hg args vals as hpre hlay hrd hwl hlo
  obtain rfl:dV=.none:=Dflts.none hD hdf
  obtain rfl:kV=.none:=Dflts.noKw hD
  obtain ⟨a,vs,ns,rfl,rfl,hobj,hints,hlen⟩:=script_of hn hpre hwl
  refine enter_call (codeAny_mono (call w s₀ s₁ mg mb fa o pm cd doc a vs ns G Y ho (fd_plain hd) hcd hmg hobj hints hlen hg) fun r s' hq=>?_)
  obtain ⟨rfl,h2,h3,h4⟩:=hq
  exact ⟨.inl ⟨.bool true,.bool true,[],rfl,fun _=>rfl,.bool true,post_true l _,fun _=>⟨List.Pairwise.nil,fun _ hm=>(nomatch hm)⟩⟩,h2,h3,h4⟩
section
variable {prog:Program} {w:World} {A:Around} {E:Value->Shared->Prop} {s:Shared} {K:Frag}
def noObjs (h:Heap):Heap:={ h with objs:=#[] }
theorem noObjs_get (h:Heap) (b:Addr):(noObjs h).get? b=none:=by
  cases e:(noObjs h).get? b with
  | none=>rfl
  | some o=>exact absurd (Heap.lt_size e) (Nat.not_lt_zero _)
def ledger (h:Heap) (L d:Addr):List (Addr×Obj):=(List.range h.objs.size).filterMap fun a=>if a=L∨a=d then none else (h.get? a).map fun o=>(a,o)
theorem fr_all {h:Heap} {L:Addr} {m:Str->Option Value} (n:h.Ns L m):Fr (noObjs h) L h m :=
  ⟨n,fun b o e=>(by rw [noObjs_get] at e;cases e),Nat.zero_le _⟩
end
end Att
namespace L2
open PySem PySem.Spec PyProof.Rows
theorem vals_ints:∀ {vs:List Value} {ns:List Int},IntsAre vs ns->Vals (ns.map V.int) vs
  | _,_,.nil=>.nil
  | _,_,.cons n t h=>.cons ⟨t,rfl⟩ (vals_ints h)
def Only (H:Hp):Prop:=∀ b,H b=none∨∃ o xs,H b=some (.frz o (.lst xs))
theorem law_call {P:Program} {w:World} {K:PySem.W.Frag} {mg mb:Str->Option Value} {CX:CXT} {k:Nat} {fa a:Addr} {fd:FuncData} {x:Str} {sp:Sp} {s₁:Shared} {vs:List Value} {ns:List Int}
    (KX:K.In s₁.heap) (hns:s₁.heap.Ns mainGlobals mg) (hb:s₁.heap.Ns builtinsNs mb) (hbb:∀ x:Str,x≠"__name__"->mb x=bootBuiltins x) (hlim:s₁.heap.NoLimit) (hg:s₁.gens=#[])
    (ha:s₁.heap.get? a=some { cls:=.type "list",data:=.seq vs.toArray }) (hi:IntsAre vs ns) (hl:ns.length<=sizeLine) (hr:Room k callerA)
    (F:∀ base:Heap,K.In base->base.Ns mainGlobals mg->FnOk P w K mg base CX k fa fd [x] sp) (hbind:∀ (s:Shared) (u:Value),BindsTo s fd ⟨[u],[]⟩ [(x,u)])
    (hsp:∀ H:Hp,Only H->SqL K H a (ns.map V.int)->sp [.ref a] H (fun v _=>v=.bl true) fun _ _ _=>False)
    (hCX:∀ H e s',CX [] H s₁ (fun _ _ _=>False) e s'->False) :
    codeAny (model P w) callerA (.call (.ref fa) ⟨[.ref a],[]⟩) (fun r s'=>r=.ok (.ret (.bool true))/\OldK s₁.heap s'.heap/\s'.os=s₁.os/\AllBare s'.gens) s₁:=by
  have rv:=vals_ints hi
  have lenV:=hi.length
  have core:∀ H:Hp,Only H->SqL K H a (ns.map V.int)->HOk P w H s₁.heap->(∀ b,H b≠none->b=a)->(H a≠none->K.lookup a=none) ->
      codeAny (model P w) callerA (.call (.ref fa) ⟨[.ref a],[]⟩) (fun r s'=>r=.ok (.ret (.bool true))/\OldK s₁.heap s'.heap/\s'.os=s₁.os/\AllBare s'.gens) s₁:=by
    intro H hO hS hok hA hK
    have base_of:∀ {b:Addr} {o:Obj},s₁.heap.get? b=some o->H b=none->(hidT s₁.heap H).get? b=some o:=fun e n=>hidT_get e n
    have noA:∀ {b:Addr} {o:Obj} {es:Array DictEntry} {ep:Nat},s₁.heap.get? b=some o->o.data=.dict es ep->H b=none:=fun {b o es ep} e d=>by
      cases q:H b with
      | none=>rfl
      | some u =>
        have e':b=a:=hA b (by rw [q];simp)
        subst e'
        rw [ha] at e;cases e
        have d':Data.seq vs.toArray _=Data.dict es ep:=d
        cases d'
    have nsK:∀ {b:Addr} {m:Str->Option Value},s₁.heap.Ns b m->(hidT s₁.heap H).Ns b m:=fun {b m} ⟨o,es,ep,e,d,r⟩=>⟨o,es,ep,base_of e (noA e d),d,r⟩
    have hKb:K.In (hidT s₁.heap H):=fun b o e=>base_of (KX b o e) (by
      cases q:H b with
      | none=>rfl
      | some u =>
        have e':b=a:=hA b (by rw [q];simp)
        subst e'
        rw [hK (by rw [q];simp)] at e;cases e)
    have hM:Mod K mg (hidT s₁.heap H):=⟨hKb,nsK hns,⟨mb,nsK hb,hbb⟩,let ⟨mc,h1,h2⟩:=hlim;⟨mc,nsK h1,h2⟩⟩
    have e0:Env0 P w K mg (hidT s₁.heap H) callerA [] s₁ H:=⟨rfl,hM,fun b o e=>of_hidT e,Nat.le_of_eq (hidT_size _ _),trivial,fun b hb=>absurd (show b∈([]:List Addr) from hb) (by simp),hok,.of_eq hg⟩
    refine codeAny_mono ((F _ hKb (nsK hns)).run callerA [] s₁ H ⟨[.ref a],[]⟩ [.ref a] [.ref a] _ _ hr e0 (hbind s₁ (.ref a)) (.cons rfl .nil) (hsp H hO hS)) fun r s' h=>?_
    cases r with
    | error e=>exact (hCX H e s' h).elim
    | ok fl =>
      cases fl with
      | next=>exact False.elim h
      | brk=>exact False.elim h
      | cont=>exact False.elim h
      | ret u =>
        obtain ⟨v,H',os,bare,un,hok',r',q⟩:=h
        have q':v=.bl true:=q
        subst q'
        obtain rfl:u=Value.bool true:=r'
        refine ⟨rfl,OldK.of_keep fun b o e=>?_,os,bare⟩
        cases q:H b with
        | none=>exact un.keep b o e q (by intro z;exact absurd (show b∈([]:List Addr) from z) (by simp)) (by simp)
        | some u =>
          rcases hO b with z | ⟨ob,xs,z⟩
          · rw [q] at z;cases z
          · have z2:=un.frzs b ob _ z
            obtain ⟨e1,_⟩:=hok b _ z
            obtain ⟨e2,_⟩:=hok' b _ z2
            rw [e] at e1;cases e1
            exact e2
  cases hk:K.lookup a with
  | some o =>
    have e:=KX a o hk
    rw [ha] at e
    cases e
    refine core (fun _=>none) (fun _=>.inl rfl) (.inr ⟨_,vs.toArray,_,hk,rfl,rfl,rfl,by rw [List.size_toArray,lenV];exact hl,by simpa using rv⟩) (fun b u z=>by have z':(none:Option HO)=some u:=z;cases z') (fun b z=>absurd rfl z) fun z=>absurd rfl z
  | none =>
    refine core (fun b=>if b=a then some (.frz { cls:=.type "list",data:=.seq vs.toArray } (.lst (ns.map V.int))) else none) (fun b=>?_) (.inl (.inr ⟨{ cls:=.type "list",data:=.seq vs.toArray },if_pos rfl⟩)) (fun b u z=>?_) (fun b z=>?_) fun _=>hk
    · by_cases hb:b=a
      · exact .inr ⟨_,_,if_pos hb⟩
      · exact .inl (if_neg hb)
    · by_cases hb:b=a
      · have z':=(if_pos hb).symm.trans z
        cases z'
        subst hb
        exact ⟨ha,by rw [List.length_map];exact hl,vs,_,rv,ha⟩
      · have z':=(if_neg hb).symm.trans z
        cases z'
    · by_cases hb:b=a
      · exact hb
      · exact absurd (if_neg hb) z
end L2
namespace L2
open PySem PySem.Spec PyProof.Rows
theorem walk_of {l:PySem.W.OpenLaw} {n k:Nat} {q:Program} {loose:List Str} {XP:(Str->Option Value)->Heap->Prop} {YP:World->Heap->Prop} {d:DefRec} {K:Params->PySem.W.Frag} {CX:World->CXT} {sp:World->Sp} {x:Str}
    (hn:l.most=some n) (hn2:n<=sizeLine) (hdf:d.params.defaults=[]) (hr:Room k callerA)
    (hY:∀ (w:World) (h:Heap),YP w h->(K w.params).In h)
    (F:∀ (w:World) (mg:Str->Option Value) (fa:Addr) (h:Heap),(K w.params).In h->h.Ns mainGlobals mg->mg d.name=some (.ref fa) ->
      ∃ fd:FuncData,(∀ (s:Shared) (u:Value),BindsTo s fd ⟨[u],[]⟩ [(x,u)]) /\
        ∀ base:Heap,(K w.params).In base->base.Ns mainGlobals mg->FnOk l.prog w (K w.params) mg base (CX w) k fa fd [x] (sp w))
    (hsp:∀ (w:World) (H:Hp) (a:Addr) (ns:List Int),ns.length<=n->Only H->SqL (K w.params) H a (ns.map V.int)->sp w [.ref a] H (fun v _=>v=.bl true) fun _ _ _=>False)
    (hCX:∀ (w:World) (H:Hp) (s:Shared) (e:Value) (s':Shared),CX w [] H s (fun _ _ _=>False) e s'->False) :
    PySem.W.WalkO q loose XP YP l.row.toRowW d [] (fun f vs=>PySem.call f vs):=by
  refine Att.attach_call hn hdf fun w s₀ s₁ mg mb fa o pm cd doc a vs ns G Y ho hd hcd hmg hobj hints hlen hg=>?_
  have KX:=hY w _ Y
  obtain ⟨fd,hb,hF⟩:=F w mg fa _ KX G.T.g hmg
  exact law_call KX G.T.g G.T.b G.T.builtins G.T.nolimit hg hobj hints (Nat.le_trans hlen hn2) hr hF hb (fun H hO hS=>hsp w H a ns hlen hO hS) fun H e s'=>hCX w H s₁ e s'
end L2
/- THE LAST THEOREM (shape;LID,My.* are yours):
   My.Adr: a structure of the addresses that your layer names (classes,functions);My.Txt K t: a structure (Prop) of the equations over K;
   My.txt_mk:{K} {implicit addresses ..} (e1:nsIn K mainGlobals "law"=some (some (.ref f))) (e2:K.lookup f=some ⟨oc,od,.func (fnOf "law" "law" params body scope dV kV doc pm an cdv ct),sl⟩) (e3:codeIn K cdv "law"=true) ..:∃ t,My.Txt K t
set_option maxRecDepth 100000 in
set_option maxHeartbeats 0 in
(the tactic k_is has no namespace: write k_is) -/
namespace L2
open PySem PySem.Spec PyProof.Rows
def yy (s:Stmt) (j:Nat):Stmt:=match s with
  | .ClassDef _ _ _ body _ _ _ _ _ _ _=>body.getD j (.Pass ⟨0,0,0,0⟩)
  | _=>.Pass ⟨0,0,0,0⟩
def zk (s:Stmt):Arguments:=match s with
  | .FunctionDef _ a _ _ _ _ _ _ _ _=>a
  | _=>{ posonlyargs:=[],args:=[],vararg:=none,kwonlyargs:=[],kw_defaults:=[],kwarg:=none,defaults:=[] }
def zj (s:Stmt):List Stmt:=match s with
  | .FunctionDef _ _ b _ _ _ _ _ _ _=>b
  | _=>[]
def zd (s:Stmt):Scope:=match s with
  | .FunctionDef _ _ _ _ _ _ sc _ _ _=>sc
  | _=>{ kind:=.function,names:=[],isGenerator:=false,isCoroutine:=false }
abbrev CX0:CXT:=fun _ _ _ _ _ _=>False
abbrev E0:XK:=fun _ _ _=>False
theorem zr {X:Cx}:xA CX0 X E0:=fun _ _ _ _ _ _ _ h=>h.elim
structure Fun (K:PySem.W.Frag) (x qual:Str) (st:Stmt) (f:Addr) (fd:FuncData):Prop where
  ex:∃ (oc:Value) (od:Option Addr) (kV doc pm:Value) (an:Option Addr) (cdv ct:Value) (osl:Array (Option Value)),
    fd=PySem.W.fnOf x qual (zk st) (zj st) (zd st) .none kV doc pm an cdv ct/\K.lookup f=some ⟨oc,od,.func fd,osl⟩/\PySem.W.codeIn K cdv qual=true
  kp:PySem.W.keepIn K (.ref f)=true
section
variable {P:Program} {w:World} {K:PySem.W.Frag} {mg:Str->Option Value} {base:Heap}
theorem Fun.ok {x qual:Str} {st:Stmt} {f:Addr} {fd:FuncData} {N ps:List Str} {k:Nat} {sp:Sp} (F:Fun K x qual st f fd) (S:FnScope N ps (zd st)) (len:∀ vs H Q E,sp vs H Q E->vs.length=ps.length)
    (hbody:∀ (cdv:Value) (A:Around) (outer:List Env) (s:Shared) (H:Hp) (vs:List V) (Q:VK) (E:XK),Room k (A.deeper (envOfC qual (zd st) s.heap.objs.size f cdv))->sp vs H Q E ->
      ∃ t,PSs (yt CX0 P w K mg base N qual (zd st) f cdv A outer s H E).nox (zj st) t/\t { nx:=fun _ H'=>Q .non H',rt:=Q } (start N vs) H):FnOk P w K mg base CX0 (k+1) f fd ps sp:=by
  obtain ⟨oc,od,kV,doc,pm,an,cdv,ct,osl,rfl,lk,hcd⟩:=F.ex
  refine fn_of lk hcd S len fun A outer s H vs Q E hr hsp=>?_
  obtain ⟨t,h,q⟩:=hbody cdv A outer s H vs Q E hr hsp
  exact ⟨t,h.nox,q⟩
theorem Fun.binds {x qual:Str} {st:Stmt} {f:Addr} {fd:FuncData} {ps:List Str} (F:Fun K x qual st f fd)
    (h:∀ (kV doc pm:Value) (an:Option Addr) (cdv ct:Value) (us:List Value),us.length=ps.length->bindArgs (PySem.W.fnOf x qual (zk st) (zj st) (zd st) .none kV doc pm an cdv ct) ⟨us,[]⟩=pure (ps.zip us)):Binds K fd ps []:=by
  obtain ⟨oc,od,kV,doc,pm,an,cdv,ct,osl,rfl,lk,hcd⟩:=F.ex
  exact .all (h kV doc pm an cdv ct)
theorem zO {x qual:Str} {st:Stmt} {f:Addr} {oc:Value} {od an:Option Addr} {osl:Array (Option Value)} {kV doc pm cdv ct:Value} (l:K.lookup f=some ⟨oc,od,.func (PySem.W.fnOf x qual (zk st) (zj st) (zd st) .none kV doc pm an cdv ct),osl⟩)
    (c:PySem.W.codeIn K cdv qual=true) (k:PySem.W.keepIn K (.ref f)=true):Fun K x qual st f (PySem.W.fnOf x qual (zk st) (zj st) (zd st) .none kV doc pm an cdv ct):=⟨⟨oc,od,kV,doc,pm,an,cdv,ct,osl,rfl,l,c⟩,k⟩
end
section
variable {X:Cx}
theorem pv (i:Nat) {x:Str} {pos:Pos} (hN:X.N[i]?=some x:=by rfl) (hv:Vis X.env.scope x:=by first | exact Or.inl rfl | exact Or.inr (Or.inl rfl) | exact Or.inr (Or.inr rfl)) (hd:(x == ("__debug__":Str))=false:=by decide)
    (hcd:(x == ("__classdict__":Str))=false:=by decide):PE X (.Name x pos) (tVar i):=pe_var hN hv hd hcd
end
theorem yx {A B:Prop} (h:B):if false=true then A else B:=by
  rw [if_neg Bool.false_ne_true]
  exact h
theorem iteT {A B:Prop} (h:A):if true=true then A else B:=by
  rw [if_pos rfl]
  exact h
theorem ite2 {c A B:Prop} [Decidable c] (h1:c->A) (h2:¬ c->B):if c then A else B:=by
  by_cases h:c
  · rw [if_pos h]
    exact h1 h
  · rw [if_neg h]
    exact h2 h
def Same (H H':Hp):Prop:=∀ b o,H b=some o->H' b=some o
theorem Same.refl (H:Hp):Same H H:=fun _ _ h=>h
theorem Same.trans {H H1 H2:Hp} (a:Same H H1) (b:Same H1 H2):Same H H2:=fun c o h=>b c o (a c o h)
theorem Same.free {H H':Hp} (e:Same H H') {l:Addr} (h:H' l=Option.none):H l=Option.none:=by
  cases q:H l with
  | none=>rfl
  | some o =>
    rw [e l o q] at h
    cases h
end L2
namespace L2
open PySem PySem.Spec PyProof.Rows
theorem ObjOk.here {P:Program} {w:World} {H:Hp} {h:Heap} {a:Addr} {o:HO} (x:ObjOk P w H h a o):∃ ob,h.get? a=some ob:=by
  cases o with
  | lst xs=>obtain ⟨_,_,_,_,e⟩:=x;exact ⟨_,e⟩
  | tup xs=>obtain ⟨_,_,_,ob,e,_⟩:=x;exact ⟨_,e⟩
  | dK kvs=>obtain ⟨_,_,_,_,ob,_,_,e,_⟩:=x;exact ⟨_,e⟩
  | dT kvs=>obtain ⟨_,_,_,_,ob,_,_,e,_⟩:=x;exact ⟨_,e⟩
  | set S n=>obtain ⟨ob,_,_,_,e,_⟩:=x;exact ⟨_,e⟩
  | ins C dx fs=>obtain ⟨_,_,_,e,_⟩:=x;exact ⟨_,e⟩
  | own y=>exact x
  | xd fs=>obtain ⟨_,⟨_,_,_,e,_⟩,_⟩:=x;exact ⟨_,e⟩
  | rng lo hi=>obtain ⟨_,_,_,e⟩:=x;exact ⟨_,e⟩
  | frz ob u=>obtain ⟨e,_⟩:=x;exact ⟨_,e⟩
  | tbl ps=>exact ⟨_,x⟩
  | met f y=>exact ⟨_,x⟩
  | ext φ=>obtain ⟨_,e,_⟩:=x;exact e
theorem mem_frs {env:Env} {l:List Env} {L:Addr} (hf:env.frame=some L):L∈frs (env::l):=by
  unfold frs;rw [List.filterMap_cons,hf];exact List.mem_cons_self
theorem mem_frs_tail {env:Env} {l:List Env} {L b:Addr} (hf:env.frame=some L) (hb:b∈frs l):b∈frs (env::l):=by
  unfold frs at *;rw [List.filterMap_cons,hf];exact List.mem_cons_of_mem _ hb
theorem frames_over {h base base':Heap}:∀ {l:List Env},h.FunFrames base l->(∀ b∈frs l,base'.get? b=none)->h.FunFrames base' l
  | [],_,_=>trivial
  | _::_,⟨hk,⟨L,o,hf,_,ho,hd⟩,hr⟩,k=>⟨hk,⟨L,o,hf,k L (mem_frs hf),ho,hd⟩,frames_over hr fun b hb=>k b (mem_frs_tail hf hb)⟩
structure Fly (base:Heap) (outer:List Env) (H:Hp) (s h:Heap) (e:Addr) (cls:Value):Prop where
  stays:base.StaysIn h
  frames:h.FunFrames base outer
  baseE:base.get? e=none
  newE:s.get? e=none
  freeE:H e=none
  tr:∃ oe vs T oT ts,h.get? e=some oe/\oe.cls=cls/\oe.data=.fields vs/\vs[1]?=some (.ref T)/\T≠e/\h.get? T=some oT/\oT.data=.fields ts/\ts[3]?=some .none/\base.get? T=none/\s.get? T=none/\H T=none
def CXe (P:Program) (w:World) (base:Heap):CXT:=fun outer H s E e s' =>
  ∃ (ea C:Addr) (H':Hp),e=.ref ea/\s'.os=s.os/\AllBare s'.gens/\Un (frs outer) [] H H' s.heap s'.heap/\HOk P w H' s'.heap/\Fly base outer H' s.heap s'.heap ea (.ref C)/\E (.ref C) none H'
section
variable {X:Cx} {pins:List (Addr×Obj)} {σ:St} {H:Hp} {s:Shared} {e:Addr} {cls:Value}
end
end L2
namespace L2
open PySem PySem.Spec PyProof.Rows
section
variable {X:Cx} {pins:List (Addr×Obj)} {σ:St} {H H':Hp} {s s':Shared} {e:Addr} {cls:Value}
theorem lv_on {Q:Unit->Shared->Prop} {E:Value->Shared->Prop} (I:Inv X pins σ H s) (hst:X.stack=X.env::X.outer) (hf:X.env.frame=some X.env.locals) (hex:X.ex=[])
    (u:Un (frs X.stack) [] H H' s.heap s'.heap) (hok:HOk X.prog X.w H' s'.heap) (fl:Fly X.base X.stack H' s.heap s'.heap e cls)
    (hQ:∀ h',Un X.fs [] X.H₀ H' X.s₀.heap h'->HOk X.prog X.w H' h'->Fly X.base X.outer H' X.s₀.heap h' e cls->Q () { s' with heap:=h' }) :
    wpAny (model X.prog X.w) X.A (leaving X.env (.ref e)) Q E s':=by
  obtain ⟨y1,y2,y3,y4,y5,oe,ws,T,oT,ts,t1,t2,t3,t4,t6,t7,t8,t9,t10,t11,t12⟩:=fl
  rw [hst] at y2 u
  have hfs:=I.stack
  rw [hst] at hfs
  have hfr:X.A.frames=some (X.env::X.outer):=by rw [← hst];exact I.ok.frames
  have fbase:∀ b∈frs (X.env::X.outer),X.base.get? b=none:=fun b hb=>(hfs.mem hb).1
  have fdat:∀ b∈frs (X.env::X.outer),∃ o,s'.heap.get? b=some o/\∀ vs,o.data≠.fields vs:=fun b hb=>(y2.mem hb).2
  have funt:∀ b∈frs (X.env::X.outer),H' b=none:=fun b hb=>by
    obtain ⟨_,o,ho,_⟩:=hfs.mem hb
    exact u.free b o ho (I.stkFree b (by rw [hst];exact hb)) (by simp)
  have bget:∀ b o,b ∉ e::T::frs (X.env::X.outer)->s'.heap.get? b=some o->(PySem.W.hideAll s'.heap (e::T::frs (X.env::X.outer))).get? b=some o:=fun b o n q=>PySem.W.hideAll_get _ q n
  have bof:∀ b o,(PySem.W.hideAll s'.heap (e::T::frs (X.env::X.outer))).get? b=some o->s'.heap.get? b=some o:=fun b o q=>PySem.W.of_hideAll _ q
  have bno:∀ b∈e::T::frs (X.env::X.outer),(PySem.W.hideAll s'.heap (e::T::frs (X.env::X.outer))).get? b=none:=fun b hb=>PySem.W.hideAll_none _ hb
  refine wpAny_leaving_next (base:=PySem.W.hideAll s'.heap (e::T::frs (X.env::X.outer))) (cls:=cls) hfr (frames_over y2 fun b hb=>bno b (by simp [hb])) hf
    ⟨oe,ws,T,oT,ts,t1,t2,t3,t4,bno T (by simp),t6,t7,t8,t9⟩ (fun b o q=>bof b o q) (bno e (by simp)) fun h' hL=>?_
  obtain ⟨k1,k2,k3,k4⟩:=hL
  have neL:∀ b o,X.s₀.heap.get? b=some o->b≠X.env.locals:=fun b o q=>Nat.ne_of_lt (Nat.lt_of_lt_of_le (Heap.lt_size q) I.ok.above)
  have inS:∀ b,b∈frs (X.env::X.outer)->b=X.env.locals∨b∈X.fs:=fun b hb=>by
    rcases List.mem_cons.mp (I.stkSub b (by rw [hst];exact hb)) with z | z
    · exact .inl z
    · exact .inr z
  have keep:∀ b o,b ∉ frs (X.env::X.outer)->b≠e->b≠T->s'.heap.get? b=some o->h'.get? b=some o:=fun b o n n1 n2 q=>k1 b o (bget b o (by simp [n,n1,n2]) q)
  have slot:∀ b o,b∈frs (X.env::X.outer)->s'.heap.get? b=some o->∃ sl,h'.get? b=some { o with slots:=sl }:=fun b o hb q=>by
    obtain ⟨o',q',nf⟩:=fdat b hb
    rw [q] at q';cases q'
    exact k4 b o q nf
  have old:∀ b o,s.heap.get? b=some o->b≠e/\b≠T:=fun b o q=>⟨fun z=>(by rw [z,y4] at q;cases q),fun z=>(by rw [z,t11] at q;cases q)⟩
  have there0:∀ b,s.heap.get? b=none->X.s₀.heap.get? b=none:=fun b q=>by
    cases r:X.s₀.heap.get? b with
    | none=>rfl
    | some o =>
      obtain ⟨o',z⟩:=I.base.there b o r (by rw [hex];simp)
      rw [z] at q;cases q
  have trk:∀ b o,H' b=some o->b ∉ frs (X.env::X.outer)/\b≠e/\b≠T:=fun b o q=>⟨fun hb=>(by rw [funt b hb] at q;cases q),fun z=>(by rw [z,y5] at q;cases q),fun z=>(by rw [z,t12] at q;cases q)⟩
  refine hQ h' ⟨fun b o q n hb _=>?_,fun b o q n hb _=>?_,fun b o q n _=>?_,fun b o q _=>?_,fun b xs q=>u.tups b xs (I.base.tups b xs q),fun b o x q=>u.frzs b o x (I.base.frzs b o x q),fun b ps q=>?_⟩ (fun b o q=>?_) ⟨fun b o q=>?_,?_,y3,there0 e y4,y5,?_⟩
  · have q1:=I.base.keep b o q n hb (by rw [hex];simp)
    have n1:=I.base.free b o q n (by rw [hex];simp)
    have nf:b ∉ frs (X.env::X.outer):=fun z=>by
      rcases inS b z with z | z
      · exact neL b o q z
      · exact hb z
    exact keep b o nf (old b o q1).1 (old b o q1).2 (u.keep b o q1 n1 nf (by simp))
  · obtain ⟨sl,q1⟩:=I.base.slot b o q n hb (by rw [hex];simp)
    have n1:=I.base.free b o q n (by rw [hex];simp)
    obtain ⟨sl2,q2⟩:=u.slot b _ q1 n1 (mem_frs_tail hf hb) (by simp)
    obtain ⟨sl',q3⟩:=slot b _ (mem_frs_tail hf hb) q2
    exact ⟨sl',q3⟩
  · obtain ⟨o',q1⟩:=I.base.there b o q (by rw [hex];simp)
    exact u.free b o' q1 (I.base.free b o q n (by rw [hex];simp)) (by simp)
  · obtain ⟨o',q1⟩:=I.base.there b o q (by rw [hex];simp)
    obtain ⟨o2,q2⟩:=u.there b o' q1 (by simp)
    by_cases hb:b∈frs (X.env::X.outer)
    · obtain ⟨sl,q3⟩:=slot b o2 hb q2
      exact ⟨_,q3⟩
    · exact ⟨_,keep b o2 hb (old b o' q1).1 (old b o' q1).2 q2⟩
  · obtain ⟨m1,e1⟩:=I.base.tbls b ps q
    obtain ⟨m2,e2⟩:=u.tbls b _ e1
    exact ⟨m1++m2,by rw [e2,Array.append_assoc]⟩
  · exact (hok b o q).stay (fun c v hc r=>by
      have z:c ∉ frs (X.env::X.outer)/\c≠e/\c≠T:=by
        rcases hc with rfl | hc
        · exact trk _ _ q
        · exact trk _ _ hc
      exact keep c v z.1 z.2.1 z.2.2 r) (fun _ z=>z) fun _ _ z=>z
  · refine keep b o (fun z=>by rw [fbase b z] at q;cases q) (fun z=>by rw [z,y3] at q;cases q) (fun z=>by rw [z,t10] at q;cases q) (y1 b o q)
  · obtain ⟨_,_,k2⟩:=frames_over k2 (base':=X.base) fun b hb=>fbase b hb
    exact k2
  · obtain ⟨oe',ws',T',oT',ts',r1,r2,r3,r4,r5,r6,r7,r8,r9⟩:=k3
    by_cases hT:T'=T
    · subst hT
      exact ⟨oe',ws',T',oT',ts',r1,r2,r3,r4,r6,r7,r8,r9,t10,there0 T' t11,t12⟩
    · have tf:T' ∉ frs (X.env::X.outer):=fun z=>by
        obtain ⟨_,o',q',nf⟩:=k2.mem z
        rw [r7] at q';cases q'
        exact nf ts' r8
      have tn:s'.heap.get? T'=none:=by
        cases r:s'.heap.get? T' with
        | none=>rfl
        | some o=>rw [bget T' o (by simp [tf,r6,hT]) r] at r5;cases r5
      have tn0:s.heap.get? T'=none:=by
        cases r:s.heap.get? T' with
        | none=>rfl
        | some o =>
          obtain ⟨o',z⟩:=u.there T' o r (by simp)
          rw [tn] at z;cases z
      refine ⟨oe',ws',T',oT',ts',r1,r2,r3,r4,r6,r7,r8,r9,?_,there0 T' tn0,?_⟩
      · cases r:X.base.get? T' with
        | none=>rfl
        | some o=>have:=y1 T' o r;rw [tn] at this;cases this
      · cases r:H' T' with
        | none=>rfl
        | some o=>obtain ⟨ob,z⟩:=(hok T' o r).here;rw [tn] at z;cases z
end
section
variable {P:Program} {w:World} {K:PySem.W.Frag} {mg:Str->Option Value} {base:Heap} {N:List Str} {qual:Str} {scope:Scope} {f:Addr} {cd:Value} {A:Around} {outer:List Env} {s:Shared} {H:Hp} {E:XK}
theorem passE:xA (CXe P w base) (yt (CXe P w base) P w K mg base N qual scope f cd A outer s H E) E:=by
  intro pins σ H1 s1 e s' I h
  obtain ⟨ea,C,H',rfl,os,bare,un,hok,fl,q⟩:=h
  exact lv_on I rfl rfl rfl un hok fl fun h' u' hok' fl'=>⟨ea,C,H',rfl,os.trans I.os,bare,u',hok',fl',q⟩
end
end L2
namespace My
open PySem PySem.Spec PySem.Calls PySem.W PyProof.Rows PySem.Builtin PySem.Builtin.ObjectAttr PySem.Builtin.Getset_descriptor
def ClsAt (x D:Addr) (h:Heap):Prop:=∃ o,h.get? x=some o/\o.cls=.ref D
theorem clsAt_ty {x D:Addr} (M:Model) (h:Heap) (p:ClsAt x D h):Looks M h (typeOf (.ref x)) (.ref D):=by
  obtain ⟨o,a,b⟩:=p
  exact b ▸ (Looks.ld a).andThen .now
theorem find_data {K:Frag} {M:Model} {h:Heap} (X:K.In h) {x D:Addr} {name:Str} {g a:Value} (ha:findIn K (.ref D) name=some (some a)) (hn:specialIn K a "__get__"=some (some g)) (htk:takesIn K a=some true) :
    Looks M h (find (.ref x) (.ref D) name) (.bind g a) :=
  (looks_findIn X ha).andThen ((show Looks M h (getOf (some a)) (some g) from looks_specialIn X hn).andThen ((show Looks M h (dataDescriptor? (some a) (some g)) (some (g,a)) from (looks_takesIn X htk).andThen .now).andThen (Looks.tag .now)))
section
variable {prog:Program} {w:World} {A:Around} {E:Value->Shared->Prop} {s:Shared} {K:Frag} {x D:Addr} {R:Result->Shared->Prop}
theorem class_of {tp:Value} (X:K.In s.heap) (p:ClsAt x D s.heap) (hm:mroIn K D (.type "object")=some true) (h:R (.ok (.ret (.ref D))) s) :
    codeAny (model prog w) A (.call (.builtin "getset_descriptor.__get__") ⟨[.builtin "object.__class__",.ref x,tp],[]⟩) R s:=by
  obtain ⟨h0,g0,d0,t0,o0⟩:=s
  have T0:=clsAt_ty (model prog w) h0 p
  have T1:=looks_mroIn (M:=model prog w) X hm
  refine codeAny_call_builtin KF.slot_gs.plain KF.entry_gs (KF.slot_gs.check _ _ _ _ _ _ _ _ KF.type_class (KF.args_gs _ _ _) ?_)
  unfold Builtin.«getset_descriptor.__get__» descrGet
  rw [dga_obj]
  refine wpAny_bind (wpAny_pure ?_)
  unfold descrGetter descrCheckInstance descrNameAndClass isInstance
  simp only [KF.owner_class]
  repeat lk
  refine ⟨Code.quiet_builtin _ (by decide +kernel),codeAny_builtin KF.entry_class ?_⟩
  unfold Builtin.«object.__class__» shownTypeOf
  repeat lk
  exact h
theorem ga_check {M:Model} {Q:Unit->Shared->Prop} {nameV:Value} {h0:Heap} {g0:Array GenState} {d0:Drawn} {t0:Nat} {o0:OsState} (T0:Looks M h0 (typeOf (.ref x)) (.ref D)) (TS:Looks M h0 (isSubtype (.ref D) (.type "BaseException")) true) (hq:Q () ⟨h0,g0,d0,t0,o0⟩) :
    wpAny M A (checkBuiltinCall "BaseException.__getattribute__" ⟨[.ref x,nameV],[]⟩) Q E ⟨h0,g0,d0,t0,o0⟩:=by
  have e1:builtinKind "BaseException.__getattribute__"=some .slot:=by decide +kernel
  have e2:splitId "BaseException.__getattribute__"=some ("BaseException","__getattribute__"):=by decide +kernel
  have e3:=F.args_bexc_ga (.ref x) nameV
  simp only [checkBuiltinCall,e1,e2]
  refine wpAny_bind ?_
  unfold isInstance
  repeat (first | lk | wp_step)
  exact hq
theorem ga_entry {Q:Fin->Shared->Prop} {tk:Tok} {h0:Heap} {g0:Array GenState} {d0:Drawn} {t0:Nat} {o0:OsState} (X:K.In h0) (p:ClsAt x D h0) (ha:findIn K (.ref D) "__class__"=some (some (.builtin "object.__class__")))
    (hn:specialIn K (.builtin "object.__class__") "__get__"=some (some (.builtin "getset_descriptor.__get__"))) (htk:takesIn K (.builtin "object.__class__")=some true) (hm:mroIn K D (.type "object")=some true) (hq:Q (.done (.ret (.ref D))) ⟨h0,g0,d0,t0,o0⟩) :
    wpAny (model prog w) A (Builtin.«object.__getattribute__» ⟨[.ref x,.str "__class__" tk],[]⟩) Q E ⟨h0,g0,d0,t0,o0⟩:=by
  have T0:=clsAt_ty (model prog w) h0 p
  have T2:=find_data (M:=model prog w) X (x:=x) ha hn htk
  unfold Builtin.«object.__getattribute__»
  refine wpAny_bind (wpAny_pure ?_)
  repeat (first | (with_reducible refine wpAny_bind (T0.at ?_)) | (with_reducible refine wpAny_bind (T2.at ?_)) | wp_step)
  refine class_of (s:=⟨h0,g0,d0,t0,o0⟩) X p hm ?_
  repeat (any_goals (first | assumption | wp_step))
theorem class_attr {Q:Option Value->Shared->Prop} (hg:findIn K (.ref D) "__getattribute__"=some (some (.builtin "BaseException.__getattribute__"))) (hgg:findIn K (.ref D) "__getattr__"=some none) (hsb:subIn K (.ref D) (.type "BaseException")=some true) (ha:findIn K (.ref D) "__class__"=some (some (.builtin "object.__class__")))
    (hn:specialIn K (.builtin "object.__class__") "__get__"=some (some (.builtin "getset_descriptor.__get__"))) (htk:takesIn K (.builtin "object.__class__")=some true) (hm:mroIn K D (.type "object")=some true)
    (X:K.In s.heap) (p:ClsAt x D s.heap) (h:Q (some (.ref D)) { s with toks:=s.toks+1 }):wpAny (model prog w) A (getAttr? (.ref x) "__class__") Q E s:=by
  obtain ⟨h0,g0,d0,t0,o0⟩:=s
  have T0:=clsAt_ty (model prog w) h0 p
  have T1:=looks_findIn (M:=model prog w) X hg
  have T3:=looks_findIn (M:=model prog w) X hgg
  have TS:=looks_subIn (M:=model prog w) X hsb
  have f3:=F.excAttr_ValueError.ga.bind (.ref x)
  have hx2:(Value.builtin "BaseException.__getattribute__" == Value.builtin "object.__getattribute__")=false:=by decide +kernel
  have hx1:(onTheHeap (Value.ref D) && Value.builtin "BaseException.__getattribute__" == Value.builtin "object.__getattribute__")=false:=by rw [hx2];rfl
  unfold getAttr? getAttrBy? getAttrBy
  refine wpAny_bind (wpAny_mkText (wpAny_bind (wpAny_attempt (wpAny_holding (wpAny_bind (T0.at (wpAny_bind (T1.at ?_))))))))
  dsimp only
  rw [if_neg (by rw [hx1];exact Bool.false_ne_true)]
  unfold getAttrByItsOwn hookBefore
  rw [if_pos (show onTheHeap (Value.ref D)=true from rfl)]
  refine wpAny_bind (T3.at ?_)
  repeat (any_goals (first | assumption | wp_step | lk))
  refine codeAny_call_builtin F.excAttr_ValueError.ga.plain F.entry_bexc_ga (ga_check T0 TS (ga_entry (K:=K) X p ha hn htk hm ?_))
  repeat (any_goals (first | assumption | wp_step))
theorem kitx_exc (hg:findIn K (.ref D) "__getattribute__"=some (some (.builtin "BaseException.__getattribute__"))) (hgg:findIn K (.ref D) "__getattr__"=some none) (hsb:subIn K (.ref D) (.type "BaseException")=some true) (hd:hasDictIn K D=true) (ha:findIn K (.ref D) "__class__"=some (some (.builtin "object.__class__")))
    (hn:specialIn K (.builtin "object.__class__") "__get__"=some (some (.builtin "getset_descriptor.__get__"))) (htk:takesIn K (.builtin "object.__class__")=some true) (hm:mroIn K D (.type "object")=some true) :
    KitX K (.ref x) (.ref D) (ClsAt x D) where
  ty:=fun M h _ p=>clsAt_ty M h p
  it:=fun M h X _=>by
    obtain ⟨c,hc,_⟩:=any_some hd
    unfold clsIn at hc
    split at hc
    · rename_i u1 u2 u3 u4 ho
      intro A' Q' E' s' k q
      unfold isType loadHead;exact wpAny_bind (wpAny_loadPart (k _ _ (X _ _ ho)) (wpAny_pure q))
    · cases hc
  ne:=fun h tp dd its n sl X e=>by
    obtain ⟨c,hc,_⟩:=any_some hd
    refine Bool.eq_false_iff.mpr fun q=>?_
    obtain rfl:D=tp:=Value.ref.inj (beq_iff_eq.mp q)
    unfold clsIn at hc
    split at hc
    · rename_i u1 u2 u3 u4 ho
      have z:=(X _ _ ho).symm.trans e;cases z
    · cases hc
  ca:=fun X p k=>class_attr hg hgg hsb ha hn htk hm X p k
end
end My
namespace L2
open PySem PySem.Spec PyProof.Rows
section
variable {X:Cx} {pins:List (Addr×Obj)} {σ:St} {H H':Hp} {s s':Shared} {e C:Addr}
end
end L2
namespace L2
open PySem PySem.Spec PyProof.Rows
section
variable {X:Cx} {pins:List (Addr×Obj)} {σ:St} {H H':Hp} {s s':Shared} {e C:Addr}
end
end L2
namespace L2
open PySem PySem.Spec PyProof.Rows
section
variable {X:Cx} {pins:List (Addr×Obj)} {σ:St} {H H':Hp} {s s':Shared} {e C:Addr}
def excO (e C:Addr):HO:=.ext (My.ClsAt e C)
end
end L2
namespace L2
open PySem PySem.Spec PyProof.Rows
section
variable {X:Cx} {pins:List (Addr×Obj)} {σ σ₀:St} {H H':Hp} {s s':Shared} {R:Addr->Hp->Prop}
end
end L2
namespace L2
open PySem PySem.Spec PyProof.Rows
def xz (w:World) (K:PySem.W.Frag) (a:Addr):Prop:=∃ es n,K.lookup a=some ⟨.type "dict",none,.dict es n,#[]⟩/\PySem.W.KeysLit w.params es.toList
section
variable {X:Cx} {a:Addr} {ke:Expr} {tk:TE} {p pos:Pos} {D:Str}
theorem top_item {pins:List (Addr×Obj)} {σ:St} {H:Hp} {s:Shared} {x:Str} {t:Tok} {u:Value} {A:Around} {E:Value->Shared->Prop} {Q:Value->Shared->Prop} (I:Inv X pins σ H s) (T:xz X.w X.K a) (e:PySem.W.nsIn X.K a x=some (some u)) (h:Q u { s with toks:=s.toks+1 }) :
    wpAny (model X.prog X.w) A (getItem (.ref a) (.str x t)) Q E s:=by
  obtain ⟨es,n,hl,hk⟩:=T
  exact wpAny_getItem_of (strKind_is X.prog X.w x t) (PySem.W.mapOf_K (prog:=X.prog) I.kIn hl hk) (PySem.W.find_K hl e) h
theorem top_in {pins:List (Addr×Obj)} {σ:St} {H:Hp} {s:Shared} {x:Str} {t:Tok} {r:Option Value} {A:Around} {E:Value->Shared->Prop} {Q:Value->Shared->Prop} (I:Inv X pins σ H s) (T:xz X.w X.K a) (e:PySem.W.nsIn X.K a x=some r) (lo:(a == sysModules)=false) (h:Q (.bool r.isSome) { s with toks:=s.toks+1 }) :
    wpAny (model X.prog X.w) A (compareOp .In (.str x t) (.ref a)) Q E s:=by
  obtain ⟨es,n,hl,hk⟩:=T
  exact wpAny_in_of (strKind_is X.prog X.w x t) lo (PySem.W.mapOf_K (prog:=X.prog) I.kIn hl hk) (by rw [PySem.W.find_K hl e];exact h)
def rTopIn (w:World) (K:PySem.W.Frag):R2:=fun x y H Q=>∃ (k:Str) (a:Addr) (r:Option Value),x=.str k/\y=.ref a/\xz w K a/\(a == sysModules)=false/\PySem.W.nsIn K a k=some r/\Q (.bl r.isSome) H
theorem op_in_top:OpR X (compareOp .In) (rTopIn X.w X.K):=by
  intro pins s σ H x y v u Q I rx ry h
  obtain ⟨k,a,r,rfl,rfl,T,lo,e,q⟩:=h
  obtain ⟨t,rfl⟩:=(show ∃ t,v=Value.str k t from rx)
  cases (show u=Value.ref a from ry)
  exact top_in I T e lo ⟨.bl r.isSome,H,I.tok _,rfl,q⟩
def tCallV (P:Program) (w:World) (K:PySem.W.Frag) (mg:Str->Option Value) (base:Heap) (CX:CXT) (k:Nat) (E:XK) (tf:TE) (t:TA):TE:=fun σ H Q=>tf σ H fun x H1=>∃ (f:Addr) (fd:FuncData) (ps:List Str) (sp:Sp),x=.ref f/\FnOk P w K mg base CX k f fd ps sp/\PySem.W.keepIn K (.ref f)=true/\Binds K fd ps []/\t σ H1 fun vs H2=>sp vs H2 Q E
theorem pe_callV {CX:CXT} {k:Nat} {E:XK} {func e:Expr} {es:List Expr} {tf:TE} {t:TA} (hf:PE X func tf) (hr:Room k X.A) (hx:xA CX X E) (ha:PA X (e::es) t)
    (he:starEach (e::es) X.env=(false,eval e X.env)::starEach es X.env:=by rfl) (hpl:(backTo pos (starEach es X.env)).any (·.1)=false:=by rfl)
    (hc:eval (.Call func (e::es) [] pos) X.env=(do callWith pos (← eval func X.env) [] (backTo pos (starEach (e::es) X.env)) (backToKw pos (keywordEach [] X.env))):=by rfl) :
    PE X (.Call func (e::es) [] pos) (tCallV X.prog X.w X.K X.mg X.base CX k E tf t):=by
  intro pins s σ H Q I h
  refine Call_ (thn (hf pins s σ H _ I h) fun u s1 ⟨x,H1,I1,rx,f,fd,ps,sp,ex,F,hk,hb,q⟩=>?_) hc
  subst ex
  obtain rfl:u=Value.ref f:=rx
  refine PySem.W.callWith_K (h₀:=X.base) I.ok.mod.kin hk (thn (ha pos pins s1 σ H1 _ I1 q) fun us s2 ⟨vs,H2,I2,r,q2⟩=>⟨I2.kIn,?_⟩) he hpl
  exact run_fn (dvs:=[]) (ds:=[]) F hr hb .nil hx I2 r (by simpa using q2)
end
end L2
namespace L2
open PySem PySem.Spec PyProof.Rows
section
variable {X:Cx}
def rIxTop (w:World) (K:PySem.W.Frag):R2:=fun x y H Q=>∃ (a:Addr) (k:Str) (u:Value) (v:V),x=.ref a/\y=.str k/\xz w K a/\PySem.W.nsIn K a k=some (some u)/\RelV v u/\Q v H
theorem ix_top:IxR X (rIxTop X.w X.K):=by
  intro value slice pins s σ H x y v u Q I rx ry h hs
  obtain ⟨a,k,u',z,rfl,rfl,T,e,r,q⟩:=h
  cases (show v=Value.ref a from rx)
  obtain ⟨t,rfl⟩:=(show ∃ t,u=Value.str k t from ry)
  have T':=T
  obtain ⟨es,n,hl,hk⟩:=T'
  exact tail_any (PySem.W.mapOf_K (prog:=X.prog) I.kIn hl hk).typeIs slot_dict_getitem.lookup (top_item I T e ⟨z,H,I.tok _,r,q⟩) hs
structure ExcCls (K:PySem.W.Frag) (C:Addr):Prop where
  hg:PySem.W.findIn K (.ref C) "__getattribute__"=some (some (.builtin "BaseException.__getattribute__"))
  hgg:PySem.W.findIn K (.ref C) "__getattr__"=some none
  hsb:PySem.W.subIn K (.ref C) (.type "BaseException")=some true
  hd:PySem.W.hasDictIn K C=true
  ha:PySem.W.findIn K (.ref C) "__class__"=some (some (.builtin "object.__class__"))
  hn:PySem.W.specialIn K (.builtin "object.__class__") "__get__"=some (some (.builtin "getset_descriptor.__get__"))
  ht:PySem.W.takesIn K (.builtin "object.__class__")=some true
  hm:PySem.W.mroIn K C (.type "object")=some true
def TyX (K:PySem.W.Frag) (H:Hp) (x:V) (t:Value):Prop:=TyOf K H x t∨∃ e C,x=.ref e/\H e=some (excO e C)/\t=.ref C/\ExcCls K C
def rIsi (K:PySem.W.Frag):List V->Hp->VK->Prop:=fun vs H Q=>∃ (x c:V) (cv t:Value) (b:Bool),vs=[x,c]/\RelV c cv/\(∀ u,RelV c u->u=cv)/\TyX K H x t/\PySem.W.kitOne K t cv=some b/\Q (.bl b) H
theorem yG:CallR X (.builtin "isinstance") (rIsi X.K):=by
  intro pins s σ H xs us Q I r h
  obtain ⟨x,c,cv,t,b,rfl,rc,ic,ty,e,q⟩:=h
  obtain ⟨u,w',rfl,ru,rw'⟩:=vals2 r
  cases ic w' rw'
  rcases ty with ty | ⟨ea,C,rfl,he,rfl,ec⟩
  · exact isinst_ok I ru ty e fun tk=>⟨.bl b,H,I.tok _,rfl,q⟩
  · cases (show u=Value.ref ea from ru)
    obtain ⟨p,_⟩:=(show ObjOk X.prog X.w H s.heap ea (excO ea C) from I.hok ea _ he)
    exact PySem.W.kia_one (My.kitx_exc ec.hg ec.hgg ec.hsb ec.hd ec.ha ec.hn ec.ht ec.hm) I.kIn p e (fun z=>nomatch z) fun tk=>⟨.bl b,H,I.tok _,rfl,q⟩
end
theorem passF {P:Program} {w:World} {base:Heap} {X:Cx}:xA (CXe P w base) X E0:=fun _ _ _ _ _ _ _ h=>by
  obtain ⟨_,_,_,_,_,_,_,_,_,q⟩:=h
  exact q.elim
section
variable {P:Program} {w:World} {K:PySem.W.Frag} {mg:Str->Option Value} {base:Heap}
theorem Fun.okE {x qual:Str} {st:Stmt} {f:Addr} {fd:FuncData} {N ps:List Str} {k:Nat} {sp:Sp} (F:Fun K x qual st f fd) (S:FnScope N ps (zd st)) (len:∀ vs H Q E,sp vs H Q E->vs.length=ps.length)
    (hbody:∀ (cdv:Value) (A:Around) (outer:List Env) (s:Shared) (H:Hp) (vs:List V) (Q:VK) (E:XK),Room k (A.deeper (envOfC qual (zd st) s.heap.objs.size f cdv))->sp vs H Q E ->
      ∃ t,PSs (yt (CXe P w base) P w K mg base N qual (zd st) f cdv A outer s H E) (zj st) t/\t { nx:=fun _ H'=>Q .non H',rt:=Q } (start N vs) H):FnOk P w K mg base (CXe P w base) (k+1) f fd ps sp:=by
  obtain ⟨oc,od,kV,doc,pm,an,cdv,ct,osl,rfl,lk,hcd⟩:=F.ex
  exact fn_of lk hcd S len fun A outer s H vs Q E hr hsp=>hbody cdv A outer s H vs Q E hr hsp
def zn (K:PySem.W.Frag) (mg:Str->Option Value) (x:Str) (st:Stmt) (ps:List Str):Prop:=∃ (f:Addr) (fd:FuncData),mg x=some (.ref f)/\Fun K x x st f fd/\Binds K fd ps []
theorem zp {h:Heap} {x:Str} {st:Stmt} {ps:List Str} {f:Addr} {oc:Value} {od an:Option Addr} {osl:Array (Option Value)} {kV doc pm cdv ct:Value} (X:K.In h) (G:h.Ns mainGlobals mg)
    (a:PySem.W.nsIn K mainGlobals x=some (some (.ref f))) (l:K.lookup f=some ⟨oc,od,.func (PySem.W.fnOf x x (zk st) (zj st) (zd st) .none kV doc pm an cdv ct),osl⟩)
    (c:PySem.W.codeIn K cdv x=true) (k:PySem.W.keepIn K (.ref f)=true)
    (b:∀ (kV doc pm:Value) (an:Option Addr) (cdv ct:Value) (us:List Value),us.length=ps.length->bindArgs (PySem.W.fnOf x x (zk st) (zj st) (zd st) .none kV doc pm an cdv ct) ⟨us,[]⟩=pure (ps.zip us)):zn K mg x st ps :=
  ⟨f,_,PySem.W.mg_of X G a,zO l c k,(zO l c k).binds b⟩
def Ok (P:Program) (w:World) (K:PySem.W.Frag) (mg:Str->Option Value) (base:Heap) (CX:CXT) (k:Nat) (x:Str) (ps:List Str) (sp:Sp):Prop :=
  ∃ (f:Addr) (fd:FuncData),mg x=some (.ref f)/\PySem.W.keepIn K (.ref f)=true/\Binds K fd ps []/\FnOk P w K mg base CX k f fd ps sp
theorem Ok.mono {CX:CXT} {j k:Nat} {x:Str} {ps:List Str} {sp:Sp} (o:Ok P w K mg base CX j x ps sp) (h:j<=k):Ok P w K mg base CX k x ps sp:=by
  obtain ⟨f,fd,a,b,c,d⟩:=o
  exact ⟨f,fd,a,b,c,d.mono h⟩
end
theorem zD {X:Cx} {CX:CXT} {k:Nat} {x:Str} {ps:List Str} {sp:Sp} {E:XK} {p pos:Pos} {e:Expr} {es:List Expr} {t:TA} (o:Ok X.prog X.w X.K X.mg X.base CX k x ps sp) (hr:Room k X.A) (hg:Gl X x) (hx:xA CX X E) (ha:PA X (e::es) t)
    (hdb:(x == ("__debug__":Str))=false:=by decide) (he:starEach (e::es) X.env=(false,eval e X.env)::starEach es X.env:=by rfl) (hpl:(backTo pos (starEach es X.env)).any (·.1)=false:=by rfl) :
    PE X (.Call (.Name x p) (e::es) [] pos) (tCall sp [] E t):=by
  obtain ⟨f,fd,a,b,c,d⟩:=o
  exact pe_call d hr hg a b c .nil hx ha hdb he hpl
end L2
namespace L2
open PySem PySem.Spec PyProof.Rows
theorem ints_of:∀ {ns:List Int} {us:List Value},Vals (ns.map V.int) us->IntsAre us ns
  | [],_,.nil=>.nil
  | n::ns,_,.cons ⟨t,e⟩ r=>by subst e;exact .cons n t (ints_of r)
section
variable {X:Cx}
theorem op_fdivB:OpR X (binaryOp .FloorDiv) (rI (fun _ j=>j≠0/\-18446744073709551616<j/\j<18446744073709551616) fun i j=>.int (i.fdiv j)):=opI fun i j _ _ _ _ _ hc q=>floordiv_int hc.1 q (.inl (PyProof.noPylong_of_log2 (by
  have h64:j.natAbs<2 ^ 65:=by omega
  have:=(Nat.log2_lt (by omega:j.natAbs≠0)).mpr h64
  omega)))
end
def sp1 (g:Int->V):Sp:=fun vs H Q _=>∃ n,vs=[.int n]/\Q (g n) H
def sp2 (C:Int->Int->Prop) (g:Int->Int->Int):Sp:=fun vs H Q _=>∃ a b,vs=[.int a,.int b]/\C a b/\Q (.int (g a b)) H
theorem len1 {g:Int->V}:∀ vs H Q E,sp1 g vs H Q E->vs.length=1:=fun vs H Q E ⟨n,e,_⟩=>by rw [e];rfl
theorem len2 {C:Int->Int->Prop} {g:Int->Int->Int}:∀ vs H Q E,sp2 C g vs H Q E->vs.length=2:=fun vs H Q E ⟨a,b,e,_⟩=>by rw [e];rfl
end L2
namespace L2
open PySem PySem.Spec PyProof.Rows
theorem pe_gint {X:Cx} {x:Str} {i:Int} {t:Tok} {pos:Pos} (hm:X.mg x=some (.int i t)) (hg:Gl X x:=by rfl) (hd:(x == ("__debug__":Str))=false:=by decide):PE X (.Name x pos) (tC (.int i)):=pe_glob hg hm (v:=.int i) ⟨_,rfl⟩ hd
theorem pe_gref {X:Cx} {x:Str} {a:Addr} {pos:Pos} (hm:X.mg x=some (.ref a)) (hg:Gl X x:=by rfl) (hd:(x == ("__debug__":Str))=false:=by decide):PE X (.Name x pos) (tC (.ref a)):=pe_glob hg hm (v:=.ref a) rfl hd
theorem pe_bty {X:Cx} {x:Str} {n:String} {pos:Pos} (hm:X.mg x=none) (hv:bootBuiltins x=some (.type n)) (hg:Gl X x:=by rfl) (hn:x≠"__name__":=by decide) (hd:(x == ("__debug__":Str))=false:=by decide):PE X (.Name x pos) (tC (.ty n)):=pe_bltn hg hm hv (v:=.ty n) rfl hn hd
end L2
namespace L2
open PySem PySem.Spec PyProof.Rows
abbrev Cx.comp (X:Cx) (scope:Scope) (cl:List (Str×Addr)) (NY:List Str) (s3:Shared) (H3:Hp) (fp:List Addr):Cx :=
  { X with N:=NY,s₀:=s3,H₀:=H3,env:=compEnvC scope cl s3.heap.objs.size X.env,outer:=X.stack,ex:=fp,fn:=fun _=>false,pn:=[],xe:=fun _ _=>False }
structure Sees (X:Cx) (scope:Scope) (cl:List (Str×Addr)):Prop where
  kind:scope.kind=.function
  clos:closureFor scope X.env=pure cl
  nocell:∀ y∈scope.names,y.2≠.cell
  names:∀ y∈scope.names,y.2=.local->scope.names.lookup y.1=some .local
  sub:∀ x c,cl.lookup x=some c->X.env.cells.lookup x=some c
  has:∀ x,((compEnvC scope cl 0 X.env).kindOf x=some .cell∨(compEnvC scope cl 0 X.env).kindOf x=some .free)->∃ c,cl.lookup x=some c
section
variable {X:Cx} {pins:List (Addr×Obj)} {σ:St} {H3:Hp} {s3:Shared} {scope:Scope} {cl:List (Str×Addr)} {NY:List Str} {fp:List Addr}
theorem comp_ok (I:Inv X pins σ H3 s3) (S:Sees X scope cl) (hfp:∀ b∈fp,FpOk X pins H3 b) (hob:∀ b∈fp,∃ o,s3.heap.get? b=some o):(X.comp scope cl NY s3 H3 fp).Ok where
  mod:=I.ok.mod
  kind:=S.kind
  glob:=I.ok.glob
  blt:=I.ok.blt
  above:=Nat.le_refl _
  inj:=fun x y c a b=>I.ok.inj x y c (S.sub _ _ a) (S.sub _ _ b)
  has:=fun x h=>S.has x h
  cab:=fun _ _ h=>nomatch h
  hd:=I.ok.hd
  frames:=I.ok.frames
  stk:=.inl rfl
  exf:=fun b hb=>⟨fun z=>by
    obtain ⟨o,q⟩:=hob b hb
    exact absurd (Heap.lt_size q) (by rw [z];exact Nat.lt_irrefl _),fun x c q=>(hfp b hb).2.2.2.2.1 x c (S.sub _ _ q)⟩
  bs:=I.bs
  bsz:=Nat.le_trans I.ok.bsz I.sz
  noex:=fun b o q hb=>by
    rcases (hfp b hb).2.2.2.1 with z | z
    · exact I.ok.noex b o q z
    · exact absurd (Nat.lt_of_lt_of_le (Heap.lt_size q) (Nat.le_trans I.ok.bsz z)) (Nat.lt_irrefl _)
  exfs:=fun b hb z=>by
    rcases List.mem_cons.mp (I.stkSub b z) with y | y
    · exact (hfp b hb).2.1 y
    · exact (hfp b hb).2.2.1 y
  funs:=I.stack
  frf:=I.stkFree
theorem comp_inv {h1:Heap} {t:Nat} {σY:St} (I:Inv X pins σ H3 s3) (S:Sees X scope cl) (hfp:∀ b∈fp,FpOk X pins H3 b) (hob:∀ b∈fp,∃ o,s3.heap.get? b=some o)
    (hn:h1.Ns s3.heap.objs.size fun _=>none) (hk:∀ b o,s3.heap.get? b=some o->h1.get? b=some o) (hl:σY.length=NY.length)
    (hσ:∀ (i:Nat) (x:Str) (v:V),NY[i]?=some x->σY[i]?=some (some v)->∃ c u,(((compEnvC scope cl 0 X.env).kindOf x=some .cell∨(compEnvC scope cl 0 X.env).kindOf x=some .free))/\cl.lookup x=some c/\RelV v u/\s3.heap.IsCell c (some u)) :
    Inv (X.comp scope cl NY s3 H3 fp) [] σY H3 { s3 with heap:=h1,toks:=t } where
  ok:=comp_ok I S hfp hob
  os:=rfl
  bare:=I.bare
  base:=Un.kept hk
  loc:=⟨_,hn,fun i x v e1 e2 _=>by
    obtain ⟨c,u,k,q,r,z⟩:=hσ i x v e1 e2
    obtain ⟨o,z1,z2⟩:=z
    exact ⟨u,r,.inr ⟨k,c,q,o,hk _ _ z1,z2⟩⟩⟩
  cell:=fun x c q=>by
    obtain ⟨v,o,z1,z2⟩:=I.cell x c (S.sub _ _ q)
    exact ⟨v,o,hk _ _ z1,z2⟩
  free:=I.hok.fresh (Nat.le_refl _)
  freeC:=fun x c q=>I.freeC x c (S.sub _ _ q)
  pin:=fun p hp=>absurd hp (by simp)
  hok:=I.hok.kept hk
  len:=hl
theorem comp_back {Y:List (Addr×Obj)} {σY:St} {H':Hp} {s':Shared} {h':Heap} (I:Inv X pins σ H3 s3) (hfp:∀ b∈fp,FpOk X pins H3 b) (J:Inv (X.comp scope cl NY s3 H3 fp) Y σY H' s') (hs:Heap.SameBut s3.heap.objs.size s'.heap h') :
    Inv X pins σ H' { s' with heap:=h' }:=by
  have ne:∀ b o,s3.heap.get? b=some o->b≠s3.heap.objs.size:=fun b o q=>Nat.ne_of_lt (Heap.lt_size q)
  have B:=J.base
  refine I.call' (s':={ s' with heap:=h' }) (ch:=fp) J.os ⟨fun b o q n hb hx=>?_,fun b o q n hb hx=>?_,B.free,fun b o q hx=>?_,B.tups,B.frzs,B.tbls⟩ (fun b o q=>?_) J.bare fun b hb=>?_
  · exact (hs.2 b (ne b o q)).trans (B.keep b o q n hb hx)
  · obtain ⟨sl,z⟩:=B.slot b o q n hb hx
    exact ⟨sl,(hs.2 b (ne b o q)).trans z⟩
  · obtain ⟨o',z⟩:=B.there b o q hx
    exact ⟨o',(hs.2 b (ne b o q)).trans z⟩
  · have hf:H' s3.heap.objs.size=none:=J.free
    refine (J.hok b o q).stay (fun c v hc r=>(hs.2 c ?_).trans r) (fun _ z=>z) fun _ _ z=>z
    rintro rfl
    rcases hc with z | z
    · rw [← z,hf] at q;cases q
    · rw [hf] at z;cases z
  · obtain ⟨_,f2,_,f4,f5,f6⟩:=hfp b hb
    exact ⟨f4,f2,f5,f6⟩
end
end L2
namespace L2
open PySem PySem.Spec PyProof.Rows
section
variable {prog:Program} {w:World} {A:Around} {R:Result->Shared->Prop} {s:Shared}
theorem comp_loop {elt target iter:Expr} {scope:Scope} {pos:Pos} {it acc:Value} {env:Env} (I:Nat->Shared->Prop)
    (turn:∀ n s,I n s->wpAny (model prog w) A (pyNext it) (fun r s₁=>match r with
      | none=>R (.ok .next) s₁
      | some v=>wpAny (model prog w) A (letOwnedTupleGo target it v) (fun _ s₂=>wpAny (model prog w) A (assign target env v) (fun _ s₃=>wpAny (model prog w) A (eval elt env) (fun x s₄ =>
          wpAny (model prog w) A (call (.builtin "list.append") [acc,x]) (fun _ s₅=>∃ m,m<n/\I m s₅) (fun _ _=>False) s₄) (fun _ _=>False) s₃) (fun _ _=>False) s₂) (fun _ _=>False) s₁) (fun _ _=>False) s)
    (n:Nat) (h:I n s):codeAny (model prog w) A (.compLoop (.ListComp elt [⟨target,iter,[],0⟩] scope pos) 0 it acc env) R s:=by
  refine codeAny_loop rfl I (fun n s hI=>?_) n h
  show wpAny _ _ ((compTurn (.ListComp elt [⟨target,iter,[],0⟩] scope pos) 0 it acc env).onRaise (fun x=>do noteFrame x env;theTreesLotGoes x)) _ _ s
  refine wpAny_noted ?_
  rw [compTurn_list1]
  refine wpAny_bind (wpAny_standAt (wpAny_bind (wpAny_mono (turn n s hI) (fun r s₁ h₁=>?_) fun _ _ z=>z.elim)))
  cases r with
  | none=>exact wpAny_pure h₁
  | some v =>
    refine wpAny_bind (wpAny_mono h₁ (fun _ s₂ h₂=>?_) fun _ _ z=>z.elim)
    refine wpAny_bind (wpAny_mono h₂ (fun _ s₃ h₃=>?_) fun _ _ z=>z.elim)
    refine wpAny_bind (wpAny_bind (wpAny_mono h₃ (fun x s₄ h₄=>?_) fun _ _ z=>z.elim))
    exact wpAny_bind (wpAny_mono h₄ (fun _ s₅ h₅=>wpAny_pure (wpAny_pure ⟨rfl,h₅⟩)) fun _ _ z=>z.elim)
end
def CompW (J:It) (g:TG) (te:TE) (σY:St) (H1:Hp) (D:Addr) (Q:VK):Prop:=∃ W:Nat->Nat->St->Hp->Prop,(∃ m,W 0 m σY H1)/\∀ i m σ' H',W i m σ' H' ->
  (J.stop i H'/\Q (.ref D) H')∨(J.go i H'/\∃ N:St->Hp->Prop,(∀ σ2 H2,N σ2 H2->∃ m',m'<m/\W (i+1) m' σ2 H2) /\
    ∀ x H2,J.yld i H' x H2->g x σ' H2 fun σ3 H3=>te σ3 H3 fun v H4=>∃ xs,H4 D=some (.lst xs)/\xs.length<sizeLine/\N σ3 (upd H4 D (.lst (xs++[v]))))
def tComp (wi:TI) (g:TG) (te:TE) (σ0:St->Hp->St->Prop):TE:=fun σ H Q=>wi σ H fun J H1=>∃ σY,σ0 σ H1 σY/\∀ D,H1 D=none->CompW J g te σY (upd H1 D (.lst [])) D Q
section
variable {X:Cx} {tg:Expr}
structure CompEnd (X:Cx) (pins:List (Addr×Obj)) (σ:St) (H5:Hp) (s6:Shared) (C:Addr):Prop where
  ns:∃ m,s6.heap.Ns C m
  hn:H5 C=none
  hL:C≠X.env.locals
  h1:X.s₀.heap.objs.size<=C
  h2:∀ x c,X.env.cells.lookup x=some c->c≠C
  h3:∀ p∈X.pn++pins,p.1≠C
  inv:∀ h',Heap.SameBut C s6.heap h'->Inv X pins σ H5 { s6 with heap:=h' }
theorem comp_core {iter elt:Expr} {scope:Scope} {pos pos':Pos} {cl:List (Str×Addr)} {NY:List Str} {wi:TI} {g:TG} {te:TE} {σ0:St->Hp->St->Prop} (hc:X.calm=true) (S:Sees X scope cl) (hi:PI X tg iter wi)
    (hY:∀ (s3:Shared) (H3:Hp) (fp:List Addr),PG (X.comp scope cl NY s3 H3 fp) tg g/\PE (X.comp scope cl NY s3 H3 fp) elt te)
    (h0:∀ (pins:List (Addr×Obj)) (σ:St) (H:Hp) (s3:Shared) (σY:St),Inv X pins σ H s3->σ0 σ H σY->σY.length=NY.length/\∀ (i:Nat) (x:Str) (v:V),NY[i]?=some x->σY[i]?=some (some v) ->
      ∃ c u,(((compEnvC scope cl 0 X.env).kindOf x=some .cell∨(compEnvC scope cl 0 X.env).kindOf x=some .free))/\cl.lookup x=some c/\RelV v u/\s3.heap.IsCell c (some u))
    (hs:∀ x,foldedSetIterable iter X.env x=pure x) {use:Option (Value->Sem Unit)} {R:Value->Shared->Prop} {pins:List (Addr×Obj)} {s:Shared} {σ:St} {H:Hp} {Q:VK} (I:Inv X pins σ H s) (h:tComp wi g te σ0 σ H Q)
    (fin:∀ (C D:Addr) (H5:Hp) (s6:Shared),CompEnd X pins σ H5 s6 C->Q (.ref D) H5->compPost (model X.prog X.w) X.A X.xe use R (.ref D) C (.ok .next) s6) :
    wpAny (model X.prog X.w) X.A (comprehension (.ListComp elt [⟨tg,iter,[],0⟩] scope pos) scope X.env pos' (newList []) (firstAsync [⟨tg,iter,[],0⟩]) (firstIter [⟨tg,iter,[],0⟩] X.env) use) R X.xe s:=by
  refine wpAny_comprehension_free rfl hs S.clos S.kind S.names (thn (hi pins s σ H _ I h) fun v s1 h1=>thn h1 fun itv s2 h2=>?_)
  obtain ⟨it,fp,tn,J,H2,e,I2,T,st2,f2,σY,hσ,hW⟩:=h2
  subst e
  refine wpAny_newObj_type ?_
  have I3:Inv X pins σ (upd H2 s2.heap.objs.size (.lst [])) { s2 with heap:=s2.heap.push { cls:=.type "list",data:=.seq ([]:List Value).toArray } }:=I2.lnew (t':=s2.toks) (its:=[]) .nil (Nat.zero_le _)
  obtain ⟨W,⟨m0,w0⟩,turn⟩:=hW s2.heap.objs.size (I2.hok.fresh (Nat.le_refl _))
  have ob2:=T.obj _ _ st2
  have hfp:∀ b∈fp,FpOk X pins (upd H2 s2.heap.objs.size (.lst [])) b:=fun b hb=>by
    obtain ⟨o,q,_⟩:=ob2 b hb
    exact ⟨by rw [zo (Nat.ne_of_lt (Heap.lt_size q))];exact (f2 b hb).1,(f2 b hb).2⟩
  have hob:∀ b∈fp,∃ o,(s2.heap.push { cls:=.type "list",data:=.seq ([]:List Value).toArray }).get? b=some o:=fun b hb=>by
    obtain ⟨o,q,_⟩:=ob2 b hb
    exact ⟨o,Heap.get?_push_of_some _ q⟩
  refine wpAny_newFunctionEnv S.nocell (fun y hy=>absurd hy (by simp)) (fun h1 hn1 hs1=>?_) S.kind
  obtain ⟨hl,hY0⟩:=h0 pins σ H2 s2 σY I2 hσ
  have k23:∀ b o,s2.heap.get? b=some o->(s2.heap.push { cls:=.type "list",data:=.seq ([]:List Value).toArray }).get? b=some o:=fun b o q=>Heap.get?_push_of_some _ q
  have k34:∀ b o,(s2.heap.push { cls:=.type "list",data:=.seq ([]:List Value).toArray }).get? b=some o->h1.get? b=some o:=fun b o q=>(hs1.2 b (Nat.ne_of_lt (Heap.lt_size q))).trans (Heap.get?_push_of_some _ q)
  have I4:=comp_inv (scope:=scope) (cl:=cl) (NY:=NY) (fp:=fp) (h1:=h1) (t:=s2.toks) (σY:=σY) I3 S hfp hob hn1 k34 hl fun i x v e1 e2=>by
    obtain ⟨c,u,k,q,r,o,z1,z2⟩:=hY0 i x v e1 e2
    exact ⟨c,u,k,q,r,o,k23 _ _ z1,z2⟩
  have st4:tn 0 h1:=T.keep _ _ _ st2 fun b hb o q=>k34 _ _ (k23 _ _ q)
  have fr4:∀ b∈fp,(upd H2 s2.heap.objs.size (.lst [])) b=none:=fun b hb=>(hfp b hb).1
  obtain ⟨hg,he⟩:=hY { s2 with heap:=s2.heap.push { cls:=.type "list",data:=.seq ([]:List Value).toArray } } (upd H2 s2.heap.objs.size (.lst [])) fp
  have okY:=I4.ok
  have statY:∀ {H':Hp},(∀ b∈fp,H' b=none)->∀ b∈fp,FpOk (X.comp scope cl NY { s2 with heap:=s2.heap.push { cls:=.type "list",data:=.seq ([]:List Value).toArray } } (upd H2 s2.heap.objs.size (.lst [])) fp) [] H' b :=
    fun hn b hb=>⟨hn b hb,(okY.exf b hb).1,okY.exfs b hb,.inl hb,(okY.exf b hb).2,fun p hp=>absurd hp (by simp)⟩
  have loop:codeAny (model X.prog X.w) X.A (.compLoop (.ListComp elt [⟨tg,iter,[],0⟩] scope pos) 0 (.ref it) (.ref s2.heap.objs.size) (compEnvC scope cl (s2.heap.push { cls:=.type "list",data:=.seq ([]:List Value).toArray }).objs.size X.env))
      (compPost (model X.prog X.w) X.A X.xe use R (.ref s2.heap.objs.size) (s2.heap.push { cls:=.type "list",data:=.seq ([]:List Value).toArray }).objs.size) { s2 with heap:=h1,toks:=s2.toks }:=by
    refine comp_loop (fun n s'=>∃ i σ' H',Inv (X.comp scope cl NY { s2 with heap:=s2.heap.push { cls:=.type "list",data:=.seq ([]:List Value).toArray } } (upd H2 s2.heap.objs.size (.lst [])) fp) [] σ' H' s'/\tn i s'.heap/\(∀ b∈fp,H' b=none)/\W i n σ' H') ?_ m0 ⟨0,σY,_,I4,st4,fr4,w0⟩
    rintro n s5 ⟨i,σ5,H5,I5,st5,fr5,w5⟩
    rcases turn i n σ5 H5 w5 with ⟨stop,q⟩ | ⟨go,N,hN,step⟩
    · refine thn (T.done (X.comp scope cl NY { s2 with heap:=s2.heap.push { cls:=.type "list",data:=.seq ([]:List Value).toArray } } (upd H2 s2.heap.objs.size (.lst [])) fp) rfl rfl rfl hc i [] s5 σ5 H5 _ I5 (statY fr5) st5 stop) fun r s6 ⟨hr,I6⟩=>?_
      subst hr
      obtain ⟨m,hm,_⟩:=I6.loc
      refine fin _ _ H5 s6 ⟨⟨m,hm⟩,I6.free,Ne.symm (Nat.ne_of_lt I3.lt),I3.sz,fun x c z=>?_,fun p hp=>?_,fun h' hs'=>comp_back I3 hfp I6 hs'⟩ q
      · obtain ⟨_,o,z1,_⟩:=I3.cell x c z
        exact Nat.ne_of_lt (Heap.lt_size z1)
      · exact Nat.ne_of_lt (Heap.lt_size (I3.pin p hp).1)
    · refine thn (T.item (X.comp scope cl NY { s2 with heap:=s2.heap.push { cls:=.type "list",data:=.seq ([]:List Value).toArray } } (upd H2 s2.heap.objs.size (.lst [])) fp) rfl rfl rfl hc i [] s5 σ5 H5 _ I5 (statY fr5) st5 go) fun r s6 ⟨u,hr,h6⟩=>?_
      subst hr
      refine thn h6 fun _ s7 ⟨x,H7,I7,r7,y7,st7,fr7⟩=>?_
      have I7':=I7.pinned (statY fr7) (T.obj _ _ st7)
      refine thn (hg _ s7 σ5 H7 x u _ I7' r7 (step x H7 y7)) fun _ s8 ⟨σ8,H8,I8,q8⟩=>?_
      refine thn (he _ s8 σ8 H8 _ I8 q8) fun z s9 ⟨v9,H9,I9,r9,xs,hx9,hz9,n9⟩=>?_
      refine thn (yO _ s9 σ8 H9 (.ref s2.heap.objs.size) [v9] (.ref s2.heap.objs.size) [z] (fun _ H'=>H'=upd H9 s2.heap.objs.size (.lst (xs++[v9]))) I9 rfl (.cons r9 .nil) ⟨s2.heap.objs.size,xs,v9,rfl,rfl,hx9,hz9,rfl⟩) fun y s10 ⟨v10,H10,I10,_,e10⟩=>?_
      subst e10
      obtain ⟨m',hm,w10⟩:=hN _ _ n9
      refine ⟨m',hm,i+1,σ8,_,I10.unpinned,T.keep _ _ _ st7 fun b hb o q=>(I10.pin (b,o) (List.mem_append_right _ (List.mem_append_right _ (xH hb q)))).1,fun b hb=>?_,w10⟩
      obtain ⟨o,q,d⟩:=T.obj _ _ st7 b hb
      exact (I10.pin (b,o) (List.mem_append_right _ (List.mem_append_right _ (xH hb q)))).2.1
  exact codeAny_compStart_list loop (T.self _ 0 _ _ _ st4 loop)
theorem pe_comp {iter elt:Expr} {scope:Scope} {pos:Pos} {cl:List (Str×Addr)} {NY:List Str} {wi:TI} {g:TG} {te:TE} {σ0:St->Hp->St->Prop} (hc:X.calm=true) (S:Sees X scope cl) (hi:PI X tg iter wi)
    (hY:∀ (s3:Shared) (H3:Hp) (fp:List Addr),PG (X.comp scope cl NY s3 H3 fp) tg g/\PE (X.comp scope cl NY s3 H3 fp) elt te)
    (h0:∀ (pins:List (Addr×Obj)) (σ:St) (H:Hp) (s3:Shared) (σY:St),Inv X pins σ H s3->σ0 σ H σY->σY.length=NY.length/\∀ (i:Nat) (x:Str) (v:V),NY[i]?=some x->σY[i]?=some (some v) ->
      ∃ c u,(((compEnvC scope cl 0 X.env).kindOf x=some .cell∨(compEnvC scope cl 0 X.env).kindOf x=some .free))/\cl.lookup x=some c/\RelV v u/\s3.heap.IsCell c (some u))
    (hs:∀ x,foldedSetIterable iter X.env x=pure x:=by intro _;rfl) :
    PE X (.ListComp elt [⟨tg,iter,[],0⟩] scope pos) (tComp wi g te σ0):=by
  intro pins s σ H Q I h
  rw [eval_ListComp]
  refine comp_core (use:=none) hc S hi hY h0 hs I h fun C D H5 s6 e q=>?_
  obtain ⟨m,hm⟩:=e.ns
  exact ⟨m,hm,fun h' hs'=>⟨.ref D,H5,e.inv h' hs',rfl,q⟩⟩
theorem ps_comp {iter elt:Expr} {scope:Scope} {pos pos' spos:Pos} {cl:List (Str×Addr)} {NY:List Str} {wi:TI} {g:TG} {te:TE} {σ0:St->Hp->St->Prop} {i:Nat} {y:Str} (hc:X.calm=true) (S:∀ {pins σ H s},Inv X pins σ H s->Sees X scope cl) (hi:PI X tg iter wi)
    (hY:∀ (s3:Shared) (H3:Hp) (fp:List Addr),PG (X.comp scope cl NY s3 H3 fp) tg g/\PE (X.comp scope cl NY s3 H3 fp) elt te)
    (h0:∀ (pins:List (Addr×Obj)) (σ:St) (H:Hp) (s3:Shared) (σY:St),Inv X pins σ H s3->σ0 σ H σY->σY.length=NY.length/\∀ (i:Nat) (x:Str) (v:V),NY[i]?=some x->σY[i]?=some (some v) ->
      ∃ c u,(((compEnvC scope cl 0 X.env).kindOf x=some .cell∨(compEnvC scope cl 0 X.env).kindOf x=some .free))/\cl.lookup x=some c/\RelV v u/\s3.heap.IsCell c (some u))
    (hs:∀ x,foldedSetIterable iter X.env x=pure x) (hN:X.N.Nodup) (hi':X.N[i]?=some y) (hx:Loc X.env.scope y) (hf:X.fn y=true∨X.env.scope.names.lookup y=some .local)
    (hw:swapsWith (.ListComp elt [⟨tg,iter,[],0⟩] scope pos) (some (.Name y pos')) spos.line X.env=pure true):PS X (.Assign [.Name y pos'] (.ListComp elt [⟨tg,iter,[],0⟩] scope pos) spos) (tAsg (tComp wi g te σ0) (gName i)):=by
  intro pins s σ H D I h
  rw [exec_Assign_Name_used _ _ _ _ hw,arm_evalThenUse_ListComp]
  refine wpAny_bind (wpAny_standAt (wpAny_bind (wpAny_bind (wpAny_mono (comp_core (use:=some (assign (.Name y pos') X.env)) (R:=fun _ s'=>SP X pins D .next s') hc (S I) hi hY h0 hs I h fun C L H5 s6 e q=>?_) (fun _ s' z=>wpAny_pure (wpAny_pure z)) fun _ _ z=>z))))
  obtain ⟨m,hm⟩:=e.ns
  have I6:Inv X pins σ H5 s6:=e.inv s6.heap ⟨rfl,fun _ _=>rfl⟩
  refine wpAny_assign_Name (store_ok2 I6 hN hi' hx (v:=.ref L) rfl (fun s' I' ⟨a,sb,ha⟩=>?_) hf)
  have ne:C≠a:=by
    rintro rfl
    rcases ha with z | z
    · exact e.hL z
    · exact e.h2 _ _ z rfl
  refine ⟨m,?_,fun h' hs'=>?_⟩
  · obtain ⟨o,es,ep,z,r⟩:=hm
    exact ⟨o,es,ep,(sb.2 _ ne).trans z,r⟩
  · exact ⟨_,H5,I'.turned (t':=s'.toks) (it:=C) (fun b o nb z=>(hs'.2 b nb).trans z) e.hn e.hL (.inr e.h1) e.h2 e.h3,q⟩
end
end L2
namespace L2
open PySem PySem.Spec PyProof.Rows
theorem comp_list {K:PySem.W.Frag} {a D:Addr} {xs:List V} {g:TG} {te:TE} {σY:St} {H1:Hp} {Q:VK} (Pv:Nat->St->Hp->Prop) (h0:Pv 0 σY H1) (hl:∀ i σ H,i<=xs.length->Pv i σ H->SqL K H a xs)
    (hs:∀ i x σ H,xs[i]?=some x->Pv i σ H->g x σ H fun σ3 H3=>te σ3 H3 fun v H4=>∃ ys,H4 D=some (.lst ys)/\ys.length<sizeLine/\Pv (i+1) σ3 (upd H4 D (.lst (ys++[v])))) (hd:∀ σ H,Pv xs.length σ H->Q (.ref D) H) :
    CompW (Itl K a) g te σY H1 D Q:=by
  refine ⟨fun i m σ H=>m=xs.length-i/\i<=xs.length/\Pv i σ H,⟨xs.length,by simp,Nat.zero_le _,h0⟩,?_⟩
  rintro i m σ H ⟨rfl,hi,p⟩
  have q:=hl i σ H hi p
  by_cases hlt:i<xs.length
  · refine .inr ⟨⟨xs,xs[i],q,by simp [hlt]⟩,Pv (i+1),fun σ' H' p'=>⟨xs.length-(i+1),by omega,rfl,hlt,p'⟩,fun x H' y=>?_⟩
    obtain ⟨e,y⟩:=y
    subst e
    exact hs i x σ _ (y xs q) p
  · have e:i=xs.length:=by omega
    subst e
    exact .inl ⟨⟨xs,q,Nat.le_refl _⟩,hd σ H p⟩
theorem xj {lo:Int} {n:Nat} {D:Addr} {g:TG} {te:TE} {σY:St} {H1:Hp} {Q:VK} (Pv:Nat->St->Hp->Prop) (h0:Pv 0 σY H1)
    (hs:∀ i σ H,i<n->Pv i σ H->g (.int (lo+i)) σ H fun σ3 H3=>te σ3 H3 fun v H4=>∃ ys,H4 D=some (.lst ys)/\ys.length<sizeLine/\Pv (i+1) σ3 (upd H4 D (.lst (ys++[v])))) (hd:∀ σ H,Pv n σ H->Q (.ref D) H) :
    CompW (Itr lo n) g te σY H1 D Q:=by
  refine ⟨fun i m σ H=>m=n-i/\i<=n/\Pv i σ H,⟨n,by simp,Nat.zero_le _,h0⟩,?_⟩
  rintro i m σ H ⟨rfl,hi,p⟩
  by_cases hlt:i<n
  · refine .inr ⟨hlt,Pv (i+1),fun σ' H' p'=>⟨n-(i+1),by omega,rfl,hlt,p'⟩,fun x H' y=>?_⟩
    obtain ⟨e,y⟩:=y
    subst e y
    exact hs i σ _ hlt p
  · have e:i=n:=by omega
    subst e
    exact .inl ⟨Nat.le_refl _,hd σ H p⟩
end L2
namespace L2
open PySem PySem.Spec PyProof.Rows
def clGo (env:Env):List (Str×NameKind)->List (Str×Addr)->List (Str×Addr)
  | [],cs=>cs
  | y::r,cs=>clGo env r (if y.2 == .free then (y.1,(env.cells.lookup y.1).getD 0)::cs else cs)
abbrev clOf (env:Env) (scope:Scope):List (Str×Addr):=clGo env scope.names []
theorem closure_of {scope:Scope} {env:Env} (h:∀ y∈scope.names,y.2=.free->∃ c,env.cells.lookup y.1=some c):closureFor scope env=pure (clOf env scope):=by
  rw [closureFor.eq_1]
  suffices q:∀ (names:List (Str×NameKind)) (cs:List (Str×Addr)),(∀ y∈names,y.2=.free->∃ c,env.cells.lookup y.1=some c) ->
      (do
        let s ← forIn names cs fun x __s =>
          have cs:=__s
          match x with
          | (name,kind) =>
            if (kind == NameKind.free)=true then do
              let l ← cellOf env name
              have cs:List (Str×Addr):=(name,l)::cs
              pure (ForInStep.yield cs)
            else pure (ForInStep.yield cs)
        pure s:Sem (List (Str×Addr)))=pure (clGo env names cs) from (congrArg (fun (m:Sem (List (Str×Addr)))=>m >>= fun s=>(pure s:Sem (List (Str×Addr)))) (q scope.names [] h)).trans rfl
  intro names
  induction names with
  | nil=>intro cs _;rfl
  | cons y r ih =>
    intro cs h
    obtain ⟨n,k⟩:=y
    have hr:=fun y hy=>h y (List.mem_cons_of_mem _ hy)
    rw [List.forIn_cons]
    show _=pure (clGo env r (if k == .free then (n,(env.cells.lookup n).getD 0)::cs else cs))
    by_cases e:k=.free
    · subst e
      obtain ⟨c,hc⟩:=h (n,.free) List.mem_cons_self rfl
      have e1:cellOf env n=pure c:=by unfold cellOf;rw [show env.cells.lookup n=some c from hc]
      simp only [e1,show env.cells.lookup n=some c from hc,Option.getD_some,beq_self_eq_true,if_true]
      exact ih _ hr
    · have e0:(k == NameKind.free)=false:=by simp [e]
      simp only [e0,Bool.false_eq_true,if_false]
      exact ih _ hr
theorem clGo_sub {env:Env} {x:Str} {c:Addr}:∀ {names:List (Str×NameKind)} {cs:List (Str×Addr)},(∀ y∈names,y.2=.free->∃ c,env.cells.lookup y.1=some c)->(∀ x c,cs.lookup x=some c->env.cells.lookup x=some c)->(clGo env names cs).lookup x=some c->env.cells.lookup x=some c
  | [],cs,_,hc,h=>hc _ _ h
  | (n,k)::r,cs,hn,hc,h=>by
    refine clGo_sub (fun y hy=>hn y (List.mem_cons_of_mem _ hy)) (fun x c q=>?_) h
    by_cases e:k=.free
    · subst e
      obtain ⟨c',hc'⟩:=hn (n,.free) List.mem_cons_self rfl
      simp only [beq_self_eq_true,if_true,show env.cells.lookup n=some c' from hc',Option.getD_some,List.lookup_cons] at q
      by_cases z:x=n
      · subst z;simp at q;rw [← q];exact hc'
      · have z':(x == n)=false:=by simp [z]
        rw [z'] at q
        exact hc _ _ q
    · have e0:(k == NameKind.free)=false:=by simp [e]
      rw [e0] at q
      exact hc _ _ q
theorem clGo_keep {env:Env} {x:Str}:∀ {names:List (Str×NameKind)} {cs:List (Str×Addr)},(∃ c,cs.lookup x=some c)->∃ c,(clGo env names cs).lookup x=some c
  | [],_,h=>h
  | (n,k)::r,cs,h=>by
    refine clGo_keep (names:=r) ?_
    by_cases e:(k == NameKind.free)=true
    · simp only [e,if_true,List.lookup_cons]
      cases hx:x == n with
      | true=>exact ⟨_,rfl⟩
      | false=>exact h
    · simp only [e,if_false];exact h
theorem clGo_has {env:Env} {x:Str}:∀ {names:List (Str×NameKind)} {cs:List (Str×Addr)},(x,NameKind.free)∈names->∃ c,(clGo env names cs).lookup x=some c
  | (n,k)::r,cs,h=>by
    rcases List.mem_cons.mp h with e | e
    · cases e
      refine clGo_keep (names:=r) ⟨(env.cells.lookup x).getD 0,?_⟩
      simp
    · show ∃ c,(clGo env r _).lookup x=some c
      exact clGo_has e
def seesOk (X:Cx) (scope:Scope):Bool :=
  (match scope.kind with | .function=>true | _=>false) && scope.names.all fun y=>match y.2 with
    | .cell=>false
    | .free=>(match X.env.kindOf y.1 with | some .cell=>true | some .free=>true | _=>false)
    | .local=>(match scope.names.lookup y.1 with | some .local=>true | _=>false)
    | _=>true
theorem sees_of {X:Cx} {scope:Scope} (ok:X.Ok) (h:seesOk X scope=true):Sees X scope (clOf X.env scope):=by
  unfold seesOk at h
  rw [Bool.and_eq_true,List.all_eq_true] at h
  obtain ⟨hk,hn⟩:=h
  have fr:∀ y∈scope.names,y.2=.free->∃ c,X.env.cells.lookup y.1=some c:=fun y hy e=>by
    have q:=hn y hy
    rw [e] at q
    refine ok.has y.1 ?_
    revert q
    dsimp only
    split
    · rename_i z;intro _;exact .inl z
    · rename_i z;intro _;exact .inr z
    · intro q;cases q
  refine ⟨?_,closure_of fr,fun y hy e=>?_,fun y hy e=>?_,fun x c q=>clGo_sub fr (fun _ _ z=>by cases z) q,fun x q=>?_⟩
  · revert hk
    cases scope.kind <;> simp
  · have q:=hn y hy
    rw [e] at q
    exact Bool.false_ne_true q
  · have q:=hn y hy
    rw [e] at q
    revert q
    dsimp only
    split
    · rename_i z;intro _;exact z
    · intro q;cases q
  · have key:∀ k,(compEnvC scope (clOf X.env scope) 0 X.env).kindOf x=some k->(k=.cell∨k=.free)->(x,NameKind.free)∈scope.names:=by
      intro k hk' hkk
      have q:((scope.names.map fun y=>match y with | (n,k)=>if (k == NameKind.free && X.env.scope.kind == ScopeKind.function && X.env.kindOf n == some NameKind.cell)=true then (n,NameKind.cell) else (n,k))).lookup x=some k:=hk'
      obtain ⟨n,k',e1,e2⟩:∃ n k',(n,k')∈scope.names/\(match (n,k') with | (n,k)=>if (k == NameKind.free && X.env.scope.kind == ScopeKind.function && X.env.kindOf n == some NameKind.cell)=true then (n,NameKind.cell) else (n,k))=(x,k):=by
        have m:(x,k)∈(scope.names.map fun y=>match y with | (n,k)=>if (k == NameKind.free && X.env.scope.kind == ScopeKind.function && X.env.kindOf n == some NameKind.cell)=true then (n,NameKind.cell) else (n,k)):=by
          revert q
          generalize (scope.names.map fun y=>match y with | (n,k)=>if (k == NameKind.free && X.env.scope.kind == ScopeKind.function && X.env.kindOf n == some NameKind.cell)=true then (n,NameKind.cell) else (n,k))=l
          induction l with
          | nil=>intro q;cases q
          | cons a l ih =>
            intro q
            obtain ⟨a1,a2⟩:=a
            rw [List.lookup_cons] at q
            cases hx:x == a1 with
            | true=>rw [hx] at q;cases q;have:=beq_iff_eq.mp hx;subst this;exact List.mem_cons_self
            | false=>rw [hx] at q;exact List.mem_cons_of_mem _ (ih q)
        obtain ⟨⟨n,k'⟩,h1,h2⟩:=List.mem_map.mp m
        exact ⟨n,k',h1,h2⟩
      dsimp only at e2
      split at e2
      · rename_i z
        cases e2
        simp only [Bool.and_eq_true,beq_iff_eq] at z
        rw [z.1.1] at e1
        exact e1
      · cases e2
        rcases hkk with rfl | rfl
        · have z:=hn _ e1
          exact absurd z Bool.false_ne_true
        · exact e1
    rcases q with q | q
    · exact clGo_has (key _ q (.inl rfl))
    · exact clGo_has (key _ q (.inr rfl))
def capOk (X:Cx) (scope:Scope):List Str->List (Option Nat)->Bool
  | [],[]=>true
  | _::r,none::c=>capOk X scope r c
  | x::r,some j::c=>(match X.N[j]? with | some y=>x == y | none=>false) && (match (compEnvC scope (clOf X.env scope) 0 X.env).kindOf x with | some .cell=>true | some .free=>true | _=>false)
      && (match X.env.kindOf x with | some .cell=>true | some .free=>true | _=>false) && capOk X scope r c
  | _,_=>false
def capt (cap:List (Option Nat)) (σ:St):St:=cap.map fun o=>o.bind fun j=>(σ[j]?).join
theorem capt_ok {X:Cx} {scope:Scope} {pins:List (Addr×Obj)} {σ:St} {H:Hp} {s:Shared} (I:Inv X pins σ H s) (S:Sees X scope (clOf X.env scope)):∀ {NY:List Str} {cap:List (Option Nat)},capOk X scope NY cap=true->(capt cap σ).length=NY.length/\∀ (i:Nat) (x:Str) (v:V),NY[i]?=some x->(capt cap σ)[i]?=some (some v) ->
      ∃ c u,(((compEnvC scope (clOf X.env scope) 0 X.env).kindOf x=some .cell∨(compEnvC scope (clOf X.env scope) 0 X.env).kindOf x=some .free))/\(clOf X.env scope).lookup x=some c/\RelV v u/\s.heap.IsCell c (some u)
  | [],[],_=>⟨rfl,fun i x v e _=>by cases e⟩
  | [],_::_,h=>by cases h
  | y::r,[],h=>by cases h
  | y::r,none::c,h=>by
    obtain ⟨l,q⟩:=capt_ok I S (NY:=r) (cap:=c) h
    refine ⟨by rw [List.length_cons,← l];rfl,fun i x v e1 e2=>?_⟩
    cases i with
    | zero=>cases e2
    | succ i=>exact q i x v e1 e2
  | y::r,some j::c,h=>by
    unfold capOk at h
    rw [Bool.and_eq_true,Bool.and_eq_true,Bool.and_eq_true] at h
    obtain ⟨⟨⟨h1,h2⟩,h3⟩,h4⟩:=h
    obtain ⟨l,q⟩:=capt_ok I S (NY:=r) (cap:=c) h4
    refine ⟨by rw [List.length_cons,← l];rfl,fun i x v e1 e2=>?_⟩
    cases i with
    | succ i=>exact q i x v e1 e2
    | zero =>
      have ey:y=x:=Option.some.inj e1
      subst ey
      have ev:(σ[j]?).join=some v:=Option.some.inj e2
      have hσ:σ[j]?=some (some v):=by
        cases z:σ[j]? with
        | none=>rw [z] at ev;cases ev
        | some o=>rw [z] at ev;rw [show o=some v from ev]
      have hN:X.N[j]?=some y:=by
        cases z:X.N[j]? with
        | none=>rw [z] at h1;cases h1
        | some y'=>rw [z] at h1;rw [beq_iff_eq.mp h1]
      have hK:(compEnvC scope (clOf X.env scope) 0 X.env).kindOf y=some .cell∨(compEnvC scope (clOf X.env scope) 0 X.env).kindOf y=some .free:=by
        revert h2
        split
        · rename_i z;intro _;exact .inl z
        · rename_i z;intro _;exact .inr z
        · intro q;cases q
      have hV:X.env.kindOf y=some .cell∨X.env.kindOf y=some .free:=by
        revert h3
        split
        · rename_i z;intro _;exact .inl z
        · rename_i z;intro _;exact .inr z
        · intro q;cases q
      obtain ⟨c',hc'⟩:=S.has y hK
      obtain ⟨m,_,hl⟩:=I.loc
      obtain ⟨u,ru,lk⟩:=hl j y v hN hσ (.inr hV)
      refine ⟨c',u,hK,hc',ru,?_⟩
      rcases lk with ⟨k,_⟩ | ⟨_,c2,e3,e4⟩
      · have k':X.env.kindOf y=some .local:=k
        rcases hV with z | z <;> rw [z] at k' <;> cases k'
      · have e5:=S.sub _ _ hc'
        rw [e3] at e5
        cases e5
        exact e4
abbrev tCompC (wi:TI) (g:TG) (te:TE) (cap:List (Option Nat)):TE:=tComp wi g te fun σ _ σY=>σY=capt cap σ
section
variable {X:Cx} {tg:Expr}
theorem pe_compC {iter elt:Expr} {scope:Scope} {pos:Pos} {wi:TI} {g:TG} {te:TE} (NY:List Str) (cap:List (Option Nat)) (hc:X.calm=true) (hk:seesOk X scope=true) (hcap:capOk X scope NY cap=true) (hi:PI X tg iter wi)
    (hY:∀ (s3:Shared) (H3:Hp) (fp:List Addr),PG (X.comp scope (clOf X.env scope) NY s3 H3 fp) tg g/\PE (X.comp scope (clOf X.env scope) NY s3 H3 fp) elt te)
    (hs:∀ x,foldedSetIterable iter X.env x=pure x:=by intro _;rfl):PE X (.ListComp elt [⟨tg,iter,[],0⟩] scope pos) (tCompC wi g te cap):=by
  intro pins s σ H Q I h
  have S:=sees_of I.ok hk
  refine pe_comp (NY:=NY) hc S hi hY (fun pins σ H s3 σY I3 e=>?_) hs pins s σ H Q I h
  subst e
  exact capt_ok I3 S hcap
theorem xX {iter elt:Expr} {scope:Scope} {pos pos' spos:Pos} {wi:TI} {g:TG} {te:TE} {i:Nat} {y:Str} (NY:List Str) (cap:List (Option Nat)) (hc:X.calm=true) (hk:seesOk X scope=true) (hcap:capOk X scope NY cap=true) (hi:PI X tg iter wi)
    (hY:∀ (s3:Shared) (H3:Hp) (fp:List Addr),PG (X.comp scope (clOf X.env scope) NY s3 H3 fp) tg g/\PE (X.comp scope (clOf X.env scope) NY s3 H3 fp) elt te) (hN:X.N.Nodup) (hi':X.N[i]?=some y) (hx:Loc X.env.scope y)
    (hf:X.fn y=true∨X.env.scope.names.lookup y=some .local:=by first | exact .inl rfl | exact .inr rfl) (hw:swapsWith (.ListComp elt [⟨tg,iter,[],0⟩] scope pos) (some (.Name y pos')) spos.line X.env=pure true:=by rfl)
    (hs:∀ x,foldedSetIterable iter X.env x=pure x:=by intro _;rfl):PS X (.Assign [.Name y pos'] (.ListComp elt [⟨tg,iter,[],0⟩] scope pos) spos) (tAsg (tCompC wi g te cap) (gName i)):=by
  refine ps_comp (NY:=NY) hc (fun I=>sees_of I.ok hk) hi hY (fun pins σ H s3 σY I3 e=>?_) hs hN hi' hx hf hw
  subst e
  exact capt_ok I3 (sees_of I3.ok hk) hcap
end
end L2
namespace L2
open PySem PySem.Spec PyProof.Rows
section
variable {X:Cx}
theorem xY {K:PySem.W.Frag} (e:X.K=K):IxR X (rIxL K):=by subst e;exact zR
end
theorem yP {ns:List Int} {j:Int} (i:Nat) (h:i<ns.length) (e:j=i):atI (ns.map V.int) j=some (.int (ns.getD i 0)):=by
  subst e
  refine zK ?_
  rw [List.getElem?_map,List.getElem?_eq_getElem h]
  simp [List.getD,h]
theorem getD_mem {ns:List Int} {i:Nat} (h:i<ns.length):ns.getD i 0∈ns:=by
  rw [List.getD_eq_getElem?_getD,List.getElem?_eq_getElem h]
  exact List.getElem_mem h
theorem map_int_at {ns:List Int} {i:Nat} {x:V} (h:(ns.map V.int)[i]?=some x):i<ns.length/\x=.int (ns.getD i 0):=by
  rw [List.getElem?_map] at h
  cases e:ns[i]? with
  | none=>rw [e] at h;cases h
  | some n =>
    rw [e] at h
    refine ⟨(List.getElem?_eq_some_iff.mp e).1,?_⟩
    rw [List.getD_eq_getElem?_getD,e]
    exact (Option.some.inj h).symm
end L2
namespace L2
open PySem PySem.Spec PyProof.Rows
section
variable {X:Cx} {pins:List (Addr×Obj)} {σ:St} {H:Hp} {s:Shared}
theorem Inv.keptL {h':Heap} {t':Nat} (I:Inv X pins σ H s) {m:Str->Option Value} (hl:∀ (i:Nat) (x:Str) (v:V),X.N[i]?=some x->σ[i]?=some (some v)->Vis X.env.scope x->∃ u,RelV v u/\Look X.env s.heap m x u)
    (k:∀ b o,b≠X.env.locals->s.heap.get? b=some o->h'.get? b=some o) (hn:h'.Ns X.env.locals m):Inv X pins σ H { s with heap:=h',toks:=t' }:=by
  have B:=I.base
  have ne0:∀ b o,X.s₀.heap.get? b=some o->b≠X.env.locals:=fun b o q z=>by
    have h1:b<X.s₀.heap.objs.size:=Heap.lt_size q
    have h2:X.s₀.heap.objs.size<=X.env.locals:=I.ok.above
    rw [z] at h1
    exact absurd (Nat.lt_of_lt_of_le h1 h2) (Nat.lt_irrefl _)
  refine ⟨I.ok,I.os,I.bare,⟨fun b o q n hb hx=>?_,fun b o q n hb hx=>?_,B.free,fun b o q hx=>?_,B.tups,B.frzs,B.tbls⟩,⟨m,hn,fun i x v e1 e2 vs=>?_⟩,fun x c q=>?_,I.free,I.freeC,fun p hp=>?_,fun b o q=>?_,I.len⟩
  · exact k _ _ (ne0 _ _ q) (B.keep b o q n hb hx)
  · obtain ⟨sl,z⟩:=B.slot b o q n hb hx
    exact ⟨sl,k _ _ (ne0 _ _ q) z⟩
  · obtain ⟨o',z⟩:=B.there b o q hx
    exact ⟨o',k _ _ (ne0 _ _ q) z⟩
  · obtain ⟨u,r,lk⟩:=hl i x v e1 e2 vs
    refine ⟨u,r,?_⟩
    rcases lk with z | ⟨z1,c,z2,o,z3,z4⟩
    · exact .inl z
    · exact .inr ⟨z1,c,z2,o,k _ _ (I.cne _ _ z2) z3,z4⟩
  · obtain ⟨v,o,z1,z2⟩:=I.cell x c q
    exact ⟨v,o,k _ _ (I.cne _ _ q) z1,z2⟩
  · obtain ⟨z1,z2,z3,z4⟩:=I.pin p hp
    exact ⟨k _ _ z3 z1,z2,z3,z4⟩
  · refine (I.hok b o q).stay (fun c v hc r=>k _ _ ?_ r) (fun _ z=>z) fun _ _ z=>z
    rintro rfl
    rcases hc with z | z
    · rw [← z,I.free] at q;cases q
    · rw [I.free] at z;cases z
theorem fr_all (I:Inv X pins σ H s) {m:Str->Option Value} (hm:s.heap.Ns X.env.locals m):Fr X.base X.env.locals s.heap m:=⟨hm,I.bk,Nat.le_trans I.ok.bsz I.ok.above⟩
theorem kept_all {h':Heap} {m:Str->Option Value} (F:Fr X.base X.env.locals h' m) (N:News X.base X.env.locals h' (allNews X.base s.heap X.env.locals)) (I:Inv X pins σ H s):∀ b o,b≠X.env.locals->s.heap.get? b=some o->h'.get? b=some o:=fun b o n q=>by
  cases e:X.base.get? b with
  | none=>exact (N (b,o) (mem_allNews n e q)).1
  | some o' =>
    have z:=I.bk b o' e
    rw [q] at z
    cases z
    exact F.keep b o e
end
section
variable {X:Cx}
def rSum (K:PySem.W.Frag):List V->Hp->VK->Prop:=fun xs H Q=>∃ (p:Addr) (ns:List Int),xs=[.ref p]/\SqL K H p (ns.map V.int)/\Q (.int ns.sum) H
theorem call_sum (hc:X.calm=true):CallR X (.builtin "sum") (rSum X.K):=by
  intro pins s σ H xs us Q I r h
  obtain ⟨p,ns,rfl,hp,q⟩:=h
  obtain ⟨u,rfl,ru⟩:=r.one
  cases (show u=Value.ref p from ru)
  obtain ⟨its,rv,pl,_⟩:=I.list hp
  obtain ⟨m,hm,hl⟩:=I.loc
  exact LSm.sum_ints (fr_all I hm) news_all (I.ok.hd hc) pl.isList (ints_of rv) fun h' tk t' F N =>
    ⟨.int ns.sum,H,I.keptL hl (kept_all F N I) F.ns,⟨_,rfl⟩,q⟩
end
end L2
namespace L2
open PySem PySem.Spec PyProof.Rows
mutual
inductive DV (K:PySem.W.Frag) (H:Hp):V->PyData->Prop
  | non:DV K H .non .none
  | bl (b:Bool):DV K H (.bl b) (.bool b)
  | int (i:Int):DV K H (.int i) (.int i)
  | str (x:Str):DV K H (.str x) (.str x)
  | lst {a:Addr} {xs:List V} {ds:List PyData}:SqL K H a xs->DVs K H xs ds->DV K H (.ref a) (.list ds)
  | tup {a:Addr} {xs:List V} {ds:List PyData}:SqT K H a xs->DVs K H xs ds->DV K H (.ref a) (.tuple ds)
inductive DVs (K:PySem.W.Frag) (H:Hp):List V->List PyData->Prop
  | nil:DVs K H [] []
  | cons {v:V} {vs:List V} {d:PyData} {ds:List PyData}:DV K H v d->DVs K H vs ds->DVs K H (v::vs) (d::ds)
end
section
variable {X:Cx} {pins:List (Addr×Obj)} {σ:St} {H:Hp} {s:Shared}
mutual
theorem dv_reads (I:Inv X pins σ H s):∀ {v:V} {d:PyData} {u:Value},DV X.K H v d->RelV v u->∃ as,Reads s.heap u d as
  | _,_,u,.non,r=>by cases (show u=Value.none from r);exact ⟨_,.none⟩
  | _,_,u,.bl b,r=>by cases (show u=Value.bool b from r);exact ⟨_,.bool b⟩
  | _,_,u,.int i,r=>by obtain ⟨t,rfl⟩:=(show ∃ t,u=Value.int i t from r);exact ⟨_,.int i t⟩
  | _,_,u,.str x,r=>by obtain ⟨t,rfl⟩:=(show ∃ t,u=Value.str x t from r);exact ⟨_,.str x t⟩
  | _,_,u,.lst (a:=a) h q,r=>by
    cases (show u=Value.ref a from r)
    obtain ⟨its,rv,⟨o,n,e,c,d,f⟩,_⟩:=I.list h
    obtain ⟨as,ra⟩:=dvs_reads I q rv
    exact ⟨_,.list e c f ra⟩
  | _,_,u,.tup (a:=a) h q,r=>by
    cases (show u=Value.ref a from r)
    obtain ⟨its,rv,⟨o,e,c,n,f⟩,_⟩:=I.tuple h
    obtain ⟨as,ra⟩:=dvs_reads I q rv
    exact ⟨_,.tuple e c f ra⟩
theorem dvs_reads (I:Inv X pins σ H s):∀ {vs:List V} {ds:List PyData} {us:List Value},DVs X.K H vs ds->Vals vs us->∃ as,ReadsAll s.heap us ds as
  | _,_,_,.nil,.nil=>⟨_,.nil⟩
  | _,_,_,.cons h q,.cons r rr=>by
    obtain ⟨as,ra⟩:=dv_reads I h r
    obtain ⟨bs,rb⟩:=dvs_reads I q rr
    exact ⟨_,.cons ra rb⟩
end
end
section
variable {X:Cx}
def rEqD (K:PySem.W.Frag) (f:Bool->Bool):R2:=fun x y H Q=>∃ d e,DV K H x d/\DV K H y e/\d.canLay0=true/\e.canLay0=true/\d.depth<=64/\Q (.bl (f (d.eqv e))) H
theorem op_neD (hu:X.A.units+64<cLine):OpR X (compareOp .NotEq) (rEqD X.K not):=by
  intro pins s σ H x y v u Q I rx ry h
  obtain ⟨d,e,hd,he,c1,c2,dp,q⟩:=h
  obtain ⟨as,ra⟩:=dv_reads I hd rx
  obtain ⟨bs,rb⟩:=dv_reads I he ry
  exact SeqAt.compareNe_reads ra rb c1 c2 (by omega) ⟨.bl _,H,I,rfl,q⟩
end
def dI (ns:List Int):PyData:=.list (ns.map PyData.int)
theorem dvs_ints {K:PySem.W.Frag} {H:Hp}:∀ {ns:List Int},DVs K H (ns.map V.int) (ns.map PyData.int)
  | []=>.nil
  | n::ns=>.cons (.int n) dvs_ints
theorem dv_ints {K:PySem.W.Frag} {H:Hp} {a:Addr} {ns:List Int} (h:SqL K H a (ns.map V.int)):DV K H (.ref a) (dI ns):=.lst h dvs_ints
theorem Zb:∀ {ns:List Int},PyData.canLayAll0 (ns.map PyData.int)=true
  | []=>rfl
  | n::ns=>by
    rw [List.map_cons]
    show (PyData.canLay0 (.int n) && PyData.canLayAll0 (ns.map PyData.int))=true
    rw [Zb];rfl
theorem lay_ints {ns:List Int}:(dI ns).canLay0=true:=Zb
theorem depthAll_ints:∀ {ns:List Int},PyData.depthAll (ns.map PyData.int)<=1
  | []=>by decide
  | n::ns=>by
    have:=depthAll_ints (ns:=ns)
    rw [List.map_cons]
    show max (PyData.depth (.int n)) (PyData.depthAll (ns.map PyData.int))<=1
    have e:PyData.depth (.int n)<=1:=by show _<=_;simp [PyData.depth]
    omega
end L2
namespace L2
open PySem
theorem dep_list {xs:List PyData} {n:Nat} (h:PyData.depthAll xs<=n):(PyData.list xs).depth<=n+1:=by
  have e:(PyData.list xs).depth=PyData.depthAll xs+1:=by first | rfl | (simp [PyData.depth];done) | (simp [PyData.depth];omega)
  omega
theorem dep_tup {xs:List PyData} {n:Nat} (h:PyData.depthAll xs<=n):(PyData.tuple xs).depth<=n+1:=by
  have e:(PyData.tuple xs).depth=PyData.depthAll xs+1:=by first | rfl | (simp [PyData.depth];done) | (simp [PyData.depth];omega)
  omega
theorem dep_nil {n:Nat}:PyData.depthAll []<=n:=by
  have e:PyData.depthAll []=0:=by first | rfl | simp [PyData.depthAll]
  omega
theorem yD {x:PyData} {xs:List PyData} {n:Nat} (h:x.depth<=n) (h':PyData.depthAll xs<=n):PyData.depthAll (x::xs)<=n:=by
  have e:PyData.depthAll (x::xs)=max x.depth (PyData.depthAll xs):=by first | rfl | simp [PyData.depthAll]
  omega
theorem dep_ints {ns:List Int}:(dI ns).depth<=2:=dep_list depthAll_ints
end L2
namespace L2
open PySem PySem.Spec PyProof.Rows
theorem zt {K:PySem.W.Frag} {H H':Hp} {a:Addr} {xs:List V} (h:SqL K H a xs) (s:Same H H'):SqL K H' a xs:=by
  rcases h with h | h
  · exact .inl (h.imp (fun z=>s _ _ z) fun ⟨o,z⟩=>⟨o,s _ _ z⟩)
  · exact .inr h
theorem zh {H H':Hp} {a:Addr} {o:HO} (s:Same H H') (h:H a=none):Same H (upd H' a o):=fun c x z=>by rw [zo (zw z h)];exact s _ _ z
theorem Same.none {H H':Hp} {a:Addr} (s:Same H H') (h:H' a=none):H a=none:=by
  cases e:H a with
  | none=>rfl
  | some o=>rw [s _ _ e] at h;cases h
def cutI (cs:List Int) (a b:Int):List Int:=(cs.drop (min a.toNat cs.length)).take (min b.toNat cs.length-min a.toNat cs.length)
theorem sIx_pos {n d:Nat} {a:Int} (h:0<=a):HT.sIx n d (some a)=min a.toNat n:=by
  show (if a<0 then (a+(n:Int)).toNat else min a.toNat n)=min a.toNat n
  rw [if_neg (by omega)]
theorem cutV_int {cs:List Int} {a b:Int} (ha:0<=a) (hb:0<=b):cutV (cs.map V.int) (some a) (some b)=(cutI cs a b).map V.int:=by
  unfold cutV cutI
  rw [sIx_pos ha,sIx_pos hb,List.length_map,← List.map_drop,← List.map_take]
theorem xU {cs:List Int} {b:Int} (hb:0<=b):cutV (cs.map V.int) none (some b)=(cs.take b.toNat).map V.int:=by
  unfold cutV
  rw [HT.sIx_none,sIx_pos hb,List.length_map,List.drop_zero,Nat.sub_zero,← List.map_take]
  congr 1
  rw [List.take_eq_take_iff]
  omega
theorem cutV_from {cs:List Int} {a:Int} (ha:0<=a):cutV (cs.map V.int) (some a) none=(cs.drop a.toNat).map V.int:=by
  unfold cutV
  rw [HT.sIx_none,sIx_pos ha,List.length_map,← List.map_drop,← List.map_take]
  congr 1
  by_cases h:a.toNat<=cs.length
  · rw [Nat.min_eq_left h]
    exact List.take_of_length_le (by rw [List.length_drop];omega)
  · have e1:cs.drop cs.length=[]:=List.drop_length
    have e2:cs.drop a.toNat=[]:=List.drop_eq_nil_of_le (by omega)
    rw [Nat.min_eq_right (by omega),e1,e2]
    simp
theorem take_snoc {ns:List Int} {i:Nat} (h:i<ns.length):ns.take (i+1)=ns.take i++[ns.getD i 0]:=by
  rw [List.take_add_one,List.getD_eq_getElem?_getD,List.getElem?_eq_getElem h];rfl
end L2
namespace L2
open PySem PySem.Spec PyProof.Rows
section
variable {P:Program} {w:World} {K:PySem.W.Frag} {mg:Str->Option Value} {base:Heap}
def yf (K:PySem.W.Frag) (C:Addr) (x qual:Str) (st:Stmt) (ps:List Str):Prop:=∃ (f:Addr) (fd:FuncData),Meth K C x f/\Fun K x qual st f fd/\Binds K fd ps []
def OkM (P:Program) (w:World) (K:PySem.W.Frag) (mg:Str->Option Value) (base:Heap) (CX:CXT) (k:Nat) (C:Addr) (x:Str) (ps:List Str) (sp:Sp):Prop :=
  ∃ (f:Addr) (fd:FuncData),Meth K C x f/\Binds K fd ps []/\FnOk P w K mg base CX k f fd ps sp
def InitIn (K:PySem.W.Frag) (C:Addr) (qual:Str) (st:Stmt) (ps:List Str):Prop:=∃ (f:Addr) (fd:FuncData),Mk K C f/\Fun K "__init__" qual st f fd/\Binds K fd ps []
def OkI (P:Program) (w:World) (K:PySem.W.Frag) (mg:Str->Option Value) (base:Heap) (CX:CXT) (k:Nat) (C:Addr) (ps:List Str) (sp:Sp):Prop :=
  ∃ (f:Addr) (fd:FuncData),Mk K C f/\Binds K fd ps []/\FnOk P w K mg base CX k f fd ps sp
end
section
variable {X:Cx} {CX:CXT} {k:Nat} {C:Addr} {ps:List Str} {sp:Sp} {E:XK} {x m:Str} {p pos apos:Pos} {e o:Expr} {es:List Expr} {ta:TE} {t:TA}
theorem yk (h:OkM X.prog X.w X.K X.mg X.base CX k C m ps sp) (c:Cls X.K C) (hr:Room k X.A) (hx:xA CX X E) {pl:Sem Bool} (he:PE X o ta) (ha:PA X (e::es) t)
    (hst:starEach (e::es) X.env=(false,eval e X.env)::starEach es X.env:=by rfl) (hpl:(backTo pos (starEach es X.env)).any (·.1)=false:=by rfl)
    (ht:eval (.Call (.Attribute o m apos) (e::es) [] pos) X.env=(do
      let ov ← eval o X.env
      standAt apos.atName
      let (f,first) ← holding [ov] (getMethod ov m pl)
      callWith pos f first (backTo pos (starEach (e::es) X.env)) (backToKw pos (keywordEach [] X.env))):=by rfl) :
    PE X (.Call (.Attribute o m apos) (e::es) [] pos) (tMeth C m sp [] E ta t):=by
  obtain ⟨f,fd,a,b,d⟩:=h
  exact pe_meth he c a d hr b .nil hx ha hst hpl ht
theorem pe_okM0 (h:OkM X.prog X.w X.K X.mg X.base CX k C m ps sp) (c:Cls X.K C) (hr:Room k X.A) (hx:xA CX X E) {pl:Sem Bool} (he:PE X o ta)
    (ht:eval (.Call (.Attribute o m apos) [] [] pos) X.env=(do
      let ov ← eval o X.env
      standAt apos.atName
      let (f,first) ← holding [ov] (getMethod ov m pl)
      callWith pos f first (backTo pos (starEach [] X.env)) (backToKw pos (keywordEach [] X.env))):=by rfl) :
    PE X (.Call (.Attribute o m apos) [] [] pos) (tMeth C m sp [] E ta tNil):=by
  obtain ⟨f,fd,a,b,d⟩:=h
  exact pe_meth0 he c a d hr b .nil hx ht
theorem pe_okI (h:OkI X.prog X.w X.K X.mg X.base CX k C ps sp) (hm:X.mg x=some (.ref C)) (hr:Room (k+1) X.A) (hg:Gl X x) (hx:xA CX X E) (ha:PA X (e::es) t) (hdb:(x == ("__debug__":Str))=false:=by decide)
    (he:starEach (e::es) X.env=(false,eval e X.env)::starEach es X.env:=by rfl) (hpl:(backTo pos (starEach es X.env)).any (·.1)=false:=by rfl):PE X (.Call (.Name x p) (e::es) [] pos) (tMake C sp [] E t):=by
  obtain ⟨f,fd,a,b,d⟩:=h
  exact pe_make a d hr hg hm b .nil hx ha hdb he hpl
end
theorem rep_ints (n:Nat):(List.replicate n [V.int 0]).flatten=(List.replicate n (0:Int)).map V.int:=by
  induction n with
  | zero=>rfl
  | succ n ih=>rw [List.replicate_succ,List.flatten_cons,ih];rfl
theorem set_ints {ns:List Int} {j:Nat} {n:Int}:(ns.map V.int).set j (.int n)=(ns.set j n).map V.int:=by rw [List.map_set]
theorem ixN_nat {n:Nat} {i:Int} (h0:0<=i) (h1:i<n):ixN n i=some i.toNat:=by
  unfold ixN
  rw [if_pos h0,if_pos h1]
end L2
namespace L2
open PySem PySem.Spec PyProof.Rows
structure Hd (B:Hp) (L:List (Addr×HO)) (H:Hp):Prop where
  nd:(L.map Prod.fst).Nodup
  nw:∀ p∈L,B p.1=none
  st:∀ p∈L,H p.1=some p.2
  sm:Same B H
namespace Hd
variable {B:Hp} {L:List (Addr×HO)} {H H':Hp} {a b:Addr} {o o':HO}
theorem base:Hd B [] B:=⟨List.nodup_nil,(fun _ h=>nomatch h),(fun _ h=>nomatch h),Same.refl B⟩
theorem get (h:Hd B L H) (i:Nat) (e:L[i]?=some (a,o)):H a=some o:=h.st _ (List.mem_of_getElem? e)
theorem same (h:Hd B L H) (s:Same H H'):Hd B L H':=⟨h.nd,h.nw,fun p m=>s _ _ (h.st p m),h.sm.trans s⟩
theorem new (h:Hd B L H) (n:H a=none):Hd B ((a,o)::L) (upd H a o):=by
  have ne:∀ p∈L,p.1≠a:=fun p m=>zw (h.st p m) n
  refine ⟨List.nodup_cons.mpr ⟨fun m=>?_,h.nd⟩,fun p m=>?_,fun p m=>?_,zh h.sm (h.sm.free n)⟩
  · obtain ⟨p,mp,e⟩:=List.mem_map.mp m
    exact ne p mp e
  · rcases List.mem_cons.mp m with rfl | m
    · exact h.sm.free n
    · exact h.nw p m
  · rcases List.mem_cons.mp m with rfl | m
    · exact zg
    · rw [zo (ne p m)];exact h.st p m
theorem fst_set (i:Nat) (e:L[i]?=some (a,o)):(L.set i (a,o')).map Prod.fst=L.map Prod.fst:=by
  rw [List.map_set]
  apply List.ext_getElem?
  intro j
  rw [List.getElem?_set]
  split
  · rename_i q
    subst q
    split
    · rw [List.getElem?_map,e];rfl
    · rename_i q
      rw [List.getElem?_eq_none (by omega)]
  · rfl
theorem ne (h:Hd B L H) (i j:Nat) (ei:L[i]?=some (a,o)) (ej:L[j]?=some (b,o')) (hij:i≠j):a≠b:=fun e=>by
  subst e
  have h1:(L.map Prod.fst)[i]?=some a:=by rw [List.getElem?_map,ei];rfl
  have h2:(L.map Prod.fst)[j]?=some a:=by rw [List.getElem?_map,ej];rfl
  obtain ⟨b1,e1⟩:=List.getElem?_eq_some_iff.mp h1
  obtain ⟨b2,e2⟩:=List.getElem?_eq_some_iff.mp h2
  have key:∀ (l:List Addr),l.Nodup->∀ (i j:Nat) (b1:i<l.length) (b2:j<l.length),l[i]=l[j]->i=j:=by
    intro l hl
    induction l with
    | nil=>intro i j b1;cases b1
    | cons x r ih =>
      intro i j b1 b2 q
      have nr:=List.nodup_cons.mp hl
      cases i with
      | zero =>
        cases j with
        | zero=>rfl
        | succ j=>exact absurd (by rw [List.getElem_cons_zero,List.getElem_cons_succ] at q;rw [q];exact List.getElem_mem _) nr.1
      | succ i =>
        cases j with
        | zero=>exact absurd (by rw [List.getElem_cons_zero,List.getElem_cons_succ] at q;rw [← q];exact List.getElem_mem _) nr.1
        | succ j=>rw [List.getElem_cons_succ,List.getElem_cons_succ] at q;rw [ih nr.2 i j _ _ q]
  exact hij (key _ h.nd i j b1 b2 (e1.trans e2.symm))
theorem chg (h:Hd B L H) (i:Nat) (e:L[i]?=some (a,o)) (k:∀ c u,c≠a->H c=some u->H' c=some u) (q:H' a=some o'):Hd B (L.set i (a,o')) H':=by
  have nb:B a=none:=h.nw _ (List.mem_of_getElem? e)
  refine ⟨by rw [fst_set i e];exact h.nd,fun p m=>?_,fun p m=>?_,fun c u z=>k c u (zw z nb) (h.sm c u z)⟩
  · rcases List.mem_or_eq_of_mem_set m with m | rfl
    · exact h.nw p m
    · exact nb
  · obtain ⟨j,lt,ej⟩:=List.getElem_of_mem m
    have ej:(L.set i (a,o'))[j]?=some p:=by rw [List.getElem?_eq_getElem lt,ej]
    rw [List.getElem?_set] at ej
    split at ej
    · split at ej
      · cases ej;exact q
      · cases ej
    · rename_i hij
      obtain ⟨c,u⟩:=p
      exact k c u (Ne.symm (h.ne i j e ej hij)) (h.get j ej)
theorem put (h:Hd B L H) (i:Nat) (e:L[i]?=some (a,o)):Hd B (L.set i (a,o')) (upd H a o'):=h.chg i e (fun c u n z=>by rw [zo n];exact z) zg
theorem sql (h:Hd B L H) {K:PySem.W.Frag} {xs:List V} (q:SqL K B a xs):SqL K H a xs:=zt q h.sm
theorem sqt (h:Hd B L H) {K:PySem.W.Frag} {xs:List V} (q:SqT K B a xs):SqT K H a xs:=by
  rcases q with (q | ⟨o,q⟩) | q
  · exact .inl (.inl (h.sm _ _ q))
  · exact .inl (.inr ⟨o,h.sm _ _ q⟩)
  · exact .inr q
theorem lst (h:Hd B L H) {K:PySem.W.Frag} {xs:List V} (i:Nat) (e:L[i]?=some (a,.lst xs)):SqL K H a xs:=SqL.of (h.get i e)
theorem tup (h:Hd B L H) {K:PySem.W.Frag} {xs:List V} (i:Nat) (e:L[i]?=some (a,.tup xs)):SqT K H a xs:=SqT.of (h.get i e)
theorem sub {L':List (Addr×HO)} (h:Hd B L H) (s:List.Sublist L' L):Hd B L' H:=⟨h.nd.sublist (s.map _),fun p m=>h.nw p (s.subset m),fun p m=>h.st p (s.subset m),h.sm⟩
theorem tl {p:Addr×HO} (h:Hd B (p::L) H):Hd B L H:=h.sub (List.sublist_cons_self _ _)
theorem free (h:Hd B L H) (n:H a=none):B a=none:=h.sm.free n
theorem add (h:Hd B L H) (n:∀ p∈L,p.1≠a) (nb:B a=none) (e:H a=some o):Hd B ((a,o)::L) H:=by
  refine ⟨List.nodup_cons.mpr ⟨fun m=>?_,h.nd⟩,fun p m=>?_,fun p m=>?_,h.sm⟩
  · obtain ⟨p,mp,e⟩:=List.mem_map.mp m
    exact n p mp e
  · rcases List.mem_cons.mp m with rfl | m
    · exact nb
    · exact h.nw p m
  · rcases List.mem_cons.mp m with rfl | m
    · exact e
    · exact h.st p m
theorem made {C x dx l:Addr} {ox ol:HO} (h:Hd B L H) (nx:H x=none) (ndx:H dx=none) (ne:dx≠x) (k:∀ b u,b≠x->upd (upd H dx (.own x)) x (.ins C dx []) b=some u->H' b=some u)
    (nl:upd (upd H dx (.own x)) x (.ins C dx []) l=none) (ex:H' x=some ox) (el:H' l=some ol):Hd B ((l,ol)::(x,ox)::(dx,.own x)::L) H':=by
  have h1:Hd B ((dx,.own x)::L) (upd H dx (.own x)):=h.new ndx
  have h2:Hd B ((x,.ins C dx [])::(dx,.own x)::L) (upd (upd H dx (.own x)) x (.ins C dx [])):=h1.new (by rw [zo (Ne.symm ne)];exact nx)
  have h3:Hd B ((x,ox)::(dx,.own x)::L) H':=h2.chg 0 rfl k ex
  refine h3.add (fun p m=>?_) (h2.free nl) el
  rcases List.mem_cons.mp m with rfl | m
  · exact zw (h2.get 0 rfl) nl
  · exact zw (h2.st p (List.mem_cons_of_mem _ m)) nl
theorem perm {B:Hp} {L L':List (Addr×HO)} {H:Hp} (h:Hd B L H) (p:L.Perm L'):Hd B L' H:=⟨(p.map Prod.fst).nodup h.nd,fun q m=>h.nw q (p.mem_iff.mpr m),fun q m=>h.st q (p.mem_iff.mpr m),h.sm⟩
end Hd
section
variable {X:Cx} {st:Stmt} {t:TS} {e:Expr} {te:TE}
def tMid (t:TS):TS:=fun D σ H=>∃ M:St->Hp->Prop,t { D with nx:=M } σ H/\∀ σ' H',M σ' H'->D.nx σ' H'
theorem ps_mid (h:PS X st t):PS X st (tMid t):=by
  intro pins s σ H D I q
  obtain ⟨M,q,k⟩:=q
  refine thn (h pins s σ H _ I q) fun f s1 z=>?_
  cases f with
  | next=>exact let ⟨σ',H',I',z⟩:=z;⟨σ',H',I',k _ _ z⟩
  | ret v=>exact z
  | brk=>exact z
  | cont=>exact z
end
end L2
namespace L2
open PySem PySem.Spec PyProof.Rows
def but (H:Hp) (ls:List Addr):Hp:=fun b=>if b∈ls then none else H b
theorem but_none {H:Hp} {ls:List Addr} {b:Addr} (h:b∈ls):but H ls b=none:=by unfold but;rw [if_pos h]
theorem but_of {H:Hp} {ls:List Addr} {b:Addr} {o:HO} (h:H b=some o) (n:b ∉ ls):but H ls b=some o:=by unfold but;rw [if_neg n];exact h
theorem but_sub {H:Hp} {ls:List Addr}:Same (but H ls) H:=fun b o z=>by
  unfold but at z
  split at z
  · cases z
  · exact z
namespace Hd
variable {B B':Hp} {L:List (Addr×HO)} {H H':Hp} {a:Addr} {o:HO}
theorem into (h:Hd B [(a,o)] H):Same B (but H [a]):=fun b u z=>but_of (h.sm _ _ z) (by
  intro q
  have q:=List.mem_singleton.mp q
  subst q
  rw [h.nw _ (List.mem_singleton.mpr rfl)] at z
  cases z)
theorem weak (h:Hd B' L H) (s:Same B B'):Hd B L H:=⟨h.nd,fun p m=>s.free (h.nw p m),h.st,s.trans h.sm⟩
end Hd
end L2
namespace L2
open PySem PySem.Spec PyProof.Rows
section
variable {X:Cx} {pins:List (Addr×Obj)} {σ σ':St} {H H':Hp} {s s':Shared} {a:Addr} {xs:List V}
end
namespace Hd
variable {B:Hp} {L L':List (Addr×HO)} {H:Hp}
theorem split (h:Hd B L H) (s:List.Sublist L' L):Same B (but H (L'.map Prod.fst))/\Hd (but H (L'.map Prod.fst)) L' H:=by
  refine ⟨fun b o z=>but_of (h.sm _ _ z) fun m=>?_,(h.sub s).nd,fun p m=>but_none (List.mem_map_of_mem m),(h.sub s).st,but_sub⟩
  obtain ⟨p,mp,e⟩:=List.mem_map.mp m
  have:=h.nw p (s.subset mp)
  rw [e] at this
  rw [this] at z;cases z
end Hd
end L2
namespace L2
open PySem PySem.Spec PyProof.Rows
def ItS (lo c:Int) (n:Nat):It:=⟨fun i _=>i<n,fun i H x H'=>H'=H/\x=.int (lo+i*c),fun i _=>n<=i⟩
theorem turn_stepped {P:Program} {w:World} {K:PySem.W.Frag} {tg:Expr} (it:Addr) (lo c:Int) (n:Nat) :
    Turn P w K tg (ItS lo c n) [it] it (fun i h=>IsRangeIter h it (lo+(i:Nat)*c) ((n:Int)-(i:Nat)) c) where
  mem:=List.mem_singleton_self it
  obj:=fun i h st b hb=>by
    cases List.mem_singleton.mp hb
    refine ⟨_,st,fun v z=>?_⟩
    have y:Data.fields _=Data.cell v:=z
    cases y
  keep:=fun i h h' st k=>k it (List.mem_singleton_self it) _ st
  item:=by
    intro X hP hw hK hc i pins s σ H E I hf st hg
    subst hP;subst hw;subst hK
    obtain ⟨a0,a1,a2,a3,a4,a5⟩:=hf it (List.mem_singleton_self it)
    refine (Walks.range (prog:=X.prog) (w:=X.w) (I.ok.hd hc) it lo c n).item i s _ _ hg st fun v h' tk hv st' kk=>?_
    obtain ⟨t,rfl⟩:=hv
    have J:Inv X pins σ H { s with heap:=h',toks:=tk }:=I.turned (fun b o hb e=>kk b o (by simpa using hb) e) a0 a1 a3 a4 a5
    exact ⟨_,rfl,go_of (s:={ s with heap:=h',toks:=tk }) (n:="range_iterator") st' rfl rfl (by decide) ⟨.int (lo+i*c),H,J,⟨t,rfl⟩,⟨rfl,rfl⟩,st',fun b hb=>(hf b hb).1⟩⟩
  done:=by
    intro X hP hw hK hc i pins s σ H E I hf st hg
    subst hP;subst hw;subst hK
    obtain ⟨a0,a1,a2,a3,a4,a5⟩:=hf it (List.mem_singleton_self it)
    have hn:n<=i:=hg
    exact wpAny_pyNext_range_end (I.ok.hd hc) st (by omega) fun h' eb=>⟨rfl,I.turned (t':=s.toks) (fun b o hb e=>eb b o hb e) a0 a1 a3 a4 a5⟩
  self:=fun _ _ _ _ _ st h=>wpAny_pyIter_rangeiter st h
theorem small_step {a b c:Int} (ha:0<=a) (ha':a<2 ^ 40) (hb:0<=b) (hb':b<2 ^ 40) (h0:0<c) (h1:c<2 ^ 20):Builtin.Range.small a b c=true:=by
  unfold Builtin.Range.small
  have q:Builtin.Range.rangeSize a b c<=2 ^ 40/\0<=Builtin.Range.rangeSize a b c:=by
    unfold Builtin.Range.rangeSize
    rw [if_pos (show c > 0 from h0)]
    split
    · have z:=Int.ediv_le_self (b:=c) (show 0<=b-a-1 by omega)
      have y:=Int.ediv_nonneg (show 0<=b-a-1 by omega) (show 0<=c by omega)
      omega
    · omega
  simp only [Builtin.Range.rangeFitsLong,Bool.and_eq_true,Bool.or_eq_true,decide_eq_true_eq,beq_iff_eq]
  refine ⟨⟨⟨⟨⟨by omega,by omega⟩,by omega,by omega⟩,by omega,by omega⟩,by omega,by omega⟩,.inr ?_⟩
  rw [if_pos (show c > 0 from h0),decide_eq_true (show -2 ^ 63<=b+(c-1) by omega),decide_eq_true (show b+(c-1)<2 ^ 63 by omega)]
  rfl
section
variable {X:Cx} {tg:Expr}
def iRngS (ta:TA):TI:=fun σ H R=>ta σ H fun vs H1=>∃ (i j c:Int) (n:Nat),vs=[.int i,.int j,.int c]/\(0<=i/\i<2 ^ 40/\0<=j/\j<2 ^ 40/\0<c/\c<2 ^ 20)/\Builtin.Range.rangeSize i j c=n/\R (ItS i c n) H1
theorem stepped_it {pins:List (Addr×Obj)} {σ:St} {H:Hp} {s:Shared} {R:It->Hp->Prop} {E:Value->Shared->Prop} {lo hi c:Int} {n:Nat} {t u v:Tok} {tk:Nat} (I:Inv X pins σ H s) (hs:Builtin.Range.small lo hi c=true) (hn:Builtin.Range.rangeSize lo hi c=n)
    (q:R (ItS lo c n) H):wpAny (model X.prog X.w) X.A (pyIter (.ref s.heap.objs.size)) (PIE X pins σ tg R) E { s with heap:=s.heap.push { cls:=.type "range",data:=.fields #[.int lo t,.int hi u,.int c v] },toks:=tk }:=by
  refine wpAny_pyIter_range (IsRange.new ..) hs ?_
  have J:Inv X pins σ H { s with heap:=s.heap.push { cls:=.type "range",data:=.fields #[.int lo t,.int hi u,.int c v] },toks:=tk }:=I.kept fun b o e=>Heap.get?_push_of_some _ e
  generalize hh:s.heap.push { cls:=.type "range",data:=.fields #[.int lo t,.int hi u,.int c v] }=h1 at J ⊢
  refine ⟨h1.objs.size,[h1.objs.size],_,_,H,rfl,J.kept (t':=tk) fun b o e=>Heap.get?_push_of_some _ e,turn_stepped _ lo c n,?_,fun b hb=>?_,q⟩
  · show IsRangeIter _ _ (lo+((0:Nat):Int)*c) ((n:Int)-((0:Nat):Int)) c
    rw [show lo+((0:Nat):Int)*c=lo by simp,show (n:Int)-((0:Nat):Int)=Builtin.Range.rangeSize lo hi c by rw [hn];simp]
    exact Heap.get?_push_size _ rfl
  · cases List.mem_singleton.mp hb
    exact J.fpOk (Nat.le_refl _) (J.hok.fresh (Nat.le_refl _))
theorem pi_range3 {a b c:Expr} {ta:TA} {p pos:Pos} (hg:Gl X "range") (hm:X.mg "range"=none) (ha:PA X [a,b,c] ta) (hs:starEach [a,b,c] X.env=[(false,eval a X.env),(false,eval b X.env),(false,eval c X.env)]:=by rfl)
    (hs2:starEach [b,c] X.env=[(false,eval b X.env),(false,eval c X.env)]:=by rfl):PI X tg (.Call (.Name "range" p) [a,b,c] [] pos) (iRngS ta):=by
  intro pins s σ H R I h
  refine Call_ (ld_blt I hg hm boot_range (PyProof.Rows.callWith_type1 (thn (ha pos pins s σ H _ I h) fun us s1 ⟨vs,H1,I1,r1,q1⟩=>?_) (by rw [hs,hs2]) (by rw [hs2];rfl)))
  obtain ⟨i,j,k,n,e,⟨b1,b2,b3,b4,b5,b6⟩,en,q⟩:=q1
  subst e
  cases r1 with
  | cons r rr =>
    cases rr with
    | cons r' rr =>
      cases rr with
      | cons r'' rr =>
        cases rr
        obtain ⟨t,rfl⟩:=r
        obtain ⟨t',rfl⟩:=r'
        obtain ⟨t'',rfl⟩:=r''
        refine call_range_3 (by omega) (stepped_it I1 (small_step b1 b2 b3 b4 b5 b6) en q) (.inl ?_)
        exact PyProof.noPylong_small (by omega)
end
theorem comp_step {lo c:Int} {n:Nat} {D:Addr} {g:TG} {te:TE} {σY:St} {H1:Hp} {Q:VK} (Pv:Nat->St->Hp->Prop) (h0:Pv 0 σY H1)
    (hs:∀ i σ H,i<n->Pv i σ H->g (.int (lo+i*c)) σ H fun σ3 H3=>te σ3 H3 fun v H4=>∃ ys,H4 D=some (.lst ys)/\ys.length<sizeLine/\Pv (i+1) σ3 (upd H4 D (.lst (ys++[v])))) (hd:∀ σ H,Pv n σ H->Q (.ref D) H) :
    CompW (ItS lo c n) g te σY H1 D Q:=by
  refine ⟨fun i m σ H=>m+i=n/\Pv i σ H,⟨n,rfl,h0⟩,?_⟩
  rintro i m σ H ⟨e,p⟩
  by_cases hlt:i<n
  · refine .inr ⟨hlt,Pv (i+1),fun σ' H' p'=>⟨m-1,by omega,by omega,p'⟩,fun x H' y=>?_⟩
    obtain ⟨z,y⟩:=y
    subst z y
    exact hs i σ _ hlt p
  · cases (show i=n by omega)
    exact .inl ⟨Nat.le_refl _,hd σ H p⟩
end L2
namespace L2
open PySem PySem.Spec PyProof.Rows
theorem at_last {ns:List Int} (h:0<ns.length):atI (ns.map V.int) (-1)=some (.int (ns.getD (ns.length-1) 0)):=by
  unfold atI ixN
  rw [if_neg (by decide),if_pos (by rw [List.length_map];omega)]
  rw [List.length_map]
  show (ns.map V.int)[((-1:Int)+ns.length).toNat]?=_
  rw [show ((-1:Int)+ns.length).toNat=ns.length-1 by omega,List.getElem?_map,List.getD_eq_getElem?_getD,List.getElem?_eq_getElem (show ns.length-1<ns.length by omega)]
  rfl
section
variable {X:Cx}
theorem for_step {lo c:Int} {n:Nat} {g:TG} {tb:TS} {D:Ends} {σ:St} {H:Hp} (Pv:Nat->St->Hp->Prop) (h0:Pv 0 σ H)
    (hs:∀ i σ H,i<n->Pv i σ H->g (.int (lo+i*c)) σ H fun σ2 H2=>tb { D with nx:=Pv (i+1),ct:=Pv (i+1),bk:=D.nx } σ2 H2) (hd:∀ σ H,Pv n σ H->D.nx σ H) :
    ∃ W:Nat->Nat->St->Hp->Prop,(∃ m,W 0 m σ H)/\∀ i m σ H,W i m σ H ->
      ((ItS lo c n).stop i H/\D.nx σ H)∨((ItS lo c n).go i H/\∃ N:St->Hp->Prop,(∀ σ' H',N σ' H'->∃ m',m'<m/\W (i+1) m' σ' H')/\∀ x H',(ItS lo c n).yld i H x H'->g x σ H' fun σ2 H2=>tb { D with nx:=N,ct:=N,bk:=D.nx } σ2 H2):=by
  refine ⟨fun i m σ H=>m=n-i/\i<=n/\Pv i σ H,⟨n,by simp,Nat.zero_le _,h0⟩,?_⟩
  rintro i m σ H ⟨rfl,hi,p⟩
  by_cases hlt:i<n
  · refine .inr ⟨hlt,Pv (i+1),fun σ' H' p'=>⟨n-(i+1),by omega,rfl,hlt,p'⟩,fun x H' y=>?_⟩
    obtain ⟨e,y⟩:=y
    subst e y
    exact hs i σ _ hlt p
  · have e:i=n:=by omega
    subst e
    exact .inl ⟨Nat.le_refl _,hd σ H p⟩
end
end L2
namespace L2
open PySem PySem.Spec PyProof.Rows
section
variable {X:Cx} {pins:List (Addr×Obj)} {σ σ':St} {H H':Hp} {s s':Shared} {a:Addr} {xs:List V}
end
end L2
namespace L2
open PySem PySem.Spec PyProof.Rows
section
variable {X:Cx}
end
end L2
namespace L2
open PySem PySem.Spec PyProof.Rows
section
variable {X:Cx} {pins:List (Addr×Obj)} {σ:St} {H:Hp} {s:Shared}
theorem kit_of {x:V} {u t:Value} (I:Inv X pins σ H s) (rx:RelV x u) (ty:TyOf X.K H x t):∃ Z:Heap->Prop,PySem.W.KitX X.K u t Z/\Z s.heap/\u≠.builtin "__main__.__loader__#opaque":=by
  cases ty with
  | non=>cases (show u=Value.none from rx);exact ⟨_,PySem.W.kitx_none,True.intro,fun z=>nomatch z⟩
  | bl y=>cases (show u=Value.bool y from rx);exact ⟨_,PySem.W.kitx_bool,True.intro,fun z=>nomatch z⟩
  | int i=>obtain ⟨t,q⟩:=(show ∃ t,u=Value.int i t from rx);cases q;exact ⟨_,PySem.W.kitx_int,True.intro,fun z=>nomatch z⟩
  | str y=>obtain ⟨t,q⟩:=(show ∃ t,u=Value.str y t from rx);cases q;exact ⟨_,PySem.W.kitx_str,True.intro,fun z=>nomatch z⟩
  | flt y=>obtain ⟨t,q⟩:=(show ∃ t,u=Value.float y t from rx);cases q;exact ⟨_,PySem.W.kitx_float,True.intro,fun z=>nomatch z⟩
  | @lst a xs ea =>
    cases (show u=Value.ref a from rx)
    obtain ⟨_,_,n,_,e1⟩:=(show ObjOk X.prog X.w H s.heap a (.lst xs) from I.hok a _ ea)
    exact ⟨_,PySem.W.kitx_list,⟨_,e1,rfl⟩,fun z=>nomatch z⟩
  | @frz a ob xs ea =>
    cases (show u=Value.ref a from rx)
    obtain ⟨_,_,_,n,_,e1⟩:=(show ObjOk X.prog X.w H s.heap a (.frz ob (.lst xs)) from I.hok a _ ea)
    exact ⟨_,PySem.W.kitx_list,⟨_,e1,rfl⟩,fun z=>nomatch z⟩
  | @tup a xs ea =>
    cases (show u=Value.ref a from rx)
    obtain ⟨_,_,_,p⟩:=(show ObjOk X.prog X.w H s.heap a (.tup xs) from I.hok a _ ea)
    obtain ⟨o,e1,e2,_⟩:=p
    exact ⟨_,PySem.W.kitx_tuple,⟨o,e1,e2⟩,fun z=>nomatch z⟩
  | @dK a kvs ea =>
    cases (show u=Value.ref a from rx)
    obtain ⟨_,_,vs,_,p⟩:=(show ObjOk X.prog X.w H s.heap a (.dK kvs) from I.hok a _ ea)
    obtain ⟨o,es,ep,e1,e2,_⟩:=p
    exact ⟨_,PySem.W.kitx_dict,⟨o,e1,e2.1⟩,fun z=>nomatch z⟩
  | @dT a kvs ea =>
    cases (show u=Value.ref a from rx)
    obtain ⟨_,_,xs,_,p⟩:=(show ObjOk X.prog X.w H s.heap a (.dT kvs) from I.hok a _ ea)
    obtain ⟨o,es,ep,e1,e2,_⟩:=p
    exact ⟨_,PySem.W.kitx_dict,⟨o,e1,e2.1⟩,fun z=>nomatch z⟩
  | @ins a C dx fs ea cl ha hn htk hm =>
    cases (show u=Value.ref a from rx)
    obtain ⟨mA,O,_⟩:=ins_get I.hok ea
    obtain ⟨od,J,_⟩:=O.look
    exact ⟨_,PySem.W.kitx_own (cl.get _) cl.hd ha hn htk hm,J,fun z=>nomatch z⟩
def clsV:V->Value
  | .ref a=>.ref a
  | .ty n=>.type n
  | _=>.none
def isClsV:V->Bool
  | .ref _=>true
  | .ty _=>true
  | _=>false
theorem vals_cls:∀ {cs:List V} {us:List Value},cs.all isClsV=true->Vals cs us->us=cs.map clsV
  | [],_,_,.nil=>rfl
  | c::cs,_,h,.cons r rr=>by
    rw [List.all_cons,Bool.and_eq_true] at h
    rw [vals_cls h.2 rr]
    cases c with
    | ref a=>cases (show _=Value.ref a from r);rfl
    | ty n=>cases (show _=Value.type n from r);rfl
    | _=>cases h.1
def rIsiT (K:PySem.W.Frag):List V->Hp->VK->Prop:=fun vs H Q=>∃ (x:V) (tp:Addr) (cs:List V) (t:Value) (b:Bool),vs=[x,.ref tp]/\H tp=some (.tup cs)/\cs.all isClsV=true/\TyOf K H x t/\PySem.W.kitAny K t (cs.map clsV)=some b/\Q (.bl b) H
theorem call_isinstT:CallR X (.builtin "isinstance") (rIsiT X.K):=by
  intro pins s σ H xs us Q I r h
  obtain ⟨x,tp,cs,t,b,rfl,et,hc,ty,e,q⟩:=h
  obtain ⟨u,w',rfl,ru,rw'⟩:=vals2 r
  cases (show w'=Value.ref tp from rw')
  obtain ⟨Z,kx,hz,nl⟩:=kit_of I ru ty
  obtain ⟨_,its,rv,⟨cls,dd,data,sl⟩,e1,e2,n,e3⟩:=(show ObjOk X.prog X.w H s.heap tp (.tup cs) from I.hok tp _ et)
  simp only at e2 e3
  subst e2 e3
  rw [← vals_cls hc rv] at e
  exact PySem.W.kia_tup kx I.kIn hz e1 e nl fun tk=>⟨.bl b,H,I.tok _,rfl,q⟩
end
section
variable {prog:Program} {w:World} {A:Around} {E:Value->Shared->Prop} {s:Shared}
end
section
variable {X:Cx} {pos:Pos}
end
end L2
namespace L2
open PySem PySem.Spec PyProof.Rows
section
variable {X:Cx} {pins:List (Addr×Obj)} {σ:St} {H:Hp} {s:Shared} {h':Heap}
theorem Inv.turnedT {its:List Addr} {T:Addr} {o:HO} {t':Nat} (I:Inv X pins σ H s) (k:∀ b u,b ∉ its->s.heap.get? b=some u->h'.get? b=some u) (hf:∀ b∈its,FpOk X pins H b) (hT:s.heap.objs.size<=T) (new:ObjOk X.prog X.w (upd H T o) h' T o) :
    Inv X pins σ (upd H T o) { s with heap:=h',toks:=t' }:=by
  have fr:=I.hok.fresh hT
  have neT:∀ {b:Addr} {u:Obj},s.heap.get? b=some u->b≠T:=fun e=>Nat.ne_of_lt (Nat.lt_of_lt_of_le (Heap.lt_size e) hT)
  have ni:∀ {b:Addr} {u:HO},H b=some u->b ∉ its:=fun e m=>by rw [(hf _ m).1] at e;cases e
  refine I.step (g':=s.gens) (d':=s.drawn) (ch:=its) (fun b hb=>?_) (fun b u _ _ hc e _=>k b u hc e) (fun b u _ _ hc e _=>⟨u.slots,k b u hc e⟩) (fun b u _ e n=>by rw [zo (neT e)];exact n)
    (fun b u hc e=>⟨u,k b u hc e⟩) (fun b ys e=>by rw [zo (zw e fr)];exact e) (fun b u v e=>by rw [zo (zw e fr)];exact e) (fun b ps e=>⟨#[],by rw [zo (zw e fr),e];simp⟩) (fun m hm=>?_) (fun b u e=>?_) I.bare
  · obtain ⟨_,f1,_,f3,f4,f5⟩:=hf b hb
    exact ⟨f3,f1,f4,f5⟩
  · obtain ⟨ob,es,ep,ho,r⟩:=hm
    exact ⟨ob,es,ep,k _ ob (fun m=>(hf _ m).2.1 rfl) ho,r⟩
  · by_cases hb:b=T
    · subst hb;rw [zg] at e;cases e;exact new
    · rw [zo hb] at e
      refine (I.hok b u e).stay (fun c v hc q=>k c v ?_ q) (fun c q=>by rw [zo (zw q fr)];exact q) fun c ys q=>by rw [zo (zw q fr)];exact q
      rcases hc with z | z
      · rw [z];exact ni e
      · exact ni z
theorem Inv.turnedL {its:List Addr} {t':Nat} (I:Inv X pins σ H s) (k:∀ b u,b ∉ its->s.heap.get? b=some u->h'.get? b=some u) (hf:∀ b∈its,FpOk X pins H b):Inv X pins σ H { s with heap:=h',toks:=t' }:=by
  have ni:∀ {b:Addr} {u:HO},H b=some u->b ∉ its:=fun e m=>by rw [(hf _ m).1] at e;cases e
  refine I.step (g':=s.gens) (d':=s.drawn) (ch:=its) (fun b hb=>?_) (fun b u _ _ hc e _=>k b u hc e) (fun b u _ _ hc e _=>⟨u.slots,k b u hc e⟩) (fun _ _ _ _ n=>n)
    (fun b u hc e=>⟨u,k b u hc e⟩) (fun _ _ e=>e) (fun _ _ _ e=>e) (fun b ps e=>⟨#[],by rw [e];simp⟩) (fun m hm=>?_) (fun b u e=>?_) I.bare
  · obtain ⟨_,f1,_,f3,f4,f5⟩:=hf b hb
    exact ⟨f3,f1,f4,f5⟩
  · obtain ⟨ob,es,ep,ho,r⟩:=hm
    exact ⟨ob,es,ep,k _ ob (fun m=>(hf _ m).2.1 rfl) ho,r⟩
  · refine (I.hok b u e).stay (fun c v hc q=>k c v ?_ q) (fun _ q=>q) fun _ _ q=>q
    rcases hc with z | z
    · rw [z];exact ni e
    · exact ni z
end
def Itz (K:PySem.W.Frag) (l1 l2:Addr):It :=
  ⟨fun i H=>∃ xs ys x y,SqL K H l1 xs/\SqL K H l2 ys/\xs[i]?=some x/\ys[i]?=some y,
   fun i H x H'=>∃ T u v,x=.ref T/\H T=none/\H'=upd H T (.tup [u,v])/\∀ xs ys,SqL K H l1 xs->SqL K H l2 ys->xs[i]?=some u/\ys[i]?=some v,
   fun i H=>∃ xs ys,SqL K H l1 xs/\SqL K H l2 ys/\(xs.length<=i∨ys.length<=i)⟩
theorem turn_zip {P:Program} {w:World} {K:PySem.W.Frag} {es:List Expr} {kt:Nat} {pos:Pos} {z TI TO i1 i2 l1 l2:Addr} (D:ZipApart z TI TO i1 i2 l1 l2) :
    Turn P w K (.Tuple es kt pos) (Itz K l1 l2) [z,TI,TO,i1,i2] z (fun i h=>IsZip h z TI TO .none/\IsPair h TI (.ref i1) (.ref i2)/\(∃ a b,IsPair h TO a b)/\h.IsListIter i1 l1 i/\h.IsListIter i2 l2 i) where
  mem:=by simp
  obj:=fun i h st b hb=>by
    obtain ⟨hz,hI,⟨a,b',hO⟩,⟨o1,e1,c1,d1⟩,⟨o2,e2,c2,d2⟩⟩:=st
    simp at hb
    rcases hb with rfl | rfl | rfl | rfl | rfl
    · exact ⟨_,hz,fun v q=>by cases q⟩
    · exact ⟨_,hI,fun v q=>by cases q⟩
    · exact ⟨_,hO,fun v q=>by cases q⟩
    · exact ⟨_,e1,fun v q=>by rw [d1] at q;cases q⟩
    · exact ⟨_,e2,fun v q=>by rw [d2] at q;cases q⟩
  keep:=fun i h h' st k=>by
    obtain ⟨hz,hI,⟨a,b',hO⟩,h1,h2⟩:=st
    exact ⟨k z (by simp) _ hz,k TI (by simp) _ hI,⟨a,b',k TO (by simp) _ hO⟩,h1.at fun o e=>k i1 (by simp) o e,h2.at fun o e=>k i2 (by simp) o e⟩
  item:=by
    intro X hP hw hK hc i pins s σ H E I hf st hg
    subst hP hw hK
    obtain ⟨hz,hI,⟨a,b',hO⟩,h1,h2⟩:=st
    obtain ⟨xs,ys,x,y,q1,q2,ex,ey⟩:=hg
    obtain ⟨is1,r1,p1,_⟩:=I.list q1
    obtain ⟨is2,r2,p2,_⟩:=I.list q2
    obtain ⟨u,hu,ru⟩:=r1.get ex
    obtain ⟨v,hv,rv⟩:=r2.get ey
    refine wpAny_pyNext_zip_item D hz hI hO h1 h2 p1.isList p2.isList (x:=u) (y:=v) (by simpa using hu) (by simpa using hv) fun h1' a1 a2 a3 a4 a5 a6 hk=>?_
    refine ⟨_,rfl,wpAny_letOwnedTupleGo_zip (s:={ s with heap:=h1' }) a1 fun h2' z' sb=>?_⟩
    have lt:∀ {c:Addr} {o:Obj},s.heap.get? c=some o->c≠s.heap.objs.size:=fun e=>Nat.ne_of_lt (Heap.lt_size e)
    have Tz:s.heap.objs.size≠z:=(lt hz).symm
    have fr:=I.hok.fresh (Nat.le_refl _)
    refine ⟨.ref s.heap.objs.size,upd H s.heap.objs.size (.tup [x,y]),I.turnedT (its:=[z,TI,TO,i1,i2]) (t':=s.toks) (fun b o nb e=>?_) hf (Nat.le_refl _) ⟨by show 2<=sizeLine;decide,[u,v],.cons ru (.cons rv .nil),_,sb.extBut _ _ Tz a5,rfl,_,rfl⟩,rfl,⟨s.heap.objs.size,x,y,rfl,fr,rfl,fun xs' ys' q1' q2'=>?_⟩,?_,fun b hb=>?_⟩
    · have nb':b≠z/\b≠TI/\b≠TO/\b≠i1/\b≠i2:=by simpa using nb
      exact sb.extBut _ _ nb'.1 (hk b o nb'.1 nb'.2.2.1 nb'.2.2.2.1 nb'.2.2.2.2 e)
    · rw [I.list_inj q1' q1,I.list_inj q2' q2];exact ⟨ex,ey⟩
    · exact ⟨z',sb.extBut _ _ D.TIz (hk _ _ D.TIz D.TITO D.TIi1 D.TIi2 hI),⟨_,_,sb.extBut _ _ D.TOz a2⟩,a3.extBut sb.extBut D.i1z,a4.extBut sb.extBut D.i2z⟩
    · have e:=(hf b hb).1
      have:∃ o,s.heap.get? b=some o:=by
        simp at hb
        rcases hb with rfl | rfl | rfl | rfl | rfl
        · exact ⟨_,hz⟩
        · exact ⟨_,hI⟩
        · exact ⟨_,hO⟩
        · obtain ⟨o,e,_⟩:=h1;exact ⟨o,e⟩
        · obtain ⟨o,e,_⟩:=h2;exact ⟨o,e⟩
      obtain ⟨o,eo⟩:=this
      rw [zo (lt eo)];exact e
  done:=by
    intro X hP hw hK hc i pins s σ H E I hf st hg
    subst hP hw hK
    obtain ⟨hz,hI,⟨a,b',hO⟩,h1,h2⟩:=st
    obtain ⟨xs,ys,q1,q2,le⟩:=hg
    obtain ⟨is1,r1,p1,_⟩:=I.list q1
    obtain ⟨is2,r2,p2,_⟩:=I.list q2
    have g1:=r1.length
    have g2:=r2.length
    refine wpAny_pyNext_zip_end (I.ok.hd hc) D hz hI hO h1 h2 p1.isList p2.isList (by rcases le with le | le;exact .inl (by simp;omega);exact .inr (by simp;omega)) fun h1' hk=>⟨rfl,I.turnedL (its:=[z,TI,TO,i1,i2]) (t':=s.toks) (fun b o nb e=>?_) hf⟩
    have nb':b≠z/\b≠TI/\b≠TO/\b≠i1/\b≠i2:=by simpa using nb
    exact hk b o nb'.1 nb'.2.2.1 nb'.2.2.2.1 nb'.2.2.2.2 e
  self:=fun _ _ _ _ _ st h=>wpAny_pyIter_zip st.1 h
section
variable {X:Cx} {es:List Expr} {kt:Nat} {tp:Pos}
def iZip (K:PySem.W.Frag) (ta:TA):TI:=fun σ H R=>ta σ H fun vs H1=>∃ l1 l2,vs=[.ref l1,.ref l2]/\(∃ xs,SqL K H1 l1 xs)/\(∃ ys,SqL K H1 l2 ys)/\R (Itz K l1 l2) H1
theorem pi_zip {a b:Expr} {ta:TA} {p pos:Pos} (hg:Gl X "zip") (hm:X.mg "zip"=none) (ha:PA X [a,b] ta) (hs:starEach [a,b] X.env=[(false,eval a X.env),(false,eval b X.env)]:=by rfl)
    (hs2:starEach [b] X.env=[(false,eval b X.env)]:=by rfl):PI X (.Tuple es kt tp) (.Call (.Name "zip" p) [a,b] [] pos) (iZip X.K ta):=by
  intro pins s σ H R I h
  refine Call_ (ld_blt I hg hm boot_zip (PyProof.Rows.callWith_type1 (thn (ha pos pins s σ H _ I h) fun us s1 ⟨vs,H1,I1,r1,q1⟩=>?_) (by rw [hs,hs2]) (by rw [hs2];rfl)))
  obtain ⟨l1,l2,e,⟨xs,x1⟩,⟨ys,x2⟩,q⟩:=q1
  subst e
  obtain ⟨u,v,rfl,ru,rv⟩:=vals2 r1
  cases (show u=Value.ref l1 from ru)
  cases (show v=Value.ref l2 from rv)
  obtain ⟨is1,g1,p1,_⟩:=I1.list x1
  obtain ⟨is2,g2,p2,_⟩:=I1.list x2
  have L1:l1<s1.heap.objs.size:=by obtain ⟨_,e,_⟩:=p1.isList;exact Heap.lt_size e
  have L2:l2<s1.heap.objs.size:=by obtain ⟨_,e,_⟩:=p2.isList;exact Heap.lt_size e
  refine call_zip_2 p1.isList p2.isList fun h' a1 a2 a3 a4 a5 a6 hk=>?_
  refine wpAny_pyIter_zip (s:={ s1 with heap:=h' }) a1 ?_
  have J:Inv X pins σ H1 { s1 with heap:=h' }:=I1.kept (t':=s1.toks) fun b o e=>hk b o e
  have fp:∀ n,FpOk X pins H1 (s1.heap.objs.size+n):=fun n=>I1.fpOk (Nat.le_add_right _ _) (I1.hok.fresh (Nat.le_add_right _ _))
  refine ⟨_,_,_,_,H1,rfl,J,turn_zip (zipApart_new L1 L2),⟨a1,a2,⟨_,_,a3⟩,a4,a5⟩,fun b hb=>?_,q⟩
  simp at hb
  rcases hb with rfl | rfl | rfl | rfl | rfl
  · exact fp 4
  · exact fp 2
  · exact fp 3
  · exact fp 0
  · exact fp 1
end
theorem for_zip {K:PySem.W.Frag} {l1 l2:Addr} {xs ys:List V} {g:TG} {tb:TS} {D:Ends} {σ:St} {H:Hp} (Pv:Nat->St->Hp->Prop) (h0:Pv 0 σ H) (hl:∀ i σ H,i<=xs.length->Pv i σ H->SqL K H l1 xs/\SqL K H l2 ys) (he:ys.length=xs.length)
    (hs:∀ i x y σ H T,xs[i]?=some x->ys[i]?=some y->Pv i σ H->H T=none->g (.ref T) σ (upd H T (.tup [x,y])) fun σ2 H2=>tb { D with nx:=Pv (i+1),ct:=Pv (i+1),bk:=D.nx } σ2 H2) (hd:∀ σ H,Pv xs.length σ H->D.nx σ H) :
    ∃ W:Nat->Nat->St->Hp->Prop,(∃ m,W 0 m σ H)/\∀ i m σ H,W i m σ H ->
      ((Itz K l1 l2).stop i H/\D.nx σ H)∨((Itz K l1 l2).go i H/\∃ N:St->Hp->Prop,(∀ σ' H',N σ' H'->∃ m',m'<m/\W (i+1) m' σ' H')/\∀ x H',(Itz K l1 l2).yld i H x H'->g x σ H' fun σ2 H2=>tb { D with nx:=N,ct:=N,bk:=D.nx } σ2 H2):=by
  refine ⟨fun i m σ H=>m=xs.length-i/\i<=xs.length/\Pv i σ H,⟨xs.length,by simp,Nat.zero_le _,h0⟩,?_⟩
  rintro i m σ H ⟨rfl,hi,p⟩
  obtain ⟨q1,q2⟩:=hl i σ H hi p
  by_cases hlt:i<xs.length
  · refine .inr ⟨⟨xs,ys,xs[i],ys[i],q1,q2,by simp [hlt],by simp [he,hlt]⟩,Pv (i+1),fun σ' H' p'=>⟨xs.length-(i+1),by omega,rfl,hlt,p'⟩,fun x H' y=>?_⟩
    obtain ⟨T,u,v,e,nT,e',y⟩:=y
    subst e e'
    obtain ⟨y1,y2⟩:=y xs ys q1 q2
    exact hs i u v σ H T y1 y2 p nT
  · have e:i=xs.length:=by omega
    subst e
    exact .inl ⟨⟨xs,ys,q1,q2,.inl (Nat.le_refl _)⟩,hd σ H p⟩
end L2
namespace L2
open PySem PySem.Spec PyProof.Rows
end L2
namespace L2
open PySem PySem.Spec PyProof.Rows
section
variable (P:Program) (w:World)
end
section
variable {P:Program} {w:World} {H H':Hp} {h h':Heap} {a:Addr} {o:HO}
end
section
variable {P:Program} {w:World} {H:Hp} {h h':Heap} {x e:Addr} {o':HO}
end
section
variable {fs fs' ex ex':List Addr} {H H1 H2:Hp} {h h1 h2 h':Heap} {a x e:Addr} {o:HO}
end
end L2
namespace L2
open PySem PySem.Spec PyProof.Rows
section
variable {X:Cx} {pins:List (Addr×Obj)} {σ:List (Option V)} {H H':Hp} {s:Shared} {h':Heap}
end
end L2
namespace L2
open PySem PySem.Spec PyProof.Rows
section
variable {X:Cx}
variable {a b:Expr} {ta tb:TE} {pos:Pos}
variable {tA tB':TT} {rest:List Expr}
end
end L2
namespace L2
open PySem PySem.Spec PyProof.Rows
section
variable {X:Cx} {pins:List (Addr×Obj)} {σ:St} {H:Hp} {s:Shared} {a:Addr} {xs ys:List V}
end
section
variable {X:Cx} {pins:List (Addr×Obj)} {σ:St} {H:Hp} {s:Shared} {E:Value->Shared->Prop}
end
section
variable {X:Cx} {st:Stmt} {rest:List Stmt} {t u:TS} {e:Expr} {te:TE} {pos:Pos}
end
section
variable {X:Cx} {pos:Pos}
end
section
variable {X:Cx} {pos:Pos}
end
end L2
namespace L2
open PySem PySem.Spec PyProof.Rows
section
variable {X:Cx} {tg:Expr}
end
end L2
namespace L2
open PySem PySem.Spec PyProof.Rows
section
variable {X:Cx} {a b c:Expr} {ta tb tc:TE} {pos:Pos}
end
section
variable {X:Cx} {a b c:Expr} {ta tb tc:TE} {pos:Pos}
end
end L2
namespace L2
open PySem PySem.Spec PyProof.Rows
section
variable {prog:Program} {w:World} {A:Around} {E:Value->Shared->Prop} {s:Shared} {K:PySem.W.Frag} {x dx C f:Addr} {mA:Str->Option Value} {name:Str} {v:Value}
end
section
variable {P:Program} {w:World} {H H':Hp} {h h':Heap} {a C dx:Addr} {fs fs':List (Str×V)}
end
section
variable {X:Cx} {pins:List (Addr×Obj)} {σ:St} {H:Hp} {s:Shared} {a C dx:Addr} {fs:List (Str×V)} {f:Str} {v:V} {A:Around} {E:Value->Shared->Prop}
end
section
variable {X:Cx} {o e value:Expr} {f:Str} {pos pos' tpos:Pos} {ta tv:TE}
end
section
variable {X:Cx} {pins:List (Addr×Obj)} {σ:St} {H:Hp} {s:Shared} {A:Around} {E:Value->Shared->Prop} {Q:Value->Shared->Prop} {c:Value} {b:Bool}
end
end L2
namespace L2
open PySem PySem.Spec PyProof.Rows
section
variable {X:Cx} {e:Expr} {es:List Expr} {te:TE} {t:TA} {pos:Pos}
end
section
variable {X:Cx} {pins:List (Addr×Obj)} {σ:St} {H:Hp} {s s':Shared}
end
section
variable {X:Cx} {CX:CXT} {k:Nat} {f C:Addr} {fd:FuncData} {ps:List Str} {sp:Sp} {dvs:List V} {ds:List Value} {E:XK} {x m:Str} {p pos apos:Pos} {e o:Expr} {es:List Expr} {ta:TE} {t:TA}
end
section
variable {X:Cx} {CX:CXT} {k:Nat} {f C:Addr} {fd:FuncData} {ps ks:List Str} {sp:Sp} {E:XK} {x m:Str} {p pos apos kpos:Pos} {e o:Expr} {es:List Expr} {kws:List Keyword} {te ta:TE} {t tk:TA} {nm:Option Str}
variable {g:List Value->List Value->List Value} {gV:List V->List V->List V}
end
end L2
namespace L2
open PySem PySem.Spec PyProof.Rows
section
variable {X:Cx} {x:Str} {p pos:Pos} {e:Expr} {es:List Expr} {t:TA} {id T:String} {r:List V->Hp->VK->Prop}
end
end L2
namespace L2
open PySem PySem.Spec PyProof.Rows
section
variable {κ:Type} [DecidableEq κ]
def yE (kvs:List (κ×V)) (k:κ):Option V:=(kvs.find? fun kv=>decide (kv.1=k)).map (·.2)
def putK (kvs:List (κ×V)) (k:κ) (v:V):List (κ×V) :=
  if (kvs.any fun kv=>decide (kv.1=k))=true then kvs.map (fun kv=>if kv.1=k then (kv.1,v) else kv) else kvs++[(k,v)]
theorem yR {p:κ×V} {r:List (κ×V)} {k:κ} (e:p.1=k):yE (p::r) k=some p.2:=by simp [yE,List.find?_cons,e]
theorem yS {p:κ×V} {r:List (κ×V)} {k:κ} (e:¬ p.1=k):yE (p::r) k=yE r k:=by simp [yE,List.find?_cons,e]
theorem valV_any (k:κ):∀ kvs:List (κ×V),(kvs.any fun kv=>decide (kv.1=k))=(yE kvs k).isSome
  | []=>rfl
  | p::r=>by
    rw [List.any_cons]
    by_cases e:p.1=k
    · simp only [yR e,decide_eq_true e,Bool.true_or,Option.isSome_some]
    · rw [yS e,decide_eq_false e,Bool.false_or];exact valV_any k r
theorem valV_map (k j:κ) (y:V):∀ kvs:List (κ×V),yE (kvs.map fun kv=>if kv.1=k then (kv.1,y) else kv) j=(yE kvs j).map fun x=>if j=k then y else x
  | []=>rfl
  | p::r=>by
    have ih:=valV_map k j y r
    rw [List.map_cons]
    by_cases h:p.1=k
    · rw [if_pos h]
      by_cases e:p.1=j
      · rw [yR (p:=(p.1,y)) e,yR e,Option.map_some,if_pos (e.symm.trans h)]
      · rw [yS (p:=(p.1,y)) e,yS e,ih]
    · rw [if_neg h]
      by_cases e:p.1=j
      · rw [yR (p:=p) e,yR e,Option.map_some,if_neg (fun z=>h (e.trans z))]
      · rw [yS (p:=p) e,yS e,ih]
theorem valV_snoc (k j:κ) (y:V):∀ kvs:List (κ×V),yE kvs k=none->yE (kvs++[(k,y)]) j=if j=k then some y else yE kvs j
  | [],_=>by
    by_cases e:k=j
    · rw [if_pos e.symm];exact yR (p:=(k,y)) e
    · rw [if_neg (fun z=>e z.symm)];exact yS (p:=(k,y)) e
  | p::r,hn=>by
    rw [List.cons_append]
    have hk:¬ p.1=k:=fun z=>by rw [yR z] at hn;cases hn
    rw [yS hk] at hn
    have ih:=valV_snoc k j y r hn
    by_cases e:p.1=j
    · rw [yR e,yR e,if_neg (fun z=>hk (e.trans z))]
    · rw [yS e,yS e,ih]
theorem valV_put (kvs:List (κ×V)) (k j:κ) (y:V):yE (putK kvs k y) j=if j=k then some y else yE kvs j:=by
  unfold putK
  by_cases a:(kvs.any fun kv=>decide (kv.1=k))=true
  · rw [if_pos a,valV_map]
    rw [valV_any] at a
    by_cases e:j=k
    · obtain ⟨x,hx⟩:=Option.isSome_iff_exists.mp a
      rw [if_pos e,e,hx,Option.map_some,if_pos rfl]
    · rw [if_neg e]
      cases yE kvs j with
      | none=>rfl
      | some x=>rw [Option.map_some,if_neg e]
  · rw [if_neg a]
    refine valV_snoc k j y kvs ?_
    rw [valV_any] at a
    cases q:yE kvs k with
    | none=>rfl
    | some x=>rw [q] at a;exact (a rfl).elim
theorem Za (kvs:List (κ×V)) (k:κ) (v:V):(putK kvs k v).length<=kvs.length+1:=by
  unfold putK
  split
  · rw [List.length_map];omega
  · rw [List.length_append,List.length_cons,List.length_nil];omega
theorem RelO.isSome_eq {o:Option V} {u:Option Value} (r:RelO o u):o.isSome=u.isSome:=by
  cases o with
  | none=>cases u with
    | none=>rfl
    | some _=>exact (show False from r).elim
  | some _=>cases u with
    | none=>exact (show False from r).elim
    | some _=>rfl
theorem RelO.getD {o:Option V} {u:Option Value} {d:V} {d':Value} (r:RelO o u) (rd:RelV d d'):RelV (o.getD d) (u.getD d'):=by
  cases o with
  | none=>cases u with
    | none=>exact rd
    | some _=>exact (show False from r).elim
  | some _=>cases u with
    | none=>exact (show False from r).elim
    | some _=>exact r
theorem KV.val {kvs:List (κ×V)} {vs:List (κ×Value)} (r:KV kvs vs) (k:κ):RelO (yE kvs k) (valueAt vs k):=by
  unfold KV at r
  induction r with
  | nil=>exact True.intro
  | @cons p q ps qs h t ih =>
    obtain ⟨h1,h2⟩:=h
    by_cases e:p.1=k
    · have e':q.1=k:=h1.symm.trans e
      have b:valueAt (q::qs) k=some q.2:=by simp [valueAt,List.find?_cons,e']
      rw [yR e,b];exact h2
    · have e':¬ q.1=k:=fun z=>e (h1.trans z)
      have b:valueAt (q::qs) k=valueAt qs k:=by simp [valueAt,List.find?_cons,e']
      rw [yS e,b];exact ih
theorem KV.any {kvs:List (κ×V)} {vs:List (κ×Value)} (r:KV kvs vs) (k:κ):(kvs.any fun kv=>decide (kv.1=k))=vs.any fun kv=>decide (kv.1=k):=by
  unfold KV at r
  induction r with
  | nil=>rfl
  | cons h t ih=>rw [List.any_cons,List.any_cons,ih,h.1]
theorem KV.repl {kvs:List (κ×V)} {vs:List (κ×Value)} (r:KV kvs vs) (k:κ) {y:V} {u:Value} (ry:RelV y u) :
    KV (kvs.map fun kv=>if kv.1=k then (kv.1,y) else kv) (vs.map fun kv=>if kv.1=k then (kv.1,u) else kv):=by
  unfold KV at r ⊢
  induction r with
  | nil=>exact .nil
  | @cons p q ps qs h t ih =>
    rw [List.map_cons,List.map_cons]
    refine .cons ?_ ih
    obtain ⟨h1,h2⟩:=h
    by_cases e:p.1=k
    · rw [if_pos e,if_pos (h1.symm.trans e)];exact ⟨h1,ry⟩
    · rw [if_neg e,if_neg (fun z=>e (h1.trans z))];exact ⟨h1,h2⟩
theorem KV.put {kvs:List (κ×V)} {vs:List (κ×Value)} (r:KV kvs vs) (k:κ) {y:V} {u:Value} (ry:RelV y u):KV (putK kvs k y) (stored vs k u):=by
  unfold putK stored
  rw [r.any k]
  by_cases e:(vs.any fun kv=>decide (kv.1=k))=true
  · rw [if_pos e,if_pos e];exact r.repl k ry
  · rw [if_neg e,if_neg e];exact Paired.snoc r ⟨rfl,ry⟩
theorem KV.length {kvs:List (κ×V)} {vs:List (κ×Value)} (r:KV kvs vs):kvs.length=vs.length:=Paired.length r
end
theorem kV_is {P:Program} {w:World} {k:Key} {u:Value} (r:RelV (kV k) u):(zW P w).is k u=true:=by
  cases k with
  | inl i=>obtain ⟨t,e⟩:=(show ∃ t,u=Value.int i t from r);subst e;exact mixKind_int P w i t
  | inr x=>obtain ⟨t,e⟩:=(show ∃ t,u=Value.str x t from r);subst e;exact mixKind_str P w x t
theorem items_are {P:Program} {w:World}:∀ {ks:List Key} {us:List Value},Vals (ks.map kV) us->ItemsAre (zW P w) ks us
  | [],_,r=>by rw [List.map_nil] at r;cases r;exact .nil
  | k::ks,_,r=>by
    rw [List.map_cons] at r
    cases r with
    | cons h t=>exact .cons (kV_is h) (items_are t)
abbrev KT (H:Hp):List (List Key×V)->List (List Key×Addr×Value)->Prop:=Paired fun p q=>p.1=q.1/\H q.2.1=some (.tup (p.1.map kV))/\RelV p.2 q.2.2
theorem KT.val {H:Hp} {kvs:List (List Key×V)} {xs:List (List Key×Addr×Value)} (r:KT H kvs xs) (k:List Key):RelO (yE kvs k) ((atKey xs k).map (·.2)):=by
  induction r with
  | nil=>exact True.intro
  | @cons p q ps qs h t ih =>
    obtain ⟨h1,_,h2⟩:=h
    by_cases e:p.1=k
    · have e':q.1=k:=h1.symm.trans e
      have b:atKey (q::qs) k=some q.2:=by simp [atKey,List.find?_cons,e']
      rw [yR e,b];exact h2
    · have e':¬ q.1=k:=fun z=>e (h1.trans z)
      have b:atKey (q::qs) k=atKey qs k:=by simp [atKey,List.find?_cons,e']
      rw [yS e,b];exact ih
theorem KT.repl {H:Hp} {kvs:List (List Key×V)} {xs:List (List Key×Addr×Value)} (r:KT H kvs xs) (k:List Key) {y:V} {u:Value} (ry:RelV y u) :
    KT H (kvs.map fun kv=>if kv.1=k then (kv.1,y) else kv) (xs.map (putAt k u)):=by
  induction r with
  | nil=>exact .nil
  | @cons p q ps qs h t ih =>
    rw [List.map_cons,List.map_cons]
    refine .cons ?_ ih
    obtain ⟨h1,h2,h3⟩:=h
    unfold putAt
    by_cases e:p.1=k
    · rw [if_pos e,if_pos (h1.symm.trans e)];exact ⟨h1,h2,ry⟩
    · rw [if_neg e,if_neg (fun z=>e (h1.trans z))];exact ⟨h1,h2,h3⟩
theorem KT.put {H:Hp} {kvs:List (List Key×V)} {xs:List (List Key×Addr×Value)} (r:KT H kvs xs) (k:List Key) {b:Addr} {y:V} {u:Value} (hb:H b=some (.tup (k.map kV))) (ry:RelV y u) :
    KT H (putK kvs k y) (storedH xs k b u):=by
  have e:(kvs.any fun kv=>decide (kv.1=k))=(atKey xs k).isSome:=by
    rw [valV_any,(r.val k).isSome_eq,Option.isSome_map]
  unfold putK storedH
  rw [e]
  by_cases q:(atKey xs k).isSome=true
  · rw [if_pos q,if_pos q];exact r.repl k ry
  · rw [if_neg q,if_neg q];exact Paired.snoc r ⟨rfl,hb,ry⟩
theorem KT.keeps {H H':Hp} {kvs:List (List Key×V)} {xs:List (List Key×Addr×Value)} (r:KT H kvs xs) (ht:∀ b ys,H b=some (.tup ys)->H' b=some (.tup ys)):KT H' kvs xs :=
  Paired.mapP r fun _ _ z=>⟨z.1,ht _ _ z.2.1,z.2.2⟩
section
variable {P:Program} {w:World} {H:Hp} {h:Heap} {a:Addr}
theorem rd_of {u:HO} (ok:HOk P w H h) (e:Rd H a u):ObjOk P w H h a u:=e.ok ok
theorem dk_rd {kvs:List (Key×V)} (ok:HOk P w H h) (e:Rd H a (.dK kvs)):kvs.length<=sizeLine/\(a == sysModules)=false/\∃ vs,KV kvs vs/\h.DictOf (zW P w) a vs :=
  show ObjOk P w H h a (.dK kvs) from rd_of ok e
theorem dk_of {kvs:List (Key×V)} (ok:HOk P w H h) (e:H a=some (.dK kvs)):kvs.length<=sizeLine/\(a == sysModules)=false/\∃ vs,KV kvs vs/\h.DictOf (zW P w) a vs:=dk_rd ok (.inl e)
theorem key_of {ks:List Key} (ok:HOk P w H h) (e:H a=some (.tup (ks.map kV))):(tupleKind (zW P w)).is h ks a:=by
  obtain ⟨_,its,r,o,h1,h2,n,h3⟩:=(show ObjOk P w H h a (.tup (ks.map kV)) from ok a _ e)
  exact ⟨o,its.toArray,n,h1,h2,h3,by simpa using items_are r⟩
theorem dt_rd {kvs:List (List Key×V)} (ok:HOk P w H h) (e:Rd H a (.dT kvs)):kvs.length<=sizeLine/\(a == sysModules)=false /\
    ∃ xs,KT H kvs xs/\h.DictOfH (tupleKind (zW P w)) a xs:=by
  obtain ⟨z,y,xs,r,o,es,ep,h1,h2,h3,h4,h5⟩:=(show ObjOk P w H h a (.dT kvs) from rd_of ok e)
  refine ⟨z,y,xs,r,o,es,ep,h1,h2,h3,h4,fun x hx=>?_,h5⟩
  have all:∀ {l:List (List Key×V)} {m:List (List Key×Addr×Value)},KT H l m->∀ x∈m,(tupleKind (zW P w)).is h x.1 x.2.1:=by
    intro l m q
    induction q with
    | nil=>intro x hx;exact nomatch hx
    | @cons p q ps qs hq t ih =>
      intro x hx
      rcases List.mem_cons.mp hx with e | hx
      · subst e
        exact key_of ok (by rw [← hq.1];exact hq.2.1)
      · exact ih x hx
  exact all r x hx
theorem dt_of {kvs:List (List Key×V)} (ok:HOk P w H h) (e:H a=some (.dT kvs)):kvs.length<=sizeLine/\(a == sysModules)=false /\
    ∃ xs,KT H kvs xs/\h.DictOfH (tupleKind (zW P w)) a xs:=dt_rd ok (.inl e)
end
def DGet (H:Hp) (a:Addr) (y:V) (r:Option V):Prop :=
  (∃ kvs k,Rd H a (.dK kvs)/\y=kV k/\r=yE kvs k)∨∃ kvs k b,Rd H a (.dT kvs)/\y=.ref b/\H b=some (.tup (k.map kV))/\r=yE kvs k
def DPut (H:Hp) (a:Addr) (y v:V) (H':Hp):Prop :=
  (∃ kvs k,H a=some (.dK kvs)/\y=kV k/\kvs.length<sizeLine/\H'=upd H a (.dK (putK kvs k v))) ∨
  ∃ kvs k b,H a=some (.dT kvs)/\y=.ref b/\H b=some (.tup (k.map kV))/\kvs.length<sizeLine/\H'=upd H a (.dT (putK kvs k v))
theorem DGet.k {H:Hp} {a:Addr} {kvs:List (Key×V)} {k:Key} (e:H a=some (.dK kvs)):DGet H a (kV k) (yE kvs k):=.inl ⟨kvs,k,.inl e,rfl,rfl⟩
theorem DPut.k {H:Hp} {a:Addr} {kvs:List (Key×V)} {k:Key} {v:V} (e:H a=some (.dK kvs)) (hl:kvs.length<sizeLine):DPut H a (kV k) v (upd H a (.dK (putK kvs k v))):=.inl ⟨kvs,k,e,rfl,hl,rfl⟩
section
variable {X:Cx} {pins:List (Addr×Obj)} {σ:St} {H:Hp} {s:Shared} {a:Addr} {y v:V} {u r:Value} {o:Option V} {A:Around} {E:Value->Shared->Prop}
theorem Inv.big (I:Inv X pins σ H s):sysModules<s.heap.objs.size:=by
  have h:mainGlobals<s.heap.objs.size:=(I.mod.glob.keeps I.bk).lt
  exact Nat.lt_trans (by decide) h
theorem d_notIn {Q:Value->Shared->Prop} (hu:A.units+1<cLine) (I:Inv X pins σ H s) (g:DGet H a y o) (ry:RelV y u) (h:∀ s',Inv X pins σ H s'->Q (.bool (!o.isSome)) s') :
    wpAny (model X.prog X.w) A (compareOp .NotIn u (.ref a)) Q E s:=by
  rcases g with ⟨kvs,k,e,ey,l⟩ | ⟨kvs,k,b,e,ey,eb,l⟩
  · subst ey
    obtain ⟨z,hd,vs,rel,dd⟩:=dk_rd I.hok e
    refine wpAny_notIn_of (kV_is ry) hd dd.mapOf ?_
    rw [← (rel.val k).isSome_eq,← l]
    exact h _ (I.tok _)
  · subst ey
    cases (show u=Value.ref b from ry)
    obtain ⟨z,hd,xs,rel,dd⟩:=dt_rd I.hok e
    refine wpAny_notIn_heap (tupleKind_room_in1 hu) (key_of I.hok eb) hd dd ?_
    have q:=(rel.val k).isSome_eq
    rw [Option.isSome_map] at q
    rw [← q,← l]
    exact h _ (I.tok _)
theorem d_write {h':Heap} {t':Nat} {ob:HO} (I:Inv X pins σ H s) (mu:Mut (H a)) (hs:Heap.SameBut a s.heap h') (he:∃ q,h'.get? a=some q) (new:ObjOk X.prog X.w (upd H a ob) h' a ob) :
    Inv X pins σ (upd H a ob) { s with heap:=h',toks:=t' } :=
  I.write (x:=a) (e:=a) mu (.inl rfl) (fun b q hb z=>(hs.2 b hb).trans z) he new
theorem dk_new {P:Program} {w:World} {H':Hp} {h':Heap} {kvs:List (Key×V)} {vs:List (Key×Value)} (z:kvs.length<=sizeLine) (hd:(a == sysModules)=false) (rel:KV kvs vs) (dd:h'.DictOf (zW P w) a vs) :
    ObjOk P w H' h' a (.dK kvs):=⟨z,hd,vs,rel,dd⟩
theorem d_setItem {H':Hp} {Q:Unit->Shared->Prop} (hu:A.units+1<cLine) (I:Inv X pins σ H s) (g:DPut H a y v H') (ry:RelV y u) (rv:RelV v r) (h:∀ s',Inv X pins σ H' s'->Q () s') :
    wpAny (model X.prog X.w) A (setItem (.ref a) u r) Q E s:=by
  rcases g with ⟨kvs,k,e,ey,l,eH⟩ | ⟨kvs,k,b,e,ey,eb,l,eH⟩
  · subst ey eH
    obtain ⟨z,hd,vs,rel,dd⟩:=dk_of I.hok e
    have hz:vs.length<=sizeLine:=by rw [← rel.length];exact z
    have hl:(putK kvs k v).length<=sizeLine:=by have:=Za kvs k v;omega
    refine wpAny_setItem_pairs (hsz:=hz) (kV_is ry) dd fun h' dd' hs=>h _ ?_
    have he:∃ q,h'.get? a=some q:=let ⟨q,_,_,hq,_⟩:=dd';⟨q,hq⟩
    exact d_write I (by rw [e];exact True.intro) hs he (dk_new hl hd (rel.put k rv) dd')
  · subst ey eH
    cases (show u=Value.ref b from ry)
    obtain ⟨z,hd,xs,rel,dd⟩:=dt_of I.hok e
    have hz:xs.length<=sizeLine:=by rw [← Paired.length rel];exact z
    have hl:(putK kvs k v).length<=sizeLine:=by have:=Za kvs k v;omega
    refine wpAny_setItem_heap (hsz:=hz) (tupleKind_room_in1 hu) (key_of I.hok eb) dd fun h' dd' hs=>h _ ?_
    obtain ⟨q,es,ep,hq,h2,h3,h4,_,h5⟩:=dd'
    refine d_write I (by rw [e];exact True.intro) hs ⟨q,hq⟩ ⟨hl,hd,_,(rel.put k eb rv).keeps fun c ys ec=>?_,q,es,ep,hq,h2,h3,h4,h5⟩
    rw [zo (ne_of ec e (fun z=>nomatch z))]
    exact ec
end
section
variable {X:Cx} {pins:List (Addr×Obj)} {σ:St} {H:Hp} {s:Shared} {a:Addr} {kvs:List (Key×V)} {k:Key} {u:Value} {A:Around} {E:Value->Shared->Prop}
end
def tDNotIn (ty td:TE):TE:=fun σ H Q=>ty σ H fun y H1=>td σ H1 fun x H2=>∃ a o,x=.ref a/\DGet H2 a y o/\Q (.bl (!o.isSome)) H2
def sDPut (td ty tv:TE):TS:=fun D σ H=>tv σ H fun v H1=>td σ H1 fun x H2=>ty σ H2 fun y H3=>∃ a H4,x=.ref a/\DPut H3 a y v H4/\D.nx σ H4
section
variable {X:Cx} {o i e value:Expr} {pos pos' tpos:Pos} {td ty tv:TE}
theorem pc_dnotin (hu:X.A.units+1<cLine) (hi:PE X i ty) (ho:PE X o td):PC X .NotIn i o (tDNotIn ty td):=by
  intro pins s σ H Q I h
  refine thn (hi pins s σ H _ I h) fun iv s1 ⟨y,H1,I1,ry,q1⟩=>thn (ho pins s1 σ H1 _ I1 q1) fun u s2 ⟨x,H2,I2,rx,a,ov,ex,g,q2⟩=>?_
  subst ex
  obtain rfl:u=Value.ref a:=rx
  exact d_notIn hu I2 g ry fun s3 I3=>⟨.bl (!ov.isSome),H2,I3,rfl,q2⟩
theorem ps_dput (hu:X.A.units+1<cLine) (ho:PE X o td) (hi:PE X i ty) (hv:PE X value tv) (hs:swapsWith value (some (.Subscript o i pos')) pos.line X.env=pure false) :
    PS X (.Assign [.Subscript o i pos'] value pos) (sDPut td ty tv):=by
  intro pins s σ H D I h
  refine wpAny_Assign_Subscript (thn (hv pins s σ H _ I h) fun r s1 ⟨v,H1,I1,rv,q1⟩=>thn (ho pins s1 σ H1 _ I1 q1) fun u s2 ⟨x,H2,I2,rx,q2⟩=>thn (hi pins s2 σ H2 _ I2 q2) fun iv s3 ⟨y,H3,I3,ry,a,H4,ex,g,q3⟩=>?_) hs
  subst ex
  obtain rfl:u=Value.ref a:=rx
  exact d_setItem hu I3 g ry rv fun s4 I4=>⟨σ,H4,I4,q3⟩
end
theorem dk_empty {P:Program} {w:World} {H:Hp} (h:Heap) (hb:sysModules<h.objs.size):ObjOk P w H (h.push { cls:=.type "dict",data:=.dict #[] }) h.objs.size (.dK []) :=
  ⟨Nat.zero_le _,beq_eq_false_iff_ne.mpr (Ne.symm (Nat.ne_of_lt hb)),[],.nil,Heap.DictOf.new h⟩
def tDNewK:TE:=fun _ H Q=>∀ p,H p=none->Q (.ref p) (upd H p (.dK []))
section
variable {X:Cx} {pos:Pos}
theorem pe_dnewK:PE X (.Dict [] [] pos) tDNewK:=fun pins s σ H Q I h =>
  wpAny_Dict_empty ⟨.ref s.heap.objs.size,_,I.laid (a:=s.heap.objs.size) (o:=.dK []) (t':=s.toks) (fun _ _ q=>Heap.get?_push_of_some _ q) (Nat.le_refl _) (dk_empty s.heap I.big),rfl,h _ (I.hok.fresh (Nat.le_refl _))⟩
end
structure M1 (X:Cx) (o:Expr) (m:Str) (apos:Pos) (e:Expr) (cpos:Pos):Prop where
  base:attributeBase o m X.env (eval o X.env)=eval o X.env
  few:((backTo cpos (starEach [e] X.env)).all (fun x=>!x.1) && (backToKw cpos (keywordEach [] X.env)).all (fun x=>x.1.isSome)
    && decide (([e]:List Expr).length+([]:List Keyword).length+(if ([]:List Keyword).isEmpty then 0 else 1)<30))=true
  line:(apos.endLine == cpos.line)=true
  trees:backTo cpos (starEach [e] X.env)=[(false,eval e X.env)]
structure M2 (X:Cx) (o:Expr) (m:Str) (apos:Pos) (e f:Expr) (cpos:Pos):Prop where
  base:attributeBase o m X.env (eval o X.env)=eval o X.env
  few:((backTo cpos (starEach [e,f] X.env)).all (fun x=>!x.1) && (backToKw cpos (keywordEach [] X.env)).all (fun x=>x.1.isSome)
    && decide (([e,f]:List Expr).length+([]:List Keyword).length+(if ([]:List Keyword).isEmpty then 0 else 1)<30))=true
  line:(apos.endLine == cpos.line)=true
  trees:backTo cpos (starEach [e,f] X.env)=[(false,eval e X.env),(false,eval f X.env)]
def IsD (H:Hp) (a:Addr):Prop:=(∃ kvs,Rd H a (.dK kvs))∨∃ kvs,Rd H a (.dT kvs)
theorem isD_at {X:Cx} {pins:List (Addr×Obj)} {σ:St} {H:Hp} {s:Shared} {a:Addr} (I:Inv X pins σ H s) (d:IsD H a) :
    s.TypeIs (.ref a) "dict"/\(∀ b,Value.ref a=.ref b->∃ ob,s.heap.get? b=some ob/\ob.dict=none)/\(a == sysModules)=false:=by
  rcases d with ⟨kvs,e⟩ | ⟨kvs,e⟩
  · obtain ⟨_,hd,vs,_,dd⟩:=dk_rd I.hok e
    refine ⟨dd.typeIs,fun b q=>?_,hd⟩
    cases q
    obtain ⟨ob,_,_,h1,h2,_⟩:=dd
    exact ⟨ob,h1,h2.2.1⟩
  · obtain ⟨_,hd,xs,_,dd⟩:=dt_rd I.hok e
    refine ⟨dd.typeIs,fun b q=>?_,hd⟩
    cases q
    obtain ⟨ob,_,_,h1,h2,_⟩:=dd
    exact ⟨ob,h1,h2.2.1⟩
section
variable {X:Cx} {pins:List (Addr×Obj)} {σ:St} {H:Hp} {s:Shared} {a:Addr} {y d:V} {u r:Value} {o:Option V} {A:Around} {E:Value->Shared->Prop}
theorem d_get1 {Q:Value->Shared->Prop} (hu:A.units+1<cLine) (I:Inv X pins σ H s) (g:DGet H a y o) (ry:RelV y u) (h:∀ w' s',Inv X pins σ H s'->RelV (o.getD .non) w'->Q w' s') :
    wpAny (model X.prog X.w) A (call (.builtin "dict.get") [.ref a,u]) Q E s:=by
  rcases g with ⟨kvs,k,e,ey,l⟩ | ⟨kvs,k,b,e,ey,eb,l⟩
  · subst ey
    obtain ⟨z,hd,vs,rel,dd⟩:=dk_rd I.hok e
    refine call_meetsIn PySem.F.slot_dict_get dd.typeIs PySem.F.entry_dict_get (PySem.F.args_dict_get_2 _ _) (meets_dict_get (zW X.prog X.w) a (kV_is ry) hd) ⟨_,dd.mapOf,h _ _ (I.tok _) ?_⟩
    rw [l]
    exact (rel.val k).getD rfl
  · subst ey
    cases (show u=Value.ref b from ry)
    obtain ⟨z,hd,xs,rel,dd⟩:=dt_rd I.hok e
    refine call_meetsIn PySem.F.slot_dict_get dd.typeIs PySem.F.entry_dict_get (PySem.F.args_dict_get_2 _ _) (meetsH_dict_get (tupleKind (zW X.prog X.w)) a b hd) ⟨tupleKind_room_in1 hu,k,xs,key_of I.hok eb,dd,h _ _ (I.tok _) ?_⟩
    rw [l]
    exact (rel.val k).getD rfl
end
def tDGet1 (td ty:TE):TE:=fun σ H Q=>td σ H fun x H1=>∃ a,x=.ref a/\IsD H1 a/\ty σ H1 fun y H2=>∃ o,DGet H2 a y o/\Q (o.getD .non) H2
section
variable {X:Cx} {o e f:Expr} {apos cpos:Pos} {td ty tx:TE}
theorem pe_dget1 (hu:X.A.units+1<cLine) (ho:PE X o td) (he:PE X e ty) (m:M1 X o "get" apos e cpos):PE X (.Call (.Attribute o "get" apos) [e] [] cpos) (tDGet1 td ty):=by
  intro pins s σ H Q I h
  refine wpAny_Call_method m.base m.few m.line PySem.F.plainAttrs_dict PySem.F.slot_dict_get PySem.F.type_dict_get (thn (ho pins s σ H _ I h) fun u s1 ⟨x,H1,I1,rx,a,ex,d,q1⟩=>?_)
  subst ex
  obtain rfl:u=Value.ref a:=rx
  obtain ⟨t1,t2,_⟩:=isD_at I1 d
  refine ⟨t1,t2,?_⟩
  rw [m.trees]
  refine Calls.callWith_builtin rfl (Calls.evalArgs_plain (Calls.spliced_cons (thn (he pins s1 σ H1 _ I1 q1) fun iv s2 ⟨y,H2,I2,ry,ov,g,q2⟩=>Calls.spliced_nil ?_)))
  exact d_get1 hu I2 g ry fun w' s3 I3 rw'=>⟨_,H2,I3,rw',q2⟩
end
section
variable {X:Cx} {pins:List (Addr×Obj)} {σ:St} {H:Hp} {s:Shared} {a:Addr} {kvs:List (Key×V)} {A:Around} {E:Value->Shared->Prop}
end
section
variable {X:Cx} {pins:List (Addr×Obj)} {σ:St} {H:Hp} {s:Shared} {a:Addr} {y:V} {u:Value} {A:Around} {E:Value->Shared->Prop}
end
end L2
namespace Att
open PySem PySem.W PySem.Calls PyProof.Rows
section
variable {prog:Program} {w:World} {A:Around} {E:Value->Shared->Prop} {s:Shared} {K:Frag}
end
end Att
namespace L2
open PySem PySem.Spec PyProof.Rows
end L2
namespace L2
open PySem PySem.Spec PyProof.Rows
end L2
namespace L2
open PySem PySem.Spec PyProof.Rows
section
variable {P:Program} {w:World} {K:PySem.W.Frag} {mg:Str->Option Value} {base:Heap}
end
section
variable {X:Cx}
end
section
variable {κ:Type} [DecidableEq κ]
end
end L2
namespace L2
open PySem PySem.Spec PyProof.Rows
abbrev IsZipK (h:Heap) (z TI TO T:Addr) (f1:Value):Prop :=
  h.get? z=some { cls:=.type "zip",dict:=none,data:=.fields #[rawInt T,f1,.bool false,.ref TI,.ref TO],slots:=#[] }
section
variable {prog:Program} {w:World} {A:Around} {E:Value->Shared->Prop} {s:Shared}
theorem alive_at {a:Addr} {Q:Option Obj->Shared->Prop} (h:Q (s.heap.get? a) s):wpAny (model prog w) A (loadIfAlive a) Q E s:=fun _ _ _=>h
theorem zip_slow_free {z TI TO T:Addr} {b1:Bool} {Q:Bool->Shared->Prop} (zz:IsZipK s.heap z TI TO T (.bool b1)) (al:∃ o,s.heap.get? T=some o)
    (q:∀ h2,IsZipK h2 z TI TO T (.bool true)->Heap.SameBut z s.heap h2->Q false { s with heap:=h2 }):wpAny (model prog w) A (Builtin.SmallTypes.ownedTupleIsFree (.ref z)) Q E s:=by
  obtain ⟨o,eo⟩:=al
  unfold Builtin.SmallTypes.ownedTupleIsFree
  refine wpAny_bind (wpAny_field zz rfl (x:=rawInt T) rfl ?_)
  show wpAny _ _ (loadIfAlive (T:Int).toNat >>= _) _ _ _
  refine wpAny_bind (alive_at ?_)
  rw [Int.toNat_natCast,eo]
  simp only [Option.isNone_some,Bool.false_eq_true,if_false]
  refine wpAny_bind (wpAny_field zz rfl (x:=.bool b1) rfl ?_)
  cases b1 with
  | true =>
    rw [if_neg (by decide)]
    exact wpAny_pure (q s.heap zz (Heap.SameBut.refl ..))
  | false =>
    rw [if_pos (by decide)]
    refine wpAny_bind (wpAny_setField_rec zz (by simp) fun h2 z2 sb=>wpAny_pure (q h2 z2 sb))
theorem zip_slow_item {z TI TO T i1 i2 l1 l2:Addr} {b1:Bool} {k:Nat} {xs ys:Array Value} {x y:Value} {Q:Option Value->Shared->Prop} (D:ZipApart z TI TO i1 i2 l1 l2) (zz:IsZipK s.heap z TI TO T (.bool b1)) (al:∃ o,s.heap.get? T=some o)
    (pI:IsPair s.heap TI (.ref i1) (.ref i2)) (h1:s.heap.IsListIter i1 l1 k) (h2:s.heap.IsListIter i2 l2 k) (hl1:s.heap.IsList l1 xs) (hl2:s.heap.IsList l2 ys) (ex:xs[k]?=some x) (ey:ys[k]?=some y)
    (q:∀ h',IsZipK h' z TI TO T (.bool true)->h'.IsListIter i1 l1 (k+1)->h'.IsListIter i2 l2 (k+1)->IsPair h' s.heap.objs.size x y->(∀ c o,c≠z->c≠i1->c≠i2->s.heap.get? c=some o->h'.get? c=some o)->h'.objs.size=s.heap.objs.size+1->Q (some (.ref s.heap.objs.size)) { s with heap:=h' }) :
    wpAny (model prog w) A (pyNext (.ref z)) Q E s:=by
  have ty:s.TypeIs (.ref z) "zip":=⟨_,zz,rfl⟩
  unfold pyNext
  refine wpAny_bind (wpAny_attempt (wpAny_callSpecial?_slot (name:=Str.ofString "__next__") ty F.slot_zip_next (wpAny_call_entry F.slot_zip_next ty F.entry_zip_next ?_ (F.args_zip_next_1 _))))
  show wpAny _ _ (field (.ref z) 2 >>= _) _ _ _
  refine wpAny_bind (wpAny_field zz rfl (x:=.bool false) rfl ?_);show wpAny _ _ (field (.ref z) 3 >>= _) _ _ _
  refine wpAny_bind (wpAny_field zz rfl (x:=.ref TI) rfl ?_);refine wpAny_bind (wpAny_seqItems pI rfl ?_)
  show wpAny _ _ (Builtin.SmallTypes.ownedTupleIsFree (.ref z) >>= _) _ _ _
  refine wpAny_bind (zip_slow_free zz al fun h3 z3 sb=>?_)
  simp only [Bool.false_eq_true,if_false]
  rw [show (forIn (#[Value.ref i1,Value.ref i2]:Array Value):(Option Fin×Array Value)->_->Sem _)=forIn [Value.ref i1,Value.ref i2] from funext fun _=>funext fun _=>by simp]
  simp only [List.forIn_cons,List.forIn_nil]
  have h13:=h1.extBut sb.extBut D.i1z
  have h23:=h2.extBut sb.extBut D.i2z
  have hl13:=hl1.extBut sb.extBut D.l1z
  have hl23:=hl2.extBut sb.extBut D.l2z
  refine wpAny_bind (wpAny_bind (wpAny_bind (wpAny_holding ?_)))
  show wpAny _ _ (Builtin.SmallTypes.nextOf (.ref i1) >>= _) _ _ _
  refine wpAny_bind (wpAny_nextOf_list_item h13 hl13 ex fun h4 a4 sb4=>wpAny_pure (wpAny_pure ?_))
  refine wpAny_bind (wpAny_bind (wpAny_holding ?_))
  show wpAny _ _ (Builtin.SmallTypes.nextOf (.ref i2) >>= _) _ _ _
  refine wpAny_bind (wpAny_nextOf_list_item (h23.extBut sb4.extBut D.i12.symm) (hl23.extBut sb4.extBut D.l2i1) ey fun h5 a5 sb5=>wpAny_pure (wpAny_pure (wpAny_pure ?_)))
  show wpAny _ _ (newTuple [x,y] >>= _) _ _ _
  refine wpAny_bind (wpAny_newTuple ?_)
  have sz:h5.objs.size=s.heap.objs.size:=by rw [sb5.1,sb4.1,sb.1]
  have up:∀ c o,c≠z->c≠i1->c≠i2->s.heap.get? c=some o->(h5.push { cls:=.type "tuple",data:=.seq #[x,y] }).get? c=some o:=fun c o c1 c2 c3 e=>Heap.get?_push_of_some _ (sb5.extBut _ _ c3 (sb4.extBut _ _ c2 (sb.extBut _ _ c1 e)))
  refine wpAny_pure ⟨_,rfl,wpAny_pure ?_⟩
  show Q (some (.ref h5.objs.size)) _
  rw [sz]
  have fin:=q (h5.push { cls:=.type "tuple",data:=.seq #[x,y] }) (Heap.get?_push_of_some _ (sb5.extBut _ _ D.i2z.symm (sb4.extBut _ _ D.i1z.symm z3))) ((a4.extBut sb5.extBut D.i12).at fun o e=>Heap.get?_push_of_some _ e) (a5.at fun o e=>Heap.get?_push_of_some _ e) (by rw [← sz];exact Heap.get?_push_size _ rfl) up (by rw [Heap.size_push,sz])
  exact fin
theorem zip_slow_end {z TI TO T i1 i2 l1 l2:Addr} {b1:Bool} {k:Nat} {xs ys:Array Value} {Q:Option Value->Shared->Prop} (hd:A.handled=none) (D:ZipApart z TI TO i1 i2 l1 l2) (zz:IsZipK s.heap z TI TO T (.bool b1)) (al:∃ o,s.heap.get? T=some o)
    (pI:IsPair s.heap TI (.ref i1) (.ref i2)) (h1:s.heap.IsListIter i1 l1 k) (hl1:s.heap.IsList l1 xs) (ex:xs[k]?=none)
    (q:∀ h',(∀ c o,c≠z->c≠i1->c≠i2->s.heap.get? c=some o->h'.get? c=some o)->Q none { s with heap:=h' }) :
    wpAny (model prog w) A (pyNext (.ref z)) Q E s:=by
  have ty:s.TypeIs (.ref z) "zip":=⟨_,zz,rfl⟩
  unfold pyNext
  refine wpAny_bind (wpAny_attempt (wpAny_callSpecial?_slot (name:=Str.ofString "__next__") ty F.slot_zip_next (wpAny_call_entry F.slot_zip_next ty F.entry_zip_next ?_ (F.args_zip_next_1 _))))
  show wpAny _ _ (field (.ref z) 2 >>= _) _ _ _
  refine wpAny_bind (wpAny_field zz rfl (x:=.bool false) rfl ?_);show wpAny _ _ (field (.ref z) 3 >>= _) _ _ _
  refine wpAny_bind (wpAny_field zz rfl (x:=.ref TI) rfl ?_);refine wpAny_bind (wpAny_seqItems pI rfl ?_)
  show wpAny _ _ (Builtin.SmallTypes.ownedTupleIsFree (.ref z) >>= _) _ _ _
  refine wpAny_bind (zip_slow_free zz al fun h3 z3 sb=>?_)
  simp only [Bool.false_eq_true,if_false]
  rw [show (forIn (#[Value.ref i1,Value.ref i2]:Array Value):(Option Fin×Array Value)->_->Sem _)=forIn [Value.ref i1,Value.ref i2] from funext fun _=>funext fun _=>by simp]
  simp only [List.forIn_cons,List.forIn_nil]
  refine wpAny_bind (wpAny_bind (wpAny_bind (wpAny_holding ?_)))
  show wpAny _ _ (Builtin.SmallTypes.nextOf (.ref i1) >>= _) _ _ _
  refine wpAny_bind (wpAny_nextOf_list_end hd (h1.extBut sb.extBut D.i1z) (hl1.extBut sb.extBut D.l1z) ex fun h4 e sb4 he=>?_)
  obtain ⟨o,ho,hc⟩:=he
  refine wpAny_bind (wpAny_isInstance (T:="StopIteration") (b:=true) ⟨o,ho,hc⟩ isSubtype_stop ?_)
  exact wpAny_pure (q _ fun c o c1 c2 c3 e=>sb4 c o c2 (sb.extBut _ _ c1 e))
end
end L2
namespace PySem
open Sem (wp)
namespace F
theorem my_entry_zip_ga:entryFor table "zip.__getattribute__"=some Builtin.«object.__getattribute__» :=
  entryFor_alias (id':="object.__getattribute__") (by kernel_rfl) (by first | rfl | decide +kernel) (by decide +kernel) (by kernel_rfl)
theorem my_lk_zip_keys:typeLookup (.type "zip") "keys"=pure none:=by rw [typeLookup_type,builtinLookup_eq_fast];kernel_rfl
theorem my_lk_zip_hook:typeLookup (.type "zip") "__getattr__"=pure none:=by rw [typeLookup_type,builtinLookup_eq_fast];kernel_rfl
end F
theorem my_zip_keys_miss (a:Addr) (fs:Array Value) (u:Tok) :
    Meets (Builtin.«object.__getattribute__» ⟨[.ref a,.str "keys" u],[]⟩) (fun A R s=>s.heap.get? a=some { cls:=.type "zip",dict:=none,data:=.fields fs,slots:=#[] }/\raisesAttr (.ref a) "keys" A R s) :=
  Meets.of_wp fun prog w A R s z=>by
    obtain ⟨hp,g,d,tk,os⟩:=s
    obtain ⟨zx,zs⟩:=z
    have zT:(⟨hp,g,d,tk,os⟩:Shared).TypeIs (.ref a) "zip":=⟨_,zx,rfl⟩
    have f4:=F.my_lk_zip_keys
    unfold Builtin.«object.__getattribute__»;repeat (any_goals (first | assumption | wp_step | fail))
    exact wpAny_raiseAttrError zs.1 zs.2 (attrMsg_fits (by decide +kernel) (by decide +kernel))
theorem my_zip_no_keys {prog:Program} {w:World} {A:Around} {E:Value->Shared->Prop} {s:Shared} {a:Addr} {fs:Array Value} {Q:Option Value->Shared->Prop} (zx:s.heap.get? a=some { cls:=.type "zip",dict:=none,data:=.fields fs,slots:=#[] }) (zA:A.handled=none)
    (q:∀ h' tk e,Heap.NewExcOf s.heap h' e "AttributeError"->Q none { s with heap:=h',toks:=tk }):wpAny (model prog w) A (getAttr? (.ref a) "keys") Q E s:=by
  obtain ⟨hp,g,d,tk,os⟩:=s
  have zT:∀ tk',(⟨hp,g,d,tk',os⟩:Shared).TypeIs (.ref a) "zip":=fun _=>⟨_,zx,rfl⟩
  have f1:=sub_AttributeError
  have f3:=F.slot_zip_getattribute.lookup
  have f4:=F.slot_zip_getattribute.bind (.ref a)
  have f5:=F.my_lk_zip_hook
  unfold getAttr? getAttrBy? getAttrBy
  repeat (any_goals (first | assumption | exact zT _ | ((with_reducible show wpAny _ _ (call (Value.builtin "zip.__getattribute__") _ _) _ _ _);refine call_meets F.slot_zip_getattribute (zT _) F.my_entry_zip_ga (F.args_zip_getattribute_2 _ _) (my_zip_keys_miss a fs _) ⟨zx,zA,fun h9 k9 e9 n9=>?_⟩) | wp_step))
  obtain ⟨t9,u9,x9⟩:=n9.there
  show wpAny _ _ (getattributeRaised _ _ _ _ _ _ _) _ _ _;unfold getattributeRaised
  repeat (any_goals (first | assumption | wp_step | fail))
  exact q _ _ _ n9.of
end PySem
namespace L2
open PySem PySem.Spec PyProof.Rows
theorem entry_dict_loop:entryFor table "dict.update.loop"=some Builtin.«dict.update.loop»:=entryFor_of_tree (by kernel_rfl)
def ZS (z TI TO i1 i2 l1 l2:Addr) (k:Nat) (h:Heap):Prop :=
  (IsZip h z TI TO .none∨∃ T b,IsZipK h z TI TO T (.bool b)/\(∃ o,h.get? T=some o)/\T≠z/\T≠TO/\T≠i1/\T≠i2)/\IsPair h TI (.ref i1) (.ref i2)/\(∃ a b,IsPair h TO a b)/\h.IsListIter i1 l1 k/\h.IsListIter i2 l2 k
section
variable {prog:Program} {w:World} {A:Around} {E:Value->Shared->Prop} {s:Shared} {z TI TO i1 i2 l1 l2 d:Addr} {xs ys:Array Value}
theorem zs_item {k:Nat} {x y:Value} {Q:Option Value->Shared->Prop} (D:ZipApart z TI TO i1 i2 l1 l2) (st:ZS z TI TO i1 i2 l1 l2 k s.heap) (hl1:s.heap.IsList l1 xs) (hl2:s.heap.IsList l2 ys) (ex:xs[k]?=some x) (ey:ys[k]?=some y)
    (q:∀ h',ZS z TI TO i1 i2 l1 l2 (k+1) h'->IsPair h' s.heap.objs.size x y->(∀ c o,c≠z->c≠TO->c≠i1->c≠i2->s.heap.get? c=some o->h'.get? c=some o)->Q (some (.ref s.heap.objs.size)) { s with heap:=h' }) :
    wpAny (model prog w) A (pyNext (.ref z)) Q E s:=by
  obtain ⟨zz,pI,⟨a,b,pO⟩,h1,h2⟩:=st
  have lt:∀ {c:Addr} {o:Obj},s.heap.get? c=some o->s.heap.objs.size≠c:=fun e=>Nat.ne_of_gt (Heap.lt_size e)
  have n1:s.heap.objs.size≠i1:=by obtain ⟨o,e,_⟩:=h1;exact lt e
  have n2:s.heap.objs.size≠i2:=by obtain ⟨o,e,_⟩:=h2;exact lt e
  rcases zz with zz | ⟨T,b1,zz,al,t1,t2,t3,t4⟩
  · refine wpAny_pyNext_zip_item D zz pI pO h1 h2 hl1 hl2 ex ey fun h' a1 a2 a3 a4 a5 a6 hk=>?_
    exact q h' ⟨.inr ⟨_,_,a1,⟨_,a5⟩,lt zz,lt pO,n1,n2⟩,hk _ _ D.TIz D.TITO D.TIi1 D.TIi2 pI,⟨_,_,a2⟩,a3,a4⟩ a5 hk
  · obtain ⟨o,eo⟩:=al
    refine zip_slow_item D zz ⟨o,eo⟩ pI h1 h2 hl1 hl2 ex ey fun h' a1 a3 a4 a5 hk _=>?_
    exact q h' ⟨.inr ⟨T,true,a1,⟨o,hk _ _ t1 t3 t4 eo⟩,t1,t2,t3,t4⟩,hk _ _ D.TIz D.TIi1 D.TIi2 pI,⟨_,_,hk _ _ D.TOz D.TOi1 D.TOi2 pO⟩,a3,a4⟩ a5 fun c o c1 _ c3 c4 e=>hk c o c1 c3 c4 e
theorem zs_end {k:Nat} {Q:Option Value->Shared->Prop} (hd:A.handled=none) (D:ZipApart z TI TO i1 i2 l1 l2) (st:ZS z TI TO i1 i2 l1 l2 k s.heap) (hl1:s.heap.IsList l1 xs) (hl2:s.heap.IsList l2 ys) (ex:xs[k]?=none)
    (q:∀ h',(∀ c o,c≠z->c≠TO->c≠i1->c≠i2->s.heap.get? c=some o->h'.get? c=some o)->Q none { s with heap:=h' }):wpAny (model prog w) A (pyNext (.ref z)) Q E s:=by
  obtain ⟨zz,pI,⟨a,b,pO⟩,h1,h2⟩:=st
  rcases zz with zz | ⟨T,b1,zz,al,_⟩
  · exact wpAny_pyNext_zip_end hd D zz pI pO h1 h2 hl1 hl2 (.inl ex) fun h' hk=>q h' hk
  · exact zip_slow_end (ys:=ys) hd D zz al pI h1 hl1 ex fun h' hk=>q h' fun c o c1 _ c3 c4 e=>hk c o c1 c3 c4 e
def layAll (kvs:List (Key×Value)):List (Key×Value)->List (Key×Value)
  | []=>kvs
  | p::r=>layAll (stored kvs p.1 p.2) r
theorem ZS.same {k:Nat} {h h2:Heap} (st:ZS z TI TO i1 i2 l1 l2 k h) (dz:d≠z) (dI:d≠TI) (dO:d≠TO) (d1:d≠i1) (d2:d≠i2) (kp:∀ c o,c≠d->h.get? c=some o->h2.get? c=some o) (hd:∃ o,h2.get? d=some o):ZS z TI TO i1 i2 l1 l2 k h2:=by
  obtain ⟨zz,pI,⟨a,b,pO⟩,h1,h2'⟩:=st
  refine ⟨?_,kp _ _ dI.symm pI,⟨a,b,kp _ _ dO.symm pO⟩,h1.at fun o e=>kp _ o d1.symm e,h2'.at fun o e=>kp _ o d2.symm e⟩
  rcases zz with zz | ⟨T,b1,zz,⟨o,eo⟩,t⟩
  · exact .inl (kp _ _ dz.symm zz)
  · refine .inr ⟨T,b1,kp _ _ dz.symm zz,?_,t⟩
    by_cases e:T=d
    · rw [e];exact hd
    · exact ⟨o,kp _ _ e eo⟩
theorem dz_loop (hd:A.handled=none) (D:ZipApart z TI TO i1 i2 l1 l2) (dz:d≠z) (dI:d≠TI) (dO:d≠TO) (d1:d≠i1) (d2:d≠i2) (dl1:d≠l1) (dl2:d≠l2) :
    ∀ (ps:List (Key×Value)) (k:Nat) (s:Shared) (kvs:List (Key×Value)) (i:Int) (t:Tok) (R:Result->Shared->Prop),ZS z TI TO i1 i2 l1 l2 k s.heap->s.heap.IsList l1 xs->s.heap.IsList l2 ys->s.heap.DictOf (zW prog w) d kvs->kvs.length+ps.length<=sizeLine ->
      xs.size=k+ps.length->(∀ j (p:Key×Value),ps[j]?=some p->∃ u,xs[k+j]?=some u/\(zW prog w).is p.1 u=true/\ys[k+j]?=some p.2) ->
      (∀ h' tk,h'.DictOf (zW prog w) d (layAll kvs ps)->(∀ c o,c≠z->c≠TO->c≠i1->c≠i2->c≠d->s.heap.get? c=some o->h'.get? c=some o)->R (.ok (.ret .none)) { s with heap:=h',toks:=tk }) ->
      codeAny (model prog w) A (.builtin "dict.update.loop" ⟨[.ref d,.ref z,.int i t,.none],[]⟩) R s
  | [],k,s,kvs,i,t,R,st,hl1,hl2,hm,hz,hn,hp,q=>by
    refine codeAny_builtin entry_dict_loop ?_
    show wpAny _ _ (pyNext (.ref z) >>= _) _ _ _
    refine wpAny_bind (zs_end hd D st hl1 hl2 (Array.getElem?_eq_none (by rw [hn];exact Nat.le_refl _)) fun h' hk=>?_)
    show wpAny _ _ (Builtin.Dict.addKeywords d [] >>= _) _ _ _
    refine wpAny_bind (wpAny_pure (wpAny_pure ?_))
    have hd':h'.DictOf (zW prog w) d kvs:=by
      obtain ⟨o,es,ep,ho,r⟩:=hm
      exact ⟨o,es,ep,hk _ _ dz dO d1 d2 ho,r⟩
    exact q h' s.toks hd' fun c o c1 c2 c3 c4 _ e=>hk c o c1 c2 c3 c4 e
  | p::ps,k,s,kvs,i,t,R,st,hl1,hl2,hm,hz,hn,hp,q=>by
    refine codeAny_builtin entry_dict_loop ?_
    obtain ⟨u,eu,ku,ev⟩:=hp 0 p rfl
    show wpAny _ _ (pyNext (.ref z) >>= _) _ _ _
    refine wpAny_bind (zs_item D st hl1 hl2 eu ev fun h' st' pT hk=>?_)
    have hm':h'.DictOf (zW prog w) d kvs:=by
      obtain ⟨o,es,ep,ho,r⟩:=hm
      exact ⟨o,es,ep,hk _ _ dz dO d1 d2 ho,r⟩
    have hl1':h'.IsList l1 xs:=hl1.at fun o e=>hk _ o D.l1z D.l1TO D.l1i1 D.l1i2 e
    have hl2':h'.IsList l2 ys:=hl2.at fun o e=>hk _ o D.l2z D.l2TO D.l2i1 D.l2i2 e
    refine wpAny_bind (wpAny_holding ?_)
    refine wpAny_bind (wpAny_tryCatch ?_)
    unfold Builtin.Dict.pairItems
    refine wpAny_bind (wpAny_typeOf (T:="tuple") ⟨_,pT,rfl⟩ ?_)
    rw [if_pos (by decide)]
    refine wpAny_bind (wpAny_seqItems pT rfl (wpAny_pure ?_))
    show wpAny _ _ (holding [u,p.2] (dictSet d u p.2)) _ _ _
    refine wpAny_holding (wpAny_dictSet_pairs (hsz:=by rw [List.length_cons] at hz;omega) ku hm' fun h2 hm2 sb=>?_)
    refine wpAny_pure ⟨Code.quiet_builtin _ (by decide +kernel),?_⟩
    have nd:∃ o,h2.get? d=some o:=by obtain ⟨o,_,_,e,_⟩:=hm2;exact ⟨o,e⟩
    have ls:(stored kvs p.1 p.2).length<=kvs.length+1:=by
      unfold stored;split
      · rw [List.length_map];omega
      · rw [List.length_append];exact Nat.le_refl _
    refine dz_loop hd D dz dI dO d1 d2 dl1 dl2 ps (k+1) { s with heap:=h2,toks:=s.toks+1 } (stored kvs p.1 p.2) (i+1) 0 R (st'.same dz dI dO d1 d2 (fun c o n e=>sb.extBut _ _ n e) nd) (hl1'.extBut sb.extBut dl1.symm) (hl2'.extBut sb.extBut dl2.symm) hm2 (by rw [List.length_cons] at hz;omega) (by rw [hn,List.length_cons];omega) (fun j r hj=>?_) (fun h3 tk hm3 hk3=>?_)
    · have:=hp (j+1) r hj
      rw [show k+1+j=k+(j+1) by omega];exact this
    · exact q h3 tk hm3 fun c o c1 c2 c3 c4 c5 e=>hk3 c o c1 c2 c3 c4 c5 (sb.extBut _ _ c5 (hk c o c1 c2 c3 c4 e))
end
end L2
namespace L2
open PySem PySem.Spec PyProof.Rows
def putAll (kvs:List (Key×V)):List (Key×V)->List (Key×V)
  | []=>kvs
  | p::r=>putAll (putK kvs p.1 p.2) r
theorem KV.putAll:∀ {ps:List (Key×V)} {qs:List (Key×Value)} {kvs:List (Key×V)} {vs:List (Key×Value)},KV ps qs->KV kvs vs->KV (L2.putAll kvs ps) (layAll vs qs)
  | [],_,_,_,.nil,h=>h
  | p::ps,_,_,_,.cons (b:=q) r rr,h=>by
    have e:q.1=p.1:=r.1.symm
    show KV (L2.putAll (putK _ p.1 p.2) ps) (layAll (stored _ q.1 q.2) _)
    rw [e]
    exact KV.putAll rr (h.put p.1 r.2)
theorem putAll_len:∀ (ps:List (Key×V)) (kvs:List (Key×V)),(putAll kvs ps).length<=kvs.length+ps.length
  | [],_=>Nat.le_refl _
  | p::ps,kvs=>by
    have:=putAll_len ps (putK kvs p.1 p.2)
    have:=Za kvs p.1 p.2
    show (putAll (putK kvs p.1 p.2) ps).length<=kvs.length+(ps.length+1)
    omega
section
variable {prog:Program} {w:World} {A:Around} {E:Value->Shared->Prop} {s:Shared} {z TI TO i1 i2 l1 l2:Addr} {xs ys:Array Value}
theorem ZS.keeps {k:Nat} {h h2:Heap} (st:ZS z TI TO i1 i2 l1 l2 k h) (kp:∀ c o,h.get? c=some o->h2.get? c=some o):ZS z TI TO i1 i2 l1 l2 k h2:=by
  obtain ⟨zz,pI,⟨a,b,pO⟩,h1,h2'⟩:=st
  refine ⟨?_,kp _ _ pI,⟨a,b,kp _ _ pO⟩,h1.at fun o e=>kp _ o e,h2'.at fun o e=>kp _ o e⟩
  rcases zz with zz | ⟨T,b1,zz,⟨o,eo⟩,t⟩
  · exact .inl (kp _ _ zz)
  · exact .inr ⟨T,b1,kp _ _ zz,⟨o,kp _ _ eo⟩,t⟩
theorem dict_zip_call {ps:List (Key×Value)} {Q:Value->Shared->Prop} (hd:A.handled=none) (D:ZipApart z TI TO i1 i2 l1 l2) (zz:IsZip s.heap z TI TO .none) (st:ZS z TI TO i1 i2 l1 l2 0 s.heap) (hl1:s.heap.IsList l1 xs) (hl2:s.heap.IsList l2 ys) (hz:ps.length<=sizeLine) (hn:xs.size=ps.length)
    (hp:∀ (j:Nat) (p:Key×Value),ps[j]?=some p->∃ u,xs[j]?=some u/\(zW prog w).is p.1 u=true/\ys[j]?=some p.2)
    (q:∀ h' tk,h'.DictOf (zW prog w) s.heap.objs.size (layAll [] ps)->(∀ c o,c≠z->c≠TO->c≠i1->c≠i2->s.heap.get? c=some o->h'.get? c=some o)->Q (.ref s.heap.objs.size) { s with heap:=h',toks:=tk }):wpAny (model prog w) A (call (.type "dict") [.ref z]) Q E s:=by
  refine callType_codes (Q₁:=fun obj s₁=>obj=.ref s.heap.objs.size/\s₁={ s with heap:=s.heap.push { cls:=.type "dict",data:=.dict #[] } }) F.kt_called_dict (F.kt_typeCall_dict_1 _) F.entry_dict_init (kt_code_dict_new _ ⟨rfl,rfl⟩) fun obj s1 y=>?_
  obtain ⟨rfl,rfl⟩:=y
  have nw:(s.heap.push { cls:=.type "dict",data:=.dict #[] }).DictOf (zW prog w) s.heap.objs.size []:=Heap.DictOf.new s.heap
  have kp:∀ c o,s.heap.get? c=some o->(s.heap.push { cls:=.type "dict",data:=.dict #[] }).get? c=some o:=fun c o e=>Heap.get?_push_of_some _ e
  have lt:∀ {c:Addr} {o:Obj},s.heap.get? c=some o->s.heap.objs.size≠c:=fun e=>Nat.ne_of_gt (Heap.lt_size e)
  obtain ⟨_,pI,⟨a,b,pO⟩,g1,g2⟩:=id st
  have e1:s.heap.objs.size≠i1:=by obtain ⟨o,e,_⟩:=g1;exact lt e
  have e2:s.heap.objs.size≠i2:=by obtain ⟨o,e,_⟩:=g2;exact lt e
  have e3:s.heap.objs.size≠l1:=by obtain ⟨o,e,_⟩:=hl1;exact lt e
  have e4:s.heap.objs.size≠l2:=by obtain ⟨o,e,_⟩:=hl2;exact lt e
  refine ⟨nw.typeIs,F.args_dict_init_2 _ _,?_⟩
  unfold Builtin.«dict.__init__»;refine wpAny_bind ?_
  unfold Builtin.Dict.selfAndRest;refine wpAny_bind (wpAny_notOrdered_dict nw.typeIs ?_)
  show wpAny _ _ (pure (s.heap.objs.size,[Value.ref z])) _ _ _
  refine wpAny_pure ?_;show wpAny _ _ (Builtin.Dict.updateFrom "dict.__init__" s.heap.objs.size (.ref z) [] .none) _ _ _
  unfold Builtin.Dict.updateFrom;refine wpAny_bind (wpAny_typeOf (T:="zip") ⟨_,kp _ _ zz,rfl⟩ ?_)
  rw [if_pos (by decide)]
  refine wpAny_bind (my_zip_no_keys (kp _ _ zz) hd fun h3 tk e ne=>?_)
  simp only [Option.isNone_none,if_true]
  have k3:∀ c o,s.heap.get? c=some o->h3.get? c=some o:=fun c o e=>ne.keeps c o (kp c o e)
  refine wpAny_bind (wpAny_rule (wpAny_bind (wpAny_pyIter_zip (f0:=.none) (k3 _ _ zz) ?_)))
  refine wpAny_pure ⟨Code.quiet_builtin _ (by decide +kernel),?_⟩
  have d3:h3.DictOf (zW prog w) s.heap.objs.size []:=by
    obtain ⟨o,es,ep,ho,r⟩:=nw
    exact ⟨o,es,ep,ne.keeps _ _ ho,r⟩
  refine dz_loop (A:=A.in1) (xs:=xs) (ys:=ys) hd D (lt zz) (lt pI) (lt pO) e1 e2 e3 e4 ps 0 { s with heap:=h3,toks:=tk } [] 0 0 _ (st.keeps k3) (hl1.at fun o e=>k3 _ o e) (hl2.at fun o e=>k3 _ o e) d3 (by show 0+ps.length<=_;omega) (by rw [hn,Nat.zero_add]) (fun j r hj=>by rw [Nat.zero_add];exact hp j r hj) fun h4 tk4 d4 k4=>?_
  exact ⟨rfl,q h4 tk4 d4 fun c o c1 c2 c3 c4 e=>k4 c o c1 c2 c3 c4 (lt e).symm (k3 c o e)⟩
end
theorem kv_zip:∀ (ks:List Key) {ys:List V} {us:List Value},Vals ys us->ks.length=ys.length->KV (ks.zip ys) (ks.zip us)
  | [],_,_,_,_=>.nil
  | k::ks,_,_,.nil,h=>by cases h
  | k::ks,_,_,.cons r rr,h=>.cons ⟨rfl,r⟩ (kv_zip ks rr (by simpa using h))
section
variable {X:Cx}
def tDictZip (K:PySem.W.Frag) (ta:TA):TE:=fun σ H Q=>ta σ H fun vs H1=>∃ (l1 l2:Addr) (ks:List Key) (ys:List V),vs=[.ref l1,.ref l2]/\SqL K H1 l1 (ks.map kV)/\SqL K H1 l2 ys/\ks.length=ys.length/\∀ d,H1 d=none->Q (.ref d) (upd H1 d (.dK (putAll [] (ks.zip ys))))
theorem pe_dictzip {a b:Expr} {ta:TA} {p p2 pos pos2:Pos} (hc:X.calm=true) (hg:Gl X "dict") (hm:X.mg "dict"=none) (hg2:Gl X "zip") (hm2:X.mg "zip"=none) (ha:PA X [a,b] ta)
    (hs:starEach [a,b] X.env=[(false,eval a X.env),(false,eval b X.env)]:=by rfl) (hs2:starEach [b] X.env=[(false,eval b X.env)]:=by rfl)
    (hs3:starEach [Expr.Call (.Name "zip" p2) [a,b] [] pos2] X.env=[(false,eval (.Call (.Name "zip" p2) [a,b] [] pos2) X.env)]:=by rfl):PE X (.Call (.Name "dict" p) [.Call (.Name "zip" p2) [a,b] [] pos2] [] pos) (tDictZip X.K ta):=by
  intro pins s σ H Q I h
  refine wpAny_Call_Name_kw (ld_blt I hg hm boot_dict (PyProof.Rows.callWith_type1 ?_ (by rw [hs3];rfl) (by rfl)))
  rw [hs3]
  show wpAny _ _ (spliced [(false,eval (.Call (.Name "zip" p2) [a,b] [] pos2) X.env)]) _ _ s
  refine Calls.spliced_cons (Call_ (ld_blt I hg2 hm2 boot_zip (PyProof.Rows.callWith_type1 (thn (ha pos2 pins s σ H _ I h) fun us s1 ⟨vs,H1,I1,r1,q1⟩=>?_) (by rw [hs,hs2]) (by rw [hs2];rfl))))
  obtain ⟨l1,l2,ks,ys,e,x1,x2,le,q⟩:=q1
  subst e
  obtain ⟨u,v,rfl,ru,rv⟩:=vals2 r1
  cases (show u=Value.ref l1 from ru)
  cases (show v=Value.ref l2 from rv)
  obtain ⟨is1,g1,p1,z1⟩:=I1.list x1
  obtain ⟨is2,g2,p2',z2⟩:=I1.list x2
  have L1:l1<s1.heap.objs.size:=by obtain ⟨_,e,_⟩:=p1.isList;exact Heap.lt_size e
  have L2:l2<s1.heap.objs.size:=by obtain ⟨_,e,_⟩:=p2'.isList;exact Heap.lt_size e
  have n1:=g1.length
  have n2:=g2.length
  rw [List.length_map] at n1
  refine call_zip_2 p1.isList p2'.isList fun h' a1 a2 a3 a4 a5 a6 hk=>Calls.spliced_nil ?_
  have J:Inv X pins σ H1 { s1 with heap:=h' }:=I1.kept (t':=s1.toks) fun b o e=>hk b o e
  have fp:∀ n,FpOk X pins H1 (s1.heap.objs.size+n):=fun n=>I1.fpOk (Nat.le_add_right _ _) (I1.hok.fresh (Nat.le_add_right _ _))
  have rel:KV (ks.zip ys) (ks.zip is2):=kv_zip ks g2 le
  have lz:(ks.zip is2).length=ks.length:=by rw [List.length_zip,Nat.min_eq_left];omega
  rw [List.length_map] at z1
  refine dict_zip_call (s:={ s1 with heap:=h' }) (xs:=is1.toArray) (ys:=is2.toArray) (ps:=ks.zip is2) (I1.ok.hd hc) (zipApart_new L1 L2) a1 ⟨.inl a1,a2,⟨_,_,a3⟩,a4,a5⟩ (p1.isList.at fun o e=>hk _ o e) (p2'.isList.at fun o e=>hk _ o e) (by omega) (by rw [lz,List.size_toArray];omega) (fun j r hj=>?_) fun h3 tk d3 k3=>?_
  · obtain ⟨ek,ev⟩:ks[j]?=some r.1/\is2[j]?=some r.2:=by
      rw [List.getElem?_zip_eq_some] at hj;exact hj
    obtain ⟨u,eu,ru⟩:=g1.get (show (ks.map kV)[j]?=some (kV r.1) by rw [List.getElem?_map,ek];rfl)
    exact ⟨u,by simpa using eu,kV_is ru,by simpa using ev⟩
  · have fr:H1 h'.objs.size=none:=I1.hok.fresh (by rw [a6];omega)
    have b4:=fp 4
    have b3:=fp 3
    have b0:=fp 0
    have b1:=fp 1
    have b2:=fp 2
    have lay:ObjOk X.prog X.w (upd H1 h'.objs.size (.dK (putAll [] (ks.zip ys)))) h3 h'.objs.size (.dK (putAll [] (ks.zip ys))):=by
      refine ⟨?_,?_,_,KV.putAll rel .nil,d3⟩
      · have:=putAll_len (ks.zip ys) []
        rw [List.length_zip] at this
        have:([]:List (Key×V)).length=0:=rfl
        omega
      · have:=J.big
        exact beq_eq_false_iff_ne.mpr (Nat.ne_of_gt this)
    refine ⟨.ref h'.objs.size,upd H1 h'.objs.size (.dK (putAll [] (ks.zip ys))),?_,rfl,q _ fr⟩
    exact J.turnedT (its:=[s1.heap.objs.size+4,s1.heap.objs.size+2,s1.heap.objs.size+3,s1.heap.objs.size,s1.heap.objs.size+1]) (fun c o nc e=>by
      have nc':c≠s1.heap.objs.size+4/\c≠s1.heap.objs.size+2/\c≠s1.heap.objs.size+3/\c≠s1.heap.objs.size/\c≠s1.heap.objs.size+1:=by simpa using nc
      exact k3 c o nc'.1 nc'.2.2.1 nc'.2.2.2.1 nc'.2.2.2.2 e) (fun c hc'=>by
      simp at hc'
      rcases hc' with rfl | rfl | rfl | rfl | rfl
      · exact b4
      · exact b2
      · exact b3
      · exact b0
      · exact b1) (Nat.le_refl _) lay
end
end L2
namespace L2
open PySem PySem.Spec PyProof.Rows
section
variable {prog:Program} {w:World} {A:Around} {R:Result->Shared->Prop} {s:Shared}
theorem comp_loopF {elt target iter tst:Expr} {scope:Scope} {pos:Pos} {it acc:Value} {env:Env} (I:Nat->Shared->Prop)
    (turn:∀ n s,I n s->wpAny (model prog w) A (pyNext it) (fun r s₁=>match r with
      | none=>R (.ok .next) s₁
      | some v=>wpAny (model prog w) A (letOwnedTupleGo target it v) (fun _ s₂=>wpAny (model prog w) A (assign target env v) (fun _ s₃=>wpAny (model prog w) A (isTrue tst env (eval tst env)) (fun ok t₃=>match ok with
          | true=>wpAny (model prog w) A (eval elt env) (fun x s₄=>wpAny (model prog w) A (call (.builtin "list.append") [acc,x]) (fun _ s₅=>∃ m,m<n/\I m s₅) (fun _ _=>False) s₄) (fun _ _=>False) t₃
          | false=>∃ m,m<n/\I m t₃) (fun _ _=>False) s₃) (fun _ _=>False) s₂) (fun _ _=>False) s₁) (fun _ _=>False) s)
    (n:Nat) (h:I n s):codeAny (model prog w) A (.compLoop (.ListComp elt [⟨target,iter,[tst],0⟩] scope pos) 0 it acc env) R s:=by
  refine codeAny_loop rfl I (fun n s hI=>?_) n h
  show wpAny _ _ ((compTurn (.ListComp elt [⟨target,iter,[tst],0⟩] scope pos) 0 it acc env).onRaise (fun x=>do noteFrame x env;theTreesLotGoes x)) _ _ s
  refine wpAny_noted ?_
  rw [compTurn_list]
  refine wpAny_bind (wpAny_standAt (wpAny_bind (wpAny_mono (turn n s hI) (fun r s₁ h₁=>?_) fun _ _ z=>z.elim)))
  cases r with
  | none=>exact wpAny_pure h₁
  | some v =>
    refine wpAny_bind (wpAny_mono h₁ (fun _ s₂ h₂=>?_) fun _ _ z=>z.elim)
    refine wpAny_bind (wpAny_mono h₂ (fun _ s₃ h₃=>?_) fun _ _ z=>z.elim)
    refine wpAny_bind (wpAny_tests_one (wpAny_mono h₃ (fun ok t₃ h₃=>?_) fun _ _ z=>z.elim))
    cases ok with
    | false=>exact wpAny_pure ⟨rfl,h₃⟩
    | true =>
      refine wpAny_bind (wpAny_bind (wpAny_mono h₃ (fun x s₄ h₄=>?_) fun _ _ z=>z.elim))
      exact wpAny_bind (wpAny_mono h₄ (fun _ s₅ h₅=>wpAny_pure (wpAny_pure ⟨rfl,h₅⟩)) fun _ _ z=>z.elim)
end
def CompWF (J:It) (g:TG) (tt:TT) (te:TE) (σY:St) (H1:Hp) (D:Addr) (Q:VK):Prop:=∃ W:Nat->Nat->St->Hp->Prop,(∃ m,W 0 m σY H1)/\∀ i m σ' H',W i m σ' H' ->
  (J.stop i H'/\Q (.ref D) H')∨(J.go i H'/\∃ N:St->Hp->Prop,(∀ σ2 H2,N σ2 H2->∃ m',m'<m/\W (i+1) m' σ2 H2) /\
    ∀ x H2,J.yld i H' x H2->g x σ' H2 fun σ3 H3=>tt σ3 H3 fun b H4=>if b=true then te σ3 H4 fun v H5=>∃ xs,H5 D=some (.lst xs)/\xs.length<sizeLine/\N σ3 (upd H5 D (.lst (xs++[v]))) else N σ3 H4)
def tCompF (wi:TI) (g:TG) (tt:TT) (te:TE) (σ0:St->Hp->St->Prop):TE:=fun σ H Q=>wi σ H fun J H1=>∃ σY,σ0 σ H1 σY/\∀ D,H1 D=none->CompWF J g tt te σY (upd H1 D (.lst [])) D Q
section
variable {X:Cx} {tg:Expr}
theorem comp_coreF {iter elt tst:Expr} {scope:Scope} {pos pos':Pos} {cl:List (Str×Addr)} {NY:List Str} {wi:TI} {g:TG} {tt:TT} {te:TE} {σ0:St->Hp->St->Prop} (hc:X.calm=true) (S:Sees X scope cl) (hi:PI X tg iter wi)
    (hY:∀ (s3:Shared) (H3:Hp) (fp:List Addr),PG (X.comp scope cl NY s3 H3 fp) tg g/\PT (X.comp scope cl NY s3 H3 fp) tst tt/\PE (X.comp scope cl NY s3 H3 fp) elt te)
    (h0:∀ (pins:List (Addr×Obj)) (σ:St) (H:Hp) (s3:Shared) (σY:St),Inv X pins σ H s3->σ0 σ H σY->σY.length=NY.length/\∀ (i:Nat) (x:Str) (v:V),NY[i]?=some x->σY[i]?=some (some v) ->
      ∃ c u,(((compEnvC scope cl 0 X.env).kindOf x=some .cell∨(compEnvC scope cl 0 X.env).kindOf x=some .free))/\cl.lookup x=some c/\RelV v u/\s3.heap.IsCell c (some u))
    (hs:∀ x,foldedSetIterable iter X.env x=pure x) {use:Option (Value->Sem Unit)} {R:Value->Shared->Prop} {pins:List (Addr×Obj)} {s:Shared} {σ:St} {H:Hp} {Q:VK} (I:Inv X pins σ H s) (h:tCompF wi g tt te σ0 σ H Q)
    (fin:∀ (C D:Addr) (H5:Hp) (s6:Shared),CompEnd X pins σ H5 s6 C->Q (.ref D) H5->compPost (model X.prog X.w) X.A X.xe use R (.ref D) C (.ok .next) s6) :
    wpAny (model X.prog X.w) X.A (comprehension (.ListComp elt [⟨tg,iter,[tst],0⟩] scope pos) scope X.env pos' (newList []) (firstAsync [⟨tg,iter,[tst],0⟩]) (firstIter [⟨tg,iter,[tst],0⟩] X.env) use) R X.xe s:=by
  refine wpAny_comprehension_free rfl hs S.clos S.kind S.names (thn (hi pins s σ H _ I h) fun v s1 h1=>thn h1 fun itv s2 h2=>?_)
  obtain ⟨it,fp,tn,J,H2,e,I2,T,st2,f2,σY,hσ,hW⟩:=h2
  subst e
  refine wpAny_newObj_type ?_
  have I3:Inv X pins σ (upd H2 s2.heap.objs.size (.lst [])) { s2 with heap:=s2.heap.push { cls:=.type "list",data:=.seq ([]:List Value).toArray } }:=I2.lnew (t':=s2.toks) (its:=[]) .nil (Nat.zero_le _)
  obtain ⟨W,⟨m0,w0⟩,turn⟩:=hW s2.heap.objs.size (I2.hok.fresh (Nat.le_refl _))
  have ob2:=T.obj _ _ st2
  have hfp:∀ b∈fp,FpOk X pins (upd H2 s2.heap.objs.size (.lst [])) b:=fun b hb=>by
    obtain ⟨o,q,_⟩:=ob2 b hb
    exact ⟨by rw [zo (Nat.ne_of_lt (Heap.lt_size q))];exact (f2 b hb).1,(f2 b hb).2⟩
  have hob:∀ b∈fp,∃ o,(s2.heap.push { cls:=.type "list",data:=.seq ([]:List Value).toArray }).get? b=some o:=fun b hb=>by
    obtain ⟨o,q,_⟩:=ob2 b hb
    exact ⟨o,Heap.get?_push_of_some _ q⟩
  refine wpAny_newFunctionEnv S.nocell (fun y hy=>absurd hy (by simp)) (fun h1 hn1 hs1=>?_) S.kind
  obtain ⟨hl,hY0⟩:=h0 pins σ H2 s2 σY I2 hσ
  have k23:∀ b o,s2.heap.get? b=some o->(s2.heap.push { cls:=.type "list",data:=.seq ([]:List Value).toArray }).get? b=some o:=fun b o q=>Heap.get?_push_of_some _ q
  have k34:∀ b o,(s2.heap.push { cls:=.type "list",data:=.seq ([]:List Value).toArray }).get? b=some o->h1.get? b=some o:=fun b o q=>(hs1.2 b (Nat.ne_of_lt (Heap.lt_size q))).trans (Heap.get?_push_of_some _ q)
  have I4:=comp_inv (scope:=scope) (cl:=cl) (NY:=NY) (fp:=fp) (h1:=h1) (t:=s2.toks) (σY:=σY) I3 S hfp hob hn1 k34 hl fun i x v e1 e2=>by
    obtain ⟨c,u,k,q,r,o,z1,z2⟩:=hY0 i x v e1 e2
    exact ⟨c,u,k,q,r,o,k23 _ _ z1,z2⟩
  have st4:tn 0 h1:=T.keep _ _ _ st2 fun b hb o q=>k34 _ _ (k23 _ _ q)
  have fr4:∀ b∈fp,(upd H2 s2.heap.objs.size (.lst [])) b=none:=fun b hb=>(hfp b hb).1
  obtain ⟨hg,ht,he⟩:=hY { s2 with heap:=s2.heap.push { cls:=.type "list",data:=.seq ([]:List Value).toArray } } (upd H2 s2.heap.objs.size (.lst [])) fp
  have okY:=I4.ok
  have statY:∀ {H':Hp},(∀ b∈fp,H' b=none)->∀ b∈fp,FpOk (X.comp scope cl NY { s2 with heap:=s2.heap.push { cls:=.type "list",data:=.seq ([]:List Value).toArray } } (upd H2 s2.heap.objs.size (.lst [])) fp) [] H' b :=
    fun hn b hb=>⟨hn b hb,(okY.exf b hb).1,okY.exfs b hb,.inl hb,(okY.exf b hb).2,fun p hp=>absurd hp (by simp)⟩
  have loop:codeAny (model X.prog X.w) X.A (.compLoop (.ListComp elt [⟨tg,iter,[tst],0⟩] scope pos) 0 (.ref it) (.ref s2.heap.objs.size) (compEnvC scope cl (s2.heap.push { cls:=.type "list",data:=.seq ([]:List Value).toArray }).objs.size X.env))
      (compPost (model X.prog X.w) X.A X.xe use R (.ref s2.heap.objs.size) (s2.heap.push { cls:=.type "list",data:=.seq ([]:List Value).toArray }).objs.size) { s2 with heap:=h1,toks:=s2.toks }:=by
    refine comp_loopF (fun n s'=>∃ i σ' H',Inv (X.comp scope cl NY { s2 with heap:=s2.heap.push { cls:=.type "list",data:=.seq ([]:List Value).toArray } } (upd H2 s2.heap.objs.size (.lst [])) fp) [] σ' H' s'/\tn i s'.heap/\(∀ b∈fp,H' b=none)/\W i n σ' H') ?_ m0 ⟨0,σY,_,I4,st4,fr4,w0⟩
    rintro n s5 ⟨i,σ5,H5,I5,st5,fr5,w5⟩
    rcases turn i n σ5 H5 w5 with ⟨stop,q⟩ | ⟨go,N,hN,step⟩
    · refine thn (T.done (X.comp scope cl NY { s2 with heap:=s2.heap.push { cls:=.type "list",data:=.seq ([]:List Value).toArray } } (upd H2 s2.heap.objs.size (.lst [])) fp) rfl rfl rfl hc i [] s5 σ5 H5 _ I5 (statY fr5) st5 stop) fun r s6 ⟨hr,I6⟩=>?_
      subst hr
      obtain ⟨m,hm,_⟩:=I6.loc
      refine fin _ _ H5 s6 ⟨⟨m,hm⟩,I6.free,Ne.symm (Nat.ne_of_lt I3.lt),I3.sz,fun x c z=>?_,fun p hp=>?_,fun h' hs'=>comp_back I3 hfp I6 hs'⟩ q
      · obtain ⟨_,o,z1,_⟩:=I3.cell x c z
        exact Nat.ne_of_lt (Heap.lt_size z1)
      · exact Nat.ne_of_lt (Heap.lt_size (I3.pin p hp).1)
    · refine thn (T.item (X.comp scope cl NY { s2 with heap:=s2.heap.push { cls:=.type "list",data:=.seq ([]:List Value).toArray } } (upd H2 s2.heap.objs.size (.lst [])) fp) rfl rfl rfl hc i [] s5 σ5 H5 _ I5 (statY fr5) st5 go) fun r s6 ⟨u,hr,h6⟩=>?_
      subst hr
      refine thn h6 fun _ s7 ⟨x,H7,I7,r7,y7,st7,fr7⟩=>?_
      have I7':=I7.pinned (statY fr7) (T.obj _ _ st7)
      refine thn (hg _ s7 σ5 H7 x u _ I7' r7 (step x H7 y7)) fun _ s8 ⟨σ8,H8,I8,q8⟩=>?_
      have pk:∀ {H':Hp} {s':Shared} {σ':St},Inv (X.comp scope cl NY { s2 with heap:=s2.heap.push { cls:=.type "list",data:=.seq ([]:List Value).toArray } } (upd H2 s2.heap.objs.size (.lst [])) fp) ([]++pinsAt fp s7.heap) σ' H' s'->tn (i+1) s'.heap/\∀ b∈fp,H' b=none:=fun I'=>by
        refine ⟨T.keep _ _ _ st7 fun b hb o q=>(I'.pin (b,o) (List.mem_append_right _ (List.mem_append_right _ (xH hb q)))).1,fun b hb=>?_⟩
        obtain ⟨o,q,d⟩:=T.obj _ _ st7 b hb
        exact (I'.pin (b,o) (List.mem_append_right _ (List.mem_append_right _ (xH hb q)))).2.1
      refine thn (ht _ s8 σ8 H8 _ I8 q8) fun bb s8' ⟨H8',I8',q8'⟩=>?_
      cases bb with
      | false =>
        have q8':=(show N σ8 H8' by simpa using q8')
        obtain ⟨m',hm,w10⟩:=hN _ _ q8'
        exact ⟨m',hm,i+1,σ8,_,I8'.unpinned,(pk I8').1,(pk I8').2,w10⟩
      | true =>
        have q8':=(show te σ8 H8' _ by simpa using q8')
        refine thn (he _ s8' σ8 H8' _ I8' q8') fun z s9 ⟨v9,H9,I9,r9,xs,hx9,hz9,n9⟩=>?_
        refine thn (yO _ s9 σ8 H9 (.ref s2.heap.objs.size) [v9] (.ref s2.heap.objs.size) [z] (fun _ H'=>H'=upd H9 s2.heap.objs.size (.lst (xs++[v9]))) I9 rfl (.cons r9 .nil) ⟨s2.heap.objs.size,xs,v9,rfl,rfl,hx9,hz9,rfl⟩) fun y s10 ⟨v10,H10,I10,_,e10⟩=>?_
        subst e10
        obtain ⟨m',hm,w10⟩:=hN _ _ n9
        exact ⟨m',hm,i+1,σ8,_,I10.unpinned,(pk I10).1,(pk I10).2,w10⟩
  exact codeAny_compStart_list loop (T.self _ 0 _ _ _ st4 loop)
theorem pe_compF0 {iter elt tst:Expr} {scope:Scope} {pos:Pos} {cl:List (Str×Addr)} {NY:List Str} {wi:TI} {g:TG} {tt:TT} {te:TE} {σ0:St->Hp->St->Prop} (hc:X.calm=true) (S:Sees X scope cl) (hi:PI X tg iter wi)
    (hY:∀ (s3:Shared) (H3:Hp) (fp:List Addr),PG (X.comp scope cl NY s3 H3 fp) tg g/\PT (X.comp scope cl NY s3 H3 fp) tst tt/\PE (X.comp scope cl NY s3 H3 fp) elt te)
    (h0:∀ (pins:List (Addr×Obj)) (σ:St) (H:Hp) (s3:Shared) (σY:St),Inv X pins σ H s3->σ0 σ H σY->σY.length=NY.length/\∀ (i:Nat) (x:Str) (v:V),NY[i]?=some x->σY[i]?=some (some v) ->
      ∃ c u,(((compEnvC scope cl 0 X.env).kindOf x=some .cell∨(compEnvC scope cl 0 X.env).kindOf x=some .free))/\cl.lookup x=some c/\RelV v u/\s3.heap.IsCell c (some u))
    (hs:∀ x,foldedSetIterable iter X.env x=pure x:=by intro _;rfl) :
    PE X (.ListComp elt [⟨tg,iter,[tst],0⟩] scope pos) (tCompF wi g tt te σ0):=by
  intro pins s σ H Q I h
  rw [eval_ListComp]
  refine comp_coreF (use:=none) hc S hi hY h0 hs I h fun C D H5 s6 e q=>?_
  obtain ⟨m,hm⟩:=e.ns
  exact ⟨m,hm,fun h' hs'=>⟨.ref D,H5,e.inv h' hs',rfl,q⟩⟩
theorem ps_compF0 {iter elt tst:Expr} {scope:Scope} {pos pos' spos:Pos} {cl:List (Str×Addr)} {NY:List Str} {wi:TI} {g:TG} {tt:TT} {te:TE} {σ0:St->Hp->St->Prop} {i:Nat} {y:Str} (hc:X.calm=true) (S:∀ {pins σ H s},Inv X pins σ H s->Sees X scope cl) (hi:PI X tg iter wi)
    (hY:∀ (s3:Shared) (H3:Hp) (fp:List Addr),PG (X.comp scope cl NY s3 H3 fp) tg g/\PT (X.comp scope cl NY s3 H3 fp) tst tt/\PE (X.comp scope cl NY s3 H3 fp) elt te)
    (h0:∀ (pins:List (Addr×Obj)) (σ:St) (H:Hp) (s3:Shared) (σY:St),Inv X pins σ H s3->σ0 σ H σY->σY.length=NY.length/\∀ (i:Nat) (x:Str) (v:V),NY[i]?=some x->σY[i]?=some (some v) ->
      ∃ c u,(((compEnvC scope cl 0 X.env).kindOf x=some .cell∨(compEnvC scope cl 0 X.env).kindOf x=some .free))/\cl.lookup x=some c/\RelV v u/\s3.heap.IsCell c (some u))
    (hs:∀ x,foldedSetIterable iter X.env x=pure x) (hN:X.N.Nodup) (hi':X.N[i]?=some y) (hx:Loc X.env.scope y) (hf:X.fn y=true∨X.env.scope.names.lookup y=some .local)
    (hw:swapsWith (.ListComp elt [⟨tg,iter,[tst],0⟩] scope pos) (some (.Name y pos')) spos.line X.env=pure true):PS X (.Assign [.Name y pos'] (.ListComp elt [⟨tg,iter,[tst],0⟩] scope pos) spos) (tAsg (tCompF wi g tt te σ0) (gName i)):=by
  intro pins s σ H D I h
  rw [exec_Assign_Name_used _ _ _ _ hw,arm_evalThenUse_ListComp]
  refine wpAny_bind (wpAny_standAt (wpAny_bind (wpAny_bind (wpAny_mono (comp_coreF (use:=some (assign (.Name y pos') X.env)) (R:=fun _ s'=>SP X pins D .next s') hc (S I) hi hY h0 hs I h fun C L H5 s6 e q=>?_) (fun _ s' z=>wpAny_pure (wpAny_pure z)) fun _ _ z=>z))))
  obtain ⟨m,hm⟩:=e.ns
  have I6:Inv X pins σ H5 s6:=e.inv s6.heap ⟨rfl,fun _ _=>rfl⟩
  refine wpAny_assign_Name (store_ok2 I6 hN hi' hx (v:=.ref L) rfl (fun s' I' ⟨a,sb,ha⟩=>?_) hf)
  have ne:C≠a:=by
    rintro rfl
    rcases ha with z | z
    · exact e.hL z
    · exact e.h2 _ _ z rfl
  refine ⟨m,?_,fun h' hs'=>?_⟩
  · obtain ⟨o,es,ep,z,r⟩:=hm
    exact ⟨o,es,ep,(sb.2 _ ne).trans z,r⟩
  · exact ⟨_,H5,I'.turned (t':=s'.toks) (it:=C) (fun b o nb z=>(hs'.2 b nb).trans z) e.hn e.hL (.inr e.h1) e.h2 e.h3,q⟩
end
abbrev tCompFC (wi:TI) (g:TG) (tt:TT) (te:TE) (cap:List (Option Nat)):TE:=tCompF wi g tt te fun σ _ σY=>σY=capt cap σ
section
variable {X:Cx} {tg:Expr}
theorem pe_compF {iter elt tst:Expr} {scope:Scope} {pos:Pos} {wi:TI} {g:TG} {tt:TT} {te:TE} (NY:List Str) (cap:List (Option Nat)) (hc:X.calm=true) (hk:seesOk X scope=true) (hcap:capOk X scope NY cap=true) (hi:PI X tg iter wi)
    (hY:∀ (s3:Shared) (H3:Hp) (fp:List Addr),PG (X.comp scope (clOf X.env scope) NY s3 H3 fp) tg g/\PT (X.comp scope (clOf X.env scope) NY s3 H3 fp) tst tt/\PE (X.comp scope (clOf X.env scope) NY s3 H3 fp) elt te)
    (hs:∀ x,foldedSetIterable iter X.env x=pure x:=by intro _;rfl):PE X (.ListComp elt [⟨tg,iter,[tst],0⟩] scope pos) (tCompFC wi g tt te cap):=by
  intro pins s σ H Q I h
  have S:=sees_of I.ok hk
  refine pe_compF0 (NY:=NY) hc S hi hY (fun pins σ H s3 σY I3 e=>?_) hs pins s σ H Q I h
  subst e
  exact capt_ok I3 (sees_of I3.ok hk) hcap
theorem ps_compF {iter elt tst:Expr} {scope:Scope} {pos pos' spos:Pos} {wi:TI} {g:TG} {tt:TT} {te:TE} {i:Nat} {y:Str} (NY:List Str) (cap:List (Option Nat)) (hc:X.calm=true) (hk:seesOk X scope=true) (hcap:capOk X scope NY cap=true) (hi:PI X tg iter wi)
    (hY:∀ (s3:Shared) (H3:Hp) (fp:List Addr),PG (X.comp scope (clOf X.env scope) NY s3 H3 fp) tg g/\PT (X.comp scope (clOf X.env scope) NY s3 H3 fp) tst tt/\PE (X.comp scope (clOf X.env scope) NY s3 H3 fp) elt te) (hN:X.N.Nodup) (hi':X.N[i]?=some y) (hx:Loc X.env.scope y)
    (hf:X.fn y=true∨X.env.scope.names.lookup y=some .local:=by first | exact .inl rfl | exact .inr rfl) (hw:swapsWith (.ListComp elt [⟨tg,iter,[tst],0⟩] scope pos) (some (.Name y pos')) spos.line X.env=pure true:=by rfl)
    (hs:∀ x,foldedSetIterable iter X.env x=pure x:=by intro _;rfl):PS X (.Assign [.Name y pos'] (.ListComp elt [⟨tg,iter,[tst],0⟩] scope pos) spos) (tAsg (tCompFC wi g tt te cap) (gName i)):=by
  refine ps_compF0 (NY:=NY) hc (fun I=>sees_of I.ok hk) hi hY (fun pins σ H s3 σY I3 e=>?_) hs hN hi' hx hf hw
  subst e
  exact capt_ok I3 (sees_of I3.ok hk) hcap
end
theorem compF_list {K:PySem.W.Frag} {a D:Addr} {xs:List V} {g:TG} {tt:TT} {te:TE} {σY:St} {H1:Hp} {Q:VK} (Pv:Nat->St->Hp->Prop) (h0:Pv 0 σY H1) (hl:∀ i σ H,i<=xs.length->Pv i σ H->SqL K H a xs)
    (hs:∀ i x σ H,xs[i]?=some x->Pv i σ H->g x σ H fun σ3 H3=>tt σ3 H3 fun b H4=>if b=true then te σ3 H4 fun v H5=>∃ ys,H5 D=some (.lst ys)/\ys.length<sizeLine/\Pv (i+1) σ3 (upd H5 D (.lst (ys++[v]))) else Pv (i+1) σ3 H4) (hd:∀ σ H,Pv xs.length σ H->Q (.ref D) H) :
    CompWF (Itl K a) g tt te σY H1 D Q:=by
  refine ⟨fun i m σ H=>m=xs.length-i/\i<=xs.length/\Pv i σ H,⟨xs.length,by simp,Nat.zero_le _,h0⟩,?_⟩
  rintro i m σ H ⟨rfl,hi,p⟩
  have q:=hl i σ H hi p
  by_cases hlt:i<xs.length
  · refine .inr ⟨⟨xs,xs[i],q,by simp [hlt]⟩,Pv (i+1),fun σ' H' p'=>⟨xs.length-(i+1),by omega,rfl,hlt,p'⟩,fun x H' y=>?_⟩
    obtain ⟨e,y⟩:=y
    subst e
    exact hs i x σ _ (y xs q) p
  · have e:i=xs.length:=by omega
    subst e
    exact .inl ⟨⟨xs,q,Nat.le_refl _⟩,hd σ H p⟩
theorem compF_range {lo:Int} {n:Nat} {D:Addr} {g:TG} {tt:TT} {te:TE} {σY:St} {H1:Hp} {Q:VK} (Pv:Nat->St->Hp->Prop) (h0:Pv 0 σY H1)
    (hs:∀ i σ H,i<n->Pv i σ H->g (.int (lo+i)) σ H fun σ3 H3=>tt σ3 H3 fun b H4=>if b=true then te σ3 H4 fun v H5=>∃ ys,H5 D=some (.lst ys)/\ys.length<sizeLine/\Pv (i+1) σ3 (upd H5 D (.lst (ys++[v]))) else Pv (i+1) σ3 H4) (hd:∀ σ H,Pv n σ H->Q (.ref D) H) :
    CompWF (Itr lo n) g tt te σY H1 D Q:=by
  refine ⟨fun i m σ H=>m=n-i/\i<=n/\Pv i σ H,⟨n,by simp,Nat.zero_le _,h0⟩,?_⟩
  rintro i m σ H ⟨rfl,hi,p⟩
  by_cases hlt:i<n
  · refine .inr ⟨hlt,Pv (i+1),fun σ' H' p'=>⟨n-(i+1),by omega,rfl,hlt,p'⟩,fun x H' y=>?_⟩
    obtain ⟨e,y⟩:=y
    subst e y
    exact hs i σ _ hlt p
  · have e:i=n:=by omega
    subst e
    exact .inl ⟨Nat.le_refl _,hd σ H p⟩
end L2
namespace L2
open PySem PySem.Spec PyProof.Rows
section
variable {prog:Program} {w:World} {A:Around} {s:Shared}
end
section
variable {prog:Program} {w:World} {A:Around} {E:Value->Shared->Prop} {s:Shared}
end
section
variable {X:Cx} {e:Expr} {te:TE} {p p' pos pos':Pos}
end
end L2
namespace L2
open PySem PySem.Spec PyProof.Rows PyProof
section
variable {X:Cx}
end
end L2
namespace L2
open PySem PySem.Spec PyProof.Rows PyProof
section
variable {X:Cx}
end
end L2
namespace L2
open PySem PySem.Spec PyProof.Rows PyProof
section
variable {X:Cx}
theorem call_rangeV:CallR X (.type "range") (fun xs H Q=>∃ j:Int,xs=[.int j]/\∀ l,H l=none->Q (.ref l) (upd H l (.rng 0 j))):=by
  intro pins s σ H xs us Q I r h
  obtain ⟨j,rfl,q⟩:=h
  obtain ⟨u,rfl,rx⟩:=vals1 r
  obtain ⟨t,rfl⟩:=rx
  refine call_range_1 ?_
  exact ⟨.ref s.heap.objs.size,_,I.laid (fun b o e=>Heap.get?_push_of_some _ e) (Nat.le_refl _) (show ObjOk X.prog X.w _ _ _ (.rng 0 j) from ⟨_,_,_,Heap.get?_push_size _ rfl⟩),rfl,q _ (I.hok.fresh (Nat.le_refl _))⟩
def upto (n:Nat):List Int:=(List.range n).map Int.ofNat
theorem vals_upto:∀ (n:Nat) (us:List Value),us.length=n->(∀ (i:Nat) (v:Value),us[i]?=some v->∃ t,v=Value.int (0+(i:Nat)*1) t)->Vals ((upto n).map V.int) us:=by
  intro n
  induction n with
  | zero=>intro us hl _;cases us with
    | nil=>exact .nil
    | cons _ _=>cases hl
  | succ n ih =>
    intro us hl h
    obtain ⟨ini,last,rfl⟩:∃ ini last,us=ini++[last]:=⟨us.dropLast,us.getLast (by intro e;rw [e] at hl;cases hl),(List.dropLast_concat_getLast _).symm⟩
    have hi:ini.length=n:=by rw [List.length_append] at hl;simpa using hl
    have e:upto (n+1)=upto n++[(n:Int)]:=by unfold upto;rw [List.range_succ,List.map_append];rfl
    rw [e,List.map_append]
    refine (ih ini hi fun i v hv=>?_).append (.cons ?_ .nil)
    · have:i<ini.length:=(List.getElem?_eq_some_iff.mp hv).1
      exact h i v (by rw [List.getElem?_append_left this];exact hv)
    · obtain ⟨t,rfl⟩:=h n last (by rw [List.getElem?_append_right (by omega),hi,Nat.sub_self];rfl)
      exact ⟨t,by show Value.int (0+(n:Int)*1) t=Value.int n t;congr 1;omega⟩
theorem call_list_rng (hc:X.calm=true):CallR X (.type "list") (fun xs H Q=>∃ (p:Addr) (n:Nat),xs=[.ref p]/\H p=some (.rng 0 n)/\n<=1000/\∀ l,H l=none->Q (.ref l) (upd H l (.lst ((upto n).map V.int)))):=by
  intro pins s σ H xs us Q I r h
  obtain ⟨p,n,rfl,hp,hn,q⟩:=h
  obtain ⟨u,rfl,rx⟩:=vals1 r
  cases rx
  obtain ⟨t,u,v,e⟩:=I.hok p _ hp
  have hs:Builtin.Range.small 0 (n:Int) 1=true:=small_one (by omega) (by omega) (by omega) (by omega)
  have hz:Builtin.Range.rangeSize 0 (n:Int) 1=n:=by rw [rangeSize_one];split <;> omega
  have SL:(1000:Nat)<=sizeLine:=by decide
  refine call_list_range (I.ok.hd hc) e hs hz (by omega) fun h' tk acc c' hk hS ha=>?_
  refine ⟨.ref s.heap.objs.size,_,I.laid (t':=tk) hk (Nat.le_refl _) (show ObjOk X.prog X.w _ h' _ (.lst ((upto n).map V.int)) from ⟨?_,acc.toList,c',vals_upto n acc.toList ?_ ?_,?_⟩),rfl,q _ (I.hok.fresh (Nat.le_refl _))⟩
  · rw [List.length_map];unfold upto;rw [List.length_map,List.length_range];omega
  · simpa using ha.1
  · intro i v hv
    exact ha.2 i v (by simpa using hv)
  · simpa using hS
end
end L2
namespace L2
open PySem PySem.Spec PyProof.Rows
section
variable {X:Cx}
end
end L2
namespace My
open PySem PySem.W PyProof.Rows
theorem xy (x y:Int):Builtin.bitAnd x y / 2=Builtin.bitAnd (x / 2) (y / 2)/\Builtin.bitAnd x y % 2=(x % 2)*(y % 2):=by
  have h:=kbt_halves x y
  rcases (by omega:x % 2=0∨x % 2=1) with a | a <;> rcases (by omega:y % 2=0∨y % 2=1) with b | b <;>
    (rw [a,b] at h ⊢;simp at h ⊢;omega)
theorem xK (x y:Int):Builtin.bitOr x y / 2=Builtin.bitOr (x / 2) (y / 2)/\Builtin.bitOr x y % 2=max (x % 2) (y % 2):=by
  rw [bitOr_and,bitOr_and]
  have h:=kbt_halves x y
  rcases (by omega:x % 2=0∨x % 2=1) with a | a <;> rcases (by omega:y % 2=0∨y % 2=1) with b | b <;>
    (rw [a,b] at h ⊢;simp at h;omega)
theorem xr (x y:Int):Builtin.bitXor x y / 2=Builtin.bitXor (x / 2) (y / 2)/\Builtin.bitXor x y % 2=(x % 2+y % 2) % 2:=by
  rw [bitXor_and,bitXor_and]
  have h:=kbt_halves x y
  rcases (by omega:x % 2=0∨x % 2=1) with a | a <;> rcases (by omega:y % 2=0∨y % 2=1) with b | b <;>
    (rw [a,b] at h ⊢;simp at h;omega)
def In (n:Nat) (x:Int):Prop:=-(2 ^ n)<=x/\x<2 ^ n
theorem in_half {n:Nat} {x:Int}:In (n+1) x↔In n (x / 2):=by
  unfold In
  rw [Int.pow_succ]
  constructor
  · intro h;omega
  · intro h;omega
theorem yH {x:Int} (h:In 0 x):x=0∨x=-1:=by
  unfold In at h;omega
theorem and_in (n:Nat):∀ x y:Int,In n x->In n y->In n (Builtin.bitAnd x y):=by
  induction n with
  | zero =>
    intro x y hx hy
    rcases yH hx with a | a <;> rcases yH hy with b | b <;> (subst a;subst b;unfold In;decide)
  | succ n ih=>intro x y hx hy;rw [in_half] at *;rw [(xy x y).1];exact ih _ _ hx hy
theorem or_in (n:Nat):∀ x y:Int,In n x->In n y->In n (Builtin.bitOr x y):=by
  induction n with
  | zero =>
    intro x y hx hy
    rcases yH hx with a | a <;> rcases yH hy with b | b <;> (subst a;subst b;unfold In;decide)
  | succ n ih=>intro x y hx hy;rw [in_half] at *;rw [(xK x y).1];exact ih _ _ hx hy
theorem xor_in (n:Nat):∀ x y:Int,In n x->In n y->In n (Builtin.bitXor x y):=by
  induction n with
  | zero =>
    intro x y hx hy
    rcases yH hx with a | a <;> rcases yH hy with b | b <;> (subst a;subst b;unfold In;decide)
  | succ n ih=>intro x y hx hy;rw [in_half] at *;rw [(xr x y).1];exact ih _ _ hx hy
theorem ext_half {x y:Int} (h:x / 2=y / 2) (g:x % 2=y % 2):x=y:=by omega
theorem and_assoc (n:Nat):∀ x y z:Int,In n x->In n y->In n z->Builtin.bitAnd (Builtin.bitAnd x y) z=Builtin.bitAnd x (Builtin.bitAnd y z):=by
  induction n with
  | zero =>
    intro x y z hx hy hz
    rcases yH hx with a | a <;> rcases yH hy with b | b <;> rcases yH hz with c | c <;> (subst a;subst b;subst c;decide)
  | succ n ih =>
    intro x y z hx hy hz;rw [in_half] at *
    refine ext_half ?_ ?_
    · rw [(xy _ z).1,(xy x y).1,(xy x _).1,(xy y z).1];exact ih _ _ _ hx hy hz
    · rw [(xy _ z).2,(xy x y).2,(xy x _).2,(xy y z).2,Int.mul_assoc]
theorem or_assoc (n:Nat):∀ x y z:Int,In n x->In n y->In n z->Builtin.bitOr (Builtin.bitOr x y) z=Builtin.bitOr x (Builtin.bitOr y z):=by
  induction n with
  | zero =>
    intro x y z hx hy hz
    rcases yH hx with a | a <;> rcases yH hy with b | b <;> rcases yH hz with c | c <;> (subst a;subst b;subst c;decide)
  | succ n ih =>
    intro x y z hx hy hz;rw [in_half] at *
    refine ext_half ?_ ?_
    · rw [(xK _ z).1,(xK x y).1,(xK x _).1,(xK y z).1];exact ih _ _ _ hx hy hz
    · rw [(xK _ z).2,(xK x y).2,(xK x _).2,(xK y z).2];omega
theorem xor_assoc (n:Nat):∀ x y z:Int,In n x->In n y->In n z->Builtin.bitXor (Builtin.bitXor x y) z=Builtin.bitXor x (Builtin.bitXor y z):=by
  induction n with
  | zero =>
    intro x y z hx hy hz
    rcases yH hx with a | a <;> rcases yH hy with b | b <;> rcases yH hz with c | c <;> (subst a;subst b;subst c;decide)
  | succ n ih =>
    intro x y z hx hy hz;rw [in_half] at *
    refine ext_half ?_ ?_
    · rw [(xr _ z).1,(xr x y).1,(xr x _).1,(xr y z).1];exact ih _ _ _ hx hy hz
    · rw [(xr _ z).2,(xr x y).2,(xr x _).2,(xr y z).2];omega
theorem xor_comm (x y:Int):Builtin.bitXor x y=Builtin.bitXor y x:=by rw [bitXor_and,bitXor_and,bitAnd_comm];omega
end My
namespace My
open PySem PySem.W PyProof.Rows
def kept (n:Int):Int:=Int.fmod (n+9223372036854775808) 18446744073709551616-9223372036854775808
theorem kept_e (n:Int):kept n=(n+9223372036854775808) % 18446744073709551616-9223372036854775808:=by
  unfold kept;rw [Int.fmod_eq_emod_of_nonneg _ (by decide)]
theorem kept_lo (n:Int):-9223372036854775808<=kept n:=by rw [kept_e];omega
theorem kept_hi (n:Int):kept n<=9223372036854775807:=by rw [kept_e];omega
def Kin (x:Int):Prop:=-9223372036854775808<=x/\x<=9223372036854775807
theorem kin_in {x:Int}:Kin x↔In 63 x:=by
  unfold Kin In
  have e:(2:Int) ^ 63=9223372036854775808:=by decide
  rw [e];omega
theorem kept_kin (n:Int):Kin (kept n):=⟨kept_lo n,kept_hi n⟩
theorem kept_mod (n:Int):∃ k,kept n=n-18446744073709551616*k:=⟨(n+9223372036854775808) / 18446744073709551616,by rw [kept_e];omega⟩
theorem kept_of (n k:Int):kept (n-18446744073709551616*k)=kept n:=by rw [kept_e,kept_e];omega
theorem mul_assoc_kept (a b c:Int):kept (kept (a*b)*c)=kept (a*kept (b*c)):=by
  obtain ⟨k,hk⟩:=kept_mod (a*b)
  obtain ⟨m,hm⟩:=kept_mod (b*c)
  rw [hk,hm,Int.sub_mul,Int.mul_sub,Int.mul_assoc 18446744073709551616 k c,kept_of,Int.mul_left_comm a 18446744073709551616 m,kept_of,Int.mul_assoc]
theorem add_assoc_kept (a b c:Int):kept (kept (a+b)+c)=kept (a+kept (b+c)):=by
  rw [kept_e,kept_e,kept_e,kept_e];omega
structure Free (op:Int->Int->Int):Prop where
  cl:∀ a b,Kin a->Kin b->Kin (op a b)
  cm:∀ a b,Kin a->Kin b->op a b=op b a
  as:∀ a b c,Kin a->Kin b->Kin c->op (op a b) c=op a (op b c)
theorem free_sum:Free (fun a b=>kept (a+b)):=⟨fun _ _ _ _=>kept_kin _,fun a b _ _=>by rw [Int.add_comm],fun a b c _ _ _=>add_assoc_kept a b c⟩
theorem free_product:Free (fun a b=>kept (a*b)):=⟨fun _ _ _ _=>kept_kin _,fun a b _ _=>by rw [Int.mul_comm],fun a b c _ _ _=>mul_assoc_kept a b c⟩
theorem free_least:Free (fun a b=>min a b):=⟨fun a b h g=>by unfold Kin at *;omega,fun a b _ _=>by omega,fun a b c _ _ _=>by omega⟩
theorem free_most:Free (fun a b=>max a b):=⟨fun a b h g=>by unfold Kin at *;omega,fun a b _ _=>by omega,fun a b c _ _ _=>by omega⟩
theorem free_both:Free Builtin.bitAnd:=⟨fun a b h g=>kin_in.mpr (and_in 63 a b (kin_in.mp h) (kin_in.mp g)),fun a b _ _=>bitAnd_comm a b,fun a b c h g i=>and_assoc 63 a b c (kin_in.mp h) (kin_in.mp g) (kin_in.mp i)⟩
theorem free_either:Free Builtin.bitOr:=⟨fun a b h g=>kin_in.mpr (or_in 63 a b (kin_in.mp h) (kin_in.mp g)),fun a b _ _=>by rw [bitOr_and,bitOr_and,bitAnd_comm];omega,fun a b c h g i=>or_assoc 63 a b c (kin_in.mp h) (kin_in.mp g) (kin_in.mp i)⟩
theorem free_odd:Free Builtin.bitXor:=⟨fun a b h g=>kin_in.mpr (xor_in 63 a b (kin_in.mp h) (kin_in.mp g)),fun a b _ _=>xor_comm a b,fun a b c h g i=>xor_assoc 63 a b c (kin_in.mp h) (kin_in.mp g) (kin_in.mp i)⟩
def fold1 (op:Int->Int->Int):List Int->Int
  | []=>0
  | x::xs=>xs.foldl op x
theorem foldl_kin {op:Int->Int->Int} (F:Free op):∀ (l:List Int) (a:Int),Kin a->(∀ v∈l,Kin v)->Kin (l.foldl op a)
  | [],a,h,_=>h
  | x::xs,a,h,g=>foldl_kin F xs _ (F.cl _ _ h (g x (List.mem_cons_self ..))) (fun v hv=>g v (List.mem_cons_of_mem _ hv))
theorem foldl_perm {op:Int->Int->Int} (F:Free op) {l m:List Int} (p:l.Perm m):∀ a,Kin a->(∀ v∈l,Kin v)->l.foldl op a=m.foldl op a:=by
  induction p with
  | nil=>intro a _ _;rfl
  | cons x p ih=>intro a h g;exact ih _ (F.cl _ _ h (g x (List.mem_cons_self ..))) (fun v hv=>g v (List.mem_cons_of_mem _ hv))
  | swap x y l =>
    intro a h g
    have hx:Kin x:=g x (by simp)
    have hy:Kin y:=g y (by simp)
    have e:op (op a y) x=op (op a x) y:=by rw [F.as _ _ _ h hy hx,F.as _ _ _ h hx hy,F.cm y x hy hx]
    simp only [List.foldl_cons,e]
  | trans p q ih1 ih2=>intro a h g;rw [ih1 a h g];exact ih2 a h (fun v hv=>g v (p.mem_iff.mpr hv))
theorem fold1_perm {op:Int->Int->Int} (F:Free op) {l m:List Int} (p:l.Perm m):(∀ v∈l,Kin v)->fold1 op l=fold1 op m:=by
  induction p with
  | nil=>intro _;rfl
  | cons x p ih=>intro g;exact foldl_perm F p _ (g x (List.mem_cons_self ..)) (fun v hv=>g v (List.mem_cons_of_mem _ hv))
  | swap x y l =>
    intro g
    have hx:Kin x:=g x (by simp)
    have hy:Kin y:=g y (by simp)
    simp only [fold1,List.foldl_cons,F.cm y x hy hx]
  | trans p q ih1 ih2=>intro g;rw [ih1 g];exact ih2 (fun v hv=>g v (p.mem_iff.mpr hv))
end My
namespace My
theorem foldl_as {op:Int->Int->Int} (F:Free op):∀ (l:List Int) (a b:Int),Kin a->Kin b->(∀ v∈l,Kin v)->l.foldl op (op a b)=op a (l.foldl op b)
  | [],_,_,_,_,_=>rfl
  | c::l,a,b,ha,hb,g=>by
    have hc:=g c List.mem_cons_self
    show l.foldl op (op (op a b) c)=op a (l.foldl op (op b c))
    rw [F.as a b c ha hb hc]
    exact foldl_as F l a (op b c) ha (F.cl _ _ hb hc) fun v hv=>g v (List.mem_cons_of_mem _ hv)
theorem fold1_kin {op:Int->Int->Int} (F:Free op) {l:List Int} (h:l≠[]) (g:∀ v∈l,Kin v):Kin (fold1 op l):=by
  cases l with
  | nil=>exact absurd rfl h
  | cons a l=>exact foldl_kin F l a (g a List.mem_cons_self) fun v hv=>g v (List.mem_cons_of_mem _ hv)
theorem fold1_append {op:Int->Int->Int} (F:Free op) {l m:List Int} (h:l≠[]) (k:m≠[]) (g:∀ v∈l,Kin v) (j:∀ v∈m,Kin v):fold1 op (l++m)=op (fold1 op l) (fold1 op m):=by
  cases l with
  | nil=>exact absurd rfl h
  | cons a l =>
    cases m with
    | nil=>exact absurd rfl k
    | cons b m =>
      show (l++b::m).foldl op a=op (l.foldl op a) (m.foldl op b)
      rw [List.foldl_append]
      show m.foldl op (op (l.foldl op a) b)=_
      exact foldl_as F m _ b (foldl_kin F l a (g a List.mem_cons_self) fun v hv=>g v (List.mem_cons_of_mem _ hv)) (j b List.mem_cons_self) fun v hv=>j v (List.mem_cons_of_mem _ hv)
def win (op:Int->Int->Int) (ns:List Int) (d i:Nat):Int:=fold1 op ((ns.take (i+1)).drop (i+1-d))
def wins (op:Int->Int->Int) (ns:List Int) (d:Nat):List Int:=(List.range ns.length).map (win op ns d)
theorem wins_len {op:Int->Int->Int} {ns:List Int} {d:Nat}:(wins op ns d).length=ns.length:=by simp [wins]
theorem wins_at {op:Int->Int->Int} {ns:List Int} {d i:Nat} (h:i<ns.length):(wins op ns d).getD i 0=win op ns d i:=by
  simp [wins,List.getD_eq_getElem?_getD,h]
theorem win_one {op:Int->Int->Int} {ns:List Int} {i:Nat} (h:i<ns.length):win op ns 1 i=ns.getD i 0:=by
  unfold win
  rw [Nat.add_sub_cancel,List.take_add_one,List.drop_append,List.getElem?_eq_getElem h,List.drop_eq_nil_of_le (by rw [List.length_take];omega),List.length_take,show i-min i ns.length=0 by omega,List.getD_eq_getElem?_getD,List.getElem?_eq_getElem h]
  rfl
theorem wins_one {op:Int->Int->Int} {ns:List Int}:wins op ns 1=ns:=by
  apply List.ext_getElem (by rw [wins_len])
  intro i h1 h2
  have:=win_one (op:=op) h2
  rw [List.getD_eq_getElem?_getD,List.getElem?_eq_getElem h2] at this
  simp only [wins,List.getElem_map,List.getElem_range]
  rw [this];rfl
theorem win_all {op:Int->Int->Int} {ns:List Int} {d i:Nat} (h:i<d):win op ns d i=fold1 op (ns.take (i+1)):=by
  unfold win
  rw [show i+1-d=0 by omega];rfl
theorem win_two {op:Int->Int->Int} (F:Free op) {ns:List Int} (g:∀ v∈ns,Kin v) {d i:Nat} (hd:0<d) (h:i<ns.length) (hi:d<=i):op (win op ns d (i-d)) (win op ns d i)=win op ns (d*2) i:=by
  unfold win
  have e:(ns.take (i+1)).drop (i+1-d*2)=(ns.take (i-d+1)).drop (i-d+1-d)++(ns.take (i+1)).drop (i+1-d):=by
    have e1:ns.take (i+1)=ns.take (i-d+1)++(ns.take (i+1)).drop (i+1-d):=by
      have:=List.take_append_drop (i-d+1) (ns.take (i+1))
      rw [List.take_take,show min (i-d+1) (i+1)=i-d+1 by omega] at this
      rw [show i+1-d=i-d+1 by omega]
      exact this.symm
    rw [e1,List.drop_append,List.length_take]
    rw [← e1,show i+1-d*2-min (i-d+1) ns.length=0 by omega,List.drop_zero,show i+1-d*2=i-d+1-d by omega]
  rw [e]
  refine (fold1_append F ?_ ?_ (fun v hv=>g v (List.mem_of_mem_take (List.mem_of_mem_drop hv))) (fun v hv=>g v (List.mem_of_mem_take (List.mem_of_mem_drop hv)))).symm
  · intro z
    have:=congrArg List.length z
    rw [List.length_drop,List.length_take] at this
    simp at this;omega
  · intro z
    have:=congrArg List.length z
    rw [List.length_drop,List.length_take] at this
    simp at this;omega
theorem win_kin {op:Int->Int->Int} (F:Free op) {ns:List Int} (g:∀ v∈ns,Kin v) {d i:Nat} (hd:0<d) (h:i<ns.length):Kin (win op ns d i):=by
  unfold win
  refine fold1_kin F ?_ (fun v hv=>g v (List.mem_of_mem_take (List.mem_of_mem_drop hv)))
  intro z
  have:=congrArg List.length z
  rw [List.length_drop,List.length_take] at this
  simp at this;omega
theorem wins_two {op:Int->Int->Int} (F:Free op) {ns:List Int} (g:∀ v∈ns,Kin v) {d:Nat} (hd:0<d) (hl:d<ns.length) :
    (wins op ns d).take d++(List.range (ns.length-d)).map (fun i=>op ((wins op ns d).getD i 0) ((wins op ns d).getD (d+i) 0))=wins op ns (d*2):=by
  apply List.ext_getElem
  · simp [wins];omega
  intro i h1 h2
  have hi:i<ns.length:=by simpa [wins] using h2
  have e2:(wins op ns (d*2))[i]=win op ns (d*2) i:=by simp [wins]
  rw [e2]
  by_cases hlt:i<d
  · rw [List.getElem_append_left (by simp [wins];omega)]
    rw [List.getElem_take]
    simp only [wins,List.getElem_map,List.getElem_range]
    rw [win_all hlt,win_all (by omega)]
  · have hlen:((wins op ns d).take d).length=d:=by simp [wins];omega
    rw [List.getElem_append_right (by omega)]
    simp only [hlen,List.getElem_map,List.getElem_range]
    rw [wins_at (by omega),wins_at (by omega),show d+(i-d)=i by omega]
    exact win_two F g hd hi (by omega)
theorem foldl_step {op:Int->Int->Int} {ns:List Int} {i:Nat} (h:i+1<ns.length):fold1 op (ns.take (i+2))=op (fold1 op (ns.take (i+1))) (ns.getD (i+1) 0):=by
  cases ns with
  | nil=>simp at h
  | cons a l =>
    have h':i<l.length:=by simpa using h
    show (l.take (i+1)).foldl op a=op ((l.take i).foldl op a) (l.getD i 0)
    rw [List.take_add_one,List.foldl_append,List.getElem?_eq_getElem h',List.getD_eq_getElem?_getD,List.getElem?_eq_getElem h']
    rfl
theorem x6 {op:Int->Int->Int} {l:List Int} (h:l≠[]) (x:Int):fold1 op (l++[x])=op (fold1 op l) x:=by
  cases l with
  | nil=>exact absurd rfl h
  | cons a l=>show (l++[x]).foldl op a=_;rw [List.foldl_append];rfl
def pairs (op:Int->Int->Int) (ns:List Int) (j:Nat):List Int:=(List.range j).map fun i=>op (ns.getD (2*i) 0) (ns.getD (2*i+1) 0)
def halve (op:Int->Int->Int) (ns:List Int):List Int:=pairs op ns (ns.length / 2)++if ns.length % 2=1 then [ns.getD (ns.length-1) 0] else []
theorem take_two {ns:List Int} {i:Nat} (h:i<ns.length):ns.take (i+1)=ns.take i++[ns.getD i 0]:=by
  rw [List.take_add_one,List.getElem?_eq_getElem h,List.getD_eq_getElem?_getD,List.getElem?_eq_getElem h];rfl
theorem getD_in {ns:List Int} {i:Nat} (h:i<ns.length):ns.getD i 0∈ns:=by
  rw [List.getD_eq_getElem?_getD,List.getElem?_eq_getElem h];exact List.getElem_mem _
theorem pairs_fold {op:Int->Int->Int} (F:Free op) {ns:List Int} (g:∀ v∈ns,Kin v):∀ j:Nat,2*(j+1)<=ns.length->fold1 op (pairs op ns (j+1))=fold1 op (ns.take (2*(j+1)))
  | 0,h=>by
    have e:ns.take 2=ns.take 0++[ns.getD 0 0]++[ns.getD 1 0]:=by
      rw [take_two (show 1<ns.length by omega),take_two (show 0<ns.length by omega)]
    show op (ns.getD 0 0) (ns.getD 1 0)=fold1 op (ns.take 2)
    rw [e];rfl
  | j+1,h=>by
    have ih:=pairs_fold F g j (by omega)
    have e1:pairs op ns (j+1+1)=pairs op ns (j+1)++[op (ns.getD (2*(j+1)) 0) (ns.getD (2*(j+1)+1) 0)]:=by
      unfold pairs;rw [List.range_succ,List.map_append];rfl
    have e2:ns.take (2*(j+1+1))=ns.take (2*(j+1))++[ns.getD (2*(j+1)) 0]++[ns.getD (2*(j+1)+1) 0]:=by
      rw [show 2*(j+1+1)=2*(j+1)+1+1 by omega,take_two (by omega),take_two (show 2*(j+1)<ns.length by omega)]
    have n1:pairs op ns (j+1)≠[]:=by
      intro z;have:=congrArg List.length z;simp [pairs] at this
    have n2:ns.take (2*(j+1))≠[]:=by
      intro z;have:=congrArg List.length z;rw [List.length_take,List.length_nil] at this;omega
    have k1:Kin (fold1 op (ns.take (2*(j+1)))):=fold1_kin F n2 fun v hv=>g v (List.mem_of_mem_take hv)
    rw [e1,x6 n1,ih,e2,x6 (by simp),x6 n2,F.as _ _ _ k1 (g _ (getD_in (by omega))) (g _ (getD_in (by omega)))]
theorem halve_fold {op:Int->Int->Int} (F:Free op) {ns:List Int} (g:∀ v∈ns,Kin v) (h:1<ns.length):fold1 op (halve op ns)=fold1 op ns:=by
  obtain ⟨j,hj⟩:∃ j,ns.length / 2=j+1:=⟨ns.length / 2-1,by omega⟩
  have p:=pairs_fold F g j (by omega)
  unfold halve
  rw [hj]
  by_cases z:ns.length % 2=1
  · rw [if_pos z,x6 (by intro z;have:=congrArg List.length z;simp [pairs] at this),p]
    have e:ns=ns.take (2*(j+1))++[ns.getD (ns.length-1) 0]:=by
      have:=take_two (ns:=ns) (i:=ns.length-1) (by omega)
      rw [show ns.length-1+1=ns.length by omega,List.take_length] at this
      rw [show 2*(j+1)=ns.length-1 by omega]
      exact this
    conv=>rhs;rw [e]
    rw [x6]
    intro z;have:=congrArg List.length z;rw [List.length_take,List.length_nil] at this;omega
  · rw [if_neg z,List.append_nil,p,show 2*(j+1)=ns.length by omega,List.take_length]
theorem halve_kin {op:Int->Int->Int} (F:Free op) {ns:List Int} (g:∀ v∈ns,Kin v):∀ v∈halve op ns,Kin v:=by
  intro v hv
  rcases List.mem_append.mp hv with hv | hv
  · obtain ⟨i,hi,rfl⟩:=List.mem_map.mp hv
    have:=List.mem_range.mp hi
    exact F.cl _ _ (g _ (getD_in (by omega))) (g _ (getD_in (by omega)))
  · by_cases z:ns.length % 2=1
    · rw [if_pos z] at hv
      rw [List.mem_singleton.mp hv]
      exact g _ (getD_in (by omega))
    · rw [if_neg z] at hv;cases hv
theorem halve_len {op:Int->Int->Int} {ns:List Int}:(halve op ns).length=(ns.length+1) / 2:=by
  unfold halve pairs
  rw [List.length_append,List.length_map,List.length_range]
  split
  · simp;omega
  · simp;omega
theorem turned_perm {ns:List Int} (c:Nat):(ns.drop c++ns.take c).Perm ns:=by
  have p:(ns.drop c++ns.take c).Perm (ns.take c++ns.drop c):=List.perm_append_comm
  rw [List.take_append_drop] at p
  exact p
end My
namespace L2
open PySem
theorem iteEq {x:V} {A B:Prop} (h:A):if decide (x=x)=true then A else B:=by
  rw [decide_eq_true rfl];exact iteT h
theorem zE {s t:Str} {A B:Prop} (n:s≠t) (h:B):if decide (V.str s=V.str t)=true then A else B:=by
  rw [decide_eq_false (fun e=>n (by injection e))];exact yx h
end L2
namespace L2
open PySem PySem.Spec PyProof.Rows
def constV:Expr->Option V
  | .Constant (.str x) _ _=>some (.str x)
  | .Constant (.int i) _ _=>some (.int i)
  | _=>none
def constsV:List Expr->Option (List V)
  | []=>some []
  | e::es=>match constV e with
    | some v=>(match constsV es with
      | some vs=>some (v::vs)
      | none=>none)
    | none=>none
def tKs (vs:List V):TA:=fun _ H Q=>Q vs H
theorem pa_ks {X:Cx}:∀ {es:List Expr} {vs:List V},constsV es=some vs->PA X es (tKs vs)
  | [],vs,h=>by cases h;exact zb
  | e::es,vs,h=>by
    unfold constsV at h
    split at h
    · rename_i v hv
      split at h
      · rename_i ws hw
        cases h
        have ih:=pa_ks (X:=X) hw
        unfold constV at hv
        split at hv
        · cases hv;exact za zX ih rfl
        · cases hv;exact za ze ih rfl
        · cases hv
      · cases h
    · cases h
end L2
namespace L2
open PySem PySem.Spec PyProof.Rows
structure PB (X:Cx) (sts:List Stmt) (t:TS):Prop where
  h:PSs X sts t
structure PW1 (X:Cx) (st:Stmt) (t:TS):Prop where
  h:PS X st t
section
variable {X:Cx} {st:Stmt} {rest:List Stmt} {t u:TS}
end
section
variable {P:Program} {w:World} {K:PySem.W.Frag} {mg:Str->Option Value} {base:Heap}
end
end L2
namespace K40
open PySem L2
def top (i:Nat):Stmt:=PySem.Challenge.pw_rowbreadth_k40_folded_and_running.main.body.getD i (.Pass ⟨0,0,0,0⟩)
abbrev xB:Stmt:=top 6
theorem sc_start_of:FnScope ["lengths","row"] ["lengths","row"] (zd xB):=⟨rfl,rfl,rfl,by decide +kernel,rfl,by decide +kernel,by decide +kernel⟩
abbrev s_kept:Stmt:=top 17
theorem sc_kept:FnScope ["number"] ["number"] (zd s_kept):=⟨rfl,rfl,rfl,by decide +kernel,rfl,by decide +kernel,by decide +kernel⟩
abbrev s_plus:Stmt:=top 18
theorem sc_plus:FnScope ["left","right"] ["left","right"] (zd s_plus):=⟨rfl,rfl,rfl,by decide +kernel,rfl,by decide +kernel,by decide +kernel⟩
abbrev s_times:Stmt:=top 20
theorem sc_times:FnScope ["left","right"] ["left","right"] (zd s_times):=⟨rfl,rfl,rfl,by decide +kernel,rfl,by decide +kernel,by decide +kernel⟩
abbrev s_lesser:Stmt:=top 24
theorem sc_lesser:FnScope ["left","right"] ["left","right"] (zd s_lesser):=⟨rfl,rfl,rfl,by decide +kernel,rfl,by decide +kernel,by decide +kernel⟩
abbrev xQ:Stmt:=top 25
theorem sc_greater:FnScope ["left","right"] ["left","right"] (zd xQ):=⟨rfl,rfl,rfl,by decide +kernel,rfl,by decide +kernel,by decide +kernel⟩
abbrev yC:Stmt:=top 28
theorem sc_bits_of_both:FnScope ["left","right"] ["left","right"] (zd yC):=⟨rfl,rfl,rfl,by decide +kernel,rfl,by decide +kernel,by decide +kernel⟩
abbrev yp:Stmt:=top 29
theorem sc_bits_of_either:FnScope ["left","right"] ["left","right"] (zd yp):=⟨rfl,rfl,rfl,by decide +kernel,rfl,by decide +kernel,by decide +kernel⟩
abbrev yL:Stmt:=top 30
theorem sc_bits_of_one:FnScope ["left","right"] ["left","right"] (zd yL):=⟨rfl,rfl,rfl,by decide +kernel,rfl,by decide +kernel,by decide +kernel⟩
abbrev xS:Stmt:=top 31
theorem sc_chained:FnScope ["run","number"] ["run","number"] (zd xS):=⟨rfl,rfl,rfl,by decide +kernel,rfl,by decide +kernel,by decide +kernel⟩
abbrev s_capped:Stmt:=top 32
theorem sc_capped:FnScope ["run","number"] ["run","number"] (zd s_capped):=⟨rfl,rfl,rfl,by decide +kernel,rfl,by decide +kernel,by decide +kernel⟩
abbrev s_free:Stmt:=top 37
theorem sc_free:FnScope ["fold"] ["fold"] (zd s_free):=⟨rfl,rfl,rfl,by decide +kernel,rfl,by decide +kernel,by decide +kernel⟩
abbrev s_joined:Stmt:=top 38
theorem sc_joined:FnScope ["fold","run","number"] ["fold","run","number"] (zd s_joined):=⟨rfl,rfl,rfl,by decide +kernel,rfl,by decide +kernel,by decide +kernel⟩
abbrev s_halved:Stmt:=top 40
theorem sc_halved:FnScope ["fold","numbers","told","at"] ["fold","numbers"] (zd s_halved):=⟨rfl,rfl,rfl,by decide +kernel,rfl,by decide +kernel,by decide +kernel⟩
abbrev xE:Stmt:=top 41
theorem sc_cut_join:FnScope ["fold","numbers","feed","left","cut"] ["fold","numbers","feed"] (zd xE):=⟨rfl,rfl,rfl,by decide +kernel,rfl,by decide +kernel,by decide +kernel⟩
abbrev xR:Stmt:=top 42
theorem sc_doubled:FnScope ["fold","numbers","told","ahead","later","at"] ["fold","numbers"] (zd xR):=⟨rfl,rfl,rfl,by decide +kernel,rfl,by decide +kernel,by decide +kernel⟩
abbrev yV:Stmt:=top 44
theorem sc_play_reach:FnScope ["bench","step","active","lane","number"] ["bench","step"] (zd yV):=⟨rfl,rfl,rfl,by decide +kernel,rfl,by decide +kernel,by decide +kernel⟩
abbrev yY:Stmt:=top 47
theorem sc_lay_chosen:FnScope ["bench","step","nought","active","numbers","lane","number"] ["bench","step","nought"] (zd yY):=⟨rfl,rfl,rfl,by decide +kernel,rfl,by decide +kernel,by decide +kernel⟩
abbrev yK:Stmt:=top 48
theorem sc_play_choose:FnScope ["bench","step"] ["bench","step"] (zd yK):=⟨rfl,rfl,rfl,by decide +kernel,rfl,by decide +kernel,by decide +kernel⟩
abbrev yW:Stmt:=top 49
theorem sc_play_other:FnScope ["bench","step"] ["bench","step"] (zd yW):=⟨rfl,rfl,rfl,by decide +kernel,rfl,by decide +kernel,by decide +kernel⟩
abbrev s_folded:Stmt:=top 53
theorem sc_folded:FnScope ["bench","fold","run","numbers","number"] ["bench","fold","run","numbers"] (zd s_folded):=⟨rfl,rfl,rfl,by decide +kernel,rfl,by decide +kernel,by decide +kernel⟩
abbrev xl:Stmt:=top 54
theorem sc_play_fold:FnScope ["bench","step","numbers","run"] ["bench","step"] (zd xl):=⟨rfl,rfl,rfl,by decide +kernel,rfl,by decide +kernel,by decide +kernel⟩
abbrev yz:Stmt:=top 55
theorem sc_ran_in_order:FnScope ["fold","numbers","told","number"] ["fold","numbers"] (zd yz):=⟨rfl,rfl,rfl,by decide +kernel,rfl,by decide +kernel,by decide +kernel⟩
abbrev yg:Stmt:=top 56
theorem sc_running_numbers:FnScope ["fold","carried","numbers","first","number"] ["fold","carried","numbers"] (zd yg):=⟨rfl,rfl,rfl,by decide +kernel,rfl,by decide +kernel,by decide +kernel⟩
abbrev yA:Stmt:=top 57
theorem sc_play_running:FnScope ["bench","step","active","told","lane","number"] ["bench","step"] (zd yA):=⟨rfl,rfl,rfl,by decide +kernel,rfl,by decide +kernel,by decide +kernel⟩
abbrev yZ:Stmt:=top 60
theorem sc_has_effect:FnScope ["word"] ["word"] (zd yZ):=⟨rfl,rfl,rfl,by decide +kernel,rfl,by decide +kernel,by decide +kernel⟩
abbrev yJ:Stmt:=top 61
theorem sc_play_effect:FnScope ["bench","step"] ["bench","step"] (zd yJ):=⟨rfl,rfl,rfl,by decide +kernel,rfl,by decide +kernel,by decide +kernel⟩
abbrev yo:Stmt:=top 65
theorem sc_numbers_loaded:FnScope ["bench","step","active","lane"] ["bench","step","active"] (zd yo):=⟨rfl,rfl,rfl,by decide +kernel,rfl,by decide +kernel,by decide +kernel⟩
abbrev xm:Stmt:=top 77
theorem sc_lays_seat:FnScope ["word"] ["word"] (zd xm):=⟨rfl,rfl,rfl,by decide +kernel,rfl,by decide +kernel,by decide +kernel⟩
abbrev yn:Stmt:=top 78
theorem sc_play_seat_step:FnScope ["bench","step","active"] ["bench","step"] (zd yn):=⟨rfl,rfl,rfl,by decide +kernel,rfl,by decide +kernel,by decide +kernel⟩
abbrev yX:Stmt:=top 80
theorem sc_play_begin:FnScope ["bench","step"] ["bench","step"] (zd yX):=⟨rfl,rfl,rfl,by decide +kernel,rfl,by decide +kernel,by decide +kernel⟩
abbrev xk:Stmt:=top 81
theorem sc_play_next:FnScope ["bench","step","base"] ["bench","step"] (zd xk):=⟨rfl,rfl,rfl,by decide +kernel,rfl,by decide +kernel,by decide +kernel⟩
abbrev yB:Stmt:=top 86
theorem sc_place_behind:FnScope ["bench","step"] ["bench","step"] (zd yB):=⟨rfl,rfl,rfl,by decide +kernel,rfl,by decide +kernel,by decide +kernel⟩
abbrev s_ran:Stmt:=top 87
theorem sc_ran:FnScope ["code","lengths","cells","lanes","dust","picks","bench"] ["code","lengths","cells","lanes","dust","picks"] (zd s_ran):=⟨rfl,rfl,rfl,by decide +kernel,rfl,by decide +kernel,by decide +kernel⟩
abbrev xn:Stmt:=top 89
theorem sc_l_cell_at:FnScope ["_law_script","_law_k"] ["_law_script","_law_k"] (zd xn):=⟨rfl,rfl,rfl,by decide +kernel,rfl,by decide +kernel,by decide +kernel⟩
abbrev s_l_some:Stmt:=top 90
theorem sc_l_some:FnScope ["_law_script","_law_k","_law_salt","_law_many","_law_cell","_law_mixed"] ["_law_script","_law_k","_law_salt","_law_many"] (zd s_l_some):=⟨rfl,rfl,rfl,by decide +kernel,rfl,by decide +kernel,by decide +kernel⟩
abbrev xC:Stmt:=top 91
theorem sc_l_number:FnScope ["_law_script","_law_k","_law_cell","_law_mixed"] ["_law_script","_law_k"] (zd xC):=⟨rfl,rfl,rfl,by decide +kernel,rfl,by decide +kernel,by decide +kernel⟩
abbrev xo:Stmt:=top 92
theorem sc_l_alike:FnScope ["_law_found","_law_due","_law_one","_law_other"] ["_law_found","_law_due"] (zd xo):=⟨rfl,rfl,rfl,by decide +kernel,rfl,by decide +kernel,by decide +kernel⟩
abbrev xN:Stmt:=top 93
theorem sc_l_lanes:FnScope ["_law_cell"] ["_law_cell"] (zd xN):=⟨rfl,rfl,rfl,by decide +kernel,rfl,by decide +kernel,by decide +kernel⟩
abbrev xP:Stmt:=top 94
theorem sc_l_group:FnScope ["_law_script","_law_k","_law_salt"] ["_law_script","_law_k","_law_salt"] (zd xP):=⟨rfl,rfl,rfl,by decide +kernel,rfl,by decide +kernel,by decide +kernel⟩
abbrev s_l_dust:Stmt:=top 95
theorem sc_l_dust:FnScope ["_law_script","_law_k","_law_salt","_law_j"] ["_law_script","_law_k","_law_salt"] (zd s_l_dust):=⟨rfl,rfl,rfl,by decide +kernel,rfl,by decide +kernel,by decide +kernel⟩
abbrev s_l_ran:Stmt:=top 96
theorem sc_l_ran:FnScope ["_law_code","_law_lengths","_law_cells","_law_lanes_here","_law_dust_here","_law_picks","_law_handed","_law_found"] ["_law_code","_law_lengths","_law_cells","_law_lanes_here","_law_dust_here","_law_picks"] (zd s_l_ran):=⟨rfl,rfl,rfl,by decide +kernel,rfl,by decide +kernel,by decide +kernel⟩
abbrev s_l_kept:Stmt:=top 97
theorem sc_l_kept:FnScope ["_law_number_here"] ["_law_number_here"] (zd s_l_kept):=⟨rfl,rfl,rfl,by decide +kernel,rfl,by decide +kernel,by decide +kernel⟩
abbrev xD:Stmt:=top 98
theorem sc_l_joined:FnScope ["_law_fold","_law_run","_law_number_here"] ["_law_fold","_law_run","_law_number_here"] (zd xD):=⟨rfl,rfl,rfl,by decide +kernel,rfl,by decide +kernel,by decide +kernel⟩
abbrev xM:Stmt:=top 99
theorem sc_l_round:FnScope ["_law_script","_law_k","_law_rows","_law_many","_law_group_here","_law_p","_law_m","_law_code","_law_folds","_law_j","_law_word","_law_fold"] ["_law_script","_law_k","_law_rows","_law_many","_law_group_here"] (zd xM):=⟨rfl,rfl,rfl,by decide +kernel,rfl,by decide +kernel,by decide +kernel⟩
abbrev xO:Stmt:=top 100
theorem sc_l_joins:FnScope ["_law_step","_law_place","_law_start","_law_active","_law_numbers","_law_carried","_law_due","_law_touches","_law_at","_law_number_here"] ["_law_step","_law_place","_law_start","_law_active","_law_numbers","_law_carried","_law_due","_law_touches"] (zd xO):=⟨rfl,rfl,rfl,by decide +kernel,rfl,by decide +kernel,by decide +kernel⟩
abbrev xL:Stmt:=top 101
theorem sc_l_strip:FnScope ["_law_code","_law_opened","_law_base","_law_width","_law_starts","_law_carried","_law_due","_law_touches","_law_active","_law_numbers","_law_k","_law_step","_law_at","_law_number_here"] ["_law_code","_law_opened","_law_base","_law_width","_law_starts","_law_carried","_law_due","_law_touches"] (zd xL):=⟨rfl,rfl,rfl,by decide +kernel,rfl,by decide +kernel,by decide +kernel⟩
abbrev s_law:Stmt:=top 102
theorem sc_law:FnScope ["_law_script","_law_rows","_law_low","_law_lengths","_law_k","_law_starts","_law_cells","_law_lanes_here","_law_picks","_law_cell","_law_code","_law_due","_law_touches","_law_group_here","_law_many","_law_one","_law_carried","_law_base","_law_width"] ["_law_script"] (zd s_law):=⟨rfl,rfl,rfl,by decide +kernel,rfl,by decide +kernel,by decide +kernel⟩
abbrev y9:Stmt:=yy (top 2) 0
theorem sc_Boxes_init:FnScope ["self","lanes"] ["self","lanes"] (zd y9):=⟨rfl,rfl,rfl,by decide +kernel,rfl,by decide +kernel,by decide +kernel⟩
abbrev yu:Stmt:=yy (top 2) 1
theorem sc_Boxes_spot_of:FnScope ["self","group","seat","lane"] ["self","group","seat","lane"] (zd yu):=⟨rfl,rfl,rfl,by decide +kernel,rfl,by decide +kernel,by decide +kernel⟩
abbrev xq:Stmt:=yy (top 2) 2
theorem sc_Boxes_lay:FnScope ["self","group","seat","lane","number"] ["self","group","seat","lane","number"] (zd xq):=⟨rfl,rfl,rfl,by decide +kernel,rfl,by decide +kernel,by decide +kernel⟩
abbrev yh:Stmt:=yy (top 2) 3
theorem sc_Boxes_number_at:FnScope ["self","group","seat","lane"] ["self","group","seat","lane"] (zd yh):=⟨rfl,rfl,rfl,by decide +kernel,rfl,by decide +kernel,by decide +kernel⟩
abbrev xp:Stmt:=yy (top 4) 0
theorem sc_Feed_init:FnScope ["self","numbers"] ["self","numbers"] (zd xp):=⟨rfl,rfl,rfl,by decide +kernel,rfl,by decide +kernel,by decide +kernel⟩
abbrev y8:Stmt:=yy (top 4) 1
theorem sc_Feed_taken:FnScope ["self","number"] ["self"] (zd y8):=⟨rfl,rfl,rfl,by decide +kernel,rfl,by decide +kernel,by decide +kernel⟩
abbrev xa:Stmt:=yy (top 10) 0
theorem sc_Bench_init:FnScope ["self","lengths","cells","lanes","dust","picks","row","mask"] ["self","lengths","cells","lanes","dust","picks"] (zd xa):=⟨rfl,rfl,rfl,by decide +kernel,rfl,by decide +kernel,by decide +kernel⟩
abbrev yc:Stmt:=yy (top 10) 1
theorem sc_Bench_open_round:FnScope ["self","many","group"] ["self","many","group"] (zd yc):=⟨rfl,rfl,rfl,by decide +kernel,rfl,by decide +kernel,by decide +kernel⟩
abbrev z9:Stmt:=yy (top 10) 2
theorem sc_Bench_begin_strip:FnScope ["self","base"] ["self","base"] (zd z9):=⟨rfl,rfl,rfl,by decide +kernel,rfl,by decide +kernel,by decide +kernel⟩
abbrev zU:Stmt:=yy (top 10) 3
theorem sc_Bench_active_under:FnScope ["self","mask","truths","lane"] ["self","mask"] (zd zU):=⟨rfl,rfl,rfl,by decide +kernel,rfl,by decide +kernel,by decide +kernel⟩
abbrev yd:Stmt:=yy (top 10) 4
theorem sc_Bench_numbers_in:FnScope ["self","seat","active","lane"] ["self","seat","active"] (zd yd):=⟨rfl,rfl,rfl,by decide +kernel,rfl,by decide +kernel,by decide +kernel⟩
abbrev yq:Stmt:=yy (top 10) 5
theorem sc_Bench_lay_seat:FnScope ["self","seat","active","numbers","told","lane","number"] ["self","seat","active","numbers"] (zd yq):=⟨rfl,rfl,rfl,by decide +kernel,rfl,by decide +kernel,by decide +kernel⟩
abbrev yr:Stmt:=yy (top 10) 6
theorem sc_Bench_lay_mask:FnScope ["self","mask","chosen","truths","lane"] ["self","mask","chosen"] (zd yr):=⟨rfl,rfl,rfl,by decide +kernel,rfl,by decide +kernel,by decide +kernel⟩
abbrev yM:Stmt:=yy (top 10) 7
theorem sc_Bench_touch:FnScope ["self","kind","address"] ["self","kind","address"] (zd yM):=⟨rfl,rfl,rfl,by decide +kernel,rfl,by decide +kernel,by decide +kernel⟩
abbrev yi:Stmt:=yy (top 10) 8
theorem sc_Bench_read_cell:FnScope ["self","row","place","address"] ["self","row","place"] (zd yi):=⟨rfl,rfl,rfl,by decide +kernel,rfl,by decide +kernel,by decide +kernel⟩
abbrev yb:Stmt:=yy (top 10) 9
theorem sc_Bench_write_cell:FnScope ["self","row","place","number","address"] ["self","row","place","number"] (zd yb):=⟨rfl,rfl,rfl,by decide +kernel,rfl,by decide +kernel,by decide +kernel⟩
section
variable {P:Program} {w:World} {K:PySem.W.Frag} {mg:Str->Option Value} {base:Heap}
abbrev Kin (x:Int):Prop:=-9223372036854775808<=x/\x<=9223372036854775807
def kept (n:Int):Int:=(n+9223372036854775808) % (2*9223372036854775808)-9223372036854775808
theorem ok_kept {t:Tok} (d:zn K mg "kept" s_kept ["number"]) (hH:mg "HALF"=some (.int 9223372036854775808 t)):Ok P w K mg base (CXe P w base) 1 "kept" ["number"] (sp1 fun n=>.int (kept n)):=by
 obtain ⟨f,fd,m,F,b⟩:=d
 refine ⟨f,fd,m,F.kp,b,F.okE sc_kept len1 fun cdv A outer s H vs Q E hr h=>?_⟩
 obtain ⟨n,rfl,k⟩:=h
 refine ⟨_,zf (zq (zi op_sub (zi yU (zi zF (pv 0) (pe_gint hH)) (zi ya ze (pe_gint hH))) (pe_gint hH))),?_⟩
 exact ⟨_,rfl,_,_,rfl,rfl,_,_,rfl,rfl,.inl ⟨by decide,by decide⟩,_,_,rfl,rfl,(by show (0:Int)<2*9223372036854775808;decide),_,_,rfl,rfl,k⟩
abbrev GK (P:Program) (w:World) (K:PySem.W.Frag) (mg:Str->Option Value) (base:Heap):Prop:=Ok P w K mg base (CXe P w base) 1 "kept" ["number"] (sp1 fun n=>.int (kept n))
theorem ok_plus (d:zn K mg "plus" s_plus ["left","right"]) (G:GK P w K mg base):Ok P w K mg base (CXe P w base) 2 "plus" ["left","right"] (sp2 (fun _ _=>True) fun a b=>kept (a+b)):=by
 obtain ⟨f,fd,m,F,b⟩:=d
 refine ⟨f,fd,m,F.kp,b,F.okE sc_plus len2 fun cdv A outer s H vs Q E hr h=>?_⟩
 obtain ⟨x,y,rfl,_,k⟩:=h
 refine ⟨_,zf (zq (zD G hr rfl passE (za (zi zF (pv 0) (pv 1)) zb))),?_⟩
 exact ⟨_,rfl,_,rfl,_,_,rfl,rfl,_,rfl,k⟩
theorem ok_times (d:zn K mg "times" s_times ["left","right"]) (G:GK P w K mg base):Ok P w K mg base (CXe P w base) 2 "times" ["left","right"] (sp2 (fun a _=>Kin a) fun a b=>kept (a*b)):=by
 obtain ⟨f,fd,m,F,b⟩:=d
 refine ⟨f,fd,m,F.kp,b,F.okE sc_times len2 fun cdv A outer s H vs Q E hr h=>?_⟩
 obtain ⟨x,y,rfl,c,k⟩:=h
 refine ⟨_,zf (zq (zD G hr rfl passE (za (zi ya (pv 0) (pv 1)) zb))),?_⟩
 exact ⟨_,rfl,_,rfl,_,_,rfl,rfl,.inl ⟨by omega,by omega⟩,_,rfl,k⟩
theorem ok_lesser (d:zn K mg "lesser" s_lesser ["left","right"]) (hm:mg "min"=none):Ok P w K mg base (CXe P w base) 2 "lesser" ["left","right"] (sp2 (fun _ _=>True) fun a b=>if b<a then b else a):=by
 obtain ⟨f,fd,m,F,b⟩:=d
 refine ⟨f,fd,m,F.kp,b,F.okE sc_lesser len2 fun cdv A outer s H vs Q E hr h=>?_⟩
 obtain ⟨x,y,rfl,_,k⟩:=h
 refine ⟨_,zf (zq (zv (xI rfl) rfl hm PyProof.Rows.boot_min (za (pv 0) (za (pv 1) zb)))),?_⟩
 exact ⟨_,rfl,_,rfl,_,_,rfl,k⟩
theorem ok_greater (d:zn K mg "greater" xQ ["left","right"]) (hm:mg "max"=none):Ok P w K mg base (CXe P w base) 2 "greater" ["left","right"] (sp2 (fun _ _=>True) fun a b=>if b > a then b else a):=by
 obtain ⟨f,fd,m,F,b⟩:=d
 refine ⟨f,fd,m,F.kp,b,F.okE sc_greater len2 fun cdv A outer s H vs Q E hr h=>?_⟩
 obtain ⟨x,y,rfl,_,k⟩:=h
 refine ⟨_,zf (zq (zv (call_max2 rfl) rfl hm PyProof.Rows.boot_max (za (pv 0) (za (pv 1) zb)))),?_⟩
 exact ⟨_,rfl,_,rfl,_,_,rfl,k⟩
theorem ok_both (d:zn K mg "bits_of_both" yC ["left","right"]):Ok P w K mg base (CXe P w base) 2 "bits_of_both" ["left","right"] (sp2 (fun _ _=>True) Builtin.bitAnd):=by
 obtain ⟨f,fd,m,F,b⟩:=d
 refine ⟨f,fd,m,F.kp,b,F.okE sc_bits_of_both len2 fun cdv A outer s H vs Q E hr h=>?_⟩
 obtain ⟨x,y,rfl,_,k⟩:=h
 exact ⟨_,zf (zq (zi op_and (pv 0) (pv 1))),_,rfl,_,rfl,_,_,rfl,rfl,k⟩
theorem ok_either (d:zn K mg "bits_of_either" yp ["left","right"]):Ok P w K mg base (CXe P w base) 2 "bits_of_either" ["left","right"] (sp2 (fun _ _=>True) Builtin.bitOr):=by
 obtain ⟨f,fd,m,F,b⟩:=d
 refine ⟨f,fd,m,F.kp,b,F.okE sc_bits_of_either len2 fun cdv A outer s H vs Q E hr h=>?_⟩
 obtain ⟨x,y,rfl,_,k⟩:=h
 exact ⟨_,zf (zq (zi op_or (pv 0) (pv 1))),_,rfl,_,rfl,_,_,rfl,rfl,k⟩
theorem ok_one (d:zn K mg "bits_of_one" yL ["left","right"]):Ok P w K mg base (CXe P w base) 2 "bits_of_one" ["left","right"] (sp2 (fun _ _=>True) Builtin.bitXor):=by
 obtain ⟨f,fd,m,F,b⟩:=d
 refine ⟨f,fd,m,F.kp,b,F.okE sc_bits_of_one len2 fun cdv A outer s H vs Q E hr h=>?_⟩
 obtain ⟨x,y,rfl,_,k⟩:=h
 exact ⟨_,zf (zq (zi op_xor (pv 0) (pv 1))),_,rfl,_,rfl,_,_,rfl,rfl,k⟩
end
end K40
namespace K40
open PySem L2
section
variable {P:Program} {w:World} {K:PySem.W.Frag} {mg:Str->Option Value} {base:Heap}
structure FCls (K:PySem.W.Frag) (C:Addr):Prop where
 c:Cls K C
 n1:NoAttr K C "numbers"
 n2:NoAttr K C "at"
abbrev zJ (C dx:Addr) (l:Addr) (p:Int):HO:=.ins C dx [("numbers",.ref l),("at",.int p)]
def fAt (ns:List Int) (q:Nat):Int:=if ns.length=0 then 0 else ((q % ns.length:Nat):Int)
def fVal (ns:List Int) (q:Nat):Int:=ns.getD (q % ns.length) 0
def spInitF (K:PySem.W.Frag) (C:Addr):Sp:=fun vs H Q _=>∃ (x dx a:Addr) (ns:List Int),vs=[.ref x,.ref a]/\H x=some (.ins C dx [])/\SqL K H a (ns.map V.int) /\
 ∀ (H':Hp) (l:Addr),(∀ b o,b≠x->H b=some o->H' b=some o)->H l=none->H' x=some (zJ C dx l 0)->H' l=some (.lst (ns.map V.int))->Q .non H'
theorem ok_initF {C:Addr} (d:InitIn K C "Feed.__init__" xp ["self","numbers"]) (b:FCls K C) (hlist:mg "list"=none):OkI P w K mg base CX0 1 C ["self","numbers"] (spInitF K C):=by
 obtain ⟨f,fd,m,F,bd⟩:=d
 refine ⟨f,fd,m,bd,F.ok sc_Feed_init (by rintro vs H Q E ⟨_,_,_,_,rfl,_⟩;rfl) fun cdv A outer s H vs Q E hr h=>?_⟩
 obtain ⟨x,dx,a,ns,rfl,hx,hS,k⟩:=h
 refine ⟨_,(zc (zN (pv 0) (ye zY (by rfl) hlist PyProof.Rows.boot_list (za (pv 1) zb)) rfl)
   (zf (zN (pv 0) ze rfl))),?_⟩
 dsimp only [yt,Cx.nox,Cx.wish]
 refine ⟨_,rfl,a,_,rfl,.inl hS,fun l nl=>?_⟩
 have nx:x≠l:=zw hx nl
 refine ⟨_,rfl,x,C,dx,[],rfl,by rw [zo nx];exact hx,b.c,b.n1,by decide,?_⟩
 refine ⟨_,rfl,x,C,dx,[("numbers",.ref l)],rfl,zg,b.c,b.n2,(by show 1<1000;decide),?_⟩
 refine k _ l (fun c o nc z=>?_) nl zg ?_
 ·rw [zo nc,zo nc,zo (zw z nl)]
  exact z
 ·rw [zo (Ne.symm nx),zo (Ne.symm nx),zg]
def spTaken (C:Addr):Sp:=fun vs H Q _=>∃ (x dx l:Addr) (ns:List Int) (q:Nat),vs=[.ref x]/\H x=some (zJ C dx l (fAt ns q))/\H l=some (.lst (ns.map V.int)) /\
 ∀ H',(∀ b o,b≠x->H b=some o->H' b=some o)->H' x=some (zJ C dx l (fAt ns (q+1)))->Q (.int (fVal ns q)) H'
theorem ok_taken {C:Addr} (d:yf K C "taken" "Feed.taken" y8 ["self"]) (b:FCls K C) (hlen:mg "len"=none):OkM P w K mg base CX0 1 C "taken" ["self"] (spTaken C):=by
 obtain ⟨f,fd,m,F,bd⟩:=d
 refine ⟨f,fd,m,bd,F.ok sc_Feed_taken (by rintro vs H Q E ⟨_,_,_,_,_,rfl,_⟩;rfl) fun cdv A outer s H vs Q E hr h=>?_⟩
 obtain ⟨x,dx,l,ns,q,rfl,hx,hl,k⟩:=h
 have nd:=sc_Feed_taken.nd
 refine ⟨_,(zc (zV (zH yF (zv zG (by rfl) hlen PySem.boot_len (za (zC (pv 0) rfl) zb)) ze (zL _)) (zf (zq ze)) zI)
   (zc (zu (i:=1) nd rfl (Or.inl rfl) (zy zR (zC (pv 0) rfl) (zC (pv 0) rfl) (fun _ _=>rfl)))
   (zc (zN (pv 0) (zi yU (zi zF (zC (pv 0) rfl) ze) (zv zG (by rfl) hlen PySem.boot_len (za (zC (pv 0) rfl) zb))) rfl)
   (zf (zq (pv 1)))))),?_⟩
 dsimp only [yt,Cx.nox,Cx.wish]
 refine ⟨_,rfl,x,C,dx,_,.ref l,rfl,hx,b.c,b.n1,rfl,l,_,rfl,.inl (SqL.of hl),rfl,_,rfl,?_⟩
 rw [List.length_map]
 refine ite2 (fun z=>?_) (fun z=>?_)
 ·have z:(ns.length:Int)=0:=by simpa using z
  have e:ns=[]:=List.length_eq_zero_iff.mp (by omega)
  subst e
  exact k H (fun b o _ z=>z) hx
 ·have z:ns.length≠0:=by simpa using z
  have lt:q % ns.length<ns.length:=Nat.mod_lt _ (by omega)
  have e1:fAt ns q=((q % ns.length:Nat):Int):=if_neg z
  have e2:fAt ns (q+1)=(((q+1) % ns.length:Nat):Int):=if_neg z
  have nx:x≠l:=ne_of hx hl (by intro y;cases y)
  refine ⟨_,rfl,x,C,dx,_,.ref l,rfl,hx,b.c,b.n1,rfl,_,rfl,x,C,dx,_,.int (fAt ns q),rfl,hx,b.c,b.n2,rfl,l,_,_,_,rfl,rfl,SqL.of hl,yP (q % ns.length) lt e1,?_⟩
  refine ⟨_,rfl,x,C,dx,_,.int (fAt ns q),rfl,hx,b.c,b.n2,rfl,_,_,rfl,rfl,_,rfl,x,C,dx,_,.ref l,rfl,hx,b.c,b.n1,rfl,l,_,rfl,.inl (SqL.of hl),_,_,rfl,rfl,(by rw [List.length_map];omega),?_⟩
  refine ⟨_,rfl,x,C,dx,_,rfl,hx,b.c,b.n2,(by show 2<1000;decide),?_⟩
  refine ⟨_,rfl,k _ (fun c o nc z=>by rw [zo nc];exact z) ?_⟩
  have e3:(fAt ns q+1) % ((ns.map V.int).length:Int)=fAt ns (q+1):=by
   rw [e1,e2,List.length_map]
   have h1:(((q % ns.length:Nat):Int)+1)=((q % ns.length+1:Nat):Int):=by omega
   rw [h1,← Int.natCast_emod,Nat.mod_add_mod]
  rw [zg,← e3]
  rfl
structure BCls (K:PySem.W.Frag) (C:Addr):Prop where
 c:Cls K C
 n1:NoAttr K C "lanes"
 n2:NoAttr K C "numbers"
abbrev boxO (C dx:Addr) (L:Int) (l:Addr):HO:=.ins C dx [("lanes",.int L),("numbers",.ref l)]
def spInitB (C:Addr):Sp:=fun vs H Q _=>∃ (x dx:Addr) (L:Int),vs=[.ref x,.int L]/\H x=some (.ins C dx [])/\1<=L/\L<=64 /\
 ∀ (H':Hp) (l:Addr),(∀ b o,b≠x->H b=some o->H' b=some o)->H l=none->H' x=some (boxO C dx L l)->H' l=some (.lst ((List.replicate (8*L).toNat (0:Int)).map V.int))->Q .non H'
theorem ok_initB {C:Addr} {t:Tok} (d:InitIn K C "Boxes.__init__" y9 ["self","lanes"]) (b:BCls K C) (hMB:mg "MANY_BOXES"=some (.int 8 t)):OkI P w K mg base CX0 1 C ["self","lanes"] (spInitB C):=by
 obtain ⟨f,fd,m,F,bd⟩:=d
 refine ⟨f,fd,m,bd,F.ok sc_Boxes_init (by rintro vs H Q E ⟨_,_,_,rfl,_⟩;rfl) fun cdv A outer s H vs Q E hr h=>?_⟩
 obtain ⟨x,dx,L,rfl,hx,h1,h2,k⟩:=h
 refine ⟨_,zc (zN (pv 0) (pv 1) rfl) (zf (zN (pv 0) (zi op_rep (yw (za ze zb)) (zi ya (pe_gint hMB) (pv 1))) rfl)),?_⟩
 dsimp only [yt,Cx.nox,Cx.wish]
 refine ⟨_,rfl,_,rfl,x,C,dx,[],rfl,hx,b.c,b.n1,by decide,?_⟩
 refine ⟨(by show 1<=sizeLine;decide),fun t nt=>⟨_,rfl,_,_,rfl,rfl,.inl ⟨by decide,by decide⟩,t,_,_,rfl,rfl,zg,by omega,by omega,?_,fun l nl=>?_⟩⟩
 ·show 1*(8*L).toNat<=sizeLine
  have:(600:Nat)<=sizeLine:=by decide
  omega
 have nx:x≠t:=zw (o:=.ins C dx [("lanes",.int L)]) zg nt
 have nl':x≠l:=zw (o:=.ins C dx [("lanes",.int L)]) (by rw [zo nx,zg];rfl) nl
 refine ⟨_,rfl,x,C,dx,[("lanes",.int L)],rfl,?_,b.c,b.n2,(by show 1<1000;decide),?_⟩
 ·rw [zo nl',zo nx,zg];rfl
 rw [rep_ints]
 have lt:l≠t:=Ne.symm (zw (o:=.lst [.int 0]) zg nl)
 have hl:H l=none:=by
  have z:=nl
  rw [zo lt,zo (Ne.symm nl')] at z
  exact z
 have ht:H t=none:=by
  have z:=nt
  rw [zo (Ne.symm nx)] at z
  exact z
 refine k _ l (fun c o nc z=>?_) hl zg ?_
 ·rw [zo nc,zo (zw z hl),zo (zw z ht),zo nc]
  exact z
 ·rw [zo (Ne.symm nl'),zg]
def spSpot (C:Addr):Sp:=fun vs H Q _=>∃ (x dx l:Addr) (L g p j:Int),vs=[.ref x,.int g,.int p,.int j]/\H x=some (boxO C dx L l)/\1<=L/\L<=64/\1<=g/\g<=4/\Q (.int (p*g*L+j)) H
theorem ok_spot {C:Addr} (d:yf K C "spot_of" "Boxes.spot_of" yu ["self","group","seat","lane"]) (b:BCls K C):OkM P w K mg base CX0 1 C "spot_of" ["self","group","seat","lane"] (spSpot C):=by
 obtain ⟨f,fd,m,F,bd⟩:=d
 refine ⟨f,fd,m,bd,F.ok sc_Boxes_spot_of (by rintro vs H Q E ⟨_,_,_,_,_,_,_,rfl,_⟩;rfl) fun cdv A outer s H vs Q E hr h=>?_⟩
 obtain ⟨x,dx,l,L,g,p,j,rfl,hx,h1,h2,h3,h4,k⟩:=h
 refine ⟨_,(zf (zq (zi zF (zi ya (zi ya (pv 2) (pv 1)) (zC (pv 0) rfl)) (pv 3)))),?_⟩
 dsimp only [yt,Cx.nox,Cx.wish]
 exact ⟨_,rfl,_,rfl,_,_,rfl,rfl,.inr ⟨by omega,by omega⟩,_,rfl,x,C,dx,_,.int L,rfl,hx,b.c,b.n1,rfl,_,_,rfl,rfl,.inr ⟨by omega,by omega⟩,_,rfl,_,_,rfl,rfl,k⟩
def spLay (C:Addr):Sp:=fun vs H Q _=>∃ (x dx l:Addr) (L g p j n:Int) (nums:List Int),vs=[.ref x,.int g,.int p,.int j,.int n]/\H x=some (boxO C dx L l)/\H l=some (.lst (nums.map V.int))/\1<=L/\L<=64/\1<=g/\g<=4/\0<=p*g*L+j/\p*g*L+j<nums.length /\
 Q .non (upd H l (.lst ((nums.set (p*g*L+j).toNat n).map V.int)))
theorem ok_lay {C:Addr} (d:yf K C "lay" "Boxes.lay" xq ["self","group","seat","lane","number"]) (b:BCls K C) (SO:OkM P w K mg base CX0 1 C "spot_of" ["self","group","seat","lane"] (spSpot C)):OkM P w K mg base CX0 2 C "lay" ["self","group","seat","lane","number"] (spLay C):=by
 obtain ⟨f,fd,m,F,bd⟩:=d
 refine ⟨f,fd,m,bd,F.ok sc_Boxes_lay (by rintro vs H Q E ⟨_,_,_,_,_,_,_,_,_,rfl,_⟩;rfl) fun cdv A outer s H vs Q E hr h=>?_⟩
 obtain ⟨x,dx,l,L,g,p,j,n,nums,rfl,hx,hl,h1,h2,h3,h4,h5,h6,k⟩:=h
 have hr1:=hr
 have cC:=b.c
 refine ⟨_,(zf (ps_asg (pv 4) (pg_sub (zC (pv 0) rfl) (yk SO cC hr1 zr (pv 0) (za (pv 1) (za (pv 2) (za (pv 3) zb)))) xW))),?_⟩
 dsimp only [yt,Cx.nox,Cx.wish]
 refine ⟨_,rfl,_,rfl,x,C,dx,_,.ref l,rfl,hx,b.c,b.n2,rfl,_,rfl,x,dx,_,rfl,hx,rfl,_,rfl,_,rfl,_,rfl,x,dx,l,L,g,p,j,rfl,hx,h1,h2,h3,h4,?_⟩
 refine ⟨l,_,_,_,rfl,rfl,hl,ixN_nat h5 (by rw [List.length_map];exact h6),?_⟩
 rw [set_ints]
 exact k
def spNum (C:Addr):Sp:=fun vs H Q _=>∃ (x dx l:Addr) (L g p j:Int) (nums:List Int),vs=[.ref x,.int g,.int p,.int j]/\H x=some (boxO C dx L l)/\H l=some (.lst (nums.map V.int))/\1<=L/\L<=64/\1<=g/\g<=4/\0<=p*g*L+j/\p*g*L+j<nums.length /\
 Q (.int (nums.getD (p*g*L+j).toNat 0)) H
theorem ok_num {C:Addr} (d:yf K C "number_at" "Boxes.number_at" yh ["self","group","seat","lane"]) (b:BCls K C) (SO:OkM P w K mg base CX0 1 C "spot_of" ["self","group","seat","lane"] (spSpot C)):OkM P w K mg base CX0 2 C "number_at" ["self","group","seat","lane"] (spNum C):=by
 obtain ⟨f,fd,m,F,bd⟩:=d
 refine ⟨f,fd,m,bd,F.ok sc_Boxes_number_at (by rintro vs H Q E ⟨_,_,_,_,_,_,_,_,rfl,_⟩;rfl) fun cdv A outer s H vs Q E hr h=>?_⟩
 obtain ⟨x,dx,l,L,g,p,j,nums,rfl,hx,hl,h1,h2,h3,h4,h5,h6,k⟩:=h
 have hr1:=hr
 have cC:=b.c
 refine ⟨_,(zf (zq (zy zR (zC (pv 0) rfl) (yk SO cC hr1 zr (pv 0) (za (pv 1) (za (pv 2) (za (pv 3) zb)))) (fun _ _=>rfl)))),?_⟩
 dsimp only [yt,Cx.nox,Cx.wish]
 exact ⟨_,rfl,x,C,dx,_,.ref l,rfl,hx,b.c,b.n2,rfl,_,rfl,x,dx,_,rfl,hx,rfl,_,rfl,_,rfl,_,rfl,x,dx,l,L,g,p,j,rfl,hx,h1,h2,h3,h4,l,_,_,_,rfl,rfl,SqL.of hl,yP (p*g*L+j).toNat (by omega) (by omega),k⟩
end
end K40
namespace L2
open PySem
theorem pe_fldK {X:Cx} {K:PySem.W.Frag} {e:Expr} {f:Str} {pos:Pos} {ta:TE} (h:X.K=K) (he:PE X e ta) (hb:attributeBase e f X.env (eval e X.env)=eval e X.env):PE X (.Attribute e f pos) (tFld K ta f):=h ▸ zC he hb
end L2
namespace K40
open PySem L2
structure MCs where
 bx:Addr
 fe:Addr
 bn:Addr
structure Mc where
 lens:List Int
 starts:List Int
 cells:List Int
 lanes:Nat
 nums:List Int
 masks:List (List Bool)
 slots:List (Key×V)
 dust:List Int
 dq:Nat
 picks:List Int
 pq:Nat
 touches:List (Int×Str×Int)
 pc:Int
 opened:Int
 many:Int
 group:Int
 base:Int
 begun:Int
 width:Int
 faults:List (Key×V)
 cut:Option Int
 carried:Option Int
 raised:Bool
 turns:List (Int×Int)
 refusal:Option (Int×Int×Str)
structure Ma where
 b:Addr
 db:Addr
 aL:Addr
 aS:Addr
 aC:Addr
 bx:Addr
 dbx:Addr
 aN:Addr
 aM:Addr
 aSl:Addr
 fd:Addr
 dfd:Addr
 aD:Addr
 fp:Addr
 dfp:Addr
 aP:Addr
 aT:Addr
 aF:Addr
 aU:Addr
 ms:List Addr
 ts:List Addr
 us:List Addr
 rf:V
def oV:Option Int->V
 | none=>.non
 | some n=>.int n
def flds (A:Ma) (M:Mc):List (Str×V):=[("lengths",.ref A.aL),("starts",.ref A.aS),("cells",.ref A.aC),("lanes",.int M.lanes),("boxes",.ref A.bx),("masks",.ref A.aM),("slots",.ref A.aSl),("dust",.ref A.fd),("picks",.ref A.fp),("touches",.ref A.aT),("at",.int M.pc),("opened",.int M.opened),("many",.int M.many),("group",.int M.group),("base",.int M.base),("begun",.int M.begun),("width",.int M.width),("faults",.ref A.aF),("cut",oV M.cut),("carried",oV M.carried),("raised",.bl M.raised),("turns",.ref A.aU),("refusal",A.rf)]
def mskO (A:Ma) (M:Mc):List (Addr×HO):=(A.ms.zip M.masks).map fun p=>(p.1,.lst (p.2.map V.bl))
def objs (c:MCs) (A:Ma) (M:Mc) (R:List (Addr×HO)):List (Addr×HO) :=
 (A.b,.ins c.bn A.db (flds A M))::(A.aC,.lst (M.cells.map V.int))::(A.aN,.lst (M.nums.map V.int))::(A.aSl,.dK M.slots)::(A.fd,zJ c.fe A.dfd A.aD (fAt M.dust M.dq))::(A.fp,zJ c.fe A.dfp A.aP (fAt M.picks M.pq))::(A.aT,.lst (A.ts.map V.ref))::(A.aF,.dK M.faults)::(A.aU,.lst (A.us.map V.ref))::(mskO A M++R)
structure BenchB (c:MCs) (B:Hp) (A:Ma) (M:Mc):Prop where
 lens:B A.aL=some (.lst (M.lens.map V.int))
 starts:B A.aS=some (.lst (M.starts.map V.int))
 bx:B A.bx=some (boxO c.bx A.dbx M.lanes A.aN)
 msk:B A.aM=some (.lst (A.ms.map V.ref))
 ml:A.ms.length=M.masks.length
 dl:B A.aD=some (.lst (M.dust.map V.int))
 pl:B A.aP=some (.lst (M.picks.map V.int))
 tl:A.ts.length=M.touches.length
 tt:∀ (i:Nat) (t:Addr) (p:Int×Str×Int),A.ts[i]?=some t->M.touches[i]?=some p->B t=some (.tup [.int p.1,.str p.2.1,.int p.2.2])
 ul:A.us.length=M.turns.length
 uu:∀ (i:Nat) (t:Addr) (p:Int×Int),A.us[i]?=some t->M.turns[i]?=some p->B t=some (.tup [.int p.1,.int p.2])
 rf:match M.refusal with
  | none=>A.rf=.non
  | some r=>∃ t,A.rf=.ref t/\B t=some (.tup [.int r.1,.int r.2.1,.str r.2.2])
theorem BenchB.same {c:MCs} {B B':Hp} {A:Ma} {M:Mc} (h:BenchB c B A M) (s:Same B B'):BenchB c B' A M:=by
 refine ⟨s _ _ h.lens,s _ _ h.starts,s _ _ h.bx,s _ _ h.msk,h.ml,s _ _ h.dl,s _ _ h.pl,h.tl,fun i t p a b=>s _ _ (h.tt i t p a b),h.ul,fun i t p a b=>s _ _ (h.uu i t p a b),?_⟩
 have:=h.rf
 revert this
 cases M.refusal with
 | none=>exact fun z=>z
 | some r=>exact fun ⟨t,a,b⟩=>⟨t,a,s _ _ b⟩
structure NCls (K:PySem.W.Frag) (C:Addr):Prop where
 c:Cls K C
 lengths:NoAttr K C "lengths"
 starts:NoAttr K C "starts"
 cells:NoAttr K C "cells"
 lanes:NoAttr K C "lanes"
 boxes:NoAttr K C "boxes"
 masks:NoAttr K C "masks"
 slots:NoAttr K C "slots"
 dust:NoAttr K C "dust"
 picks:NoAttr K C "picks"
 touches:NoAttr K C "touches"
 pc:NoAttr K C "at"
 opened:NoAttr K C "opened"
 many:NoAttr K C "many"
 group:NoAttr K C "group"
 base:NoAttr K C "base"
 begun:NoAttr K C "begun"
 width:NoAttr K C "width"
 faults:NoAttr K C "faults"
 cut:NoAttr K C "cut"
 carried:NoAttr K C "carried"
 raised:NoAttr K C "raised"
 turns:NoAttr K C "turns"
 refusal:NoAttr K C "refusal"
structure MCls (K:PySem.W.Frag) (c:MCs):Prop where
 b:BCls K c.bx
 f:FCls K c.fe
 n:NCls K c.bn
structure MAt (c:MCs) (B:Hp) (A:Ma) (M:Mc) (R:List (Addr×HO)) (H:Hp):Prop where
 bb:BenchB c B A M
 h:Hd B (objs c A M R) H
theorem MAt.b {c:MCs} {B:Hp} {A:Ma} {M:Mc} {R:List (Addr×HO)} {H:Hp} (m:MAt c B A M R H):H A.b=some (.ins c.bn A.db (flds A M)):=m.h.get 0 rfl
theorem MAt.same {c:MCs} {B:Hp} {A:Ma} {M:Mc} {R:List (Addr×HO)} {H H':Hp} (m:MAt c B A M R H) (s:Same H H'):MAt c B A M R H':=⟨m.bb,m.h.same s⟩
theorem MAt.grow {c:MCs} {B:Hp} {A:Ma} {M:Mc} {R:List (Addr×HO)} {H:Hp} {t:Addr} {o:HO} (m:MAt c B A M R H) (n:H t=none):MAt c (upd B t o) A M R (upd H t o):=by
 have sB:Same B (upd B t o):=zh (Same.refl _) (m.h.free n)
 refine ⟨m.bb.same sB,m.h.nd,fun p q=>?_,fun p q=>?_,fun b u z=>?_⟩
 ·rw [zo (zw (m.h.st p q) n)];exact m.h.nw p q
 ·rw [zo (zw (m.h.st p q) n)];exact m.h.st p q
 ·by_cases e:b=t
  ·subst e;rw [zg] at z ⊢;exact z
  ·rw [zo e] at z ⊢;exact m.h.sm _ _ z
section
variable {P:Program} {w:World} {K:PySem.W.Frag} {mg:Str->Option Value} {base:Heap}
def Mc.touched (M:Mc) (kind:Str) (a:Int):Mc:={ M with touches:=M.touches++[(M.pc,kind,a)] }
def spTouch (c:MCs):Sp:=fun vs H Q _=>∃ (B:Hp) (A:Ma) (M:Mc) (R:List (Addr×HO)) (kind:Str) (a:Int),vs=[.ref A.b,.str kind,.int a]/\MAt c B A M R H/\M.touches.length<100000 /\
 ∀ B' A' H',Same B B'->A'.b=A.b->MAt c B' A' (M.touched kind a) R H'->Q .non H'
theorem ok_touch {c:MCs} (d:yf K c.bn "touch" "Bench.touch" yM ["self","kind","address"]) (CN:NCls K c.bn):OkM P w K mg base CX0 1 c.bn "touch" ["self","kind","address"] (spTouch c):=by
 obtain ⟨f,fd,m,F,bd⟩:=d
 refine ⟨f,fd,m,bd,F.ok sc_Bench_touch (by rintro vs H Q E ⟨_,_,_,_,_,_,rfl,_⟩;rfl) fun cdv A outer s H vs Q E hr h=>?_⟩
 obtain ⟨B,A,M,R,kind,a,rfl,m,hl,k⟩:=h
 refine ⟨_,(zf (zQ (pe_bm PySem.F.plainAttrs_list PySem.F.slot_list_append PySem.F.type_list_append yO (zC (pv 0) rfl) (za (xi (za (zC (pv 0) rfl) (za (pv 1) (za (pv 2) zb)))) zb)))),?_⟩
 dsimp only [yt,Cx.nox,Cx.wish]
 refine ⟨_,rfl,A.b,_,_,_,.ref A.aT,rfl,m.b,CN.c,CN.touches,rfl,.inl ⟨rfl,_,m.h.lst 6 rfl⟩,_,rfl,A.b,_,_,_,.int M.pc,rfl,m.b,CN.c,CN.pc,rfl,_,rfl,_,rfl,(by show 3<=sizeLine;decide),fun t nt=>?_⟩
 have sB:Same B (upd B t (.tup [.int M.pc,.str kind,.int a])):=zh (Same.refl _) (m.h.free nt)
 have m1:=m.grow (o:=.tup [.int M.pc,.str kind,.int a]) nt
 have e1:upd B t (.tup [.int M.pc,.str kind,.int a]) t=some (.tup [.int M.pc,.str kind,.int a]):=zg
 generalize upd B t (.tup [.int M.pc,.str kind,.int a])=B1 at sB m1 e1
 have tl:=m.bb.tl
 refine ⟨A.aT,_,_,rfl,rfl,m1.h.get 6 rfl,(by rw [List.length_map];exact Nat.lt_of_le_of_lt (show A.ts.length<=100000 by omega) (by decide)),?_⟩
 have h2:=m1.h.put (o':=.lst ((A.ts++[t]).map V.ref)) 6 rfl
 rw [List.map_append] at h2
 refine k B1 { A with ts:=A.ts++[t] } _ sB rfl ⟨⟨m1.bb.lens,m1.bb.starts,m1.bb.bx,m1.bb.msk,m1.bb.ml,m1.bb.dl,m1.bb.pl,?_,fun i t' p a1 a2=>?_,m1.bb.ul,m1.bb.uu,m1.bb.rf⟩,?_⟩
 ·show (A.ts++[t]).length=(M.touches++[_]).length
  rw [List.length_append,List.length_append,tl];rfl
 ·have a1:(A.ts++[t])[i]?=some t':=a1
  have a2:(M.touches++[(M.pc,kind,a)])[i]?=some p:=a2
  by_cases z:i<A.ts.length
  ·rw [List.getElem?_append_left z] at a1
   rw [List.getElem?_append_left (by omega)] at a2
   exact m1.bb.tt i t' p a1 a2
  ·rw [List.getElem?_append_right (by omega)] at a1 a2
   rw [tl] at a1
   cases e:i-M.touches.length with
   | zero=>rw [e] at a1 a2;cases a1;cases a2;exact e1
   | succ j=>rw [e] at a1;cases a1
 ·show Hd B1 (objs c { A with ts:=A.ts++[t] } (M.touched kind a) R) _
  have e:(A.ts++[t]).map V.ref=A.ts.map V.ref++[V.ref t]:=by rw [List.map_append];rfl
  unfold objs
  rw [e]
  exact h2
end
end K40
namespace K40
open PySem L2
section
variable {c:MCs} {B:Hp} {A:Ma} {M:Mc} {R:List (Addr×HO)} {H J:Hp} {a:Addr} {o o':HO}
theorem MAt.adopt (m:MAt c B A M R H) (h:Hd H [(a,o)] J):MAt c (upd B a o) A M R J:=by
 have na:H a=none:=h.nw _ (List.mem_singleton.mpr rfl)
 have nb:B a=none:=m.h.free na
 have sB:Same B (upd B a o):=zh (Same.refl _) nb
 refine ⟨m.bb.same sB,m.h.nd,fun p q=>?_,fun p q=>h.sm _ _ (m.h.st p q),fun b u z=>?_⟩
 ·rw [zo (zw (m.h.st p q) na)];exact m.h.nw p q
 ·by_cases e:b=a
  ·subst e;rw [zg] at z;cases z;exact h.get 0 rfl
  ·rw [zo e] at z;exact h.sm _ _ (m.h.sm _ _ z)
theorem MAt.newR (m:MAt c B A M R H) (n:H a=none):MAt c B A M ((a,o)::R) (upd H a o):=by
 refine ⟨m.bb,(m.h.new (o:=o) n).perm ?_⟩
 unfold objs
 rw [← List.cons_append,← List.cons_append,← List.cons_append,← List.cons_append,← List.cons_append,← List.cons_append,← List.cons_append,← List.cons_append,← List.cons_append]
 rw [← List.cons_append,← List.cons_append,← List.cons_append,← List.cons_append,← List.cons_append,← List.cons_append,← List.cons_append,← List.cons_append,← List.cons_append]
 exact (List.perm_middle (a:=(a,o)) (l₁:=_::_::_::_::_::_::_::_::_::mskO A M) (l₂:=R)).symm
theorem atR:(objs c A M ((a,o)::R))[9+(mskO A M).length]?=some (a,o):=by
 unfold objs
 rw [show 9+(mskO A M).length=(mskO A M).length+1+1+1+1+1+1+1+1+1 by omega]
 simp only [List.getElem?_cons_succ]
 rw [List.getElem?_append_right (Nat.le_refl _),Nat.sub_self];rfl
theorem setR:(objs c A M ((a,o)::R)).set (9+(mskO A M).length) (a,o')=objs c A M ((a,o')::R):=by
 unfold objs
 rw [show 9+(mskO A M).length=(mskO A M).length+1+1+1+1+1+1+1+1+1 by omega]
 simp only [List.set_cons_succ]
 rw [List.set_append_right _ _ (Nat.le_refl _),Nat.sub_self];rfl
theorem MAt.getR (m:MAt c B A M ((a,o)::R) H):H a=some o:=m.h.get _ atR
theorem MAt.putR (m:MAt c B A M ((a,o)::R) H):MAt c B A M ((a,o')::R) (upd H a o'):=by
 have h:=m.h.put (o':=o') _ atR
 rw [setR] at h
 exact ⟨m.bb,h⟩
theorem MAt.settle (m:MAt c B A M ((a,o)::R) H):MAt c (upd B a o) A M R H:=by
 have nb:B a=none:=m.h.nw (a,o) (List.mem_of_getElem? atR)
 have sB:Same B (upd B a o):=zh (Same.refl _) nb
 have sub:List.Sublist (objs c A M R) (objs c A M ((a,o)::R)):=by
  unfold objs
  exact .cons₂ _ (.cons₂ _ (.cons₂ _ (.cons₂ _ (.cons₂ _ (.cons₂ _ (.cons₂ _ (.cons₂ _ (.cons₂ _ (List.Sublist.append (List.Sublist.refl _) (List.sublist_cons_self _ _))))))))))
 have h:=m.h.sub sub
 refine ⟨m.bb.same sB,h.nd,fun p q=>?_,h.st,fun b u z=>?_⟩
 ·rw [zo ?_]
  ·exact h.nw p q
  ·intro e
   have nd:=m.h.nd
   have p1:p∈objs c A M ((a,o)::R):=sub.subset q
   have:((a,o)::objs c A M R).Perm (objs c A M ((a,o)::R)):=by
    unfold objs
    exact (List.perm_middle (a:=(a,o)) (l₁:=_::_::_::_::_::_::_::_::_::mskO A M) (l₂:=R)).symm
   have nd2:=(this.map Prod.fst).symm.nodup nd
   exact (List.nodup_cons.mp nd2).1 (by have:=List.mem_map_of_mem (f:=Prod.fst) q;rw [e] at this;exact this)
 ·by_cases e:b=a
  ·subst e;rw [zg] at z;cases z;exact m.getR
  ·rw [zo e] at z;exact m.h.sm _ _ z
theorem MAt.mask (m:MAt c B A M R H) {k:Nat} (hk:k<M.masks.length):∃ x,A.ms[k]?=some x/\H x=some (.lst ((M.masks.getD k []).map V.bl)):=by
 have ml:=m.bb.ml
 refine ⟨A.ms[k],by rw [List.getElem?_eq_getElem (by omega)],?_⟩
 refine m.h.get (9+k) ?_
 unfold objs
 rw [show 9+k=k+1+1+1+1+1+1+1+1+1 by omega]
 simp only [List.getElem?_cons_succ]
 have lm:(mskO A M).length=A.ms.length:=by unfold mskO;rw [List.length_map,List.length_zip];omega
 rw [List.getElem?_append_left (by omega)]
 unfold mskO
 have e:(A.ms.zip M.masks)[k]?=some (A.ms[k],M.masks[k]):=by rw [List.getElem?_zip_eq_some];exact ⟨by rw [List.getElem?_eq_getElem (by omega)],by rw [List.getElem?_eq_getElem hk]⟩
 rw [List.getElem?_map,e]
 show some _=some _
 rw [List.getD_eq_getElem?_getD,List.getElem?_eq_getElem hk]
 rfl
end
section
variable {P:Program} {w:World} {K:PySem.W.Frag} {mg:Str->Option Value} {base:Heap}
def Mc.adr (M:Mc) (row:Nat) (place:Int):Int:=M.starts.getD row 0+place
def spRead (c:MCs):Sp:=fun vs H Q _=>∃ (B:Hp) (A:Ma) (M:Mc) (R:List (Addr×HO)) (row:Nat) (place:Int),vs=[.ref A.b,.int row,.int place]/\MAt c B A M R H/\M.touches.length<100000/\row<M.starts.length/\0<=M.adr row place/\(M.adr row place).toNat<M.cells.length /\
 ∀ B' A' H',Same B B'->A'.b=A.b->MAt c B' A' (M.touched "read" (M.adr row place)) R H'->Q (.int (M.cells.getD (M.adr row place).toNat 0)) H'
theorem ok_read {c:MCs} (d:yf K c.bn "read_cell" "Bench.read_cell" yi ["self","row","place"]) (CN:NCls K c.bn) (TO:OkM P w K mg base CX0 1 c.bn "touch" ["self","kind","address"] (spTouch c)):OkM P w K mg base CX0 2 c.bn "read_cell" ["self","row","place"] (spRead c):=by
 obtain ⟨f,fd,m,F,bd⟩:=d
 refine ⟨f,fd,m,bd,F.ok sc_Bench_read_cell (by rintro vs H Q E ⟨_,_,_,_,_,_,rfl,_⟩;rfl) fun cdv A outer s H vs Q E hr h=>?_⟩
 obtain ⟨B,A,M,R,row,place,rfl,m,hl,h0,h1,h2,k⟩:=h
 have nd:=sc_Bench_read_cell.nd
 have hr1:=hr
 refine ⟨_,(zc (zu (i:=3) nd rfl (Or.inl rfl) (zi zF (zy zR (zC (pv 0) rfl) (pv 1) (fun _ _=>rfl)) (pv 2)))
   (zc (zQ (yk TO CN.c hr1 zr (pv 0) (za zX (za (pv 3) zb))))
   (zf (zq (zy zR (zC (pv 0) rfl) (pv 3) (fun _ _=>rfl)))))),?_⟩
 dsimp only [yt,Cx.nox,Cx.wish]
 refine ⟨_,rfl,A.b,_,_,_,.ref A.aS,rfl,m.b,CN.c,CN.starts,rfl,_,rfl,A.aS,_,_,_,rfl,rfl,SqL.of (m.h.sm _ _ m.bb.starts),yP row h0 rfl,_,rfl,_,_,rfl,rfl,?_⟩
 refine ⟨_,rfl,A.b,_,_,rfl,m.b,rfl,_,rfl,B,A,M,R,"read",M.adr row place,rfl,m,hl,fun B1 A1 H1 s1 eb m1=>?_⟩
 refine ⟨_,rfl,A1.b,_,_,_,.ref A1.aC,by rw [eb],m1.b,CN.c,CN.cells,rfl,_,rfl,A1.aC,_,_,_,rfl,rfl,m1.h.lst 1 rfl,yP (M.adr row place).toNat h2 (show M.adr row place=_ by omega),?_⟩
 exact k B1 A1 H1 s1 eb m1
def Mc.wrote (M:Mc) (row:Nat) (place n:Int):Mc:={ M.touched "write" (M.adr row place) with cells:=M.cells.set (M.adr row place).toNat n }
def spWrite (c:MCs):Sp:=fun vs H Q _=>∃ (B:Hp) (A:Ma) (M:Mc) (R:List (Addr×HO)) (row:Nat) (place n:Int),vs=[.ref A.b,.int row,.int place,.int n]/\MAt c B A M R H/\M.touches.length<100000/\row<M.starts.length/\0<=M.adr row place/\(M.adr row place).toNat<M.cells.length /\
 ∀ B' A' H',Same B B'->A'.b=A.b->MAt c B' A' (M.wrote row place n) R H'->Q .non H'
theorem ok_write {c:MCs} (d:yf K c.bn "write_cell" "Bench.write_cell" yb ["self","row","place","number"]) (CN:NCls K c.bn) (TO:OkM P w K mg base CX0 1 c.bn "touch" ["self","kind","address"] (spTouch c)):OkM P w K mg base CX0 2 c.bn "write_cell" ["self","row","place","number"] (spWrite c):=by
 obtain ⟨f,fd,m,F,bd⟩:=d
 refine ⟨f,fd,m,bd,F.ok sc_Bench_write_cell (by rintro vs H Q E ⟨_,_,_,_,_,_,_,rfl,_⟩;rfl) fun cdv A outer s H vs Q E hr h=>?_⟩
 obtain ⟨B,A,M,R,row,place,n,rfl,m,hl,h0,h1,h2,k⟩:=h
 have nd:=sc_Bench_write_cell.nd
 have hr1:=hr
 refine ⟨_,(zc (zu (i:=4) nd rfl (Or.inl rfl) (zi zF (zy zR (zC (pv 0) rfl) (pv 1) (fun _ _=>rfl)) (pv 2)))
   (zc (zQ (yk TO CN.c hr1 zr (pv 0) (za zX (za (pv 4) zb))))
   (zf (ps_asg (pv 3) (pg_sub (zC (pv 0) rfl) (pv 4) xW))))),?_⟩
 dsimp only [yt,Cx.nox,Cx.wish]
 refine ⟨_,rfl,A.b,_,_,_,.ref A.aS,rfl,m.b,CN.c,CN.starts,rfl,_,rfl,A.aS,_,_,_,rfl,rfl,SqL.of (m.h.sm _ _ m.bb.starts),yP row h0 rfl,_,rfl,_,_,rfl,rfl,?_⟩
 refine ⟨_,rfl,A.b,_,_,rfl,m.b,rfl,_,rfl,B,A,M,R,"write",M.adr row place,rfl,m,hl,fun B1 A1 H1 s1 eb m1=>?_⟩
 refine ⟨_,rfl,_,rfl,A1.b,_,_,_,.ref A1.aC,by rw [eb],m1.b,CN.c,CN.cells,rfl,_,rfl,A1.aC,_,_,(M.adr row place).toNat,rfl,rfl,m1.h.get 1 rfl,?_,?_⟩
 ·show ixN (M.cells.map V.int).length (M.adr row place)=_
  unfold ixN
  rw [if_pos h1,if_pos (by rw [List.length_map];omega)]
 ·have h:=m1.h.put (o':=.lst ((M.cells.set (M.adr row place).toNat n).map V.int)) 1 rfl
  rw [List.map_set] at h
  refine k B1 A1 _ s1 eb ⟨⟨m1.bb.lens,m1.bb.starts,m1.bb.bx,m1.bb.msk,m1.bb.ml,m1.bb.dl,m1.bb.pl,m1.bb.tl,m1.bb.tt,m1.bb.ul,m1.bb.uu,m1.bb.rf⟩,?_⟩
  show Hd B1 (objs c A1 (M.wrote row place n) R) _
  unfold objs
  rw [show ((M.wrote row place n).cells.map V.int)=(M.cells.map V.int).set (M.adr row place).toNat (.int n) from List.map_set ..]
  exact h
end
end K40
namespace K40
open PySem L2
theorem at_bl {bs:List Bool} {j:Int} (i:Nat) (h:i<bs.length) (e:j=i):atI (bs.map V.bl) j=some (.bl (bs.getD i false)):=by
 subst e
 refine zK ?_
 rw [List.getElem?_map,List.getElem?_eq_getElem h,List.getD_eq_getElem?_getD,List.getElem?_eq_getElem h];rfl
def Mc.isAct (M:Mc) (k j:Nat):Bool:=(M.masks.getD k []).getD j false && !(yE M.faults (.inl (j:Int))).isSome
def Mc.actTo (M:Mc) (k n:Nat):List Int:=((List.range n).filter (M.isAct k)).map fun j:Nat=>(j:Int)
def Mc.act (M:Mc) (k:Nat):List Int:=M.actTo k M.width.toNat
theorem Mc.actTo_succ (M:Mc) (k n:Nat):M.actTo k (n+1)=M.actTo k n++if M.isAct k n then [(n:Int)] else []:=by
 unfold Mc.actTo
 rw [List.range_succ,List.filter_append,List.map_append]
 congr 1
 by_cases z:M.isAct k n=true
 ·rw [List.filter_cons_of_pos z,if_pos z];rfl
 ·rw [List.filter_cons_of_neg z,if_neg z];rfl
theorem Mc.actTo_len (M:Mc) (k n:Nat):(M.actTo k n).length<=n:=by
 unfold Mc.actTo
 rw [List.length_map]
 have:=List.length_filter_le (M.isAct k) (List.range n)
 rw [List.length_range] at this;exact this
theorem Mc.act_mem {M:Mc} {k:Nat} {j:Int} (h:j∈M.act k):0<=j/\j.toNat<M.width.toNat/\M.isAct k j.toNat=true:=by
 obtain ⟨i,hi,rfl⟩:=List.mem_map.mp h
 obtain ⟨a,b⟩:=List.mem_filter.mp hi
 have:=List.mem_range.mp a
 exact ⟨by omega,by omega,b⟩
section
variable {P:Program} {w:World} {K:PySem.W.Frag} {mg:Str->Option Value} {base:Heap}
def spAct (c:MCs):Sp:=fun vs H Q _=>∃ (B:Hp) (A:Ma) (M:Mc) (R:List (Addr×HO)) (k:Nat),vs=[.ref A.b,.int k]/\MAt c B A M R H/\k<M.masks.length/\0<=M.width/\M.width.toNat<=(M.masks.getD k []).length/\M.width.toNat<=1000 /\
 ∀ B' H' l,Same B B'->MAt c B' A M R H'->B' l=some (.lst ((M.act k).map V.int))->Q (.ref l) H'
theorem ok_act {c:MCs} (d:yf K c.bn "active_under" "Bench.active_under" zU ["self","mask"]) (hrg:mg "range"=none) (CN:NCls K c.bn):OkM P w K mg base CX0 1 c.bn "active_under" ["self","mask"] (spAct c):=by
 obtain ⟨f,fd,m,F,bd⟩:=d
 refine ⟨f,fd,m,bd,F.ok sc_Bench_active_under (by rintro vs H Q E ⟨_,_,_,_,_,rfl,_⟩;rfl) fun cdv A outer s H vs Q E hr h=>?_⟩
 obtain ⟨B,A,M,R,k,rfl,m,hk,w0,w1,w2,q⟩:=h
 have nd:=sc_Bench_active_under.nd
 have hu:=Nat.lt_of_le_of_lt (Nat.add_le_add_left (show 1<=64 by decide) _) hr.units
 obtain ⟨x,ex,hx⟩:=m.mask hk
 have SL:(3000:Nat)<sizeLine:=by decide
 refine ⟨_,(zc (zu (i:=2) nd rfl (Or.inr rfl) (zy zR (zC (pv 0) rfl) (pv 1) (fun _ _=>rfl)))
   (zf (zq (pe_compF ["lane","truths","self"] [none,some 2,some 0] rfl rfl rfl (yN rfl hrg (za (zC (pv 0) rfl) zb)) (fun s3 H3 fp=>⟨zB (i:=0) (show ((["lane","truths","self"]:List Str)).Nodup by decide +kernel) rfl (Or.inl rfl),(PW.pt (pw_and (xF (zy (xY (K:=K) rfl) (pv 1) (pv 0) (fun _ _=>rfl))) (pw_and1 (pt_cmp (pc_dnotin hu (pv 0) (pe_fldK (K:=K) rfl (pv 2) rfl)) rfl)))),(pv 0)⟩))))),?_⟩
 dsimp only [yt,Cx.nox,Cx.wish]
 refine ⟨_,rfl,A.b,_,_,_,.ref A.aM,rfl,m.b,CN.c,CN.masks,rfl,_,rfl,A.aM,_,_,.ref x,rfl,rfl,SqL.of (m.h.sm _ _ m.bb.msk),zK (by rw [List.getElem?_map,ex];rfl),?_⟩
 refine ⟨_,rfl,A.b,_,_,_,.int M.width,rfl,m.b,CN.c,CN.width,rfl,_,rfl,(by show -(2 ^ 62)<=M.width;omega),(by show M.width<2 ^ 62;omega),_,rfl,fun D nD=>?_⟩
 have h0:Hd H [(D,.lst ((M.actTo k 0).map V.int))] (upd H D (.lst [])):=Hd.base.new nD
 generalize upd H D (.lst [])=H1 at h0 ⊢
 refine compF_range (n:=M.width.toNat) (fun i σ J=>∃ u,σ=[u,some (.ref x),some (.ref A.b)]/\Hd H [(D,.lst ((M.actTo k i).map V.int))] J) ⟨none,rfl,h0⟩ ?_ ?_
 ·clear h0
  rintro i σ J hi ⟨u,rfl,h⟩
  have la:=M.actTo_len k i
  rw [M.actTo_succ k i]
  have fin:M.isAct k i=false->∃ u,[some (V.int (0+(i:Int))),some (.ref x),some (.ref A.b)]=[u,some (.ref x),some (.ref A.b)]/\Hd H [(D,.lst ((M.actTo k i++if M.isAct k i=true then [(i:Int)] else []).map V.int))] J:=fun e=>⟨_,rfl,by rw [e,if_neg (by decide),List.append_nil];exact h⟩
  refine ⟨_,rfl,_,rfl,x,_,_,_,rfl,rfl,SqL.of (h.sm _ _ hx),at_bl i (by omega) (by omega),_,rfl,?_⟩
  refine ite2 (fun z1=>?_) (fun z1=>yx (fin (by unfold Mc.isAct;rw [Bool.eq_false_iff.mpr z1,Bool.false_and])))
  refine ⟨_,rfl,_,rfl,A.b,_,_,_,.ref A.aF,rfl,h.sm _ _ m.b,CN.c,CN.faults,rfl,A.aF,_,rfl,DGet.k (k:=.inl (0+(i:Int))) (h.sm _ _ (m.h.get 7 rfl)),_,rfl,?_⟩
  rw [Int.zero_add] at *
  refine ite2 (fun z2=>?_) (fun z2=>fin (by unfold Mc.isAct;rw [z1,Bool.eq_false_iff.mpr z2];rfl))
  refine ⟨_,rfl,_,h.get 0 rfl,(by rw [List.length_map];omega),_,rfl,?_⟩
  have e:M.isAct k i=true:=by unfold Mc.isAct;rw [z1,z2];rfl
  rw [e,if_pos rfl,List.map_append]
  exact h.put 0 rfl
 ·rintro σ J ⟨u,rfl,h⟩
  exact q _ J D (zh (Same.refl _) (m.h.free (h.nw _ (List.mem_singleton.mpr rfl)))) (m.adopt h) zg
def Mc.numAt (M:Mc) (p:Nat) (j:Int):Int:=M.nums.getD ((p:Int)*M.group*M.lanes+j).toNat 0
structure MOk (M:Mc):Prop where
 l1:1<=M.lanes
 l64:M.lanes<=64
 g:M.group=1∨M.group=2∨M.group=4
 nl:M.nums.length=8*M.lanes
 ml:M.masks.length=16
 mm:∀ m∈M.masks,m.length=4*M.lanes
 w0:0<=M.width
 w1:M.width<=M.group*M.lanes
def spNums (c:MCs) (K:PySem.W.Frag):Sp:=fun vs H Q _=>∃ (B:Hp) (A:Ma) (M:Mc) (R:List (Addr×HO)) (p:Nat) (aa:Addr) (js:List Int),vs=[.ref A.b,.int p,.ref aa]/\MAt c B A M R H/\MOk M/\((p:Int)+1)*M.group<=8/\B aa=some (.lst (js.map V.int))/\(∀ j∈js,0<=j/\j<M.group*M.lanes)/\js.length<=1000 /\
 ∀ B' H' l,Same B B'->MAt c B' A M R H'->B' l=some (.lst ((js.map (M.numAt p)).map V.int))->Q (.ref l) H'
theorem seat_in {g L p j:Int} (hg:g=1∨g=2∨g=4) (h1:1<=L) (hp:0<=p) (h8:(p+1)*g<=8) (j0:0<=j) (j1:j<g*L):0<=p*g*L+j/\p*g*L+j<8*L:=by
 have e:(p+1)*g*L<=8*L:=Int.mul_le_mul_of_nonneg_right h8 (by omega)
 have e2:(p+1)*g*L=p*g*L+g*L:=by rw [Int.add_mul,Int.add_mul,Int.one_mul]
 have e3:0<=p*g*L:=Int.mul_nonneg (Int.mul_nonneg hp (by omega)) (by omega)
 omega
theorem ok_nums {c:MCs} (d:yf K c.bn "numbers_in" "Bench.numbers_in" yd ["self","seat","active"]) (CC:MCls K c) (NA:OkM P w K mg base CX0 2 c.bx "number_at" ["self","group","seat","lane"] (spNum c.bx)):OkM P w K mg base CX0 3 c.bn "numbers_in" ["self","seat","active"] (spNums c K):=by
 obtain ⟨f,fd,m,F,bd⟩:=d
 refine ⟨f,fd,m,bd,F.ok sc_Bench_numbers_in (by rintro vs H Q E ⟨_,_,_,_,_,_,_,rfl,_⟩;rfl) fun cdv A outer s H vs Q E hr h=>?_⟩
 obtain ⟨B,A,M,R,p,aa,js,rfl,m,ok,h8,ea,hj,hl,q⟩:=h
 have nd:=sc_Bench_numbers_in.nd
 have hr2:=hr
 have CN:=CC.n
 have SL:(3000:Nat)<sizeLine:=by decide
 have l1:=ok.l1
 have l64:=ok.l64
 have hg:=ok.g
 refine ⟨_,(zf (zq (pe_compC ["lane","seat","self"] [none,some 1,some 0] rfl rfl rfl (xv (pv 2)) (fun s3 H3 fp=>⟨zB (i:=0) (show ((["lane","seat","self"]:List Str)).Nodup by decide +kernel) rfl (Or.inl rfl),(yk NA CC.b.c hr2 zr (pe_fldK (K:=K) rfl (pv 2) rfl) (za (pe_fldK (K:=K) rfl (pv 2) rfl) (za (pv 1) (za (pv 0) zb))))⟩)))),?_⟩
 dsimp only [yt,Cx.nox,Cx.wish]
 refine ⟨_,rfl,aa,rfl,⟨_,SqL.of (m.h.sm _ _ ea)⟩,_,rfl,fun D nD=>?_⟩
 have h0:Hd H [(D,.lst (((js.take 0).map (M.numAt p)).map V.int))] (upd H D (.lst [])):=Hd.base.new nD
 generalize upd H D (.lst [])=H1 at h0 ⊢
 refine comp_list (K:=K) (a:=aa) (D:=D) (xs:=js.map V.int) (fun i σ J=>∃ u,σ=[u,some (.int (p:Int)),some (.ref A.b)]/\Hd H [(D,.lst (((js.take i).map (M.numAt p)).map V.int))] J) ⟨none,rfl,h0⟩ (fun i σ J _ ⟨_,_,h⟩=>SqL.of (h.sm _ _ (m.h.sm _ _ ea))) ?_ ?_
 ·clear h0
  rintro i y σ J hy ⟨u,rfl,h⟩
  obtain ⟨hlt,rfl⟩:=map_int_at hy
  have mj:=L2.getD_mem hlt
  have e9:js[i]?=some (js.getD i 0):=by rw [List.getD_eq_getElem?_getD,List.getElem?_eq_getElem hlt];rfl
  generalize js.getD i 0=j at mj e9
  obtain ⟨j0,j1⟩:=hj j mj
  obtain ⟨s0,s1⟩:=seat_in hg (show (1:Int)<=M.lanes by omega) (show (0:Int)<=p by omega) h8 j0 j1
  refine ⟨_,rfl,A.b,_,_,_,.ref A.bx,rfl,h.sm _ _ m.b,CN.c,CN.boxes,rfl,A.bx,_,_,rfl,h.sm _ _ (m.h.sm _ _ m.bb.bx),rfl,_,rfl,A.b,_,_,_,.int M.group,rfl,h.sm _ _ m.b,CN.c,CN.group,rfl,_,rfl,_,rfl,A.bx,A.dbx,A.aN,M.lanes,M.group,p,j,M.nums,rfl,h.sm _ _ (m.h.sm _ _ m.bb.bx),h.sm _ _ (m.h.get 2 rfl),by omega,by omega,by omega,by omega,s0,by rw [ok.nl];omega,?_⟩
  refine ⟨_,h.get 0 rfl,(by rw [List.length_map,List.length_map,List.length_take];omega),_,rfl,?_⟩
  have h3:=h.put (o':=.lst (((js.take (i+1)).map (M.numAt p)).map V.int)) 0 rfl
  have e:(((js.take (i+1)).map (M.numAt p)).map V.int)=(((js.take i).map (M.numAt p)).map V.int)++[V.int (M.numAt p j)]:=by
   rw [List.take_add_one,e9,List.map_append,List.map_append];rfl
  rw [e] at h3 ⊢
  exact h3
 ·rintro σ J ⟨u,rfl,h⟩
  rw [List.length_map,List.take_length] at h
  exact q _ J D (zh (Same.refl _) (m.h.free (h.nw _ (List.mem_singleton.mpr rfl)))) (m.adopt h) zg
end
end K40
namespace K40
open PySem L2
section
variable {c:MCs} {B:Hp} {A:Ma} {M:Mc} {R:List (Addr×HO)} {H H':Hp}
theorem mskO_len (m:MAt c B A M R H):(mskO A M).length=A.ms.length:=by
 unfold mskO;rw [List.length_map,List.length_zip,m.bb.ml];omega
theorem MAt.putMask (m:MAt c B A M R H) {k:Nat} {x:Addr} (ex:A.ms[k]?=some x) (hk:k<M.masks.length) (b:List Bool):MAt c B A { M with masks:=M.masks.set k b } R (upd H x (.lst (b.map V.bl))):=by
 have lm:=mskO_len m
 have ml:=m.bb.ml
 have lk:k<A.ms.length:=(List.getElem?_eq_some_iff.mp ex).1
 have e0:(A.ms.zip M.masks)[k]?=some (x,M.masks[k]):=by rw [List.getElem?_zip_eq_some];exact ⟨ex,by rw [List.getElem?_eq_getElem hk]⟩
 have e:(objs c A M R)[9+k]?=some (x,.lst ((M.masks[k]).map V.bl)):=by
  unfold objs
  rw [show 9+k=k+1+1+1+1+1+1+1+1+1 by omega]
  simp only [List.getElem?_cons_succ]
  rw [List.getElem?_append_left (by omega)]
  unfold mskO
  rw [List.getElem?_map,e0];rfl
 have h:=m.h.put (o':=.lst (b.map V.bl)) _ e
 refine ⟨⟨m.bb.lens,m.bb.starts,m.bb.bx,m.bb.msk,by show A.ms.length=(M.masks.set k b).length;rw [List.length_set,ml],m.bb.dl,m.bb.pl,m.bb.tl,m.bb.tt,m.bb.ul,m.bb.uu,m.bb.rf⟩,?_⟩
 have es:(objs c A M R).set (9+k) (x,.lst (b.map V.bl))=objs c A { M with masks:=M.masks.set k b } R:=by
  unfold objs
  rw [show 9+k=k+1+1+1+1+1+1+1+1+1 by omega]
  simp only [List.set_cons_succ]
  rw [List.set_append_left _ _ (by omega)]
  have:(mskO A M).set k (x,.lst (b.map V.bl))=mskO A { M with masks:=M.masks.set k b }:=by
   unfold mskO
   show ((A.ms.zip M.masks).map _).set k _=(A.ms.zip (M.masks.set k b)).map _
   have ez:A.ms.zip (M.masks.set k b)=(A.ms.zip M.masks).set k (x,b):=by
    apply List.ext_getElem?
    intro j
    rw [List.getElem?_set]
    split
    ·rename_i e
     subst e
     rw [if_pos (by rw [List.length_zip];omega),List.getElem?_zip_eq_some]
     exact ⟨ex,by rw [List.getElem?_set_self hk]⟩
    ·rename_i ne
     cases hz:(A.ms.zip M.masks)[j]? with
     | none =>
      rw [List.getElem?_eq_none_iff] at hz ⊢
      rw [List.length_zip] at hz ⊢
      rw [List.length_set];exact hz
     | some q =>
      rw [List.getElem?_zip_eq_some] at hz ⊢
      exact ⟨hz.1,by rw [List.getElem?_set_ne ne];exact hz.2⟩
   rw [ez,List.map_set]
  rw [this]
  rfl
 rw [es] at h
 exact h
theorem MAt.mask' (m:MAt c B A M R H) {k:Nat} {x:Addr} (ex:A.ms[k]?=some x) (hk:k<M.masks.length):H x=some (.lst ((M.masks.getD k []).map V.bl)):=by
 obtain ⟨y,ey,hy⟩:=m.mask hk
 rw [ex] at ey;cases ey;exact hy
theorem MAt.took (m:MAt c B A M R H) (k:∀ b o,b≠A.fd->H b=some o->H' b=some o) (e:H' A.fd=some (zJ c.fe A.dfd A.aD (fAt M.dust (M.dq+1)))):MAt c B A { M with dq:=M.dq+1 } R H' :=
 ⟨⟨m.bb.lens,m.bb.starts,m.bb.bx,m.bb.msk,m.bb.ml,m.bb.dl,m.bb.pl,m.bb.tl,m.bb.tt,m.bb.ul,m.bb.uu,m.bb.rf⟩,m.h.chg 4 rfl k e⟩
end
def clr (m:List Bool) (n:Nat):List Bool:=(List.range n).foldl (fun m j=>m.set j false) m
def sel (m:List Bool) (js:List Int):List Bool:=js.foldl (fun m j=>m.set j.toNat true) m
def dst (d:List Int) (q:Nat) (m:List Bool) (lo k:Nat):List Bool:=(List.range k).foldl (fun m t=>m.set (lo+t) (decide (fVal d (q+t) % 2=1))) m
theorem clr_len (m:List Bool):∀ n,(clr m n).length=m.length
 | 0=>rfl
 | n+1=>by unfold clr;rw [List.range_succ,List.foldl_append];show (List.set _ _ _).length=_;rw [List.length_set];exact clr_len m n
theorem sel_len:∀ (js:List Int) (m:List Bool),(sel m js).length=m.length
 | [],_=>rfl
 | j::js,m=>by show (sel (m.set j.toNat true) js).length=_;rw [sel_len js,List.length_set]
theorem dst_len (d:List Int) (q:Nat) (m:List Bool) (lo:Nat):∀ k,(dst d q m lo k).length=m.length
 | 0=>rfl
 | n+1=>by unfold dst;rw [List.range_succ,List.foldl_append];show (List.set _ _ _).length=_;rw [List.length_set];exact dst_len d q m lo n
theorem clr_succ (m:List Bool) (n:Nat):clr m (n+1)=(clr m n).set n false:=by unfold clr;rw [List.range_succ,List.foldl_append];rfl
theorem dst_succ (d:List Int) (q:Nat) (m:List Bool) (lo n:Nat):dst d q m lo (n+1)=(dst d q m lo n).set (lo+n) (decide (fVal d (q+n) % 2=1)):=by unfold dst;rw [List.range_succ,List.foldl_append];rfl
theorem sel_snoc (m:List Bool) (js:List Int) (j:Int):sel m (js++[j])=(sel m js).set j.toNat true:=by unfold sel;rw [List.foldl_append];rfl
def Mc.room (M:Mc):Nat:=(M.group*M.lanes).toNat
def Mc.maskOf (M:Mc) (k:Nat) (js:List Int):List Bool:=dst M.dust M.dq (sel (clr (M.masks.getD k []) M.width.toNat) js) M.width.toNat (M.room-M.width.toNat)
def Mc.laidMask (M:Mc) (k:Nat) (js:List Int):Mc:={ M with masks:=M.masks.set k (M.maskOf k js),dq:=M.dq+(M.room-M.width.toNat) }
section
variable {P:Program} {w:World} {K:PySem.W.Frag} {mg:Str->Option Value} {base:Heap}
def spMask (c:MCs) (K:PySem.W.Frag):Sp:=fun vs H Q _=>∃ (B:Hp) (A:Ma) (M:Mc) (R:List (Addr×HO)) (k:Nat) (aa:Addr) (js:List Int),vs=[.ref A.b,.int k,.ref aa]/\MAt c B A M R H/\MOk M/\k<16/\B aa=some (.lst (js.map V.int))/\(∀ j∈js,0<=j/\j<M.group*M.lanes) /\
 ∀ H',MAt c B A (M.laidMask k js) R H'->Q .non H'
theorem ok_mask {c:MCs} (d:yf K c.bn "lay_mask" "Bench.lay_mask" yr ["self","mask","chosen"]) (hrg:mg "range"=none) (CC:MCls K c) (TK:OkM P w K mg base CX0 1 c.fe "taken" ["self"] (spTaken c.fe)):OkM P w K mg base CX0 2 c.bn "lay_mask" ["self","mask","chosen"] (spMask c K):=by
 obtain ⟨f,fd,m,F,bd⟩:=d
 refine ⟨f,fd,m,bd,F.ok sc_Bench_lay_mask (by rintro vs H Q E ⟨_,_,_,_,_,_,_,rfl,_⟩;rfl) fun cdv A outer s H vs Q E hr h=>?_⟩
 obtain ⟨B,A,M,R,k,aa,js,rfl,m,ok,hk,ea,hj,q⟩:=h
 have nd:=sc_Bench_lay_mask.nd
 have hr1:=hr
 have CN:=CC.n
 have ml:=ok.ml
 have hk':k<M.masks.length:=by omega
 have l1:=ok.l1
 have l64:=ok.l64
 have hg:=ok.g
 have w0:=ok.w0
 have w1:=ok.w1
 have rb:M.group*M.lanes<=4*M.lanes/\1<=M.group*M.lanes:=by rcases hg with e | e | e <;> rw [e] <;> omega
 have lm:(M.masks.getD k []).length=4*M.lanes:=by
  rw [List.getD_eq_getElem?_getD,List.getElem?_eq_getElem hk'];exact ok.mm _ (List.getElem_mem hk')
 obtain ⟨x,ex,hx⟩:=m.mask hk'
 refine ⟨_,(zc (zu (i:=3) nd rfl (Or.inl rfl) (zy zR (zC (pv 0) rfl) (pv 1) (fun _ _=>rfl)))
   (zc (xc PassesOwn.never rfl (yN rfl hrg (za (zC (pv 0) rfl) zb)) (zB (i:=4) nd rfl (Or.inl rfl)) (zf (ps_asg pe_bl (pg_sub (pv 3) (pv 4) xW))))
   (zc (xc PassesOwn.never rfl (xv (pv 2)) (zB (i:=4) nd rfl (Or.inl rfl)) (zf (ps_asg pe_bl (pg_sub (pv 3) (pv 4) xW))))
   (zf (xc PassesOwn.never rfl (pi_range2 rfl hrg (za (zC (pv 0) rfl) (za (zi ya (zC (pv 0) rfl) (zC (pv 0) rfl)) zb))) (zB (i:=4) nd rfl (Or.inl rfl)) (zf (ps_asg (pe_cmpR yF (zi yU (pe_okM0 TK CC.f.c hr1 zr (zC (pv 0) rfl)) ze) ze (zL _)) (pg_sub (pv 3) (pv 4) xW)))))))),?_⟩
 dsimp only [yt,Cx.nox,Cx.wish]
 refine ⟨_,rfl,A.b,_,_,_,.ref A.aM,rfl,m.b,CN.c,CN.masks,rfl,_,rfl,A.aM,_,_,.ref x,rfl,rfl,SqL.of (m.h.sm _ _ m.bb.msk),zK (by rw [List.getElem?_map,ex];rfl),?_⟩
 have set_one:∀ {n:Nat} {bs:List Bool} {i:Int},i=(n:Int)->n<bs.length->ixN (bs.map V.bl).length i=some n:=fun {n bs i} e h=>by
  subst e;unfold ixN;rw [if_pos (by omega),if_pos (by rw [List.length_map];omega)];congr 1
 have st:∀ (b:List Bool),({ M with masks:=M.masks.set k b }:Mc).masks.getD k []=b:=fun b=>by
  show (M.masks.set k b).getD k []=b
  rw [List.getD_eq_getElem?_getD,List.getElem?_set_self hk'];rfl
 have ss:∀ (b b':List Bool),({ ({ M with masks:=M.masks.set k b }:Mc) with masks:=(M.masks.set k b).set k b' }:Mc)={ M with masks:=M.masks.set k b' }:=fun b b'=>by rw [List.set_set]
 refine ⟨_,rfl,A.b,_,_,_,.int M.width,rfl,m.b,CN.c,CN.width,rfl,_,rfl,(by show -(2 ^ 62)<=M.width;omega),(by show M.width<2 ^ 62;omega),?_⟩
 have m0:MAt c B A { M with masks:=M.masks.set k (clr (M.masks.getD k []) 0) } R H:=by
  have e:M.masks.set k (clr (M.masks.getD k []) 0)=M.masks:=by
   show M.masks.set k (M.masks.getD k [])=M.masks
   rw [List.getD_eq_getElem?_getD,List.getElem?_eq_getElem hk']
   exact List.set_getElem_self hk'
  rw [e];exact m
 show ∃ W:Nat->Nat->St->Hp->Prop,_
 let Pv1:Nat->St->Hp->Prop:=(fun i σ J=>∃ u,σ=[some (.ref A.b),some (.int (k:Int)),some (.ref aa),some (.ref x),u]/\MAt c B A { M with masks:=M.masks.set k (clr (M.masks.getD k []) i) } R J)
 refine xT (n:=M.width.toNat) Pv1 ⟨none,rfl,m0⟩ ?_ ?_
 ·rintro i σ J hi ⟨u,rfl,m1⟩
  have hx1:=m1.mask' ex (by show k<(M.masks.set k _).length;rw [List.length_set];exact hk')
  rw [st] at hx1
  refine ⟨_,rfl,_,rfl,x,_,_,i,rfl,rfl,hx1,set_one (by omega) (by rw [clr_len,lm];omega),_,rfl,?_⟩
  have m2:=m1.putMask ex (by show k<(M.masks.set k _).length;rw [List.length_set];exact hk') (clr (M.masks.getD k []) (i+1))
  rw [ss] at m2
  have e:((clr (M.masks.getD k []) (i+1)).map V.bl)=((clr (M.masks.getD k []) i).map V.bl).set i (.bl false):=by rw [clr_succ,List.map_set]
  rw [e] at m2
  exact m2
 clear m0 hx
 rintro σ J ⟨u,rfl,m1⟩
 refine ⟨_,rfl,aa,rfl,⟨_,SqL.of (m1.h.sm _ _ ea)⟩,?_⟩
 let Pv2:Nat->St->Hp->Prop:=(fun i σ J=>∃ u,σ=[some (.ref A.b),some (.int (k:Int)),some (.ref aa),some (.ref x),u]/\MAt c B A { M with masks:=M.masks.set k (sel (clr (M.masks.getD k []) M.width.toNat) (js.take i)) } R J)
 refine for_list (K:=K) (a:=aa) (xs:=js.map V.int) Pv2 ⟨u,rfl,m1⟩ (fun i σ J _ ⟨_,_,m⟩=>SqL.of (m.h.sm _ _ ea)) ?_ ?_
 ·rintro i y σ J hy ⟨u,rfl,m1⟩
  obtain ⟨hlt,rfl⟩:=map_int_at hy
  have mj:=L2.getD_mem hlt
  have e9:js[i]?=some (js.getD i 0):=by rw [List.getD_eq_getElem?_getD,List.getElem?_eq_getElem hlt];rfl
  generalize js.getD i 0=j at mj e9
  obtain ⟨j0,j1⟩:=hj j mj
  have hx1:=m1.mask' ex (by show k<(M.masks.set k _).length;rw [List.length_set];exact hk')
  rw [st] at hx1
  refine ⟨_,rfl,_,rfl,x,_,_,j.toNat,rfl,rfl,hx1,set_one (by omega) (by rw [sel_len,clr_len,lm];omega),_,rfl,?_⟩
  have m2:=m1.putMask ex (by show k<(M.masks.set k _).length;rw [List.length_set];exact hk') (sel (clr (M.masks.getD k []) M.width.toNat) (js.take (i+1)))
  rw [ss] at m2
  have e:((sel (clr (M.masks.getD k []) M.width.toNat) (js.take (i+1))).map V.bl)=((sel (clr (M.masks.getD k []) M.width.toNat) (js.take i)).map V.bl).set j.toNat (.bl true):=by
   rw [List.take_add_one,e9]
   show ((sel _ (js.take i++[j])).map V.bl)=_
   rw [sel_snoc,List.map_set]
  rw [e] at m2
  exact m2
 rintro σ J1 ⟨u,rfl,m1⟩
 rw [List.length_map,List.take_length] at m1
 generalize hb:sel (clr (M.masks.getD k []) M.width.toNat) js=b1 at m1
 have lb1:b1.length=4*M.lanes:=by rw [← hb,sel_len,clr_len,lm]
 obtain ⟨wn,ew⟩:∃ n:Nat,M.width=n:=⟨M.width.toNat,by omega⟩
 obtain ⟨rn,er⟩:∃ n:Nat,M.group*M.lanes=n:=⟨(M.group*M.lanes).toNat,by omega⟩
 refine ⟨_,rfl,A.b,_,_,_,.int M.width,rfl,m1.b,CN.c,CN.width,rfl,_,rfl,A.b,_,_,_,.int M.group,rfl,m1.b,CN.c,CN.group,rfl,_,rfl,A.b,_,_,_,.int M.lanes,rfl,m1.b,CN.c,CN.lanes,rfl,_,_,rfl,rfl,.inl ⟨by omega,by omega⟩,_,_,rfl,?_⟩
 refine ⟨⟨by omega,by omega,by show -(2 ^ 62)<=M.group*M.lanes;omega,by show M.group*M.lanes<2 ^ 62;omega⟩,?_⟩
 have en:(M.group*M.lanes-M.width).toNat=M.room-M.width.toNat:=by unfold Mc.room;omega
 show ∃ W:Nat->Nat->St->Hp->Prop,_
 let Pv3:Nat->St->Hp->Prop:=(fun i σ J=>∃ u,σ=[some (.ref A.b),some (.int (k:Int)),some (.ref aa),some (.ref x),u]/\MAt c B A { M with masks:=M.masks.set k (dst M.dust M.dq b1 M.width.toNat i),dq:=M.dq+i } R J)
 refine xT (lo:=M.width) (n:=(M.group*M.lanes-M.width).toNat) Pv3 ⟨u,rfl,m1⟩ ?_ ?_
 ·rintro i σ J hi ⟨u,rfl,m2⟩
  refine ⟨_,rfl,A.b,_,_,_,.ref A.fd,rfl,m2.b,CN.c,CN.dust,rfl,A.fd,_,_,rfl,m2.h.get 4 rfl,rfl,A.fd,A.dfd,A.aD,M.dust,M.dq+i,rfl,m2.h.get 4 rfl,m2.h.sm _ _ m2.bb.dl,fun J3 k3 e3=>?_⟩
  have m3:=m2.took k3 e3
  refine ⟨_,_,rfl,rfl,(by show (0:Int)<2;decide),rfl,_,rfl,_,rfl,?_⟩
  have hx1:=m3.mask' ex (by show k<(M.masks.set k _).length;rw [List.length_set];exact hk')
  have e0:(M.masks.set k (dst M.dust M.dq b1 M.width.toNat i)).getD k []=dst M.dust M.dq b1 M.width.toNat i:=by rw [List.getD_eq_getElem?_getD,List.getElem?_set_self hk'];rfl
  have hx1:J3 x=some (.lst ((dst M.dust M.dq b1 M.width.toNat i).map V.bl)):=by rw [← e0];exact hx1
  refine ⟨x,_,_,M.width.toNat+i,rfl,rfl,hx1,set_one (by omega) (by rw [dst_len,lb1];omega),_,rfl,?_⟩
  have m4:=m3.putMask ex (by show k<(M.masks.set k _).length;rw [List.length_set];exact hk') (dst M.dust M.dq b1 M.width.toNat (i+1))
  have e:((dst M.dust M.dq b1 M.width.toNat (i+1)).map V.bl)=((dst M.dust M.dq b1 M.width.toNat i).map V.bl).set (M.width.toNat+i) (.bl (decide (V.int (fVal M.dust (M.dq+i) % 2)=V.int 1))):=by
   rw [dst_succ,List.map_set]
   congr 2
   by_cases z:fVal M.dust (M.dq+i) % 2=1
   ·rw [z];rfl
   ·rw [decide_eq_false z,decide_eq_false (fun q=>z (V.int.inj q))]
  rw [e] at m4
  have e2:({ ({ ({ M with masks:=M.masks.set k (dst M.dust M.dq b1 M.width.toNat i),dq:=M.dq+i }:Mc) with dq:=M.dq+i+1 }:Mc) with masks:=(M.masks.set k (dst M.dust M.dq b1 M.width.toNat i)).set k (dst M.dust M.dq b1 M.width.toNat (i+1)) }:Mc)={ M with masks:=M.masks.set k (dst M.dust M.dq b1 M.width.toNat (i+1)),dq:=M.dq+(i+1) }:=by rw [List.set_set];rfl
  have m4:MAt c B A { M with masks:=M.masks.set k (dst M.dust M.dq b1 M.width.toNat (i+1)),dq:=M.dq+(i+1) } R _:=e2 ▸ m4
  exact m4
 ·rintro σ J2 ⟨u,rfl,m2⟩
  refine q J2 ?_
  rw [en] at m2
  unfold Mc.laidMask Mc.maskOf
  rw [hb]
  exact m2
def Mc.layOne (told:List (Key×V)) (p:Nat) (M:Mc) (t:Nat):Mc:=match yE told (.inl (t:Int)) with
 | some (.int n)=>{ M with nums:=M.nums.set ((p:Int)*M.group*M.lanes+t).toNat n }
 | _=>{ M with nums:=M.nums.set ((p:Int)*M.group*M.lanes+t).toNat (fVal M.dust M.dq),dq:=M.dq+1 }
def Mc.layTo (told:List (Key×V)) (p:Nat) (M:Mc) (n:Nat):Mc:=(List.range n).foldl (fun M t=>M.layOne told p t) M
def Mc.laidSeat (M:Mc) (told:List (Key×V)) (p:Nat):Mc:=M.layTo told p M.room
theorem Mc.layTo_succ (told:List (Key×V)) (p:Nat) (M:Mc) (n:Nat):M.layTo told p (n+1)=(M.layTo told p n).layOne told p n:=by unfold Mc.layTo;rw [List.range_succ,List.foldl_append];rfl
structure SeatSame (M N:Mc):Prop where
 g:N.group=M.group
 l:N.lanes=M.lanes
 n:N.nums.length=M.nums.length
 d:N.dust=M.dust
theorem Mc.layOne_same (told:List (Key×V)) (p:Nat) (M:Mc) (t:Nat):SeatSame M (M.layOne told p t):=by
 unfold Mc.layOne
 split
 ·exact ⟨rfl,rfl,List.length_set ..,rfl⟩
 ·exact ⟨rfl,rfl,List.length_set ..,rfl⟩
theorem Mc.layTo_same (told:List (Key×V)) (p:Nat) (M:Mc):∀ n,SeatSame M (M.layTo told p n)
 | 0=>⟨rfl,rfl,rfl,rfl⟩
 | n+1=>by
  have a:=Mc.layTo_same told p M n
  have b:=Mc.layOne_same told p (M.layTo told p n) n
  rw [M.layTo_succ]
  exact ⟨b.g.trans a.g,b.l.trans a.l,b.n.trans a.n,b.d.trans a.d⟩
end
end K40
namespace K40
open PySem L2
section
variable {c:MCs} {B:Hp} {A:Ma} {M:Mc} {R:List (Addr×HO)} {H H':Hp}
theorem MAt.putNums (m:MAt c B A M R H) (ns:List Int):MAt c B A { M with nums:=ns } R (upd H A.aN (.lst (ns.map V.int))) :=
 ⟨⟨m.bb.lens,m.bb.starts,m.bb.bx,m.bb.msk,m.bb.ml,m.bb.dl,m.bb.pl,m.bb.tl,m.bb.tt,m.bb.ul,m.bb.uu,m.bb.rf⟩,m.h.put (o':=.lst (ns.map V.int)) 2 rfl⟩
end
def xt (js:List Int) (vs:List (Option Int)):List (Key×V):=putAll [] ((js.map Sum.inl).zip (vs.map oV))
theorem putAll_val:∀ (ps:List (Key×V)) (kvs:List (Key×V)) (P:V->Prop),(∀ p∈ps,P p.2)->(∀ k v,yE kvs k=some v->P v)->∀ k v,yE (putAll kvs ps) k=some v->P v
 | [],_,_,_,h,k,v,e=>h k v e
 | p::ps,kvs,P,hp,h,k,v,e=>by
  refine putAll_val ps (putK kvs p.1 p.2) P (fun q hq=>hp q (List.mem_cons_of_mem _ hq)) (fun k' v' e'=>?_) k v e
  rw [valV_put] at e'
  split at e'
  ·cases e';exact hp p List.mem_cons_self
  ·exact h k' v' e'
theorem told_val {js:List Int} {vs:List (Option Int)} {k:Key} {v:V} (e:yE (xt js vs) k=some v):v=.non∨∃ n,v=.int n:=by
 refine putAll_val _ [] (fun v=>v=.non∨∃ n,v=.int n) (fun p hp=>?_) (fun k v e=>by cases e) k v e
 obtain ⟨o,_,eo⟩:=List.mem_map.mp (List.of_mem_zip hp).2
 cases o with
 | none=>exact .inl eo.symm
 | some n=>exact .inr ⟨n,eo.symm⟩
section
variable {P:Program} {w:World} {K:PySem.W.Frag} {mg:Str->Option Value} {base:Heap}
def spSeat (c:MCs) (K:PySem.W.Frag):Sp:=fun vs H Q _=>∃ (B:Hp) (A:Ma) (M:Mc) (R:List (Addr×HO)) (p:Nat) (aa an:Addr) (js:List Int) (ns:List (Option Int)),vs=[.ref A.b,.int p,.ref aa,.ref an]/\MAt c B A M R H/\MOk M/\((p:Int)+1)*M.group<=8/\B aa=some (.lst (js.map V.int))/\B an=some (.lst (ns.map oV))/\js.length=ns.length /\
 ∀ B' H',Same B B'->MAt c B' A (M.laidSeat (xt js ns) p) R H'->Q .non H'
theorem ok_seat {c:MCs} (d:yf K c.bn "lay_seat" "Bench.lay_seat" yq ["self","seat","active","numbers"]) (hrg:mg "range"=none) (hdict:mg "dict"=none) (hzip:mg "zip"=none) (CC:MCls K c) (TK:OkM P w K mg base CX0 1 c.fe "taken" ["self"] (spTaken c.fe)) (LA:OkM P w K mg base CX0 2 c.bx "lay" ["self","group","seat","lane","number"] (spLay c.bx)):OkM P w K mg base CX0 3 c.bn "lay_seat" ["self","seat","active","numbers"] (spSeat c K):=by
 obtain ⟨f,fd,m,F,bd⟩:=d
 refine ⟨f,fd,m,bd,F.ok sc_Bench_lay_seat (by rintro vs H Q E ⟨_,_,_,_,_,_,_,_,_,rfl,_⟩;rfl) fun cdv A outer s H vs Q E hr h=>?_⟩
 obtain ⟨B,A,M,R,p,aa,an,js,ns,rfl,m,ok,h8,ea,en,le,q⟩:=h
 have nd:=sc_Bench_lay_seat.nd
 have hr2:=hr
 have hr1:=hr.mono (show 1<=2 by decide)
 have hu:=Nat.lt_of_le_of_lt (Nat.add_le_add_left (show 1<=64 by decide) _) hr.units
 have CN:=CC.n
 have l1:=ok.l1
 have l64:=ok.l64
 have hg:=ok.g
 have rb:M.group*M.lanes<=4*M.lanes/\1<=M.group*M.lanes:=by rcases hg with e | e | e <;> rw [e] <;> omega
 refine ⟨_,(zc (zu (i:=4) nd rfl (Or.inl rfl) (pe_dictzip rfl (by rfl) hdict (by rfl) hzip (za (pv 2) (za (pv 3) zb))))
   (zf (xc PassesOwn.never rfl (yN rfl hrg (za (zi ya (zC (pv 0) rfl) (zC (pv 0) rfl)) zb)) (zB (i:=5) nd rfl (Or.inl rfl)) (zc (zu (i:=6) nd rfl (Or.inl rfl) (pe_dget1 hu (pv 4) (pv 5) ⟨rfl,rfl,rfl,rfl⟩))
   (zc (ps_mid (zV (zH op_isN (pv 6) pe_non (zL _)) (zf (zu (i:=6) nd rfl (Or.inl rfl) (pe_okM0 TK CC.f.c hr1 zr (zC (pv 0) rfl)))) zI))
   (zf (zQ (yk LA CC.b.c hr2 zr (zC (pv 0) rfl) (za (zC (pv 0) rfl) (za (pv 1) (za (pv 5) (za (pv 6) zb)))))))))))),?_⟩
 dsimp only [yt,Cx.nox,Cx.wish]
 have ek:(js.map (Sum.inl:Int->Key)).map kV=js.map V.int:=by rw [List.map_map];rfl
 refine ⟨_,rfl,_,rfl,aa,an,js.map Sum.inl,ns.map oV,rfl,(by rw [ek];exact SqL.of (m.h.sm _ _ ea)),SqL.of (m.h.sm _ _ en),(by rw [List.length_map,List.length_map,le]),fun dt ndt=>?_⟩
 show gName 4 (.ref dt) _ (upd H dt (.dK (xt js ns))) _
 generalize et:xt js ns=told at q
 have tv:∀ k v,yE told k=some v->v=.non∨∃ n,v=.int n:=fun k v e=>by rw [← et] at e;exact told_val e
 have sB:Same B (upd B dt (.dK told)):=zh (Same.refl _) (m.h.free ndt)
 have m1:=m.grow (o:=.dK told) ndt
 have ed:upd B dt (.dK told) dt=some (.dK told):=zg
 generalize upd B dt (.dK told)=B1 at sB m1 ed
 generalize upd H dt (.dK told)=H1 at m1
 refine ⟨_,rfl,A.b,_,_,_,.int M.group,rfl,m1.b,CN.c,CN.group,rfl,_,rfl,A.b,_,_,_,.int M.lanes,rfl,m1.b,CN.c,CN.lanes,rfl,_,_,rfl,rfl,.inl ⟨by omega,by omega⟩,_,rfl,(by show -(2 ^ 62)<=M.group*M.lanes;omega),(by show M.group*M.lanes<2 ^ 62;omega),?_⟩
 show ∃ W:Nat->Nat->St->Hp->Prop,_
 refine xT (n:=M.room) (fun i σ J=>∃ u5 u6,σ=[some (.ref A.b),some (.int (p:Int)),some (.ref aa),some (.ref an),some (.ref dt),u5,u6]/\MAt c B1 A (M.layTo told p i) R J) ⟨none,none,rfl,m1⟩ ?_ ?_
 ·rintro i σ J hi ⟨u5,u6,rfl,m2⟩
  have ss:=M.layTo_same told p i
  have edJ:=m2.h.sm _ _ ed
  have hi':(i:Int)<M.group*M.lanes:=by unfold Mc.room at hi;omega
  obtain ⟨s0,s1⟩:=seat_in hg (show (1:Int)<=M.lanes by omega) (show (0:Int)<=p by omega) h8 (show (0:Int)<=i by omega) hi'
  refine ⟨_,rfl,dt,rfl,.inl ⟨told,.inl edJ⟩,_,rfl,_,DGet.k (k:=.inl (0+(i:Int))) edJ,?_⟩
  rw [Int.zero_add]
  rw [M.layTo_succ]
  generalize hM:M.layTo told p i=N at m2 ss ⊢
  refine ⟨fun σ' H'=>∃ (n:Int) (N':Mc),σ'=[some (.ref A.b),some (.int (p:Int)),some (.ref aa),some (.ref an),some (.ref dt),some (.int (i:Int)),some (.int n)]/\MAt c B1 A N' R H'/\SeatSame M N'/\N.layOne told p i={ N' with nums:=N'.nums.set ((p:Int)*M.group*M.lanes+i).toNat n },?_,?_⟩
  ·cases ev:yE told (.inl (i:Int)) with
   | none =>
    refine ⟨_,rfl,rfl,_,rfl,ite2 (fun z=>?_) (fun z=>absurd (show decide (V.non=V.non)=true by decide) z)⟩
    refine ⟨_,rfl,A.b,_,_,_,.ref A.fd,rfl,m2.b,CN.c,CN.dust,rfl,A.fd,_,_,rfl,m2.h.get 4 rfl,rfl,A.fd,A.dfd,A.aD,N.dust,N.dq,rfl,m2.h.get 4 rfl,m2.h.sm _ _ m2.bb.dl,fun J3 k3 e3=>?_⟩
    refine ⟨_,_,rfl,m2.took k3 e3,⟨ss.g,ss.l,ss.n,ss.d⟩,?_⟩
    unfold Mc.layOne;rw [ev,ss.g,ss.l]
   | some v =>
    rcases tv _ _ ev with rfl | ⟨n,rfl⟩
    ·refine ⟨_,rfl,rfl,_,rfl,ite2 (fun z=>?_) (fun z=>absurd (show decide (V.non=V.non)=true by decide) z)⟩
     refine ⟨_,rfl,A.b,_,_,_,.ref A.fd,rfl,m2.b,CN.c,CN.dust,rfl,A.fd,_,_,rfl,m2.h.get 4 rfl,rfl,A.fd,A.dfd,A.aD,N.dust,N.dq,rfl,m2.h.get 4 rfl,m2.h.sm _ _ m2.bb.dl,fun J3 k3 e3=>?_⟩
     refine ⟨_,_,rfl,m2.took k3 e3,⟨ss.g,ss.l,ss.n,ss.d⟩,?_⟩
     unfold Mc.layOne;rw [ev,ss.g,ss.l]
    ·refine ⟨_,rfl,rfl,_,rfl,ite2 (fun z=>absurd z (fun y=>by cases of_decide_eq_true y)) (fun z=>?_)⟩
     refine ⟨n,N,rfl,m2,ss,?_⟩
     unfold Mc.layOne;rw [ev,ss.g,ss.l]
  rintro σ' H' ⟨n,N',rfl,m3,ss',e⟩
  rw [e]
  have eg:=ss'.g
  have el:=ss'.l
  refine ⟨_,rfl,A.b,_,_,_,.ref A.bx,rfl,m3.b,CN.c,CN.boxes,rfl,A.bx,_,_,rfl,m3.h.sm _ _ m3.bb.bx,rfl,_,rfl,A.b,_,_,_,.int N'.group,rfl,m3.b,CN.c,CN.group,rfl,_,rfl,_,rfl,_,rfl,A.bx,A.dbx,A.aN,N'.lanes,N'.group,p,(i:Int),n,N'.nums,rfl,m3.h.sm _ _ m3.bb.bx,m3.h.get 2 rfl,by rw [el];omega,by rw [el];omega,by rw [eg];omega,by rw [eg];omega,?_,?_,?_⟩
  ·rw [eg,el];exact s0
  ·rw [eg,el,ss'.n,ok.nl];omega
  ·refine ⟨_,_,rfl,?_⟩
   have:=m3.putNums (N'.nums.set ((p:Int)*N'.group*N'.lanes+i).toNat n)
   rw [← eg,← el]
   exact this
 ·rintro σ J ⟨u5,u6,rfl,m2⟩
  exact q B1 J sB m2
end
end K40
namespace K40
open PySem L2
section
variable {c:MCs} {B:Hp} {A:Ma} {M:Mc} {R:List (Addr×HO)} {H H':Hp}
theorem MAt.s_pc (m:MAt c B A M R H) (v:Int):MAt c B A { M with pc:=v } R (upd H A.b (.ins c.bn A.db (zM "at" (.int v) (flds A M)))) :=
 ⟨⟨m.bb.lens,m.bb.starts,m.bb.bx,m.bb.msk,m.bb.ml,m.bb.dl,m.bb.pl,m.bb.tl,m.bb.tt,m.bb.ul,m.bb.uu,m.bb.rf⟩,m.h.put (o':=.ins c.bn A.db (zM "at" (.int v) (flds A M))) 0 rfl⟩
theorem MAt.s_opened (m:MAt c B A M R H) (v:Int):MAt c B A { M with opened:=v } R (upd H A.b (.ins c.bn A.db (zM "opened" (.int v) (flds A M)))) :=
 ⟨⟨m.bb.lens,m.bb.starts,m.bb.bx,m.bb.msk,m.bb.ml,m.bb.dl,m.bb.pl,m.bb.tl,m.bb.tt,m.bb.ul,m.bb.uu,m.bb.rf⟩,m.h.put (o':=.ins c.bn A.db (zM "opened" (.int v) (flds A M))) 0 rfl⟩
theorem MAt.s_many (m:MAt c B A M R H) (v:Int):MAt c B A { M with many:=v } R (upd H A.b (.ins c.bn A.db (zM "many" (.int v) (flds A M)))) :=
 ⟨⟨m.bb.lens,m.bb.starts,m.bb.bx,m.bb.msk,m.bb.ml,m.bb.dl,m.bb.pl,m.bb.tl,m.bb.tt,m.bb.ul,m.bb.uu,m.bb.rf⟩,m.h.put (o':=.ins c.bn A.db (zM "many" (.int v) (flds A M))) 0 rfl⟩
theorem MAt.s_group (m:MAt c B A M R H) (v:Int):MAt c B A { M with group:=v } R (upd H A.b (.ins c.bn A.db (zM "group" (.int v) (flds A M)))) :=
 ⟨⟨m.bb.lens,m.bb.starts,m.bb.bx,m.bb.msk,m.bb.ml,m.bb.dl,m.bb.pl,m.bb.tl,m.bb.tt,m.bb.ul,m.bb.uu,m.bb.rf⟩,m.h.put (o':=.ins c.bn A.db (zM "group" (.int v) (flds A M))) 0 rfl⟩
theorem MAt.s_base (m:MAt c B A M R H) (v:Int):MAt c B A { M with base:=v } R (upd H A.b (.ins c.bn A.db (zM "base" (.int v) (flds A M)))) :=
 ⟨⟨m.bb.lens,m.bb.starts,m.bb.bx,m.bb.msk,m.bb.ml,m.bb.dl,m.bb.pl,m.bb.tl,m.bb.tt,m.bb.ul,m.bb.uu,m.bb.rf⟩,m.h.put (o':=.ins c.bn A.db (zM "base" (.int v) (flds A M))) 0 rfl⟩
theorem MAt.s_begun (m:MAt c B A M R H) (v:Int):MAt c B A { M with begun:=v } R (upd H A.b (.ins c.bn A.db (zM "begun" (.int v) (flds A M)))) :=
 ⟨⟨m.bb.lens,m.bb.starts,m.bb.bx,m.bb.msk,m.bb.ml,m.bb.dl,m.bb.pl,m.bb.tl,m.bb.tt,m.bb.ul,m.bb.uu,m.bb.rf⟩,m.h.put (o':=.ins c.bn A.db (zM "begun" (.int v) (flds A M))) 0 rfl⟩
theorem MAt.s_width (m:MAt c B A M R H) (v:Int):MAt c B A { M with width:=v } R (upd H A.b (.ins c.bn A.db (zM "width" (.int v) (flds A M)))) :=
 ⟨⟨m.bb.lens,m.bb.starts,m.bb.bx,m.bb.msk,m.bb.ml,m.bb.dl,m.bb.pl,m.bb.tl,m.bb.tt,m.bb.ul,m.bb.uu,m.bb.rf⟩,m.h.put (o':=.ins c.bn A.db (zM "width" (.int v) (flds A M))) 0 rfl⟩
theorem MAt.s_cut (m:MAt c B A M R H) (v:Option Int):MAt c B A { M with cut:=v } R (upd H A.b (.ins c.bn A.db (zM "cut" (oV v) (flds A M)))) :=
 ⟨⟨m.bb.lens,m.bb.starts,m.bb.bx,m.bb.msk,m.bb.ml,m.bb.dl,m.bb.pl,m.bb.tl,m.bb.tt,m.bb.ul,m.bb.uu,m.bb.rf⟩,m.h.put (o':=.ins c.bn A.db (zM "cut" (oV v) (flds A M))) 0 rfl⟩
theorem MAt.s_carried (m:MAt c B A M R H) (v:Option Int):MAt c B A { M with carried:=v } R (upd H A.b (.ins c.bn A.db (zM "carried" (oV v) (flds A M)))) :=
 ⟨⟨m.bb.lens,m.bb.starts,m.bb.bx,m.bb.msk,m.bb.ml,m.bb.dl,m.bb.pl,m.bb.tl,m.bb.tt,m.bb.ul,m.bb.uu,m.bb.rf⟩,m.h.put (o':=.ins c.bn A.db (zM "carried" (oV v) (flds A M))) 0 rfl⟩
theorem MAt.s_faults (m:MAt c B A M R H) {n:Addr} (nn:H n=none):MAt c B { A with aF:=n } { M with faults:=[] } R (upd (upd H n (.dK [])) A.b (.ins c.bn A.db (zM "faults" (.ref n) (flds A M)))):=by
 have h:=(m.h.new (o:=.dK []) nn).put (o':=.ins c.bn A.db (zM "faults" (.ref n) (flds A M))) 1 rfl
 refine ⟨⟨m.bb.lens,m.bb.starts,m.bb.bx,m.bb.msk,m.bb.ml,m.bb.dl,m.bb.pl,m.bb.tl,m.bb.tt,m.bb.ul,m.bb.uu,m.bb.rf⟩,?_⟩
 have h2:=h.sub (L':=(n,.dK [])::(A.b,.ins c.bn A.db (zM "faults" (.ref n) (flds A M)))::(A.aC,.lst (M.cells.map V.int))::(A.aN,.lst (M.nums.map V.int))::(A.aSl,.dK M.slots)::(A.fd,zJ c.fe A.dfd A.aD (fAt M.dust M.dq))::(A.fp,zJ c.fe A.dfp A.aP (fAt M.picks M.pq))::(A.aT,.lst (A.ts.map V.ref))::(A.aU,.lst (A.us.map V.ref))::(mskO A M++R)) (.cons₂ _ (.cons₂ _ (.cons₂ _ (.cons₂ _ (.cons₂ _ (.cons₂ _ (.cons₂ _ (.cons₂ _ (.cons _ (List.Sublist.refl _))))))))))
 refine h2.perm ?_
 exact (List.perm_middle (a:=(n,HO.dK [])) (l₁:=[_,_,_,_,_,_,_]) (l₂:=_::_)).symm
end
structure MOk0 (M:Mc):Prop where
 l1:1<=M.lanes
 l64:M.lanes<=64
 nl:M.nums.length=8*M.lanes
 ml:M.masks.length=16
 mm:∀ m∈M.masks,m.length=4*M.lanes
theorem MOk.zero {M:Mc} (ok:MOk M):MOk0 M:=⟨ok.l1,ok.l64,ok.nl,ok.ml,ok.mm⟩
theorem MOk0.strip {M:Mc} (ok:MOk0 M) (hg:M.group=1∨M.group=2∨M.group=4) {w b:Int} (h0:0<=w) (h1:w<=M.group*M.lanes):MOk { M with base:=b,width:=w,begun:=w,faults:=[],cut:=none }:=⟨ok.l1,ok.l64,hg,ok.nl,ok.ml,ok.mm,h0,h1⟩
def Mc.wide (M:Mc) (b:Int):Int:=if M.group*M.lanes<M.many-b then M.group*M.lanes else M.many-b
def Mc.strip (M:Mc) (b:Int):Mc:=({ M with base:=b,width:=M.wide b,begun:=M.wide b,faults:=[],cut:=none }:Mc).laidMask 0 (upto (M.wide b).toNat)
section
variable {P:Program} {w:World} {K:PySem.W.Frag} {mg:Str->Option Value} {base:Heap}
def spStrip (c:MCs):Sp:=fun vs H Q _=>∃ (B:Hp) (A:Ma) (M:Mc) (R:List (Addr×HO)) (b:Int),vs=[.ref A.b,.int b]/\MAt c B A M R H/\MOk0 M/\(M.group=1∨M.group=2∨M.group=4)/\b<=M.many /\
 ∀ B' A' H',Same B B'->A'.b=A.b->MAt c B' A' (M.strip b) R H'->Q .non H'
theorem ok_strip {c:MCs} (d:yf K c.bn "begin_strip" "Bench.begin_strip" z9 ["self","base"]) (hrg:mg "range"=none) (hlist:mg "list"=none) (hmin:mg "min"=none) (CC:MCls K c) (LM:OkM P w K mg base CX0 2 c.bn "lay_mask" ["self","mask","chosen"] (spMask c K)):OkM P w K mg base CX0 3 c.bn "begin_strip" ["self","base"] (spStrip c):=by
 obtain ⟨f,fd,m,F,bd⟩:=d
 refine ⟨f,fd,m,bd,F.ok sc_Bench_begin_strip (by rintro vs H Q E ⟨_,_,_,_,_,rfl,_⟩;rfl) fun cdv A outer s H vs Q E hr h=>?_⟩
 obtain ⟨B,A,M,R,b,rfl,m,ok,hg,hb,q⟩:=h
 have nd:=sc_Bench_begin_strip.nd
 have hr2:=hr
 have CN:=CC.n
 have l1:=ok.l1
 have l64:=ok.l64
 have rb:M.group*M.lanes<=4*M.lanes/\1<=M.group*M.lanes:=by rcases hg with e | e | e <;> rw [e] <;> omega
 have w01:0<=M.wide b/\M.wide b<=M.group*M.lanes:=by unfold Mc.wide;split <;> omega
 refine ⟨_,(zc (zN (pv 0) (pv 1) rfl)
   (zc (zN (pv 0) (zv (xI rfl) (by rfl) hmin PyProof.Rows.boot_min (za (zi op_sub (zC (pv 0) rfl) (pv 1)) (za (zi ya (zC (pv 0) rfl) (zC (pv 0) rfl)) zb))) rfl)
   (zc (zN (pv 0) (zC (pv 0) rfl) rfl)
   (zc (zN (pv 0) pe_dnewK rfl)
   (zc (zN (pv 0) pe_non rfl)
   (zf (zQ (yk LM CC.n.c hr2 zr (pv 0) (za ze (za (ye (call_list_rng rfl) (by rfl) hlist PyProof.Rows.boot_list (za (ye call_rangeV (by rfl) hrg PyProof.Rows.boot_range (za (zC (pv 0) rfl) zb)) zb)) zb)))))))))),?_⟩
 dsimp only [yt,Cx.nox,Cx.wish]
 refine ⟨_,rfl,_,rfl,A.b,_,_,_,rfl,m.b,CN.c,CN.base,(by show 23<1000;decide),?_⟩
 have m:=m.s_base b
 refine ⟨_,rfl,A.b,_,_,_,.int M.many,rfl,m.b,CN.c,CN.many,rfl,_,rfl,_,_,rfl,rfl,_,rfl,A.b,_,_,_,.int M.group,rfl,m.b,CN.c,CN.group,rfl,_,rfl,A.b,_,_,_,.int M.lanes,rfl,m.b,CN.c,CN.lanes,rfl,_,_,rfl,rfl,.inl ⟨by omega,by omega⟩,_,_,rfl,_,rfl,A.b,_,_,_,rfl,m.b,CN.c,CN.width,(by show 23<1000;decide),?_⟩
 have m:=m.s_width (M.wide b)
 refine ⟨_,rfl,A.b,_,_,_,.int (M.wide b),rfl,m.b,CN.c,CN.width,rfl,_,rfl,A.b,_,_,_,rfl,m.b,CN.c,CN.begun,(by show 23<1000;decide),?_⟩
 have m:=m.s_begun (M.wide b)
 refine fun n nn=>?_
 have mf:=m.s_faults nn
 refine ⟨_,rfl,A.b,_,_,_,rfl,(by rw [zo (zw m.b nn)];exact m.b),CN.c,CN.faults,(by show 23<1000;decide),?_⟩
 have m:=mf
 refine ⟨_,rfl,A.b,_,_,_,rfl,m.b,CN.c,CN.cut,(by show 23<1000;decide),?_⟩
 have m:=m.s_cut none
 obtain ⟨wn,ew⟩:∃ wn:Nat,M.wide b=wn:=⟨(M.wide b).toNat,by omega⟩
 have ok2:MOk { M with base:=b,width:=M.wide b,begun:=M.wide b,faults:=[],cut:=none }:=ok.strip hg w01.1 w01.2
 refine ⟨_,rfl,A.b,_,_,rfl,m.b,rfl,_,rfl,A.b,_,_,_,.int (M.wide b),rfl,m.b,CN.c,CN.width,rfl,_,rfl,fun rg nrg=>?_⟩
 have m1:=m.grow (o:=.rng 0 (M.wide b)) nrg
 have s1:Same B (upd B rg (.rng 0 (M.wide b))):=zh (Same.refl _) (m.h.free nrg)
 have e1:upd B rg (.rng 0 (M.wide b)) rg=some (.rng 0 (M.wide b)):=zg
 generalize upd B rg (.rng 0 (M.wide b))=B1 at m1 s1 e1
 refine ⟨rg,wn,rfl,(by rw [← ew];exact m1.h.sm _ _ e1),by omega,fun l nl=>?_⟩
 have m2:=m1.grow (o:=.lst ((upto wn).map V.int)) nl
 have s2:Same B1 (upd B1 l (.lst ((upto wn).map V.int))):=zh (Same.refl _) (m1.h.free nl)
 have e2:upd B1 l (.lst ((upto wn).map V.int)) l=some (.lst ((upto wn).map V.int)):=zg
 generalize upd B1 l (.lst ((upto wn).map V.int))=B2 at m2 s2 e2
 refine ⟨B2,{ A with aF:=n },{ M with base:=b,width:=M.wide b,begun:=M.wide b,faults:=[],cut:=none },R,0,l,upto wn,rfl,m2,ok2,by decide,e2,(fun j hj=>?_),fun H9 m9=>?_⟩
 ·obtain ⟨i,hi,rfl⟩:=List.mem_map.mp hj
  have:=List.mem_range.mp hi
  show 0<=(i:Int)/\(i:Int)<M.group*M.lanes
  omega
 ·refine q B2 { A with aF:=n } H9 (s1.trans s2) rfl ?_
  unfold Mc.strip
  rw [ew,Int.toNat_natCast]
  rw [ew] at m9
  exact m9
def Mc.round (M:Mc) (many group:Int):Mc:=({ M with opened:=M.pc,many:=many,group:=group,carried:=none }:Mc).strip 0
def spRound (c:MCs):Sp:=fun vs H Q _=>∃ (B:Hp) (A:Ma) (M:Mc) (R:List (Addr×HO)) (many group:Int),vs=[.ref A.b,.int many,.int group]/\MAt c B A M R H/\MOk0 M/\(group=1∨group=2∨group=4)/\0<=many /\
 ∀ B' A' H',Same B B'->A'.b=A.b->MAt c B' A' (M.round many group) R H'->Q .non H'
theorem ok_round {c:MCs} (d:yf K c.bn "open_round" "Bench.open_round" yc ["self","many","group"]) (CC:MCls K c) (BS:OkM P w K mg base CX0 3 c.bn "begin_strip" ["self","base"] (spStrip c)):OkM P w K mg base CX0 4 c.bn "open_round" ["self","many","group"] (spRound c):=by
 obtain ⟨f,fd,m,F,bd⟩:=d
 refine ⟨f,fd,m,bd,F.ok sc_Bench_open_round (by rintro vs H Q E ⟨_,_,_,_,_,_,rfl,_⟩;rfl) fun cdv A outer s H vs Q E hr h=>?_⟩
 obtain ⟨B,A,M,R,many,group,rfl,m,ok,hg,hm,q⟩:=h
 have nd:=sc_Bench_open_round.nd
 have hr3:=hr
 have CN:=CC.n
 refine ⟨_,(zc (zN (pv 0) (zC (pv 0) rfl) rfl)
   (zc (zN (pv 0) (pv 1) rfl)
   (zc (zN (pv 0) (pv 2) rfl)
   (zc (zN (pv 0) pe_non rfl)
   (zf (zQ (yk BS CC.n.c hr3 zr (pv 0) (za ze zb)))))))),?_⟩
 dsimp only [yt,Cx.nox,Cx.wish]
 refine ⟨_,rfl,A.b,_,_,_,.int M.pc,rfl,m.b,CN.c,CN.pc,rfl,_,rfl,A.b,_,_,_,rfl,m.b,CN.c,CN.opened,(by show 23<1000;decide),?_⟩
 have m:=m.s_opened M.pc
 refine ⟨_,rfl,_,rfl,A.b,_,_,_,rfl,m.b,CN.c,CN.many,(by show 23<1000;decide),?_⟩
 have m:=m.s_many many
 refine ⟨_,rfl,_,rfl,A.b,_,_,_,rfl,m.b,CN.c,CN.group,(by show 23<1000;decide),?_⟩
 have m:=m.s_group group
 refine ⟨_,rfl,A.b,_,_,_,rfl,m.b,CN.c,CN.carried,(by show 23<1000;decide),?_⟩
 have m:=m.s_carried none
 exact ⟨_,rfl,A.b,_,_,rfl,m.b,rfl,B,A,{ M with opened:=M.pc,many:=many,group:=group,carried:=none },R,0,rfl,m,⟨ok.l1,ok.l64,ok.nl,ok.ml,ok.mm⟩,hg,hm,fun B' A' H' s eb m'=>q B' A' H' s eb m'⟩
end
end K40
namespace L2
open PySem
theorem ix_tupK {X:Cx} {K:PySem.W.Frag} (e:X.K=K):IxR X (rIxT K):=by subst e;exact zP
end L2
namespace K40
open PySem L2
def zZ (K:PySem.W.Frag) (mg:Str->Option Value) (aS:Addr) (sg nm:Str):Prop:=∃ f,PySem.W.nsIn K aS sg=some (some (.ref f))/\mg nm=some (.ref f)
structure TabA where
 s:Addr
 e:Addr
 w:Addr
structure Tabs (w:World) (K:PySem.W.Frag) (mg:Str->Option Value) (t:TabA):Prop where
 Ts:xz w K t.s
 Te:xz w K t.e
 Tw:xz w K t.w
 ls:(t.s == sysModules)=false
 le:(t.e == sysModules)=false
 hs:mg "SEAT_STEPS"=some (.ref t.s)
 he:mg "EFFECTS"=some (.ref t.e)
 hw:mg "WAYS"=some (.ref t.w)
 s_number:zZ K mg t.s "number" "numbers_written"
 s_here:zZ K mg t.s "here" "numbers_of_here"
 s_load:zZ K mg t.s "load" "numbers_loaded"
 s_spread:zZ K mg t.s "spread" "numbers_spread"
 s_shift:zZ K mg t.s "shift" "numbers_shifted"
 s_gather:zZ K mg t.s "gather" "numbers_gathered"
 s_op:zZ K mg t.s "op" "numbers_joined"
 s_pick:zZ K mg t.s "pick" "numbers_picked"
 s_copy:zZ K mg t.s "copy" "numbers_copied"
 s_bring:zZ K mg t.s "bring" "numbers_brought"
 e_reach:zZ K mg t.e "reach" "play_reach"
 es_reach:PySem.W.nsIn K t.s "reach"=some none
 e_trim:zZ K mg t.e "trim" "play_trim"
 es_trim:PySem.W.nsIn K t.s "trim"=some none
 e_stop:zZ K mg t.e "stop" "play_stop"
 es_stop:PySem.W.nsIn K t.s "stop"=some none
 e_choose:zZ K mg t.e "choose" "play_choose"
 es_choose:PySem.W.nsIn K t.s "choose"=some none
 e_other:zZ K mg t.e "other" "play_other"
 es_other:PySem.W.nsIn K t.s "other"=some none
 e_save:zZ K mg t.e "save" "play_save"
 es_save:PySem.W.nsIn K t.s "save"=some none
 e_store:zZ K mg t.e "store" "play_store"
 es_store:PySem.W.nsIn K t.s "store"=some none
 e_put:zZ K mg t.e "put" "play_put"
 es_put:PySem.W.nsIn K t.s "put"=some none
 e_fold:zZ K mg t.e "fold" "play_fold"
 es_fold:PySem.W.nsIn K t.s "fold"=some none
 e_running:zZ K mg t.e "running" "play_running"
 es_running:PySem.W.nsIn K t.s "running"=some none
 e_any:zZ K mg t.e "any" "play_any"
 es_any:PySem.W.nsIn K t.s "any"=some none
 w_begin:zZ K mg t.w "begin" "play_begin"
 ws_begin:PySem.W.nsIn K t.s "begin"=some none
 we_begin:PySem.W.nsIn K t.e "begin"=some none
 w_next:zZ K mg t.w "next" "play_next"
 ws_next:PySem.W.nsIn K t.s "next"=some none
 we_next:PySem.W.nsIn K t.e "next"=some none
 w_turns:zZ K mg t.w "turns" "play_turns"
 ws_turns:PySem.W.nsIn K t.s "turns"=some none
 we_turns:PySem.W.nsIn K t.e "turns"=some none
 w_quiet:zZ K mg t.w "quiet" "play_quiet"
 ws_quiet:PySem.W.nsIn K t.s "quiet"=some none
 we_quiet:PySem.W.nsIn K t.e "quiet"=some none
 w_till:zZ K mg t.w "till" "play_till"
 ws_till:PySem.W.nsIn K t.s "till"=some none
 we_till:PySem.W.nsIn K t.e "till"=some none
abbrev FnM:=List V->Mc->List Int->Option (Mc×List (Option Int))
structure FnMOk (f:FnM):Prop where
 ok:∀ {tv M js M' ns},f tv M js=some (M',ns)->MOk M->MOk M'
 g:∀ {tv M js M' ns},f tv M js=some (M',ns)->M'.group=M.group
 n:∀ {tv M js M' ns},f tv M js=some (M',ns)->ns.length=js.length
section
variable {P:Program} {w:World} {K:PySem.W.Frag} {mg:Str->Option Value} {base:Heap}
def spFn (c:MCs) (f:FnM):Sp:=fun vs H Q _=>∃ (B:Hp) (A:Ma) (M:Mc) (R:List (Addr×HO)) (st aa:Addr) (tv:List V) (js:List Int) (M':Mc) (ns:List (Option Int)),vs=[.ref A.b,.ref st,.ref aa]/\MAt c B A M R H/\B st=some (.tup tv)/\B aa=some (.lst (js.map V.int))/\f tv M js=some (M',ns)/\MOk M/\(∀ j∈js,0<=j/\j<M.group*M.lanes)/\js.length<=1000 /\
 ∀ B' A' H' l,Same B B'->A'.b=A.b->MAt c B' A' M' R H'->B' l=some (.lst (ns.map oV))->Q (.ref l) H'
def seatM (f:FnM) (tv:List V) (M:Mc):Option Mc:=match (tv[1]?:Option V),tv.getLast? with
 | some (V.int p),some (V.int k)=>if 0<=p/\(p+1)*M.group<=8/\0<=k/\k<16 then (f tv M (M.act k.toNat)).map fun r=>r.1.laidSeat (xt (M.act k.toNat) r.2) p.toNat else none
 | _,_=>none
def spPSS (c:MCs) (S:Str->FnM->Prop):Sp:=fun vs H Q _=>∃ (word:Str) (f:FnM) (B:Hp) (A:Ma) (M:Mc) (R:List (Addr×HO)) (st:Addr) (tv:List V) (M':Mc),S word f/\vs=[.ref A.b,.ref st]/\MAt c B A M R H/\B st=some (.tup tv)/\tv[0]?=some (.str word)/\seatM f tv M=some M'/\MOk M /\
 ∀ B' A' H',Same B B'->A'.b=A.b->MAt c B' A' M' R H'->Q .non H'
theorem mask_room {M:Mc} (ok:MOk M) {k:Nat} (hk:k<16):M.width.toNat<=(M.masks.getD k []).length/\M.width.toNat<=1000:=by
 have ml:=ok.ml
 have hk':k<M.masks.length:=by omega
 have l1:=ok.l1
 have l64:=ok.l64
 have w0:=ok.w0
 have w1:=ok.w1
 have lm:(M.masks.getD k []).length=4*M.lanes:=by
  rw [List.getD_eq_getElem?_getD,List.getElem?_eq_getElem hk'];exact ok.mm _ (List.getElem_mem hk')
 have rb:M.group*M.lanes<=4*M.lanes:=by rcases ok.g with e | e | e <;> rw [e] <;> omega
 rw [lm];omega
theorem act_in {M:Mc} (ok:MOk M) (k:Nat):(∀ j∈M.act k,0<=j/\j<M.group*M.lanes)/\(M.act k).length<=1000:=by
 have w0:=ok.w0
 have w1:=ok.w1
 refine ⟨fun j hj=>?_,?_⟩
 ·obtain ⟨a,b,_⟩:=Mc.act_mem hj
  omega
 ·have:=M.actTo_len k M.width.toNat
  have rb:M.group*M.lanes<=4*M.lanes:=by rcases ok.g with e | e | e <;> rw [e] <;> omega
  have:=ok.l64
  unfold Mc.act
  omega
theorem atI_lst {tv:List V} {v:V} (h:tv.getLast?=some v):atI tv (-1)=some v:=by
 obtain ⟨l,rfl⟩:∃ l,tv=l++[v]:=by
  rw [List.getLast?_eq_some_iff] at h;exact h
 exact atI_last _ _
def SeatWords (P:Program) (w:World) (K:PySem.W.Frag) (mg:Str->Option Value) (base:Heap) (c:MCs) (t:TabA) (S:Str->FnM->Prop) (rm:Nat):Prop:=∀ word f,S word f->∃ (nm:Str) (ps:List Str),zZ K mg t.s word nm/\Ok P w K mg base CX0 rm nm ps (spFn c f)/\FnMOk f
theorem ok_pss {c:MCs} {t:TabA} {S:Str->FnM->Prop} {rm:Nat} (d:zn K mg "play_seat_step" yn ["bench","step"]) (CC:MCls K c) (TT:Tabs w K mg t) (hrm:rm<=6) (AU:OkM P w K mg base CX0 1 c.bn "active_under" ["self","mask"] (spAct c)) (LS:OkM P w K mg base CX0 3 c.bn "lay_seat" ["self","seat","active","numbers"] (spSeat c K))
  (SW:SeatWords P w K mg base c t S rm):Ok P w K mg base CX0 7 "play_seat_step" ["bench","step"] (spPSS c S):=by
 obtain ⟨g,fd,m,F,b⟩:=d
 refine ⟨g,fd,m,F.kp,b,F.ok sc_play_seat_step (by rintro vs H Q E ⟨_,_,_,_,_,_,_,_,_,_,rfl,_⟩;rfl) fun cdv A outer s H vs Q E hr h=>?_⟩
 obtain ⟨word,f,B,A,M,R,st,tv,M',hS,rfl,m,es,e0,eM,ok,q⟩:=h
 obtain ⟨nm,ps,sg,FN,fo⟩:=SW word f hS
 have nd:=sc_play_seat_step.nd
 have hr3:=hr.mono (show 3<=6 by decide)
 have hr1:=hr.mono (show 1<=6 by decide)
 have hrF:Room rm _:=hr.mono hrm
 have CN:=CC.n
 unfold seatM at eM
 split at eM
 case h_2=>cases eM
 rename_i p k e1 el
 split at eM
 case isFalse=>cases eM
 rename_i hc
 obtain ⟨p0,p8,k0,k16⟩:=hc
 obtain ⟨⟨M1,ns⟩,ef,rfl⟩:=Option.map_eq_some_iff.mp eM
 obtain ⟨pn,rfl⟩:∃ n:Nat,p=n:=⟨p.toNat,by omega⟩
 obtain ⟨kn,rfl⟩:∃ n:Nat,k=n:=⟨k.toNat,by omega⟩
 rw [Int.toNat_natCast] at ef
 have kn16:kn<16:=by omega
 obtain ⟨mr1,mr2⟩:=mask_room ok kn16
 obtain ⟨ai,al⟩:=act_in ok kn
 have ml:=ok.ml
 refine ⟨_,(zc (zu (i:=2) nd rfl (Or.inl rfl) (yk AU CC.n.c hr1 zr (pv 0) (za (zy zP (pv 1) (pe_un un_neg ze) (fun _ _=>rfl)) zb)))
   (zf (zQ (yk LS CC.n.c hr3 zr (pv 0) (za (zy zP (pv 1) ze (fun _ _=>rfl)) (za (pv 2) (za (pe_callV (CX:=CX0) (k:=rm) (zy ix_top (pe_gref TT.hs) (zy zP (pv 1) ze (fun _ _=>rfl)) (fun _ _=>rfl)) hrF zr (za (pv 0) (za (pv 1) (za (pv 2) zb)))) zb))))))),?_⟩
 dsimp only [yt,Cx.nox,Cx.wish]
 refine ⟨_,rfl,A.b,_,_,rfl,m.b,rfl,_,rfl,_,rfl,st,_,_,_,rfl,rfl,SqT.of (m.h.sm _ _ es),atI_lst el,B,A,M,R,kn,rfl,m,by omega,ok.w0,mr1,mr2,fun B1 H1 l s1 m1 ea=>?_⟩
 obtain ⟨fn,efn,mfn⟩:=sg
 obtain ⟨f2,fd2,mf2,kp,bb,FO⟩:=FN
 cases mfn.symm.trans mf2
 refine ⟨_,rfl,A.b,_,_,rfl,m1.b,rfl,_,rfl,st,_,_,_,rfl,rfl,SqT.of (m1.h.sm _ _ (s1 _ _ es)),zK e1,_,rfl,_,rfl,st,_,_,_,rfl,rfl,SqT.of (m1.h.sm _ _ (s1 _ _ es)),zK (j:=0) e0,t.s,word,.ref fn,.ref fn,rfl,rfl,TT.Ts,efn,rfl,?_⟩
 refine ⟨fn,fd2,ps,spFn c f,rfl,FO,kp,bb,_,rfl,_,rfl,_,rfl,B1,A,M,R,st,l,tv,M.act kn,M1,ns,rfl,m1,s1 _ _ es,ea,ef,ok,ai,al,fun B2 A2 H2 l2 s2 eb m2 en=>?_⟩
 refine ⟨B2,A2,M1,R,pn,l,l2,M.act kn,ns,by rw [eb];rfl,m2,fo.ok ef ok,by rw [fo.g ef];exact p8,s2 _ _ ea,en,(fo.n ef).symm,fun B3 H3 s3 m3=>?_⟩
 rw [Int.toNat_natCast,Int.toNat_natCast] at q
 exact q B3 A2 H3 ((s1.trans s2).trans s3) eb m3
end
end K40
namespace K40
open PySem L2
def Mc.reads (M:Mc) (row:Nat) (js:List Int):Mc:={ M with touches:=M.touches++js.map fun j=>(M.pc,("read":Str),M.adr row (M.base+j)) }
def Mc.valAt (M:Mc) (row:Nat) (j:Int):Int:=M.cells.getD (M.adr row (M.base+j)).toNat 0
theorem Mc.reads_snoc (M:Mc) (row:Nat) (js:List Int) (j:Int):M.reads row (js++[j])=(M.reads row js).touched "read" (M.adr row (M.base+j)):=by
 unfold Mc.reads Mc.touched
 rw [List.map_append,← List.append_assoc];rfl
def rowIn (M:Mc) (row:Nat) (js:List Int):Prop:=row<M.starts.length/\∀ j∈js,0<=M.adr row (M.base+j)/\(M.adr row (M.base+j)).toNat<M.cells.length
open Classical in
noncomputable def loadM:FnM:=fun tv M js=>match (tv[2]?:Option V) with
 | some (V.int r)=>if 0<=r/\rowIn M r.toNat js/\M.touches.length+js.length<100000 then some (M.reads r.toNat js,js.map fun j=>some (M.valAt r.toNat j)) else none
 | _=>none
theorem loadM_is {tv:List V} {M M':Mc} {js:List Int} {ns:List (Option Int)} (h:loadM tv M js=some (M',ns)):∃ r:Nat,tv[2]?=some (.int r)/\rowIn M r js/\M.touches.length+js.length<100000/\M'=M.reads r js/\ns=js.map fun j=>some (M.valAt r j):=by
 unfold loadM at h
 split at h
 ·rename_i r e
  split at h
  ·rename_i hc
   obtain ⟨r0,h1,h2⟩:=hc
   cases h
   exact ⟨r.toNat,by rw [e];congr 2;omega,h1,h2,rfl,rfl⟩
  ·cases h
 ·cases h
theorem loadM_ok:FnMOk loadM where
 ok:=fun h ok=>by
  obtain ⟨r,_,_,_,rfl,_⟩:=loadM_is h
  exact ⟨ok.l1,ok.l64,ok.g,ok.nl,ok.ml,ok.mm,ok.w0,ok.w1⟩
 g:=fun h=>by
  obtain ⟨r,_,_,_,rfl,_⟩:=loadM_is h
  rfl
 n:=fun h=>by
  obtain ⟨r,_,_,_,_,rfl⟩:=loadM_is h
  rw [List.length_map]
section
variable {P:Program} {w:World} {K:PySem.W.Frag} {mg:Str->Option Value} {base:Heap}
theorem ok_loaded {c:MCs} (d:zn K mg "numbers_loaded" yo ["bench","step","active"]) (CC:MCls K c) (RC:OkM P w K mg base CX0 2 c.bn "read_cell" ["self","row","place"] (spRead c)):Ok P w K mg base CX0 3 "numbers_loaded" ["bench","step","active"] (spFn c loadM):=by
 obtain ⟨g,fd,m,F,b⟩:=d
 refine ⟨g,fd,m,F.kp,b,F.ok sc_numbers_loaded (by rintro vs H Q E ⟨_,_,_,_,_,_,_,_,_,_,rfl,_⟩;rfl) fun cdv A outer s H vs Q E hr h=>?_⟩
 obtain ⟨B,A,M,R,st,aa,tv,js,M',ns,rfl,m,es,ea,ef,ok,hj,hl,q⟩:=h
 obtain ⟨r,e2,⟨hr0,hin⟩,ht,rfl,rfl⟩:=loadM_is ef
 have nd:=sc_numbers_loaded.nd
 have hr2:=hr
 have CN:=CC.n
 have SL:(3000:Nat)<sizeLine:=by decide
 refine ⟨_,(zf (zq (pe_compC ["lane","bench","step"] [none,some 0,some 1] rfl rfl rfl (xv (pv 2)) (fun s3 H3 fp=>⟨zB (i:=0) (show ((["lane","bench","step"]:List Str)).Nodup by decide +kernel) rfl (Or.inl rfl),(yk RC CC.n.c hr2 zr (pv 1) (za (zy (ix_tupK (K:=K) rfl) (pv 2) ze (fun _ _=>rfl)) (za (zi zF (pe_fldK (K:=K) rfl (pv 1) rfl) (pv 0)) zb)))⟩)))),?_⟩
 dsimp only [yt,Cx.nox,Cx.wish]
 refine ⟨_,rfl,aa,rfl,⟨_,SqL.of (m.h.sm _ _ ea)⟩,_,rfl,fun D nD=>?_⟩
 have m0:MAt c B A (M.reads r (js.take 0)) ((D,.lst (((js.take 0).map fun j=>some (M.valAt r j)).map oV))::R) (upd H D (.lst [])):=by
  have e:M.reads r (js.take 0)=M:=by unfold Mc.reads;rw [List.take_zero];show { M with touches:=M.touches++[] }=M;rw [List.append_nil]
  rw [e];exact m.newR nD
 generalize upd H D (.lst [])=H1 at m0 ⊢
 let Pv1:Nat->St->Hp->Prop:=(fun i σ J=>∃ (u:Option V) (B1:Hp) (A1:Ma),σ=[u,some (.ref A.b),some (.ref st)]/\Same B B1/\A1.b=A.b/\MAt c B1 A1 (M.reads r (js.take i)) ((D,.lst (((js.take i).map fun j=>some (M.valAt r j)).map oV))::R) J)
 refine comp_list (K:=K) (a:=aa) (D:=D) (xs:=js.map V.int) Pv1 ⟨none,B,A,rfl,Same.refl _,rfl,m0⟩ (fun i σ J _ ⟨_,B1,A1,_,s1,_,m1⟩=>SqL.of (m1.h.sm _ _ (s1 _ _ ea))) ?_ ?_
 ·clear m0
  rintro i y σ J hy ⟨u,B1,A1,rfl,s1,eb,m1⟩
  obtain ⟨hlt,rfl⟩:=map_int_at hy
  have mj:=L2.getD_mem hlt
  have e9:js[i]?=some (js.getD i 0):=by rw [List.getD_eq_getElem?_getD,List.getElem?_eq_getElem hlt];rfl
  generalize js.getD i 0=j at mj e9
  obtain ⟨j0,j1⟩:=hin j mj
  refine ⟨_,rfl,A1.b,_,_,by rw [eb],m1.b,rfl,_,rfl,st,_,_,_,rfl,rfl,SqT.of (m1.h.sm _ _ (s1 _ _ es)),zK (j:=2) e2,_,rfl,A1.b,_,_,_,.int M.base,by rw [eb],m1.b,CN.c,CN.base,rfl,_,rfl,_,_,rfl,rfl,B1,A1,M.reads r (js.take i),_,r,M.base+j,by rw [eb];rfl,m1,?_,hr0,j0,j1,fun B2 A2 H2 s2 eb2 m2=>?_⟩
  ·show (M.touches++_).length<_
   rw [List.length_append,List.length_map,List.length_take];omega
  refine ⟨_,m2.getR,(by rw [List.length_map,List.length_map,List.length_take];omega),_,B2,A2,rfl,s1.trans s2,eb2.trans eb,?_⟩
  have m3:=m2.putR (o':=.lst (((js.take (i+1)).map fun j=>some (M.valAt r j)).map oV))
  have et:js.take (i+1)=js.take i++[j]:=by rw [List.take_add_one,e9];rfl
  rw [et,M.reads_snoc]
  rw [et,List.map_append,List.map_append] at m3
  rw [List.map_append,List.map_append]
  exact m3
 ·rintro σ J ⟨u,B1,A1,rfl,s1,eb,m1⟩
  rw [List.length_map,List.take_length] at m1
  have nb:B1 D=none:=m1.h.nw (D,_) (List.mem_of_getElem? atR)
  exact q _ A1 J D (s1.trans (zh (Same.refl _) nb)) eb m1.settle zg
abbrev EfM:=List V->Mc->Option Mc
def spEf (c:MCs) (f:EfM):Sp:=fun vs H Q _=>∃ (B:Hp) (A:Ma) (M:Mc) (R:List (Addr×HO)) (st:Addr) (tv:List V) (M':Mc),vs=[.ref A.b,.ref st]/\MAt c B A M R H/\B st=some (.tup tv)/\f tv M=some M'/\MOk M /\
 ∀ B' A' H',Same B B'->A'.b=A.b->MAt c B' A' M' R H'->Q .non H'
def spPE (c:MCs) (S:Str->EfM->Prop):Sp:=fun vs H Q _=>∃ (word:Str) (f:EfM) (B:Hp) (A:Ma) (M:Mc) (R:List (Addr×HO)) (st:Addr) (tv:List V) (M':Mc),S word f/\vs=[.ref A.b,.ref st]/\MAt c B A M R H/\B st=some (.tup tv)/\tv[0]?=some (.str word)/\f tv M=some M'/\MOk M /\
 ∀ B' A' H',Same B B'->A'.b=A.b->MAt c B' A' M' R H'->Q .non H'
def EffWords (P:Program) (w:World) (K:PySem.W.Frag) (mg:Str->Option Value) (base:Heap) (c:MCs) (t:TabA) (S:Str->EfM->Prop) (rm:Nat):Prop:=∀ word f,S word f->PySem.W.nsIn K t.s word=some none/\∃ (nm:Str) (ps:List Str),zZ K mg t.e word nm/\Ok P w K mg base CX0 rm nm ps (spEf c f)
theorem ok_pe {c:MCs} {t:TabA} {S:Str->EfM->Prop} {rm:Nat} (hrm:rm<=7) (d:zn K mg "play_effect" yJ ["bench","step"]) (TT:Tabs w K mg t) (EW:EffWords P w K mg base c t S rm):Ok P w K mg base CX0 8 "play_effect" ["bench","step"] (spPE c S):=by
 obtain ⟨g,fd,m,F,b⟩:=d
 refine ⟨g,fd,m,F.kp,b,F.ok sc_play_effect (by rintro vs H Q E ⟨_,_,_,_,_,_,_,_,_,_,rfl,_⟩;rfl) fun cdv A outer s H vs Q E hr h=>?_⟩
 obtain ⟨word,f,B,A,M,R,st,tv,M',hS,rfl,m,es,e0,eM,ok,q⟩:=h
 obtain ⟨_,nm,ps,sg,FN⟩:=EW word f hS
 have hr4:=hr.mono (show 4<=7 by decide)
 have hrF:Room rm _:=hr.mono hrm
 obtain ⟨fn,efn,mfn⟩:=sg
 obtain ⟨f2,fd2,mf2,kp,bb,FO⟩:=FN
 cases mfn.symm.trans mf2
 refine ⟨_,(zf (zQ (pe_callV (CX:=CX0) (k:=rm) (zy ix_top (pe_gref TT.he) (zy zP (pv 1) ze (fun _ _=>rfl)) (fun _ _=>rfl)) hrF zr (za (pv 0) (za (pv 1) zb))))),?_⟩
 dsimp only [yt,Cx.nox,Cx.wish]
 exact ⟨_,rfl,st,_,_,_,rfl,rfl,SqT.of (m.h.sm _ _ es),zK (j:=0) e0,t.e,word,.ref fn,.ref fn,rfl,rfl,TT.Te,efn,rfl,fn,fd2,ps,spEf c f,rfl,FO,kp,bb,_,rfl,_,rfl,B,A,M,R,st,tv,M',rfl,m,es,eM,ok,q⟩
def spIn (aD:Addr) (K:PySem.W.Frag):Sp:=fun vs H Q _=>∃ (word:Str) (r:Option Value),vs=[.str word]/\PySem.W.nsIn K aD word=some r/\Q (.bl r.isSome) H
theorem ok_lsw {t:TabA} (d:zn K mg "lays_seat" xm ["word"]) (TT:Tabs w K mg t):Ok P w K mg base CX0 1 "lays_seat" ["word"] (spIn t.s K):=by
 obtain ⟨g,fd,m,F,b⟩:=d
 refine ⟨g,fd,m,F.kp,b,F.ok sc_lays_seat (by rintro vs H Q E ⟨_,_,rfl,_⟩;rfl) fun cdv A outer s H vs Q E hr h=>?_⟩
 obtain ⟨word,r,rfl,e,q⟩:=h
 refine ⟨_,(zf (zq (pe_cmpR op_in_top (pv 0) (pe_gref TT.hs) rfl))),?_⟩
 dsimp only [yt,Cx.nox,Cx.wish]
 exact ⟨_,rfl,word,t.s,r,rfl,rfl,TT.Ts,TT.ls,e,q⟩
theorem ok_hew {t:TabA} (d:zn K mg "has_effect" yZ ["word"]) (TT:Tabs w K mg t):Ok P w K mg base CX0 1 "has_effect" ["word"] (spIn t.e K):=by
 obtain ⟨g,fd,m,F,b⟩:=d
 refine ⟨g,fd,m,F.kp,b,F.ok sc_has_effect (by rintro vs H Q E ⟨_,_,rfl,_⟩;rfl) fun cdv A outer s H vs Q E hr h=>?_⟩
 obtain ⟨word,r,rfl,e,q⟩:=h
 refine ⟨_,(zf (zq (pe_cmpR op_in_top (pv 0) (pe_gref TT.he) rfl))),?_⟩
 dsimp only [yt,Cx.nox,Cx.wish]
 exact ⟨_,rfl,word,t.e,r,rfl,rfl,TT.Te,TT.le,e,q⟩
end
end K40
namespace K40
open PySem L2
def Mc.puts (M:Mc) (row:Nat) (ps:List (Int×Int)):Mc:=ps.foldl (fun M p=>M.wrote row p.1 p.2) M
theorem Mc.puts_snoc (M:Mc) (row:Nat) (ps:List (Int×Int)) (p:Int×Int):M.puts row (ps++[p])=(M.puts row ps).wrote row p.1 p.2:=by
 unfold Mc.puts;rw [List.foldl_append];rfl
theorem Mc.puts_is (M:Mc) (row:Nat) (ps:List (Int×Int)):M.puts row ps={ M with cells:=(M.puts row ps).cells,touches:=M.touches++ps.map fun p=>(M.pc,("write":Str),M.adr row p.1) }/\(M.puts row ps).cells.length=M.cells.length:=by
 induction ps generalizing M with
 | nil=>exact ⟨by show M={ M with touches:=M.touches++[] };rw [List.append_nil],rfl⟩
 | cons p ps ih =>
  obtain ⟨a,b⟩:=ih (M.wrote row p.1 p.2)
  have e:M.puts row (p::ps)=(M.wrote row p.1 p.2).puts row ps:=rfl
  rw [e]
  refine ⟨?_,b.trans (by show (M.cells.set _ _).length=_;rw [List.length_set])⟩
  rw [a]
  show ({ M with cells:=_,touches:=(M.touches++[_])++ps.map _ }:Mc)={ M with cells:=_,touches:=_ }
  rw [List.append_assoc];rfl
section
variable {P:Program} {w:World} {K:PySem.W.Frag} {mg:Str->Option Value} {base:Heap}
theorem ym {α:Type} {f:α->V} {l:List α} {i:Nat} {x:V} (h:(l.map f)[i]?=some x):∃ a,l[i]?=some a/\x=f a:=by
 rw [List.getElem?_map] at h
 obtain ⟨a,e,z⟩:=Option.map_eq_some_iff.mp h
 exact ⟨a,e,z.symm⟩
abbrev WyM:=List V->Mc->Mc->Int->Prop
def spWy (c:MCs) (f:WyM):Sp:=fun vs H Q _=>∃ (B:Hp) (A:Ma) (M:Mc) (R:List (Addr×HO)) (st:Addr) (tv:List V) (M':Mc) (n:Int),vs=[.ref A.b,.ref st]/\MAt c B A M R H/\B st=some (.tup tv)/\f tv M M' n /\
 ∀ B' A' H',Same B B'->A'.b=A.b->MAt c B' A' M' R H'->Q (.int n) H'
def beginW:WyM:=fun tv M M' n=>∃ many group:Int,tv[1]?=some (.int many)/\tv[2]?=some (.int group)/\MOk0 M/\(group=1∨group=2∨group=4)/\0<=many/\M'=M.round many group/\n=M.pc+1
def nextW:WyM:=fun tv M M' n=>MOk0 M/\(M.group=1∨M.group=2∨M.group=4)/\(if M.base+M.begun<M.many then M'=M.strip (M.base+M.begun)/\n=M.opened+1 else M'=M/\n=M.pc+1)
end
section
variable {P:Program} {w:World} {K:PySem.W.Frag} {mg:Str->Option Value} {base:Heap}
theorem ok_begin {c:MCs} (d:zn K mg "play_begin" yX ["bench","step"]) (CC:MCls K c) (OR:OkM P w K mg base CX0 4 c.bn "open_round" ["self","many","group"] (spRound c)):Ok P w K mg base CX0 5 "play_begin" ["bench","step"] (spWy c beginW):=by
 obtain ⟨g,fd,m,F,b⟩:=d
 refine ⟨g,fd,m,F.kp,b,F.ok sc_play_begin (by rintro vs H Q E ⟨_,_,_,_,_,_,_,_,rfl,_⟩;rfl) fun cdv A outer s H vs Q E hr h=>?_⟩
 obtain ⟨B,A,M,R,st,tv,M',n,rfl,m,es,⟨many,group,e1,e2,ok,hg,hm,rfl,rfl⟩,q⟩:=h
 have hr4:=hr
 have CN:=CC.n
 refine ⟨_,(zc (zQ (yk OR CC.n.c hr4 zr (pv 0) (za (zy zP (pv 1) ze (fun _ _=>rfl)) (za (zy zP (pv 1) ze (fun _ _=>rfl)) zb))))
   (zf (zq (zi zF (zC (pv 0) rfl) ze)))),?_⟩
 dsimp only [yt,Cx.nox,Cx.wish]
 refine ⟨_,rfl,A.b,_,_,rfl,m.b,rfl,_,rfl,st,_,_,_,rfl,rfl,SqT.of (m.h.sm _ _ es),zK (j:=1) e1,_,rfl,st,_,_,_,rfl,rfl,SqT.of (m.h.sm _ _ es),zK (j:=2) e2,B,A,M,R,many,group,rfl,m,ok,hg,hm,fun B1 A1 H1 s1 eb m1=>?_⟩
 exact ⟨_,rfl,A1.b,_,_,_,.int M.pc,by rw [eb],m1.b,CN.c,CN.pc,rfl,_,_,rfl,rfl,q B1 A1 H1 s1 eb m1⟩
theorem ok_next {c:MCs} (d:zn K mg "play_next" xk ["bench","step"]) (CC:MCls K c) (BS:OkM P w K mg base CX0 3 c.bn "begin_strip" ["self","base"] (spStrip c)):Ok P w K mg base CX0 5 "play_next" ["bench","step"] (spWy c nextW):=by
 obtain ⟨g,fd,m,F,b⟩:=d
 refine ⟨g,fd,m,F.kp,b,F.ok sc_play_next (by rintro vs H Q E ⟨_,_,_,_,_,_,_,_,rfl,_⟩;rfl) fun cdv A outer s H vs Q E hr h=>?_⟩
 obtain ⟨B,A,M,R,st,tv,M',n,rfl,m,es,⟨ok,hg,hx⟩,q⟩:=h
 have nd:=sc_play_next.nd
 have hr3:=hr.mono (show 3<=4 by decide)
 have CN:=CC.n
 refine ⟨_,(zc (zu (i:=2) nd rfl (Or.inl rfl) (zi zF (zC (pv 0) rfl) (zC (pv 0) rfl)))
   (zc (zV (zH op_lt (pv 2) (zC (pv 0) rfl) (zL _)) (zc (zQ (yk BS CC.n.c hr3 zr (pv 0) (za (pv 2) zb)))
   (zf (zq (zi zF (zC (pv 0) rfl) ze)))) zI)
   (zf (zq (zi zF (zC (pv 0) rfl) ze))))),?_⟩
 dsimp only [yt,Cx.nox,Cx.wish]
 refine ⟨_,rfl,A.b,_,_,_,.int M.base,rfl,m.b,CN.c,CN.base,rfl,_,rfl,A.b,_,_,_,.int M.begun,rfl,m.b,CN.c,CN.begun,rfl,_,_,rfl,rfl,?_⟩
 refine ⟨_,rfl,_,rfl,A.b,_,_,_,.int M.many,rfl,m.b,CN.c,CN.many,rfl,_,_,rfl,rfl,_,rfl,?_⟩
 refine ite2 (fun z=>?_) (fun z=>?_)
 ·have z:=of_decide_eq_true z
  rw [if_pos z] at hx
  obtain ⟨rfl,rfl⟩:=hx
  refine ⟨_,rfl,A.b,_,_,rfl,m.b,rfl,_,rfl,B,A,M,R,M.base+M.begun,rfl,m,ok,hg,by omega,fun B1 A1 H1 s1 eb m1=>?_⟩
  exact ⟨_,rfl,A1.b,_,_,_,.int M.opened,by rw [eb],m1.b,CN.c,CN.opened,rfl,_,_,rfl,rfl,q B1 A1 H1 s1 eb m1⟩
 ·rw [if_neg (fun y=>z (decide_eq_true y))] at hx
  obtain ⟨rfl,rfl⟩:=hx
  exact ⟨_,rfl,A.b,_,_,_,.int M'.pc,rfl,m.b,CN.c,CN.pc,rfl,_,_,rfl,rfl,q B A H (Same.refl _) rfl m⟩
end
end K40
namespace K40
open PySem L2
structure Lex where
 S:Str->FnM->Prop
 E:Str->EfM->Prop
 W:Str->WyM->Prop
inductive Step (L:Lex) (tv:List V) (M:Mc):Mc->Prop
 | seat {word f M'}:L.S word f->tv[0]?=some (.str word)->seatM f tv M=some M'->MOk M->Step L tv M { M' with pc:=M'.pc+1 }
 | eff {word f M'}:L.E word f->tv[0]?=some (.str word)->f tv M=some M'->MOk M->Step L tv M { M' with pc:=M'.pc+1 }
 | way {word f M' n}:L.W word f->tv[0]?=some (.str word)->f tv M M' n->Step L tv M { M' with pc:=n }
section
variable {P:Program} {w:World} {K:PySem.W.Frag} {mg:Str->Option Value} {base:Heap}
def WayWords (P:Program) (w:World) (K:PySem.W.Frag) (mg:Str->Option Value) (base:Heap) (c:MCs) (t:TabA) (S:Str->WyM->Prop) (rm:Nat):Prop:=∀ word f,S word f->PySem.W.nsIn K t.s word=some none/\PySem.W.nsIn K t.e word=some none/\∃ (nm:Str) (ps:List Str),zZ K mg t.w word nm/\Ok P w K mg base CX0 rm nm ps (spWy c f)
def spPB (c:MCs) (L:Lex):Sp:=fun vs H Q _=>∃ (B:Hp) (A:Ma) (M:Mc) (R:List (Addr×HO)) (st:Addr) (tv:List V) (M':Mc),vs=[.ref A.b,.ref st]/\MAt c B A M R H/\B st=some (.tup tv)/\Step L tv M M' /\
 ∀ B' A' H' M1,Same B B'->A'.b=A.b->MAt c B' A' M1 R H'->M'={ M1 with pc:=M'.pc }->Q (.int M'.pc) H'
theorem ok_pb {c:MCs} {t:TabA} {L:Lex} {rm rs re:Nat} (d:zn K mg "place_behind" yB ["bench","step"]) (CC:MCls K c) (TT:Tabs w K mg t) (hrm:rm<=8) (SW:SeatWords P w K mg base c t L.S rs) (EW:EffWords P w K mg base c t L.E re) (WW:WayWords P w K mg base c t L.W rm)
  (LSW:Ok P w K mg base CX0 1 "lays_seat" ["word"] (spIn t.s K)) (HEW:Ok P w K mg base CX0 1 "has_effect" ["word"] (spIn t.e K)) (PSS:Ok P w K mg base CX0 7 "play_seat_step" ["bench","step"] (spPSS c L.S)) (PE:Ok P w K mg base CX0 8 "play_effect" ["bench","step"] (spPE c L.E)) :
  Ok P w K mg base CX0 9 "place_behind" ["bench","step"] (spPB c L):=by
 obtain ⟨g,fd,m,F,b⟩:=d
 refine ⟨g,fd,m,F.kp,b,F.ok sc_place_behind (by rintro vs H Q E ⟨_,_,_,_,_,_,_,rfl,_⟩;rfl) fun cdv A outer s H vs Q E hr h=>?_⟩
 obtain ⟨B,A,M,R,st,tv,M',rfl,m,es,hS,q⟩:=h
 have hr5:=hr
 have hr4:=hr.mono (show 7<=8 by decide)
 have hr1:=hr.mono (show 1<=8 by decide)
 have hrF:Room rm _:=hr.mono hrm
 have CN:=CC.n
 refine ⟨_,(zc (zV (xF (zD LSW hr1 (by rfl) zr (za (zy zP (pv 1) ze (fun _ _=>rfl)) zb))) (zc (zQ (zD PSS hr4 (by rfl) zr (za (pv 0) (za (pv 1) zb))))
   (zf (zq (zi zF (zC (pv 0) rfl) ze)))) zI)
   (zc (zV (xF (zD HEW hr1 (by rfl) zr (za (zy zP (pv 1) ze (fun _ _=>rfl)) zb))) (zc (zQ (zD PE hr5 (by rfl) zr (za (pv 0) (za (pv 1) zb))))
   (zf (zq (zi zF (zC (pv 0) rfl) ze)))) zI)
   (zf (zq (pe_callV (CX:=CX0) (k:=rm) (zy ix_top (pe_gref TT.hw) (zy zP (pv 1) ze (fun _ _=>rfl)) (fun _ _=>rfl)) hrF zr (za (pv 0) (za (pv 1) zb))))))),?_⟩
 dsimp only [yt,Cx.nox,Cx.wish]
 have sqt:SqT K H st tv:=SqT.of (m.h.sm _ _ es)
 cases hS with
 | seat hs e0 eM ok =>
  rename_i word f M1
  obtain ⟨nm,ps,⟨fn,efn,mfn⟩,FN,fo⟩:=SW word f hs
  refine ⟨_,rfl,st,_,_,_,rfl,rfl,sqt,zK (j:=0) e0,word,_,rfl,efn,_,rfl,?_⟩
  refine iteT ?_
  refine ⟨_,rfl,_,rfl,word,f,B,A,M,R,st,tv,M1,hs,rfl,m,es,e0,eM,ok,fun B1 A1 H1 s1 eb m1=>?_⟩
  exact ⟨_,rfl,A1.b,_,_,_,.int M1.pc,by rw [eb],m1.b,CN.c,CN.pc,rfl,_,_,rfl,rfl,q B1 A1 H1 M1 s1 eb m1 rfl⟩
 | eff hs e0 eM ok =>
  rename_i word f M1
  obtain ⟨n1,nm,ps,⟨fn,efn,mfn⟩,FN⟩:=EW word f hs
  refine ⟨_,rfl,st,_,_,_,rfl,rfl,sqt,zK (j:=0) e0,word,_,rfl,n1,_,rfl,?_⟩
  refine yx ?_
  refine ⟨_,rfl,st,_,_,_,rfl,rfl,sqt,zK (j:=0) e0,word,_,rfl,efn,_,rfl,?_⟩
  refine iteT ?_
  refine ⟨_,rfl,_,rfl,word,f,B,A,M,R,st,tv,M1,hs,rfl,m,es,e0,eM,ok,fun B1 A1 H1 s1 eb m1=>?_⟩
  exact ⟨_,rfl,A1.b,_,_,_,.int M1.pc,by rw [eb],m1.b,CN.c,CN.pc,rfl,_,_,rfl,rfl,q B1 A1 H1 M1 s1 eb m1 rfl⟩
 | way hs e0 eM =>
  rename_i word f M1 n
  obtain ⟨n1,n2,nm,ps,⟨fn,efn,mfn⟩,FN⟩:=WW word f hs
  obtain ⟨f2,fd2,mf2,kp,bb,FO⟩:=FN
  cases mfn.symm.trans mf2
  refine ⟨_,rfl,st,_,_,_,rfl,rfl,sqt,zK (j:=0) e0,word,_,rfl,n1,_,rfl,?_⟩
  refine yx ?_
  refine ⟨_,rfl,st,_,_,_,rfl,rfl,sqt,zK (j:=0) e0,word,_,rfl,n2,_,rfl,?_⟩
  refine yx ?_
  exact ⟨_,rfl,st,_,_,_,rfl,rfl,sqt,zK (j:=0) e0,t.w,word,.ref fn,.ref fn,rfl,rfl,TT.Tw,efn,rfl,fn,fd2,ps,spWy c f,rfl,FO,kp,bb,_,rfl,_,rfl,B,A,M,R,st,tv,M1,n,rfl,m,es,eM,fun B1 A1 H1 s1 eb m1=>q B1 A1 H1 M1 s1 eb m1 rfl⟩
end
end K40
namespace L2
open PySem
namespace Hd
variable {B:Hp} {L:List (Addr×HO)} {H H' J:Hp} {a b:Addr} {o o':HO}
theorem grow (h:Hd B L H) (n:H a=none):Hd (upd B a o) L (upd H a o):=by
  refine ⟨h.nd,fun p q=>?_,fun p q=>?_,fun b u z=>?_⟩
  · rw [zo (zw (h.st p q) n)];exact h.nw p q
  · rw [zo (zw (h.st p q) n)];exact h.st p q
  · by_cases e:b=a
    · subst e;rw [zg] at z ⊢;exact z
    · rw [zo e] at z ⊢;exact h.sm _ _ z
theorem adopt (m:Hd B L H) (h:Hd H [(a,o)] J):Hd (upd B a o) L J:=by
  have na:H a=none:=h.nw _ (List.mem_singleton.mpr rfl)
  refine ⟨m.nd,fun p q=>?_,fun p q=>h.sm _ _ (m.st p q),fun b u z=>?_⟩
  · rw [zo (zw (m.st p q) na)];exact m.nw p q
  · by_cases e:b=a
    · subst e;rw [zg] at z;cases z;exact h.get 0 rfl
    · rw [zo e] at z;exact h.sm _ _ (m.sm _ _ z)
theorem settle (m:Hd B ((a,o)::L) H):Hd (upd B a o) L H:=by
  have h:=m.tl
  have na:a ∉ L.map Prod.fst:=(List.nodup_cons.mp m.nd).1
  refine ⟨h.nd,fun p q=>?_,h.st,fun b u z=>?_⟩
  · rw [zo (fun e=>na (by rw [← e];exact List.mem_map_of_mem q))];exact h.nw p q
  · by_cases e:b=a
    · subst e;rw [zg] at z;cases z;exact m.get 0 rfl
    · rw [zo e] at z;exact m.sm _ _ z
theorem settled (m:Hd B ((a,o)::L) H):Same B (upd B a o):=zh (Same.refl _) (m.nw (a,o) (List.mem_cons_self ..))
theorem waste (h:Hd B L H) (n:H a=none):Hd B L (upd H a o):=h.same (zh (Same.refl _) n)
theorem fnew {p:Addr×HO} (h:Hd B (p::L) H) (n:H a=none):Hd B (p::(a,o)::L) (upd H a o):=(h.new n).perm (List.Perm.swap _ _ _)
theorem fput (h:Hd B ((a,o)::L) H):Hd B ((a,o')::L) (upd H a o'):=h.put 0 rfl
end Hd
end L2
namespace L2
open PySem
namespace Hd
variable {B:Hp} {L L2:List (Addr×HO)} {H H' J:Hp} {a b:Addr} {o o':HO}
theorem mv {p:Addr×HO} (k:Nat) (h:Hd B (p::L) H):Hd B (L.take k++p::L.drop k) H :=
  h.perm (by
    have e:(p::L).Perm (p::(L.take k++L.drop k)):=by rw [List.take_append_drop]
    exact e.trans List.perm_middle.symm)
theorem join (m:Hd B L H) (h:Hd H L2 J):Hd B (L++L2) J:=by
  refine ⟨?_,fun p q=>?_,fun p q=>?_,fun b u z=>h.sm _ _ (m.sm _ _ z)⟩
  · rw [List.map_append]
    refine List.nodup_append.mpr ⟨m.nd,h.nd,fun x hx y hy e=>?_⟩
    obtain ⟨p,hp,rfl⟩:=List.mem_map.mp hx
    obtain ⟨q,hq,rfl⟩:=List.mem_map.mp hy
    have:=m.st p hp
    rw [e,h.nw q hq] at this
    cases this
  · rcases List.mem_append.mp q with q | q
    · exact m.nw p q
    · exact m.free (h.nw p q)
  · rcases List.mem_append.mp q with q | q
    · exact h.sm _ _ (m.st p q)
    · exact h.st p q
theorem settles {S:List (Addr×HO)}:∀ {B:Hp},Hd B (S++L) H->∃ B',Same B B'/\(∀ p∈S,B' p.1=some p.2)/\Hd B' L H:=by
  induction S with
  | nil=>exact fun {B} h=>⟨B,Same.refl _,(fun p m=>by cases m),h⟩
  | cons p S ih =>
    intro B h
    obtain ⟨a,o⟩:=p
    obtain ⟨B',s,e,h'⟩:=ih (Hd.settle h)
    refine ⟨B',(Hd.settled h).trans s,fun p m=>?_,h'⟩
    rcases List.mem_cons.mp m with rfl | m
    · exact s _ _ zg
    · exact e p m
end Hd
end L2
namespace K40
open PySem L2
section
variable {P:Program} {w:World} {K:PySem.W.Frag} {mg:Str->Option Value} {base:Heap}
def spStart (K:PySem.W.Frag):Sp:=fun vs H Q _=>∃ (p:Addr) (ns:List Int) (r:Int),vs=[.ref p,.int r]/\SqL K H p (ns.map V.int)/\0<=r/\∀ H',Same H H'->Q (.int (ns.take r.toNat).sum) H'
theorem ok_start (d:zn K mg "start_of" xB ["lengths","row"]) (hsum:mg "sum"=none):Ok P w K mg base CX0 1 "start_of" ["lengths","row"] (spStart K):=by
 obtain ⟨g,fd,m,F,b⟩:=d
 refine ⟨g,fd,m,F.kp,b,F.ok sc_start_of (by rintro vs H Q E ⟨_,_,_,rfl,_⟩;rfl) fun cdv A outer s H vs Q E hr h=>?_⟩
 obtain ⟨p,ns,r,rfl,hS,h0,k⟩:=h
 refine ⟨_,(zf (zq (zv (call_sum rfl) (by rfl) hsum PyProof.Rows.boot_sum (za (yT xu (pv 0) xJ (xg (pv 1))) zb)))),?_⟩
 dsimp only [yt,Cx.nox,Cx.wish]
 refine ⟨_,rfl,_,rfl,r,rfl,p,_,rfl,hS,fun l hl=>?_⟩
 rw [xU h0]
 exact ⟨l,_,rfl,SqL.of zg,k _ (zh (Same.refl H) hl)⟩
def zm (lens:List Int):List Int:=(List.range lens.length).map fun r=>(lens.take r).sum
def Mc.fresh (lens cells:List Int) (L:Nat) (dust picks:List Int):Mc where
 lens:=lens
 starts:=zm lens
 cells:=cells
 lanes:=L
 nums:=List.replicate (8*L) 0
 masks:=List.replicate 16 (List.replicate (4*L) false)
 slots:=[]
 dust:=dust
 dq:=0
 picks:=picks
 pq:=0
 touches:=[]
 pc:=0
 opened:=0
 many:=0
 group:=1
 base:=0
 begun:=0
 width:=0
 faults:=[]
 cut:=none
 carried:=none
 raised:=false
 turns:=[]
 refusal:=none
theorem msk_fresh (ms:List Addr) (r:List Bool):((ms.zip (List.replicate ms.length r)).map fun p=>(p.1,HO.lst (p.2.map V.bl)))=ms.map fun a=>(a,HO.lst (r.map V.bl)):=by
 induction ms with
 | nil=>rfl
 | cons a ms ih =>
  rw [List.length_cons,List.replicate_succ,List.zip_cons_cons,List.map_cons,List.map_cons,ih]
def spInitN (c:MCs) (K:PySem.W.Frag):Sp:=fun vs H Q _=>∃ (B:Hp) (x dx l1 l2 l3 l4:Addr) (lens cells dust picks:List Int) (L:Nat),vs=[.ref x,.ref l1,.ref l2,.int L,.ref l3,.ref l4]/\Hd B [(x,.ins c.bn dx [])] H/\SqL K B l1 (lens.map V.int)/\SqL K B l2 (cells.map V.int)/\SqL K B l3 (dust.map V.int)/\SqL K B l4 (picks.map V.int)/\1<=L/\L<=64/\lens.length<=1000 /\
 ∀ B' A' H',Same B B'->A'.b=x->MAt c B' A' (Mc.fresh lens cells L dust picks) [] H'->Q .non H'
theorem ok_initN {c:MCs} {t1 t2:Tok} (d:InitIn K c.bn "Bench.__init__" xa ["self","lengths","cells","lanes","dust","picks"]) (CC:MCls K c) (hlist:mg "list"=none) (hlen:mg "len"=none) (hrg:mg "range"=none) (hMT:mg "MOST_TOGETHER"=some (.int 4 t1)) (hMM:mg "MANY_MASKS"=some (.int 16 t2))
  (hCb:mg "Boxes"=some (.ref c.bx)) (hCf:mg "Feed"=some (.ref c.fe)) (SO:Ok P w K mg base CX0 1 "start_of" ["lengths","row"] (spStart K)) (IB:OkI P w K mg base CX0 1 c.bx ["self","lanes"] (spInitB c.bx)) (IF:OkI P w K mg base CX0 1 c.fe ["self","numbers"] (spInitF K c.fe)) :
  OkI P w K mg base CX0 3 c.bn ["self","lengths","cells","lanes","dust","picks"] (spInitN c K):=by
 obtain ⟨f,fd,m,F,bd⟩:=d
 refine ⟨f,fd,m,bd,F.ok sc_Bench_init (by rintro vs H Q E ⟨_,_,_,_,_,_,_,_,_,_,_,_,rfl,_⟩;rfl) fun cdv A outer s H vs Q E hr h=>?_⟩
 obtain ⟨B,x,dx,l1,l2,l3,l4,lens,cells,dust,picks,L,rfl,h,q1,q2,q3,q4,L1,L64,hl,q⟩:=h
 have nd:=sc_Bench_init.nd
 have hr2:=hr
 have hr1:=hr.mono (show 1<=2 by decide)
 have CN:=CC.n
 refine ⟨_,(zc (zN (pv 0) (ye zY (by rfl) hlist PyProof.Rows.boot_list (za (pv 1) zb)) rfl)
   (zc (zN (pv 0) (pe_compC ["row","lengths"] [none,some 1] rfl rfl rfl (yN rfl hrg (za (zv zG (by rfl) hlen PySem.boot_len (za (pv 1) zb)) zb)) (fun s3 H3 fp=>⟨zB (i:=0) (show ((["row","lengths"]:List Str)).Nodup by decide +kernel) rfl (Or.inl rfl),(zD SO hr1 (by rfl) zr (za (pv 1) (za (pv 0) zb)))⟩)) rfl)
   (zc (zN (pv 0) (ye zY (by rfl) hlist PyProof.Rows.boot_list (za (pv 2) zb)) rfl)
   (zc (zN (pv 0) (pv 3) rfl)
   (zc (zN (pv 0) (pe_okI IB hCb hr2 (by rfl) zr (za (pv 3) zb)) rfl)
   (zc (zN (pv 0) (pe_compC ["mask","lanes"] [none,some 3] rfl rfl rfl (yN rfl hrg (za (pe_gint hMM) zb)) (fun s3 H3 fp=>⟨zB (i:=0) (show ((["mask","lanes"]:List Str)).Nodup by decide +kernel) rfl (Or.inl rfl),(zi op_rep (yw (za pe_bl zb)) (zi ya (pe_gint hMT) (pv 1)))⟩)) rfl)
   (zc (zN (pv 0) pe_dnewK rfl)
   (zc (zN (pv 0) (pe_okI IF hCf hr2 (by rfl) zr (za (pv 4) zb)) rfl)
   (zc (zN (pv 0) (pe_okI IF hCf hr2 (by rfl) zr (za (pv 5) zb)) rfl)
   (zc (zN (pv 0) (yw zb) rfl)
   (zc (zN (pv 0) ze rfl)
   (zc (zN (pv 0) ze rfl)
   (zc (zN (pv 0) ze rfl)
   (zc (zN (pv 0) ze rfl)
   (zc (zN (pv 0) ze rfl)
   (zc (zN (pv 0) ze rfl)
   (zc (zN (pv 0) ze rfl)
   (zc (zN (pv 0) pe_dnewK rfl)
   (zc (zN (pv 0) pe_non rfl)
   (zc (zN (pv 0) pe_non rfl)
   (zc (zN (pv 0) pe_bl rfl)
   (zc (zN (pv 0) (yw zb) rfl)
   (zf (zN (pv 0) pe_non rfl)))))))))))))))))))))))),?_⟩
 dsimp only [yt,Cx.nox,Cx.wish]
 have SL:(3000:Nat)<sizeLine:=by decide
 have q1:SqL K B l1 (lens.map V.int):=q1
 refine ⟨_,rfl,l1,_,rfl,.inl (h.sql q1),fun aL nL=>?_⟩
 have h:=h.new (o:=.lst (lens.map V.int)) nL
 generalize upd H aL (.lst (lens.map V.int))=H at h ⊢
 replace h:Hd B ([(aL,.lst (lens.map V.int)),(x,.ins c.bn dx [])]) H:=h.mv 0
 refine ⟨_,rfl,x,_,_,_,rfl,h.get 1 rfl,CN.c,CN.lengths,(by show 0<1000;decide),?_⟩
 have h:=h.put (o':=.ins c.bn dx (zM "lengths" (.ref aL) [])) 1 rfl
 generalize upd _ x (.ins c.bn dx (zM "lengths" (.ref aL) []))=H at h ⊢
 replace h:Hd B ([(aL,.lst (lens.map V.int)),(x,.ins c.bn dx [("lengths",.ref aL)])]) H:=h
 refine ⟨_,rfl,l1,_,rfl,.inl (h.sql q1),_,rfl,(by rw [List.length_map];omega),(by rw [List.length_map];omega),_,rfl,fun D nD=>?_⟩
 rw [List.length_map]
 have q1':SqL K H l1 (lens.map V.int):=h.sql q1
 have h0:Hd H [(D,.lst ((((List.range 0).map fun r=>(lens.take r).sum)).map V.int))] (upd H D (.lst [])):=Hd.base.new nD
 generalize upd H D (.lst [])=H3 at h0 ⊢
 refine xj (n:=lens.length) (fun i σ J=>∃ u,σ=[u,some (.ref l1)]/\Hd H [(D,.lst ((((List.range i).map fun r=>(lens.take r).sum)).map V.int))] J) ⟨none,rfl,h0⟩ ?_ ?_
 ·clear h0
  rintro i σ J hi ⟨u,rfl,h⟩
  refine ⟨_,rfl,_,rfl,l1,lens,0+(i:Int),rfl,h.sql q1',by omega,fun J1 s1=>?_⟩
  have h:=h.same s1
  refine ⟨_,h.get 0 rfl,(by rw [List.length_map,List.length_map,List.length_range];omega),_,rfl,?_⟩
  have h:=h.put (o':=.lst ((((List.range (i+1)).map fun r=>(lens.take r).sum)).map V.int)) 0 rfl
  have e:((List.range (i+1)).map fun r=>(lens.take r).sum).map V.int=((List.range i).map fun r=>(lens.take r).sum).map V.int++[V.int (lens.take (0+(i:Int)).toNat).sum]:=by
   rw [List.range_succ,List.map_append,List.map_append,show (0+(i:Int)).toNat=i by omega];rfl
  rw [e] at h ⊢
  exact h
 rintro σ H ⟨u,rfl,hD⟩
 have h:=(h.join hD).perm List.perm_append_comm
 clear hD h0 nD q1'
 replace h:Hd B ([(aL,.lst (lens.map V.int)),(D,.lst ((zm lens).map V.int)),(x,.ins c.bn dx [("lengths",.ref aL)])]) H:=h.mv 1
 refine ⟨_,rfl,x,_,_,_,rfl,h.get 2 rfl,CN.c,CN.starts,(by show 1<1000;decide),?_⟩
 have h:=h.put (o':=.ins c.bn dx (zM "starts" (.ref D) [("lengths",.ref aL)])) 2 rfl
 generalize upd _ x (.ins c.bn dx (zM "starts" (.ref D) [("lengths",.ref aL)]))=H at h ⊢
 replace h:Hd B ([(aL,.lst (lens.map V.int)),(D,.lst ((zm lens).map V.int)),(x,.ins c.bn dx [("lengths",.ref aL),("starts",.ref D)])]) H:=h
 refine ⟨_,rfl,l2,_,rfl,.inl (h.sql q2),fun aC nC=>?_⟩
 have h:=h.new (o:=.lst (cells.map V.int)) nC
 generalize upd H aC (.lst (cells.map V.int))=H at h ⊢
 replace h:Hd B ([(aL,.lst (lens.map V.int)),(D,.lst ((zm lens).map V.int)),(x,.ins c.bn dx [("lengths",.ref aL),("starts",.ref D)]),(aC,.lst (cells.map V.int))]) H:=h.mv 3
 refine ⟨_,rfl,x,_,_,_,rfl,h.get 2 rfl,CN.c,CN.cells,(by show 2<1000;decide),?_⟩
 have h:=h.put (o':=.ins c.bn dx (zM "cells" (.ref aC) [("lengths",.ref aL),("starts",.ref D)])) 2 rfl
 generalize upd _ x (.ins c.bn dx (zM "cells" (.ref aC) [("lengths",.ref aL),("starts",.ref D)]))=H at h ⊢
 replace h:Hd B ([(aL,.lst (lens.map V.int)),(D,.lst ((zm lens).map V.int)),(x,.ins c.bn dx [("lengths",.ref aL),("starts",.ref D),("cells",.ref aC)]),(aC,.lst (cells.map V.int))]) H:=h
 refine ⟨_,rfl,_,rfl,x,_,_,_,rfl,h.get 2 rfl,CN.c,CN.lanes,(by show 3<1000;decide),?_⟩
 have h:=h.put (o':=.ins c.bn dx (zM "lanes" (.int L) [("lengths",.ref aL),("starts",.ref D),("cells",.ref aC)])) 2 rfl
 generalize upd _ x (.ins c.bn dx (zM "lanes" (.int L) [("lengths",.ref aL),("starts",.ref D),("cells",.ref aC)]))=H at h ⊢
 replace h:Hd B ([(aL,.lst (lens.map V.int)),(D,.lst ((zm lens).map V.int)),(x,.ins c.bn dx [("lengths",.ref aL),("starts",.ref D),("cells",.ref aC),("lanes",.int L)]),(aC,.lst (cells.map V.int))]) H:=h
 refine ⟨_,rfl,fun bx dbx nbx ndbx nebx=>?_⟩
 refine ⟨bx,dbx,L,rfl,zg,by omega,by omega,fun H1 aN k nN ebx eN=>⟨rfl,?_⟩⟩
 have h:=(h.made nbx ndbx nebx k nN ebx eN).sub (.cons₂ _ (.cons₂ _ (.cons _ (List.Sublist.refl _))))
 have e8:(8*(L:Int)).toNat=8*L:=by omega
 rw [e8] at h
 clear k nN ebx eN
 generalize H1=H at h ⊢
 replace h:=h.perm (List.Perm.swap _ _ _)
 replace h:Hd B ([(aN,.lst ((List.replicate (8*L) (0:Int)).map V.int)),(aL,.lst (lens.map V.int)),(D,.lst ((zm lens).map V.int)),(bx,boxO c.bx dbx L aN),(x,.ins c.bn dx [("lengths",.ref aL),("starts",.ref D),("cells",.ref aC),("lanes",.int L)]),(aC,.lst (cells.map V.int))]) H:=h.mv 3
 replace h:Hd B ([(aL,.lst (lens.map V.int)),(D,.lst ((zm lens).map V.int)),(bx,boxO c.bx dbx L aN),(x,.ins c.bn dx [("lengths",.ref aL),("starts",.ref D),("cells",.ref aC),("lanes",.int L)]),(aC,.lst (cells.map V.int)),(aN,.lst ((List.replicate (8*L) (0:Int)).map V.int))]) H:=h.mv 5
 refine ⟨_,rfl,x,_,_,_,rfl,h.get 3 rfl,CN.c,CN.boxes,(by show 4<1000;decide),?_⟩
 have h:=h.put (o':=.ins c.bn dx (zM "boxes" (.ref bx) [("lengths",.ref aL),("starts",.ref D),("cells",.ref aC),("lanes",.int L)])) 3 rfl
 generalize upd _ x (.ins c.bn dx (zM "boxes" (.ref bx) [("lengths",.ref aL),("starts",.ref D),("cells",.ref aC),("lanes",.int L)]))=H at h ⊢
 replace h:Hd B ([(aL,.lst (lens.map V.int)),(D,.lst ((zm lens).map V.int)),(bx,boxO c.bx dbx L aN),(x,.ins c.bn dx [("lengths",.ref aL),("starts",.ref D),("cells",.ref aC),("lanes",.int L),("boxes",.ref bx)]),(aC,.lst (cells.map V.int)),(aN,.lst ((List.replicate (8*L) (0:Int)).map V.int))]) H:=h
 have e4:(4*(L:Int)).toNat=4*L:=by omega
 refine ⟨_,rfl,(by decide),(by decide),_,rfl,fun aM nM=>?_⟩
 have h0:Hd H ((aM,.lst (([]:List Addr).map V.ref))::([]:List Addr).map fun a=>(a,HO.lst ((List.replicate (4*L) false).map V.bl))) (upd H aM (.lst [])):=Hd.base.new nM
 generalize upd H aM (.lst [])=H3 at h0 ⊢
 refine xj (n:=16) (fun i σ J=>∃ u ms,ms.length=i/\σ=[u,some (.int L)]/\Hd H ((aM,.lst (ms.map V.ref))::ms.map fun a=>(a,HO.lst ((List.replicate (4*L) false).map V.bl))) J) ⟨none,[],rfl,rfl,h0⟩ ?_ ?_
 ·clear h0
  rintro i σ J hi ⟨u,ms,lm,rfl,h⟩
  refine ⟨(by show 1<=sizeLine;decide),fun t nt=>⟨_,rfl,_,_,rfl,rfl,.inl ⟨by decide,by decide⟩,t,_,_,rfl,rfl,zg,by omega,by omega,?_,fun l nl=>?_⟩⟩
  ·show 1*(4*(L:Int)).toNat<=sizeLine
   omega
  have h:=((h.waste (o:=.lst [.bl false]) nt).fnew (o:=.lst (List.replicate (4*(L:Int)).toNat [V.bl false]).flatten) nl)
  generalize upd _ l _=J2 at h ⊢
  refine ⟨_,h.get 0 rfl,(by rw [List.length_map];omega),_,ms++[l],(by rw [List.length_append,lm];rfl),rfl,?_⟩
  have h:=h.fput (o':=.lst ((ms++[l]).map V.ref))
  have e:(List.replicate (4*(L:Int)).toNat [V.bl false]).flatten=(List.replicate (4*L) false).map V.bl:=by
   rw [e4]
   generalize 4*L=n
   induction n with
   | zero=>rfl
   | succ n ih=>rw [List.replicate_succ,List.flatten_cons,ih,List.replicate_succ];rfl
  rw [e] at h
  rw [List.map_append] at h ⊢
  rw [List.map_append]
  exact h.perm (List.Perm.cons _ (List.perm_append_comm (l₁:=[_])))
 rintro σ H ⟨u,ms,lm,rfl,hD⟩
 have hM:=hD.tl
 have h:=h.join hD
 clear hD h0 nM
 generalize hMS:(ms.map fun a=>(a,HO.lst ((List.replicate (4*L) false).map V.bl)))=MS at h
 replace h:=h.perm List.perm_middle
 replace h:Hd B ((aL,.lst (lens.map V.int))::(D,.lst ((zm lens).map V.int))::(aM,.lst (ms.map V.ref))::(bx,boxO c.bx dbx L aN)::(x,.ins c.bn dx [("lengths",.ref aL),("starts",.ref D),("cells",.ref aC),("lanes",.int L),("boxes",.ref bx)])::(aC,.lst (cells.map V.int))::(aN,.lst ((List.replicate (8*L) (0:Int)).map V.int))::MS) H:=h.mv 2
 refine ⟨_,rfl,x,_,_,_,rfl,h.get 4 rfl,CN.c,CN.masks,(by show 5<1000;decide),?_⟩
 have h:=h.put (o':=.ins c.bn dx (zM "masks" (.ref aM) [("lengths",.ref aL),("starts",.ref D),("cells",.ref aC),("lanes",.int L),("boxes",.ref bx)])) 4 rfl
 generalize upd _ x (.ins c.bn dx (zM "masks" (.ref aM) [("lengths",.ref aL),("starts",.ref D),("cells",.ref aC),("lanes",.int L),("boxes",.ref bx)]))=H at h ⊢
 replace h:Hd B ((aL,.lst (lens.map V.int))::(D,.lst ((zm lens).map V.int))::(aM,.lst (ms.map V.ref))::(bx,boxO c.bx dbx L aN)::(x,.ins c.bn dx [("lengths",.ref aL),("starts",.ref D),("cells",.ref aC),("lanes",.int L),("boxes",.ref bx),("masks",.ref aM)])::(aC,.lst (cells.map V.int))::(aN,.lst ((List.replicate (8*L) (0:Int)).map V.int))::MS) H:=h
 refine fun aSl nSl=>?_
 have h:=h.new (o:=.dK []) nSl
 generalize upd H aSl (.dK [])=H at h ⊢
 replace h:Hd B ((aL,.lst (lens.map V.int))::(D,.lst ((zm lens).map V.int))::(aM,.lst (ms.map V.ref))::(bx,boxO c.bx dbx L aN)::(x,.ins c.bn dx [("lengths",.ref aL),("starts",.ref D),("cells",.ref aC),("lanes",.int L),("boxes",.ref bx),("masks",.ref aM)])::(aC,.lst (cells.map V.int))::(aN,.lst ((List.replicate (8*L) (0:Int)).map V.int))::(aSl,.dK [])::MS) H:=h.mv 7
 refine ⟨_,rfl,x,_,_,_,rfl,h.get 4 rfl,CN.c,CN.slots,(by show 6<1000;decide),?_⟩
 have h:=h.put (o':=.ins c.bn dx (zM "slots" (.ref aSl) [("lengths",.ref aL),("starts",.ref D),("cells",.ref aC),("lanes",.int L),("boxes",.ref bx),("masks",.ref aM)])) 4 rfl
 generalize upd _ x (.ins c.bn dx (zM "slots" (.ref aSl) [("lengths",.ref aL),("starts",.ref D),("cells",.ref aC),("lanes",.int L),("boxes",.ref bx),("masks",.ref aM)]))=H at h ⊢
 replace h:Hd B ((aL,.lst (lens.map V.int))::(D,.lst ((zm lens).map V.int))::(aM,.lst (ms.map V.ref))::(bx,boxO c.bx dbx L aN)::(x,.ins c.bn dx [("lengths",.ref aL),("starts",.ref D),("cells",.ref aC),("lanes",.int L),("boxes",.ref bx),("masks",.ref aM),("slots",.ref aSl)])::(aC,.lst (cells.map V.int))::(aN,.lst ((List.replicate (8*L) (0:Int)).map V.int))::(aSl,.dK [])::MS) H:=h
 refine ⟨_,rfl,fun fd dfd n1 n2 n3=>?_⟩
 refine ⟨fd,dfd,l3,dust,rfl,zg,zt (h.sql q3) (((zh (Same.refl _) n2)).trans (zh (Same.refl _) (by rw [zo (Ne.symm n3)];exact n1))),fun H1 aD k n4 e1 e2=>⟨rfl,?_⟩⟩
 have h:=(h.made n1 n2 n3 k n4 e1 e2).sub (.cons₂ _ (.cons₂ _ (.cons _ (List.Sublist.refl _))))
 clear k n4 e1 e2
 generalize H1=H at h ⊢
 replace h:Hd B ((fd,zJ c.fe dfd aD 0)::(aL,.lst (lens.map V.int))::(D,.lst ((zm lens).map V.int))::(aM,.lst (ms.map V.ref))::(bx,boxO c.bx dbx L aN)::(aD,.lst (dust.map V.int))::(x,.ins c.bn dx [("lengths",.ref aL),("starts",.ref D),("cells",.ref aC),("lanes",.int L),("boxes",.ref bx),("masks",.ref aM),("slots",.ref aSl)])::(aC,.lst (cells.map V.int))::(aN,.lst ((List.replicate (8*L) (0:Int)).map V.int))::(aSl,.dK [])::MS) H:=h.mv 5
 replace h:Hd B ((aL,.lst (lens.map V.int))::(D,.lst ((zm lens).map V.int))::(aM,.lst (ms.map V.ref))::(bx,boxO c.bx dbx L aN)::(aD,.lst (dust.map V.int))::(x,.ins c.bn dx [("lengths",.ref aL),("starts",.ref D),("cells",.ref aC),("lanes",.int L),("boxes",.ref bx),("masks",.ref aM),("slots",.ref aSl)])::(aC,.lst (cells.map V.int))::(aN,.lst ((List.replicate (8*L) (0:Int)).map V.int))::(aSl,.dK [])::(fd,zJ c.fe dfd aD 0)::MS) H:=h.mv 9
 refine ⟨_,rfl,x,_,_,_,rfl,h.get 5 rfl,CN.c,CN.dust,(by show 7<1000;decide),?_⟩
 have h:=h.put (o':=.ins c.bn dx (zM "dust" (.ref fd) [("lengths",.ref aL),("starts",.ref D),("cells",.ref aC),("lanes",.int L),("boxes",.ref bx),("masks",.ref aM),("slots",.ref aSl)])) 5 rfl
 generalize upd _ x (.ins c.bn dx (zM "dust" (.ref fd) [("lengths",.ref aL),("starts",.ref D),("cells",.ref aC),("lanes",.int L),("boxes",.ref bx),("masks",.ref aM),("slots",.ref aSl)]))=H at h ⊢
 replace h:Hd B ((aL,.lst (lens.map V.int))::(D,.lst ((zm lens).map V.int))::(aM,.lst (ms.map V.ref))::(bx,boxO c.bx dbx L aN)::(aD,.lst (dust.map V.int))::(x,.ins c.bn dx [("lengths",.ref aL),("starts",.ref D),("cells",.ref aC),("lanes",.int L),("boxes",.ref bx),("masks",.ref aM),("slots",.ref aSl),("dust",.ref fd)])::(aC,.lst (cells.map V.int))::(aN,.lst ((List.replicate (8*L) (0:Int)).map V.int))::(aSl,.dK [])::(fd,zJ c.fe dfd aD 0)::MS) H:=h
 refine ⟨_,rfl,fun fp dfp n1 n2 n3=>?_⟩
 refine ⟨fp,dfp,l4,picks,rfl,zg,zt (h.sql q4) (((zh (Same.refl _) n2)).trans (zh (Same.refl _) (by rw [zo (Ne.symm n3)];exact n1))),fun H1 aP k n4 e1 e2=>⟨rfl,?_⟩⟩
 have h:=(h.made n1 n2 n3 k n4 e1 e2).sub (.cons₂ _ (.cons₂ _ (.cons _ (List.Sublist.refl _))))
 clear k n4 e1 e2
 generalize H1=H at h ⊢
 replace h:Hd B ((fp,zJ c.fe dfp aP 0)::(aL,.lst (lens.map V.int))::(D,.lst ((zm lens).map V.int))::(aM,.lst (ms.map V.ref))::(bx,boxO c.bx dbx L aN)::(aD,.lst (dust.map V.int))::(aP,.lst (picks.map V.int))::(x,.ins c.bn dx [("lengths",.ref aL),("starts",.ref D),("cells",.ref aC),("lanes",.int L),("boxes",.ref bx),("masks",.ref aM),("slots",.ref aSl),("dust",.ref fd)])::(aC,.lst (cells.map V.int))::(aN,.lst ((List.replicate (8*L) (0:Int)).map V.int))::(aSl,.dK [])::(fd,zJ c.fe dfd aD 0)::MS) H:=h.mv 6
 replace h:Hd B ((aL,.lst (lens.map V.int))::(D,.lst ((zm lens).map V.int))::(aM,.lst (ms.map V.ref))::(bx,boxO c.bx dbx L aN)::(aD,.lst (dust.map V.int))::(aP,.lst (picks.map V.int))::(x,.ins c.bn dx [("lengths",.ref aL),("starts",.ref D),("cells",.ref aC),("lanes",.int L),("boxes",.ref bx),("masks",.ref aM),("slots",.ref aSl),("dust",.ref fd)])::(aC,.lst (cells.map V.int))::(aN,.lst ((List.replicate (8*L) (0:Int)).map V.int))::(aSl,.dK [])::(fd,zJ c.fe dfd aD 0)::(fp,zJ c.fe dfp aP 0)::MS) H:=h.mv 11
 refine ⟨_,rfl,x,_,_,_,rfl,h.get 6 rfl,CN.c,CN.picks,(by show 8<1000;decide),?_⟩
 have h:=h.put (o':=.ins c.bn dx (zM "picks" (.ref fp) [("lengths",.ref aL),("starts",.ref D),("cells",.ref aC),("lanes",.int L),("boxes",.ref bx),("masks",.ref aM),("slots",.ref aSl),("dust",.ref fd)])) 6 rfl
 generalize upd _ x (.ins c.bn dx (zM "picks" (.ref fp) [("lengths",.ref aL),("starts",.ref D),("cells",.ref aC),("lanes",.int L),("boxes",.ref bx),("masks",.ref aM),("slots",.ref aSl),("dust",.ref fd)]))=H at h ⊢
 replace h:Hd B ((aL,.lst (lens.map V.int))::(D,.lst ((zm lens).map V.int))::(aM,.lst (ms.map V.ref))::(bx,boxO c.bx dbx L aN)::(aD,.lst (dust.map V.int))::(aP,.lst (picks.map V.int))::(x,.ins c.bn dx [("lengths",.ref aL),("starts",.ref D),("cells",.ref aC),("lanes",.int L),("boxes",.ref bx),("masks",.ref aM),("slots",.ref aSl),("dust",.ref fd),("picks",.ref fp)])::(aC,.lst (cells.map V.int))::(aN,.lst ((List.replicate (8*L) (0:Int)).map V.int))::(aSl,.dK [])::(fd,zJ c.fe dfd aD 0)::(fp,zJ c.fe dfp aP 0)::MS) H:=h
 refine ⟨(by show 0<=sizeLine;exact Nat.zero_le _),fun aT nT=>?_⟩
 have h:=h.new (o:=.lst []) nT
 generalize upd H aT (.lst [])=H at h ⊢
 replace h:Hd B ((aL,.lst (lens.map V.int))::(D,.lst ((zm lens).map V.int))::(aM,.lst (ms.map V.ref))::(bx,boxO c.bx dbx L aN)::(aD,.lst (dust.map V.int))::(aP,.lst (picks.map V.int))::(x,.ins c.bn dx [("lengths",.ref aL),("starts",.ref D),("cells",.ref aC),("lanes",.int L),("boxes",.ref bx),("masks",.ref aM),("slots",.ref aSl),("dust",.ref fd),("picks",.ref fp)])::(aC,.lst (cells.map V.int))::(aN,.lst ((List.replicate (8*L) (0:Int)).map V.int))::(aSl,.dK [])::(fd,zJ c.fe dfd aD 0)::(fp,zJ c.fe dfp aP 0)::(aT,.lst [])::MS) H:=h.mv 12
 refine ⟨_,rfl,x,_,_,_,rfl,h.get 6 rfl,CN.c,CN.touches,(by show 9<1000;decide),?_⟩
 have h:=h.put (o':=.ins c.bn dx (zM "touches" (.ref aT) [("lengths",.ref aL),("starts",.ref D),("cells",.ref aC),("lanes",.int L),("boxes",.ref bx),("masks",.ref aM),("slots",.ref aSl),("dust",.ref fd),("picks",.ref fp)])) 6 rfl
 generalize upd _ x (.ins c.bn dx (zM "touches" (.ref aT) [("lengths",.ref aL),("starts",.ref D),("cells",.ref aC),("lanes",.int L),("boxes",.ref bx),("masks",.ref aM),("slots",.ref aSl),("dust",.ref fd),("picks",.ref fp)]))=H at h ⊢
 replace h:Hd B ((aL,.lst (lens.map V.int))::(D,.lst ((zm lens).map V.int))::(aM,.lst (ms.map V.ref))::(bx,boxO c.bx dbx L aN)::(aD,.lst (dust.map V.int))::(aP,.lst (picks.map V.int))::(x,.ins c.bn dx [("lengths",.ref aL),("starts",.ref D),("cells",.ref aC),("lanes",.int L),("boxes",.ref bx),("masks",.ref aM),("slots",.ref aSl),("dust",.ref fd),("picks",.ref fp),("touches",.ref aT)])::(aC,.lst (cells.map V.int))::(aN,.lst ((List.replicate (8*L) (0:Int)).map V.int))::(aSl,.dK [])::(fd,zJ c.fe dfd aD 0)::(fp,zJ c.fe dfp aP 0)::(aT,.lst [])::MS) H:=h
 refine ⟨_,rfl,x,_,_,_,rfl,h.get 6 rfl,CN.c,CN.pc,(by show 10<1000;decide),?_⟩
 have h:=h.put (o':=.ins c.bn dx (zM "at" (.int 0) [("lengths",.ref aL),("starts",.ref D),("cells",.ref aC),("lanes",.int L),("boxes",.ref bx),("masks",.ref aM),("slots",.ref aSl),("dust",.ref fd),("picks",.ref fp),("touches",.ref aT)])) 6 rfl
 generalize upd _ x (.ins c.bn dx (zM "at" (.int 0) [("lengths",.ref aL),("starts",.ref D),("cells",.ref aC),("lanes",.int L),("boxes",.ref bx),("masks",.ref aM),("slots",.ref aSl),("dust",.ref fd),("picks",.ref fp),("touches",.ref aT)]))=H at h ⊢
 replace h:Hd B ((aL,.lst (lens.map V.int))::(D,.lst ((zm lens).map V.int))::(aM,.lst (ms.map V.ref))::(bx,boxO c.bx dbx L aN)::(aD,.lst (dust.map V.int))::(aP,.lst (picks.map V.int))::(x,.ins c.bn dx [("lengths",.ref aL),("starts",.ref D),("cells",.ref aC),("lanes",.int L),("boxes",.ref bx),("masks",.ref aM),("slots",.ref aSl),("dust",.ref fd),("picks",.ref fp),("touches",.ref aT),("at",.int 0)])::(aC,.lst (cells.map V.int))::(aN,.lst ((List.replicate (8*L) (0:Int)).map V.int))::(aSl,.dK [])::(fd,zJ c.fe dfd aD 0)::(fp,zJ c.fe dfp aP 0)::(aT,.lst [])::MS) H:=h
 refine ⟨_,rfl,x,_,_,_,rfl,h.get 6 rfl,CN.c,CN.opened,(by show 11<1000;decide),?_⟩
 have h:=h.put (o':=.ins c.bn dx (zM "opened" (.int 0) [("lengths",.ref aL),("starts",.ref D),("cells",.ref aC),("lanes",.int L),("boxes",.ref bx),("masks",.ref aM),("slots",.ref aSl),("dust",.ref fd),("picks",.ref fp),("touches",.ref aT),("at",.int 0)])) 6 rfl
 generalize upd _ x (.ins c.bn dx (zM "opened" (.int 0) [("lengths",.ref aL),("starts",.ref D),("cells",.ref aC),("lanes",.int L),("boxes",.ref bx),("masks",.ref aM),("slots",.ref aSl),("dust",.ref fd),("picks",.ref fp),("touches",.ref aT),("at",.int 0)]))=H at h ⊢
 replace h:Hd B ((aL,.lst (lens.map V.int))::(D,.lst ((zm lens).map V.int))::(aM,.lst (ms.map V.ref))::(bx,boxO c.bx dbx L aN)::(aD,.lst (dust.map V.int))::(aP,.lst (picks.map V.int))::(x,.ins c.bn dx [("lengths",.ref aL),("starts",.ref D),("cells",.ref aC),("lanes",.int L),("boxes",.ref bx),("masks",.ref aM),("slots",.ref aSl),("dust",.ref fd),("picks",.ref fp),("touches",.ref aT),("at",.int 0),("opened",.int 0)])::(aC,.lst (cells.map V.int))::(aN,.lst ((List.replicate (8*L) (0:Int)).map V.int))::(aSl,.dK [])::(fd,zJ c.fe dfd aD 0)::(fp,zJ c.fe dfp aP 0)::(aT,.lst [])::MS) H:=h
 refine ⟨_,rfl,x,_,_,_,rfl,h.get 6 rfl,CN.c,CN.many,(by show 12<1000;decide),?_⟩
 have h:=h.put (o':=.ins c.bn dx (zM "many" (.int 0) [("lengths",.ref aL),("starts",.ref D),("cells",.ref aC),("lanes",.int L),("boxes",.ref bx),("masks",.ref aM),("slots",.ref aSl),("dust",.ref fd),("picks",.ref fp),("touches",.ref aT),("at",.int 0),("opened",.int 0)])) 6 rfl
 generalize upd _ x (.ins c.bn dx (zM "many" (.int 0) [("lengths",.ref aL),("starts",.ref D),("cells",.ref aC),("lanes",.int L),("boxes",.ref bx),("masks",.ref aM),("slots",.ref aSl),("dust",.ref fd),("picks",.ref fp),("touches",.ref aT),("at",.int 0),("opened",.int 0)]))=H at h ⊢
 replace h:Hd B ((aL,.lst (lens.map V.int))::(D,.lst ((zm lens).map V.int))::(aM,.lst (ms.map V.ref))::(bx,boxO c.bx dbx L aN)::(aD,.lst (dust.map V.int))::(aP,.lst (picks.map V.int))::(x,.ins c.bn dx [("lengths",.ref aL),("starts",.ref D),("cells",.ref aC),("lanes",.int L),("boxes",.ref bx),("masks",.ref aM),("slots",.ref aSl),("dust",.ref fd),("picks",.ref fp),("touches",.ref aT),("at",.int 0),("opened",.int 0),("many",.int 0)])::(aC,.lst (cells.map V.int))::(aN,.lst ((List.replicate (8*L) (0:Int)).map V.int))::(aSl,.dK [])::(fd,zJ c.fe dfd aD 0)::(fp,zJ c.fe dfp aP 0)::(aT,.lst [])::MS) H:=h
 refine ⟨_,rfl,x,_,_,_,rfl,h.get 6 rfl,CN.c,CN.group,(by show 13<1000;decide),?_⟩
 have h:=h.put (o':=.ins c.bn dx (zM "group" (.int 1) [("lengths",.ref aL),("starts",.ref D),("cells",.ref aC),("lanes",.int L),("boxes",.ref bx),("masks",.ref aM),("slots",.ref aSl),("dust",.ref fd),("picks",.ref fp),("touches",.ref aT),("at",.int 0),("opened",.int 0),("many",.int 0)])) 6 rfl
 generalize upd _ x (.ins c.bn dx (zM "group" (.int 1) [("lengths",.ref aL),("starts",.ref D),("cells",.ref aC),("lanes",.int L),("boxes",.ref bx),("masks",.ref aM),("slots",.ref aSl),("dust",.ref fd),("picks",.ref fp),("touches",.ref aT),("at",.int 0),("opened",.int 0),("many",.int 0)]))=H at h ⊢
 replace h:Hd B ((aL,.lst (lens.map V.int))::(D,.lst ((zm lens).map V.int))::(aM,.lst (ms.map V.ref))::(bx,boxO c.bx dbx L aN)::(aD,.lst (dust.map V.int))::(aP,.lst (picks.map V.int))::(x,.ins c.bn dx [("lengths",.ref aL),("starts",.ref D),("cells",.ref aC),("lanes",.int L),("boxes",.ref bx),("masks",.ref aM),("slots",.ref aSl),("dust",.ref fd),("picks",.ref fp),("touches",.ref aT),("at",.int 0),("opened",.int 0),("many",.int 0),("group",.int 1)])::(aC,.lst (cells.map V.int))::(aN,.lst ((List.replicate (8*L) (0:Int)).map V.int))::(aSl,.dK [])::(fd,zJ c.fe dfd aD 0)::(fp,zJ c.fe dfp aP 0)::(aT,.lst [])::MS) H:=h
 refine ⟨_,rfl,x,_,_,_,rfl,h.get 6 rfl,CN.c,CN.base,(by show 14<1000;decide),?_⟩
 have h:=h.put (o':=.ins c.bn dx (zM "base" (.int 0) [("lengths",.ref aL),("starts",.ref D),("cells",.ref aC),("lanes",.int L),("boxes",.ref bx),("masks",.ref aM),("slots",.ref aSl),("dust",.ref fd),("picks",.ref fp),("touches",.ref aT),("at",.int 0),("opened",.int 0),("many",.int 0),("group",.int 1)])) 6 rfl
 generalize upd _ x (.ins c.bn dx (zM "base" (.int 0) [("lengths",.ref aL),("starts",.ref D),("cells",.ref aC),("lanes",.int L),("boxes",.ref bx),("masks",.ref aM),("slots",.ref aSl),("dust",.ref fd),("picks",.ref fp),("touches",.ref aT),("at",.int 0),("opened",.int 0),("many",.int 0),("group",.int 1)]))=H at h ⊢
 replace h:Hd B ((aL,.lst (lens.map V.int))::(D,.lst ((zm lens).map V.int))::(aM,.lst (ms.map V.ref))::(bx,boxO c.bx dbx L aN)::(aD,.lst (dust.map V.int))::(aP,.lst (picks.map V.int))::(x,.ins c.bn dx [("lengths",.ref aL),("starts",.ref D),("cells",.ref aC),("lanes",.int L),("boxes",.ref bx),("masks",.ref aM),("slots",.ref aSl),("dust",.ref fd),("picks",.ref fp),("touches",.ref aT),("at",.int 0),("opened",.int 0),("many",.int 0),("group",.int 1),("base",.int 0)])::(aC,.lst (cells.map V.int))::(aN,.lst ((List.replicate (8*L) (0:Int)).map V.int))::(aSl,.dK [])::(fd,zJ c.fe dfd aD 0)::(fp,zJ c.fe dfp aP 0)::(aT,.lst [])::MS) H:=h
 refine ⟨_,rfl,x,_,_,_,rfl,h.get 6 rfl,CN.c,CN.begun,(by show 15<1000;decide),?_⟩
 have h:=h.put (o':=.ins c.bn dx (zM "begun" (.int 0) [("lengths",.ref aL),("starts",.ref D),("cells",.ref aC),("lanes",.int L),("boxes",.ref bx),("masks",.ref aM),("slots",.ref aSl),("dust",.ref fd),("picks",.ref fp),("touches",.ref aT),("at",.int 0),("opened",.int 0),("many",.int 0),("group",.int 1),("base",.int 0)])) 6 rfl
 generalize upd _ x (.ins c.bn dx (zM "begun" (.int 0) [("lengths",.ref aL),("starts",.ref D),("cells",.ref aC),("lanes",.int L),("boxes",.ref bx),("masks",.ref aM),("slots",.ref aSl),("dust",.ref fd),("picks",.ref fp),("touches",.ref aT),("at",.int 0),("opened",.int 0),("many",.int 0),("group",.int 1),("base",.int 0)]))=H at h ⊢
 replace h:Hd B ((aL,.lst (lens.map V.int))::(D,.lst ((zm lens).map V.int))::(aM,.lst (ms.map V.ref))::(bx,boxO c.bx dbx L aN)::(aD,.lst (dust.map V.int))::(aP,.lst (picks.map V.int))::(x,.ins c.bn dx [("lengths",.ref aL),("starts",.ref D),("cells",.ref aC),("lanes",.int L),("boxes",.ref bx),("masks",.ref aM),("slots",.ref aSl),("dust",.ref fd),("picks",.ref fp),("touches",.ref aT),("at",.int 0),("opened",.int 0),("many",.int 0),("group",.int 1),("base",.int 0),("begun",.int 0)])::(aC,.lst (cells.map V.int))::(aN,.lst ((List.replicate (8*L) (0:Int)).map V.int))::(aSl,.dK [])::(fd,zJ c.fe dfd aD 0)::(fp,zJ c.fe dfp aP 0)::(aT,.lst [])::MS) H:=h
 refine ⟨_,rfl,x,_,_,_,rfl,h.get 6 rfl,CN.c,CN.width,(by show 16<1000;decide),?_⟩
 have h:=h.put (o':=.ins c.bn dx (zM "width" (.int 0) [("lengths",.ref aL),("starts",.ref D),("cells",.ref aC),("lanes",.int L),("boxes",.ref bx),("masks",.ref aM),("slots",.ref aSl),("dust",.ref fd),("picks",.ref fp),("touches",.ref aT),("at",.int 0),("opened",.int 0),("many",.int 0),("group",.int 1),("base",.int 0),("begun",.int 0)])) 6 rfl
 generalize upd _ x (.ins c.bn dx (zM "width" (.int 0) [("lengths",.ref aL),("starts",.ref D),("cells",.ref aC),("lanes",.int L),("boxes",.ref bx),("masks",.ref aM),("slots",.ref aSl),("dust",.ref fd),("picks",.ref fp),("touches",.ref aT),("at",.int 0),("opened",.int 0),("many",.int 0),("group",.int 1),("base",.int 0),("begun",.int 0)]))=H at h ⊢
 replace h:Hd B ((aL,.lst (lens.map V.int))::(D,.lst ((zm lens).map V.int))::(aM,.lst (ms.map V.ref))::(bx,boxO c.bx dbx L aN)::(aD,.lst (dust.map V.int))::(aP,.lst (picks.map V.int))::(x,.ins c.bn dx [("lengths",.ref aL),("starts",.ref D),("cells",.ref aC),("lanes",.int L),("boxes",.ref bx),("masks",.ref aM),("slots",.ref aSl),("dust",.ref fd),("picks",.ref fp),("touches",.ref aT),("at",.int 0),("opened",.int 0),("many",.int 0),("group",.int 1),("base",.int 0),("begun",.int 0),("width",.int 0)])::(aC,.lst (cells.map V.int))::(aN,.lst ((List.replicate (8*L) (0:Int)).map V.int))::(aSl,.dK [])::(fd,zJ c.fe dfd aD 0)::(fp,zJ c.fe dfp aP 0)::(aT,.lst [])::MS) H:=h
 refine fun aF nF=>?_
 have h:=h.new (o:=.dK []) nF
 generalize upd H aF (.dK [])=H at h ⊢
 replace h:Hd B ((aL,.lst (lens.map V.int))::(D,.lst ((zm lens).map V.int))::(aM,.lst (ms.map V.ref))::(bx,boxO c.bx dbx L aN)::(aD,.lst (dust.map V.int))::(aP,.lst (picks.map V.int))::(x,.ins c.bn dx [("lengths",.ref aL),("starts",.ref D),("cells",.ref aC),("lanes",.int L),("boxes",.ref bx),("masks",.ref aM),("slots",.ref aSl),("dust",.ref fd),("picks",.ref fp),("touches",.ref aT),("at",.int 0),("opened",.int 0),("many",.int 0),("group",.int 1),("base",.int 0),("begun",.int 0),("width",.int 0)])::(aC,.lst (cells.map V.int))::(aN,.lst ((List.replicate (8*L) (0:Int)).map V.int))::(aSl,.dK [])::(fd,zJ c.fe dfd aD 0)::(fp,zJ c.fe dfp aP 0)::(aT,.lst [])::(aF,.dK [])::MS) H:=h.mv 13
 refine ⟨_,rfl,x,_,_,_,rfl,h.get 6 rfl,CN.c,CN.faults,(by show 17<1000;decide),?_⟩
 have h:=h.put (o':=.ins c.bn dx (zM "faults" (.ref aF) [("lengths",.ref aL),("starts",.ref D),("cells",.ref aC),("lanes",.int L),("boxes",.ref bx),("masks",.ref aM),("slots",.ref aSl),("dust",.ref fd),("picks",.ref fp),("touches",.ref aT),("at",.int 0),("opened",.int 0),("many",.int 0),("group",.int 1),("base",.int 0),("begun",.int 0),("width",.int 0)])) 6 rfl
 generalize upd _ x (.ins c.bn dx (zM "faults" (.ref aF) [("lengths",.ref aL),("starts",.ref D),("cells",.ref aC),("lanes",.int L),("boxes",.ref bx),("masks",.ref aM),("slots",.ref aSl),("dust",.ref fd),("picks",.ref fp),("touches",.ref aT),("at",.int 0),("opened",.int 0),("many",.int 0),("group",.int 1),("base",.int 0),("begun",.int 0),("width",.int 0)]))=H at h ⊢
 replace h:Hd B ((aL,.lst (lens.map V.int))::(D,.lst ((zm lens).map V.int))::(aM,.lst (ms.map V.ref))::(bx,boxO c.bx dbx L aN)::(aD,.lst (dust.map V.int))::(aP,.lst (picks.map V.int))::(x,.ins c.bn dx [("lengths",.ref aL),("starts",.ref D),("cells",.ref aC),("lanes",.int L),("boxes",.ref bx),("masks",.ref aM),("slots",.ref aSl),("dust",.ref fd),("picks",.ref fp),("touches",.ref aT),("at",.int 0),("opened",.int 0),("many",.int 0),("group",.int 1),("base",.int 0),("begun",.int 0),("width",.int 0),("faults",.ref aF)])::(aC,.lst (cells.map V.int))::(aN,.lst ((List.replicate (8*L) (0:Int)).map V.int))::(aSl,.dK [])::(fd,zJ c.fe dfd aD 0)::(fp,zJ c.fe dfp aP 0)::(aT,.lst [])::(aF,.dK [])::MS) H:=h
 refine ⟨_,rfl,x,_,_,_,rfl,h.get 6 rfl,CN.c,CN.cut,(by show 18<1000;decide),?_⟩
 have h:=h.put (o':=.ins c.bn dx (zM "cut" (.non) [("lengths",.ref aL),("starts",.ref D),("cells",.ref aC),("lanes",.int L),("boxes",.ref bx),("masks",.ref aM),("slots",.ref aSl),("dust",.ref fd),("picks",.ref fp),("touches",.ref aT),("at",.int 0),("opened",.int 0),("many",.int 0),("group",.int 1),("base",.int 0),("begun",.int 0),("width",.int 0),("faults",.ref aF)])) 6 rfl
 generalize upd _ x (.ins c.bn dx (zM "cut" (.non) [("lengths",.ref aL),("starts",.ref D),("cells",.ref aC),("lanes",.int L),("boxes",.ref bx),("masks",.ref aM),("slots",.ref aSl),("dust",.ref fd),("picks",.ref fp),("touches",.ref aT),("at",.int 0),("opened",.int 0),("many",.int 0),("group",.int 1),("base",.int 0),("begun",.int 0),("width",.int 0),("faults",.ref aF)]))=H at h ⊢
 replace h:Hd B ((aL,.lst (lens.map V.int))::(D,.lst ((zm lens).map V.int))::(aM,.lst (ms.map V.ref))::(bx,boxO c.bx dbx L aN)::(aD,.lst (dust.map V.int))::(aP,.lst (picks.map V.int))::(x,.ins c.bn dx [("lengths",.ref aL),("starts",.ref D),("cells",.ref aC),("lanes",.int L),("boxes",.ref bx),("masks",.ref aM),("slots",.ref aSl),("dust",.ref fd),("picks",.ref fp),("touches",.ref aT),("at",.int 0),("opened",.int 0),("many",.int 0),("group",.int 1),("base",.int 0),("begun",.int 0),("width",.int 0),("faults",.ref aF),("cut",.non)])::(aC,.lst (cells.map V.int))::(aN,.lst ((List.replicate (8*L) (0:Int)).map V.int))::(aSl,.dK [])::(fd,zJ c.fe dfd aD 0)::(fp,zJ c.fe dfp aP 0)::(aT,.lst [])::(aF,.dK [])::MS) H:=h
 refine ⟨_,rfl,x,_,_,_,rfl,h.get 6 rfl,CN.c,CN.carried,(by show 19<1000;decide),?_⟩
 have h:=h.put (o':=.ins c.bn dx (zM "carried" (.non) [("lengths",.ref aL),("starts",.ref D),("cells",.ref aC),("lanes",.int L),("boxes",.ref bx),("masks",.ref aM),("slots",.ref aSl),("dust",.ref fd),("picks",.ref fp),("touches",.ref aT),("at",.int 0),("opened",.int 0),("many",.int 0),("group",.int 1),("base",.int 0),("begun",.int 0),("width",.int 0),("faults",.ref aF),("cut",.non)])) 6 rfl
 generalize upd _ x (.ins c.bn dx (zM "carried" (.non) [("lengths",.ref aL),("starts",.ref D),("cells",.ref aC),("lanes",.int L),("boxes",.ref bx),("masks",.ref aM),("slots",.ref aSl),("dust",.ref fd),("picks",.ref fp),("touches",.ref aT),("at",.int 0),("opened",.int 0),("many",.int 0),("group",.int 1),("base",.int 0),("begun",.int 0),("width",.int 0),("faults",.ref aF),("cut",.non)]))=H at h ⊢
 replace h:Hd B ((aL,.lst (lens.map V.int))::(D,.lst ((zm lens).map V.int))::(aM,.lst (ms.map V.ref))::(bx,boxO c.bx dbx L aN)::(aD,.lst (dust.map V.int))::(aP,.lst (picks.map V.int))::(x,.ins c.bn dx [("lengths",.ref aL),("starts",.ref D),("cells",.ref aC),("lanes",.int L),("boxes",.ref bx),("masks",.ref aM),("slots",.ref aSl),("dust",.ref fd),("picks",.ref fp),("touches",.ref aT),("at",.int 0),("opened",.int 0),("many",.int 0),("group",.int 1),("base",.int 0),("begun",.int 0),("width",.int 0),("faults",.ref aF),("cut",.non),("carried",.non)])::(aC,.lst (cells.map V.int))::(aN,.lst ((List.replicate (8*L) (0:Int)).map V.int))::(aSl,.dK [])::(fd,zJ c.fe dfd aD 0)::(fp,zJ c.fe dfp aP 0)::(aT,.lst [])::(aF,.dK [])::MS) H:=h
 refine ⟨_,rfl,x,_,_,_,rfl,h.get 6 rfl,CN.c,CN.raised,(by show 20<1000;decide),?_⟩
 have h:=h.put (o':=.ins c.bn dx (zM "raised" (.bl false) [("lengths",.ref aL),("starts",.ref D),("cells",.ref aC),("lanes",.int L),("boxes",.ref bx),("masks",.ref aM),("slots",.ref aSl),("dust",.ref fd),("picks",.ref fp),("touches",.ref aT),("at",.int 0),("opened",.int 0),("many",.int 0),("group",.int 1),("base",.int 0),("begun",.int 0),("width",.int 0),("faults",.ref aF),("cut",.non),("carried",.non)])) 6 rfl
 generalize upd _ x (.ins c.bn dx (zM "raised" (.bl false) [("lengths",.ref aL),("starts",.ref D),("cells",.ref aC),("lanes",.int L),("boxes",.ref bx),("masks",.ref aM),("slots",.ref aSl),("dust",.ref fd),("picks",.ref fp),("touches",.ref aT),("at",.int 0),("opened",.int 0),("many",.int 0),("group",.int 1),("base",.int 0),("begun",.int 0),("width",.int 0),("faults",.ref aF),("cut",.non),("carried",.non)]))=H at h ⊢
 replace h:Hd B ((aL,.lst (lens.map V.int))::(D,.lst ((zm lens).map V.int))::(aM,.lst (ms.map V.ref))::(bx,boxO c.bx dbx L aN)::(aD,.lst (dust.map V.int))::(aP,.lst (picks.map V.int))::(x,.ins c.bn dx [("lengths",.ref aL),("starts",.ref D),("cells",.ref aC),("lanes",.int L),("boxes",.ref bx),("masks",.ref aM),("slots",.ref aSl),("dust",.ref fd),("picks",.ref fp),("touches",.ref aT),("at",.int 0),("opened",.int 0),("many",.int 0),("group",.int 1),("base",.int 0),("begun",.int 0),("width",.int 0),("faults",.ref aF),("cut",.non),("carried",.non),("raised",.bl false)])::(aC,.lst (cells.map V.int))::(aN,.lst ((List.replicate (8*L) (0:Int)).map V.int))::(aSl,.dK [])::(fd,zJ c.fe dfd aD 0)::(fp,zJ c.fe dfp aP 0)::(aT,.lst [])::(aF,.dK [])::MS) H:=h
 refine ⟨(by show 0<=sizeLine;exact Nat.zero_le _),fun aU nU=>?_⟩
 have h:=h.new (o:=.lst []) nU
 generalize upd H aU (.lst [])=H at h ⊢
 replace h:Hd B ((aL,.lst (lens.map V.int))::(D,.lst ((zm lens).map V.int))::(aM,.lst (ms.map V.ref))::(bx,boxO c.bx dbx L aN)::(aD,.lst (dust.map V.int))::(aP,.lst (picks.map V.int))::(x,.ins c.bn dx [("lengths",.ref aL),("starts",.ref D),("cells",.ref aC),("lanes",.int L),("boxes",.ref bx),("masks",.ref aM),("slots",.ref aSl),("dust",.ref fd),("picks",.ref fp),("touches",.ref aT),("at",.int 0),("opened",.int 0),("many",.int 0),("group",.int 1),("base",.int 0),("begun",.int 0),("width",.int 0),("faults",.ref aF),("cut",.non),("carried",.non),("raised",.bl false)])::(aC,.lst (cells.map V.int))::(aN,.lst ((List.replicate (8*L) (0:Int)).map V.int))::(aSl,.dK [])::(fd,zJ c.fe dfd aD 0)::(fp,zJ c.fe dfp aP 0)::(aT,.lst [])::(aF,.dK [])::(aU,.lst [])::MS) H:=h.mv 14
 refine ⟨_,rfl,x,_,_,_,rfl,h.get 6 rfl,CN.c,CN.turns,(by show 21<1000;decide),?_⟩
 have h:=h.put (o':=.ins c.bn dx (zM "turns" (.ref aU) [("lengths",.ref aL),("starts",.ref D),("cells",.ref aC),("lanes",.int L),("boxes",.ref bx),("masks",.ref aM),("slots",.ref aSl),("dust",.ref fd),("picks",.ref fp),("touches",.ref aT),("at",.int 0),("opened",.int 0),("many",.int 0),("group",.int 1),("base",.int 0),("begun",.int 0),("width",.int 0),("faults",.ref aF),("cut",.non),("carried",.non),("raised",.bl false)])) 6 rfl
 generalize upd _ x (.ins c.bn dx (zM "turns" (.ref aU) [("lengths",.ref aL),("starts",.ref D),("cells",.ref aC),("lanes",.int L),("boxes",.ref bx),("masks",.ref aM),("slots",.ref aSl),("dust",.ref fd),("picks",.ref fp),("touches",.ref aT),("at",.int 0),("opened",.int 0),("many",.int 0),("group",.int 1),("base",.int 0),("begun",.int 0),("width",.int 0),("faults",.ref aF),("cut",.non),("carried",.non),("raised",.bl false)]))=H at h ⊢
 replace h:Hd B ((aL,.lst (lens.map V.int))::(D,.lst ((zm lens).map V.int))::(aM,.lst (ms.map V.ref))::(bx,boxO c.bx dbx L aN)::(aD,.lst (dust.map V.int))::(aP,.lst (picks.map V.int))::(x,.ins c.bn dx [("lengths",.ref aL),("starts",.ref D),("cells",.ref aC),("lanes",.int L),("boxes",.ref bx),("masks",.ref aM),("slots",.ref aSl),("dust",.ref fd),("picks",.ref fp),("touches",.ref aT),("at",.int 0),("opened",.int 0),("many",.int 0),("group",.int 1),("base",.int 0),("begun",.int 0),("width",.int 0),("faults",.ref aF),("cut",.non),("carried",.non),("raised",.bl false),("turns",.ref aU)])::(aC,.lst (cells.map V.int))::(aN,.lst ((List.replicate (8*L) (0:Int)).map V.int))::(aSl,.dK [])::(fd,zJ c.fe dfd aD 0)::(fp,zJ c.fe dfp aP 0)::(aT,.lst [])::(aF,.dK [])::(aU,.lst [])::MS) H:=h
 refine ⟨_,rfl,x,_,_,_,rfl,h.get 6 rfl,CN.c,CN.refusal,(by show 22<1000;decide),?_⟩
 have h:=h.put (o':=.ins c.bn dx (zM "refusal" (.non) [("lengths",.ref aL),("starts",.ref D),("cells",.ref aC),("lanes",.int L),("boxes",.ref bx),("masks",.ref aM),("slots",.ref aSl),("dust",.ref fd),("picks",.ref fp),("touches",.ref aT),("at",.int 0),("opened",.int 0),("many",.int 0),("group",.int 1),("base",.int 0),("begun",.int 0),("width",.int 0),("faults",.ref aF),("cut",.non),("carried",.non),("raised",.bl false),("turns",.ref aU)])) 6 rfl
 generalize upd _ x (.ins c.bn dx (zM "refusal" (.non) [("lengths",.ref aL),("starts",.ref D),("cells",.ref aC),("lanes",.int L),("boxes",.ref bx),("masks",.ref aM),("slots",.ref aSl),("dust",.ref fd),("picks",.ref fp),("touches",.ref aT),("at",.int 0),("opened",.int 0),("many",.int 0),("group",.int 1),("base",.int 0),("begun",.int 0),("width",.int 0),("faults",.ref aF),("cut",.non),("carried",.non),("raised",.bl false),("turns",.ref aU)]))=H at h ⊢
 replace h:Hd B ((aL,.lst (lens.map V.int))::(D,.lst ((zm lens).map V.int))::(aM,.lst (ms.map V.ref))::(bx,boxO c.bx dbx L aN)::(aD,.lst (dust.map V.int))::(aP,.lst (picks.map V.int))::(x,.ins c.bn dx [("lengths",.ref aL),("starts",.ref D),("cells",.ref aC),("lanes",.int L),("boxes",.ref bx),("masks",.ref aM),("slots",.ref aSl),("dust",.ref fd),("picks",.ref fp),("touches",.ref aT),("at",.int 0),("opened",.int 0),("many",.int 0),("group",.int 1),("base",.int 0),("begun",.int 0),("width",.int 0),("faults",.ref aF),("cut",.non),("carried",.non),("raised",.bl false),("turns",.ref aU),("refusal",.non)])::(aC,.lst (cells.map V.int))::(aN,.lst ((List.replicate (8*L) (0:Int)).map V.int))::(aSl,.dK [])::(fd,zJ c.fe dfd aD 0)::(fp,zJ c.fe dfp aP 0)::(aT,.lst [])::(aF,.dK [])::(aU,.lst [])::MS) H:=h
 obtain ⟨B',sB,eB,h⟩:=Hd.settles (S:=[_,_,_,_,_,_]) h
 refine q B' ⟨x,dx,aL,D,aC,bx,dbx,aN,aM,aSl,fd,dfd,aD,fp,dfp,aP,aT,aF,aU,ms,[],[],.non⟩ H sB rfl ⟨⟨eB _ (.head _),eB _ (.tail _ (.head _)),eB _ (.tail _ (.tail _ (.tail _ (.head _)))),eB _ (.tail _ (.tail _ (.head _))),?_,eB _ (.tail _ (.tail _ (.tail _ (.tail _ (.head _))))),eB _ (.tail _ (.tail _ (.tail _ (.tail _ (.tail _ (.head _)))))),rfl,(fun i t p a=>nomatch a),rfl,(fun i t p a=>nomatch a),rfl⟩,?_⟩
 ·show ms.length=(List.replicate 16 _).length
  rw [lm,List.length_replicate]
 ·unfold objs
  have e0:∀ ns:List Int,fAt ns 0=0:=fun ns=>by unfold fAt;rw [Nat.zero_mod];split <;> rfl
  have em:mskO ⟨x,dx,aL,D,aC,bx,dbx,aN,aM,aSl,fd,dfd,aD,fp,dfp,aP,aT,aF,aU,ms,[],[],.non⟩ (Mc.fresh lens cells L dust picks)=MS:=by
   rw [← hMS]
   show (ms.zip (List.replicate 16 _)).map _=_
   rw [← lm]
   exact msk_fresh ms _
  rw [em,List.append_nil]
  show Hd B' (_::_::_::_::(fd,zJ c.fe dfd aD (fAt dust 0))::(fp,zJ c.fe dfp aP (fAt picks 0))::_::_::_::MS) H
  rw [e0,e0]
  exact h
end
end K40
namespace K40
open PySem L2
inductive Run (L:Lex) (code:List (List V)):Nat->Mc->Mc->Prop
 | done {M}:(code.length:Int)<=M.pc∨M.refusal.isSome=true->Run L code 0 M M
 | step {n M M1 Mf tv}:0<=M.pc->M.refusal=none->code[M.pc.toNat]?=some tv->Step L tv M M1->Run L code n M1 Mf->Run L code (n+1) M Mf
structure CodeAt (B:Hp) (cs:List Addr) (code:List (List V)):Prop where
 n:cs.length=code.length
 t:∀ (i:Nat) a tv,cs[i]?=some a->code[i]?=some tv->B a=some (.tup tv)
section
variable {P:Program} {w:World} {K:PySem.W.Frag} {mg:Str->Option Value} {base:Heap}
def spRan (c:MCs) (K:PySem.W.Frag) (Lx:Lex):Sp:=fun vs H Q _=>∃ (a l1 l2 l3 l4:Addr) (cs:List Addr) (code:List (List V)) (lens cells dust picks:List Int) (L n:Nat) (Mf:Mc),vs=[.ref a,.ref l1,.ref l2,.int L,.ref l3,.ref l4]/\SqL K H a (cs.map V.ref)/\CodeAt H cs code/\SqL K H l1 (lens.map V.int)/\SqL K H l2 (cells.map V.int)/\SqL K H l3 (dust.map V.int)/\SqL K H l4 (picks.map V.int)/\1<=L/\L<=64/\lens.length<=1000/\code.length<=1000/\Run Lx code n (Mc.fresh lens cells L dust picks) Mf /\
 ∀ B' A' H' t,Same H B'->MAt c B' A' Mf [] H'->B' t=some (.tup [.ref A'.aC,A'.rf,.ref A'.aT])->Q (.ref t) H'
theorem ok_ran {c:MCs} {Lx:Lex} (d:zn K mg "ran" s_ran ["code","lengths","cells","lanes","dust","picks"]) (CC:MCls K c) (hlen:mg "len"=none) (hCn:mg "Bench"=some (.ref c.bn)) (IN:OkI P w K mg base CX0 3 c.bn ["self","lengths","cells","lanes","dust","picks"] (spInitN c K)) (PB:Ok P w K mg base CX0 9 "place_behind" ["bench","step"] (spPB c Lx)) :
  Ok P w K mg base CX0 10 "ran" ["code","lengths","cells","lanes","dust","picks"] (spRan c K Lx):=by
 obtain ⟨g,fd,m,F,b⟩:=d
 refine ⟨g,fd,m,F.kp,b,F.ok sc_ran (by rintro vs H Q E ⟨_,_,_,_,_,_,_,_,_,_,_,_,_,_,rfl,_⟩;rfl) fun cdv A outer s H vs Q E hr h=>?_⟩
 obtain ⟨a,l1,l2,l3,l4,cs,code,lens,cells,dust,picks,L,n,Mf,rfl,qa,CA,q1,q2,q3,q4,L1,L64,hl,hcl,run,q⟩:=h
 have nd:=sc_ran.nd
 have hr6:=hr
 have hr4:=hr.mono (show 4<=9 by decide)
 have CN:=CC.n
 refine ⟨_,(zc (zu (i:=6) nd rfl (Or.inl rfl) (pe_okI IN hCn hr4 (by rfl) zr (za (pv 1) (za (pv 2) (za (pv 3) (za (pv 4) (za (pv 5) zb)))))))
   (zc (ps_while PassesOwn.never (pw_and (zH op_lt (zC (pv 6) rfl) (zv zG (by rfl) hlen PySem.boot_len (za (pv 0) zb)) (zL _)) (pw_and1 (zH op_isN (zC (pv 6) rfl) pe_non (zL _)))).pt (zf (zN (pv 6) (zD PB hr6 (by rfl) zr (za (pv 6) (za (zy zR (pv 0) (zC (pv 6) rfl) (fun _ _=>rfl)) zb))) rfl)))
   (zf (zq (xi (za (zC (pv 6) rfl) (za (zC (pv 6) rfl) (za (zC (pv 6) rfl) zb)))))))),?_⟩
 dsimp only [yt,Cx.nox,Cx.wish]
 refine ⟨_,rfl,_,rfl,_,rfl,_,rfl,_,rfl,fun x dx nx ndx ne=>?_⟩
 have s0:Same H (upd H dx (.own x)):=zh (Same.refl _) ndx
 have h0:Hd (upd H dx (.own x)) [(x,.ins c.bn dx [])] (upd (upd H dx (.own x)) x (.ins c.bn dx [])):=Hd.base.new (by rw [zo (Ne.symm ne)];exact nx)
 refine ⟨upd H dx (.own x),x,dx,l1,l2,l3,l4,lens,cells,dust,picks,L,rfl,h0,zt q1 s0,zt q2 s0,zt q3 s0,zt q4 s0,L1,L64,hl,fun B1 A1 H1 s1 eb m1=>⟨rfl,?_⟩⟩
 have sH:Same H B1:=s0.trans s1
 have SQ:∀ {B2:Hp} {A2:Ma} {M:Mc} {H2:Hp},Same H B2->MAt c B2 A2 M [] H2->SqL K H2 a (cs.map V.ref):=fun s2 m2=>zt (zt qa s2) m2.h.sm
 refine ⟨fun k σ J=>∃ B2 A2 M,σ=[some (.ref a),some (.ref l1),some (.ref l2),some (.int L),some (.ref l3),some (.ref l4),some (.ref x)]/\Same H B2/\A2.b=x/\MAt c B2 A2 M [] J/\Run Lx code k M Mf,⟨n,B1,A1,_,rfl,sH,eb,m1,run⟩,?_⟩
 rintro k σ J ⟨B2,A2,M,rfl,s2,eb2,m2,run⟩
 have lcs:(cs.map V.ref).length=code.length:=by rw [List.length_map];exact CA.n
 have rfn:M.refusal=none->A2.rf=.non:=fun z=>by have:=m2.bb.rf;rw [z] at this;exact this
 have rfs:M.refusal.isSome=true->∃ t,A2.rf=.ref t:=fun z=>by
  have:=m2.bb.rf
  cases e:M.refusal with
  | none=>rw [e] at z;cases z
  | some r=>rw [e] at this;obtain ⟨t,y,_⟩:=this;exact ⟨t,y⟩
 refine ⟨_,rfl,A2.b,_,_,_,.int M.pc,by rw [eb2],m2.b,CN.c,CN.pc,rfl,_,rfl,a,_,rfl,.inl (SQ s2 m2),_,_,rfl,rfl,_,rfl,?_⟩
 rw [lcs]
 have fin:Run Lx code 0 M Mf->Mf=M:=fun z=>by cases z;rfl
 cases run with
 | done hd =>
  have ret:∀ J',J'=J->tRet (tTup (tCons (tFld K (tVar 6) "cells") (tCons (tFld K (tVar 6) "refusal") (tCons (tFld K (tVar 6) "touches") tNil)))) ⟨fun _ H'=>Q V.non H',Q,fun _ _=>False,fun _ _=>False⟩ [some (.ref a),some (.ref l1),some (.ref l2),some (.int L),some (.ref l3),some (.ref l4),some (.ref x)] J':=by
   rintro J' rfl
   refine ⟨_,rfl,A2.b,_,_,_,.ref A2.aC,by rw [eb2],m2.b,CN.c,CN.cells,rfl,_,rfl,A2.b,_,_,_,A2.rf,by rw [eb2],m2.b,CN.c,CN.refusal,rfl,_,rfl,A2.b,_,_,_,.ref A2.aT,by rw [eb2],m2.b,CN.c,CN.touches,rfl,(by show 3<=sizeLine;decide),fun t nt=>?_⟩
   exact q _ A2 _ t (s2.trans (zh (Same.refl _) (m2.h.free nt))) (m2.grow nt) zg
  by_cases z:Mf.pc<(code.length:Int)
  ·rcases hd with y | y
   ·omega
   obtain ⟨t,et⟩:=rfs y
   rw [decide_eq_true z]
   refine iteT ⟨_,rfl,A2.b,_,_,_,A2.rf,by rw [eb2],m2.b,CN.c,CN.refusal,rfl,rfl,_,rfl,?_⟩
   rw [et]
   exact yx (ret _ rfl)
  ·rw [decide_eq_false z]
   exact yx (yx (ret _ rfl))
 | step p0 hn ec st run =>
  rename_i k M1 tv
  have hlt:M.pc.toNat<code.length:=(List.getElem?_eq_some_iff.mp ec).1
  have z:M.pc<(code.length:Int):=by omega
  rw [decide_eq_true z]
  refine iteT ⟨_,rfl,A2.b,_,_,_,A2.rf,by rw [eb2],m2.b,CN.c,CN.refusal,rfl,rfl,_,rfl,?_⟩
  rw [rfn hn]
  refine iteT ⟨fun σ' J'=>∃ B2 A2,σ'=[some (.ref a),some (.ref l1),some (.ref l2),some (.int L),some (.ref l3),some (.ref l4),some (.ref x)]/\Same H B2/\A2.b=x/\MAt c B2 A2 M1 [] J',fun σ' J' ⟨B3,A3,e3,s3,eb3,m3⟩=>⟨k,by omega,B3,A3,M1,e3,s3,eb3,m3,run⟩,?_⟩
  obtain ⟨st',es'⟩:∃ y,cs[M.pc.toNat]?=some y:=⟨cs[M.pc.toNat]'(by rw [CA.n];exact hlt),List.getElem?_eq_getElem _⟩
  have eT:=CA.t _ _ _ es' ec
  refine ⟨_,rfl,_,rfl,_,rfl,A2.b,_,_,_,.int M.pc,by rw [eb2],m2.b,CN.c,CN.pc,rfl,a,_,_,.ref st',rfl,rfl,SQ s2 m2,?_,B2,A2,M,[],st',tv,M1,by rw [eb2];rfl,m2,s2 _ _ eT,st,fun B3 A3 J3 M2 s3 eb3 m3 em=>?_⟩
  ·rw [show M.pc=((M.pc.toNat:Nat):Int) by omega]
   exact zK (by rw [List.getElem?_map,es'];rfl)
  refine ⟨_,rfl,A3.b,_,_,_,by rw [eb3,eb2],m3.b,CN.c,CN.pc,(by show 23<1000;decide),?_⟩
  have m4:=m3.s_pc M1.pc
  rw [← em] at m4
  exact ⟨B3,A3,rfl,s2.trans s3,eb3.trans eb2,m4⟩
end
end K40
namespace L2
open PySem PySem.Spec PyProof.Rows
open Sem (wp)
section
variable {prog:Program} {w:World} {A:Around} {E:Value->Shared->Prop} {s:Shared}
theorem nxt_tup {j t:Addr} {k:Nat} {us:Array Value} {v:Value} {Q:Value->Shared->Prop} (hj:s.heap.IsTupleIter j t k) (ht:s.heap.IsTuple t us) (hv:us[k]?=some v)
    (q:∀ g,g.IsTupleIter j t (k+1)->Heap.SameBut j s.heap g->Q v { s with heap:=g }):wpAny (model prog w) A (Builtin.SmallTypes.nextOf (.ref j)) Q E s:=by
  have ty:=hj.typeIs
  obtain ⟨o,eo,ec,ed⟩:=hj
  obtain ⟨o2,eo2,_,m,ed2⟩:=ht
  unfold Builtin.SmallTypes.nextOf
  refine wpAny_bind (wpAny_callSpecial?_slot (name:=Str.ofString "__next__") ty F.slot_tuple_iterator_next (wpAny_call_entry F.slot_tuple_iterator_next ty F.entry_tuple_iterator_next ?_ (F.args_tuple_iterator_next_1 _)))
  refine wpAny_bind (m:=field (.ref j) 0) (wpAny_field eo ed (x:=.ref t) rfl ?_);show wpAny _ _ (if (Value.ref t == Value.none)=true then _ else _) _ _ s
  rw [if_neg (show ¬ ((Value.ref t == Value.none)=true) from nofun)];refine wpAny_bind (m:=field (.ref j) 1) (wpAny_field eo ed (x:=.int k 0) rfl ?_)
  refine wpAny_bind (m:=seqItems? (.ref t)) (wpAny_seqItems eo2 ed2 ?_);simp only [Int.toNat_natCast,hv]
  refine wpAny_bind (wpAny_setField eo ed (by simp) (wpAny_pure ⟨v,rfl,wpAny_pure (q _ ?_ (Heap.SameBut.update ..))⟩))
  exact ⟨_,Heap.get?_update_self _ eo (Obj.isFreed_of_fields (Obj.data_mapFields ed _)),(Obj.cls_mapFields ..).trans ec,by rw [Obj.data_mapFields ed];simp [rawInt]⟩
theorem nxt_tup_end {j t:Addr} {k:Nat} {us:Array Value} {Q:Value->Shared->Prop} (hh:A.handled=none) (hj:s.heap.IsTupleIter j t k) (ht:s.heap.IsTuple t us) (hv:us[k]?=none)
    (q:∀ g e,Heap.ExtBut j s.heap g->(∃ o,g.get? e=some o/\o.cls=.type "StopIteration")->E (.ref e) { s with heap:=g }):wpAny (model prog w) A (Builtin.SmallTypes.nextOf (.ref j)) Q E s:=by
  have ty:=hj.typeIs
  obtain ⟨o,eo,ec,ed⟩:=hj
  obtain ⟨o2,eo2,_,m,ed2⟩:=ht
  unfold Builtin.SmallTypes.nextOf
  refine wpAny_bind (wpAny_callSpecial?_slot (name:=Str.ofString "__next__") ty F.slot_tuple_iterator_next (wpAny_call_entry F.slot_tuple_iterator_next ty F.entry_tuple_iterator_next ?_ (F.args_tuple_iterator_next_1 _)))
  refine wpAny_bind (m:=field (.ref j) 0) (wpAny_field eo ed (x:=.ref t) rfl ?_);show wpAny _ _ (if (Value.ref t == Value.none)=true then _ else _) _ _ s
  rw [if_neg (show ¬ ((Value.ref t == Value.none)=true) from nofun)];refine wpAny_bind (m:=field (.ref j) 1) (wpAny_field eo ed (x:=.int k 0) rfl ?_)
  refine wpAny_bind (m:=seqItems? (.ref t)) (wpAny_seqItems eo2 ed2 ?_);simp only [Int.toNat_natCast,hv]
  refine wpAny_bind (wpAny_rule (wpAny_bind (wpAny_setField eo ed (by simp) (wpAny_bind (m:=newExc (.type "StopIteration") []) ?_))))
  simp only [newExc,newTuple]
  refine wpAny_bind (wpAny_newObj_type (wpAny_bind (m:=firstArgMember _ _) (wpAny_of_eq (a:=Value.none) (by first | rfl | (simp only [firstArgMember];rfl)) (wpAny_newObj_type ?_ (by size_fits)))) (by size_fits))
  simp only [raiseNew];refine wpAny_bind (wpAny_handled ?_)
  first | rw [show A.in1.handled=none from hh] | rw [hh]
  refine wpAny_bind (wpAny_pure (wpAny_throw ?_))
  exact q _ _ (((Heap.SameBut.update ..).extBut.push _).push _) ⟨_,Heap.get?_push_size _ rfl,rfl⟩
theorem zt_item {z TI TO j1 j2 t1 t2:Addr} {k1 k2:Nat} {us vs:Array Value} {u v a b:Value} {Q:Value->Shared->Prop} (D:ZipApart z TI TO j1 j2 t1 t2) (hz:IsZip s.heap z TI TO .none) (hI:IsPair s.heap TI (.ref j1) (.ref j2)) (hO:IsPair s.heap TO a b)
    (i1:s.heap.IsTupleIter j1 t1 k1) (i2:s.heap.IsTupleIter j2 t2 k2) (e1:s.heap.IsTuple t1 us) (e2:s.heap.IsTuple t2 vs) (hu:us[k1]?=some u) (hv:vs[k2]?=some v)
    (q:∀ g,IsZip g z TI TO (rawInt s.heap.objs.size)->IsPair g TO u v->g.IsTupleIter j1 t1 (k1+1)->g.IsTupleIter j2 t2 (k2+1)->IsPair g s.heap.objs.size u v->g.objs.size=s.heap.objs.size+1->(∀ c o,c≠z->c≠TO->c≠j1->c≠j2->s.heap.get? c=some o->g.get? c=some o)->Q (.ref s.heap.objs.size) { s with heap:=g }) :
    wpAny (model prog w) A (Builtin.«zip.__next__» ⟨[.ref z],[]⟩) (fun fin s'=>∃ v,fin=.done (.ret v)/\Q v s') E s:=by
  refine wpAny_bind (m:=field (.ref z) 2) (wpAny_field hz rfl (x:=.bool false) rfl ?_)
  refine wpAny_bind (m:=field (.ref z) 3) (wpAny_field hz rfl (x:=.ref TI) rfl (wpAny_bind (wpAny_seqItems hI rfl ?_)))
  refine wpAny_bind (m:=Builtin.SmallTypes.ownedTupleIsFree (.ref z)) ?_
  unfold Builtin.SmallTypes.ownedTupleIsFree;refine wpAny_bind (wpAny_field hz rfl (x:=.none) rfl (wpAny_pure ?_))
  simp only [if_true];refine wpAny_bind (wpAny_rule (wpAny_bind (wpAny_field hz rfl (x:=.ref TO) rfl ?_)))
  refine wpAny_bind (wpAny_setField_rec hz (by simp) fun g1 z1 c1=>wpAny_bind ?_)
  replace z1:IsZip g1 z TI TO .ellipsis:=z1
  simp only [List.zipIdx_cons,List.zipIdx_nil,List.forIn_cons,List.forIn_nil];refine wpAny_bind (wpAny_bind (wpAny_onRaise ?_))
  refine wpAny_bind (m:=Builtin.SmallTypes.nextOf (.ref j1)) (nxt_tup (i1.extBut c1.extBut D.i1z) (e1.extBut c1.extBut D.l1z) hu fun g2 n1 c2=>wpAny_pure ?_)
  have o2:IsPair g2 TO a b:=c2.extBut _ _ D.TOi1 (c1.extBut _ _ D.TOz hO)
  refine wpAny_bind (wpAny_seqItems o2 rfl (wpAny_bind (wpAny_updateSeq_pair o2 fun g3 o3 c3=>?_)));replace o3:IsPair g3 TO u b:=o3
  refine wpAny_bind (wpAny_letGo (wpAny_pure (wpAny_bind (wpAny_bind (wpAny_onRaise ?_)))))
  refine wpAny_bind (m:=Builtin.SmallTypes.nextOf (.ref j2)) (nxt_tup (((i2.extBut c1.extBut D.i2z).extBut c2.extBut D.i12.symm).extBut c3.extBut D.TOi2.symm) (((e2.extBut c1.extBut D.l2z).extBut c2.extBut D.l2i1).extBut c3.extBut D.l2TO) hv fun g4 n2 c4=>wpAny_pure ?_)
  have o4:IsPair g4 TO u b:=c4.extBut _ _ D.TOi2 o3
  refine wpAny_bind (wpAny_seqItems o4 rfl (wpAny_bind (wpAny_updateSeq_pair o4 fun g5 o5 c5=>?_)));replace o5:IsPair g5 TO u v:=o5
  refine wpAny_bind (wpAny_letGo (wpAny_pure (wpAny_pure (wpAny_bind (wpAny_seqItems o5 rfl (wpAny_bind (wpAny_newTuple ?_)))))))
  have sz:g5.objs.size=s.heap.objs.size:=by rw [c5.1,c4.1,c3.1,c2.1,c1.1]
  have z5:IsZip g5 z TI TO .ellipsis:=c5.extBut _ _ D.TOz.symm (c4.extBut _ _ D.i2z.symm (c3.extBut _ _ D.TOz.symm (c2.extBut _ _ D.i1z.symm z1)))
  have k5:∀ c o,c≠z->c≠TO->c≠j1->c≠j2->s.heap.get? c=some o->g5.get? c=some o:=fun c o d1 d2 d3 d4 e=>c5.extBut _ _ d2 (c4.extBut _ _ d4 (c3.extBut _ _ d2 (c2.extBut _ _ d3 (c1.extBut _ _ d1 e))))
  have m1:g5.IsTupleIter j1 t1 (k1+1):=((n1.extBut c3.extBut D.TOi1.symm).extBut c4.extBut D.i12).extBut c5.extBut D.TOi1.symm
  have m2:g5.IsTupleIter j2 t2 (k2+1):=n2.extBut c5.extBut D.TOi2.symm
  have zl:z<g5.objs.size:=Heap.lt_size z5
  refine wpAny_bind (m:=Builtin.SmallTypes.ownedTupleHandOut (.ref z) (.ref g5.objs.size)) ?_
  unfold Builtin.SmallTypes.ownedTupleHandOut
  have z6:IsZip (g5.push { cls:=.type "tuple",data:=.seq #[u,v] }) z TI TO .ellipsis:=Heap.get?_push_of_some _ z5
  refine wpAny_bind (wpAny_setField_rec z6 (by simp) fun g7 z7 c7=>?_);replace z7:IsZip g7 z TI TO (rawInt g5.objs.size):=z7
  refine wpAny_setField_rec z7 (by simp) fun g8 z8 c8=>?_;replace z8:IsZip g8 z TI TO (rawInt g5.objs.size):=z8
  have up:∀ c o,c≠z->g5.get? c=some o->g8.get? c=some o:=fun c o d e=>c8.extBut _ _ d (c7.extBut _ _ d (Heap.get?_push_of_some _ e))
  have T8:IsPair g8 g5.objs.size u v:=c8.extBut _ _ (Nat.ne_of_gt zl) (c7.extBut _ _ (Nat.ne_of_gt zl) (Heap.get?_push_size _ rfl))
  have s8:g8.objs.size=g5.objs.size+1:=by rw [c8.1,c7.1,Heap.size_push]
  rw [sz] at z8 T8 s8;refine wpAny_pure ⟨_,rfl,?_⟩;show Q (.ref g5.objs.size) _;rw [sz]
  exact q g8 z8 (up _ _ D.TOz o5) (m1.at fun o e=>up _ o D.i1z e) (m2.at fun o e=>up _ o D.i2z e) T8 s8 fun c o d1 d2 d3 d4 e=>up c o d1 (k5 c o d1 d2 d3 d4 e)
theorem zt_end {z TI TO j1 j2 t1 t2:Addr} {k1 k2:Nat} {us vs:Array Value} {a b:Value} {Q:Fin->Shared->Prop} (hh:A.handled=none) (D:ZipApart z TI TO j1 j2 t1 t2) (hz:IsZip s.heap z TI TO .none) (hI:IsPair s.heap TI (.ref j1) (.ref j2)) (hO:IsPair s.heap TO a b)
    (i1:s.heap.IsTupleIter j1 t1 k1) (i2:s.heap.IsTupleIter j2 t2 k2) (e1:s.heap.IsTuple t1 us) (e2:s.heap.IsTuple t2 vs) (he:us[k1]?=none)
    (q:∀ g e,(∀ c o,c≠z->c≠TO->c≠j1->c≠j2->s.heap.get? c=some o->g.get? c=some o)->(∃ o,g.get? e=some o/\o.cls=.type "StopIteration")->E (.ref e) { s with heap:=g }) :
    wpAny (model prog w) A (Builtin.«zip.__next__» ⟨[.ref z],[]⟩) Q E s:=by
  refine wpAny_bind (m:=field (.ref z) 2) (wpAny_field hz rfl (x:=.bool false) rfl ?_)
  refine wpAny_bind (m:=field (.ref z) 3) (wpAny_field hz rfl (x:=.ref TI) rfl (wpAny_bind (wpAny_seqItems hI rfl ?_)))
  refine wpAny_bind (m:=Builtin.SmallTypes.ownedTupleIsFree (.ref z)) ?_
  unfold Builtin.SmallTypes.ownedTupleIsFree;refine wpAny_bind (wpAny_field hz rfl (x:=.none) rfl (wpAny_pure ?_))
  simp only [if_true];refine wpAny_bind (wpAny_rule (wpAny_bind (wpAny_field hz rfl (x:=.ref TO) rfl ?_)))
  refine wpAny_bind (wpAny_setField_rec hz (by simp) fun g1 z1 c1=>wpAny_bind ?_)
  replace z1:IsZip g1 z TI TO .ellipsis:=z1
  simp only [List.zipIdx_cons,List.zipIdx_nil,List.forIn_cons,List.forIn_nil];refine wpAny_bind (wpAny_bind (wpAny_onRaise ?_))
  refine wpAny_bind (m:=Builtin.SmallTypes.nextOf (.ref j1)) (nxt_tup_end hh (i1.extBut c1.extBut D.i1z) (e1.extBut c1.extBut D.l1z) he fun g2 e c2 ⟨oe,ho,hc⟩=>?_)
  have z2:IsZip g2 z TI TO .ellipsis:=c2 _ _ D.i1z.symm z1
  have ne:e≠z:=fun x=>by subst x;rw [z2] at ho;cases ho;simp at hc
  exact wpAny_setField_rec z2 (by simp) fun g3 _ c3=>q g3 e (fun c o d1 _ d3 _ x=>c3.extBut _ _ d1 (c2 _ _ d3 (c1.extBut _ _ d1 x))) ⟨oe,c3.extBut _ _ ne ho,hc⟩
theorem next_zt {z TI TO j1 j2 t1 t2:Addr} {k1 k2:Nat} {us vs:Array Value} {u v a b:Value} {Q:Option Value->Shared->Prop} (D:ZipApart z TI TO j1 j2 t1 t2) (hz:IsZip s.heap z TI TO .none) (hI:IsPair s.heap TI (.ref j1) (.ref j2)) (hO:IsPair s.heap TO a b)
    (i1:s.heap.IsTupleIter j1 t1 k1) (i2:s.heap.IsTupleIter j2 t2 k2) (e1:s.heap.IsTuple t1 us) (e2:s.heap.IsTuple t2 vs) (hu:us[k1]?=some u) (hv:vs[k2]?=some v)
    (q:∀ g,IsZip g z TI TO (rawInt s.heap.objs.size)->IsPair g TO u v->g.IsTupleIter j1 t1 (k1+1)->g.IsTupleIter j2 t2 (k2+1)->IsPair g s.heap.objs.size u v->g.objs.size=s.heap.objs.size+1->(∀ c o,c≠z->c≠TO->c≠j1->c≠j2->s.heap.get? c=some o->g.get? c=some o)->Q (some (.ref s.heap.objs.size)) { s with heap:=g }) :
    wpAny (model prog w) A (pyNext (.ref z)) Q E s:=by
  have ty:s.TypeIs (.ref z) "zip":=⟨_,hz,rfl⟩
  unfold pyNext
  exact wpAny_bind (wpAny_attempt (wpAny_callSpecial?_slot (name:=Str.ofString "__next__") ty F.slot_zip_next (wpAny_call_entry F.slot_zip_next ty F.entry_zip_next (zt_item D hz hI hO i1 i2 e1 e2 hu hv fun g a1 a2 a3 a4 a5 a6 a7=>wpAny_pure (q g a1 a2 a3 a4 a5 a6 a7)) (F.args_zip_next_1 _))))
theorem next_zt_end {z TI TO j1 j2 t1 t2:Addr} {k1 k2:Nat} {us vs:Array Value} {a b:Value} {Q:Option Value->Shared->Prop} (hh:A.handled=none) (D:ZipApart z TI TO j1 j2 t1 t2) (hz:IsZip s.heap z TI TO .none) (hI:IsPair s.heap TI (.ref j1) (.ref j2)) (hO:IsPair s.heap TO a b)
    (i1:s.heap.IsTupleIter j1 t1 k1) (i2:s.heap.IsTupleIter j2 t2 k2) (e1:s.heap.IsTuple t1 us) (e2:s.heap.IsTuple t2 vs) (he:us[k1]?=none)
    (q:∀ g,(∀ c o,c≠z->c≠TO->c≠j1->c≠j2->s.heap.get? c=some o->g.get? c=some o)->Q none { s with heap:=g }):wpAny (model prog w) A (pyNext (.ref z)) Q E s:=by
  have ty:s.TypeIs (.ref z) "zip":=⟨_,hz,rfl⟩
  unfold pyNext
  refine wpAny_bind (wpAny_attempt (wpAny_callSpecial?_slot (name:=Str.ofString "__next__") ty F.slot_zip_next (wpAny_call_entry F.slot_zip_next ty F.entry_zip_next (zt_end hh D hz hI hO i1 i2 e1 e2 he fun g e hk ⟨o,ho,hc⟩=>?_) (F.args_zip_next_1 _))))
  exact wpAny_bind (wpAny_isInstance (T:="StopIteration") (b:=true) ⟨o,ho,hc⟩ isSubtype_stop (wpAny_pure (q _ hk)))
abbrev zt1 (h:Heap) (t1:Addr):Heap:=h.push { cls:=.type "tuple_iterator",data:=.fields #[.ref t1,.int 0 0] }
abbrev zt2 (h:Heap) (t1 t2:Addr):Heap:=(zt1 h t1).push { cls:=.type "tuple_iterator",data:=.fields #[.ref t2,.int 0 0] }
abbrev zt3 (h:Heap) (t1 t2:Addr):Heap:=(zt2 h t1 t2).push { cls:=.type "tuple",data:=.seq #[.ref h.objs.size,.ref (zt1 h t1).objs.size] }
abbrev zt4 (h:Heap) (t1 t2:Addr):Heap:=(zt3 h t1 t2).push { cls:=.type "tuple",data:=.seq #[.none,.none] }
abbrev zt5 (h:Heap) (t1 t2:Addr):Heap:=(zt4 h t1 t2).push { cls:=.type "zip",data:=.fields #[.none,.bool false,.bool false,.ref (zt2 h t1 t2).objs.size,.ref (zt3 h t1 t2).objs.size] }
theorem meets_zt (t1 t2:Addr) (us vs:Array Value):Meets (Builtin.«zip.__new__» ⟨[.type "zip",.ref t1,.ref t2],[]⟩) (fun _ R s=>s.heap.IsTuple t1 us/\s.heap.IsTuple t2 vs/\R (.ok (.ret (.ref (zt4 s.heap t1 t2).objs.size))) { s with heap:=zt5 s.heap t1 t2 }) :=
  .of_wp fun prog w A R s h=>by
    obtain ⟨hp,g,d,tk,os⟩:=s;obtain ⟨x1,x2,h⟩:=h;have hsub:=sub_zip
    have y1:Heap.IsTuple (Shared.heap ⟨hp,g,d,tk,os⟩) t1 us:=x1
    have y2:Heap.IsTuple (Shared.heap ⟨hp.push { cls:=.type "tuple_iterator",data:=.fields #[.ref t1,.int 0 0] },g,d,tk,os⟩) t2 vs:=Heap.IsTuple.push x2 _
    wp_walk using wpAny_pyIter_tuple y1,wpAny_pyIter_tuple y2
    exact ⟨_,rfl,h⟩
theorem call_zt {t1 t2:Addr} {us vs:Array Value} {Q:Value->Shared->Prop} (x1:s.heap.IsTuple t1 us) (x2:s.heap.IsTuple t2 vs)
    (q:∀ g,IsZip g (s.heap.objs.size+4) (s.heap.objs.size+2) (s.heap.objs.size+3) .none->IsPair g (s.heap.objs.size+2) (.ref s.heap.objs.size) (.ref (s.heap.objs.size+1))->IsPair g (s.heap.objs.size+3) .none .none->g.IsTupleIter s.heap.objs.size t1 0->g.IsTupleIter (s.heap.objs.size+1) t2 0->(∀ c o,s.heap.get? c=some o->g.get? c=some o)->Q (.ref (s.heap.objs.size+4)) { s with heap:=g }) :
    wpAny (model prog w) A (call (.type "zip") [.ref t1,.ref t2]) Q E s:=by
  refine callType_new F.called_zip (by decide) (F.typeCall_zip_2 _ _) (F.newCall_zip_2 _ _) (fun obj=>F.args_object_init_3 obj _ _) F.entry_zip_new (meets_zt t1 t2 us vs) ⟨x1,x2,?_⟩
  have z1:(zt1 s.heap t1).objs.size=s.heap.objs.size+1:=Heap.size_push ..
  have z2:(zt2 s.heap t1 t2).objs.size=s.heap.objs.size+2:=by rw [Heap.size_push,z1]
  have z3:(zt3 s.heap t1 t2).objs.size=s.heap.objs.size+3:=by rw [Heap.size_push,z2]
  have z4:(zt4 s.heap t1 t2).objs.size=s.heap.objs.size+4:=by rw [Heap.size_push,z3]
  have up:∀ {h:Heap} {c:Addr} {o o':Obj},h.get? c=some o->(h.push o').get? c=some o:=fun e=>Heap.get?_push_of_some _ e
  have g5:(zt5 s.heap t1 t2).get? (zt4 s.heap t1 t2).objs.size=some _:=Heap.get?_push_size _ rfl
  have g4:(zt5 s.heap t1 t2).get? (zt3 s.heap t1 t2).objs.size=some _:=up (Heap.get?_push_size _ rfl)
  have g3:(zt5 s.heap t1 t2).get? (zt2 s.heap t1 t2).objs.size=some _:=up (up (Heap.get?_push_size _ rfl))
  have g2:(zt5 s.heap t1 t2).get? (zt1 s.heap t1).objs.size=some _:=up (up (up (Heap.get?_push_size _ rfl)))
  have g1:(zt5 s.heap t1 t2).get? s.heap.objs.size=some _:=up (up (up (up (Heap.get?_push_size _ rfl))))
  show _/\_;rw [z2,z3,z4] at g5;rw [z1,z2] at g3;rw [z3] at g4;rw [z1] at g2;rw [z4]
  exact ⟨⟨_,g5,rfl⟩,q _ g5 g3 g4 ⟨_,g1,rfl,rfl⟩ ⟨_,g2,rfl,rfl⟩ fun c o x=>up (up (up (up (up x))))⟩
end
def Itzt (K:PySem.W.Frag) (l1 l2:Addr):It :=
  ⟨fun i H=>∃ xs ys x y,SqT K H l1 xs/\SqT K H l2 ys/\xs[i]?=some x/\ys[i]?=some y,
   fun i H x H'=>∃ T u v,x=.ref T/\H T=none/\H'=upd H T (.tup [u,v])/\∀ xs ys,SqT K H l1 xs->SqT K H l2 ys->xs[i]?=some u/\ys[i]?=some v,
   fun i H=>∃ xs ys,SqT K H l1 xs/\SqT K H l2 ys/\xs.length<=i⟩
theorem turn_zt {P:Program} {w:World} {K:PySem.W.Frag} {es:List Expr} {kt:Nat} {pos:Pos} {z TI TO i1 i2 l1 l2:Addr} (D:ZipApart z TI TO i1 i2 l1 l2) :
    Turn P w K (.Tuple es kt pos) (Itzt K l1 l2) [z,TI,TO,i1,i2] z (fun i h=>IsZip h z TI TO .none/\IsPair h TI (.ref i1) (.ref i2)/\(∃ a b,IsPair h TO a b)/\h.IsTupleIter i1 l1 i/\h.IsTupleIter i2 l2 i) where
  mem:=by simp
  obj:=fun i h st b hb=>by
    obtain ⟨hz,hI,⟨a,b',hO⟩,⟨o1,e1,c1,d1⟩,⟨o2,e2,c2,d2⟩⟩:=st
    simp at hb
    rcases hb with rfl | rfl | rfl | rfl | rfl
    · exact ⟨_,hz,fun v q=>by cases q⟩
    · exact ⟨_,hI,fun v q=>by cases q⟩
    · exact ⟨_,hO,fun v q=>by cases q⟩
    · exact ⟨_,e1,fun v q=>by rw [d1] at q;cases q⟩
    · exact ⟨_,e2,fun v q=>by rw [d2] at q;cases q⟩
  keep:=fun i h h' st k=>by
    obtain ⟨hz,hI,⟨a,b',hO⟩,h1,h2⟩:=st
    exact ⟨k z (by simp) _ hz,k TI (by simp) _ hI,⟨a,b',k TO (by simp) _ hO⟩,h1.at fun o e=>k i1 (by simp) o e,h2.at fun o e=>k i2 (by simp) o e⟩
  item:=by
    intro X hP hw hK hc i pins s σ H E I hf st hg
    subst hP hw hK
    obtain ⟨hz,hI,⟨a,b',hO⟩,h1,h2⟩:=st
    obtain ⟨xs,ys,x,y,q1,q2,ex,ey⟩:=hg
    obtain ⟨is1,r1,p1,_⟩:=I.tuple q1
    obtain ⟨is2,r2,p2,_⟩:=I.tuple q2
    obtain ⟨u,hu,ru⟩:=r1.get ex
    obtain ⟨v,hv,rv⟩:=r2.get ey
    refine next_zt D hz hI hO h1 h2 (show s.heap.IsTuple l1 is1.toArray from p1) (show s.heap.IsTuple l2 is2.toArray from p2) (u:=u) (v:=v) (by simpa using hu) (by simpa using hv) fun h1' a1 a2 a3 a4 a5 a6 hk=>?_
    refine ⟨_,rfl,wpAny_letOwnedTupleGo_zip (s:={ s with heap:=h1' }) a1 fun h2' z' sb=>?_⟩
    have lt:∀ {c:Addr} {o:Obj},s.heap.get? c=some o->c≠s.heap.objs.size:=fun e=>Nat.ne_of_lt (Heap.lt_size e)
    have Tz:s.heap.objs.size≠z:=(lt hz).symm
    have fr:=I.hok.fresh (Nat.le_refl _)
    refine ⟨.ref s.heap.objs.size,upd H s.heap.objs.size (.tup [x,y]),I.turnedT (its:=[z,TI,TO,i1,i2]) (t':=s.toks) (fun b o nb e=>?_) hf (Nat.le_refl _) ⟨by show 2<=sizeLine;decide,[u,v],.cons ru (.cons rv .nil),_,sb.extBut _ _ Tz a5,rfl,_,rfl⟩,rfl,⟨s.heap.objs.size,x,y,rfl,fr,rfl,fun xs' ys' q1' q2'=>?_⟩,?_,fun b hb=>?_⟩
    · have nb':b≠z/\b≠TI/\b≠TO/\b≠i1/\b≠i2:=by simpa using nb
      exact sb.extBut _ _ nb'.1 (hk b o nb'.1 nb'.2.2.1 nb'.2.2.2.1 nb'.2.2.2.2 e)
    · rw [I.tuple_inj q1' q1,I.tuple_inj q2' q2];exact ⟨ex,ey⟩
    · exact ⟨z',sb.extBut _ _ D.TIz (hk _ _ D.TIz D.TITO D.TIi1 D.TIi2 hI),⟨_,_,sb.extBut _ _ D.TOz a2⟩,a3.extBut sb.extBut D.i1z,a4.extBut sb.extBut D.i2z⟩
    · have e:=(hf b hb).1
      have:∃ o,s.heap.get? b=some o:=by
        simp at hb
        rcases hb with rfl | rfl | rfl | rfl | rfl
        · exact ⟨_,hz⟩
        · exact ⟨_,hI⟩
        · exact ⟨_,hO⟩
        · obtain ⟨o,e,_⟩:=h1;exact ⟨o,e⟩
        · obtain ⟨o,e,_⟩:=h2;exact ⟨o,e⟩
      obtain ⟨o,eo⟩:=this
      rw [zo (lt eo)];exact e
  done:=by
    intro X hP hw hK hc i pins s σ H E I hf st hg
    subst hP hw hK
    obtain ⟨hz,hI,⟨a,b',hO⟩,h1,h2⟩:=st
    obtain ⟨xs,ys,q1,q2,le⟩:=hg
    obtain ⟨is1,r1,p1,_⟩:=I.tuple q1
    obtain ⟨is2,r2,p2,_⟩:=I.tuple q2
    have g1:=r1.length
    have g2:=r2.length
    refine next_zt_end (I.ok.hd hc) D hz hI hO h1 h2 (show s.heap.IsTuple l1 is1.toArray from p1) (show s.heap.IsTuple l2 is2.toArray from p2) (by simp;omega) fun h1' hk=>⟨rfl,I.turnedL (its:=[z,TI,TO,i1,i2]) (t':=s.toks) (fun b o nb e=>?_) hf⟩
    have nb':b≠z/\b≠TI/\b≠TO/\b≠i1/\b≠i2:=by simpa using nb
    exact hk b o nb'.1 nb'.2.2.1 nb'.2.2.2.1 nb'.2.2.2.2 e
  self:=fun _ _ _ _ _ st h=>wpAny_pyIter_zip st.1 h
section
variable {X:Cx} {es:List Expr} {kt:Nat} {tp:Pos}
end
theorem for_zt {K:PySem.W.Frag} {l1 l2:Addr} {xs ys:List V} {g:TG} {tb:TS} {D:Ends} {σ:St} {H:Hp} (Pv:Nat->St->Hp->Prop) (h0:Pv 0 σ H) (hl:∀ i σ H,i<=xs.length->Pv i σ H->SqT K H l1 xs/\SqT K H l2 ys) (he:ys.length=xs.length)
    (hs:∀ i x y σ H T,xs[i]?=some x->ys[i]?=some y->Pv i σ H->H T=none->g (.ref T) σ (upd H T (.tup [x,y])) fun σ2 H2=>tb { D with nx:=Pv (i+1),ct:=Pv (i+1),bk:=D.nx } σ2 H2) (hd:∀ σ H,Pv xs.length σ H->D.nx σ H) :
    ∃ W:Nat->Nat->St->Hp->Prop,(∃ m,W 0 m σ H)/\∀ i m σ H,W i m σ H ->
      ((Itzt K l1 l2).stop i H/\D.nx σ H)∨((Itzt K l1 l2).go i H/\∃ N:St->Hp->Prop,(∀ σ' H',N σ' H'->∃ m',m'<m/\W (i+1) m' σ' H')/\∀ x H',(Itzt K l1 l2).yld i H x H'->g x σ H' fun σ2 H2=>tb { D with nx:=N,ct:=N,bk:=D.nx } σ2 H2):=by
  refine ⟨fun i m σ H=>m=xs.length-i/\i<=xs.length/\Pv i σ H,⟨xs.length,by simp,Nat.zero_le _,h0⟩,?_⟩
  rintro i m σ H ⟨rfl,hi,p⟩
  obtain ⟨q1,q2⟩:=hl i σ H hi p
  by_cases hlt:i<xs.length
  · refine .inr ⟨⟨xs,ys,xs[i],ys[i],q1,q2,by simp [hlt],by simp [he,hlt]⟩,Pv (i+1),fun σ' H' p'=>⟨xs.length-(i+1),by omega,rfl,hlt,p'⟩,fun x H' y=>?_⟩
    obtain ⟨T,u,v,e,nT,e',y⟩:=y
    subst e e'
    obtain ⟨y1,y2⟩:=y xs ys q1 q2
    exact hs i u v σ H T y1 y2 p nT
  · have e:i=xs.length:=by omega
    subst e
    exact .inl ⟨⟨xs,ys,q1,q2,Nat.le_refl _⟩,hd σ H p⟩
section
variable {X:Cx} {es:List Expr} {kt:Nat} {tp:Pos}
def iZb (K:PySem.W.Frag) (ta:TA):TI:=fun σ H R=>ta σ H fun vs H1=>∃ l1 l2,vs=[.ref l1,.ref l2]/\(((∃ xs,SqL K H1 l1 xs)/\(∃ ys,SqL K H1 l2 ys)/\R (Itz K l1 l2) H1)∨((∃ xs,SqT K H1 l1 xs)/\(∃ ys,SqT K H1 l2 ys)/\R (Itzt K l1 l2) H1))
theorem pi_zb {a b:Expr} {ta:TA} {p pos:Pos} (hg:Gl X "zip") (hm:X.mg "zip"=none) (ha:PA X [a,b] ta) (hs:starEach [a,b] X.env=[(false,eval a X.env),(false,eval b X.env)]:=by rfl)
    (hs2:starEach [b] X.env=[(false,eval b X.env)]:=by rfl):PI X (.Tuple es kt tp) (.Call (.Name "zip" p) [a,b] [] pos) (iZb X.K ta):=by
  intro pins s σ H R I h
  refine Call_ (ld_blt I hg hm boot_zip (PyProof.Rows.callWith_type1 (thn (ha pos pins s σ H _ I h) fun us s1 ⟨vs,H1,I1,r1,q1⟩=>?_) (by rw [hs,hs2]) (by rw [hs2];rfl)))
  obtain ⟨l1,l2,e,q1⟩:=q1
  subst e
  obtain ⟨u,v,rfl,ru,rv⟩:=vals2 r1
  cases (show u=Value.ref l1 from ru)
  cases (show v=Value.ref l2 from rv)
  have fp:∀ n,FpOk X pins H1 (s1.heap.objs.size+n):=fun n=>I1.fpOk (Nat.le_add_right _ _) (I1.hok.fresh (Nat.le_add_right _ _))
  have fps:∀ b∈[s1.heap.objs.size+4,s1.heap.objs.size+2,s1.heap.objs.size+3,s1.heap.objs.size,s1.heap.objs.size+1],FpOk X pins H1 b:=fun b hb=>by
    simp at hb
    rcases hb with rfl | rfl | rfl | rfl | rfl
    · exact fp 4
    · exact fp 2
    · exact fp 3
    · exact fp 0
    · exact fp 1
  rcases q1 with ⟨⟨xs,x1⟩,⟨ys,x2⟩,q⟩ | ⟨⟨xs,x1⟩,⟨ys,x2⟩,q⟩
  · obtain ⟨is1,g1,p1,_⟩:=I1.list x1
    obtain ⟨is2,g2,p2,_⟩:=I1.list x2
    have L1:l1<s1.heap.objs.size:=by obtain ⟨_,e,_⟩:=p1.isList;exact Heap.lt_size e
    have L2:l2<s1.heap.objs.size:=by obtain ⟨_,e,_⟩:=p2.isList;exact Heap.lt_size e
    refine call_zip_2 p1.isList p2.isList fun h' a1 a2 a3 a4 a5 a6 hk=>wpAny_pyIter_zip (s:={ s1 with heap:=h' }) a1 ?_
    exact ⟨_,_,_,_,H1,rfl,I1.kept (t':=s1.toks) fun b o e=>hk b o e,turn_zip (zipApart_new L1 L2),⟨a1,a2,⟨_,_,a3⟩,a4,a5⟩,fps,q⟩
  · obtain ⟨is1,g1,p1,_⟩:=I1.tuple x1
    obtain ⟨is2,g2,p2,_⟩:=I1.tuple x2
    have L1:l1<s1.heap.objs.size:=by obtain ⟨_,e,_⟩:=p1;exact Heap.lt_size e
    have L2:l2<s1.heap.objs.size:=by obtain ⟨_,e,_⟩:=p2;exact Heap.lt_size e
    refine call_zt (show s1.heap.IsTuple l1 is1.toArray from p1) (show s1.heap.IsTuple l2 is2.toArray from p2) fun h' a1 a2 a3 a4 a5 hk=>wpAny_pyIter_zip (s:={ s1 with heap:=h' }) a1 ?_
    exact ⟨_,_,_,_,H1,rfl,I1.kept (t':=s1.toks) fun b o e=>hk b o e,turn_zt (zipApart_new L1 L2),⟨a1,a2,⟨_,_,a3⟩,a4,a5⟩,fps,q⟩
end
end L2
namespace K40
open PySem L2
section
variable {P:Program} {w:World} {K:PySem.W.Frag} {mg:Str->Option Value} {base:Heap}
def spCA (K:PySem.W.Frag):Sp:=fun vs H Q _=>∃ (a:Addr) (ns:List Int) (k:Int),vs=[.ref a,.int k]/\SqL K H a (ns.map V.int)/\0<=k/\Q (.int (ns.getD k.toNat 0)) H
theorem ok_cell_at (d:zn K mg "_law_cell_at" xn ["_law_script","_law_k"]) (hlen:mg "len"=none):Ok P w K mg base CX0 1 "_law_cell_at" ["_law_script","_law_k"] (spCA K):=by
 obtain ⟨g,fd,m,F,b⟩:=d
 refine ⟨g,fd,m,F.kp,b,F.ok sc_l_cell_at (by rintro vs H Q E ⟨_,_,_,rfl,_⟩;rfl) fun cdv A outer s H vs Q E hr h=>?_⟩
 obtain ⟨a,ns,i,rfl,hS,h0,k⟩:=h
 refine ⟨_,(zc (zV (zH op_lt (pv 1) (zv zG (by rfl) hlen PySem.boot_len (za (pv 0) zb)) (zL _)) (zf (zq (zy zR (pv 0) (pv 1) (fun _ _=>rfl)))) zI)
   (zf (zq ze))),?_⟩
 refine ⟨_,rfl,_,rfl,a,_,rfl,.inl hS,_,_,rfl,rfl,_,rfl,?_⟩
 rw [List.length_map]
 refine ite2 (fun z=>?_) (fun z=>?_)
 ·have z:i<(ns.length:Int):=by simpa using z
  exact ⟨_,rfl,_,rfl,a,_,_,_,rfl,rfl,hS,yP i.toNat (by omega) (by omega),k⟩
 ·have z:¬ i<(ns.length:Int):=by simpa using z
  have e:ns.getD i.toNat 0=0:=by rw [List.getD_eq_getElem?_getD,List.getElem?_eq_none (by omega)];rfl
  rw [e] at k
  exact k
def spSome (K:PySem.W.Frag):Sp:=fun vs H Q _=>∃ (a:Addr) (ns:List Int) (k sa m:Int),vs=[.ref a,.int k,.int sa,.int m]/\SqL K H a (ns.map V.int)/\0<=k/\k<=100000/\0<=sa/\sa<=100000/\0<m/\∀ r,0<=r->r<m->Q (.int r) H
def spNumber (K:PySem.W.Frag):Sp:=fun vs H Q _=>∃ (a:Addr) (ns:List Int) (k:Int),vs=[.ref a,.int k]/\SqL K H a (ns.map V.int)/\0<=k/\k<=100000/\∀ r,Q (.int r) H
def spLanes:Sp:=fun vs H Q _=>∃ c:Int,vs=[.int c]/\∀ r,1<=r->r<=64->Q (.int r) H
theorem ok_lanes (d:zn K mg "_law_lanes" xN ["_law_cell"]):Ok P w K mg base CX0 1 "_law_lanes" ["_law_cell"] spLanes:=by
 obtain ⟨g,fd,m,F,b⟩:=d
 refine ⟨g,fd,m,F.kp,b,F.ok sc_l_lanes (by rintro vs H Q E ⟨_,rfl,_⟩;rfl) fun cdv A outer s H vs Q E hr h=>?_⟩
 obtain ⟨c,rfl,k⟩:=h
 refine ⟨_,(zc (zV (zH yF (zi yU (pv 0) ze) ze (zL _)) (zf (zq (zi zF ze (zi yU (zi op_fdiv (pv 0) ze) ze)))) zI)
   (zf (zq (zi zF ze (zi yU (zi op_fdiv (pv 0) ze) ze))))),?_⟩
 refine ⟨_,rfl,_,_,rfl,rfl,(by show (0:Int)<8;decide),rfl,_,rfl,?_⟩
 refine ite2 (fun z=>?_) (fun z=>?_)
 ·exact ⟨_,rfl,_,_,rfl,rfl,⟨by decide,by decide⟩,_,_,rfl,rfl,(by show (0:Int)<64;decide),_,_,rfl,rfl,k _ (by omega) (by omega)⟩
 ·exact ⟨_,rfl,_,_,rfl,rfl,⟨by decide,by decide⟩,_,_,rfl,rfl,(by show (0:Int)<9;decide),_,_,rfl,rfl,k _ (by omega) (by omega)⟩
def spGroup (K:PySem.W.Frag):Sp:=fun vs H Q _=>∃ (a:Addr) (ns:List Int) (k sa:Int),vs=[.ref a,.int k,.int sa]/\SqL K H a (ns.map V.int)/\0<=k/\k<=100000/\0<=sa/\sa<=100000/\∀ r H',Same H H'->(r=1∨r=2∨r=4)->Q (.int r) H'
theorem ok_group (d:zn K mg "_law_group" xP ["_law_script","_law_k","_law_salt"]) (SM:Ok P w K mg base CX0 2 "_law_some" ["_law_script","_law_k","_law_salt","_law_many"] (spSome K)):Ok P w K mg base CX0 3 "_law_group" ["_law_script","_law_k","_law_salt"] (spGroup K):=by
 obtain ⟨g,fd,m,F,b⟩:=d
 refine ⟨g,fd,m,F.kp,b,F.ok sc_l_group (by rintro vs H Q E ⟨_,_,_,_,rfl,_⟩;rfl) fun cdv A outer s H vs Q E hr h=>?_⟩
 obtain ⟨a,ns,i,sa,rfl,hS,h0,h1,h2,h3,k⟩:=h
 have hr2:=hr
 refine ⟨_,(zf (zq (zy zR (yw (za ze (za ze (za ze zb)))) (zD SM hr2 (by rfl) zr (za (pv 0) (za (pv 1) (za (pv 2) (za ze zb))))) (fun _ _=>rfl)))),?_⟩
 refine ⟨(by show 3<=sizeLine;decide),fun l nl=>?_⟩
 have s1:Same H (upd H l (.lst [.int 1,.int 2,.int 4])):=zh (Same.refl H) nl
 refine ⟨_,rfl,_,rfl,_,rfl,a,ns,i,sa,3,rfl,zt hS s1,h0,h1,h2,h3,by decide,fun r r0 r1=>?_⟩
 refine ⟨l,([1,2,4]:List Int).map V.int,r,_,rfl,rfl,SqL.of zg,yP r.toNat (by show _<3;omega) (by omega),k _ _ s1 ?_⟩
 have:r=0∨r=1∨r=2:=by omega
 rcases this with rfl | rfl | rfl
 ·exact .inl rfl
 ·exact .inr (.inl rfl)
 ·exact .inr (.inr rfl)
def spDust (K:PySem.W.Frag):Sp:=fun vs H Q _=>∃ (a:Addr) (ns:List Int) (k sa:Int),vs=[.ref a,.int k,.int sa]/\SqL K H a (ns.map V.int)/\0<=k/\k<=1000/\0<=sa/\sa<=1000/\∀ H' l ds,ds.length<=5->Hd H [(l,.lst (List.map V.int ds))] H'->Q (.ref l) H'
theorem ok_dust (d:zn K mg "_law_dust" s_l_dust ["_law_script","_law_k","_law_salt"]) (hrg:mg "range"=none) (SM:Ok P w K mg base CX0 2 "_law_some" ["_law_script","_law_k","_law_salt","_law_many"] (spSome K)) (NB:Ok P w K mg base CX0 3 "_law_number" ["_law_script","_law_k"] (spNumber K)):Ok P w K mg base CX0 4 "_law_dust" ["_law_script","_law_k","_law_salt"] (spDust K):=by
 obtain ⟨g,fd,m,F,b⟩:=d
 refine ⟨g,fd,m,F.kp,b,F.ok sc_l_dust (by rintro vs H Q E ⟨_,_,_,_,rfl,_⟩;rfl) fun cdv A outer s H vs Q E hr h=>?_⟩
 obtain ⟨a,ns,i,sa,rfl,hS,h0,h1,h2,h3,k⟩:=h
 have nd:=sc_l_dust.nd
 have hr3:=hr
 have hr2:Room 2 _:=hr.mono (by decide)
 have SL:(3000:Nat)<sizeLine:=by decide
 refine ⟨_,(zf (zq (pe_compC ["_law_j","_law_script","_law_k"] [none,some 0,some 1] rfl rfl rfl (yN rfl hrg (za (zD SM hr2 (by rfl) zr (za (pv 0) (za (pv 1) (za (pv 2) (za ze zb))))) zb)) (fun s3 H3 fp=>⟨zB (i:=0) (show ((["_law_j","_law_script","_law_k"]:List Str)).Nodup by decide +kernel) rfl (Or.inl rfl),(zD NB hr3 (by rfl) zr (za (pv 1) (za (zi zF (pv 2) (zi ya ze (pv 0))) zb)))⟩)))),?_⟩
 refine ⟨_,rfl,_,rfl,_,rfl,a,ns,i,sa,6,rfl,hS,h0,by omega,h2,by omega,by decide,fun r r0 r1=>⟨_,rfl,(by omega),(by omega),_,rfl,fun D nD=>?_⟩⟩
 have hd:Hd H [(D,.lst (([]:List Int).map V.int))] (upd H D (.lst [])):=Hd.base.new nD
 generalize upd H D (.lst [])=H1 at hd ⊢
 refine xj (n:=r.toNat) (fun j σ J=>∃ u ds,ds.length=j/\σ=[u,some (.ref a),some (.int i)]/\Hd H [(D,.lst (List.map V.int ds))] J) ⟨none,[],rfl,rfl,hd⟩ ?_ ?_
 ·clear hd
  rintro j σ J hj ⟨u,ds,ld,rfl,h⟩
  refine ⟨_,rfl,_,rfl,_,rfl,_,_,rfl,rfl,.inl ⟨by decide,by decide⟩,_,_,rfl,rfl,a,ns,_,rfl,h.sql hS,(by show 0<=i+5*(0+(j:Int));omega),(by show i+5*(0+(j:Int))<=100000;omega),fun v=>?_⟩
  refine ⟨_,h.get 0 rfl,(by rw [List.length_map];omega),_,ds++[v],(by rw [List.length_append,ld];rfl),rfl,?_⟩
  rw [List.map_append]
  exact h.put 0 rfl
 ·rintro σ J ⟨u,ds,ld,rfl,h⟩
  exact k J D ds (by omega) h
structure AlK (K:PySem.W.Frag) (mg:Str->Option Value):Prop where
 isi:mg "isinstance"=none
 int:mg "int"=none
 bool:mg "bool"=none
 str:mg "str"=none
 lst:mg "list"=none
 tup:mg "tuple"=none
 ii:PySem.W.kitOne K (.type "int") (.type "int")=some true
 ib:PySem.W.kitOne K (.type "int") (.type "bool")=some false
 is:PySem.W.kitOne K (.type "int") (.type "str")=some false
 il:PySem.W.kitOne K (.type "int") (.type "list")=some false
 it:PySem.W.kitOne K (.type "int") (.type "tuple")=some false
 ss:PySem.W.kitOne K (.type "str") (.type "str")=some true
 ls:PySem.W.kitOne K (.type "list") (.type "str")=some false
 ll:PySem.W.kitOne K (.type "list") (.type "list")=some true
 lt:PySem.W.kitOne K (.type "list") (.type "tuple")=some false
 ts:PySem.W.kitOne K (.type "tuple") (.type "str")=some false
 tl:PySem.W.kitOne K (.type "tuple") (.type "list")=some false
 tt:PySem.W.kitOne K (.type "tuple") (.type "tuple")=some true
inductive Lk (H:Hp):Nat->V->V->Prop
 | non {n}:Lk H n .non .non
 | int {n} (i:Int):Lk H n (.int i) (.int i)
 | str {n} (z:Str):Lk H n (.str z) (.str z)
 | lst {n a b xs ys}:H a=some (.lst xs)->H b=some (.lst ys)->ys.length=xs.length->(∀ (i:Nat) x y,xs[i]?=some x->ys[i]?=some y->Lk H n x y)->Lk H (n+1) (.ref a) (.ref b)
 | tup {n a b xs ys}:H a=some (.tup xs)->H b=some (.tup ys)->ys.length=xs.length->(∀ (i:Nat) x y,xs[i]?=some x->ys[i]?=some y->Lk H n x y)->Lk H (n+1) (.ref a) (.ref b)
theorem Lk.same {H H':Hp} {n:Nat} {x y:V} (h:Lk H n x y) (s:Same H H'):Lk H' n x y:=by
 induction h with
 | non=>exact .non
 | int i=>exact .int i
 | str z=>exact .str z
 | lst a b e _ ih=>exact .lst (s _ _ a) (s _ _ b) e ih
 | tup a b e _ ih=>exact .tup (s _ _ a) (s _ _ b) e ih
def spAlike (n:Nat):Sp:=fun vs H Q _=>∃ u v,vs=[u,v]/\Lk H n u v/\∀ H',Same H H'->Q (.bl true) H'
def spNo:Sp:=fun _ _ _ _=>False
theorem ty_of {H:Hp} {x:V} {t:Value} (h:TyOf K H x t):TyX K H x t:=.inl h
theorem rel_ty {n:String}:RelV (.ty n) (.type n)/\∀ u,RelV (.ty n) u->u=.type n:=⟨rfl,fun _ z=>z⟩
theorem ok_alike0 (d:zn K mg "_law_alike" xo ["_law_found","_law_due"]):Ok P w K mg base CX0 1 "_law_alike" ["_law_found","_law_due"] spNo:=by
 obtain ⟨g,fd,m,F,b⟩:=d
 exact ⟨g,fd,m,F.kp,b,F.ok sc_l_alike (fun vs H Q E h=>nomatch h) fun cdv A outer s H vs Q E hr h=>nomatch h⟩
theorem ok_alike_s {n:Nat} {sp:Sp} (hsp:∀ n',n=n'+1->sp=spAlike n') (d:zn K mg "_law_alike" xo ["_law_found","_law_due"]) (AK:AlK K mg) (hlen:mg "len"=none) (hzip:mg "zip"=none) (AL:Ok P w K mg base CX0 (n+1) "_law_alike" ["_law_found","_law_due"] sp):Ok P w K mg base CX0 (n+2) "_law_alike" ["_law_found","_law_due"] (spAlike n):=by
 obtain ⟨g,fd,m,F,b⟩:=d
 refine ⟨g,fd,m,F.kp,b,F.ok sc_l_alike (by rintro vs H Q E ⟨_,_,rfl,_⟩;rfl) fun cdv A outer s H vs Q E hr h=>?_⟩
 obtain ⟨u,v,rfl,hL,q⟩:=h
 have nd:=sc_l_alike.nd
 have hrA:=hr
 have hisi:=AK.isi
 refine ⟨_,(zc (zV (zH op_isN (pv 1) pe_non (zL _)) (zf (zq (pe_cmpR op_isN (pv 0) pe_non (zL _)))) zI)
   (zc (zV (xF (zv yG (by rfl) AK.isi PyProof.Rows.boot_isinstance (za (pv 1) (za (pe_bty AK.str PyProof.Rows.boot_str) zb)))) (zf (zq (pe_and (zv yG (by rfl) AK.isi PyProof.Rows.boot_isinstance (za (pv 0) (za (pe_bty AK.str PyProof.Rows.boot_str) zb))) (pe_one (pe_cmpR yF (pv 0) (pv 1) (zL _)))))) zI)
   (zc (zV (pt_not (xF (zv call_isinstT (by rfl) hisi PyProof.Rows.boot_isinstance (za (pv 1) (za (xi (za (pe_bty AK.lst PyProof.Rows.boot_list) (za (pe_bty AK.tup PyProof.Rows.boot_tuple) zb))) zb))))) (zf (zq (pe_and (zv yG (by rfl) AK.isi PyProof.Rows.boot_isinstance (za (pv 0) (za (pe_bty AK.int PyProof.Rows.boot_int) zb))) (pe_and (pe_not (zv yG (by rfl) AK.isi PyProof.Rows.boot_isinstance (za (pv 0) (za (pe_bty AK.bool PyProof.Rows.boot_bool) zb)))) (pe_one (pe_cmpR yF (pv 0) (pv 1) (zL _))))))) zI)
   (zc (zV (pw_and (xF (zv yG (by rfl) AK.isi PyProof.Rows.boot_isinstance (za (pv 1) (za (pe_bty AK.lst PyProof.Rows.boot_list) zb)))) (pw_and1 (pt_not (xF (zv yG (by rfl) AK.isi PyProof.Rows.boot_isinstance (za (pv 0) (za (pe_bty AK.lst PyProof.Rows.boot_list) zb))))))).pt (zf (zq pe_bl)) zI)
   (zc (zV (pw_and (xF (zv yG (by rfl) AK.isi PyProof.Rows.boot_isinstance (za (pv 1) (za (pe_bty AK.tup PyProof.Rows.boot_tuple) zb)))) (pw_and1 (pt_not (xF (zv yG (by rfl) AK.isi PyProof.Rows.boot_isinstance (za (pv 0) (za (pe_bty AK.tup PyProof.Rows.boot_tuple) zb))))))).pt (zf (zq pe_bl)) zI)
   (zc (zV (zH op_ne (zv zG (by rfl) hlen PySem.boot_len (za (pv 0) zb)) (zv zG (by rfl) hlen PySem.boot_len (za (pv 1) zb)) (zL _)) (zf (zq pe_bl)) zI)
   (zc (xc PassesOwn.never rfl (pi_zb rfl hzip (za (pv 0) (za (pv 1) zb))) (pg_tup rfl (yl (zB (i:=2) nd rfl (Or.inl rfl)) (yl (zB (i:=3) nd rfl (Or.inl rfl)) pgs_nil))) (zf (zV (pt_not (xF (zD AL hrA (by rfl) zr (za (pv 2) (za (pv 3) zb))))) (zf (zq pe_bl)) zI)))
   (zf (zq pe_bl))))))))),?_⟩
 have kL:PySem.W.kitAny K (.type "list") [.type "list",.type "tuple"]=some true:=by unfold PySem.W.kitAny;rw [AK.ll]
 have kT:PySem.W.kitAny K (.type "tuple") [.type "list",.type "tuple"]=some true:=by unfold PySem.W.kitAny;rw [AK.tl];unfold PySem.W.kitAny;rw [AK.tt]
 have kI:PySem.W.kitAny K (.type "int") [.type "list",.type "tuple"]=some false:=by unfold PySem.W.kitAny;rw [AK.il];unfold PySem.W.kitAny;rw [AK.it];rfl
 cases hL with
 | non =>
  refine ⟨_,rfl,rfl,_,rfl,?_⟩
  refine iteT ⟨_,rfl,rfl,q H (Same.refl _)⟩
 | str z =>
  refine ⟨_,rfl,rfl,_,rfl,yx ?_⟩
  refine ⟨_,rfl,.str z,.ty "str",.type "str",.type "str",true,rfl,rel_ty.1,rel_ty.2,ty_of (.str z),AK.ss,_,rfl,iteT ?_⟩
  refine ⟨_,rfl,.str z,.ty "str",.type "str",.type "str",true,rfl,rel_ty.1,rel_ty.2,ty_of (.str z),AK.ss,_,rfl,iteT ?_⟩
  refine ⟨_,rfl,_,rfl,rfl,?_⟩
  rw [decide_eq_true rfl]
  exact q H (Same.refl _)
 | int i =>
  refine ⟨_,rfl,rfl,_,rfl,yx ?_⟩
  refine ⟨_,rfl,.int i,.ty "str",.type "str",.type "int",false,rfl,rel_ty.1,rel_ty.2,ty_of (.int i),AK.is,_,rfl,yx ?_⟩
  refine ⟨_,rfl,(by show 2<=sizeLine;decide),fun tp ntp=>⟨.int i,tp,_,.type "int",false,rfl,zg,rfl,.int i,kI,_,rfl,?_⟩⟩
  have s1:Same H (upd H tp (.tup [.ty "list",.ty "tuple"])):=zh (Same.refl _) ntp
  refine iteT ?_
  refine ⟨_,rfl,.int i,.ty "int",.type "int",.type "int",true,rfl,rel_ty.1,rel_ty.2,ty_of (.int i),AK.ii,_,rfl,iteT ?_⟩
  refine ⟨_,rfl,.int i,.ty "bool",.type "bool",.type "int",false,rfl,rel_ty.1,rel_ty.2,ty_of (.int i),AK.ib,_,rfl,_,rfl,iteT ?_⟩
  refine ⟨_,rfl,_,rfl,rfl,?_⟩
  rw [decide_eq_true rfl]
  exact q _ s1
 | @lst n a b xs ys ea eb el hx =>
  have hsp:=hsp n rfl
  subst hsp
  refine ⟨_,rfl,rfl,_,rfl,yx ?_⟩
  refine ⟨_,rfl,.ref b,.ty "str",.type "str",.type "list",false,rfl,rel_ty.1,rel_ty.2,ty_of (.lst eb),AK.ls,_,rfl,yx ?_⟩
  refine ⟨_,rfl,(by show 2<=sizeLine;decide),fun tp ntp=>⟨.ref b,tp,_,.type "list",true,rfl,zg,rfl,?_,kL,_,rfl,yx ?_⟩⟩
  ·exact .lst (zh (Same.refl _) ntp _ _ eb)
  have s1:Same H (upd H tp (.tup [.ty "list",.ty "tuple"])):=zh (Same.refl _) ntp
  generalize upd H tp (.tup [.ty "list",.ty "tuple"])=H1 at s1 ⊢
  have ea1:=s1 _ _ ea
  have eb1:=s1 _ _ eb
  refine ⟨_,rfl,.ref b,.ty "list",.type "list",.type "list",true,rfl,rel_ty.1,rel_ty.2,ty_of (.lst eb1),AK.ll,_,rfl,iteT ⟨_,rfl,.ref a,.ty "list",.type "list",.type "list",true,rfl,rel_ty.1,rel_ty.2,ty_of (.lst ea1),AK.ll,_,rfl,yx ?_⟩⟩
  refine ⟨_,rfl,.ref b,.ty "tuple",.type "tuple",.type "list",false,rfl,rel_ty.1,rel_ty.2,ty_of (.lst eb1),AK.lt,_,rfl,yx (yx ?_)⟩
  refine ⟨_,rfl,a,_,rfl,.inl (SqL.of ea1),_,rfl,b,_,rfl,.inl (SqL.of eb1),rfl,_,rfl,?_⟩
  rw [el,decide_eq_true rfl]
  refine yx ?_
  refine ⟨_,rfl,_,rfl,a,b,rfl,.inl ⟨⟨_,SqL.of ea1⟩,⟨_,SqL.of eb1⟩,?_⟩⟩
  refine for_zip (xs:=xs) (ys:=ys) (fun i σ J=>∃ u2 u3,σ=[some (.ref a),some (.ref b),u2,u3]/\Same H1 J) ⟨none,none,rfl,Same.refl _⟩ (fun i σ J _ ⟨_,_,_,s2⟩=>⟨SqL.of (s2 _ _ ea1),SqL.of (s2 _ _ eb1)⟩) el ?_ ?_
  ·rintro i x y σ J T hx1 hy1 ⟨u2,u3,rfl,s2⟩ nT
   have s3:Same J (upd J T (.tup [x,y])):=zh (Same.refl _) nT
   refine ⟨T,_,rfl,SqT.of zg,rfl,_,_,rfl,_,_,rfl,rfl,?_⟩
   refine ⟨_,rfl,_,rfl,x,y,rfl,(hx i x y hx1 hy1).same ((s1.trans s2).trans s3),fun J2 s4=>⟨_,rfl,yx ?_⟩⟩
   exact ⟨_,_,rfl,(s2.trans s3).trans s4⟩
  ·rintro σ J ⟨u2,u3,rfl,s2⟩
   exact q J (s1.trans s2)
 | @tup n a b xs ys ea eb el hx =>
  have hsp:=hsp n rfl
  subst hsp
  refine ⟨_,rfl,rfl,_,rfl,yx ?_⟩
  refine ⟨_,rfl,.ref b,.ty "str",.type "str",.type "tuple",false,rfl,rel_ty.1,rel_ty.2,ty_of (.tup eb),AK.ts,_,rfl,yx ?_⟩
  refine ⟨_,rfl,(by show 2<=sizeLine;decide),fun tp ntp=>⟨.ref b,tp,_,.type "tuple",true,rfl,zg,rfl,?_,kT,_,rfl,yx ?_⟩⟩
  ·exact .tup (zh (Same.refl _) ntp _ _ eb)
  have s1:Same H (upd H tp (.tup [.ty "list",.ty "tuple"])):=zh (Same.refl _) ntp
  generalize upd H tp (.tup [.ty "list",.ty "tuple"])=H1 at s1 ⊢
  have ea1:=s1 _ _ ea
  have eb1:=s1 _ _ eb
  refine ⟨_,rfl,.ref b,.ty "list",.type "list",.type "tuple",false,rfl,rel_ty.1,rel_ty.2,ty_of (.tup eb1),AK.tl,_,rfl,yx (yx ?_)⟩
  refine ⟨_,rfl,.ref b,.ty "tuple",.type "tuple",.type "tuple",true,rfl,rel_ty.1,rel_ty.2,ty_of (.tup eb1),AK.tt,_,rfl,iteT ⟨_,rfl,.ref a,.ty "tuple",.type "tuple",.type "tuple",true,rfl,rel_ty.1,rel_ty.2,ty_of (.tup ea1),AK.tt,_,rfl,yx ?_⟩⟩
  refine ⟨_,rfl,a,_,rfl,.inr (SqT.of ea1),_,rfl,b,_,rfl,.inr (SqT.of eb1),rfl,_,rfl,?_⟩
  rw [el,decide_eq_true rfl]
  refine yx ?_
  refine ⟨_,rfl,_,rfl,a,b,rfl,.inr ⟨⟨_,SqT.of ea1⟩,⟨_,SqT.of eb1⟩,?_⟩⟩
  refine for_zt (xs:=xs) (ys:=ys) (fun i σ J=>∃ u2 u3,σ=[some (.ref a),some (.ref b),u2,u3]/\Same H1 J) ⟨none,none,rfl,Same.refl _⟩ (fun i σ J _ ⟨_,_,_,s2⟩=>⟨SqT.of (s2 _ _ ea1),SqT.of (s2 _ _ eb1)⟩) el ?_ ?_
  ·rintro i x y σ J T hx1 hy1 ⟨u2,u3,rfl,s2⟩ nT
   have s3:Same J (upd J T (.tup [x,y])):=zh (Same.refl _) nT
   refine ⟨T,_,rfl,SqT.of zg,rfl,_,_,rfl,_,_,rfl,rfl,?_⟩
   refine ⟨_,rfl,_,rfl,x,y,rfl,(hx i x y hx1 hy1).same ((s1.trans s2).trans s3),fun J2 s4=>⟨_,rfl,yx ?_⟩⟩
   exact ⟨_,_,rfl,(s2.trans s3).trans s4⟩
  ·rintro σ J ⟨u2,u3,rfl,s2⟩
   exact q J (s1.trans s2)
theorem ok_alike (d:zn K mg "_law_alike" xo ["_law_found","_law_due"]) (AK:AlK K mg) (hlen:mg "len"=none) (hzip:mg "zip"=none):∀ n:Nat,Ok P w K mg base CX0 (n+2) "_law_alike" ["_law_found","_law_due"] (spAlike n)
 | 0=>ok_alike_s (fun n' e=>by cases e) d AK hlen hzip (ok_alike0 d)
 | n+1=>ok_alike_s (fun n' e=>by cases e;rfl) d AK hlen hzip (ok_alike d AK hlen hzip n)
end
end K40
namespace K40
open PySem L2
theorem sel_in (js:List Int) (m:List Bool) (j:Nat) (hj:j<m.length) (h:(j:Int)∈js∨m.getD j false=true):(sel m js).getD j false=true:=by
 induction js generalizing m with
 | nil =>
  rcases h with h | h
  ·cases h
  ·exact h
 | cons i js ih =>
  show (sel (m.set i.toNat true) js).getD j false=true
  refine ih _ (by rw [List.length_set];exact hj) ?_
  by_cases e:i.toNat=j
  ·right
   rw [List.getD_eq_getElem?_getD,e,List.getElem?_set_self hj];rfl
  ·rcases h with h | h
   ·rcases List.mem_cons.mp h with h | h
    ·exact absurd (by rw [← h];rfl) e
    ·exact .inl h
   ·right
    rw [List.getD_eq_getElem?_getD,List.getElem?_set_ne e,← List.getD_eq_getElem?_getD];exact h
theorem dst_lt (d:List Int) (q:Nat) (m:List Bool) (lo k j:Nat) (h:j<lo):(dst d q m lo k).getD j false=m.getD j false:=by
 induction k with
 | zero=>rfl
 | succ k ih=>rw [dst_succ,List.getD_eq_getElem?_getD,List.getElem?_set_ne (by omega),← List.getD_eq_getElem?_getD];exact ih
theorem mem_upto {n j:Nat} (h:j<n):(j:Int)∈upto n:=List.mem_map.mpr ⟨j,List.mem_range.mpr h,rfl⟩
theorem actTo_all (M:Mc) (k n:Nat) (h:∀ j,j<n->M.isAct k j=true):M.actTo k n=upto n:=by
 unfold Mc.actTo upto
 rw [List.filter_eq_self.mpr fun j hj=>h j (List.mem_range.mp hj)]
 rfl
theorem strip_act {M:Mc} (ok:MOk0 M) (hg:M.group=1∨M.group=2∨M.group=4) {b:Int} (hb:b<=M.many):(M.strip b).act 0=upto (M.wide b).toNat/\MOk (M.strip b):=by
 have l1:=ok.l1
 have rb:M.group*M.lanes<=4*M.lanes/\1<=M.group*M.lanes:=by rcases hg with e | e | e <;> rw [e] <;> omega
 have w01:0<=M.wide b/\M.wide b<=M.group*M.lanes:=by unfold Mc.wide;split <;> omega
 have ml:0<M.masks.length:=by rw [ok.ml];decide
 have lm:(M.masks.getD 0 []).length=4*M.lanes:=by
  rw [List.getD_eq_getElem?_getD,List.getElem?_eq_getElem ml];exact ok.mm _ (List.getElem_mem ml)
 refine ⟨?_,?_⟩
 ·refine actTo_all _ _ _ fun j hj=>?_
  have hj:j<(M.wide b).toNat:=hj
  unfold Mc.isAct
  have e1:((M.strip b).masks.getD 0 []).getD j false=true:=by
   show ((M.masks.set 0 _).getD 0 []).getD j false=true
   rw [List.getD_eq_getElem?_getD (l:=M.masks.set 0 _),List.getElem?_set_self ml]
   show (dst _ _ (sel (clr (M.masks.getD 0 []) (M.wide b).toNat) (upto (M.wide b).toNat)) (M.wide b).toNat _).getD j false=true
   rw [dst_lt _ _ _ _ _ _ hj]
   exact sel_in _ _ _ (by rw [clr_len,lm];omega) (.inl (mem_upto hj))
  rw [e1]
  rfl
 ·refine ⟨ok.l1,ok.l64,hg,ok.nl,?_,fun m hm=>?_,w01.1,w01.2⟩
  ·show (M.masks.set 0 _).length=16
   rw [List.length_set];exact ok.ml
  ·rcases List.mem_or_eq_of_mem_set hm with hm | rfl
   ·exact ok.mm m hm
   ·show (dst _ _ (sel (clr (M.masks.getD 0 []) _) _) _ _).length=_
    rw [dst_len,sel_len,clr_len,lm]
    rfl
theorem layOne_is (told:List (Key×V)) (p:Nat) (M:Mc) (t:Nat):M.layOne told p t={ M with nums:=(M.layOne told p t).nums,dq:=(M.layOne told p t).dq }:=by
 unfold Mc.layOne;split <;> rfl
theorem layTo_is (told:List (Key×V)) (p:Nat) (M:Mc) (n:Nat):M.layTo told p n={ M with nums:=(M.layTo told p n).nums,dq:=(M.layTo told p n).dq }:=by
 induction n with
 | zero=>rfl
 | succ n ih =>
  rw [M.layTo_succ]
  have e:=layOne_is told p (M.layTo told p n) n
  rw [e]
  rw [ih]
theorem layTo_at (told:List (Key×V)) (p:Nat) (M:Mc) (n j:Nat) (v:Int) (hj:j<n) (hin:∀ t:Nat,t<n->0<=(p:Int)*M.group*M.lanes+t/\((p:Int)*M.group*M.lanes+t).toNat<M.nums.length) (hv:yE told (.inl (j:Int))=some (.int v)):(M.layTo told p n).numAt p j=v:=by
 induction n with
 | zero=>omega
 | succ n ih =>
  have s:=M.layTo_same told p n
  have hn:=hin n (by omega)
  have hjj:=hin j hj
  rw [M.layTo_succ]
  by_cases e:j=n
  ·subst e
   unfold Mc.layOne
   rw [hv]
   show (List.set _ _ _).getD _ 0=v
   rw [s.g,s.l,List.getD_eq_getElem?_getD,List.getElem?_set_self (by rw [s.n];exact hn.2)];rfl
  ·have e2:((M.layTo told p n).layOne told p n).numAt p j=(M.layTo told p n).numAt p j:=by
    unfold Mc.layOne
    split
    ·show (List.set _ _ _).getD _ 0=_
     rw [List.getD_eq_getElem?_getD,List.getElem?_set_ne (by rw [s.g,s.l];omega),← List.getD_eq_getElem?_getD];rfl
    ·show (List.set _ _ _).getD _ 0=_
     rw [List.getD_eq_getElem?_getD,List.getElem?_set_ne (by rw [s.g,s.l];omega),← List.getD_eq_getElem?_getD];rfl
   rw [e2]
   exact ih (by omega) fun t ht=>hin t (by omega)
inductive Steps (L:Lex) (code:List (List V)):Nat->Mc->Mc->Prop
 | refl {M}:Steps L code 0 M M
 | cons {n M M1 Mf tv}:0<=M.pc->M.refusal=none->code[M.pc.toNat]?=some tv->Step L tv M M1->Steps L code n M1 Mf->Steps L code (n+1) M Mf
theorem Steps.trans {L:Lex} {code:List (List V)} {n k:Nat} {M M1 M2:Mc} (h:Steps L code n M M1) (h2:Steps L code k M1 M2):Steps L code (n+k) M M2:=by
 induction h with
 | refl=>rw [Nat.zero_add];exact h2
 | cons a b c d _ ih=>rw [Nat.add_right_comm];exact .cons a b c d (ih h2)
theorem Steps.more {L:Lex} {code:List (List V)} (rest:List (List V)) {n:Nat} {M M1:Mc} (h:Steps L code n M M1):Steps L (code++rest) n M M1:=by
 induction h with
 | refl=>exact .refl
 | cons a b c d _ ih=>exact .cons a b (by rw [List.getElem?_append_left (List.getElem?_eq_some_iff.mp c).1];exact c) d ih
theorem Steps.run {L:Lex} {code:List (List V)} {n:Nat} {M M1:Mc} (h:Steps L code n M M1) (e:(code.length:Int)<=M1.pc∨M1.refusal.isSome=true):Run L code n M M1:=by
 induction h with
 | refl=>exact .done e
 | cons a b c d _ ih=>exact .step a b c d (ih e)
end K40
namespace K40
open PySem L2
section
variable {P:Program} {w:World} {K:PySem.W.Frag} {mg:Str->Option Value} {base:Heap}
end
section
variable {P:Program} {w:World} {K:PySem.W.Frag} {mg:Str->Option Value} {base:Heap}
end
end K40
namespace K40
open PySem L2
section
variable {P:Program} {w:World} {K:PySem.W.Frag} {mg:Str->Option Value} {base:Heap}
end
end K40
namespace L2
open PySem
theorem pg_tupK {X:Cx} {K:PySem.W.Frag} {es:List Expr} {k:Nat} {t:TGs} {n:Nat} {pos:Pos} (e:X.K=K) (hc:X.calm=true) (h:PGs X es t) (hn:(assignEach es X.env).length=n:=by rfl) (hst:(assignEach es X.env).findIdx? (·.1)=none:=by rfl):PG X (.Tuple es k pos) (gTup K n t):=e ▸ pg_tup hc h hn hst
theorem compF_zip {K:PySem.W.Frag} {l1 l2 D:Addr} {xs ys:List V} {g:TG} {tt:TT} {te:TE} {σY:St} {H1:Hp} {Q:VK} (Pv:Nat->St->Hp->Prop) (h0:Pv 0 σY H1) (hl:∀ i σ H,i<=xs.length->Pv i σ H->SqL K H l1 xs/\SqL K H l2 ys) (he:ys.length=xs.length)
    (hs:∀ i x y σ H T,xs[i]?=some x->ys[i]?=some y->Pv i σ H->H T=none->g (.ref T) σ (upd H T (.tup [x,y])) fun σ3 H3=>tt σ3 H3 fun b H4=>if b=true then te σ3 H4 fun v H5=>∃ zs,H5 D=some (.lst zs)/\zs.length<sizeLine/\Pv (i+1) σ3 (upd H5 D (.lst (zs++[v]))) else Pv (i+1) σ3 H4) (hd:∀ σ H,Pv xs.length σ H->Q (.ref D) H) :
    CompWF (Itz K l1 l2) g tt te σY H1 D Q:=by
  refine ⟨fun i m σ H=>m=xs.length-i/\i<=xs.length/\Pv i σ H,⟨xs.length,by simp,Nat.zero_le _,h0⟩,?_⟩
  rintro i m σ H ⟨rfl,hi,p⟩
  obtain ⟨q1,q2⟩:=hl i σ H hi p
  by_cases hlt:i<xs.length
  · refine .inr ⟨⟨xs,ys,xs[i],ys[i],q1,q2,by simp [hlt],by simp [he,hlt]⟩,Pv (i+1),fun σ' H' p'=>⟨xs.length-(i+1),by omega,rfl,hlt,p'⟩,fun x H' y=>?_⟩
    obtain ⟨T,u,v,e,nT,e',y⟩:=y
    subst e e'
    obtain ⟨y1,y2⟩:=y xs ys q1 q2
    exact hs i u v σ H T y1 y2 p nT
  · have e:i=xs.length:=by omega
    subst e
    exact .inl ⟨⟨xs,ys,q1,q2,.inl (Nat.le_refl _)⟩,hd σ H p⟩
end L2
namespace K40
open PySem L2
def Mc.chosen (M:Mc) (p k:Nat) (nought:Bool):List Int:=(M.act k).filter fun j=>decide (decide (M.numAt p j=0)=nought)
def xx (nought:Bool):EfM:=fun tv M=>match (tv[1]?:Option V),(tv[2]?:Option V),(tv[3]?:Option V) with
 | some (V.int m),some (V.int p),some (V.int k)=>if 0<=m/\m<16/\0<=p/\(p+1)*M.group<=8/\0<=k/\k<16 then some (M.laidMask m.toNat (M.chosen p.toNat k.toNat nought)) else none
 | _,_,_=>none
theorem chooseM_is {nought:Bool} {tv:List V} {M M':Mc} (h:xx nought tv M=some M'):∃ m p k:Nat,tv[1]?=some (.int m)/\tv[2]?=some (.int p)/\tv[3]?=some (.int k)/\m<16/\((p:Int)+1)*M.group<=8/\k<16/\M'=M.laidMask m (M.chosen p k nought):=by
 unfold xx at h
 split at h
 ·rename_i m p k e1 e2 e3
  split at h
  ·rename_i hc
   obtain ⟨m0,m1,p0,p8,k0,k1⟩:=hc
   cases h
   refine ⟨m.toNat,p.toNat,k.toNat,?_,?_,?_,by omega,?_,by omega,rfl⟩
   ·rw [e1];congr 2;omega
   ·rw [e2];congr 2;omega
   ·rw [e3];congr 2;omega
   ·rw [Int.toNat_of_nonneg p0];exact p8
  ·cases h
 ·cases h
section
variable {P:Program} {w:World} {K:PySem.W.Frag} {mg:Str->Option Value} {base:Heap}
def spLC (c:MCs):Sp:=fun vs H Q _=>∃ (nought:Bool) (B:Hp) (A:Ma) (M:Mc) (R:List (Addr×HO)) (st:Addr) (tv:List V) (M':Mc),vs=[.ref A.b,.ref st,.bl nought]/\MAt c B A M R H/\B st=some (.tup tv)/\xx nought tv M=some M'/\MOk M /\
 ∀ B' A' H',Same B B'->A'.b=A.b->MAt c B' A' M' R H'->Q .non H'
theorem ok_chosen {c:MCs} (d:zn K mg "lay_chosen" yY ["bench","step","nought"]) (hzip:mg "zip"=none) (CC:MCls K c) (AU:OkM P w K mg base CX0 1 c.bn "active_under" ["self","mask"] (spAct c)) (NI:OkM P w K mg base CX0 3 c.bn "numbers_in" ["self","seat","active"] (spNums c K)) (LM:OkM P w K mg base CX0 2 c.bn "lay_mask" ["self","mask","chosen"] (spMask c K)):Ok P w K mg base CX0 4 "lay_chosen" ["bench","step","nought"] (spLC c):=by
 obtain ⟨g,fd,m,F,b⟩:=d
 refine ⟨g,fd,m,F.kp,b,F.ok sc_lay_chosen (by rintro vs H Q E ⟨_,_,_,_,_,_,_,_,rfl,_⟩;rfl) fun cdv A outer s H vs Q E hr h=>?_⟩
 obtain ⟨nought,B,A,M,R,st,tv,M',rfl,m,es,ef,ok,q⟩:=h
 have nd:=sc_lay_chosen.nd
 have hr3:=hr
 have hr2:=hr.mono (show 2<=3 by decide)
 have hr1:=hr.mono (show 1<=3 by decide)
 have CN:=CC.n
 have ml:=ok.ml
 have SL:(3000:Nat)<sizeLine:=by decide
 obtain ⟨mk,p,k,e1,e2,e3,mk16,p8,k16,rfl⟩:=chooseM_is ef
 obtain ⟨mr1,mr2⟩:=mask_room ok k16
 obtain ⟨ai,al⟩:=act_in ok k
 refine ⟨_,(zc (zu (i:=3) nd rfl (Or.inl rfl) (yk AU CC.n.c hr1 zr (pv 0) (za (zy zP (pv 1) ze (fun _ _=>rfl)) zb)))
   (zc (zu (i:=4) nd rfl (Or.inl rfl) (yk NI CC.n.c hr3 zr (pv 0) (za (zy zP (pv 1) ze (fun _ _=>rfl)) (za (pv 3) zb))))
   (zf (zQ (yk LM CC.n.c hr2 zr (pv 0) (za (zy zP (pv 1) ze (fun _ _=>rfl)) (za (pe_compF ["lane","number","nought"] [none,none,some 2] rfl rfl rfl (pi_zip rfl hzip (za (pv 3) (za (pv 4) zb))) (fun s3 H3 fp=>⟨pg_tupK (K:=K) (n:=2) rfl rfl (yl (zB (i:=0) (show ((["lane","number","nought"]:List Str)).Nodup by decide +kernel) rfl (Or.inl rfl)) (yl (zB (i:=1) (show ((["lane","number","nought"]:List Str)).Nodup by decide +kernel) rfl (Or.inl rfl)) pgs_nil)),(zH yF (pe_cmpR yF (pv 1) ze (zL _)) (pv 2) (zL _)),(pv 0)⟩)) zb))))))),?_⟩
 refine ⟨_,rfl,A.b,_,_,rfl,m.b,rfl,_,rfl,st,_,_,_,rfl,rfl,SqT.of (m.h.sm _ _ es),zK (j:=3) e3,B,A,M,R,k,rfl,m,by omega,ok.w0,mr1,mr2,fun B1 H1 l s1 m1 ea=>?_⟩
 refine ⟨_,rfl,A.b,_,_,rfl,m1.b,rfl,_,rfl,st,_,_,_,rfl,rfl,SqT.of (m1.h.sm _ _ (s1 _ _ es)),zK (j:=2) e2,_,rfl,B1,A,M,R,p,l,M.act k,rfl,m1,ok,p8,ea,ai,al,fun B2 H2 l2 s2 m2 en=>?_⟩
 refine ⟨_,rfl,A.b,_,_,rfl,m2.b,rfl,_,rfl,st,_,_,_,rfl,rfl,SqT.of (m2.h.sm _ _ (s2 _ _ (s1 _ _ es))),zK (j:=1) e1,_,rfl,_,rfl,l,l2,rfl,⟨_,SqL.of (m2.h.sm _ _ (s2 _ _ ea))⟩,⟨_,SqL.of (m2.h.sm _ _ en)⟩,_,rfl,fun D nD=>?_⟩
 unfold Mc.chosen at q
 generalize M.act k=js at *
 let f:Int->Bool:=fun j=>decide (decide (M.numAt p j=0)=nought)
 have h0:Hd H2 [(D,.lst (((js.take 0).filter f).map V.int))] (upd H2 D (.lst [])):=Hd.base.new nD
 generalize upd H2 D (.lst [])=H3 at h0 ⊢
 refine compF_zip (K:=K) (xs:=js.map V.int) (ys:=(js.map (M.numAt p)).map V.int) (fun i σ J=>∃ u0 u1,σ=[u0,u1,some (.bl nought)]/\Hd H2 [(D,.lst (((js.take i).filter f).map V.int))] J) ⟨none,none,rfl,h0⟩ (fun i σ J _ ⟨_,_,_,h⟩=>⟨SqL.of (h.sm _ _ (m2.h.sm _ _ (s2 _ _ ea))),SqL.of (h.sm _ _ (m2.h.sm _ _ en))⟩) (by rw [List.length_map,List.length_map,List.length_map]) ?_ ?_
 ·clear h0
  rintro i x y σ J T hx hy ⟨u0,u1,rfl,h⟩ nT
  obtain ⟨j,e9,rfl⟩:=ym hx
  obtain ⟨z,e10,rfl⟩:=ym hy
  rw [List.getElem?_map,e9] at e10
  cases e10
  have hlt:i<js.length:=(List.getElem?_eq_some_iff.mp e9).1
  have h:=h.waste (o:=.tup [.int j,.int (M.numAt p j)]) nT
  refine ⟨T,_,rfl,SqT.of zg,rfl,_,_,rfl,_,_,rfl,rfl,?_⟩
  generalize upd J T (.tup [.int j,.int (M.numAt p j)])=J1 at h ⊢
  have et:(js.take (i+1)).filter f=(js.take i).filter f++if f j=true then [j] else []:=by
   rw [List.take_add_one,e9,List.filter_append]
   congr 1
   show List.filter f [j]=_
   by_cases z:f j=true
   ·rw [List.filter_cons_of_pos z,if_pos z];rfl
   ·rw [List.filter_cons_of_neg z,if_neg z];rfl
  have lf:=List.length_filter_le f (js.take i)
  rw [List.length_take] at lf
  rw [et]
  refine ⟨_,rfl,rfl,_,rfl,rfl,_,rfl,?_⟩
  have ef:decide (V.bl (decide (V.int (M.numAt p j)=V.int 0))=V.bl nought)=f j:=by
   show _=decide (decide (M.numAt p j=0)=nought)
   rw [dec_int,dec_bl]
   by_cases z:M.numAt p j=0 <;> cases nought <;> simp [z]
  rw [ef]
  refine ite2 (fun z=>?_) (fun z=>?_)
  ·rw [if_pos z]
   refine ⟨_,rfl,_,h.get 0 rfl,(by rw [List.length_map];omega),_,_,rfl,?_⟩
   rw [List.map_append]
   exact h.put 0 rfl
  ·rw [if_neg z,List.append_nil]
   exact ⟨_,_,rfl,h⟩
 ·rintro σ J ⟨u0,u1,rfl,h⟩
  rw [List.length_map,List.take_length] at h
  have m3:=m2.adopt h
  have s3:Same B2 (upd B2 D (.lst ((js.filter f).map V.int))):=zh (Same.refl _) (m2.h.free nD)
  refine ⟨_,A,M,R,mk,D,js.filter f,rfl,m3,ok,mk16,zg,(fun j hj=>ai j (List.mem_filter.mp hj).1),fun H9 m9=>?_⟩
  exact q _ A H9 ((s1.trans s2).trans s3) rfl m9
theorem ok_choose {c:MCs} (d:zn K mg "play_choose" yK ["bench","step"]) (LC:Ok P w K mg base CX0 4 "lay_chosen" ["bench","step","nought"] (spLC c)):Ok P w K mg base CX0 5 "play_choose" ["bench","step"] (spEf c (xx false)):=by
 obtain ⟨g,fd,m,F,b⟩:=d
 refine ⟨g,fd,m,F.kp,b,F.ok sc_play_choose (by rintro vs H Q E ⟨_,_,_,_,_,_,_,rfl,_⟩;rfl) fun cdv A outer s H vs Q E hr h=>?_⟩
 obtain ⟨B,A,M,R,st,tv,M',rfl,m,es,ef,ok,q⟩:=h
 have hr4:=hr
 refine ⟨_,(zf (zQ (zD LC hr4 (by rfl) zr (za (pv 0) (za (pv 1) (za pe_bl zb)))))),?_⟩
 exact ⟨_,rfl,_,rfl,false,B,A,M,R,st,tv,M',rfl,m,es,ef,ok,q⟩
theorem ok_other {c:MCs} (d:zn K mg "play_other" yW ["bench","step"]) (LC:Ok P w K mg base CX0 4 "lay_chosen" ["bench","step","nought"] (spLC c)):Ok P w K mg base CX0 5 "play_other" ["bench","step"] (spEf c (xx true)):=by
 obtain ⟨g,fd,m,F,b⟩:=d
 refine ⟨g,fd,m,F.kp,b,F.ok sc_play_other (by rintro vs H Q E ⟨_,_,_,_,_,_,_,rfl,_⟩;rfl) fun cdv A outer s H vs Q E hr h=>?_⟩
 obtain ⟨B,A,M,R,st,tv,M',rfl,m,es,ef,ok,q⟩:=h
 have hr4:=hr
 refine ⟨_,(zf (zQ (zD LC hr4 (by rfl) zr (za (pv 0) (za (pv 1) (za pe_bl zb)))))),?_⟩
 exact ⟨_,rfl,_,rfl,true,B,A,M,R,st,tv,M',rfl,m,es,ef,ok,q⟩
end
end K40
namespace K40
open PySem L2
abbrev Tch:=Int×Str×Int
abbrev DT:=List Int×List Tch
def xh (ds:List Int) (ps:List (Int×Int)):List Int:=ps.foldl (fun d pr=>d.set pr.1.toNat pr.2) ds
theorem setAll_len (ps:List (Int×Int)) (ds:List Int):(xh ds ps).length=ds.length:=by
 induction ps generalizing ds with
 | nil=>rfl
 | cons p ps ih=>show (xh (ds.set _ _) ps).length=_;rw [ih,List.length_set]
theorem setAll_snoc (ds:List Int) (ps:List (Int×Int)) (p:Int×Int):xh ds (ps++[p])=(xh ds ps).set p.1.toNat p.2:=by unfold xh;rw [List.foldl_append];rfl
theorem puts_cells (M:Mc) (q:Nat) (ps:List (Int×Int)):(M.puts q ps).cells=xh M.cells (ps.map fun p=>(M.adr q p.1,p.2)):=by
 induction ps generalizing M with
 | nil=>rfl
 | cons p ps ih=>exact ih (M.wrote q p.1 p.2)
def wid (many side b:Int):Nat:=(min many (b+side)-b).toNat
structure InS (S LN:List Int) (L pl:Nat) (many group b:Int) (k:Nat) (s:DT) (M:Mc):Prop where
 ok:MOk M
 wle:M.width<=(wid many (group*L) b:Nat)
 begun:M.begun=(wid many (group*L) b:Nat)
 base:M.base=b
 pc:M.pc=((pl+k:Nat):Int)
 opened:M.opened=(pl:Nat)
 many:M.many=many
 group:M.group=group
 lanes:M.lanes=L
 rf:M.refusal=none
 starts:M.starts=S
 lens:M.lens=LN
 cells:M.cells=s.1
 touches:M.touches=s.2
structure StripAt (S LN:List Int) (L pl:Nat) (many group b:Int) (s:DT) (M:Mc):Prop where
 i:InS S LN L pl many group b 1 s M
 act:M.act 0=upto (wid many (group*L) b)
 flt:M.faults=[]
 cut:M.cut=none
structure RestAt (S LN:List Int) (L:Nat) (pc:Nat) (s:DT) (M:Mc):Prop where
 ok:MOk0 M
 lanes:M.lanes=L
 rf:M.refusal=none
 starts:M.starts=S
 lens:M.lens=LN
 pc:M.pc=pc
 cells:M.cells=s.1
 touches:M.touches=s.2
theorem layTo_off (told:List (Key×V)) (p:Nat) (M:Mc) (n i:Nat) (h:∀ t:Nat,t<n->((p:Int)*M.group*M.lanes+t).toNat≠i):(M.layTo told p n).nums.getD i 0=M.nums.getD i 0:=by
 induction n with
 | zero=>rfl
 | succ n ih =>
  have s:=M.layTo_same told p n
  have hn:=h n (by omega)
  rw [M.layTo_succ]
  have e2:((M.layTo told p n).layOne told p n).nums.getD i 0=(M.layTo told p n).nums.getD i 0:=by
   unfold Mc.layOne
   split
   ·show (List.set _ _ _).getD _ 0=_
    rw [List.getD_eq_getElem?_getD,List.getElem?_set_ne (by rw [s.g,s.l];exact hn),← List.getD_eq_getElem?_getD]
   ·show (List.set _ _ _).getD _ 0=_
    rw [List.getD_eq_getElem?_getD,List.getElem?_set_ne (by rw [s.g,s.l];exact hn),← List.getD_eq_getElem?_getD]
  rw [e2]
  exact ih fun t ht=>h t (by omega)
theorem seats_apart {g L p q j t:Int} (g0:1<=g) (l1:1<=L) (ne:p≠q) (j0:0<=j) (j1:j<g*L) (t0:0<=t) (t1:t<g*L):p*g*L+t≠q*g*L+j:=by
 intro z
 rw [Int.mul_assoc,Int.mul_assoc] at z
 generalize g*L=x at *
 rcases Int.lt_or_gt_of_ne ne with h | h
 ·have a:(p+1)*x<=q*x:=Int.mul_le_mul_of_nonneg_right (by omega) (by omega)
  rw [Int.add_mul] at a
  omega
 ·have a:(q+1)*x<=p*x:=Int.mul_le_mul_of_nonneg_right (by omega) (by omega)
  rw [Int.add_mul] at a
  omega
section
variable {Lx:Lex} {S LN:List Int} {L pl k:Nat} {many group b:Int} {s:DT} {M:Mc}
theorem InS.one {code:List (List V)} {tv:List V} {M':Mc} (h:InS S LN L pl many group b k s M) (c:code[pl+k]?=some tv) (st:Step Lx tv M M'):Steps Lx code 1 M M' :=
 .cons (by rw [h.pc];exact Int.natCast_nonneg _) h.rf (by rw [h.pc,Int.toNat_natCast];exact c) st .refl
theorem InS.mem (h:InS S LN L pl many group b k s M) {m:Nat} {j:Int} (hj:j∈M.act m):0<=j/\j<group*L/\b+j<many:=by
 have a:=Mc.act_mem hj
 have w:=h.wle
 have w0:=h.ok.w0
 unfold wid at w
 omega
theorem InS.len (h:InS S LN L pl many group b k s M) (m:Nat):(M.act m).length<=wid many (group*L) b:=by
 have a:=M.actTo_len m M.width.toNat
 have w:=h.wle
 have w0:=h.ok.w0
 unfold Mc.act
 omega
theorem sel_out (js:List Int) (m:List Bool) (j:Nat) (h:∀ i∈js,i.toNat≠j):(sel m js).getD j false=m.getD j false:=by
 induction js generalizing m with
 | nil=>rfl
 | cons i js ih =>
  show (sel (m.set i.toNat true) js).getD j false=_
  rw [ih _ fun i hi=>h i (List.mem_cons_of_mem _ hi),List.getD_eq_getElem?_getD,List.getElem?_set_ne (h i List.mem_cons_self),← List.getD_eq_getElem?_getD]
theorem clr_lt (m:List Bool) (n j:Nat) (h:j<n):(clr m n).getD j false=false:=by
 induction n with
 | zero=>omega
 | succ n ih =>
  rw [clr_succ,List.getD_eq_getElem?_getD]
  by_cases e:n=j
  ·subst e
   by_cases hl:n<(clr m n).length
   ·rw [List.getElem?_set_self hl];rfl
   ·rw [List.getElem?_eq_none (by rw [List.length_set];omega)];rfl
  ·rw [List.getElem?_set_ne e,← List.getD_eq_getElem?_getD];exact ih (by omega)
theorem laid_act {M:Mc} (ok:MOk M) {m k:Nat} (m16:m<16) (q:Int->Bool):(M.laidMask m ((M.act k).filter q)).act m=(M.act k).filter q/\MOk (M.laidMask m ((M.act k).filter q)):=by
 have w0:=ok.w0
 have w1:=ok.w1
 have l1:=ok.l1
 have rb:M.group*M.lanes<=4*M.lanes:=by rcases ok.g with e | e | e <;> rw [e] <;> omega
 have ml:m<M.masks.length:=by rw [ok.ml];exact m16
 have lm:(M.masks.getD m []).length=4*M.lanes:=by
  rw [List.getD_eq_getElem?_getD,List.getElem?_eq_getElem ml];exact ok.mm _ (List.getElem_mem ml)
 refine ⟨?_,⟨ok.l1,ok.l64,ok.g,ok.nl,?_,fun x hx=>?_,ok.w0,ok.w1⟩⟩
 ·have hm:(M.laidMask m ((M.act k).filter q)).masks.getD m []=M.maskOf m ((M.act k).filter q):=by
   show (M.masks.set m _).getD m []=_
   rw [List.getD_eq_getElem?_getD,List.getElem?_set_self ml];rfl
  have hW:(M.laidMask m ((M.act k).filter q)).width=M.width:=rfl
  have hF:(M.laidMask m ((M.act k).filter q)).faults=M.faults:=rfl
  have key:∀ j:Nat,j<M.width.toNat->(M.laidMask m ((M.act k).filter q)).isAct m j=(M.isAct k j && q (j:Int)):=fun j hj=>by
   unfold Mc.isAct
   rw [hm,hF]
   have e1:(M.maskOf m ((M.act k).filter q)).getD j false=(sel (clr (M.masks.getD m []) M.width.toNat) ((M.act k).filter q)).getD j false:=by
    unfold Mc.maskOf
    exact dst_lt _ _ _ _ _ _ hj
   rw [e1]
   by_cases hin:(j:Int)∈(M.act k).filter q
   ·have hp:=List.mem_filter.mp hin
    have ha:=(Mc.act_mem hp.1).2.2
    rw [Int.toNat_natCast] at ha
    rw [sel_in _ _ _ (by rw [clr_len,lm];omega) (.inl hin),hp.2]
    unfold Mc.isAct at ha
    rw [Bool.and_eq_true] at ha
    rw [ha.1,ha.2];rfl
   ·rw [sel_out _ _ _ fun i hi z=>hin (by
     have:=(Mc.act_mem (List.mem_filter.mp hi).1).1
     have e:(j:Int)=i:=by omega
     rw [e];exact hi),clr_lt _ _ _ hj]
    rw [Bool.false_and]
    by_cases ha:M.isAct k j=true
    ·by_cases hq:q (j:Int)=true
     ·exact absurd (List.mem_filter.mpr ⟨List.mem_map.mpr ⟨j,List.mem_filter.mpr ⟨List.mem_range.mpr hj,ha⟩,rfl⟩,hq⟩) hin
     ·rw [Bool.not_eq_true] at hq;rw [hq,Bool.and_false]
    ·rw [Bool.not_eq_true] at ha
     unfold Mc.isAct at ha
     rw [ha,Bool.false_and]
  generalize hN:M.laidMask m ((M.act k).filter q)=N at key hW ⊢
  unfold Mc.act Mc.actTo
  rw [hW,List.filter_map,List.filter_filter]
  congr 1
  refine List.filter_congr fun j hj=>?_
  rw [key j (List.mem_range.mp hj),Bool.and_comm];rfl
 ·show (M.masks.set m _).length=16
  rw [List.length_set];exact ok.ml
 ·rcases List.mem_or_eq_of_mem_set hx with hx | rfl
  ·exact ok.mm x hx
  ·show (dst _ _ (sel (clr (M.masks.getD m []) _) _) _ _).length=_
   rw [dst_len,sel_len,clr_len,lm];rfl
end
theorem wide_wid {M:Mc} {b:Int} (hb:b<=M.many) (hg:0<=M.group*M.lanes):M.wide b=(wid M.many (M.group*M.lanes) b:Nat):=by
 unfold Mc.wide wid
 split <;> omega
theorem stripAt_of {S LN:List Int} {L pl:Nat} {many group b:Int} {s:DT} {M:Mc} (ok:MOk0 M) (hg:group=1∨group=2∨group=4) (e1:M.group=group) (e2:M.many=many) (e3:M.lanes=L) (e4:M.opened=pl) (hb:b<=many) (rf:M.refusal=none) (st:M.starts=S) (ln:M.lens=LN) (ce:M.cells=s.1) (to:M.touches=s.2) :
  StripAt S LN L pl many group b s { M.strip b with pc:=pl+1 }:=by
 subst e1 e2 e3
 obtain ⟨a,o⟩:=strip_act ok hg hb
 have l1:=ok.l1
 have gp:0<=M.group*M.lanes:=by rcases hg with e | e | e <;> rw [e] <;> omega
 have ww:=wide_wid hb gp
 refine ⟨⟨⟨o.l1,o.l64,o.g,o.nl,o.ml,o.mm,o.w0,o.w1⟩,by show M.wide b<=_;rw [ww];exact Int.le_refl _,ww,rfl,by show (pl:Int)+1=_;omega,e4,rfl,rfl,rfl,rf,st,ln,ce,to⟩,?_,rfl,rfl⟩
 show (M.strip b).act 0=_
 rw [a,ww,Int.toNat_natCast]
end K40
namespace K40
open PySem L2
theorem MAt.putFault {c:MCs} {B:Hp} {A:Ma} {M:Mc} {R:List (Addr×HO)} {H:Hp} (m:MAt c B A M R H) (f:List (Key×V)):MAt c B A { M with faults:=f } R (upd H A.aF (.dK f)) :=
 ⟨⟨m.bb.lens,m.bb.starts,m.bb.bx,m.bb.msk,m.bb.ml,m.bb.dl,m.bb.pl,m.bb.tl,m.bb.tt,m.bb.ul,m.bb.uu,m.bb.rf⟩,m.h.put (o':=.dK f) 7 rfl⟩
def yj (M:Mc) (p:Nat) (n j:Int):Bool:=decide (0<=M.numAt p j) && decide (M.numAt p j<n)
def outF (f:List (Key×V)) (js:List Int):List (Key×V):=js.foldl (fun f j=>putK f (.inl j) (.str "outside")) f
theorem outF_len (js:List Int) (f:List (Key×V)):(outF f js).length<=f.length+js.length:=by
 induction js generalizing f with
 | nil=>exact Nat.le_refl _
 | cons j js ih =>
  have:=ih (putK f (.inl j) (.str "outside"))
  have:=Za f (.inl j:Key) (.str "outside")
  show (outF (putK f _ _) js).length<=_
  rw [List.length_cons];omega
def Mc.outs (M:Mc) (p:Nat) (n:Int) (js:List Int):Mc:={ M with faults:=outF M.faults (js.filter fun j=>!yj M p n j) }
def reachM:EfM:=fun tv M=>match (tv[1]?:Option V),(tv[2]?:Option V),(tv[3]?:Option V) with
 | some (V.int p),some (V.int n),some (V.int k)=>if 0<=p/\(p+1)*M.group<=8/\0<=k/\k<16/\M.faults.length<100000 then some (M.outs p.toNat n (M.act k.toNat)) else none
 | _,_,_=>none
theorem reachM_is {tv:List V} {M M':Mc} (h:reachM tv M=some M'):∃ (p:Nat) (n:Int) (k:Nat),tv[1]?=some (.int p)/\tv[2]?=some (.int n)/\tv[3]?=some (.int k)/\((p:Int)+1)*M.group<=8/\k<16/\M.faults.length<100000/\M'=M.outs p n (M.act k):=by
 unfold reachM at h
 split at h
 ·rename_i p n k e1 e2 e3
  split at h
  ·rename_i hc
   obtain ⟨p0,p8,k0,k1,fl⟩:=hc
   cases h
   refine ⟨p.toNat,n,k.toNat,?_,e2,?_,?_,by omega,fl,rfl⟩
   ·rw [e1];congr 2;omega
   ·rw [e3];congr 2;omega
   ·rw [Int.toNat_of_nonneg p0];exact p8
  ·cases h
 ·cases h
section
variable {P:Program} {w:World} {K:PySem.W.Frag} {mg:Str->Option Value} {base:Heap}
theorem ok_reach {c:MCs} (d:zn K mg "play_reach" yV ["bench","step"]) (hzip:mg "zip"=none) (CC:MCls K c) (AU:OkM P w K mg base CX0 1 c.bn "active_under" ["self","mask"] (spAct c)) (NI:OkM P w K mg base CX0 3 c.bn "numbers_in" ["self","seat","active"] (spNums c K)):Ok P w K mg base CX0 4 "play_reach" ["bench","step"] (spEf c reachM):=by
 obtain ⟨g,fd,m,F,b⟩:=d
 refine ⟨g,fd,m,F.kp,b,F.ok sc_play_reach (by rintro vs H Q E ⟨_,_,_,_,_,_,_,rfl,_⟩;rfl) fun cdv A outer s H vs Q E hr h=>?_⟩
 obtain ⟨B,A,M,R,st,tv,M',rfl,m,es,ef,ok,q⟩:=h
 have nd:=sc_play_reach.nd
 have hu:=Nat.lt_of_le_of_lt (Nat.add_le_add_left (show 1<=64 by decide) _) hr.units
 have hr3:=hr
 have hr1:=hr.mono (show 1<=3 by decide)
 have CN:=CC.n
 have ml:=ok.ml
 have SL:(200000:Nat)<sizeLine:=by decide
 obtain ⟨p,n,k,e1,e2,e3,p8,k16,fl,rfl⟩:=reachM_is ef
 obtain ⟨mr1,mr2⟩:=mask_room ok k16
 obtain ⟨ai,al⟩:=act_in ok k
 refine ⟨_,(zc (zu (i:=2) nd rfl (Or.inl rfl) (yk AU CC.n.c hr1 zr (pv 0) (za (zy zP (pv 1) ze (fun _ _=>rfl)) zb)))
   (zf (xc PassesOwn.never rfl (pi_zip rfl hzip (za (pv 2) (za (yk NI CC.n.c hr3 zr (pv 0) (za (zy zP (pv 1) ze (fun _ _=>rfl)) (za (pv 2) zb))) zb))) (pg_tup rfl (yl (zB (i:=3) nd rfl (Or.inl rfl)) (yl (zB (i:=4) nd rfl (Or.inl rfl)) pgs_nil))) (zf (zV (pt_not (pt_chain op_le op_lt ze (pv 4) (zy zP (pv 1) ze (fun _ _=>rfl)))) (zf (ps_dput hu (zC (pv 0) rfl) (pv 3) zX rfl)) zI))))),?_⟩
 dsimp only [yt,Cx.nox,Cx.wish]
 refine ⟨_,rfl,A.b,_,_,rfl,m.b,rfl,_,rfl,st,_,_,_,rfl,rfl,SqT.of (m.h.sm _ _ es),zK (j:=3) e3,B,A,M,R,k,rfl,m,by omega,ok.w0,mr1,mr2,fun B1 H1 l s1 m1 ea=>?_⟩
 refine ⟨_,rfl,_,rfl,A.b,_,_,rfl,m1.b,rfl,_,rfl,st,_,_,_,rfl,rfl,SqT.of (m1.h.sm _ _ (s1 _ _ es)),zK (j:=1) e1,_,rfl,B1,A,M,R,p,l,M.act k,rfl,m1,ok,p8,ea,ai,al,fun B2 H2 l2 s2 m2 en=>?_⟩
 refine ⟨l,l2,rfl,⟨_,SqL.of (m2.h.sm _ _ (s2 _ _ ea))⟩,⟨_,SqL.of (m2.h.sm _ _ en)⟩,?_⟩
 generalize M.act k=js at *
 let f:Int->Bool:=fun j=>!yj M p n j
 refine for_zip (xs:=js.map V.int) (ys:=(js.map (M.numAt p)).map V.int) (fun i σ J=>∃ u3 u4 B3,σ=[some (.ref A.b),some (.ref st),some (.ref l),u3,u4]/\Same B2 B3/\MAt c B3 A (M.outs p n (js.take i)) R J) ⟨none,none,B2,rfl,Same.refl _,m2⟩ (fun i σ J _ ⟨_,_,B3,_,s3,m3⟩=>⟨SqL.of (m3.h.sm _ _ (s3 _ _ (s2 _ _ ea))),SqL.of (m3.h.sm _ _ (s3 _ _ en))⟩) (by rw [List.length_map,List.length_map,List.length_map]) ?_ ?_
 ·rintro i x y σ J T hx hy ⟨u3,u4,B3,rfl,s3,m3⟩ nT
  obtain ⟨j,e9,rfl⟩:=ym hx
  obtain ⟨z,e10,rfl⟩:=ym hy
  rw [List.getElem?_map,e9] at e10
  cases e10
  have hlt:i<js.length:=(List.getElem?_eq_some_iff.mp e9).1
  have m4:=m3.grow (o:=.tup [.int j,.int (M.numAt p j)]) nT
  have s4:Same B3 (upd B3 T (.tup [.int j,.int (M.numAt p j)])):=zh (Same.refl _) (m3.h.free nT)
  have e4:upd B3 T (.tup [.int j,.int (M.numAt p j)]) T=some (.tup [.int j,.int (M.numAt p j)]):=zg
  generalize upd J T (.tup [.int j,.int (M.numAt p j)])=J4 at m4 ⊢
  generalize upd B3 T (.tup [.int j,.int (M.numAt p j)])=B4 at m4 s4 e4
  have sq:SqT K J4 st tv:=SqT.of (m4.h.sm _ _ (s4 _ _ (s3 _ _ (s2 _ _ (s1 _ _ es)))))
  have et:(js.take (i+1)).filter f=(js.take i).filter f++if f j=true then [j] else []:=by
   rw [List.take_add_one,e9,List.filter_append]
   congr 1
   show List.filter f [j]=_
   by_cases z:f j=true
   ·rw [List.filter_cons_of_pos z,if_pos z];rfl
   ·rw [List.filter_cons_of_neg z,if_neg z];rfl
  have stay:yj M p n j=true->MAt c B4 A (M.outs p n (js.take (i+1))) R J4:=fun z=>by
   have:M.outs p n (js.take (i+1))=M.outs p n (js.take i):=by
    unfold Mc.outs
    have e:(js.take (i+1)).filter f=(js.take i).filter f:=by rw [et,if_neg (by show ¬ (!yj M p n j)=true;rw [z];decide),List.append_nil]
    show ({ M with faults:=outF M.faults ((js.take (i+1)).filter f) }:Mc)={ M with faults:=outF M.faults ((js.take i).filter f) }
    rw [e]
   rw [this];exact m4
  have goF:yj M p n j=false->∃ u3 u4 B3,[some (.ref A.b),some (.ref st),some (.ref l),some (V.int j),some (V.int (M.numAt p j))]=[some (.ref A.b),some (.ref st),some (.ref l),u3,u4]/\Same B2 B3/\MAt c B3 A (M.outs p n (js.take (i+1))) R (upd J4 A.aF (.dK (putK (outF M.faults ((js.take i).filter f)) (.inl j) (.str "outside")))):=fun z=>by
   refine ⟨_,_,B4,rfl,s3.trans s4,?_⟩
   have m5:=m4.putFault (putK (outF M.faults ((js.take i).filter f)) (.inl j) (.str "outside"))
   have:M.outs p n (js.take (i+1))={ M.outs p n (js.take i) with faults:=putK (outF M.faults ((js.take i).filter f)) (.inl j) (.str "outside") }:=by
    unfold Mc.outs
    show ({ M with faults:=outF M.faults ((js.take (i+1)).filter f) }:Mc)={ M with faults:=_ }
    rw [et,if_pos (by show (!yj M p n j)=true;rw [z];rfl)]
    unfold outF
    rw [List.foldl_append];rfl
   rw [this];exact m5
  have lf:=outF_len ((js.take i).filter f) M.faults
  have lf2:=List.length_filter_le f (js.take i)
  rw [List.length_take] at lf2
  have eF:J4 A.aF=some (.dK (outF M.faults ((js.take i).filter f))):=m4.h.get 7 rfl
  refine ⟨T,_,rfl,SqT.of (m4.h.sm _ _ e4),rfl,_,_,rfl,_,_,rfl,rfl,?_⟩
  refine ⟨_,rfl,_,_,rfl,rfl,_,rfl,?_⟩
  by_cases z0:0<=M.numAt p j
  ·rw [decide_eq_true z0]
   refine iteT ⟨_,rfl,st,_,_,_,rfl,rfl,sq,zK (j:=2) e2,_,_,rfl,rfl,_,rfl,?_⟩
   by_cases z1:M.numAt p j<n
   ·rw [decide_eq_true z1]
    exact yx ⟨_,_,B4,rfl,s3.trans s4,stay (by unfold yj;rw [decide_eq_true z0,decide_eq_true z1];rfl)⟩
   ·rw [decide_eq_false z1]
    refine iteT ⟨_,rfl,A.b,_,_,_,.ref A.aF,rfl,m4.b,CN.c,CN.faults,rfl,_,rfl,A.aF,_,rfl,DPut.k (k:=.inl j) eF (by omega),?_⟩
    exact goF (by unfold yj;rw [decide_eq_true z0,decide_eq_false z1];rfl)
  ·rw [decide_eq_false z0]
   refine yx ⟨_,rfl,iteT ⟨_,rfl,A.b,_,_,_,.ref A.aF,rfl,m4.b,CN.c,CN.faults,rfl,_,rfl,A.aF,_,rfl,DPut.k (k:=.inl j) eF (by omega),?_⟩⟩
   exact goF (by unfold yj;rw [decide_eq_false z0];rfl)
 ·rintro σ J ⟨u3,u4,B3,rfl,s3,m3⟩
  rw [List.length_map,List.take_length] at m3
  exact q B3 A J ((s1.trans s2).trans s3) rfl m3
end
end K40
namespace K40
open PySem L2
section
variable {P:Program} {w:World} {K:PySem.W.Frag} {mg:Str->Option Value} {base:Heap}
end
section
variable {P:Program} {w:World} {K:PySem.W.Frag} {mg:Str->Option Value} {base:Heap}
end
end K40
namespace K40
open PySem L2
section
variable {P:Program} {w:World} {K:PySem.W.Frag} {mg:Str->Option Value} {base:Heap}
end
section
variable {P:Program} {w:World} {K:PySem.W.Frag} {mg:Str->Option Value} {base:Heap}
end
end K40
namespace K40
open PySem L2
section
variable {P:Program} {w:World} {K:PySem.W.Frag} {mg:Str->Option Value} {base:Heap}
end
end K40
namespace K40
open PySem L2
theorem outF_some (js:List Int) (f:List (Key×V)) (j:Int):(yE (outF f js) (.inl j)).isSome=((yE f (.inl j)).isSome || decide (j∈js)):=by
 induction js generalizing f with
 | nil=>show _=(_ || decide (j∈[]));rw [decide_eq_false (fun z=>by cases z),Bool.or_false];rfl
 | cons i js ih =>
  show (yE (outF (putK f (.inl i) (.str "outside")) js) (.inl j)).isSome=_
  rw [ih,valV_put]
  by_cases e:j=i
  ·subst e
   rw [if_pos rfl,decide_eq_true (List.mem_cons_self)]
   rw [Bool.or_true];rfl
  ·rw [if_neg (fun z=>e (Sum.inl.inj z))]
   congr 1
   by_cases m:j∈js
   ·rw [decide_eq_true m,decide_eq_true (List.mem_cons_of_mem _ m)]
   ·rw [decide_eq_false m,decide_eq_false (fun z=>by rcases List.mem_cons.mp z with z | z;exact e z;exact m z)]
section
variable {Lx:Lex} {S LN:List Int} {L pl k:Nat} {many group b:Int} {s:DT} {M:Mc}
theorem InS.reach {p m:Nat} {n:Int} (h:InS S LN L pl many group b k s M) (hS:Lx.E "reach" reachM) (p8:((p:Int)+1)*group<=8) (m16:m<16) (hf:M.faults.length<99000) :
  ∃ M',Step Lx [.str "reach",.int p,.int n,.int m] M M'/\InS S LN L pl many group b (k+1) s M'/\M'.width=M.width/\M'.act m=(M.act m).filter (fun j=>yj M p n j)/\(∀ (p':Nat) (j:Int),M'.numAt p' j=M.numAt p' j):=by
 have e:reachM [.str "reach",.int p,.int n,.int m] M=some (M.outs p n (M.act m)):=by
  unfold reachM
  refine (if_pos ?_).trans ?_
  ·rw [h.group]
   exact ⟨by omega,p8,by omega,by omega,by omega⟩
  ·rw [Int.toNat_natCast,Int.toNat_natCast]
 refine ⟨_,Step.eff hS rfl e h.ok,⟨⟨h.ok.l1,h.ok.l64,h.ok.g,h.ok.nl,h.ok.ml,h.ok.mm,h.ok.w0,h.ok.w1⟩,h.wle,h.begun,h.base,?_,h.opened,h.many,h.group,h.lanes,h.rf,h.starts,h.lens,h.cells,h.touches⟩,rfl,?_,fun _ _=>rfl⟩
 ·show M.pc+1=_
  rw [h.pc];omega
 ·show (M.outs p n (M.act m)).act m=_
  have key:∀ j:Nat,(M.outs p n (M.act m)).isAct m j=(M.isAct m j && !decide ((j:Int)∈(M.act m).filter fun j=>!yj M p n j)):=fun j=>by
   show ((M.masks.getD m []).getD j false && !(yE (outF M.faults _) (.inl (j:Int))).isSome)=_
   rw [outF_some]
   unfold Mc.isAct
   cases (M.masks.getD m []).getD j false <;> cases (yE M.faults (.inl (j:Int))).isSome <;> simp
  have hW:(M.outs p n (M.act m)).width=M.width:=rfl
  generalize hN:M.outs p n (M.act m)=N at key hW ⊢
  have e1:N.act m=((List.range M.width.toNat).filter (N.isAct m)).map fun j:Nat=>(j:Int):=by unfold Mc.act Mc.actTo;rw [hW]
  have e2:M.act m=((List.range M.width.toNat).filter (M.isAct m)).map fun j:Nat=>(j:Int):=rfl
  rw [e1]
  conv=>rhs;rw [e2]
  rw [List.filter_map,List.filter_filter]
  congr 1
  refine List.filter_congr fun j hj=>?_
  rw [key j]
  cases ha:M.isAct m j with
  | false=>rw [Bool.false_and,Bool.and_false]
  | true =>
   have mem:(j:Int)∈M.act m:=List.mem_map.mpr ⟨j,List.mem_filter.mpr ⟨hj,ha⟩,rfl⟩
   rw [Bool.true_and,Bool.and_true]
   show _=yj M p n (j:Int)
   cases hi:yj M p n (j:Int) with
   | true=>rw [decide_eq_false (fun z=>by have:=(List.mem_filter.mp z).2;rw [hi] at this;cases this)];rfl
   | false=>rw [decide_eq_true (List.mem_filter.mpr ⟨mem,by rw [hi];rfl⟩)];rfl
end
end K40
namespace L2
open PySem PySem.Spec PyProof.Rows
section
variable {X:Cx} {pins:List (Addr×Obj)} {σ σ':St} {H H':Hp} {s s':Shared} {a:Addr} {kvs:List (Key×V)}
end
section
variable {X:Cx} {tg:Expr}
end
end L2
namespace L2
open PySem PySem.Spec PyProof.Rows
section
variable {X:Cx}
end
end L2
namespace K40
open PySem L2
section
variable {P:Program} {w:World} {K:PySem.W.Frag} {mg:Str->Option Value} {base:Heap}
end
end K40
namespace K40
open PySem L2
section
variable {Lx:Lex} {S LN:List Int} {L pl k:Nat} {many group b:Int} {s:DT} {M:Mc}
end
end K40
namespace K40
open PySem L2
def Plain (tv:List V):Prop:=∃ ds,(∀ K H,DVs K H tv ds)/\PyData.canLayAll0 ds=true/\PyData.depthAll ds<=1
theorem plain_code {K:PySem.W.Frag} {H:Hp}:∀ {cs:List Addr} {code:List (List V)},CodeAt H cs code->(∀ tv∈code,Plain tv)->∃ dsc,DVs K H (cs.map V.ref) dsc/\PyData.canLayAll0 dsc=true/\PyData.depthAll dsc<=2
 | [],_,_,_=>⟨[],.nil,rfl,dep_nil⟩
 | a::cs,[],h,_=>by have:=h.n;cases this
 | a::cs,tv::code,h,hp=>by
  obtain ⟨ds,d1,d2,d3⟩:=hp tv List.mem_cons_self
  obtain ⟨dsc,e1,e2,e3⟩:=plain_code (K:=K) (H:=H) (cs:=cs) (code:=code) ⟨by have:=h.n;simpa using this,fun i b t x y=>h.t (i+1) b t (by simpa using x) (by simpa using y)⟩ fun t ht=>hp t (List.mem_cons_of_mem _ ht)
  refine ⟨.tuple ds::dsc,.cons (.tup (SqT.of (h.t 0 a tv rfl rfl)) (d1 K H)) e1,?_,yD (dep_tup d3) e3⟩
  show (PyData.canLayAll0 ds && PyData.canLayAll0 dsc)=true
  rw [d2,e2];rfl
theorem lay_str {z:Str} {xs:List PyData} (h:PyData.canLay0 (.str z)=true) (h2:PyData.canLayAll0 xs=true):PyData.canLayAll0 (.str z::xs)=true:=by
 show (PyData.canLay0 (.str z) && PyData.canLayAll0 xs)=true
 rw [h,h2];rfl
theorem dep_int {n:Int}:(PyData.int n).depth<=1:=by simp [PyData.depth]
theorem dep_str {z:Str}:(PyData.str z).depth<=1:=by simp [PyData.depth]
section
variable {P:Program} {w:World} {K:PySem.W.Frag} {mg:Str->Option Value} {base:Heap}
def spLRan (c:MCs) (K:PySem.W.Frag) (Lx:Lex):Sp:=fun vs H Q _=>∃ (a l1 l2 l3 l4:Addr) (cs:List Addr) (code:List (List V)) (lens cells dust picks:List Int) (L n:Nat) (Mf:Mc),vs=[.ref a,.ref l1,.ref l2,.int L,.ref l3,.ref l4]/\SqL K H a (cs.map V.ref)/\CodeAt H cs code/\(∀ tv∈code,Plain tv)/\SqL K H l1 (lens.map V.int)/\SqL K H l2 (cells.map V.int)/\SqL K H l3 (dust.map V.int)/\SqL K H l4 (picks.map V.int)/\1<=L/\L<=64/\lens.length<=1000/\code.length<=1000/\Run Lx code n (Mc.fresh lens cells L dust picks) Mf /\
 ∀ B' A' H' t,Same H B'->MAt c B' A' Mf [] H'->B' t=some (.tup [.ref A'.aC,A'.rf,.ref A'.aT])->Q (.ref t) H'
theorem ok_lran {c:MCs} {Lx:Lex} (d:zn K mg "_law_ran" s_l_ran ["_law_code","_law_lengths","_law_cells","_law_lanes_here","_law_dust_here","_law_picks"]) (hlist:mg "list"=none) (RN:Ok P w K mg base CX0 10 "ran" ["code","lengths","cells","lanes","dust","picks"] (spRan c K Lx)) :
  Ok P w K mg base CX0 11 "_law_ran" ["_law_code","_law_lengths","_law_cells","_law_lanes_here","_law_dust_here","_law_picks"] (spLRan c K Lx):=by
 obtain ⟨g,fd,m,F,b⟩:=d
 refine ⟨g,fd,m,F.kp,b,F.ok sc_l_ran (by rintro vs H Q E ⟨_,_,_,_,_,_,_,_,_,_,_,_,_,_,rfl,_⟩;rfl) fun cdv A outer s H vs Q E hr h=>?_⟩
 obtain ⟨a,l1,l2,l3,l4,cs,code,lens,cells,dust,picks,L,n,Mf,rfl,qa,CA,hpl,q1,q2,q3,q4,L1,L64,hl,hcl,run,q⟩:=h
 have nd:=sc_l_ran.nd
 have hr7:=hr
 have hu:=hr.units
 have SL:(200000:Nat)<sizeLine:=by decide
 refine ⟨_,(zc (zu (i:=6) nd rfl (Or.inl rfl) (yw (za (ye zY (by rfl) hlist PyProof.Rows.boot_list (za (pv 0) zb)) (za (ye zY (by rfl) hlist PyProof.Rows.boot_list (za (pv 1) zb)) (za (ye zY (by rfl) hlist PyProof.Rows.boot_list (za (pv 2) zb)) (za (ye zY (by rfl) hlist PyProof.Rows.boot_list (za (pv 4) zb)) (za (ye zY (by rfl) hlist PyProof.Rows.boot_list (za (pv 5) zb)) zb)))))))
   (zc (zu (i:=7) nd rfl (Or.inl rfl) (zD RN hr7 (by rfl) zr (za (zy zR (pv 6) ze (fun _ _=>rfl)) (za (zy zR (pv 6) ze (fun _ _=>rfl)) (za (zy zR (pv 6) ze (fun _ _=>rfl)) (za (pv 3) (za (zy zR (pv 6) ze (fun _ _=>rfl)) (za (zy zR (pv 6) ze (fun _ _=>rfl)) zb))))))))
   (zc (zV (zH (op_neD hu) (pv 6) (yw (za (pv 0) (za (pv 1) (za (pv 2) (za (pv 4) (za (pv 5) zb)))))) (zL _)) (zf (zq pe_non)) zI)
   (zf (zq (pv 7)))))),?_⟩
 dsimp only [yt,Cx.nox,Cx.wish]
 refine ⟨_,rfl,a,_,rfl,.inl qa,fun x1 n11=>?_⟩
 have s11:Same H (upd H x1 (.lst (cs.map V.ref))):=zh (Same.refl _) n11
 have e11:upd H x1 (.lst (cs.map V.ref)) x1=some (.lst (cs.map V.ref)):=zg
 generalize upd H x1 (.lst (cs.map V.ref))=G1 at s11 e11 ⊢
 refine ⟨_,rfl,l1,_,rfl,.inl (zt q1 s11),fun x2 n12=>?_⟩
 have s12:Same G1 (upd G1 x2 (.lst (lens.map V.int))):=zh (Same.refl _) n12
 have e12:upd G1 x2 (.lst (lens.map V.int)) x2=some (.lst (lens.map V.int)):=zg
 generalize upd G1 x2 (.lst (lens.map V.int))=G2 at s12 e12 ⊢
 have t2:Same H G2:=s11.trans s12
 refine ⟨_,rfl,l2,_,rfl,.inl (zt q2 t2),fun x3 n13=>?_⟩
 have s13:Same G2 (upd G2 x3 (.lst (cells.map V.int))):=zh (Same.refl _) n13
 have e13:upd G2 x3 (.lst (cells.map V.int)) x3=some (.lst (cells.map V.int)):=zg
 generalize upd G2 x3 (.lst (cells.map V.int))=G3 at s13 e13 ⊢
 have t3:Same H G3:=t2.trans s13
 refine ⟨_,rfl,l3,_,rfl,.inl (zt q3 t3),fun x4 n14=>?_⟩
 have s14:Same G3 (upd G3 x4 (.lst (dust.map V.int))):=zh (Same.refl _) n14
 have e14:upd G3 x4 (.lst (dust.map V.int)) x4=some (.lst (dust.map V.int)):=zg
 generalize upd G3 x4 (.lst (dust.map V.int))=G4 at s14 e14 ⊢
 have t4:Same H G4:=t3.trans s14
 refine ⟨_,rfl,l4,_,rfl,.inl (zt q4 t4),fun x5 n15=>?_⟩
 have s15:Same G4 (upd G4 x5 (.lst (picks.map V.int))):=zh (Same.refl _) n15
 have e15:upd G4 x5 (.lst (picks.map V.int)) x5=some (.lst (picks.map V.int)):=zg
 generalize upd G4 x5 (.lst (picks.map V.int))=G5 at s15 e15 ⊢
 have t5:Same H G5:=t4.trans s15
 refine ⟨(by show 5<=sizeLine;omega),fun hh n16=>?_⟩
 have s16:Same G5 (upd G5 hh (.lst [.ref x1,.ref x2,.ref x3,.ref x4,.ref x5])):=zh (Same.refl _) n16
 have e16:upd G5 hh (.lst [.ref x1,.ref x2,.ref x3,.ref x4,.ref x5]) hh=some (.lst [.ref x1,.ref x2,.ref x3,.ref x4,.ref x5]):=zg
 generalize upd G5 hh (.lst [.ref x1,.ref x2,.ref x3,.ref x4,.ref x5])=G6 at s16 e16 ⊢
 have t6:Same H G6:=t5.trans s16
 have qh:SqL K G6 hh [.ref x1,.ref x2,.ref x3,.ref x4,.ref x5]:=SqL.of e16
 have z5:=s16
 have z4:=s15.trans z5
 have z3:=s14.trans z4
 have z2:=s13.trans z3
 have z1:=s12.trans z2
 have CG:CodeAt G6 cs code:=⟨CA.n,fun i b tv x y=>t6 _ _ (CA.t i b tv x y)⟩
 refine ⟨_,rfl,hh,_,_,.ref x1,rfl,rfl,qh,rfl,_,rfl,hh,_,_,.ref x2,rfl,rfl,qh,rfl,_,rfl,hh,_,_,.ref x3,rfl,rfl,qh,rfl,_,rfl,_,rfl,hh,_,_,.ref x4,rfl,rfl,qh,rfl,_,rfl,hh,_,_,.ref x5,rfl,rfl,qh,rfl,?_⟩
 refine ⟨x1,x2,x3,x4,x5,cs,code,lens,cells,dust,picks,L,n,Mf,rfl,SqL.of (z1 _ _ e11),CG,SqL.of (z2 _ _ e12),SqL.of (z3 _ _ e13),SqL.of (z4 _ _ e14),SqL.of (z5 _ _ e15),L1,L64,hl,hcl,run,fun B9 A9 H9 t s9 m9 et=>?_⟩
 refine ⟨_,rfl,_,rfl,_,rfl,_,rfl,_,rfl,_,rfl,(by show 5<=sizeLine;omega),fun ll n17=>?_⟩
 have m10:=m9.grow (o:=.lst [.ref a,.ref l1,.ref l2,.ref l3,.ref l4]) n17
 have s10:Same B9 (upd B9 ll (.lst [.ref a,.ref l1,.ref l2,.ref l3,.ref l4])):=zh (Same.refl _) (m9.h.free n17)
 have e17:upd H9 ll (.lst [.ref a,.ref l1,.ref l2,.ref l3,.ref l4]) ll=some (.lst [.ref a,.ref l1,.ref l2,.ref l3,.ref l4]):=zg
 generalize upd B9 ll (.lst [.ref a,.ref l1,.ref l2,.ref l3,.ref l4])=B10 at m10 s10
 generalize upd H9 ll (.lst [.ref a,.ref l1,.ref l2,.ref l3,.ref l4])=H10 at m10 e17 ⊢
 have y6:Same G6 H10:=(s9.trans s10).trans m10.h.sm
 have y0:Same H H10:=t6.trans y6
 obtain ⟨dsc,c1,c2,c3⟩:=plain_code (K:=K) (H:=H10) (cs:=cs) (code:=code) ⟨CG.n,fun i b tv x y=>y6 _ _ (CG.t i b tv x y)⟩ hpl
 have lay:(PyData.list [.list dsc,dI lens,dI cells,dI dust,dI picks]).canLay0=true:=by
  show (PyData.canLayAll0 dsc && (PyData.canLay0 (dI lens) && (PyData.canLay0 (dI cells) && (PyData.canLay0 (dI dust) && (PyData.canLay0 (dI picks) && true)))))=true
  rw [c2,lay_ints,lay_ints,lay_ints,lay_ints];rfl
 refine ⟨.list [.list dsc,dI lens,dI cells,dI dust,dI picks],.list [.list dsc,dI lens,dI cells,dI dust,dI picks],?_,?_,lay,lay,?_,?_⟩
 ·exact .lst (SqL.of (y6 _ _ e16)) (.cons (.lst (SqL.of (y6 _ _ (z1 _ _ e11))) c1) (.cons (dv_ints (SqL.of (y6 _ _ (z2 _ _ e12)))) (.cons (dv_ints (SqL.of (y6 _ _ (z3 _ _ e13)))) (.cons (dv_ints (SqL.of (y6 _ _ (z4 _ _ e14)))) (.cons (dv_ints (SqL.of (y6 _ _ (z5 _ _ e15)))) .nil)))))
 ·exact .lst (SqL.of e17) (.cons (.lst (zt qa y0) c1) (.cons (dv_ints (zt q1 y0)) (.cons (dv_ints (zt q2 y0)) (.cons (dv_ints (zt q3 y0)) (.cons (dv_ints (zt q4 y0)) .nil)))))
 ·exact Nat.le_trans (dep_list (n:=3) (yD (dep_list c3) (yD (Nat.le_trans dep_ints (by decide)) (yD (Nat.le_trans dep_ints (by decide)) (yD (Nat.le_trans dep_ints (by decide)) (yD (Nat.le_trans dep_ints (by decide)) dep_nil)))))) (by decide)
 ·refine ⟨_,rfl,?_⟩
  rw [SeqAt.eqv_refl _ lay]
  refine yx ⟨_,rfl,?_⟩
  exact q B10 A9 H10 t ((t6.trans s9).trans s10) m10 (s10 _ _ et)
end
end K40
namespace K40
open PySem L2
structure TAt (B:Hp) (ts:List Addr) (T:List Tch):Prop where
 n:ts.length=T.length
 t:∀ (i:Nat) a p,ts[i]?=some a->T[i]?=some p->B a=some (.tup [.int p.1,.str p.2.1,.int p.2.2])
theorem TAt.same {B B':Hp} {ts:List Addr} {T:List Tch} (h:TAt B ts T) (s:Same B B'):TAt B' ts T:=⟨h.n,fun i a p x y=>s _ _ (h.t i a p x y)⟩
theorem TAt.snoc {B:Hp} {ts:List Addr} {T:List Tch} {t:Addr} {p:Tch} (h:TAt B ts T) (e:B t=some (.tup [.int p.1,.str p.2.1,.int p.2.2])):TAt B (ts++[t]) (T++[p]):=by
 refine ⟨by rw [List.length_append,List.length_append,h.n];rfl,fun i a q x y=>?_⟩
 have hn:=h.n
 by_cases z:i<ts.length
 ·rw [List.getElem?_append_left z] at x
  rw [List.getElem?_append_left (by omega)] at y
  exact h.t i a q x y
 ·rw [List.getElem?_append_right (by omega)] at x y
  rw [hn] at x
  cases e2:i-T.length with
  | zero=>rw [e2] at x y;cases x;cases y;exact e
  | succ j=>rw [e2] at x;cases x
theorem size_iff {many side:Int} (h1:1<=many) (h2:1<=side):∃ N:Nat,Builtin.Range.rangeSize 0 many side=N/\∀ i:Nat,i<N↔(i:Int)*side<many:=by
 have e:Builtin.Range.rangeSize 0 many side=(many-0-1) / side+1:=by
  unfold Builtin.Range.rangeSize
  rw [if_pos (show side > 0 by omega),if_pos (by omega)]
 have nn:0<=(many-0-1) / side:=Int.ediv_nonneg (by omega) (by omega)
 refine ⟨((many-0-1) / side+1).toNat,by rw [e];omega,fun i=>?_⟩
 have k:=Int.le_ediv_iff_mul_le (a:=(i:Int)) (b:=many-0-1) (show 0<side by omega)
 constructor
 ·intro z
  have:=k.mp (by omega)
  omega
 ·intro z
  have:=k.mpr (by omega)
  omega
theorem x8:∀ (ns:List Int) (r:Nat),(∀ v∈ns,0<=v)->0<=(ns.take r).sum/\(ns.take r).sum<=ns.sum
 | [],r,_=>by rw [List.take_nil];exact ⟨Int.le_refl _,Int.le_refl _⟩
 | n::ns,0,h=>by
  have:=(x8 ns 0 fun v hv=>h v (List.mem_cons_of_mem _ hv))
  have h0:=h n List.mem_cons_self
  rw [List.take_zero,List.sum_nil] at this ⊢
  rw [List.sum_cons];omega
 | n::ns,r+1,h=>by
  have:=(x8 ns r fun v hv=>h v (List.mem_cons_of_mem _ hv))
  have h0:=h n List.mem_cons_self
  rw [List.take_succ_cons,List.sum_cons,List.sum_cons];omega
theorem take_sum_succ (ns:List Int) (r:Nat) (h:r<ns.length):(ns.take (r+1)).sum=(ns.take r).sum+ns.getD r 0:=by
 rw [List.take_add_one,List.getD_eq_getElem?_getD,List.getElem?_eq_getElem h,List.sum_append]
 show _+(ns[r]+0)=_+ns[r]
 omega
theorem row_room {ns:List Int} {r:Nat} {m:Int} (hv:∀ v∈ns,0<=v) (h:r<ns.length) (hm:m<=ns.getD r 0):0<=(ns.take r).sum/\(ns.take r).sum+m<=ns.sum:=by
 have a:=x8 ns r hv
 have b:=x8 ns (r+1) hv
 rw [take_sum_succ ns r h] at b
 omega
theorem sum_len {ns:List Int} {m:Int} (hm:0<=m) (h:∀ v∈ns,1<=v/\v<=m):0<=ns.sum/\ns.sum<=ns.length*m:=by
 induction ns with
 | nil=>exact ⟨Int.le_refl _,by show (0:Int)<=((0:Nat):Int)*m;omega⟩
 | cons n ns ih =>
  have i:=ih fun v hv=>h v (List.mem_cons_of_mem _ hv)
  have h0:=h n List.mem_cons_self
  rw [List.sum_cons,List.length_cons]
  have e:((ns.length+1:Nat):Int)*m=ns.length*m+m:=by rw [Int.natCast_add,Int.add_mul];show _+1*m=_;rw [Int.one_mul]
  omega
theorem starts_at {ns:List Int} {r:Nat} (h:r<ns.length):(zm ns).getD r 0=(ns.take r).sum:=by
 unfold zm
 rw [List.getD_eq_getElem?_getD,List.getElem?_map,List.getElem?_range h];rfl
theorem starts_len (ns:List Int):(zm ns).length=ns.length:=by unfold zm;rw [List.length_map,List.length_range]
theorem TAt.note {B:Hp} {L:List (Addr×HO)} {H:Hp} {ts:List Addr} {T:List Tch} {t:Addr} {p:Tch} (h:TAt B ts T) (hd:Hd B L H) (nt:H t=none):Hd (upd B t (.tup [.int p.1,.str p.2.1,.int p.2.2])) L (upd H t (.tup [.int p.1,.str p.2.1,.int p.2.2]))/\TAt (upd B t (.tup [.int p.1,.str p.2.1,.int p.2.2])) (ts++[t]) (T++[p])/\Same B (upd B t (.tup [.int p.1,.str p.2.1,.int p.2.2])) :=
 ⟨hd.grow nt,(h.same (zh (Same.refl _) (hd.free nt))).snoc zg,zh (Same.refl _) (hd.free nt)⟩
end K40
namespace K40
open PySem L2
theorem lk_told {c:MCs} {B H:Hp} {A:Ma} {M:Mc} (m:MAt c B A M [] H) {t t2 dd tt:Addr} {ds:List Int} {ts:List Addr} {T:List Tch} (et:H t=some (.tup [.ref A.aC,A.rf,.ref A.aT])) (et2:H t2=some (.tup [.ref dd,.non,.ref tt])) (rf:M.refusal=none) (hc:M.cells=ds) (hT:M.touches=T) (edd:H dd=some (.lst (ds.map V.int))) (ett:H tt=some (.lst (ts.map V.ref))) (ta:TAt H ts T):Lk H 3 (.ref t) (.ref t2):=by
 have rfz:A.rf=.non:=by have:=m.bb.rf;rw [rf] at this;exact this
 rw [rfz] at et
 have eAC:H A.aC=some (.lst (ds.map V.int)):=by have:=m.h.get (i:=1) (a:=A.aC) rfl;rw [this,hc]
 have eAT:H A.aT=some (.lst (A.ts.map V.ref)):=m.h.get 6 rfl
 have tl:=m.bb.tl
 rw [hT] at tl
 refine .tup et et2 rfl fun i x y hx hy=>?_
 match i,hx,hy with
 | 0,hx,hy =>
  cases hx;cases hy
  refine .lst eAC edd rfl fun i x y hx hy=>?_
  obtain ⟨n,_,rfl⟩:=ym hx
  rw [hx] at hy;cases hy;exact .int _
 | 1,hx,hy=>cases hx;cases hy;exact .non
 | 2,hx,hy =>
  cases hx;cases hy
  refine .lst eAT ett (by rw [List.length_map,List.length_map,ta.n,tl]) fun i x y hx hy=>?_
  obtain ⟨b1',hb1,rfl⟩:=ym hx
  obtain ⟨b2',hb2,rfl⟩:=ym hy
  have il:i<T.length:=by rw [← tl];exact (List.getElem?_eq_some_iff.mp hb1).1
  have eT:T[i]?=some T[i]:=List.getElem?_eq_getElem il
  have w1':=m.bb.tt i b1' T[i] hb1 (by rw [hT];exact eT)
  have w2':=ta.t i b2' T[i] hb2 eT
  refine .tup (m.h.sm _ _ w1') w2' rfl fun i x y hx hy=>?_
  rw [hx] at hy;cases hy
  match i,hx with
  | 0,hx=>cases hx;exact .int _
  | 1,hx=>cases hx;exact .str _
  | 2,hx=>cases hx;exact .int _
  | i+3,hx=>cases hx
 | i+3,hx,hy=>cases hx
theorem xG {z:Str} {ns:List Int} (h:PyData.canLay0 (.str z)=true):Plain (.str z::ns.map V.int):=by
 refine ⟨.str z::ns.map PyData.int,fun K H=>.cons (.str _) ?_,lay_str h Zb,yD dep_str ?_⟩
 ·induction ns with
  | nil=>exact .nil
  | cons n ns ih=>exact .cons (.int _) ih
 ·induction ns with
  | nil=>exact dep_nil
  | cons n ns ih=>exact yD dep_int ih
theorem code_app {B:Hp} {cs os:List Addr} {code one:List (List V)} (h:CodeAt B cs code) (h2:CodeAt B os one):CodeAt B (cs++os) (code++one):=by
 refine ⟨by rw [List.length_append,List.length_append,h.n,h2.n],fun t b tv hx hy=>?_⟩
 by_cases z:t<cs.length
 ·rw [List.getElem?_append_left z] at hx
  rw [List.getElem?_append_left (by rw [← h.n];exact z)] at hy
  exact h.t t b tv hx hy
 ·rw [List.getElem?_append_right (by omega)] at hx
  rw [List.getElem?_append_right (by rw [← h.n];omega),← h.n] at hy
  exact h2.t _ b tv hx hy
end K40
namespace K40
open PySem L2
theorem told_inV (g:Int->V) {j:Int}:∀ (js:List Int) (kvs:List (Key×V)),(j∈js∨yE kvs (.inl j)=some (g j))->yE (putAll kvs (js.map fun j=>((.inl j:Key),g j))) (.inl j)=some (g j)
 | [],kvs,h=>by
  rcases h with h | h
  ·cases h
  ·exact h
 | i::js,kvs,h=>by
  show yE (putAll (putK kvs (.inl i) (g i)) _) _=_
  refine told_inV g js _ ?_
  by_cases e:j=i
  ·right;rw [valV_put,e,if_pos rfl]
  ·rcases h with h | h
   ·rcases List.mem_cons.mp h with h | h
    ·exact absurd h e
    ·exact .inl h
   ·right
    rw [valV_put,if_neg (fun z=>e (Sum.inl.inj z))]
    exact h
theorem told_memO (g:Int->Option Int) {js:List Int} {j:Int} (h:j∈js):yE (xt js (js.map g)) (.inl j)=some (oV (g j)):=by
 have e:(js.map Sum.inl).zip ((js.map g).map oV)=js.map fun j=>((.inl j:Key),oV (g j)):=by
  rw [List.map_map,List.zip_map'];rfl
 unfold xt
 rw [e]
 exact told_inV (fun j=>oV (g j)) js [] (.inl h)
theorem act_less {M N:Mc} {bad:Int->Bool} (hm:N.masks=M.masks) (hw:N.width=M.width) (hf:∀ j:Int,(yE N.faults (.inl j)).isSome=((yE M.faults (.inl j)).isSome || bad j)) (m:Nat):N.act m=(M.act m).filter fun j=>!bad j:=by
 unfold Mc.act Mc.actTo
 rw [hw,List.filter_map,List.filter_filter]
 congr 1
 refine List.filter_congr fun j _=>?_
 show N.isAct m j=(!bad (j:Int) && M.isAct m j)
 unfold Mc.isAct
 rw [hm,hf]
 cases (M.masks.getD m []).getD j false <;> cases (yE M.faults (.inl (j:Int))).isSome <;> cases bad (j:Int) <;> rfl
structure Kp (M N:Mc):Prop where
 w:N.width=M.width
 cut:N.cut=M.cut
 masks:N.masks=M.masks
 slots:N.slots=M.slots
 carried:N.carried=M.carried
 raised:N.raised=M.raised
 turns:N.turns=M.turns
 pq:N.pq=M.pq
 picks:N.picks=M.picks
theorem act_same {M N:Mc} (hk:Kp M N) (hf:N.faults=M.faults) (m:Nat):N.act m=M.act m:=by
 unfold Mc.act Mc.actTo Mc.isAct
 rw [hk.w,hk.masks,hf]
section
variable {Lx:Lex} {S LN:List Int} {L pl k:Nat} {many group b:Int} {s:DT} {M:Mc}
theorem InS.seatO {word:Str} {f:FnM} {tv:List V} {p m:Nat} {T':List Tch} {F':List (Key×V)} {g:Int->Option Int} (h:InS S LN L pl many group b k s M) (hS:Lx.S word f) (h0:tv[0]?=some (.str word)) (h1:tv[1]?=some (.int p)) (hl:tv.getLast?=some (.int m)) (p8:((p:Int)+1)*group<=8) (m16:m<16)
  (ef:f tv M (M.act m)=some ({ M with touches:=M.touches++T',faults:=F' },(M.act m).map g)) :
  ∃ M',Step Lx tv M M'/\InS S LN L pl many group b (k+1) (s.1,s.2++T') M'/\(Kp M M'/\M'.faults=F')/\(∀ j∈M.act m,∀ v,g j=some v->M'.numAt p j=v)/\(∀ (p':Nat) (j:Int),p'≠p->0<=j->j<group*L->M'.numAt p' j=M.numAt p' j):=by
 have l1:=h.ok.l1
 have hg:=h.ok.g
 have w0:=h.ok.w0
 have w1:=h.ok.w1
 have hL:=h.lanes
 have hG:=h.group
 have g1:1<=group:=by rw [← hG];omega
 generalize hN0:({ M with touches:=M.touches++T',faults:=F' }:Mc)=N0 at ef
 have ese:seatM f tv M=some (N0.laidSeat (xt (M.act m) ((M.act m).map g)) p):=by
  unfold seatM
  rw [h1,hl]
  show (if _ then _ else _)=_
  rw [if_pos ⟨by omega,by rw [hG];exact p8,by omega,by omega⟩,Int.toNat_natCast,Int.toNat_natCast,ef];rfl
 have st1:=Step.seat hS h0 ese h.ok
 unfold Mc.laidSeat at st1
 have gN0:N0.group=M.group:=by rw [← hN0]
 have lN0:N0.lanes=M.lanes:=by rw [← hN0]
 have rm:N0.room=(group*(L:Int)).toNat:=by unfold Mc.room;rw [gN0,lN0,hG,hL]
 have hin:∀ t:Nat,t<N0.room->0<=(p:Int)*N0.group*N0.lanes+t/\((p:Int)*N0.group*N0.lanes+t).toNat<N0.nums.length:=fun t ht=>by
  rw [gN0,lN0]
  rw [rm] at ht
  have:=seat_in hg (show (1:Int)<=M.lanes by omega) (show (0:Int)<=p by omega) (by rw [hG];exact p8) (show (0:Int)<=t by omega) (by rw [hG,hL];omega)
  have e:N0.nums.length=8*M.lanes:=by rw [← hN0];exact h.ok.nl
  rw [e]
  omega
 have eN:=layTo_is (xt (M.act m) ((M.act m).map g)) p N0 N0.room
 have hlen:=(N0.layTo_same (xt (M.act m) ((M.act m).map g)) p N0.room).n
 have hat:∀ j∈M.act m,∀ v,g j=some v->(N0.layTo (xt (M.act m) ((M.act m).map g)) p N0.room).numAt p j=v:=fun j hj v hv=>by
  have a:=h.mem hj
  obtain ⟨jn,rfl⟩:∃ n:Nat,j=n:=⟨j.toNat,by omega⟩
  exact layTo_at _ p _ _ jn _ (by rw [rm];omega) hin (by rw [told_memO g hj,hv];rfl)
 have hoff:∀ (p':Nat) (j:Int),p'≠p->0<=j->j<group*L->(N0.layTo (xt (M.act m) ((M.act m).map g)) p N0.room).nums.getD ((p':Int)*group*L+j).toNat 0=M.nums.getD ((p':Int)*group*L+j).toNat 0:=fun p' j ne j0 j1=>by
  have:=layTo_off (xt (M.act m) ((M.act m).map g)) p N0 N0.room ((p':Int)*group*L+j).toNat fun t ht z=>by
   have t2:=hin t ht
   rw [rm] at ht
   rw [gN0,lN0,hG,hL] at z t2
   have ap:=seats_apart (p:=(p:Int)) (q:=(p':Int)) (L:=(L:Int)) g1 (by omega) (fun y=>ne (by omega)) j0 j1 (show (0:Int)<=t by omega) (by omega)
   have pos:0<=(p':Int)*group*L:=Int.mul_nonneg (Int.mul_nonneg (by omega) (by omega)) (by omega)
   omega
  rw [this,← hN0]
 generalize N0.layTo (xt (M.act m) ((M.act m).map g)) p N0.room=N at *
 have eN1:({ N with pc:=N.pc+1 }:Mc)={ M with nums:=N.nums,dq:=N.dq,touches:=M.touches++T',faults:=F',pc:=((pl+(k+1):Nat):Int) }:=by
  have e2:N.pc+1=((pl+(k+1):Nat):Int):=by rw [eN,← hN0];show M.pc+1=_;rw [h.pc];omega
  rw [e2,eN,← hN0]
 have gN:N.group=M.group:=by rw [eN];exact gN0
 have lN:N.lanes=M.lanes:=by rw [eN];exact lN0
 rw [eN1] at st1
 refine ⟨_,st1,⟨⟨h.ok.l1,h.ok.l64,h.ok.g,?_,h.ok.ml,h.ok.mm,w0,w1⟩,h.wle,h.begun,h.base,rfl,h.opened,h.many,hG,hL,h.rf,h.starts,h.lens,h.cells,?_⟩,⟨⟨rfl,rfl,rfl,rfl,rfl,rfl,rfl,rfl,rfl⟩,rfl⟩,fun j hj v hv=>?_,fun p' j ne j0 j1=>?_⟩
 ·show N.nums.length=_
  rw [hlen,← hN0];exact h.ok.nl
 ·show M.touches++T'=_
  rw [h.touches]
 ·have:=hat j hj v hv
  unfold Mc.numAt at this ⊢
  rw [gN,lN] at this
  exact this
 ·have:=hoff p' j ne j0 j1
  unfold Mc.numAt
  show N.nums.getD ((p':Int)*M.group*M.lanes+j).toNat 0=M.nums.getD ((p':Int)*M.group*M.lanes+j).toNat 0
  rw [hG,hL]
  exact this
theorem InS.loadO {r p m:Nat} (h:InS S LN L pl many group b k s M) (hS:Lx.S "load" loadM) (p8:((p:Int)+1)*group<=8) (m16:m<16) (hr:r<S.length) (b0:0<=b) (ir:0<=S.getD r 0/\S.getD r 0+many<=s.1.length) (ht:s.2.length+(M.act m).length<100000) :
  ∃ M',Step Lx [.str "load",.int p,.int r,.int m] M M'/\InS S LN L pl many group b (k+1) (s.1,s.2++((M.act m).map (b+·)).map fun e=>(((pl+k:Nat):Int),("read":Str),S.getD r 0+e)) M'/\(Kp M M'/\M'.faults=M.faults)/\(∀ j∈M.act m,M'.numAt p j=s.1.getD (S.getD r 0+(b+j)).toNat 0)/\(∀ (p':Nat) (j:Int),p'≠p->0<=j->j<group*L->M'.numAt p' j=M.numAt p' j):=by
 have et:M.touches++(M.act m).map (fun j=>(M.pc,("read":Str),M.adr r (M.base+j)))=M.touches++((M.act m).map (b+·)).map fun e=>(((pl+k:Nat):Int),("read":Str),S.getD r 0+e):=by
  congr 1
  rw [List.map_map]
  refine List.map_congr_left fun j hj=>?_
  show (M.pc,("read":Str),M.starts.getD r 0+(M.base+j))=(_,_,S.getD r 0+(b+j))
  rw [h.starts,h.base,h.pc]
 have ef:loadM [.str "load",.int p,.int r,.int m] M (M.act m)=some ({ M with touches:=M.touches++((M.act m).map (b+·)).map fun e=>(((pl+k:Nat):Int),("read":Str),S.getD r 0+e),faults:=M.faults },(M.act m).map fun j=>some (s.1.getD (S.getD r 0+(b+j)).toNat 0)):=by
  unfold loadM
  refine (if_pos ?_).trans ?_
  ·rw [Int.toNat_natCast,h.touches]
   refine ⟨by omega,⟨by rw [h.starts];exact hr,fun j hj=>?_⟩,ht⟩
   have:=h.mem hj
   unfold Mc.adr
   rw [h.starts,h.cells,h.base]
   omega
  ·rw [Int.toNat_natCast]
   unfold Mc.reads
   rw [et]
   congr 2
   refine List.map_congr_left fun j hj=>?_
   unfold Mc.valAt Mc.adr
   rw [h.starts,h.cells,h.base]
 obtain ⟨M',st,i,w,n,o⟩:=h.seatO (tv:=[.str "load",.int p,.int r,.int m]) hS rfl rfl rfl p8 m16 ef
 exact ⟨M',st,i,w,fun j hj=>n j hj _ rfl,o⟩
def gIn (n x:Int):Bool:=decide (0<=x) && decide (x<n)
end
def elems (many side b:Int):List Int:=(upto (wid many side b)).map (b+·)
theorem elems_len (many side b:Int):(elems many side b).length=wid many side b:=by unfold elems upto;rw [List.length_map,List.length_map,List.length_range]
theorem elems_in {many side b e:Int} (b0:0<=b) (h:e∈elems many side b):0<=e/\e<many:=by
 obtain ⟨x,hx,rfl⟩:=List.mem_map.mp h
 obtain ⟨y,hy,rfl⟩:=List.mem_map.mp hx
 have hy:=List.mem_range.mp hy
 unfold wid at hy
 show 0<=b+(y:Int)/\b+(y:Int)<many
 omega
end K40
namespace K40
open PySem L2
def capI (a b:Int):Int:=if (if a+b<1000000000 then a+b else 1000000000) > -1000000000 then (if a+b<1000000000 then a+b else 1000000000) else -1000000000
def xw:List Str:=["sum","product","least","most","both","either","odd"]
def Fd9 (f:Str):Prop:=f∈xw∨f="chain"∨f="capped"
def opF (f:Str):Int->Int->Int :=
 if f="sum" then fun a b=>kept (a+b) else if f="product" then fun a b=>kept (a*b) else if f="least" then fun a b=>if b<a then b else a
 else if f="most" then fun a b=>if b > a then b else a else if f="both" then Builtin.bitAnd else if f="either" then Builtin.bitOr else if f="odd" then Builtin.bitXor
 else if f="chain" then fun a b=>kept (31*a+b) else capI
theorem kept_my:kept=My.kept:=by
 funext n
 rw [My.kept_e]
 rfl
theorem opF_free {f:Str} (h:f∈xw):My.Free (opF f):=by
 simp only [xw,List.mem_cons,List.not_mem_nil,or_false] at h
 rcases h with rfl | rfl | rfl | rfl | rfl | rfl | rfl
 ·show My.Free fun a b=>kept (a+b)
  rw [kept_my];exact My.free_sum
 ·show My.Free fun a b=>kept (a*b)
  rw [kept_my];exact My.free_product
 ·show My.Free fun a b=>if b<a then b else a
  have e:(fun a b:Int=>if b<a then b else a)=fun a b=>min a b:=by funext a b;split <;> omega
  rw [e];exact My.free_least
 ·show My.Free fun a b=>if b > a then b else a
  have e:(fun a b:Int=>if b > a then b else a)=fun a b=>max a b:=by funext a b;split <;> omega
  rw [e];exact My.free_most
 ·exact My.free_both
 ·exact My.free_either
 ·exact My.free_odd
section
variable {P:Program} {w:World} {K:PySem.W.Frag} {mg:Str->Option Value} {base:Heap}
def FoldAt (K:PySem.W.Frag) (mg:Str->Option Value) (aF:Addr) (fo nm:Str):Prop:=∃ f,PySem.W.nsIn K aF fo=some (some (.ref f))/\mg nm=some (.ref f)
structure Folds (w:World) (K:PySem.W.Frag) (mg:Str->Option Value) (aF aO:Addr):Prop where
 s1:FoldAt K mg aF "sum" "plus"
 s2:FoldAt K mg aF "product" "times"
 s3:FoldAt K mg aF "least" "lesser"
 s4:FoldAt K mg aF "most" "greater"
 s5:FoldAt K mg aF "both" "bits_of_both"
 s6:FoldAt K mg aF "either" "bits_of_either"
 s7:FoldAt K mg aF "odd" "bits_of_one"
 n1:PySem.W.nsIn K aF "chain"=some none
 n2:PySem.W.nsIn K aF "capped"=some none
 lo:(aF == sysModules)=false
 T:xz w K aF
 hF:mg "FREE_FOLDS"=some (.ref aF)
 s8:FoldAt K mg aO "chain" "chained"
 s9:FoldAt K mg aO "capped" "capped"
 T':xz w K aO
 hO:mg "ORDERED_FOLDS"=some (.ref aO)
abbrev OL (P:Program) (w:World) (K:PySem.W.Frag) (mg:Str->Option Value) (base:Heap) (nm:Str) (ps:List Str) (sp:Sp):Prop:=Ok P w K mg base (CXe P w base) 2 nm ps sp
structure FnsF (P:Program) (w:World) (K:PySem.W.Frag) (mg:Str->Option Value) (base:Heap):Prop where
 f1:OL P w K mg base "plus" ["left","right"] (sp2 (fun _ _=>True) fun a b=>kept (a+b))
 f2:OL P w K mg base "times" ["left","right"] (sp2 (fun a _=>Kin a) fun a b=>kept (a*b))
 f3:OL P w K mg base "lesser" ["left","right"] (sp2 (fun _ _=>True) fun a b=>if b<a then b else a)
 f4:OL P w K mg base "greater" ["left","right"] (sp2 (fun _ _=>True) fun a b=>if b > a then b else a)
 f5:OL P w K mg base "bits_of_both" ["left","right"] (sp2 (fun _ _=>True) Builtin.bitAnd)
 f6:OL P w K mg base "bits_of_either" ["left","right"] (sp2 (fun _ _=>True) Builtin.bitOr)
 f7:OL P w K mg base "bits_of_one" ["left","right"] (sp2 (fun _ _=>True) Builtin.bitXor)
 f8:OL P w K mg base "chained" ["run","number"] (sp2 (fun a _=>Kin a) fun a b=>kept (31*a+b))
 f9:OL P w K mg base "capped" ["run","number"] (sp2 (fun _ _=>True) capI)
theorem ok_chained (d:zn K mg "chained" xS ["run","number"]) (G:GK P w K mg base):OL P w K mg base "chained" ["run","number"] (sp2 (fun a _=>Kin a) fun a b=>kept (31*a+b)):=by
 obtain ⟨f,fd,m,F,b⟩:=d
 refine ⟨f,fd,m,F.kp,b,F.okE sc_chained len2 fun cdv A outer s H vs Q E hr h=>?_⟩
 obtain ⟨x,y,rfl,hx,k⟩:=h
 refine ⟨_,zf (zq (zD G hr rfl passE (za (zi zF (zi ya ze (pv 0)) (pv 1)) zb))),?_⟩
 exact ⟨_,rfl,_,_,rfl,rfl,.inl ⟨by decide,by decide⟩,_,rfl,_,_,rfl,rfl,_,rfl,k⟩
theorem ok_capped {t:Tok} (d:zn K mg "capped" s_capped ["run","number"]) (hC:mg "CAP"=some (.int 1000000000 t)) (hmin:mg "min"=none) (hmax:mg "max"=none):OL P w K mg base "capped" ["run","number"] (sp2 (fun _ _=>True) capI):=by
 obtain ⟨f,fd,m,F,b⟩:=d
 refine ⟨f,fd,m,F.kp,b,F.okE sc_capped len2 fun cdv A outer s H vs Q E hr h=>?_⟩
 obtain ⟨x,y,rfl,hx,k⟩:=h
 refine ⟨_,zf (zq (zv (call_max2 rfl) rfl hmax PyProof.Rows.boot_max (za (pe_un un_neg (pe_gint hC)) (za (zv (xI rfl) rfl hmin PyProof.Rows.boot_min (za (pe_gint hC) (za (zi zF (pv 0) (pv 1)) zb))) zb)))),?_⟩
 exact ⟨_,rfl,_,rfl,_,rfl,_,_,rfl,rfl,_,_,rfl,_,_,rfl,k⟩
theorem Folds.has {aF aO:Addr} (S:Folds w K mg aF aO) {f:Str} (h:f∈xw):∃ u,PySem.W.nsIn K aF f=some (some u):=by
 simp only [xw,List.mem_cons,List.not_mem_nil,or_false] at h
 rcases h with rfl | rfl | rfl | rfl | rfl | rfl | rfl
 ·exact ⟨_,S.s1.choose_spec.1⟩
 ·exact ⟨_,S.s2.choose_spec.1⟩
 ·exact ⟨_,S.s3.choose_spec.1⟩
 ·exact ⟨_,S.s4.choose_spec.1⟩
 ·exact ⟨_,S.s5.choose_spec.1⟩
 ·exact ⟨_,S.s6.choose_spec.1⟩
 ·exact ⟨_,S.s7.choose_spec.1⟩
def spFree:Sp:=fun vs H Q _=>∃ f b,vs=[.str f]/\((f∈xw/\b=true)∨((f="chain"∨f="capped")/\b=false))/\Q (.bl b) H
theorem ok_free {aF aO:Addr} (d:zn K mg "free" s_free ["fold"]) (S:Folds w K mg aF aO):Ok P w K mg base (CXe P w base) 1 "free" ["fold"] spFree:=by
 obtain ⟨g,fd,m,F,b⟩:=d
 refine ⟨g,fd,m,F.kp,b,F.okE sc_free (by rintro vs H Q E ⟨_,_,rfl,_⟩;rfl) fun cdv A outer s H vs Q E hr h=>?_⟩
 obtain ⟨f,b,rfl,hb,k⟩:=h
 refine ⟨_,zf (zq (pe_cmpR op_in_top (pv 0) (pe_gref S.hF) rfl)),?_⟩
 rcases hb with ⟨hf,rfl⟩ | ⟨hf,rfl⟩
 ·obtain ⟨u,hu⟩:=S.has hf
  exact ⟨_,rfl,f,aF,some u,rfl,rfl,S.T,S.lo,hu,k⟩
 ·rcases hf with rfl | rfl
  ·exact ⟨_,rfl,_,aF,none,rfl,rfl,S.T,S.lo,S.n1,k⟩
  ·exact ⟨_,rfl,_,aF,none,rfl,rfl,S.T,S.lo,S.n2,k⟩
def spJ:Sp:=fun vs H Q _=>∃ f a b,vs=[.str f,.int a,.int b]/\Fd9 f/\Kin a/\Q (.int (opF f a b)) H
abbrev J3 (P:Program) (w:World) (K:PySem.W.Frag) (mg:Str->Option Value) (base:Heap):Prop:=Ok P w K mg base (CXe P w base) 3 "joined" ["fold","run","number"] spJ
theorem ok_joined {aF aO:Addr} (d:zn K mg "joined" s_joined ["fold","run","number"]) (S:Folds w K mg aF aO) (FR:Ok P w K mg base (CXe P w base) 1 "free" ["fold"] spFree) (f:FnsF P w K mg base):J3 P w K mg base:=by
 obtain ⟨g,fd,m,F,b⟩:=d
 refine ⟨g,fd,m,F.kp,b,F.okE sc_joined (by rintro vs H Q E ⟨_,_,_,rfl,_⟩;rfl) fun cdv A outer s H vs Q E hr h=>?_⟩
 obtain ⟨fo,x,y,rfl,hf,hx,k⟩:=h
 refine ⟨_,zc (zV (xF (zD FR (hr.mono (by decide)) rfl passE (za (pv 0) zb))) (zf (zq (pe_callV (CX:=CXe P w base) (k:=2) (zy ix_top (pe_gref S.hF) (pv 0) (fun _ _=>rfl)) hr passE (za (pv 1) (za (pv 2) zb))))) zI)
  (zf (zq (pe_callV (CX:=CXe P w base) (k:=2) (zy ix_top (pe_gref S.hO) (pv 0) (fun _ _=>rfl)) hr passE (za (pv 1) (za (pv 2) zb))))),?_⟩
 have use:∀ (aD:Addr) (nm:Str) (ps:List Str) (sp:Sp),xz w K aD->FoldAt K mg aD fo nm->OL P w K mg base nm ps sp->sp [.int x,.int y] H Q E ->
   ∃ (a:Addr) (k:Str) (u:Value) (v:V),V.ref aD=.ref a/\V.str fo=.str k/\xz w K a/\PySem.W.nsIn K a k=some (some u)/\RelV v u /\
    ∃ (f:Addr) (fd:FuncData) (ps:List Str) (sp:Sp),v=.ref f/\FnOk P w K mg base (CXe P w base) 2 f fd ps sp/\PySem.W.keepIn K (.ref f)=true/\Binds K fd ps []/\sp [.int x,.int y] H Q E:=by
  intro aD nm ps sp T ⟨f1,e1,m1⟩ ⟨f2,fd2,m2,kp,bb,ok⟩ q
  have e:=m1.symm.trans m2
  cases e
  exact ⟨aD,fo,.ref f1,.ref f1,rfl,rfl,T,e1,rfl,f1,fd2,_,sp,rfl,ok,kp,bb,q⟩
 rcases hf with h7 | h2
 ·refine ⟨_,rfl,fo,true,rfl,.inl ⟨h7,rfl⟩,true,rfl,iteT ?_⟩
  suffices h:∃ (nm:Str) (ps:List Str) (sp:Sp),FoldAt K mg aF fo nm/\OL P w K mg base nm ps sp/\sp [.int x,.int y] H Q E by
   obtain ⟨nm,ps,sp,a1,a2,a3⟩:=h
   obtain ⟨a,k,u,v,e1,e2,t,e3,r,f,fd,ps,sp',e4,ok,kp,bb,q⟩:=use aF nm ps sp S.T a1 a2 a3
   exact ⟨_,rfl,a,k,u,v,e1,e2,t,e3,r,f,fd,ps,sp',e4,ok,kp,bb,_,rfl,_,rfl,q⟩
  simp only [xw,List.mem_cons,List.not_mem_nil,or_false] at h7
  rcases h7 with rfl | rfl | rfl | rfl | rfl | rfl | rfl
  ·exact ⟨_,_,_,S.s1,f.f1,x,y,rfl,trivial,k⟩
  ·exact ⟨_,_,_,S.s2,f.f2,x,y,rfl,hx,k⟩
  ·exact ⟨_,_,_,S.s3,f.f3,x,y,rfl,trivial,k⟩
  ·exact ⟨_,_,_,S.s4,f.f4,x,y,rfl,trivial,k⟩
  ·exact ⟨_,_,_,S.s5,f.f5,x,y,rfl,trivial,k⟩
  ·exact ⟨_,_,_,S.s6,f.f6,x,y,rfl,trivial,k⟩
  ·exact ⟨_,_,_,S.s7,f.f7,x,y,rfl,trivial,k⟩
 ·refine ⟨_,rfl,fo,false,rfl,.inr ⟨h2,rfl⟩,false,rfl,yx ?_⟩
  suffices h:∃ (nm:Str) (ps:List Str) (sp:Sp),FoldAt K mg aO fo nm/\OL P w K mg base nm ps sp/\sp [.int x,.int y] H Q E by
   obtain ⟨nm,ps,sp,a1,a2,a3⟩:=h
   obtain ⟨a,k,u,v,e1,e2,t,e3,r,f,fd,ps,sp',e4,ok,kp,bb,q⟩:=use aO nm ps sp S.T' a1 a2 a3
   exact ⟨_,rfl,a,k,u,v,e1,e2,t,e3,r,f,fd,ps,sp',e4,ok,kp,bb,_,rfl,_,rfl,q⟩
  rcases h2 with rfl | rfl
  ·exact ⟨_,_,_,S.s8,f.f8,x,y,rfl,hx,k⟩
  ·exact ⟨_,_,_,S.s9,f.f9,x,y,rfl,trivial,k⟩
theorem fold1_one {op:Int->Int->Int} {ms:List Int} (h:0<ms.length):My.fold1 op (ms.take 1)=ms.getD 0 0:=by
 cases ms with
 | nil=>simp at h
 | cons a l=>rfl
theorem at_last {ns:List Int} (h:0<ns.length):atI (ns.map V.int) (-1)=some (.int (ns.getD (ns.length-1) 0)):=by
 unfold atI ixN
 rw [if_neg (by decide),if_pos (by rw [List.length_map];omega)]
 rw [List.length_map]
 show (ns.map V.int)[((-1:Int)+ns.length).toNat]?=_
 rw [show ((-1:Int)+ns.length).toNat=ns.length-1 by omega,List.getElem?_map,List.getD_eq_getElem?_getD,List.getElem?_eq_getElem (show ns.length-1<ns.length by omega)]
 rfl
theorem half_size {n:Nat}:Builtin.Range.rangeSize 1 (n:Int) 2=((n / 2:Nat):Int):=by
 unfold Builtin.Range.rangeSize
 rw [if_pos (by decide)]
 split <;> omega
def spHv (K:PySem.W.Frag):Sp:=fun vs H Q _=>∃ (f:Str) (p:Addr) (ns:List Int),vs=[.str f,.ref p]/\f∈xw/\SqL K H p (ns.map V.int)/\ns.length<=400/\(∀ v∈ns,Kin v) /\
 ∀ (H':Hp) (D:Addr),Hd H [(D,.lst ((My.halve (opF f) ns).map V.int))] H'->Q (.ref D) H'
theorem ok_halved (d:zn K mg "halved" s_halved ["fold","numbers"]) (J:J3 P w K mg base) (hlen:mg "len"=none) (hrg:mg "range"=none):Ok P w K mg base CX0 4 "halved" ["fold","numbers"] (spHv K):=by
 obtain ⟨g,fd,m,F,b⟩:=d
 refine ⟨g,fd,m,F.kp,b,F.ok sc_halved (by rintro vs H Q E ⟨_,_,_,rfl,_⟩;rfl) fun cdv A outer s H vs Q E hr h=>?_⟩
 obtain ⟨f,p,ns,rfl,hf,hS,hn,hk,k⟩:=h
 have nd:=sc_halved.nd
 have hr3:=hr
 have Fr:=opF_free hf
 have SL:(2000:Nat)<sizeLine:=by decide
 refine ⟨_,(zc (xX (i:=2) ["at","fold","numbers"] [none,some 0,some 1] rfl rfl rfl (pi_range3 rfl hrg (za ze (za (zv zG (by rfl) hlen PySem.boot_len (za (pv 1) zb)) (za ze zb)))) (fun s3 H3 fp=>⟨zB (i:=0) (show ((["at","fold","numbers"]:List Str)).Nodup by decide +kernel) rfl (Or.inl rfl),(zD J hr3 (by rfl) passF (za (pv 1) (za (zy (xY (K:=K) rfl) (pv 2) (zi op_sub (pv 0) ze) (fun _ _=>rfl)) (za (zy (xY (K:=K) rfl) (pv 2) (pv 0) (fun _ _=>rfl)) zb))))⟩) nd rfl (Or.inl rfl))
   (zc (ps_mid (zV (zH yF (zi yU (zv zG (by rfl) hlen PySem.boot_len (za (pv 1) zb)) ze) ze (zL _)) (zf (zQ (pe_bm PySem.F.plainAttrs_list PySem.F.slot_list_append PySem.F.type_list_append yO (pv 2) (za (zy zR (pv 1) (pe_un un_neg ze) (fun _ _=>rfl)) zb)))) zI))
   (zf (zq (pv 2))))),?_⟩
 refine ⟨_,rfl,p,_,rfl,.inl hS,_,_,_,ns.length / 2,rfl,⟨by decide,by decide,by omega,?_,by decide,by decide⟩,?_,_,rfl,fun D nD=>?_⟩
 ·rw [List.length_map];omega
 ·rw [List.length_map];exact half_size
 have h:Hd H [(D,.lst [])] _:=Hd.base.new nD
 refine comp_step (D:=D) (fun i σ H4=>∃ u,σ=[u,some (.str f),some (.ref p)]/\Hd H [(D,.lst ((My.pairs (opF f) ns i).map V.int))] H4) ⟨none,rfl,h⟩ ?_ ?_
 ·rintro i σ H4 hi ⟨u,rfl,h⟩
  refine ⟨_,rfl,_,rfl,_,rfl,_,_,rfl,rfl,p,_,_,_,rfl,rfl,h.sql hS,yP (2*i) (by omega) (by omega),_,rfl,_,rfl,p,_,_,_,rfl,rfl,h.sql hS,yP (2*i+1) (by omega) (by omega),f,_,_,rfl,.inl hf,hk _ (L2.getD_mem (by omega)),_,h.get 0 rfl,?_,_,rfl,?_⟩
  ·rw [List.length_map];unfold My.pairs;rw [List.length_map,List.length_range];omega
  ·have e:My.pairs (opF f) ns (i+1)=My.pairs (opF f) ns i++[opF f (ns.getD (2*i) 0) (ns.getD (2*i+1) 0)]:=by
    unfold My.pairs;rw [List.range_succ,List.map_append];rfl
   rw [e,List.map_append]
   exact h.put 0 rfl
 clear h
 rintro σ H4 ⟨u,rfl,h⟩
 refine ⟨fun σ' H'=>σ'=[some (.str f),some (.ref p),some (.ref D),none]/\Hd H [(D,.lst ((My.halve (opF f) ns).map V.int))] H',?_,?_⟩
 ·refine ⟨_,rfl,p,_,rfl,.inl (h.sql hS),_,_,rfl,rfl,(by show (0:Int)<2;decide),rfl,_,rfl,?_⟩
  rw [List.length_map]
  refine ite2 (fun z=>?_) (fun z=>?_)
  ·have z:V.int ((ns.length:Int) % 2)=V.int 1:=by simpa using z
   injection z with z
   have z':ns.length % 2=1:=by omega
   refine ⟨_,rfl,.inl ⟨rfl,_,h.lst 0 rfl⟩,_,rfl,_,rfl,p,_,_,_,rfl,rfl,h.sql hS,at_last (by omega),D,_,_,rfl,rfl,h.get 0 rfl,?_,rfl,?_⟩
   ·rw [List.length_map];unfold My.pairs;rw [List.length_map,List.length_range];omega
   ·unfold My.halve
    rw [if_pos z',List.map_append]
    exact h.put 0 rfl
  ·have z':¬ ns.length % 2=1:=fun e=>z (by show decide (V.int ((ns.length:Int) % 2)=V.int 1)=true;rw [show ((ns.length:Int) % 2)=1 by omega];exact decide_eq_true rfl)
   refine ⟨rfl,?_⟩
   unfold My.halve
   rw [if_neg z',List.append_nil]
   exact h
 clear h
 rintro σ H4 ⟨rfl,h⟩
 exact ⟨_,rfl,k _ D h⟩
def Bar (x:Addr) (H H':Hp):Prop:=∀ b o,b≠x->H b=some o->H' b=some o
theorem Bar.trans {x:Addr} {H H' H'':Hp} (a:Bar x H H') (b:Bar x H' H''):Bar x H H'':=fun c o n z=>b c o n (a c o n z)
theorem Bar.same {x:Addr} {H H' H'':Hp} (a:Bar x H H') (b:Same H' H''):Bar x H H'':=fun c o n z=>b c o (a c o n z)
def hv (n:Nat):Nat:=if n<=1 then 0 else 1+hv ((n+1) / 2)
termination_by n
decreasing_by omega
theorem hv_one {n:Nat} (h:n<=1):hv n=0:=by unfold hv;rw [if_pos h]
theorem hv_two {n:Nat} (h:1<n):hv n=1+hv ((n+1) / 2):=by conv=>lhs;unfold hv;rw [if_neg (by omega)]
def CjW (K:PySem.W.Frag) (C dx l:Addr) (fs:List Int) (f:Str) (p x:Addr) (ns:List Int) (q0:Nat) (H:Hp) (m:Nat) (σ:St) (H':Hp):Prop :=
 ∃ (L:Addr) (ls:List Int) (u4:Option V) (q:Nat),σ=[some (.str f),some (.ref p),some (.ref x),some (.ref L),u4]/\Bar x H H'/\H' x=some (zJ C dx l (fAt fs q))/\H' L=some (.lst (ls.map V.int))/\0<ls.length/\ls.length<=400/\(∀ v∈ls,Kin v)/\My.fold1 (opF f) ls=My.fold1 (opF f) ns/\q+hv ls.length=q0+hv ns.length/\m=ls.length
def spCJ (K:PySem.W.Frag) (C:Addr):Sp:=fun vs H Q _=>∃ (f:Str) (p x dx l:Addr) (ns fs:List Int) (q:Nat),vs=[.str f,.ref p,.ref x]/\f∈xw/\SqL K H p (ns.map V.int)/\0<ns.length/\ns.length<=400/\(∀ v∈ns,Kin v)/\H x=some (zJ C dx l (fAt fs q))/\H l=some (.lst (fs.map V.int)) /\
 ∀ (H':Hp),Bar x H H'->H' x=some (zJ C dx l (fAt fs (q+hv ns.length)))->Q (.int (My.fold1 (opF f) ns)) H'
theorem ok_cut {C:Addr} (d:zn K mg "cut_join" xE ["fold","numbers","feed"]) (bC:FCls K C) (HV:Ok P w K mg base CX0 4 "halved" ["fold","numbers"] (spHv K)) (TK:OkM P w K mg base CX0 1 C "taken" ["self"] (spTaken C)) (hlen:mg "len"=none) (hlist:mg "list"=none) :
  Ok P w K mg base CX0 5 "cut_join" ["fold","numbers","feed"] (spCJ K C):=by
 obtain ⟨g,fd,m,F,b⟩:=d
 refine ⟨g,fd,m,F.kp,b,F.ok sc_cut_join (by rintro vs H Q E ⟨_,_,_,_,_,_,_,_,rfl,_⟩;rfl) fun cdv A outer s H vs Q E hr h=>?_⟩
 obtain ⟨f,p,x,dx,l,ns,fs,q0,rfl,hf,hS,h0,hn,hk,hx,hl,k⟩:=h
 have nd:=sc_cut_join.nd
 have hr4:=hr
 have hr1:Room 1 _:=hr.mono (by decide)
 have cC:=bC.c
 have Fr:=opF_free hf
 have SL:(2000:Nat)<sizeLine:=by decide
 have nxl:l≠x:=fun e=>by rw [e,hx] at hl;cases hl
 refine ⟨_,(zc (zu (i:=3) nd rfl (Or.inl rfl) (ye zY (by rfl) hlist PyProof.Rows.boot_list (za (pv 1) zb)))
   (zc (ps_while PassesOwn.never (zH op_gt (zv zG (by rfl) hlen PySem.boot_len (za (pv 3) zb)) ze (zL _)) (zc (zu (i:=4) nd rfl (Or.inl rfl) (zi yU (pe_okM0 TK cC hr1 zr (pv 2)) (zv zG (by rfl) hlen PySem.boot_len (za (pv 3) zb))))
   (zf (zu (i:=3) nd rfl (Or.inl rfl) (zD HV hr4 (by rfl) zr (za (pv 0) (za (zi op_cat (yT xu (pv 3) (xg (pv 4)) xJ) (yT xu (pv 3) xJ (xg (pv 4)))) zb)))))))
   (zf (zq (zy zR (pv 3) ze (fun _ _=>rfl)))))),?_⟩
 refine ⟨_,rfl,p,_,rfl,.inl hS,fun T nT=>?_⟩
 have nTx:x≠T:=zw hx nT
 refine ⟨CjW K C dx l fs f p x ns q0 H,⟨_,T,ns,none,q0,rfl,(fun c o _ z=>by rw [zo (zw z nT)];exact z),by rw [zo nTx];exact hx,zg,h0,hn,hk,rfl,rfl,rfl⟩,?_⟩
 rintro m σ H' ⟨L,ls,u4,q,rfl,br,ex,eL,l0,ln,lk,lf,lq,rfl⟩
 refine ⟨_,rfl,L,_,rfl,.inl (SqL.of eL),_,_,rfl,rfl,_,rfl,?_⟩
 rw [List.length_map]
 refine ite2 (fun z=>?_) (fun z=>?_)
 ·have z:(1:Int)<(ls.length:Int):=by simpa using z
  refine ⟨fun σ' H'=>∃ m',m'<ls.length/\CjW K C dx l fs f p x ns q0 H m' σ' H',fun _ _ q=>q,?_⟩
  refine ⟨_,rfl,x,dx,_,rfl,ex,rfl,x,dx,l,fs,q,rfl,ex,br l _ nxl hl,fun H1 k1 e1=>?_⟩
  have nL:L≠x:=fun e=>by rw [e,ex] at eL;cases eL
  have eL1:=k1 L _ nL eL
  refine ⟨_,rfl,L,_,rfl,.inl (SqL.of eL1),_,_,rfl,rfl,?_,?_⟩
  ·rw [List.length_map];omega
  rw [List.length_map]
  have c0:=Int.emod_nonneg (fVal fs q) (show (ls.length:Int)≠0 by omega)
  have c1:=Int.emod_lt_of_pos (fVal fs q) (show (0:Int)<(ls.length:Int) by omega)
  dsimp only
  generalize fVal fs q % (ls.length:Int)=cu at c0 c1 ⊢
  refine ⟨_,rfl,_,rfl,_,rfl,_,rfl,L,_,rfl,SqL.of eL1,fun S1 n1=>?_⟩
  rw [cutV_from c0]
  have h:=Hd.base.new (o:=.lst ((ls.drop cu.toNat).map V.int)) n1
  have eL2:=h.sm _ _ eL1
  refine ⟨_,rfl,_,rfl,_,rfl,L,_,rfl,SqL.of eL2,fun S2 n2=>?_⟩
  rw [xU c0]
  have h:=h.new (o:=.lst ((ls.take cu.toNat).map V.int)) n2
  refine ⟨S1,S2,_,_,rfl,rfl,h.get 1 rfl,h.get 0 rfl,?_,fun R nR=>?_⟩
  ·rw [List.length_map,List.length_map,List.length_drop,List.length_take];omega
  have h:=h.new (o:=.lst ((ls.drop cu.toNat).map V.int++(ls.take cu.toNat).map V.int)) nR
  rw [← List.map_append] at h ⊢
  have pm:=My.turned_perm (ns:=ls) cu.toNat
  have pl:=pm.length_eq
  have pk:∀ v∈ls.drop cu.toNat++ls.take cu.toNat,Kin v:=fun v hv=>lk v (pm.mem_iff.mp hv)
  refine ⟨f,R,_,rfl,hf,h.lst 0 rfl,by omega,pk,fun H5 D h5=>?_⟩
  have s5:Same H1 H5:=h.sm.trans h5.sm
  refine ⟨(My.halve (opF f) (ls.drop cu.toNat++ls.take cu.toNat)).length,?_,D,_,_,q+1,rfl,(br.trans k1).same s5,s5 _ _ e1,h5.get 0 rfl,?_,?_,My.halve_kin Fr pk,?_,?_,rfl⟩
  ·rw [My.halve_len,pl];omega
  ·rw [My.halve_len,pl];omega
  ·rw [My.halve_len,pl];omega
  ·rw [My.halve_fold Fr pk (by omega),My.fold1_perm Fr pm pk,lf]
  ·rw [My.halve_len,pl,← lq]
   have:=hv_two (n:=ls.length) (by omega)
   omega
 ·have z:¬ (1:Int)<(ls.length:Int):=by simpa using z
  refine ⟨_,rfl,L,_,0,_,rfl,rfl,SqL.of eL,yP 0 l0 rfl,?_⟩
  have e:ls.getD 0 0=My.fold1 (opF f) ns:=by
   rw [← lf]
   have y:=fold1_one (op:=opF f) l0
   rw [List.take_of_length_le (by omega)] at y
   exact y.symm
  rw [e]
  rw [hv_one (by omega)] at lq
  exact k _ br (by rw [← lq];exact ex)
def DbW (K:PySem.W.Frag) (f:Str) (p:Addr) (ns:List Int) (H:Hp) (m:Nat) (σ:St) (H':Hp):Prop :=
 ∃ (T:Addr) (d:Nat) (u4:Option V),σ=[some (.str f),some (.ref p),some (.ref T),some (.int d),u4,none]/\Hd H [(T,.lst ((My.wins (opF f) ns d).map V.int))] H'/\0<d/\d<=1000/\m=ns.length-d
def spDb (K:PySem.W.Frag):Sp:=fun vs H Q _=>∃ (f:Str) (p:Addr) (ns:List Int),vs=[.str f,.ref p]/\f∈xw/\SqL K H p (ns.map V.int)/\ns.length<=400/\(∀ v∈ns,Kin v) /\
 ∀ (H':Hp) (T:Addr) (d:Nat),ns.length<=d->Hd H [(T,.lst ((My.wins (opF f) ns d).map V.int))] H'->Q (.ref T) H'
theorem ok_doubled (d:zn K mg "doubled" xR ["fold","numbers"]) (J:J3 P w K mg base) (hlen:mg "len"=none) (hrg:mg "range"=none) (hlist:mg "list"=none):Ok P w K mg base CX0 4 "doubled" ["fold","numbers"] (spDb K):=by
 obtain ⟨g,fd,m,F,b⟩:=d
 refine ⟨g,fd,m,F.kp,b,F.ok sc_doubled (by rintro vs H Q E ⟨_,_,_,rfl,_⟩;rfl) fun cdv A outer s H vs Q E hr h=>?_⟩
 obtain ⟨f,p,ns,rfl,hf,hS,hn,hk,k⟩:=h
 have nd:=sc_doubled.nd
 have hr3:=hr
 have Fr:=opF_free hf
 have SL:(2000:Nat)<sizeLine:=by decide
 refine ⟨_,(zc (zu (i:=2) nd rfl (Or.inr rfl) (ye zY (by rfl) hlist PyProof.Rows.boot_list (za (pv 1) zb)))
   (zc (zu (i:=3) nd rfl (Or.inr rfl) ze)
   (zc (ps_while PassesOwn.never (zH op_lt (pv 3) (zv zG (by rfl) hlen PySem.boot_len (za (pv 2) zb)) (zL _)) (zc (xX (i:=4) ["at","fold","told","ahead"] [none,some 0,some 2,some 3] rfl rfl rfl (pi_range2 rfl hrg (za (pv 3) (za (zv zG (by rfl) hlen PySem.boot_len (za (pv 2) zb)) zb))) (fun s3 H3 fp=>⟨zB (i:=0) (show ((["at","fold","told","ahead"]:List Str)).Nodup by decide +kernel) rfl (Or.inl rfl),(zD J hr3 (by rfl) passF (za (pv 1) (za (zy (xY (K:=K) rfl) (pv 2) (zi op_sub (pv 0) (pv 3)) (fun _ _=>rfl)) (za (zy (xY (K:=K) rfl) (pv 2) (pv 0) (fun _ _=>rfl)) zb))))⟩) nd rfl (Or.inl rfl))
   (zc (zu (i:=2) nd rfl (Or.inr rfl) (zi op_cat (yT xu (pv 2) xJ (xg (pv 3))) (pv 4)))
   (zf (zu (i:=3) nd rfl (Or.inr rfl) (zi ya (pv 3) ze))))))
   (zf (zq (pv 2)))))),?_⟩
 refine ⟨_,rfl,p,_,rfl,.inl hS,fun T nT=>?_⟩
 refine ⟨DbW K f p ns H,⟨_,T,1,none,rfl,?_,by decide,by decide,rfl⟩,?_⟩
 ·rw [My.wins_one];exact Hd.base.new nT
 rintro m σ H' ⟨T,d,u4,rfl,h,hd,hd2,rfl⟩
 refine ⟨_,rfl,_,rfl,T,_,rfl,.inl (h.lst 0 rfl),_,_,rfl,rfl,_,rfl,?_⟩
 rw [List.length_map,My.wins_len]
 refine ite2 (fun z=>?_) (fun z=>?_)
 ·have z:(d:Int)<(ns.length:Int):=by simpa using z
  have hlt:d<ns.length:=by omega
  refine ⟨fun σ' H'=>∃ m',m'<ns.length-d/\DbW K f p ns H m' σ' H',fun _ _ q=>q,?_⟩
  refine ⟨_,rfl,_,rfl,T,_,rfl,.inl (h.lst 0 rfl),_,_,rfl,⟨by omega,by omega,?_,?_⟩,_,rfl,fun D nD=>?_⟩
  ·rw [List.length_map,My.wins_len];omega
  ·rw [List.length_map,My.wins_len];omega
  rw [List.length_map,My.wins_len,show ((ns.length:Int)-d).toNat=ns.length-d by omega]
  have h:=h.new (o:=.lst []) nD
  refine xj (lo:=(d:Int)) (D:=D) (n:=ns.length-d) (fun i σ H4=>∃ u,σ=[u,some (.str f),some (.ref T),some (.int d)] /\
   Hd H [(D,.lst (((List.range i).map fun i=>opF f ((My.wins (opF f) ns d).getD i 0) ((My.wins (opF f) ns d).getD (d+i) 0)).map V.int)),(T,.lst ((My.wins (opF f) ns d).map V.int))] H4) ⟨none,rfl,h⟩ ?_ ?_
  ·rintro i σ H4 hi ⟨u,rfl,h⟩
   have l0:(My.wins (opF f) ns d).length=ns.length:=My.wins_len
   refine ⟨_,rfl,_,rfl,_,rfl,_,rfl,_,_,rfl,rfl,T,_,_,_,rfl,rfl,h.lst 1 rfl,yP i (by omega) (by omega),_,rfl,_,rfl,T,_,_,_,rfl,rfl,h.lst 1 rfl,yP (d+i) (by omega) (by omega),f,_,_,rfl,.inl hf,?_,_,h.get 0 rfl,?_,_,rfl,?_⟩
   ·rw [My.wins_at (by omega)]
    exact My.win_kin Fr hk hd (by omega)
   ·rw [List.length_map,List.length_map,List.length_range];omega
   ·rw [List.range_succ,List.map_append,List.map_append]
    exact h.put 0 rfl
  rintro σ H4 ⟨u,rfl,h⟩
  refine ⟨_,rfl,_,rfl,_,rfl,T,_,rfl,h.lst 1 rfl,fun S nS=>?_⟩
  rw [xU (by omega)]
  have h:=h.new (o:=.lst (((My.wins (opF f) ns d).take (d:Int).toNat).map V.int)) nS
  refine ⟨_,rfl,S,D,_,_,rfl,rfl,h.get 0 rfl,h.get 1 rfl,?_,fun R nR=>?_⟩
  ·rw [List.length_map,List.length_map,List.length_map,List.length_take,List.length_range,My.wins_len];omega
  have h:=h.new (o:=.lst (((My.wins (opF f) ns d).take (d:Int).toNat).map V.int++((List.range (ns.length-d)).map fun i=>opF f ((My.wins (opF f) ns d).getD i 0) ((My.wins (opF f) ns d).getD (d+i) 0)).map V.int)) nR
  rw [← List.map_append,Int.toNat_natCast,My.wins_two Fr hk hd hlt] at h ⊢
  refine ⟨_,rfl,_,_,rfl,rfl,.inr ⟨by decide,by decide⟩,ns.length-d*2,by omega,R,d*2,_,rfl,?_,by omega,by omega,rfl⟩
  exact h.sub (List.Sublist.cons₂ _ (List.nil_sublist _))
 ·have z:¬ (d:Int)<(ns.length:Int):=by simpa using z
  exact ⟨_,rfl,k _ T d (by omega) h⟩
end
end K40
namespace K40
open PySem L2
theorem opF_kin {f:Str} (h:Fd9 f) {a b:Int} (ha:Kin a) (hb:Kin b):Kin (opF f a b):=by
 rcases h with h | rfl | rfl
 ·exact (opF_free h).cl a b ha hb
 ·show Kin (kept (31*a+b))
  rw [kept_my];exact My.kept_kin _
 ·show Kin (capI a b)
  rw [show capI a b=if a+b > 1000000000 then 1000000000 else if a+b < -1000000000 then -1000000000 else a+b by unfold capI;(repeat' split) <;> omega]
  unfold Kin
  repeat' split
  all_goals omega
theorem xZ {f:Str} (h:Fd9 f):∀ (l:List Int) (a:Int),Kin a->(∀ v∈l,Kin v)->Kin (l.foldl (opF f) a)
 | [],a,ha,_=>ha
 | b::l,a,ha,hl=>xZ h l _ (opF_kin h ha (hl b List.mem_cons_self)) fun v hv=>hl v (List.mem_cons_of_mem _ hv)
theorem free_fold {f:Str} (h:f∈xw) {run:Int} {ns:List Int} (n0:0<ns.length) (hr:Kin run) (hk:∀ v∈ns,Kin v):opF f run (My.fold1 (opF f) ns)=ns.foldl (opF f) run:=by
 match ns,n0 with
 | n::t,_ =>
  have:=My.foldl_as (opF_free h) t run n hr (hk n List.mem_cons_self) fun v hv=>hk v (List.mem_cons_of_mem _ hv)
  exact this.symm
theorem MAt.bar {c:MCs} {B:Hp} {A:Ma} {M:Mc} {R:List (Addr×HO)} {H H':Hp} (m:MAt c B A M R H) (b:Bar A.fp H H') (q:Nat) (e:H' A.fp=some (zJ c.fe A.dfp A.aP (fAt M.picks q))):MAt c B A { M with pq:=q } R H':=by
 have m1:MAt c B A { M with pq:=q } R (upd H A.fp (zJ c.fe A.dfp A.aP (fAt M.picks q))):=⟨⟨m.bb.lens,m.bb.starts,m.bb.bx,m.bb.msk,m.bb.ml,m.bb.dl,m.bb.pl,m.bb.tl,m.bb.tt,m.bb.ul,m.bb.uu,m.bb.rf⟩,m.h.put (o':=zJ c.fe A.dfp A.aP (fAt M.picks q)) 5 rfl⟩
 refine m1.same fun x o z=>?_
 by_cases y:x=A.fp
 ·subst y;rw [zg] at z;rw [← z];exact e
 ·rw [zo y] at z;exact b x o y z
def pqOf (f:Str) (n:Nat):Nat:=if f∈xw then hv n else 0
section
variable {P:Program} {w:World} {K:PySem.W.Frag} {mg:Str->Option Value} {base:Heap}
def spFo (c:MCs):Sp:=fun vs H Q _=>∃ (B:Hp) (A:Ma) (M:Mc) (R:List (Addr×HO)) (f:Str) (run:Int) (l:Addr) (ns:List Int),vs=[.ref A.b,.str f,.int run,.ref l]/\MAt c B A M R H/\Fd9 f/\Kin run/\B l=some (.lst (ns.map V.int))/\0<ns.length/\ns.length<=400/\(∀ v∈ns,Kin v) /\
 ∀ H',MAt c B A { M with pq:=M.pq+pqOf f ns.length } R H'->Q (.int (ns.foldl (opF f) run)) H'
theorem ok_folded {c:MCs} (d:zn K mg "folded" s_folded ["bench","fold","run","numbers"]) (CC:MCls K c) (FR:Ok P w K mg base (CXe P w base) 1 "free" ["fold"] spFree) (J:J3 P w K mg base) (CJ:Ok P w K mg base CX0 5 "cut_join" ["fold","numbers","feed"] (spCJ K c.fe)) :
  Ok P w K mg base CX0 6 "folded" ["bench","fold","run","numbers"] (spFo c):=by
 obtain ⟨g,fd,m,F,b⟩:=d
 refine ⟨g,fd,m,F.kp,b,F.ok sc_folded (by rintro vs H Q E ⟨_,_,_,_,_,_,_,_,rfl,_⟩;rfl) fun cdv A outer s H vs Q E hr h=>?_⟩
 obtain ⟨B,A,M,R,f,run,l,ns,rfl,m,h9,hrun,el,n0,n4,hk,q⟩:=h
 have nd:=sc_folded.nd
 have hr5:=hr
 have hr1:=hr.mono (show 1<=5 by decide)
 have hr3:=hr.mono (show 3<=5 by decide)
 have CN:=CC.n
 refine ⟨_,(zc (zV (xF (zD FR hr1 (by rfl) passF (za (pv 1) zb))) (zf (zq (zD J hr3 (by rfl) passF (za (pv 1) (za (pv 2) (za (zD CJ hr5 (by rfl) zr (za (pv 1) (za (pv 3) (za (zC (pv 0) rfl) zb)))) zb)))))) zI)
   (zc (xc PassesOwn.never rfl (xv (pv 3)) (zB (i:=4) nd rfl (Or.inl rfl)) (zf (zu (i:=2) nd rfl (Or.inl rfl) (zD J hr3 (by rfl) passF (za (pv 1) (za (pv 2) (za (pv 4) zb)))))))
   (zf (zq (pv 2))))),?_⟩
 dsimp only [yt,Cx.nox,Cx.wish]
 rcases h9 with h7 | h2
 ·have ep:pqOf f ns.length=hv ns.length:=if_pos h7
  rw [ep] at q
  refine ⟨_,rfl,f,true,rfl,.inl ⟨h7,rfl⟩,_,rfl,iteT ?_⟩
  refine ⟨_,rfl,_,rfl,_,rfl,_,rfl,_,rfl,A.b,_,_,_,.ref A.fp,rfl,m.b,CN.c,CN.picks,rfl,f,l,A.fp,A.dfp,A.aP,ns,M.picks,M.pq,rfl,h7,SqL.of (m.h.sm _ _ el),n0,n4,hk,m.h.get 5 rfl,m.h.sm _ _ m.bb.pl,fun H1 br e=>?_⟩
  refine ⟨f,run,_,rfl,.inl h7,hrun,?_⟩
  have:=q H1 (m.bar br _ e)
  rw [← free_fold h7 n0 hrun hk] at this
  exact this
 ·have ep:pqOf f ns.length=0:=if_neg (by rcases h2 with rfl | rfl <;> decide)
  rw [ep] at q
  refine ⟨_,rfl,f,false,rfl,.inr ⟨h2,rfl⟩,_,rfl,yx ?_⟩
  refine ⟨_,rfl,l,rfl,⟨_,SqL.of (m.h.sm _ _ el)⟩,?_⟩
  refine for_list (K:=K) (a:=l) (xs:=ns.map V.int) (fun i σ J=>∃ u4,σ=[some (.ref A.b),some (.str f),some (.int ((ns.take i).foldl (opF f) run)),some (.ref l),u4]/\J=H) ⟨none,rfl,rfl⟩ (fun i σ J _ ⟨_,_,e⟩=>by rw [e];exact SqL.of (m.h.sm _ _ el)) ?_ ?_
  ·rintro i y σ J hy ⟨u4,rfl,rfl⟩
   obtain ⟨n,e9,rfl⟩:=ym hy
   have et:(ns.take (i+1)).foldl (opF f) run=opF f ((ns.take i).foldl (opF f) run) n:=by rw [List.take_add_one,e9,List.foldl_append];rfl
   rw [et]
   exact ⟨_,rfl,_,rfl,_,rfl,f,_,_,rfl,.inr h2,xZ (.inr h2) _ _ hrun (fun v hv=>hk v (List.mem_of_mem_take hv)),_,rfl,rfl⟩
  ·rintro σ J ⟨u4,rfl,rfl⟩
   rw [List.length_map,List.take_length]
   exact ⟨_,rfl,q _ m⟩
end
end K40
namespace K40
open PySem L2
def Mc.numsOf (M:Mc) (p k:Nat):List Int:=(M.act k).map (M.numAt p)
def Mc.foldd (M:Mc) (r:Nat) (f:Str) (ns:List Int):Mc:=({ M.touched "read" (M.adr r 0) with pq:=M.pq+pqOf f ns.length }:Mc).wrote r 0 (ns.foldl (opF f) (M.cells.getD (M.adr r 0).toNat 0))
open Classical in
noncomputable def foldM:EfM:=fun tv M=>match (tv[1]?:Option V),(tv[2]?:Option V),(tv[3]?:Option V),(tv[4]?:Option V) with
 | some (V.int r),some (V.str f),some (V.int p),some (V.int k)=>if 0<=r/\r.toNat<M.starts.length/\(0<=M.adr r.toNat 0/\(M.adr r.toNat 0).toNat<M.cells.length)/\0<=p/\(p+1)*M.group<=8/\0<=k/\k<16/\Fd9 f/\(∀ v∈M.numsOf p.toNat k.toNat,Kin v)/\Kin (M.cells.getD (M.adr r.toNat 0).toNat 0)/\M.touches.length<90000 then some (if M.numsOf p.toNat k.toNat=[] then M else M.foldd r.toNat f (M.numsOf p.toNat k.toNat)) else none
 | _,_,_,_=>none
theorem foldM_is {tv:List V} {M M':Mc} (h:foldM tv M=some M'):∃ (r:Nat) (f:Str) (p k:Nat),tv[1]?=some (.int r)/\tv[2]?=some (.str f)/\tv[3]?=some (.int p)/\tv[4]?=some (.int k)/\r<M.starts.length/\(0<=M.adr r 0/\(M.adr r 0).toNat<M.cells.length)/\((p:Int)+1)*M.group<=8/\k<16/\Fd9 f/\(∀ v∈M.numsOf p k,Kin v)/\Kin (M.cells.getD (M.adr r 0).toNat 0)/\M.touches.length<90000/\M'=if M.numsOf p k=[] then M else M.foldd r f (M.numsOf p k):=by
 unfold foldM at h
 split at h
 ·rename_i r f p k e1 e2 e3 e4
  split at h
  ·rename_i hc
   obtain ⟨r0,r1,ra,p0,p8,k0,k1,h9,hk,hc,ht⟩:=hc
   have h:=Option.some.inj h
   refine ⟨r.toNat,f,p.toNat,k.toNat,?_,e2,?_,?_,r1,ra,?_,by omega,h9,hk,hc,ht,h.symm⟩
   ·rw [e1];congr 2;omega
   ·rw [e3];congr 2;omega
   ·rw [e4];congr 2;omega
   ·rw [Int.toNat_of_nonneg p0];exact p8
  ·cases h
 ·cases h
section
variable {P:Program} {w:World} {K:PySem.W.Frag} {mg:Str->Option Value} {base:Heap}
theorem ok_fold {c:MCs} (d:zn K mg "play_fold" xl ["bench","step"]) (hlen:mg "len"=none) (CC:MCls K c) (AU:OkM P w K mg base CX0 1 c.bn "active_under" ["self","mask"] (spAct c)) (NI:OkM P w K mg base CX0 3 c.bn "numbers_in" ["self","seat","active"] (spNums c K))
  (RC:OkM P w K mg base CX0 2 c.bn "read_cell" ["self","row","place"] (spRead c)) (WC:OkM P w K mg base CX0 2 c.bn "write_cell" ["self","row","place","number"] (spWrite c)) (FO:Ok P w K mg base CX0 6 "folded" ["bench","fold","run","numbers"] (spFo c)):Ok P w K mg base CX0 7 "play_fold" ["bench","step"] (spEf c foldM):=by
 obtain ⟨g,fd,m,F,b⟩:=d
 refine ⟨g,fd,m,F.kp,b,F.ok sc_play_fold (by rintro vs H Q E ⟨_,_,_,_,_,_,_,rfl,_⟩;rfl) fun cdv A outer s H vs Q E hr h=>?_⟩
 obtain ⟨B,A,M,R,st,tv,M',rfl,m,es,ef,ok,q⟩:=h
 have nd:=sc_play_fold.nd
 have hr6:=hr
 have hr3:=hr.mono (show 3<=6 by decide)
 have hr2:=hr.mono (show 2<=6 by decide)
 have hr1:=hr.mono (show 1<=6 by decide)
 have CN:=CC.n
 have ml:=ok.ml
 obtain ⟨r,f,p,k,e1,e2,e3,e4,r1,ra,p8,k16,h9,hk,hc,ht,rfl⟩:=foldM_is ef
 obtain ⟨mr1,mr2⟩:=mask_room ok k16
 obtain ⟨ai,al⟩:=act_in ok k
 have w1:=ok.w1
 have w0:=ok.w0
 have al4:(M.act k).length<=400:=by
  have a:=M.actTo_len k M.width.toNat
  have l64:=ok.l64
  have gb:M.group*M.lanes<=256:=by rcases ok.g with e | e | e <;> rw [e] <;> omega
  unfold Mc.act
  omega
 refine ⟨_,(zc (zu (i:=2) nd rfl (Or.inl rfl) (yk NI CC.n.c hr3 zr (pv 0) (za (zy zP (pv 1) ze (fun _ _=>rfl)) (za (yk AU CC.n.c hr1 zr (pv 0) (za (zy zP (pv 1) ze (fun _ _=>rfl)) zb)) zb))))
   (zf (zV (zH op_gt (zv zG (by rfl) hlen PySem.boot_len (za (pv 2) zb)) ze (zL _)) (zc (zu (i:=3) nd rfl (Or.inl rfl) (yk RC CC.n.c hr2 zr (pv 0) (za (zy zP (pv 1) ze (fun _ _=>rfl)) (za ze zb))))
   (zf (zQ (yk WC CC.n.c hr2 zr (pv 0) (za (zy zP (pv 1) ze (fun _ _=>rfl)) (za ze (za (zD FO hr6 (by rfl) zr (za (pv 0) (za (zy zP (pv 1) ze (fun _ _=>rfl)) (za (pv 3) (za (pv 2) zb))))) zb))))))) zI))),?_⟩
 dsimp only [yt,Cx.nox,Cx.wish]
 refine ⟨_,rfl,A.b,_,_,rfl,m.b,rfl,_,rfl,st,_,_,_,rfl,rfl,SqT.of (m.h.sm _ _ es),zK (j:=3) e3,_,rfl,A.b,_,_,rfl,m.b,rfl,_,rfl,st,_,_,_,rfl,rfl,SqT.of (m.h.sm _ _ es),zK (j:=4) e4,B,A,M,R,k,rfl,m,by omega,ok.w0,mr1,mr2,fun B1 H1 l s1 m1 ea=>?_⟩
 refine ⟨B1,A,M,R,p,l,M.act k,rfl,m1,ok,p8,ea,ai,al,fun B2 H2 l2 s2 m2 en=>?_⟩
 have s12:=s1.trans s2
 have en:B2 l2=some (.lst ((M.numsOf p k).map V.int)):=en
 have nl:(M.numsOf p k).length<=400:=by unfold Mc.numsOf;rw [List.length_map];exact al4
 generalize M.numsOf p k=ns at *
 refine ⟨_,rfl,l2,_,rfl,.inl (SqL.of (m2.h.sm _ _ en)),_,_,rfl,rfl,_,rfl,?_⟩
 rw [List.length_map]
 refine ite2 (fun z=>?_) (fun z=>?_)
 ·have n0:0<ns.length:=by
   have:(0:Int)<ns.length:=by simpa using z
   omega
  have ne:¬ ns=[]:=fun y=>by rw [y] at n0;cases n0
  rw [if_neg ne] at q
  refine ⟨_,rfl,A.b,_,_,rfl,m2.b,rfl,_,rfl,st,_,_,_,rfl,rfl,SqT.of (m2.h.sm _ _ (s12 _ _ es)),zK (j:=1) e1,B2,A,M,R,r,0,rfl,m2,by omega,r1,ra.1,ra.2,fun B3 A3 H3 s3 eb3 m3=>?_⟩
  have st3:SqT K H3 st tv:=SqT.of (m3.h.sm _ _ (s3 _ _ (s12 _ _ es)))
  refine ⟨_,rfl,A3.b,_,_,by rw [eb3],m3.b,rfl,_,rfl,st,_,_,_,rfl,rfl,st3,zK (j:=1) e1,_,rfl,_,rfl,st,_,_,_,rfl,rfl,st3,zK (j:=2) e2,_,rfl,_,rfl,B3,A3,_,R,f,_,l2,ns,by rw [eb3];rfl,m3,h9,hc,s3 _ _ en,n0,nl,hk,fun H4 m4=>?_⟩
  refine ⟨B3,A3,_,R,r,0,_,by rw [eb3];rfl,m4,?_,r1,ra.1,ra.2,fun B5 A5 H5 s5 eb5 m5=>q B5 A5 H5 ((s12.trans s3).trans s5) (eb5.trans eb3) m5⟩
  show (M.touches++[_]).length<_
  rw [List.length_append]
  show _+1<_
  omega
 ·have e:ns=[]:=by
   cases ns with
   | nil=>rfl
   | cons a t=>exact absurd (by simp) z
  rw [if_pos e] at q
  exact q B2 A _ s12 rfl m2
end
end K40
namespace L2
open PySem
theorem sl_listK {X:Cx} {K:PySem.W.Frag} (e:X.K=K):SlR X (rSlL K):=by subst e;exact xu
theorem call_sumK {X:Cx} {K:PySem.W.Frag} (e:X.K=K) (hc:X.calm=true):CallR X (.builtin "sum") (rSum K):=by subst e;exact call_sum hc
namespace Hd
theorem over {B J J2:Hp} {L:List (Addr×HO)} (h:Hd B L J) (s:Same J J2):∃ B2,Same B B2/\Hd B2 L J2/\∀ a o,J2 a=some o->a ∉ L.map Prod.fst->B2 a=some o:=by
  classical
  refine ⟨fun a=>if a∈L.map Prod.fst then none else J2 a,fun a o e=>?_,⟨h.nd,fun p q=>?_,fun p q=>s _ _ (h.st p q),fun a o e=>?_⟩,fun a o e n=>?_⟩
  · have na:a ∉ L.map Prod.fst:=fun m=>by
      obtain ⟨p,hp,rfl⟩:=List.mem_map.mp m
      rw [h.nw p hp] at e;cases e
    show (if _ then _ else _)=_
    rw [if_neg na];exact s _ _ (h.sm _ _ e)
  · show (if _ then _ else _)=_
    rw [if_pos (List.mem_map_of_mem q)]
  · have e:(if a∈L.map Prod.fst then none else J2 a)=some o:=e
    split at e
    · cases e
    · exact e
  · show (if _ then _ else _)=_
    rw [if_neg n];exact e
end Hd
end L2
namespace K40
open PySem L2
def yI (f:Str) (ns:List Int) (j:Nat):List Int:=(List.range j).map fun i=>My.fold1 (opF f) (ns.take (i+1))
theorem preTo_len (f:Str) (ns:List Int) (j:Nat):(yI f ns j).length=j:=by unfold yI;rw [List.length_map,List.length_range]
theorem preTo_succ (f:Str) (ns:List Int) (j:Nat):yI f ns (j+1)=yI f ns j++[My.fold1 (opF f) (ns.take (j+1))]:=by unfold yI;rw [List.range_succ,List.map_append];rfl
theorem preTo_at (f:Str) (ns:List Int) {j i:Nat} (h:i<j):(yI f ns j).getD i 0=My.fold1 (opF f) (ns.take (i+1)):=by
 unfold yI
 rw [List.getD_eq_getElem?_getD,List.getElem?_map,List.getElem?_range h];rfl
theorem wins_pre {f:Str} {ns:List Int} {d:Nat} (h:ns.length<=d):My.wins (opF f) ns d=yI f ns ns.length:=by
 unfold My.wins yI
 refine List.map_congr_left fun i hi=>?_
 exact My.win_all (by have:=List.mem_range.mp hi;omega)
theorem fold1_kin9 {f:Str} (h:Fd9 f) {ns:List Int} (n0:ns≠[]) (hk:∀ v∈ns,Kin v):Kin (My.fold1 (opF f) ns):=by
 match ns,n0 with
 | n::t,_=>exact xZ h t n (hk n List.mem_cons_self) fun v hv=>hk v (List.mem_cons_of_mem _ hv)
def fstC (f:Str) (c:Option Int) (ns:List Int):List Int:=match c,ns with
 | some c,n::t=>opF f c n::t
 | _,ns=>ns
theorem fstC_len (f:Str) (c:Option Int) (ns:List Int):(fstC f c ns).length=ns.length:=by
 cases c <;> cases ns <;> rfl
theorem fstC_kin {f:Str} (h:Fd9 f) {c:Option Int} {ns:List Int} (hc:∀ v,c=some v->Kin v) (hk:∀ v∈ns,Kin v):∀ v∈fstC f c ns,Kin v:=by
 cases c with
 | none=>cases ns <;> exact hk
 | some c =>
  cases ns with
  | nil=>exact hk
  | cons n t =>
   intro v hv
   rcases List.mem_cons.mp hv with rfl | hv
   ·exact opF_kin h (hc c rfl) (hk n List.mem_cons_self)
   ·exact hk v (List.mem_cons_of_mem _ hv)
section
variable {P:Program} {w:World} {K:PySem.W.Frag} {mg:Str->Option Value} {base:Heap}
def spRo (K:PySem.W.Frag):Sp:=fun vs H Q _=>∃ (f:Str) (p:Addr) (ns:List Int),vs=[.str f,.ref p]/\Fd9 f/\SqL K H p (ns.map V.int)/\ns.length<=400/\(∀ v∈ns,Kin v) /\
 ∀ (H':Hp) (T:Addr),Hd H [(T,.lst ((yI f ns ns.length).map V.int))] H'->Q (.ref T) H'
theorem ok_order (d:zn K mg "ran_in_order" yz ["fold","numbers"]) (J:J3 P w K mg base):Ok P w K mg base CX0 4 "ran_in_order" ["fold","numbers"] (spRo K):=by
 obtain ⟨g,fd,m,F,b⟩:=d
 refine ⟨g,fd,m,F.kp,b,F.ok sc_ran_in_order (by rintro vs H Q E ⟨_,_,_,rfl,_⟩;rfl) fun cdv A outer s H vs Q E hr h=>?_⟩
 obtain ⟨f,p,ns,rfl,hf,hS,hn,hk,k⟩:=h
 have nd:=sc_ran_in_order.nd
 have hr3:=hr
 have SL:(2000:Nat)<sizeLine:=by decide
 refine ⟨_,(zc (zu (i:=2) nd rfl (Or.inl rfl) (yT xu (pv 1) xJ (xg ze)))
   (zc (xc PassesOwn.never rfl (xv (yT xu (pv 1) (xg ze) xJ)) (zB (i:=3) nd rfl (Or.inl rfl)) (zf (zQ (pe_bm PySem.F.plainAttrs_list PySem.F.slot_list_append PySem.F.type_list_append yO (pv 2) (za (zD J hr3 (by rfl) passF (za (pv 0) (za (zy zR (pv 2) (pe_un un_neg ze) (fun _ _=>rfl)) (za (pv 3) zb)))) zb)))))
   (zf (zq (pv 2))))),?_⟩
 dsimp only [yt,Cx.nox,Cx.wish]
 refine ⟨_,rfl,1,rfl,p,_,rfl,hS,fun T nT=>?_⟩
 rw [xU (by decide)]
 have e0:ns.take (1:Int).toNat=yI f ns (min 1 ns.length):=by
  cases ns with
  | nil=>rfl
  | cons n t=>rw [show min 1 (n::t).length=1 by rw [List.length_cons];omega];rfl
 rw [e0]
 have h:Hd H [(T,.lst ((yI f ns (min 1 ns.length)).map V.int))] (upd H T (.lst ((yI f ns (min 1 ns.length)).map V.int))):=Hd.base.new nT
 generalize upd H T (.lst ((yI f ns (min 1 ns.length)).map V.int))=H1 at h ⊢
 refine ⟨_,rfl,1,rfl,p,_,rfl,h.sql hS,fun S nS=>?_⟩
 rw [cutV_from (by decide)]
 have eS:upd H S (.lst ((ns.drop (1:Int).toNat).map V.int)) S=_:=zg
 have sS:Same H (upd H S (.lst ((ns.drop (1:Int).toNat).map V.int))):=zh (Same.refl _) (h.free nS)
 replace h:=h.grow (o:=.lst ((ns.drop (1:Int).toNat).map V.int)) nS
 generalize upd H S (.lst ((ns.drop (1:Int).toNat).map V.int))=B at h sS eS
 generalize upd H1 S (.lst ((ns.drop (1:Int).toNat).map V.int))=H2 at h ⊢
 refine ⟨S,rfl,⟨_,h.sql (SqL.of eS)⟩,?_⟩
 refine for_list (K:=K) (a:=S) (xs:=(ns.drop (1:Int).toNat).map V.int) (fun i σ J=>∃ u3,σ=[some (.str f),some (.ref p),some (.ref T),u3]/\Hd B [(T,.lst ((yI f ns (min (i+1) ns.length)).map V.int))] J) ⟨none,rfl,h⟩ (fun i σ J _ ⟨_,_,h1⟩=>h1.sql (SqL.of eS)) ?_ ?_
 ·clear h
  rintro i y σ J hy ⟨u3,rfl,h⟩
  obtain ⟨n,e9,rfl⟩:=ym hy
  rw [List.getElem?_drop] at e9
  have e9:ns[1+i]?=some n:=e9
  have il:1+i<ns.length:=(List.getElem?_eq_some_iff.mp e9).1
  rw [show min (i+1) ns.length=i+1 by omega] at h
  have lp:=preTo_len f ns (i+1)
  have ev:(yI f ns (i+1)).getD ((yI f ns (i+1)).length-1) 0=My.fold1 (opF f) (ns.take (i+1)):=by rw [lp];exact preTo_at f ns (by omega)
  have en:ns.getD (i+1) 0=n:=by rw [List.getD_eq_getElem?_getD,Nat.add_comm,e9];rfl
  have et:yI f ns (min (i+1+1) ns.length)=yI f ns (i+1)++[opF f (My.fold1 (opF f) (ns.take (i+1))) n]:=by
   rw [show min (i+1+1) ns.length=i+1+1 by omega,preTo_succ,My.foldl_step (by omega),en]
  rw [et]
  have nt:ns.take (i+1)≠[]:=fun z=>by
   have y:(ns.take (i+1)).length=0:=by rw [z];rfl
   rw [List.length_take] at y;omega
  have hl:=at_last (ns:=yI f ns (i+1)) (by omega)
  rw [ev] at hl
  refine ⟨_,rfl,.inl ⟨rfl,_,h.lst 0 rfl⟩,_,rfl,_,rfl,_,rfl,T,_,_,_,rfl,rfl,h.lst 0 rfl,hl,_,rfl,f,_,_,rfl,hf,fold1_kin9 hf nt (fun v hv=>hk v (List.mem_of_mem_take hv)),T,_,_,rfl,rfl,h.get 0 rfl,(by rw [List.length_map,lp];omega),?_⟩
  refine ⟨_,rfl,?_⟩
  rw [List.map_append]
  exact h.put 0 rfl
 ·clear h
  rintro σ J ⟨u3,rfl,h⟩
  rw [List.length_map,List.length_drop,show min (ns.length-(1:Int).toNat+1) ns.length=ns.length by show min (ns.length-1+1) ns.length=_;omega] at h
  exact ⟨_,rfl,k _ T ⟨h.nd,fun p q=>sS.none (h.nw p q),h.st,sS.trans h.sm⟩⟩
def spRu (K:PySem.W.Frag):Sp:=fun vs H Q _=>∃ (f:Str) (c:Option Int) (p:Addr) (ns:List Int),vs=[.str f,oV c,.ref p]/\Fd9 f/\SqL K H p (ns.map V.int)/\ns.length<=400/\(∀ v∈ns,Kin v)/\(∀ v,c=some v->Kin v) /\
 ∀ (H':Hp) (T:Addr),Hd H [(T,.lst ((yI f (fstC f c ns) ns.length).map V.int))] H'->Q (.ref T) H'
theorem hd_base {H B J:Hp} {L:List (Addr×HO)} (h:Hd B L J) (s:Same H B):Hd H L J:=⟨h.nd,fun p q=>s.none (h.nw p q),h.st,s.trans h.sm⟩
theorem ok_running_numbers (d:zn K mg "running_numbers" yg ["fold","carried","numbers"]) (FR:Ok P w K mg base (CXe P w base) 1 "free" ["fold"] spFree) (J:J3 P w K mg base) (DB:Ok P w K mg base CX0 4 "doubled" ["fold","numbers"] (spDb K)) (RO:Ok P w K mg base CX0 4 "ran_in_order" ["fold","numbers"] (spRo K)):Ok P w K mg base CX0 5 "running_numbers" ["fold","carried","numbers"] (spRu K):=by
 obtain ⟨g,fd,m,F,b⟩:=d
 refine ⟨g,fd,m,F.kp,b,F.ok sc_running_numbers (by rintro vs H Q E ⟨_,_,_,_,rfl,_⟩;rfl) fun cdv A outer s H vs Q E hr h=>?_⟩
 obtain ⟨f,c,p,ns,rfl,hf,hS,hn,hk,hc,k⟩:=h
 have nd:=sc_running_numbers.nd
 have hr4:=hr
 have hr3:=hr.mono (show 3<=4 by decide)
 have hr1:=hr.mono (show 1<=4 by decide)
 have SL:(2000:Nat)<sizeLine:=by decide
 refine ⟨_,(zc (zu (i:=3) nd rfl (Or.inl rfl) (yT xu (pv 2) xJ (xg ze)))
   (zc (ps_mid (zV (zH op_notN (pv 1) pe_non (zL _)) (zf (xX (i:=3) ["number","fold","carried"] [none,some 0,some 1] rfl rfl rfl (xv (pv 3)) (fun s3 H3 fp=>⟨zB (i:=0) (show ((["number","fold","carried"]:List Str)).Nodup by decide +kernel) rfl (Or.inl rfl),(zD J hr3 (by rfl) passF (za (pv 1) (za (pv 2) (za (pv 0) zb))))⟩) nd rfl (Or.inl rfl))) zI))
   (zc (zV (xF (zD FR hr1 (by rfl) passF (za (pv 0) zb))) (zf (zq (zD DB hr4 (by rfl) zr (za (pv 0) (za (zi op_cat (pv 3) (yT xu (pv 2) (xg ze) xJ)) zb))))) zI)
   (zf (zq (zD RO hr4 (by rfl) zr (za (pv 0) (za (zi op_cat (pv 3) (yT xu (pv 2) (xg ze) xJ)) zb)))))))),?_⟩
 dsimp only [yt,Cx.nox,Cx.wish]
 refine ⟨_,rfl,1,rfl,p,_,rfl,hS,fun T nT=>?_⟩
 rw [xU (by decide)]
 have eT:upd H T (.lst ((ns.take (1:Int).toNat).map V.int)) T=some (.lst ((ns.take 1).map V.int)):=zg
 have sT:Same H (upd H T (.lst ((ns.take (1:Int).toNat).map V.int))):=zh (Same.refl _) nT
 generalize upd H T (.lst ((ns.take (1:Int).toNat).map V.int))=H1 at eT sT ⊢
 refine ⟨fun σ J=>∃ T2,σ=[some (.str f),some (oV c),some (.ref p),some (.ref T2),none]/\Same H J/\J T2=some (.lst (((fstC f c ns).take 1).map V.int)),?_,?_⟩
 ·cases c with
  | none=>exact ⟨_,rfl,rfl,false,rfl,yx ⟨T,rfl,sT,by cases ns <;> exact eT⟩⟩
  | some v =>
   refine ⟨_,rfl,rfl,true,rfl,iteT ?_⟩
   refine ⟨_,rfl,T,rfl,⟨_,SqL.of eT⟩,_,rfl,fun D nD=>?_⟩
   have h0:Hd H1 [(D,.lst ((((ns.take 1).take 0).map (opF f v)).map V.int))] (upd H1 D (.lst [])):=Hd.base.new nD
   generalize upd H1 D (.lst [])=H2 at h0 ⊢
   refine comp_list (K:=K) (a:=T) (D:=D) (xs:=(ns.take 1).map V.int) (fun i σ J=>∃ u,σ=[u,some (.str f),some (.int v)]/\Hd H1 [(D,.lst ((((ns.take 1).take i).map (opF f v)).map V.int))] J) ⟨none,rfl,h0⟩ (fun i σ J _ ⟨_,_,h1⟩=>SqL.of (h1.sm _ _ eT)) ?_ ?_
   ·clear h0
    rintro i y σ J hy ⟨u,rfl,h⟩
    obtain ⟨n,e9,rfl⟩:=ym hy
    have il:=(List.getElem?_eq_some_iff.mp e9).1
    rw [List.length_take] at il
    have et:(((ns.take 1).take (i+1)).map (opF f v))=(((ns.take 1).take i).map (opF f v))++[opF f v n]:=by rw [List.take_add_one,e9,List.map_append];rfl
    rw [et]
    refine ⟨_,rfl,_,rfl,_,rfl,f,v,n,rfl,hf,hc v rfl,_,h.get 0 rfl,(by rw [List.length_map,List.length_map,List.length_take,List.length_take];omega),_,rfl,?_⟩
    rw [List.map_append];exact h.put 0 rfl
   ·clear h0
    rintro σ J ⟨u,rfl,h⟩
    rw [List.length_map,List.take_length] at h
    exact ⟨D,rfl,sT.trans h.sm,by have:=h.get 0 rfl;cases ns <;> exact this⟩
 rintro σ J ⟨T2,rfl,sJ,eT2⟩
 have ec:(fstC f c ns).take 1++ns.drop 1=fstC f c ns:=by cases c <;> cases ns <;> rfl
 have lc:=fstC_len f c ns
 have kc:=fstC_kin hf hc hk
 rcases hf with h7 | h2
 ·refine ⟨_,rfl,f,true,rfl,.inl ⟨h7,rfl⟩,_,rfl,iteT ?_⟩
  refine ⟨_,rfl,_,rfl,_,rfl,1,rfl,p,_,rfl,zt hS sJ,fun S nS=>?_⟩
  rw [cutV_from (by decide)]
  have eS:upd J S (.lst ((ns.drop (1:Int).toNat).map V.int)) S=some (.lst ((ns.drop 1).map V.int)):=zg
  have sS:Same J (upd J S (.lst ((ns.drop (1:Int).toNat).map V.int))):=zh (Same.refl _) nS
  generalize upd J S (.lst ((ns.drop (1:Int).toNat).map V.int))=J1 at eS sS ⊢
  refine ⟨T2,S,_,_,rfl,rfl,sS _ _ eT2,eS,(by rw [List.length_map,List.length_map,List.length_take,List.length_drop];omega),fun R nR=>?_⟩
  rw [← List.map_append,ec]
  have sR:Same J1 (upd J1 R (.lst ((fstC f c ns).map V.int))):=zh (Same.refl _) nR
  refine ⟨f,R,fstC f c ns,rfl,h7,SqL.of zg,by omega,kc,fun H' T' d hd h'=>?_⟩
  rw [wins_pre hd,lc] at h'
  exact k H' T' (hd_base h' ((sJ.trans sS).trans sR))
 ·refine ⟨_,rfl,f,false,rfl,.inr ⟨h2,rfl⟩,_,rfl,yx ?_⟩
  refine ⟨_,rfl,_,rfl,_,rfl,1,rfl,p,_,rfl,zt hS sJ,fun S nS=>?_⟩
  rw [cutV_from (by decide)]
  have eS:upd J S (.lst ((ns.drop (1:Int).toNat).map V.int)) S=some (.lst ((ns.drop 1).map V.int)):=zg
  have sS:Same J (upd J S (.lst ((ns.drop (1:Int).toNat).map V.int))):=zh (Same.refl _) nS
  generalize upd J S (.lst ((ns.drop (1:Int).toNat).map V.int))=J1 at eS sS ⊢
  refine ⟨T2,S,_,_,rfl,rfl,sS _ _ eT2,eS,(by rw [List.length_map,List.length_map,List.length_take,List.length_drop];omega),fun R nR=>?_⟩
  rw [← List.map_append,ec]
  have sR:Same J1 (upd J1 R (.lst ((fstC f c ns).map V.int))):=zh (Same.refl _) nR
  refine ⟨f,R,fstC f c ns,rfl,.inr h2,SqL.of zg,by omega,kc,fun H' T' h'=>?_⟩
  rw [lc] at h'
  exact k H' T' (hd_base h' ((sJ.trans sS).trans sR))
end
end K40
namespace K40
open PySem L2
def Mc.runTo (M:Mc) (r:Nat) (prs:List (Int×Int)):Mc:={ M.puts r prs with carried:=match prs.getLast? with
 | some p=>some p.2
 | none=>M.carried }
theorem Mc.runTo_snoc (M:Mc) (r:Nat) (prs:List (Int×Int)) (p:Int×Int):M.runTo r (prs++[p])={ (M.runTo r prs).wrote r p.1 p.2 with carried:=some p.2 }:=by
 unfold Mc.runTo
 rw [M.puts_snoc,List.getLast?_append]
 rfl
def Mc.tolds (M:Mc) (f:Str) (p k:Nat):List Int:=yI f (fstC f M.carried (M.numsOf p k)) (M.numsOf p k).length
def Mc.runP (M:Mc) (f:Str) (p k:Nat):List (Int×Int):=((M.act k).map (M.base+·)).zip (M.tolds f p k)
open Classical in
noncomputable def runM:EfM:=fun tv M=>match (tv[1]?:Option V),(tv[2]?:Option V),(tv[3]?:Option V),(tv[4]?:Option V) with
 | some (V.int r),some (V.str f),some (V.int p),some (V.int k)=>if 0<=r/\rowIn M r.toNat (M.act k.toNat)/\0<=p/\(p+1)*M.group<=8/\0<=k/\k<16/\Fd9 f/\(∀ v∈M.numsOf p.toNat k.toNat,Kin v)/\(∀ v,M.carried=some v->Kin v)/\M.touches.length+(M.act k.toNat).length<100000 then some (M.runTo r.toNat (M.runP f p.toNat k.toNat)) else none
 | _,_,_,_=>none
theorem runM_is {tv:List V} {M M':Mc} (h:runM tv M=some M'):∃ (r:Nat) (f:Str) (p k:Nat),tv[1]?=some (.int r)/\tv[2]?=some (.str f)/\tv[3]?=some (.int p)/\tv[4]?=some (.int k)/\rowIn M r (M.act k)/\((p:Int)+1)*M.group<=8/\k<16/\Fd9 f/\(∀ v∈M.numsOf p k,Kin v)/\(∀ v,M.carried=some v->Kin v)/\M.touches.length+(M.act k).length<100000/\M'=M.runTo r (M.runP f p k):=by
 unfold runM at h
 split at h
 ·rename_i r f p k e1 e2 e3 e4
  split at h
  ·rename_i hc
   obtain ⟨r0,r1,p0,p8,k0,k1,h9,hk,hc,ht⟩:=hc
   have h:=Option.some.inj h
   refine ⟨r.toNat,f,p.toNat,k.toNat,?_,e2,?_,?_,r1,?_,by omega,h9,hk,hc,ht,h.symm⟩
   ·rw [e1];congr 2;omega
   ·rw [e3];congr 2;omega
   ·rw [e4];congr 2;omega
   ·rw [Int.toNat_of_nonneg p0];exact p8
  ·cases h
 ·cases h
section
variable {P:Program} {w:World} {K:PySem.W.Frag} {mg:Str->Option Value} {base:Heap}
theorem ok_running {c:MCs} (d:zn K mg "play_running" yA ["bench","step"]) (hzip:mg "zip"=none) (CC:MCls K c) (AU:OkM P w K mg base CX0 1 c.bn "active_under" ["self","mask"] (spAct c)) (NI:OkM P w K mg base CX0 3 c.bn "numbers_in" ["self","seat","active"] (spNums c K))
  (WC:OkM P w K mg base CX0 2 c.bn "write_cell" ["self","row","place","number"] (spWrite c)) (RU:Ok P w K mg base CX0 5 "running_numbers" ["fold","carried","numbers"] (spRu K)):Ok P w K mg base CX0 6 "play_running" ["bench","step"] (spEf c runM):=by
 obtain ⟨g,fd,m,F,b⟩:=d
 refine ⟨g,fd,m,F.kp,b,F.ok sc_play_running (by rintro vs H Q E ⟨_,_,_,_,_,_,_,rfl,_⟩;rfl) fun cdv A outer s H vs Q E hr h=>?_⟩
 obtain ⟨B,A,M,R,st,tv,M',rfl,m,es,ef,ok,q⟩:=h
 have nd:=sc_play_running.nd
 have hr5:=hr
 have hr3:=hr.mono (show 3<=5 by decide)
 have hr2:=hr.mono (show 2<=5 by decide)
 have hr1:=hr.mono (show 1<=5 by decide)
 have CN:=CC.n
 have ml:=ok.ml
 obtain ⟨r,f,p,k,e1,e2,e3,e4,⟨hr0,hin⟩,p8,k16,h9,hk,hc,ht,rfl⟩:=runM_is ef
 obtain ⟨mr1,mr2⟩:=mask_room ok k16
 obtain ⟨ai,al⟩:=act_in ok k
 have w1:=ok.w1
 have w0:=ok.w0
 have al4:(M.act k).length<=400:=by
  have a:=M.actTo_len k M.width.toNat
  have l64:=ok.l64
  have gb:M.group*M.lanes<=256:=by rcases ok.g with e | e | e <;> rw [e] <;> omega
  unfold Mc.act
  omega
 refine ⟨_,(zc (zu (i:=2) nd rfl (Or.inl rfl) (yk AU CC.n.c hr1 zr (pv 0) (za (zy zP (pv 1) ze (fun _ _=>rfl)) zb)))
   (zc (zu (i:=3) nd rfl (Or.inl rfl) (zD RU hr5 (by rfl) zr (za (zy zP (pv 1) ze (fun _ _=>rfl)) (za (zC (pv 0) rfl) (za (yk NI CC.n.c hr3 zr (pv 0) (za (zy zP (pv 1) ze (fun _ _=>rfl)) (za (pv 2) zb))) zb)))))
   (zf (xc PassesOwn.never rfl (pi_zip rfl hzip (za (pv 2) (za (pv 3) zb))) (pg_tup rfl (yl (zB (i:=4) nd rfl (Or.inl rfl)) (yl (zB (i:=5) nd rfl (Or.inl rfl)) pgs_nil))) (zc (zQ (yk WC CC.n.c hr2 zr (pv 0) (za (zy zP (pv 1) ze (fun _ _=>rfl)) (za (zi zF (zC (pv 0) rfl) (pv 4)) (za (pv 5) zb)))))
   (zf (zN (pv 0) (pv 5) rfl))))))),?_⟩
 dsimp only [yt,Cx.nox,Cx.wish]
 refine ⟨_,rfl,A.b,_,_,rfl,m.b,rfl,_,rfl,st,_,_,_,rfl,rfl,SqT.of (m.h.sm _ _ es),zK (j:=4) e4,B,A,M,R,k,rfl,m,by omega,ok.w0,mr1,mr2,fun B1 H1 l s1 m1 ea=>?_⟩
 have st1:SqT K H1 st tv:=SqT.of (m1.h.sm _ _ (s1 _ _ es))
 refine ⟨_,rfl,st,_,_,_,rfl,rfl,st1,zK (j:=2) e2,_,rfl,A.b,_,_,_,oV M.carried,rfl,m1.b,CN.c,CN.carried,rfl,_,rfl,A.b,_,_,rfl,m1.b,rfl,_,rfl,st,_,_,_,rfl,rfl,st1,zK (j:=3) e3,_,rfl,B1,A,M,R,p,l,M.act k,rfl,m1,ok,p8,ea,ai,al,fun B2 H2 l2 s2 m2 en=>?_⟩
 have en:B2 l2=some (.lst ((M.numsOf p k).map V.int)):=en
 have nl:(M.numsOf p k).length=(M.act k).length:=by unfold Mc.numsOf;rw [List.length_map]
 refine ⟨f,M.carried,l2,M.numsOf p k,rfl,h9,SqL.of (m2.h.sm _ _ en),by omega,hk,hc,fun H3 T h3=>?_⟩
 have m3:=m2.adopt h3
 have eT:upd B2 T (.lst ((M.tolds f p k).map V.int)) T=_:=zg
 have s3:Same B2 (upd B2 T (.lst ((M.tolds f p k).map V.int))):=zh (Same.refl _) (m2.h.free (h3.nw (T,_) (List.mem_singleton.mpr rfl)))
 have m3:MAt c (upd B2 T (.lst ((M.tolds f p k).map V.int))) A M R H3:=m3
 generalize upd B2 T (.lst ((M.tolds f p k).map V.int))=B3 at m3 eT s3
 have s13:=(s1.trans s2).trans s3
 have ea3:=s3 _ _ (s2 _ _ ea)
 have tl:(M.tolds f p k).length=(M.act k).length:=by unfold Mc.tolds;rw [preTo_len,nl]
 have hp:M.runP f p k=((M.act k).map (M.base+·)).zip (M.tolds f p k):=rfl
 rw [hp] at q
 generalize M.tolds f p k=tds at *
 generalize M.act k=js at *
 refine ⟨_,rfl,_,rfl,l,T,rfl,⟨_,SqL.of (m3.h.sm _ _ ea3)⟩,⟨_,SqL.of (m3.h.sm _ _ eT)⟩,?_⟩
 let prs:List (Int×Int):=(js.map (M.base+·)).zip tds
 refine for_zip (xs:=js.map V.int) (ys:=tds.map V.int) (fun i σ J=>∃ u4 u5 B4 A4,σ=[some (.ref A.b),some (.ref st),some (.ref l),some (.ref T),u4,u5]/\Same B3 B4/\A4.b=A.b/\MAt c B4 A4 (M.runTo r (prs.take i)) R J) ⟨none,none,B3,A,rfl,Same.refl _,rfl,m3⟩ (fun i σ J _ ⟨_,_,B4,A4,_,s4,_,m4⟩=>⟨SqL.of (m4.h.sm _ _ (s4 _ _ ea3)),SqL.of (m4.h.sm _ _ (s4 _ _ eT))⟩) (by rw [List.length_map,List.length_map,tl]) ?_ ?_
 ·rintro i x y σ J Tt hx hy ⟨u4,u5,B4,A4,rfl,s4,eb,m4⟩ nT
  obtain ⟨j,e9,rfl⟩:=ym hx
  obtain ⟨n,e10,rfl⟩:=ym hy
  have il:=(List.getElem?_eq_some_iff.mp e9).1
  have mj:j∈js:=List.mem_of_getElem? e9
  obtain ⟨j0,j1⟩:=hin j mj
  have ep:prs[i]?=some (M.base+j,n):=by
   show ((js.map (M.base+·)).zip tds)[i]?=_
   rw [List.getElem?_zip_eq_some]
   exact ⟨by rw [List.getElem?_map,e9];rfl,e10⟩
  have et:prs.take (i+1)=prs.take i++[(M.base+j,n)]:=by rw [List.take_add_one,ep];rfl
  rw [et,M.runTo_snoc]
  obtain ⟨pi1,pi2⟩:=M.puts_is r (prs.take i)
  have hb:(M.runTo r (prs.take i)).base=M.base:=by show (M.puts r (prs.take i)).base=_;rw [pi1]
  have hs:(M.runTo r (prs.take i)).starts=M.starts:=by show (M.puts r (prs.take i)).starts=_;rw [pi1]
  have hcl:(M.runTo r (prs.take i)).cells.length=M.cells.length:=pi2
  have hT:(M.runTo r (prs.take i)).touches.length<100000:=by
   show (M.puts r (prs.take i)).touches.length<_
   rw [pi1]
   show (M.touches++_).length<_
   rw [List.length_append,List.length_map,List.length_take]
   omega
  generalize M.runTo r (prs.take i)=N at *
  have m5:=m4.grow (o:=.tup [.int j,.int n]) nT
  have s5:Same B4 (upd B4 Tt (.tup [.int j,.int n])):=zh (Same.refl _) (m4.h.free nT)
  have e5:upd B4 Tt (.tup [.int j,.int n]) Tt=some (.tup [.int j,.int n]):=zg
  generalize upd J Tt (.tup [.int j,.int n])=J5 at m5 ⊢
  generalize upd B4 Tt (.tup [.int j,.int n])=B5 at m5 s5 e5
  refine ⟨Tt,_,rfl,SqT.of (m5.h.sm _ _ e5),rfl,_,_,rfl,_,_,rfl,rfl,?_⟩
  refine ⟨_,rfl,A4.b,_,_,by rw [eb],m5.b,rfl,_,rfl,st,_,_,_,rfl,rfl,SqT.of (m5.h.sm _ _ (s5 _ _ (s4 _ _ (s13 _ _ es)))),zK (j:=1) e1,_,rfl,A4.b,_,_,_,.int M.base,by rw [eb],m5.b,CN.c,CN.base,(by show some (V.int _)=_;rw [hb]),_,rfl,_,_,rfl,rfl,_,rfl,B5,A4,N,R,r,M.base+j,n,by rw [eb];rfl,m5,hT,?_,?_,?_,fun B6 A6 H6 s6 eb6 m6=>?_⟩
  ·rw [hs];exact hr0
  ·unfold Mc.adr;rw [hs];exact j0
  ·unfold Mc.adr;rw [hs,hcl];exact j1
  refine ⟨_,rfl,_,rfl,A6.b,_,_,_,by rw [eb6,eb],m6.b,CN.c,CN.carried,(by show 23<1000;decide),?_⟩
  exact ⟨_,_,B6,A6,rfl,(s4.trans s5).trans s6,eb6.trans eb,m6.s_carried (some n)⟩
 ·rintro σ J ⟨u4,u5,B4,A4,rfl,s4,eb,m4⟩
  have e:prs.take (js.map V.int).length=prs:=List.take_of_length_le (by show ((js.map (M.base+·)).zip tds).length<=_;rw [List.length_zip,List.length_map,List.length_map];omega)
  rw [e] at m4
  exact q B4 A4 J (s13.trans s4) eb m4
end
end K40
namespace K40
open PySem L2
def xb (f:Str):Option Int->List Int->List Int
 | _,[]=>[]
 | none,n::ns=>n::xb f (some n) ns
 | some c,n::ns=>opF f c n::xb f (some (opF f c n)) ns
def yQ (c:Option Int) (ts:List Int):Option Int:=match ts.getLast? with
 | some v=>some v
 | none=>c
theorem scanF_some (f:Str):∀ (ns:List Int) (v:Int),xb f (some v) ns=(List.range ns.length).map fun i=>(ns.take (i+1)).foldl (opF f) v
 | [],v=>rfl
 | n::ns,v=>by
  show opF f v n::xb f (some (opF f v n)) ns=_
  rw [scanF_some f ns,List.length_cons,List.range_succ_eq_map,List.map_cons,List.map_map]
  rfl
theorem pre_scan (f:Str) (c:Option Int) (ns:List Int):yI f (fstC f c ns) ns.length=xb f c ns:=by
 have key:∀ (v:Int) (t:List Int),yI f (v::t) (t.length+1)=v::xb f (some v) t:=fun v t=>by
  rw [scanF_some]
  unfold yI
  rw [List.range_succ_eq_map,List.map_cons,List.map_map]
  rfl
 cases ns with
 | nil=>cases c <;> rfl
 | cons n t =>
  cases c with
  | none=>exact key n t
  | some c=>exact key (opF f c n) t
theorem scanF_len (f:Str) (c:Option Int) (ns:List Int):(xb f c ns).length=ns.length:=by rw [← pre_scan,preTo_len]
def xf (a n:Int) (f:Str) (ns:List Int) (s:DT):DT:=if ns=[] then s else (s.1.set a.toNat (ns.foldl (opF f) (s.1.getD a.toNat 0)),s.2++[(n,("read":Str),a),(n,("write":Str),a)])
def runDT (a n:Int) (f:Str) (es ns:List Int) (c:Option Int) (s:DT):DT:=(xh s.1 ((es.zip (xb f c ns)).map fun p=>(a+p.1,p.2)),s.2++es.map fun e=>(n,("write":Str),a+e))
section
variable {Lx:Lex} {S LN:List Int} {L pl k:Nat} {many group b:Int} {s:DT} {M:Mc}
theorem InS.fold {r p m:Nat} {f:Str} {F:Int->Int} (h:InS S LN L pl many group b k s M) (hS:Lx.E "fold" foldM) (p8:((p:Int)+1)*group<=8) (m16:m<16) (h9:Fd9 f) (hr:r<S.length) (ir:0<=S.getD r 0/\S.getD r 0<s.1.length) (ht:s.2.length<90000) (hk:∀ j∈M.act m,Kin (F (b+j))) (hc:Kin (s.1.getD (S.getD r 0).toNat 0)) (hn:∀ j∈M.act m,M.numAt p j=F (b+j)) :
  ∃ M',Step Lx [.str "fold",.int r,.str f,.int p,.int m] M M'/\InS S LN L pl many group b (k+1) (xf (S.getD r 0) ((pl+k:Nat):Int) f (((M.act m).map (b+·)).map F) s) M'/\M'.carried=M.carried/\M'.faults=M.faults/\(∀ m',M'.act m'=M.act m')/\(∀ (p':Nat) (j:Int),M'.numAt p' j=M.numAt p' j):=by
 have en:M.numsOf p m=((M.act m).map (b+·)).map F:=by
  unfold Mc.numsOf
  rw [List.map_map]
  exact List.map_congr_left fun j hj=>hn j hj
 have ea:M.adr r 0=S.getD r 0:=by unfold Mc.adr;rw [h.starts];omega
 have e:foldM [.str "fold",.int r,.str f,.int p,.int m] M=some (if M.numsOf p m=[] then M else M.foldd r f (M.numsOf p m)):=by
  unfold foldM
  refine (if_pos ?_).trans ?_
  ·rw [Int.toNat_natCast,Int.toNat_natCast,Int.toNat_natCast,ea,h.cells,h.touches,h.starts,h.group]
   refine ⟨by omega,hr,⟨ir.1,by omega⟩,by omega,p8,by omega,by omega,h9,fun v hv=>?_,hc,ht⟩
   rw [en,List.map_map] at hv
   obtain ⟨j,hj,rfl⟩:=List.mem_map.mp hv
   exact hk j hj
  ·rw [Int.toNat_natCast,Int.toNat_natCast,Int.toNat_natCast]
 have st:=Step.eff (word:="fold") hS rfl e h.ok
 have hpc:M.pc+1=((pl+(k+1):Nat):Int):=by rw [h.pc];omega
 rw [en] at st
 generalize ((M.act m).map (b+·)).map F=ns at *
 unfold xf
 by_cases z:ns=[]
 ·rw [if_pos z] at st ⊢
  exact ⟨_,st,⟨⟨h.ok.l1,h.ok.l64,h.ok.g,h.ok.nl,h.ok.ml,h.ok.mm,h.ok.w0,h.ok.w1⟩,h.wle,h.begun,h.base,hpc,h.opened,h.many,h.group,h.lanes,h.rf,h.starts,h.lens,h.cells,h.touches⟩,rfl,rfl,fun _=>rfl,fun _ _=>rfl⟩
 ·rw [if_neg z] at st ⊢
  refine ⟨_,st,⟨⟨h.ok.l1,h.ok.l64,h.ok.g,h.ok.nl,h.ok.ml,h.ok.mm,h.ok.w0,h.ok.w1⟩,h.wle,h.begun,h.base,hpc,h.opened,h.many,h.group,h.lanes,h.rf,h.starts,h.lens,?_,?_⟩,rfl,rfl,fun _=>rfl,fun _ _=>rfl⟩
  ·show M.cells.set (M.adr r 0).toNat (ns.foldl (opF f) (M.cells.getD (M.adr r 0).toNat 0))=_
   rw [ea,h.cells]
  ·show M.touches++[(M.pc,("read":Str),M.adr r 0)]++[(M.pc,("write":Str),M.adr r 0)]=_
   rw [ea,h.touches,h.pc,List.append_assoc];rfl
theorem InS.run {r p m:Nat} {f:Str} {F:Int->Int} (h:InS S LN L pl many group b k s M) (hS:Lx.E "running" runM) (p8:((p:Int)+1)*group<=8) (m16:m<16) (h9:Fd9 f) (hr:r<S.length) (b0:0<=b) (ir:0<=S.getD r 0/\S.getD r 0+many<=s.1.length) (ht:s.2.length+(M.act m).length<100000) (hk:∀ j∈M.act m,Kin (F (b+j))) (hc:∀ v,M.carried=some v->Kin v) (hn:∀ j∈M.act m,M.numAt p j=F (b+j)) :
  ∃ M',Step Lx [.str "running",.int r,.str f,.int p,.int m] M M'/\InS S LN L pl many group b (k+1) (runDT (S.getD r 0) ((pl+k:Nat):Int) f ((M.act m).map (b+·)) (((M.act m).map (b+·)).map F) M.carried s) M'/\M'.carried=yQ M.carried (xb f M.carried (((M.act m).map (b+·)).map F))/\M'.faults=M.faults/\(∀ m',M'.act m'=M.act m')/\(∀ (p':Nat) (j:Int),M'.numAt p' j=M.numAt p' j):=by
 have en:M.numsOf p m=((M.act m).map (b+·)).map F:=by
  unfold Mc.numsOf
  rw [List.map_map]
  exact List.map_congr_left fun j hj=>hn j hj
 have eP:M.runP f p m=((M.act m).map (b+·)).zip (xb f M.carried (((M.act m).map (b+·)).map F)):=by
  unfold Mc.runP Mc.tolds
  rw [pre_scan,en,h.base]
 have e:runM [.str "running",.int r,.str f,.int p,.int m] M=some (M.runTo r (M.runP f p m)):=by
  unfold runM
  refine (if_pos ?_).trans ?_
  ·rw [Int.toNat_natCast,Int.toNat_natCast,Int.toNat_natCast,h.touches,h.group]
   refine ⟨by omega,⟨by rw [h.starts];exact hr,fun j hj=>?_⟩,by omega,p8,by omega,by omega,h9,fun v hv=>?_,hc,ht⟩
   ·have:=h.mem hj
    unfold Mc.adr
    rw [h.starts,h.cells,h.base]
    omega
   ·rw [en,List.map_map] at hv
    obtain ⟨j,hj,rfl⟩:=List.mem_map.mp hv
    exact hk j hj
  ·rw [Int.toNat_natCast,Int.toNat_natCast,Int.toNat_natCast]
 have st:=Step.eff (word:="running") hS rfl e h.ok
 have hpc:M.pc+1=((pl+(k+1):Nat):Int):=by rw [h.pc];omega
 have ls:(xb f M.carried (((M.act m).map (b+·)).map F)).length=((M.act m).map (b+·)).length:=by rw [scanF_len,List.length_map]
 rw [eP] at st
 unfold runDT
 generalize xb f M.carried (((M.act m).map (b+·)).map F)=ts at *
 generalize hes:(M.act m).map (b+·)=es at *
 obtain ⟨pi1,pi2⟩:=M.puts_is r (es.zip ts)
 have ec:(M.puts r (es.zip ts)).cells=xh s.1 ((es.zip ts).map fun p=>(S.getD r 0+p.1,p.2)):=by
  rw [puts_cells,h.cells]
  unfold Mc.adr
  rw [h.starts]
 have et:M.touches++(es.zip ts).map (fun p=>(M.pc,("write":Str),M.adr r p.1))=s.2++es.map fun e=>(((pl+k:Nat):Int),("write":Str),S.getD r 0+e):=by
  rw [h.touches]
  congr 1
  have:es=(es.zip ts).map Prod.fst:=(List.map_fst_zip (by omega)).symm
  conv=>rhs;rw [this]
  rw [List.map_map]
  refine List.map_congr_left fun p _=>?_
  show (M.pc,("write":Str),M.starts.getD r 0+p.1)=_
  rw [h.starts,h.pc];rfl
 have el:(M.runTo r (es.zip ts)).carried=yQ M.carried ts:=by
  unfold Mc.runTo yQ
  have:ts=(es.zip ts).map Prod.snd:=(List.map_snd_zip (by omega)).symm
  conv=>rhs;rw [this,List.getLast?_map]
  cases (es.zip ts).getLast? <;> rfl
 have eR:M.runTo r (es.zip ts)={ M with cells:=xh s.1 ((es.zip ts).map fun p=>(S.getD r 0+p.1,p.2)),touches:=s.2++es.map fun e=>(((pl+k:Nat):Int),("write":Str),S.getD r 0+e),carried:=yQ M.carried ts }:=by
  have e1:M.runTo r (es.zip ts)={ M.puts r (es.zip ts) with carried:=(M.runTo r (es.zip ts)).carried }:=rfl
  rw [e1,el,pi1,ec,et]
 rw [eR] at st
 exact ⟨_,st,⟨⟨h.ok.l1,h.ok.l64,h.ok.g,h.ok.nl,h.ok.ml,h.ok.mm,h.ok.w0,h.ok.w1⟩,h.wle,h.begun,h.base,hpc,h.opened,h.many,h.group,h.lanes,h.rf,h.starts,h.lens,rfl,rfl⟩,rfl,rfl,fun _=>rfl,fun _ _=>rfl⟩
end
end K40
namespace K40
open PySem L2
section
variable {Lx:Lex} {S LN:List Int} {L pl k:Nat} {many group b:Int} {s:DT} {M:Mc}
theorem InS.chooseO {word:Str} {nought:Bool} {m p k':Nat} (h:InS S LN L pl many group b k s M) (hS:Lx.E word (xx nought)) (p8:((p:Int)+1)*group<=8) (m16:m<16) (k16:k'<16) :
  ∃ M',Step Lx [.str word,.int m,.int p,.int k'] M M'/\InS S LN L pl many group b (k+1) s M'/\M'.carried=M.carried/\M'.faults=M.faults/\M'.act m=M.chosen p k' nought/\(∀ (p':Nat) (j:Int),M'.numAt p' j=M.numAt p' j):=by
 have e:xx nought [.str word,.int m,.int p,.int k'] M=some (M.laidMask m (M.chosen p k' nought)):=by
  unfold xx
  show (if _ then _ else _)=_
  rw [if_pos ⟨by omega,by omega,by omega,by rw [h.group];exact p8,by omega,by omega⟩];rfl
 obtain ⟨a,o⟩:=laid_act (k:=k') h.ok m16 fun j=>decide (decide (M.numAt p j=0)=nought)
 refine ⟨_,Step.eff hS rfl e h.ok,⟨⟨o.l1,o.l64,o.g,o.nl,o.ml,o.mm,o.w0,o.w1⟩,h.wle,h.begun,h.base,?_,h.opened,h.many,h.group,h.lanes,h.rf,h.starts,h.lens,h.cells,h.touches⟩,rfl,rfl,a,fun _ _=>rfl⟩
 show M.pc+1=_
 rw [h.pc];omega
theorem InS.reachO {p m:Nat} {n:Int} (h:InS S LN L pl many group b k s M) (hS:Lx.E "reach" reachM) (p8:((p:Int)+1)*group<=8) (m16:m<16) (hf:M.faults.length<99000) :
  ∃ M',Step Lx [.str "reach",.int p,.int n,.int m] M M'/\InS S LN L pl many group b (k+1) s M'/\M'.carried=M.carried/\M'.act m=(M.act m).filter (fun j=>yj M p n j)/\M'.faults.length<=M.faults.length+(M.act m).length/\(∀ (p':Nat) (j:Int),M'.numAt p' j=M.numAt p' j):=by
 have e:reachM [.str "reach",.int p,.int n,.int m] M=some (M.outs p n (M.act m)):=by
  unfold reachM
  refine (if_pos ?_).trans ?_
  ·rw [h.group]
   exact ⟨by omega,p8,by omega,by omega,by omega⟩
  ·rw [Int.toNat_natCast,Int.toNat_natCast]
 obtain ⟨M',st,i,w,a,n'⟩:=h.reach (Lx:=Lx) (p:=p) (m:=m) (n:=n) hS p8 m16 hf
 have st2:=Step.eff (word:="reach") hS rfl e h.ok
 refine ⟨_,st2,⟨⟨h.ok.l1,h.ok.l64,h.ok.g,h.ok.nl,h.ok.ml,h.ok.mm,h.ok.w0,h.ok.w1⟩,h.wle,h.begun,h.base,(by show M.pc+1=_;rw [h.pc];omega),h.opened,h.many,h.group,h.lanes,h.rf,h.starts,h.lens,h.cells,h.touches⟩,rfl,?_,?_,fun _ _=>rfl⟩
 ·have key:=act_less (M:=M) (N:={ M.outs p n (M.act m) with pc:=M.pc+1 }) (bad:=fun j=>decide (j∈(M.act m).filter fun j=>!yj M p n j)) rfl rfl (fun j=>outF_some _ _ j) m
  refine Eq.trans key (List.filter_congr fun j hj=>?_)
  cases hi:yj M p n j with
  | true=>rw [decide_eq_false (fun z=>by have:=(List.mem_filter.mp z).2;rw [hi] at this;cases this)];rfl
  | false=>rw [decide_eq_true (List.mem_filter.mpr ⟨hj,by rw [hi];rfl⟩)];rfl
 ·have a1:=outF_len ((M.act m).filter fun j=>!yj M p n j) M.faults
  have a2:=List.length_filter_le (fun j=>!yj M p n j) (M.act m)
  show (outF M.faults _).length<=_
  omega
end
inductive Sp4
 | ld (r:Nat)
 | ch (no:Bool)
 | rc (n:Int)
 | jo (run:Bool) (r:Nat) (f:Str)
structure T4 where
 act:List Int
 ns:List Int
 c:Option Int
 s:DT
def zipF (q:Int->Bool) (act ns:List Int):List Int:=((act.zip ns).filter fun p=>q p.2).map Prod.fst
def go4 (S:List Int) (pl k:Nat) (st:Sp4) (t:T4):T4:=match st with
 | .ld r=>⟨t.act,t.act.map fun e=>t.s.1.getD (S.getD r 0+e).toNat 0,t.c,(t.s.1,t.s.2++t.act.map fun e=>(((pl+k:Nat):Int),("read":Str),S.getD r 0+e))⟩
 | .ch no=>⟨zipF (fun v=>decide (decide (v=0)=no)) t.act t.ns,t.ns,t.c,t.s⟩
 | .rc n=>⟨zipF (gIn n) t.act t.ns,t.ns.filter (gIn n),t.c,t.s⟩
 | .jo true r f=>⟨t.act,t.ns,yQ t.c (xb f t.c t.ns),runDT (S.getD r 0) ((pl+k:Nat):Int) f t.act t.ns t.c t.s⟩
 | .jo false r f=>⟨t.act,t.ns,t.c,xf (S.getD r 0) ((pl+k:Nat):Int) f t.ns t.s⟩
def chWord (nought:Bool):Str:=if nought=true then "other" else "choose"
def Sp4.tv (p mk m:Nat):Sp4->List V
 | .ld r=>[.str "load",.int p,.int r,.int mk]
 | .ch no=>[.str (chWord no),.int m,.int p,.int mk]
 | .rc n=>[.str "reach",.int p,.int n,.int mk]
 | .jo true r f=>[.str "running",.int r,.str f,.int p,.int mk]
 | .jo false r f=>[.str "fold",.int r,.str f,.int p,.int mk]
def Sp4.mask (mk m:Nat):Sp4->Nat
 | .ch _=>m
 | _=>mk
def Sp4.fresh:Sp4->Bool
 | .ch _=>false
 | _=>true
def Lx:Lex:=⟨fun w f=>(w="load"/\f=loadM),fun w f=>(w="fold"/\f=foldM)∨(w="running"/\f=runM)∨(w="choose"/\f=xx false)∨(w="other"/\f=xx true)∨(w="reach"/\f=reachM),fun w f=>(w="begin"/\f=beginW)∨(w="next"/\f=nextW)⟩
theorem lx_chs (nought:Bool):Lx.E (chWord nought) (xx nought):=by
 cases nought
 ·exact .inr (.inr (.inl ⟨rfl,rfl⟩))
 ·exact .inr (.inr (.inr (.inl ⟨rfl,rfl⟩)))
theorem zipF_map (q:Int->Bool) (F:Int->Int) (es:List Int):zipF q es (es.map F)=es.filter fun e=>q (F e):=by
 unfold zipF
 induction es with
 | nil=>rfl
 | cons e es ih =>
  rw [List.map_cons,List.zip_cons_cons]
  by_cases z:q (F e)=true
  ·rw [List.filter_cons_of_pos (p:=fun p:Int×Int=>q p.2) z,List.map_cons,ih,List.filter_cons_of_pos (p:=fun e=>q (F e)) z]
  ·rw [List.filter_cons_of_neg (p:=fun p:Int×Int=>q p.2) z,ih,List.filter_cons_of_neg (p:=fun e=>q (F e)) z]
structure I4 (S LN:List Int) (L pl:Nat) (many group b:Int) (p:Nat) (k mk:Nat) (fr:Bool) (t:T4) (M:Mc):Prop where
 i:InS S LN L pl many group b k t.s M
 c:M.carried=t.c
 a:(M.act mk).map (b+·)=t.act
 f:M.faults.length<=k*1000
 n:fr=true->∃ F:Int->Int,t.ns=t.act.map F/\∀ j∈M.act mk,M.numAt p j=F (b+j)
structure Kin4 (t:T4):Prop where
 d:∀ v∈t.s.1,Kin v
 n:∀ v∈t.ns,Kin v
 c:∀ v,t.c=some v->Kin v
theorem getD_kin {ds:List Int} (h:∀ v∈ds,Kin v) (i:Nat):Kin (ds.getD i 0):=by
 by_cases z:i<ds.length
 ·exact h _ (L2.getD_mem z)
 ·rw [List.getD_eq_getElem?_getD,List.getElem?_eq_none (by omega)]
  show -9223372036854775808<=(0:Int)/\(0:Int)<=9223372036854775807
  omega
theorem step4 {S LN:List Int} {L pl:Nat} {many group b:Int} {p k mk m:Nat} {fr:Bool} {t:T4} {M:Mc} {st:Sp4} (h:I4 S LN L pl many group b p k mk fr t M) (kn:Kin4 t) (p8:((p:Int)+1)*group<=8) (mk16:mk<16) (m16:m<16) (b0:0<=b) (k90:k<90)
  (hfr:(match st with | .ld _=>true | _=>fr)=true) (rows:∀ r,(st=.ld r∨∃ x f,st=.jo x r f)->r<S.length/\0<=S.getD r 0/\S.getD r 0+many<=t.s.1.length/\1<=many) (f9:∀ x r f,st=.jo x r f->Fd9 f) (ht:t.s.2.length+300<90000) :
  ∃ M',Step Lx (st.tv p mk m) M M'/\I4 S LN L pl many group b p (k+1) (st.mask mk m) st.fresh (go4 S pl k st t) M':=by
 have w0:=h.i.len mk
 have gb:group*(L:Int)<=256:=by
  have:=h.i.ok.g
  have:=h.i.ok.l64
  rw [← h.i.group,← h.i.lanes]
  rcases h.i.ok.g with e | e | e <;> rw [e] <;> omega
 have wl:wid many (group*L) b<=256:=by unfold wid;omega
 cases st with
 | ld r =>
  obtain ⟨r1,r2,r3,_⟩:=rows r (.inl rfl)
  obtain ⟨M',s1,i1,⟨k1,ft1⟩,n1,_⟩:=h.i.loadO (Lx:=Lx) (p:=p) (m:=mk) (r:=r) ⟨rfl,rfl⟩ p8 mk16 r1 b0 ⟨r2,r3⟩ (by omega)
  have a1:=act_same k1 ft1
  rw [h.a] at i1
  refine ⟨M',s1,i1,by rw [k1.carried];exact h.c,by rw [show (Sp4.ld r).mask mk m=mk from rfl,a1];exact h.a,by rw [ft1];have:=h.f;omega,fun _=>⟨fun e=>t.s.1.getD (S.getD r 0+e).toNat 0,rfl,fun j hj=>?_⟩⟩
  rw [show (Sp4.ld r).mask mk m=mk from rfl,a1] at hj
  exact n1 j hj
 | ch no =>
  obtain ⟨F,eF,nF⟩:=h.n hfr
  obtain ⟨M',s1,i1,c1,ft1,a1,n1⟩:=h.i.chooseO (Lx:=Lx) (word:=chWord no) (nought:=no) (m:=m) (p:=p) (k':=mk) (lx_chs no) p8 m16 mk16
  refine ⟨M',s1,i1,c1.trans h.c,?_,by rw [ft1];have:=h.f;omega,fun z=>by cases z⟩
  show (M'.act m).map (b+·)=zipF (fun v=>decide (decide (v=0)=no)) t.act t.ns
  rw [a1,eF,zipF_map,← h.a]
  unfold Mc.chosen
  rw [List.filter_map]
  congr 1
  refine List.filter_congr fun j hj=>?_
  show _=decide (decide (F (b+j)=0)=no)
  rw [nF j hj]
 | rc n =>
  obtain ⟨F,eF,nF⟩:=h.n hfr
  obtain ⟨M',s1,i1,c1,a1,ft1,n1⟩:=h.i.reachO (Lx:=Lx) (p:=p) (m:=mk) (n:=n) (.inr (.inr (.inr (.inr ⟨rfl,rfl⟩)))) p8 mk16 (by have:=h.f;omega)
  have ef:(M.act mk).filter (fun j=>yj M p n j)=(M.act mk).filter fun j=>gIn n (F (b+j)):=List.filter_congr fun j hj=>by
   unfold yj gIn
   rw [nF j hj]
  have ea:(M'.act mk).map (b+·)=t.act.filter fun e=>gIn n (F e):=by
   rw [a1,ef,← h.a,List.filter_map];rfl
  refine ⟨M',s1,i1,c1.trans h.c,?_,by have:=h.f;omega,fun _=>⟨F,?_,fun j hj=>?_⟩⟩
  ·show (M'.act mk).map (b+·)=zipF (gIn n) t.act t.ns
   rw [eF,zipF_map];exact ea
  ·show t.ns.filter (gIn n)=(zipF (gIn n) t.act t.ns).map F
   rw [eF,zipF_map,List.filter_map];rfl
  ·have hj:j∈M'.act mk:=hj
   rw [a1] at hj
   rw [n1]
   exact nF j (List.mem_filter.mp hj).1
 | jo x r f =>
  obtain ⟨F,eF,nF⟩:=h.n hfr
  obtain ⟨r1,r2,r3,mm⟩:=rows r (.inr ⟨x,f,rfl⟩)
  have h9:=f9 x r f rfl
  have hk:∀ j∈M.act mk,Kin (F (b+j)):=fun j hj=>kn.n _ (by rw [eF,← h.a,List.map_map];exact List.mem_map.mpr ⟨j,hj,rfl⟩)
  cases x with
  | true =>
   obtain ⟨M',s1,i1,c1,ft1,a1,n1⟩:=h.i.run (Lx:=Lx) (r:=r) (p:=p) (m:=mk) (f:=f) (F:=F) (.inr (.inl ⟨rfl,rfl⟩)) p8 mk16 h9 r1 b0 ⟨r2,r3⟩ (by omega) hk (by rw [h.c];exact kn.c) nF
   rw [h.a,← eF,h.c] at i1 c1
   refine ⟨M',s1,i1,c1,by rw [show (Sp4.jo true r f).mask mk m=mk from rfl,a1];exact h.a,by rw [ft1];have:=h.f;omega,fun _=>⟨F,eF,fun j hj=>?_⟩⟩
   rw [show (Sp4.jo true r f).mask mk m=mk from rfl,a1] at hj
   rw [n1];exact nF j hj
  | false =>
   obtain ⟨M',s1,i1,c1,ft1,a1,n1⟩:=h.i.fold (Lx:=Lx) (r:=r) (p:=p) (m:=mk) (f:=f) (F:=F) (.inl ⟨rfl,rfl⟩) p8 mk16 h9 r1 ⟨r2,by omega⟩ (by omega) hk (getD_kin kn.d _) nF
   rw [h.a,← eF] at i1
   refine ⟨M',s1,i1,c1.trans h.c,by rw [show (Sp4.jo false r f).mask mk m=mk from rfl,a1];exact h.a,by rw [ft1];have:=h.f;omega,fun _=>⟨F,eF,fun j hj=>?_⟩⟩
   rw [show (Sp4.jo false r f).mask mk m=mk from rfl,a1] at hj
   rw [n1];exact nF j hj
end K40
namespace K40
open PySem L2
theorem setAll_kin:∀ (ps:List (Int×Int)) {ds:List Int},(∀ v∈ds,Kin v)->(∀ p∈ps,Kin p.2)->∀ v∈xh ds ps,Kin v
 | [],ds,h,_=>h
 | p::ps,ds,h,hp=>setAll_kin ps (ds:=ds.set p.1.toNat p.2) (fun v hv=>by
   rcases List.mem_or_eq_of_mem_set hv with hv | rfl
   ·exact h v hv
   ·exact hp p List.mem_cons_self) fun q hq=>hp q (List.mem_cons_of_mem _ hq)
theorem scanF_kin {f:Str} (h9:Fd9 f):∀ (ns:List Int) (c:Option Int),(∀ v∈ns,Kin v)->(∀ v,c=some v->Kin v)->∀ v∈xb f c ns,Kin v
 | [],c,_,_,v,hv=>by cases c <;> cases hv
 | n::ns,none,hn,hc,v,hv=>by
  rcases List.mem_cons.mp hv with rfl | hv
  ·exact hn v List.mem_cons_self
  ·exact scanF_kin h9 ns (some n) (fun v hv=>hn v (List.mem_cons_of_mem _ hv)) (fun v e=>by cases e;exact hn n List.mem_cons_self) v hv
 | n::ns,some c,hn,hc,v,hv=>by
  have k:=opF_kin h9 (hc c rfl) (hn n List.mem_cons_self)
  rcases List.mem_cons.mp hv with rfl | hv
  ·exact k
  ·exact scanF_kin h9 ns (some (opF f c n)) (fun v hv=>hn v (List.mem_cons_of_mem _ hv)) (fun v e=>by cases e;exact k) v hv
theorem lastC_kin {c:Option Int} {ts:List Int} (hc:∀ v,c=some v->Kin v) (ht:∀ v∈ts,Kin v):∀ v,yQ c ts=some v->Kin v:=by
 intro v e
 unfold yQ at e
 cases q:ts.getLast? with
 | none=>rw [q] at e;exact hc v e
 | some w=>rw [q] at e;cases e;exact ht v (List.mem_of_getLast? q)
theorem go4_kin {S:List Int} {pl k:Nat} {st:Sp4} {t:T4} (h:Kin4 t) (f9:∀ x r f,st=.jo x r f->Fd9 f):Kin4 (go4 S pl k st t):=by
 cases st with
 | ld r=>exact ⟨h.d,fun v hv=>by obtain ⟨e,_,rfl⟩:=List.mem_map.mp hv;exact getD_kin h.d _,h.c⟩
 | ch no=>exact ⟨h.d,h.n,h.c⟩
 | rc n=>exact ⟨h.d,fun v hv=>h.n v (List.mem_filter.mp hv).1,h.c⟩
 | jo x r f =>
  have h9:=f9 x r f rfl
  cases x with
  | true =>
   have hs:=scanF_kin h9 t.ns t.c h.n h.c
   refine ⟨setAll_kin _ h.d fun p hp=>?_,h.n,lastC_kin h.c hs⟩
   obtain ⟨q,hq,rfl⟩:=List.mem_map.mp hp
   exact hs _ (List.of_mem_zip hq).2
  | false =>
   refine ⟨?_,h.n,h.c⟩
   show ∀ v∈(xf _ _ f t.ns t.s).1,Kin v
   unfold xf
   split
   ·exact h.d
   ·intro v hv
    rcases List.mem_or_eq_of_mem_set hv with hv | rfl
    ·exact h.d v hv
    ·exact xZ h9 _ _ (getD_kin h.d _) h.n
theorem go4_len (S:List Int) (pl k:Nat) (st:Sp4) (t:T4):(go4 S pl k st t).s.1.length=t.s.1.length/\(go4 S pl k st t).s.2.length<=t.s.2.length+t.act.length+2/\(go4 S pl k st t).act.length<=t.act.length:=by
 have zl:∀ q,(zipF q t.act t.ns).length<=t.act.length:=fun q=>by
  unfold zipF
  rw [List.length_map]
  refine Nat.le_trans (List.length_filter_le _ _) ?_
  rw [List.length_zip];omega
 cases st with
 | ld r=>exact ⟨rfl,by show (t.s.2++_).length<=_;rw [List.length_append,List.length_map];omega,Nat.le_refl _⟩
 | ch no=>exact ⟨rfl,by show t.s.2.length<=_;omega,zl (fun v=>decide (decide (v=0)=no))⟩
 | rc n=>exact ⟨rfl,by show t.s.2.length<=_;omega,zl (gIn n)⟩
 | jo x r f =>
  cases x with
  | true=>exact ⟨setAll_len _ _,by show (t.s.2++_).length<=_;rw [List.length_append,List.length_map];omega,Nat.le_refl _⟩
  | false =>
   refine ⟨?_,?_,Nat.le_refl _⟩
   ·show (xf _ _ f t.ns t.s).1.length=_
    unfold xf
    split
    ·rfl
    ·exact List.length_set
   ·show (xf _ _ f t.ns t.s).2.length<=_
    unfold xf
    split
    ·omega
    ·show (t.s.2++_).length<=_
     rw [List.length_append];show _+2<=_;omega
def run4 (S:List Int) (pl:Nat):Nat->List Sp4->T4->T4
 | _,[],t=>t
 | k,st::sts,t=>run4 S pl (k+1) sts (go4 S pl k st t)
def tvs4 (p m:Nat):Nat->List Sp4->List (List V)
 | _,[]=>[]
 | mk,st::sts=>st.tv p mk m::tvs4 p m (st.mask mk m) sts
def mask4 (m:Nat):Nat->List Sp4->Nat
 | mk,[]=>mk
 | mk,st::sts=>mask4 m (st.mask mk m) sts
theorem xV (p m:Nat):∀ (sts:List Sp4) (mk:Nat),(tvs4 p m mk sts).length=sts.length
 | [],_=>rfl
 | st::sts,mk=>by show (tvs4 p m _ sts).length+1=_;rw [xV p m sts];rfl
def Fr4:Bool->List Sp4->Prop
 | _,[]=>True
 | fr,st::sts=>(match st with | .ld _=>true | _=>fr)=true/\Fr4 st.fresh sts
def Row4 (S:List Int) (many:Int) (nc:Nat) (sts:List Sp4):Prop:=∀ st∈sts,(∀ r,(st=.ld r∨∃ x f,st=.jo x r f)->r<S.length/\0<=S.getD r 0/\S.getD r 0+many<=nc/\1<=many)/\∀ x r f,st=.jo x r f->Fd9 f
theorem strip4 {code:List (List V)} {S LN:List Int} {L pl A:Nat} {many group b:Int} {p m:Nat} (A2:A<=256) (p8:((p:Int)+1)*group<=8) (m16:m<16) (b0:0<=b):∀ (sts:List Sp4) {k mk:Nat} {fr:Bool} {t:T4} {M:Mc},I4 S LN L pl many group b p k mk fr t M->Kin4 t->mk<16->k+sts.length<90->Fr4 fr sts->Row4 S many t.s.1.length sts->t.act.length<=A->t.s.2.length+300+sts.length*300<90000 ->
  (∀ i tv,(tvs4 p m mk sts)[i]?=some tv->code[pl+k+i]?=some tv) ->
  ∃ n M',Steps Lx code n M M'/\I4 S LN L pl many group b p (k+sts.length) (mask4 m mk sts) (match sts.getLast? with | some st=>st.fresh | none=>fr) (run4 S pl k sts t) M'/\Kin4 (run4 S pl k sts t)/\(run4 S pl k sts t).s.1.length=t.s.1.length/\(run4 S pl k sts t).s.2.length<=t.s.2.length+sts.length*(A+2)
 | [],k,mk,fr,t,M,h,kn,_,_,_,_,_,_,_=>⟨0,M,.refl,h,kn,rfl,by show t.s.2.length<=_;omega⟩
 | st::sts,k,mk,fr,t,M,h,kn,mk16,k90,hf,hr,ha,ht,cd=>by
  rw [List.length_cons] at k90 ht
  obtain ⟨f1,f2⟩:=hf
  obtain ⟨g1,g2⟩:=hr st List.mem_cons_self
  obtain ⟨M1,s1,i1⟩:=step4 (m:=m) h kn p8 mk16 m16 b0 (by omega) f1 g1 g2 (by omega)
  obtain ⟨l1,l2,l3⟩:=go4_len S pl k st t
  have mk1:st.mask mk m<16:=by cases st <;> first | exact mk16 | exact m16
  obtain ⟨n,M2,s2,i2,k2,e1,e2⟩:=strip4 A2 p8 m16 b0 sts (code:=code) i1 (go4_kin kn g2) mk1 (by omega) f2 (by rw [l1];exact fun x hx=>hr x (List.mem_cons_of_mem _ hx)) (by omega) (by omega) (fun i tv hi=>by
   have:=cd (i+1) tv hi
   rw [← this];congr 1;omega)
  have c0:=cd 0 _ rfl
  rw [Nat.add_zero] at c0
  refine ⟨1+n,M2,(h.i.one c0 s1).trans s2,?_,k2,e1.trans l1,?_⟩
  ·have ek:k+(st::sts).length=k+1+sts.length:=by rw [List.length_cons];omega
   rw [ek]
   have el:(match (st::sts).getLast? with | some st=>st.fresh | none=>fr)=(match sts.getLast? with | some st=>st.fresh | none=>st.fresh):=by
    cases sts with
    | nil=>rfl
    | cons a l=>rw [List.getLast?_cons_cons];rfl
   rw [el]
   exact i2
  ·rw [List.length_cons,Nat.add_mul]
   show (run4 S pl (k+1) sts (go4 S pl k st t)).s.2.length<=_
   generalize sts.length*(A+2)=x at *
   omega
end K40
namespace K40
open PySem L2
abbrev DC:=DT×Option Int
def upC (one:Int->DC->DC) (side:Int) (s:DC) (i:Nat):DC:=(List.range i).foldl (fun s (i:Nat)=>one (i*side) s) s
theorem upC_succ (one:Int->DC->DC) (side:Int) (s:DC) (i:Nat):upC one side s (i+1)=one (i*side) (upC one side s i):=by unfold upC;rw [List.range_succ,List.foldl_append];rfl
theorem round_car {Lx:Lex} (hB:Lx.W "begin" beginW) (hX:Lx.W "next" nextW) {code:List (List V)} {S LN:List Int} {L pl n N:Nat} {many group:Int} {one:Int->DC->DC} {I:Nat->DC->Prop} {s:DT} {M:Mc} (h:RestAt S LN L pl s M) (hg:group=1∨group=2∨group=4) (h1:1<=many)
  (c0:code[pl]?=some [.str "begin",.int many,.int group]) (c3:code[pl+(n+1)]?=some [.str "next"]) (hN:∀ i:Nat,i<N↔(i:Int)*(group*L)<many) (i0:I 0 (s,none))
  (go:∀ (i:Nat) (s:DC) (M:Mc),i<N->I i s->StripAt S LN L pl many group (i*(group*L)) s.1 M->M.carried=s.2->∃ k M',Steps Lx code k M M'/\InS S LN L pl many group (i*(group*L)) (n+1) (one (i*(group*L)) s).1 M'/\M'.carried=(one (i*(group*L)) s).2/\I (i+1) (one (i*(group*L)) s)) :
  ∃ k M',Steps Lx code k M M'/\RestAt S LN L (pl+(n+2)) (upC one (group*L) (s,none) N).1 M'/\I N (upC one (group*L) (s,none) N):=by
 have l1:=h.ok.l1
 have hL:=h.lanes
 have sd:1<=group*(L:Int):=by rcases hg with e | e | e <;> rw [e] <;> omega
 have N1:0<N:=(hN 0).mpr (by omega)
 have low:∀ i:Nat,(0:Int)<=i*(group*L):=fun i=>Int.mul_nonneg (by omega) (by omega)
 have sc:∀ i:Nat,((i+1:Nat):Int)*(group*L)=i*(group*L)+group*L:=fun i=>by rw [Int.natCast_add,Int.add_mul];show _+1*(group*(L:Int))=_;rw [Int.one_mul]
 have at_i:∀ i:Nat,i<N->∃ k M',Steps Lx code k M M'/\StripAt S LN L pl many group (i*(group*L)) (upC one (group*L) (s,none) i).1 M'/\M'.carried=(upC one (group*L) (s,none) i).2/\I i (upC one (group*L) (s,none) i):=by
  intro i
  induction i with
  | zero =>
   intro _
   have st:Step Lx [.str "begin",.int many,.int group] M { M.round many group with pc:=M.pc+1 }:=Step.way (L:=Lx) (word:="begin") hB rfl ⟨many,group,rfl,rfl,h.ok,hg,by omega,rfl,rfl⟩
   have sa:StripAt S LN L pl many group 0 s { ({ M with opened:=M.pc,many:=many,group:=group,carried:=none }:Mc).strip 0 with pc:=pl+1 }:=stripAt_of ⟨h.ok.l1,h.ok.l64,h.ok.nl,h.ok.ml,h.ok.mm⟩ hg rfl rfl h.lanes h.pc (by omega) h.rf h.starts h.lens h.cells h.touches
   rw [h.pc] at st
   refine ⟨1,_,.cons (by rw [h.pc];omega) h.rf (by rw [h.pc,Int.toNat_natCast];exact c0) st .refl,?_,rfl,i0⟩
   have e:((0:Nat):Int)*(group*L)=0:=by omega
   rw [e]
   unfold Mc.round
   rw [h.pc] at sa ⊢
   exact sa
  | succ i ih =>
   intro hi
   obtain ⟨k,M1,st,sa,ca,ii⟩:=ih (by omega)
   have hi1:=(hN (i+1)).mp hi
   rw [sc] at hi1
   have hl:=low i
   have hw:wid many (group*L) (i*(group*L))=(group*(L:Int)).toNat:=by unfold wid;omega
   obtain ⟨k2,M2,st2,e2,ca2,i2⟩:=go i _ M1 (by omega) ii sa ca
   have bb:M2.base+M2.begun=((i+1:Nat):Int)*(group*L):=by rw [sc,e2.base,e2.begun,hw];omega
   have st3:Step Lx [.str "next"] M2 { M2.strip (((i+1:Nat):Int)*(group*L)) with pc:=(pl:Int)+1 }:=Step.way (L:=Lx) (word:="next") hX rfl (by
    refine ⟨e2.ok.zero,by rw [e2.group];exact hg,?_⟩
    rw [bb,if_pos (by rw [e2.many,sc];exact hi1),e2.opened]
    exact ⟨rfl,rfl⟩)
   refine ⟨k+k2+1,_,(st.trans st2).trans (e2.one c3 st3),?_,?_,by rw [upC_succ];exact i2⟩
   ·rw [upC_succ]
    exact stripAt_of e2.ok.zero hg e2.group e2.many e2.lanes e2.opened (by rw [sc];omega) e2.rf e2.starts e2.lens e2.cells e2.touches
   ·rw [upC_succ]
    exact ca2
 obtain ⟨k,M1,st,sa,ca,ii⟩:=at_i (N-1) (by omega)
 have hi0:=(hN (N-1)).mp (by omega)
 have hi1:¬ ((N-1+1:Nat):Int)*(group*L)<many:=fun z=>by have:=(hN (N-1+1)).mpr z;omega
 rw [sc] at hi1
 have hl:=low (N-1)
 have hw:(wid many (group*L) ((N-1:Nat)*(group*L)):Int)=many-(N-1:Nat)*(group*L):=by unfold wid;omega
 obtain ⟨k2,M2,st2,e2,ca2,i2⟩:=go (N-1) _ M1 (by omega) ii sa ca
 have st3:Step Lx [.str "next"] M2 { M2 with pc:=((pl+(n+2):Nat):Int) }:=by
  refine Step.way (L:=Lx) (word:="next") hX rfl ?_
  refine ⟨e2.ok.zero,by rw [e2.group];exact hg,?_⟩
  rw [if_neg (by rw [e2.base,e2.begun,e2.many];omega),e2.pc]
  exact ⟨rfl,by omega⟩
 have eN:N=N-1+1:=by omega
 refine ⟨k+k2+1,_,(st.trans st2).trans (e2.one c3 st3),?_,by rw [eN,upC_succ];exact i2⟩
 rw [eN,upC_succ]
 exact ⟨⟨e2.ok.l1,e2.ok.l64,e2.ok.nl,e2.ok.ml,e2.ok.mm⟩,e2.lanes,e2.rf,e2.starts,e2.lens,rfl,e2.cells,e2.touches⟩
def one4 (S:List Int) (pl:Nat) (sts:List Sp4) (many side b:Int) (s:DC):DC:=((run4 S pl 1 sts ⟨elems many side b,[],s.2,s.1⟩).s,(run4 S pl 1 sts ⟨elems many side b,[],s.2,s.1⟩).c)
theorem round4 {code:List (List V)} {S LN:List Int} {L N pl p m:Nat} {many group:Int} {sts:List Sp4} {s:DT} {M:Mc} (h:RestAt S LN L pl s M) (hg:group=1∨group=2∨group=4) (h1:1<=many) (m100:many<=100) (p8:((p:Int)+1)*group<=8) (m16:m<16) (hl:sts.length<=10) (hf:Fr4 false sts) (hr:Row4 S many s.1.length sts) (kn:∀ v∈s.1,Kin v) (ht:s.2.length<80000) (hN:∀ i:Nat,i<N↔(i:Int)*(group*L)<many)
  (c0:code[pl]?=some [.str "begin",.int many,.int group]) (cs:∀ i tv,(tvs4 p m 0 sts)[i]?=some tv->code[pl+1+i]?=some tv) (c3:code[pl+(sts.length+1)]?=some [.str "next"]) :
  ∃ k M',Steps Lx code k M M'/\RestAt S LN L (pl+(sts.length+2)) (upC (one4 S pl sts many (group*L)) (group*L) (s,none) N).1 M'/\(∀ v∈(upC (one4 S pl sts many (group*L)) (group*L) (s,none) N).1.1,Kin v)/\(upC (one4 S pl sts many (group*L)) (group*L) (s,none) N).1.1.length=s.1.length/\(upC (one4 S pl sts many (group*L)) (group*L) (s,none) N).1.2.length<=s.2.length+3000:=by
 have l1:=h.ok.l1
 have l64:=h.ok.l64
 have hL:=h.lanes
 have sd:1<=group*(L:Int)/\group*(L:Int)<=256:=by rcases hg with e | e | e <;> rw [e] <;> omega
 obtain ⟨k,M',a,b,c⟩:=round_car (Lx:=Lx) (.inl ⟨rfl,rfl⟩) (.inr ⟨rfl,rfl⟩) (pl:=pl) (n:=sts.length) (one:=one4 S pl sts many (group*L)) (I:=fun i t=>(∀ v∈t.1.1,Kin v)/\(∀ v,t.2=some v->Kin v)/\t.1.1.length=s.1.length/\(t.1.2.length:Int)<=s.2.length+30*min many (i*(group*L))) h hg h1 c0 c3 hN ⟨kn,(fun v e=>by cases e),rfl,by rw [show ((0:Nat):Int)*(group*L)=0 by omega];show (s.2.length:Int)<=_;omega⟩ (fun i t M2 hi ⟨I0,I1,I2,I3⟩ sa ca=>by
  have hib:=(hN i).mp hi
  have ib0:(0:Int)<=i*(group*L):=Int.mul_nonneg (by omega) (by omega)
  have sc:((i+1:Nat):Int)*(group*L)=i*(group*L)+group*L:=by rw [Int.natCast_add,Int.add_mul];show _+1*(group*(L:Int))=_;rw [Int.one_mul]
  rw [sc]
  generalize (i:Int)*(group*L)=bb at *
  have wb:(wid many (group*L) bb:Int)=min many (bb+group*L)-bb:=by unfold wid;omega
  have el:=elems_len many (group*L) bb
  have i4:I4 S LN L pl many group bb p 1 0 false ⟨elems many (group*L) bb,[],t.2,t.1⟩ M2:=⟨sa.i,ca,by rw [sa.act];rfl,by rw [sa.flt];exact Nat.zero_le _,fun z=>by cases z⟩
  obtain ⟨n,M3,s3,j3,k3,e3,t3⟩:=strip4 (code:=code) (A:=wid many (group*L) bb) (m:=m) (by omega) p8 m16 ib0 sts i4 ⟨I0,fun v hv=>(by cases hv),I1⟩ (by decide) (by omega) hf (by show Row4 S many t.1.1.length sts;rw [I2];exact hr) (by show (elems many (group*L) bb).length<=_;omega) (by show t.1.2.length+300+sts.length*300<90000;omega) cs
  have t3:(one4 S pl sts many (group*L) bb t).1.2.length<=t.1.2.length+sts.length*(wid many (group*L) bb+2):=t3
  have mul:sts.length*(wid many (group*L) bb+2)<=10*(wid many (group*L) bb+2):=Nat.mul_le_mul_right _ hl
  rw [Nat.add_comm 1 sts.length] at j3
  refine ⟨n,M3,s3,j3.i,j3.c,k3.d,k3.c,e3.trans I2,?_⟩
  omega)
 obtain ⟨c1,c2,c4,c5⟩:=c
 exact ⟨k,M',a,b,c1,c4,by omega⟩
end K40
namespace K40
open PySem L2
def someV (ns:List Int) (k sa m:Int):Int :=
 let x:=(ns.getD k.toNat 0 % 1000003+1)*(48271+1000*k*k+69621*sa*sa) % 2147483647
 x*x % 2147483629 / 3 % m
section
variable {P:Program} {w:World} {K:PySem.W.Frag} {mg:Str->Option Value} {base:Heap}
def spSome2 (K:PySem.W.Frag):Sp:=fun vs H Q _=>∃ (a:Addr) (ns:List Int) (k sa m:Int),vs=[.ref a,.int k,.int sa,.int m]/\SqL K H a (ns.map V.int)/\0<=k/\k<=100000/\0<=sa/\sa<=100000/\0<m/\∀ r,r=someV ns k sa m->0<=r->r<m->Q (.int r) H
theorem ok_some2 (d:zn K mg "_law_some" s_l_some ["_law_script","_law_k","_law_salt","_law_many"]) (CA:Ok P w K mg base CX0 1 "_law_cell_at" ["_law_script","_law_k"] (spCA K)):Ok P w K mg base CX0 2 "_law_some" ["_law_script","_law_k","_law_salt","_law_many"] (spSome2 K):=by
 obtain ⟨g,fd,m,F,b⟩:=d
 refine ⟨g,fd,m,F.kp,b,F.ok sc_l_some (by rintro vs H Q E ⟨_,_,_,_,_,rfl,_⟩;rfl) fun cdv A outer s H vs Q E hr h=>?_⟩
 obtain ⟨a,ns,i,sa,mm,rfl,hS,h0,h1,h2,h3,h4,k⟩:=h
 have nd:=sc_l_some.nd
 have hr1:=hr
 refine ⟨_,(zc (zu (i:=4) nd rfl (Or.inl rfl) (zi zF (zi yU (zD CA hr1 (by rfl) zr (za (pv 0) (za (pv 1) zb))) ze) ze))
   (zc (zu (i:=5) nd rfl (Or.inl rfl) (zi yU (zi ya (pv 4) (zi zF (zi zF ze (zi ya (zi ya ze (pv 1)) (pv 1))) (zi ya (zi ya ze (pv 2)) (pv 2)))) ze))
   (zf (zq (zi yU (zi op_fdiv (zi yU (zi ya (pv 5) (pv 5)) ze) ze) (pv 3)))))),?_⟩
 refine ⟨_,rfl,_,rfl,a,ns,i,rfl,hS,h0,_,_,rfl,rfl,(by show (0:Int)<1000003;decide),_,_,rfl,rfl,?_⟩
 have c0:=Int.emod_nonneg (ns.getD i.toNat 0) (show (1000003:Int)≠0 by decide)
 have c1:=Int.emod_lt_of_pos (ns.getD i.toNat 0) (show (0:Int)<1000003 by decide)
 refine ⟨_,rfl,_,rfl,_,_,rfl,rfl,.inl ⟨by decide,by decide⟩,_,rfl,_,_,rfl,rfl,.inl ⟨by omega,by omega⟩,_,_,rfl,rfl,_,rfl,_,_,rfl,rfl,.inl ⟨by decide,by decide⟩,_,rfl,_,_,rfl,rfl,.inl ⟨by omega,by omega⟩,_,_,rfl,rfl,_,_,rfl,rfl,.inl ⟨by omega,by omega⟩,_,_,rfl,rfl,(by show (0:Int)<2147483647;decide),?_⟩
 generalize hy:(ns.getD i.toNat 0 % 1000003+1)*(48271+1000*i*i+69621*sa*sa)=y
 refine ⟨_,rfl,_,rfl,_,_,rfl,rfl,.inl ⟨by omega,by omega⟩,_,_,rfl,rfl,(by show (0:Int)<2147483629;decide),_,_,rfl,rfl,⟨by decide,by decide⟩,_,rfl,_,_,rfl,rfl,h4,?_⟩
 exact k _ (by rw [← hy];rfl) (Int.emod_nonneg _ (by omega)) (Int.emod_lt_of_pos _ h4)
end
end K40
namespace K40
open PySem L2 My
def stepC (f:Str) (c:Option Int) (n:Int):Int:=match c with
 | none=>n
 | some c=>opF f c n
theorem lastC_cons (c:Option Int) (v:Int) (l:List Int):yQ c (v::l)=yQ (some v) l:=by
 unfold yQ
 rw [List.getLast?_cons]
 cases l.getLast? <;> rfl
theorem lastC_snoc (c:Option Int) (l:List Int) (v:Int):yQ c (l++[v])=some v:=by
 unfold yQ
 rw [List.getLast?_append];rfl
theorem scanF_cons (f:Str) (c:Option Int) (n:Int) (ns:List Int):xb f c (n::ns)=stepC f c n::xb f (some (stepC f c n)) ns:=by cases c <;> rfl
theorem scanF_at (f:Str):∀ (ns:List Int) (c:Option Int) (i:Nat) (n:Int),ns[i]?=some n->(xb f c ns)[i]?=some (stepC f (yQ c ((xb f c ns).take i)) n)
 | [],c,i,n,h=>by cases h
 | m::t,c,0,n,h=>by
  cases h
  rw [scanF_cons];rfl
 | m::t,c,i+1,n,h=>by
  have h:t[i]?=some n:=h
  rw [scanF_cons,List.getElem?_cons_succ,List.take_succ_cons,lastC_cons]
  exact scanF_at f t _ i n h
section
variable {P:Program} {w:World} {K:PySem.W.Frag} {mg:Str->Option Value} {base:Heap}
theorem ok_lkept (d:zn K mg "_law_kept" s_l_kept ["_law_number_here"]):Ok P w K mg base CX0 1 "_law_kept" ["_law_number_here"] (sp1 fun n=>.int (kept n)):=by
 obtain ⟨f,fd,m,F,b⟩:=d
 refine ⟨f,fd,m,F.kp,b,F.ok sc_l_kept len1 fun cdv A outer s H vs Q E hr h=>?_⟩
 obtain ⟨n,rfl,k⟩:=h
 refine ⟨_,(zf (zq (zi op_sub (zi yU (zi zF (pv 0) ze) ze) ze))),?_⟩
 exact ⟨_,rfl,_,_,rfl,rfl,_,_,rfl,rfl,(by show (0:Int)<18446744073709551616;decide),_,_,rfl,rfl,k⟩
def spLJ:Sp:=fun vs H Q _=>∃ f a b,vs=[.str f,.int a,.int b]/\Fd9 f/\Kin a/\Kin b/\Q (.int (opF f a b)) H
theorem ok_ljoined (d:zn K mg "_law_joined" xD ["_law_fold","_law_run","_law_number_here"]) (LK:Ok P w K mg base CX0 1 "_law_kept" ["_law_number_here"] (sp1 fun n=>.int (kept n))) (hmin:mg "min"=none) (hmax:mg "max"=none) :
  Ok P w K mg base CX0 2 "_law_joined" ["_law_fold","_law_run","_law_number_here"] spLJ:=by
 obtain ⟨f,fd,m,F,b⟩:=d
 refine ⟨f,fd,m,F.kp,b,F.ok sc_l_joined (by rintro vs H Q E ⟨_,_,_,rfl,_⟩;rfl) fun cdv A outer s H vs Q E hr h=>?_⟩
 obtain ⟨f,x,y,rfl,hf,hx,hy,k⟩:=h
 have hr1:=hr
 refine ⟨_,(zc (zV (zH yF (pv 0) zX (zL _)) (zf (zq (zD LK hr1 (by rfl) zr (za (zi zF (pv 1) (pv 2)) zb)))) zI)
   (zc (zV (zH yF (pv 0) zX (zL _)) (zf (zq (zD LK hr1 (by rfl) zr (za (zi ya (pv 1) (pv 2)) zb)))) zI)
   (zc (zV (zH yF (pv 0) zX (zL _)) (zf (zq (zv (xI rfl) rfl hmin PyProof.Rows.boot_min (za (pv 1) (za (pv 2) zb))))) zI)
   (zc (zV (zH yF (pv 0) zX (zL _)) (zf (zq (zv (call_max2 rfl) rfl hmax PyProof.Rows.boot_max (za (pv 1) (za (pv 2) zb))))) zI)
   (zc (zV (zH yF (pv 0) zX (zL _)) (zf (zq (zi op_and (pv 1) (pv 2)))) zI)
   (zc (zV (zH yF (pv 0) zX (zL _)) (zf (zq (zi op_or (pv 1) (pv 2)))) zI)
   (zc (zV (zH yF (pv 0) zX (zL _)) (zf (zq (zi op_xor (pv 1) (pv 2)))) zI)
   (zc (zV (zH yF (pv 0) zX (zL _)) (zf (zq (zD LK hr1 (by rfl) zr (za (zi zF (zi ya ze (pv 1)) (pv 2)) zb)))) zI)
   (zf (zq (zv (call_max2 rfl) rfl hmax PyProof.Rows.boot_max (za (pe_un un_neg ze) (za (zv (xI rfl) rfl hmin PyProof.Rows.boot_min (za ze (za (zi zF (pv 1) (pv 2)) zb))) zb))))))))))))),?_⟩
 simp only [Fd9,xw,List.mem_cons,List.not_mem_nil,or_false,_root_.or_assoc] at hf
 rcases hf with rfl | rfl | rfl | rfl | rfl | rfl | rfl | rfl | rfl
 ·refine ⟨_,rfl,rfl,_,rfl,iteEq ?_⟩
  exact ⟨_,rfl,_,rfl,_,_,rfl,rfl,_,rfl,k⟩
 ·refine ⟨_,rfl,rfl,_,rfl,zE (by decide) ?_⟩
  refine ⟨_,rfl,rfl,_,rfl,iteEq ?_⟩
  exact ⟨_,rfl,_,rfl,_,_,rfl,rfl,.inl ⟨by omega,by omega⟩,_,rfl,k⟩
 ·refine ⟨_,rfl,rfl,_,rfl,zE (by decide) ?_⟩
  refine ⟨_,rfl,rfl,_,rfl,zE (by decide) ?_⟩
  refine ⟨_,rfl,rfl,_,rfl,iteEq ?_⟩
  exact ⟨_,rfl,_,rfl,_,_,rfl,k⟩
 ·refine ⟨_,rfl,rfl,_,rfl,zE (by decide) ?_⟩
  refine ⟨_,rfl,rfl,_,rfl,zE (by decide) ?_⟩
  refine ⟨_,rfl,rfl,_,rfl,zE (by decide) ?_⟩
  refine ⟨_,rfl,rfl,_,rfl,iteEq ?_⟩
  exact ⟨_,rfl,_,rfl,_,_,rfl,k⟩
 ·refine ⟨_,rfl,rfl,_,rfl,zE (by decide) ?_⟩
  refine ⟨_,rfl,rfl,_,rfl,zE (by decide) ?_⟩
  refine ⟨_,rfl,rfl,_,rfl,zE (by decide) ?_⟩
  refine ⟨_,rfl,rfl,_,rfl,zE (by decide) ?_⟩
  refine ⟨_,rfl,rfl,_,rfl,iteEq ?_⟩
  exact ⟨_,rfl,_,rfl,_,_,rfl,rfl,k⟩
 ·refine ⟨_,rfl,rfl,_,rfl,zE (by decide) ?_⟩
  refine ⟨_,rfl,rfl,_,rfl,zE (by decide) ?_⟩
  refine ⟨_,rfl,rfl,_,rfl,zE (by decide) ?_⟩
  refine ⟨_,rfl,rfl,_,rfl,zE (by decide) ?_⟩
  refine ⟨_,rfl,rfl,_,rfl,zE (by decide) ?_⟩
  refine ⟨_,rfl,rfl,_,rfl,iteEq ?_⟩
  exact ⟨_,rfl,_,rfl,_,_,rfl,rfl,k⟩
 ·refine ⟨_,rfl,rfl,_,rfl,zE (by decide) ?_⟩
  refine ⟨_,rfl,rfl,_,rfl,zE (by decide) ?_⟩
  refine ⟨_,rfl,rfl,_,rfl,zE (by decide) ?_⟩
  refine ⟨_,rfl,rfl,_,rfl,zE (by decide) ?_⟩
  refine ⟨_,rfl,rfl,_,rfl,zE (by decide) ?_⟩
  refine ⟨_,rfl,rfl,_,rfl,zE (by decide) ?_⟩
  refine ⟨_,rfl,rfl,_,rfl,iteEq ?_⟩
  exact ⟨_,rfl,_,rfl,_,_,rfl,rfl,k⟩
 ·refine ⟨_,rfl,rfl,_,rfl,zE (by decide) ?_⟩
  refine ⟨_,rfl,rfl,_,rfl,zE (by decide) ?_⟩
  refine ⟨_,rfl,rfl,_,rfl,zE (by decide) ?_⟩
  refine ⟨_,rfl,rfl,_,rfl,zE (by decide) ?_⟩
  refine ⟨_,rfl,rfl,_,rfl,zE (by decide) ?_⟩
  refine ⟨_,rfl,rfl,_,rfl,zE (by decide) ?_⟩
  refine ⟨_,rfl,rfl,_,rfl,zE (by decide) ?_⟩
  refine ⟨_,rfl,rfl,_,rfl,iteEq ?_⟩
  exact ⟨_,rfl,_,_,rfl,rfl,.inl ⟨by decide,by decide⟩,_,rfl,_,_,rfl,rfl,_,rfl,k⟩
 ·refine ⟨_,rfl,rfl,_,rfl,zE (by decide) ?_⟩
  refine ⟨_,rfl,rfl,_,rfl,zE (by decide) ?_⟩
  refine ⟨_,rfl,rfl,_,rfl,zE (by decide) ?_⟩
  refine ⟨_,rfl,rfl,_,rfl,zE (by decide) ?_⟩
  refine ⟨_,rfl,rfl,_,rfl,zE (by decide) ?_⟩
  refine ⟨_,rfl,rfl,_,rfl,zE (by decide) ?_⟩
  refine ⟨_,rfl,rfl,_,rfl,zE (by decide) ?_⟩
  refine ⟨_,rfl,rfl,_,rfl,zE (by decide) ?_⟩
  exact ⟨_,rfl,_,rfl,_,rfl,_,_,rfl,rfl,_,_,rfl,_,_,rfl,k⟩
end
end K40
namespace K40
open PySem L2 My
def cl (c:Option Int):List V:=match c with
 | none=>[]
 | some v=>[.int v]
def jnD (x:Bool) (a pc:Int) (f:Str) (es ns:List Int) (c:Option Int) (s:DT):DT:=match x with
 | true=>runDT a pc f es ns c s
 | false=>xf a pc f ns s
def jnC (x:Bool) (f:Str) (ns:List Int) (c:Option Int):Option Int:=match x with
 | true=>yQ c (xb f c ns)
 | false=>c
section
variable {P:Program} {w:World} {K:PySem.W.Frag} {mg:Str->Option Value} {base:Heap}
def spJn (K:PySem.W.Frag):Sp:=fun vs H Q _=>∃ (B:Hp) (st aa an ca du to:Addr) (ts:List Addr) (x:Bool) (r p mk:Nat) (f:Str) (a pc:Int) (es ns ds:List Int) (c:Option Int) (T:List Tch),vs=[.ref st,.int pc,.int a,.ref aa,.ref an,.ref ca,.ref du,.ref to]/\Hd B [(ca,.lst (cl c)),(du,.lst (ds.map V.int)),(to,.lst (ts.map V.ref))] H/\B st=some (.tup ((Sp4.jo x r f).tv p mk 0))/\SqL K B aa (es.map V.int)/\SqL K B an (ns.map V.int)/\TAt B ts T /\
 ns.length=es.length/\Fd9 f/\(∀ v∈ns,Kin v)/\(∀ v,c=some v->Kin v)/\(∀ v∈ds,Kin v)/\(∀ e∈es,0<=a+e/\a+e<ds.length)/\0<=a/\a<ds.length/\T.length+es.length+2<100000/\ds.length<=100000 /\
 ∀ B' H' ts',Same B B'->Hd B' [(ca,.lst (cl (jnC x f ns c))),(du,.lst ((jnD x a pc f es ns c (ds,T)).1.map V.int)),(to,.lst (ts'.map V.ref))] H'->TAt B' ts' (jnD x a pc f es ns c (ds,T)).2->Q .non H'
theorem ok_joins (d:zn K mg "_law_joins" xO ["_law_step","_law_place","_law_start","_law_active","_law_numbers","_law_carried","_law_due","_law_touches"]) (hlen:mg "len"=none) (hzip:mg "zip"=none) (LJ:Ok P w K mg base CX0 2 "_law_joined" ["_law_fold","_law_run","_law_number_here"] spLJ) :
  Ok P w K mg base CX0 3 "_law_joins" ["_law_step","_law_place","_law_start","_law_active","_law_numbers","_law_carried","_law_due","_law_touches"] (spJn K):=by
 obtain ⟨g,fd,m,F,b⟩:=d
 refine ⟨g,fd,m,F.kp,b,F.ok sc_l_joins (by rintro vs H Q E ⟨_,_,_,_,_,_,_,_,_,_,_,_,_,_,_,_,_,_,_,_,rfl,_⟩;rfl) fun cdv A outer s H vs Q E hr h=>?_⟩
 obtain ⟨B,st,aa,an,ca,du,to,ts,x,r,p,mk,f,a,pc,es,ns,ds,c,T,rfl,h,est,qa,qn,ta,nl,h9,kn,kc,kd,hin,a0,a1,ht,dl,k⟩:=h
 have nd:=sc_l_joins.nd
 have hr2:=hr
 have SL:(200000:Nat)<sizeLine:=by decide
 refine ⟨_,(zf (zV (zH yF (zy zP (pv 0) ze (fun _ _=>rfl)) zX (zL _)) (zf (xc PassesOwn.never rfl (pi_zip rfl hzip (za (pv 3) (za (pv 4) zb))) (pg_tup rfl (yl (zB (i:=8) nd rfl (Or.inl rfl)) (yl (zB (i:=9) nd rfl (Or.inl rfl)) pgs_nil))) (zc (ps_mid (zV (zH op_gt (zv zG (by rfl) hlen PySem.boot_len (za (pv 5) zb)) ze (zL _)) (zf (zu (i:=9) nd rfl (Or.inl rfl) (zD LJ hr2 (by rfl) zr (za (zy zP (pv 0) ze (fun _ _=>rfl)) (za (pe_bm0 PySem.F.plainAttrs_list PySem.F.slot_list_pop PySem.F.type_list_pop mt_pop (pv 5)) (za (pv 9) zb)))))) zI))
   (zc (zQ (pe_bm PySem.F.plainAttrs_list PySem.F.slot_list_append PySem.F.type_list_append yO (pv 5) (za (pv 9) zb)))
   (zc (zQ (pe_bm PySem.F.plainAttrs_list PySem.F.slot_list_append PySem.F.type_list_append yO (pv 7) (za (xi (za (pv 1) (za zX (za (zi zF (pv 2) (pv 8)) zb)))) zb)))
   (zf (ps_asg (pv 9) (pg_sub (pv 6) (zi zF (pv 2) (pv 8)) xW)))))))) (zf (zV (zH op_gt (zv zG (by rfl) hlen PySem.boot_len (za (pv 3) zb)) ze (zL _)) (zc (zQ (pe_bm PySem.F.plainAttrs_list PySem.F.slot_list_append PySem.F.type_list_append yO (pv 7) (za (xi (za (pv 1) (za zX (za (pv 2) zb)))) zb)))
   (zc (xc PassesOwn.never rfl (xv (pv 4)) (zB (i:=9) nd rfl (Or.inl rfl)) (zf (ps_asg (zD LJ hr2 (by rfl) zr (za (zy zP (pv 0) ze (fun _ _=>rfl)) (za (zy zR (pv 6) (pv 2) (fun _ _=>rfl)) (za (pv 9) zb)))) (pg_sub (pv 6) (pv 2) xW))))
   (zf (zQ (pe_bm PySem.F.plainAttrs_list PySem.F.slot_list_append PySem.F.type_list_append yO (pv 7) (za (xi (za (pv 1) (za zX (za (pv 2) zb)))) zb)))))) zI)))),?_⟩
 dsimp only [yt,Cx.nox,Cx.wish]
 cases x with
 | true =>
  refine ⟨_,rfl,st,_,_,_,rfl,rfl,SqT.of (h.sm _ _ est),rfl,rfl,_,rfl,iteEq ?_⟩
  refine ⟨_,rfl,_,rfl,aa,an,rfl,⟨_,h.sql qa⟩,⟨_,h.sql qn⟩,?_⟩
  generalize hsc:xb f c ns=sc
  have scl:sc.length=es.length:=by rw [← hsc,scanF_len];exact nl
  let Wr:List (Int×Int):=(es.zip sc).map fun p=>(a+p.1,p.2)
  let Tc:Int->Tch:=fun e=>(pc,("write":Str),a+e)
  refine for_zip (xs:=es.map V.int) (ys:=ns.map V.int) (fun i σ J=>∃ (u8 u9:Option V) (B1:Hp) (ts1:List Addr),σ=[some (.ref st),some (.int pc),some (.int a),some (.ref aa),some (.ref an),some (.ref ca),some (.ref du),some (.ref to),u8,u9]/\Same B B1/\Hd B1 [(ca,.lst (cl (yQ c (sc.take i)))),(du,.lst ((xh ds (Wr.take i)).map V.int)),(to,.lst (ts1.map V.ref))] J/\TAt B1 ts1 (T++(es.take i).map Tc)) ⟨none,none,B,ts,rfl,Same.refl _,h,by rw [List.take_zero,List.map_nil,List.append_nil];exact ta⟩ (fun i σ J _ ⟨_,_,B1,_,_,s1,h1,_⟩=>⟨h1.sql (zt qa s1),h1.sql (zt qn s1)⟩) (by rw [List.length_map,List.length_map];exact nl) ?_ ?_
  ·clear h ta
   rintro i x y σ J Tt hx hy ⟨u8,u9,B1,ts1,rfl,s1,h,ta⟩ nT
   obtain ⟨e,e9,rfl⟩:=ym hx
   obtain ⟨n,e10,rfl⟩:=ym hy
   have il:i<es.length:=(List.getElem?_eq_some_iff.mp e9).1
   have ein:=hin e (List.mem_of_getElem? e9)
   have esc:sc[i]?=some (stepC f (yQ c (sc.take i)) n):=by rw [← hsc];exact scanF_at f ns c i n e10
   have eW:Wr.take (i+1)=Wr.take i++[(a+e,stepC f (yQ c (sc.take i)) n)]:=by
    have:Wr[i]?=some (a+e,stepC f (yQ c (sc.take i)) n):=by
     show ((es.zip sc).map _)[i]?=_
     have hz:(es.zip sc)[i]?=some (e,stepC f (yQ c (sc.take i)) n):=List.getElem?_zip_eq_some.mpr ⟨e9,esc⟩
     rw [List.getElem?_map,hz];rfl
    rw [List.take_add_one,this];rfl
   have eT:(es.take (i+1)).map Tc=(es.take i).map Tc++[Tc e]:=by rw [List.take_add_one,e9,List.map_append];rfl
   have eC:yQ c (sc.take (i+1))=some (stepC f (yQ c (sc.take i)) n):=by rw [List.take_add_one,esc];exact lastC_snoc _ _ _
   have kcc:∀ v,yQ c (sc.take i)=some v->Kin v:=lastC_kin kc fun v hv=>by rw [← hsc] at hv;exact scanF_kin h9 ns c kn kc v (List.mem_of_mem_take hv)
   have kn':=kn n (List.mem_of_getElem? e10)
   have hn:=ta.n
   rw [List.length_append,List.length_map,List.length_take] at hn
   rw [eW,eT,eC]
   have wl:(xh ds (Wr.take i)).length=ds.length:=setAll_len _ _
   generalize yQ c (sc.take i)=cc at *
   have m4:=h.grow (o:=.tup [.int e,.int n]) nT
   have s4:Same B1 (upd B1 Tt (.tup [.int e,.int n])):=zh (Same.refl _) (h.free nT)
   have e4:upd B1 Tt (.tup [.int e,.int n]) Tt=some (.tup [.int e,.int n]):=zg
   replace ta:=ta.same s4
   generalize upd J Tt (.tup [.int e,.int n])=J4 at m4 ⊢
   generalize upd B1 Tt (.tup [.int e,.int n])=B4 at m4 s4 e4 ta
   clear h
   have sA:=s1.trans s4
   refine ⟨Tt,_,rfl,SqT.of (m4.sm _ _ e4),rfl,_,_,rfl,_,_,rfl,rfl,?_⟩
   refine ⟨fun σ J=>σ=[some (.ref st),some (.int pc),some (.int a),some (.ref aa),some (.ref an),some (.ref ca),some (.ref du),some (.ref to),some (.int e),some (.int (stepC f cc n))]/\Hd B4 [(ca,.lst []),(du,.lst ((xh ds (Wr.take i)).map V.int)),(to,.lst (ts1.map V.ref))] J,?_,?_⟩
   ·refine ⟨_,rfl,ca,_,rfl,.inl (m4.lst 0 rfl),_,_,rfl,rfl,_,rfl,?_⟩
    cases cc with
    | none=>exact yx ⟨rfl,m4⟩
    | some v =>
     refine iteT ⟨_,rfl,st,_,_,_,rfl,rfl,SqT.of (m4.sm _ _ (sA _ _ est)),rfl,_,rfl,.inl ⟨rfl,_,m4.lst 0 rfl⟩,ca,_,_,rfl,rfl,m4.get 0 rfl,rfl,_,rfl,f,v,n,rfl,h9,kcc v rfl,kn',rfl,?_⟩
     exact m4.put 0 rfl
   ·rintro σ J5 ⟨rfl,h⟩
    generalize stepC f cc n=v at *
    refine ⟨_,rfl,.inl ⟨rfl,_,h.lst 0 rfl⟩,_,rfl,ca,_,_,rfl,rfl,h.get 0 rfl,(by show 0<sizeLine;omega),?_⟩
    have h5:Hd B4 [(ca,.lst (cl (some v))),(du,.lst ((xh ds (Wr.take i)).map V.int)),(to,.lst (ts1.map V.ref))] (upd J5 ca (.lst ([]++[V.int v]))):=h.put 0 rfl
    generalize upd J5 ca (.lst ([]++[V.int v]))=J6 at h5 ⊢
    clear h
    refine ⟨_,rfl,.inl ⟨rfl,_,h5.lst 2 rfl⟩,_,rfl,_,rfl,_,rfl,_,_,rfl,rfl,(by show 3<=sizeLine;omega),fun t nt=>?_⟩
    obtain ⟨h6,ta6,s6⟩:=ta.note (p:=Tc e) h5 nt
    refine ⟨to,_,_,rfl,rfl,h6.get 2 rfl,(by rw [List.length_map];omega),?_⟩
    have h7:=h6.put (o':=.lst ((ts1++[t]).map V.ref)) 2 rfl
    have eM:(ts1++[t]).map V.ref=ts1.map V.ref++[V.ref t]:=by rw [List.map_append];rfl
    rw [eM] at h7
    generalize upd (upd J6 t _) to (.lst (ts1.map V.ref++[V.ref t]))=J7 at h7 ⊢
    refine ⟨_,rfl,_,rfl,_,rfl,_,rfl,_,_,rfl,rfl,du,_,_,(a+e).toNat,rfl,rfl,h7.get 1 rfl,ixN_nat ein.1 (by rw [List.length_map,wl];exact ein.2),?_⟩
    rw [set_ints]
    refine ⟨_,_,_,ts1++[t],rfl,sA.trans s6,?_,by rw [← List.append_assoc];exact ta6⟩
    rw [setAll_snoc,eM]
    exact h7.put 1 rfl
  ·clear h ta
   rintro σ J ⟨u8,u9,B1,ts1,rfl,s1,h,ta⟩
   have eW:Wr.take (es.map V.int).length=Wr:=List.take_of_length_le (by show ((es.zip sc).map _).length<=_;rw [List.length_map,List.length_zip,List.length_map];omega)
   have eS:sc.take (es.map V.int).length=sc:=List.take_of_length_le (by rw [List.length_map];omega)
   have eE:es.take (es.map V.int).length=es:=List.take_of_length_le (by rw [List.length_map];omega)
   rw [eW,eS] at h
   rw [eE] at ta
   refine k B1 J ts1 s1 ?_ ?_
   ·show Hd B1 [(ca,.lst (cl (yQ c (xb f c ns)))),(du,.lst ((xh ds ((es.zip (xb f c ns)).map fun p=>(a+p.1,p.2))).map V.int)),_] J
    rw [hsc];exact h
   ·exact ta
 | false =>
  refine ⟨_,rfl,st,_,_,_,rfl,rfl,SqT.of (h.sm _ _ est),rfl,rfl,_,rfl,zE (by decide) ?_⟩
  refine ⟨_,rfl,aa,_,rfl,.inl (h.sql qa),_,_,rfl,rfl,_,rfl,?_⟩
  rw [List.length_map]
  by_cases z:ns=[]
  ·have ez:es.length=0:=by rw [← nl,z];rfl
   have k:∀ B' H' ts',Same B B'->Hd B' [(ca,.lst (cl c)),(du,.lst ((xf a pc f ns (ds,T)).1.map V.int)),(to,.lst (ts'.map V.ref))] H'->TAt B' ts' (xf a pc f ns (ds,T)).2->Q .non H':=k
   unfold xf at k
   rw [if_pos z] at k
   rw [decide_eq_false (show ¬ ((es.length:Nat):Int) > 0 by omega)]
   exact yx (k B _ ts (Same.refl _) h ta)
  ·have ez:0<es.length:=by
    rw [← nl]
    cases ns with
    | nil=>exact absurd rfl z
    | cons n t=>exact Nat.succ_pos _
   have k:∀ B' H' ts',Same B B'->Hd B' [(ca,.lst (cl c)),(du,.lst ((xf a pc f ns (ds,T)).1.map V.int)),(to,.lst (ts'.map V.ref))] H'->TAt B' ts' (xf a pc f ns (ds,T)).2->Q .non H':=k
   unfold xf at k
   rw [if_neg z] at k
   rw [decide_eq_true (show ((es.length:Nat):Int) > 0 by omega)]
   have hn:=ta.n
   refine iteT ⟨_,rfl,.inl ⟨rfl,_,h.lst 2 rfl⟩,_,rfl,_,rfl,(by show 3<=sizeLine;omega),fun t nt=>?_⟩
   obtain ⟨h6,ta6,s6⟩:=ta.note (p:=(pc,("read":Str),a)) h nt
   refine ⟨to,_,_,rfl,rfl,h6.get 2 rfl,(by rw [List.length_map];omega),?_⟩
   have h7:=h6.put (o':=.lst ((ts++[t]).map V.ref)) 2 rfl
   have eM:(ts++[t]).map V.ref=ts.map V.ref++[V.ref t]:=by rw [List.map_append];rfl
   rw [eM] at h7
   rw [← eM] at h7
   have h7:Hd (upd B t (.tup [.int pc,.str "read",.int a])) [(ca,.lst (cl c)),(du,.lst (ds.map V.int)),(to,.lst ((ts++[t]).map V.ref))] (upd (upd H t (.tup [.int pc,.str "read",.int a])) to (.lst (ts.map V.ref++[V.ref t]))):=by rw [← eM];exact h7
   generalize upd (upd H t (.tup [.int pc,.str "read",.int a])) to (.lst (ts.map V.ref++[V.ref t]))=J7 at h7 ⊢
   generalize upd B t (.tup [.int pc,.str "read",.int a])=B7 at h7 ta6 s6
   clear h h6 ta
   refine ⟨_,rfl,an,rfl,⟨_,h7.sql (zt qn s6)⟩,?_⟩
   let v0:Int:=ds.getD a.toNat 0
   have sg:∀ v:Int,(ds.set a.toNat v).length=ds.length:=fun v=>List.length_set
   refine for_list (K:=K) (a:=an) (xs:=ns.map V.int) (fun i σ J=>∃ (u8 u9:Option V),σ=[some (.ref st),some (.int pc),some (.int a),some (.ref aa),some (.ref an),some (.ref ca),some (.ref du),some (.ref to),u8,u9]/\Hd B7 [(ca,.lst (cl c)),(du,.lst ((ds.set a.toNat ((ns.take i).foldl (opF f) v0)).map V.int)),(to,.lst ((ts++[t]).map V.ref))] J) ⟨none,none,rfl,?_⟩ (fun i σ J _ ⟨_,_,_,h1⟩=>h1.sql (zt qn s6)) ?_ ?_
   ·have e0:ds.set a.toNat v0=ds:=by
     show ds.set a.toNat (ds.getD a.toNat 0)=ds
     rw [List.getD_eq_getElem?_getD,List.getElem?_eq_getElem (show a.toNat<ds.length by omega)]
     exact List.set_getElem_self _
    show Hd B7 [_,(du,.lst ((ds.set a.toNat v0).map V.int)),_] J7
    rw [e0];exact h7
   ·clear h7
    rintro i y σ J hy ⟨u8,u9,rfl,h⟩
    obtain ⟨n,e10,rfl⟩:=ym hy
    have et:(ns.take (i+1)).foldl (opF f) v0=opF f ((ns.take i).foldl (opF f) v0) n:=by rw [List.take_add_one,e10,List.foldl_append];rfl
    rw [et]
    have kv:Kin ((ns.take i).foldl (opF f) v0):=xZ h9 _ _ (getD_kin kd _) fun v hv=>kn v (List.mem_of_mem_take hv)
    generalize (ns.take i).foldl (opF f) v0=v at *
    have gv:(ds.set a.toNat v).getD a.toNat 0=v:=by rw [List.getD_eq_getElem?_getD,List.getElem?_set_self (by omega)];rfl
    have at1:=yP (ns:=ds.set a.toNat v) (j:=a) a.toNat (by rw [sg];omega) (by omega)
    rw [gv] at at1
    refine ⟨_,rfl,st,_,_,_,rfl,rfl,SqT.of (h.sm _ _ (s6 _ _ est)),rfl,_,rfl,_,rfl,du,_,_,_,rfl,rfl,h.lst 1 rfl,at1,_,rfl,f,v,n,rfl,h9,kv,kn n (List.mem_of_getElem? e10),_,rfl,_,rfl,du,_,_,a.toNat,rfl,rfl,h.get 1 rfl,ixN_nat a0 (by rw [List.length_map,sg];exact a1),?_⟩
    rw [set_ints,List.set_set]
    exact ⟨_,_,rfl,h.put 1 rfl⟩
   ·clear h7
    rintro σ J ⟨u8,u9,rfl,h⟩
    rw [List.length_map,List.take_length] at h
    refine ⟨_,rfl,.inl ⟨rfl,_,h.lst 2 rfl⟩,_,rfl,_,rfl,(by show 3<=sizeLine;omega),fun t2 nt2=>?_⟩
    obtain ⟨h8,ta8,s8⟩:=ta6.note (p:=(pc,("write":Str),a)) h nt2
    refine ⟨to,_,_,rfl,rfl,h8.get 2 rfl,(by rw [List.length_map,List.length_append];show _+1<_;omega),?_⟩
    refine k _ _ (ts++[t]++[t2]) (s6.trans s8) ?_ ?_
    ·rw [List.map_append (l₁:=ts++[t])]
     exact h8.put 2 rfl
    ·have e:T++[(pc,("read":Str),a),(pc,("write":Str),a)]=T++[(pc,("read":Str),a)]++[(pc,("write":Str),a)]:=by rw [List.append_assoc];rfl
     show TAt _ _ (T++[(pc,("read":Str),a),(pc,("write":Str),a)])
     rw [e];exact ta8
end
end K40
namespace L2
open PySem PySem.Spec PyProof.Rows PyProof
section
variable {X:Cx}
theorem call_rangeV2:CallR X (.type "range") (fun xs H Q=>∃ i j:Int,xs=[.int i,.int j]/\∀ l,H l=none->Q (.ref l) (upd H l (.rng i j))):=by
  intro pins s σ H xs us Q I r h
  obtain ⟨i,j,rfl,q⟩:=h
  obtain ⟨u,v,rfl,rx,ry⟩:=vals2 r
  obtain ⟨t,rfl⟩:=rx
  obtain ⟨t2,rfl⟩:=ry
  refine call_range_2 ?_
  exact ⟨.ref s.heap.objs.size,_,I.laid (fun b o e=>Heap.get?_push_of_some _ e) (Nat.le_refl _) (show ObjOk X.prog X.w _ _ _ (.rng i j) from ⟨_,_,_,Heap.get?_push_size _ rfl⟩),rfl,q _ (I.hok.fresh (Nat.le_refl _))⟩
theorem vals_from (lo:Int):∀ (n:Nat) (us:List Value),us.length=n->(∀ (i:Nat) (v:Value),us[i]?=some v->∃ t,v=Value.int (lo+(i:Nat)*1) t)->Vals (((upto n).map (lo+·)).map V.int) us:=by
  intro n
  induction n with
  | zero=>intro us hl _;cases us with
    | nil=>exact .nil
    | cons _ _=>cases hl
  | succ n ih =>
    intro us hl h
    obtain ⟨ini,last,rfl⟩:∃ ini last,us=ini++[last]:=⟨us.dropLast,us.getLast (by intro e;rw [e] at hl;cases hl),(List.dropLast_concat_getLast _).symm⟩
    have hi:ini.length=n:=by rw [List.length_append] at hl;simpa using hl
    have e:upto (n+1)=upto n++[(n:Int)]:=by unfold upto;rw [List.range_succ,List.map_append];rfl
    rw [e,List.map_append,List.map_append]
    refine (ih ini hi fun i v hv=>?_).append (.cons ?_ .nil)
    · have:i<ini.length:=(List.getElem?_eq_some_iff.mp hv).1
      exact h i v (by rw [List.getElem?_append_left this];exact hv)
    · obtain ⟨t,rfl⟩:=h n last (by rw [List.getElem?_append_right (by omega),hi,Nat.sub_self];rfl)
      exact ⟨t,by show Value.int (lo+(n:Int)*1) t=Value.int (lo+n) t;congr 1;omega⟩
theorem call_list_rng2 (hc:X.calm=true):CallR X (.type "list") (fun xs H Q=>∃ (p:Addr) (lo:Int) (n:Nat),xs=[.ref p]/\H p=some (.rng lo (lo+n))/\0<=lo/\lo<=100000/\n<=1000/\∀ l,H l=none->Q (.ref l) (upd H l (.lst (((upto n).map (lo+·)).map V.int)))):=by
  intro pins s σ H xs us Q I r h
  obtain ⟨p,lo,n,rfl,hp,hlo,hlo2,hn,q⟩:=h
  obtain ⟨u,rfl,rx⟩:=vals1 r
  cases rx
  obtain ⟨t,u,v,e⟩:=I.hok p _ hp
  have hs:Builtin.Range.small lo (lo+(n:Int)) 1=true:=small_one (by omega) (by omega) (by omega) (by omega)
  have hz:Builtin.Range.rangeSize lo (lo+(n:Int)) 1=n:=by rw [rangeSize_one];split <;> omega
  have SL:(1000:Nat)<=sizeLine:=by decide
  refine call_list_range (I.ok.hd hc) e hs hz (by omega) fun h' tk acc c' hk hS ha=>?_
  refine ⟨.ref s.heap.objs.size,_,I.laid (t':=tk) hk (Nat.le_refl _) (show ObjOk X.prog X.w _ h' _ (.lst (((upto n).map (lo+·)).map V.int)) from ⟨?_,acc.toList,c',vals_from lo n acc.toList ?_ ?_,?_⟩),rfl,q _ (I.hok.fresh (Nat.le_refl _))⟩
  · rw [List.length_map,List.length_map];unfold upto;rw [List.length_map,List.length_range];omega
  · simpa using ha.1
  · intro i v hv
    exact ha.2 i v (by simpa using hv)
  · simpa using hS
end
end L2
namespace K40
open PySem L2 My
structure P4 (S:List Int) (many:Int) (nd W:Nat) (fr:Bool) (t:T4):Prop where
 k:Kin4 t
 d:t.s.1.length=nd
 w:t.act.length<=W
 e:∀ e∈t.act,0<=e/\e<many
 n:fr=true->t.ns.length=t.act.length
 m:t.ns.length<=1000
theorem zipF_sub {q:Int->Bool} {act ns:List Int} {e:Int} (h:e∈zipF q act ns):e∈act:=by
 unfold zipF at h
 obtain ⟨p,hp,rfl⟩:=List.mem_map.mp h
 exact (List.of_mem_zip (List.mem_filter.mp hp).1).1
theorem zipF_len {q:Int->Bool}:∀ {act ns:List Int},ns.length=act.length->(zipF q act ns).length=(ns.filter q).length
 | [],[],_=>rfl
 | [],n::ns,h=>by cases h
 | a::act,[],h=>by cases h
 | a::act,n::ns,h=>by
  have ih:=zipF_len (q:=q) (act:=act) (ns:=ns) (Nat.succ.inj h)
  unfold zipF at ih ⊢
  rw [List.zip_cons_cons]
  by_cases z:q n=true
  ·rw [List.filter_cons_of_pos (p:=fun p:Int×Int=>q p.2) z,List.filter_cons_of_pos z,List.map_cons,List.length_cons,List.length_cons,ih]
  ·rw [List.filter_cons_of_neg (p:=fun p:Int×Int=>q p.2) z,List.filter_cons_of_neg z,ih]
theorem P4.go {S:List Int} {many:Int} {nd W pl k:Nat} {fr:Bool} {t:T4} {st:Sp4} (h:P4 S many nd W fr t) (w1:W<=1000) (hfr:(match st with | .ld _=>true | _=>fr)=true) (f9:∀ x r f,st=.jo x r f->Fd9 f):P4 S many nd W st.fresh (go4 S pl k st t):=by
 obtain ⟨l1,l2,l3⟩:=go4_len S pl k st t
 refine ⟨go4_kin h.k f9,l1.trans h.d,Nat.le_trans l3 h.w,?_,?_,?_⟩
 ·cases st with
  | ld r=>exact h.e
  | ch no=>exact fun e he=>h.e e (zipF_sub (q:=fun v=>decide (decide (v=0)=no)) (ns:=t.ns) he)
  | rc n=>exact fun e he=>h.e e (zipF_sub (q:=gIn n) (ns:=t.ns) he)
  | jo x r f=>cases x <;> exact h.e
 ·cases st with
  | ld r=>exact fun _=>List.length_map _
  | ch no=>exact fun z=>by cases z
  | rc n=>exact fun _=>(zipF_len (h.n hfr)).symm
  | jo x r f=>cases x <;> exact fun _=>h.n hfr
 ·cases st with
  | ld r=>show (List.map _ t.act).length<=_;rw [List.length_map];exact Nat.le_trans h.w w1
  | ch no=>exact h.m
  | rc n=>exact Nat.le_trans (List.length_filter_le _ _) h.m
  | jo x r f=>cases x <;> exact h.m
section
variable {P:Program} {w:World} {K:PySem.W.Frag} {mg:Str->Option Value} {base:Heap}
def spSt4 (K:PySem.W.Frag):Sp:=fun vs H Q _=>∃ (B:Hp) (cd sl ca du to:Addr) (cs ts:List Addr) (S ds:List Int) (T:List Tch) (c:Option Int) (pl p m:Nat) (sts:List Sp4) (hd lst:List V) (many side b:Int),vs=[.ref cd,.int pl,.int b,.int (wid many side b),.ref sl,.ref ca,.ref du,.ref to]/\Hd B [(ca,.lst (cl c)),(du,.lst (ds.map V.int)),(to,.lst (ts.map V.ref))] H/\SqL K B cd (cs.map V.ref)/\CodeAt B cs (hd::(tvs4 p m 0 sts++[lst]))/\SqL K B sl (S.map V.int)/\TAt B ts T /\
 0<=b/\b<many/\many<=100/\sts.length<=10/\Fr4 false sts/\Row4 S many ds.length sts/\(∀ v∈ds,Kin v)/\(∀ v,c=some v->Kin v)/\T.length<90000/\ds.length<=100000 /\
 ∀ B' H' ts',Same B B'->Hd B' [(ca,.lst (cl (run4 S pl 1 sts ⟨elems many side b,[],c,(ds,T)⟩).c)),(du,.lst ((run4 S pl 1 sts ⟨elems many side b,[],c,(ds,T)⟩).s.1.map V.int)),(to,.lst (ts'.map V.ref))] H'->TAt B' ts' (run4 S pl 1 sts ⟨elems many side b,[],c,(ds,T)⟩).s.2->Q .non H'
theorem ok_strip4 (d:zn K mg "_law_strip" xL ["_law_code","_law_opened","_law_base","_law_width","_law_starts","_law_carried","_law_due","_law_touches"]) (hlen:mg "len"=none) (hzip:mg "zip"=none) (hrg:mg "range"=none) (hlist:mg "list"=none) (JN:Ok P w K mg base CX0 3 "_law_joins" ["_law_step","_law_place","_law_start","_law_active","_law_numbers","_law_carried","_law_due","_law_touches"] (spJn K)) :
  Ok P w K mg base CX0 4 "_law_strip" ["_law_code","_law_opened","_law_base","_law_width","_law_starts","_law_carried","_law_due","_law_touches"] (spSt4 K):=by
 obtain ⟨g,fd,m,F,b⟩:=d
 refine ⟨g,fd,m,F.kp,b,F.ok sc_l_strip (by rintro vs H Q E ⟨_,_,_,_,_,_,_,_,_,_,_,_,_,_,_,_,_,_,_,_,_,rfl,_⟩;rfl) fun cdv A outer s H vs Q E hr h=>?_⟩
 obtain ⟨B,cd,sl,ca,du,to,cs,ts,S,ds,T,c,pl,p,m,sts,hd,lst,many,side,b,rfl,h,qc,CA,ql,ta,b0,bm,m100,s10,hf,hrw,kd,kc,ht,dl,k⟩:=h
 have nd:=sc_l_strip.nd
 have hr3:=hr
 have SL:(200000:Nat)<sizeLine:=by decide
 have wb:(wid many side b:Int)<=many-b:=by unfold wid;omega
 have els:elems many side b=(upto (wid many side b)).map (b+·):=rfl
 have el:=elems_len many side b
 have ein:∀ e∈elems many side b,0<=e/\e<many:=fun e he=>elems_in b0 he
 generalize elems many side b=E0 at *
 generalize wid many side b=W at *
 refine ⟨_,(zc (zu (i:=8) nd rfl (Or.inl rfl) (ye (call_list_rng2 rfl) (by rfl) hlist PyProof.Rows.boot_list (za (ye call_rangeV2 (by rfl) hrg PyProof.Rows.boot_range (za (pv 2) (za (zi zF (pv 2) (pv 3)) zb))) zb)))
   (zc (zu (i:=9) nd rfl (Or.inl rfl) (yw zb))
   (zf (xc PassesOwn.never rfl (pi_range2 rfl hrg (za ze (za (zi op_sub (zv zG (by rfl) hlen PySem.boot_len (za (pv 0) zb)) ze) zb))) (zB (i:=10) nd rfl (Or.inl rfl)) (zc (zu (i:=11) nd rfl (Or.inr rfl) (zy zR (pv 0) (pv 10) (fun _ _=>rfl)))
   (zf (ps_mid (zV (zH yF (zy zP (pv 11) ze (fun _ _=>rfl)) zX (zL _)) (zc (xX (i:=9) ["_law_at","_law_due","_law_starts","_law_step"] [none,some 6,some 4,some 11] rfl rfl rfl (xv (pv 8)) (fun s3 H3 fp=>⟨zB (i:=0) (show ((["_law_at","_law_due","_law_starts","_law_step"]:List Str)).Nodup by decide +kernel) rfl (Or.inl rfl),(zy (xY (K:=K) rfl) (pv 1) (zi zF (zy (xY (K:=K) rfl) (pv 2) (zy (ix_tupK (K:=K) rfl) (pv 3) ze (fun _ _=>rfl)) (fun _ _=>rfl)) (pv 0)) (fun _ _=>rfl))⟩) nd rfl (Or.inl rfl))
   (zf (xc PassesOwn.never rfl (xv (pv 8)) (zB (i:=12) nd rfl (Or.inl rfl)) (zf (zQ (pe_bm PySem.F.plainAttrs_list PySem.F.slot_list_append PySem.F.type_list_append yO (pv 7) (za (xi (za (zi zF (pv 1) (pv 10)) (za zX (za (zi zF (zy zR (pv 4) (zy zP (pv 11) ze (fun _ _=>rfl)) (fun _ _=>rfl)) (pv 12)) zb)))) zb))))))) (zf (zV (zH yF (zy zP (pv 11) ze (fun _ _=>rfl)) zX (zL _)) (zc (ps_compF (i:=8) ["_law_at","_law_number_here","_law_step"] [none,none,some 11] rfl rfl rfl (pi_zip rfl hzip (za (pv 8) (za (pv 9) zb))) (fun s3 H3 fp=>⟨pg_tupK (K:=K) (n:=2) rfl rfl (yl (zB (i:=0) (show ((["_law_at","_law_number_here","_law_step"]:List Str)).Nodup by decide +kernel) rfl (Or.inl rfl)) (yl (zB (i:=1) (show ((["_law_at","_law_number_here","_law_step"]:List Str)).Nodup by decide +kernel) rfl (Or.inl rfl)) pgs_nil)),(pt_chain op_le op_lt ze (pv 1) (zy (ix_tupK (K:=K) rfl) (pv 2) ze (fun _ _=>rfl))),(pv 0)⟩) nd rfl (Or.inl rfl))
   (zf (ps_compF (i:=9) ["_law_number_here","_law_step"] [none,some 11] rfl rfl rfl (xv (pv 9)) (fun s3 H3 fp=>⟨zB (i:=0) (show ((["_law_number_here","_law_step"]:List Str)).Nodup by decide +kernel) rfl (Or.inl rfl),(pt_chain op_le op_lt ze (pv 0) (zy (ix_tupK (K:=K) rfl) (pv 1) ze (fun _ _=>rfl))),(pv 0)⟩) nd rfl (Or.inl rfl)))) (zf (zV (zH yF (zy zP (pv 11) ze (fun _ _=>rfl)) zX (zL _)) (zf (ps_compF (i:=8) ["_law_at","_law_number_here"] [none,none] rfl rfl rfl (pi_zip rfl hzip (za (pv 8) (za (pv 9) zb))) (fun s3 H3 fp=>⟨pg_tupK (K:=K) (n:=2) rfl rfl (yl (zB (i:=0) (show ((["_law_at","_law_number_here"]:List Str)).Nodup by decide +kernel) rfl (Or.inl rfl)) (yl (zB (i:=1) (show ((["_law_at","_law_number_here"]:List Str)).Nodup by decide +kernel) rfl (Or.inl rfl)) pgs_nil)),(zH op_ne (pv 1) ze (zL _)),(pv 0)⟩) nd rfl (Or.inl rfl))) (zf (zV (zH yF (zy zP (pv 11) ze (fun _ _=>rfl)) zX (zL _)) (zf (ps_compF (i:=8) ["_law_at","_law_number_here"] [none,none] rfl rfl rfl (pi_zip rfl hzip (za (pv 8) (za (pv 9) zb))) (fun s3 H3 fp=>⟨pg_tupK (K:=K) (n:=2) rfl rfl (yl (zB (i:=0) (show ((["_law_at","_law_number_here"]:List Str)).Nodup by decide +kernel) rfl (Or.inl rfl)) (yl (zB (i:=1) (show ((["_law_at","_law_number_here"]:List Str)).Nodup by decide +kernel) rfl (Or.inl rfl)) pgs_nil)),(zH yF (pv 1) ze (zL _)),(pv 0)⟩) nd rfl (Or.inl rfl))) (zf (zQ (zD JN hr3 (by rfl) zr (za (pv 11) (za (zi zF (pv 1) (pv 10)) (za (zy zR (pv 4) (zy zP (pv 11) ze (fun _ _=>rfl)) (fun _ _=>rfl)) (za (pv 8) (za (pv 9) (za (pv 5) (za (pv 6) (za (pv 7) zb))))))))))))))))))))))))),?_⟩
 dsimp only [yt,Cx.nox,Cx.wish]
 refine ⟨_,rfl,_,rfl,_,rfl,_,_,rfl,rfl,b,b+(W:Int),rfl,fun rr nrr=>⟨rr,b,W,rfl,zg,b0,by omega,by omega,fun A0 nA0=>?_⟩⟩
 replace h:=h.waste (o:=.rng b (b+(W:Int))) nrr
 generalize upd H rr (.rng b (b+(W:Int)))=H1 at h nA0 ⊢
 rw [← els]
 have eA:upd B A0 (.lst (E0.map V.int)) A0=_:=zg
 have sA:Same B (upd B A0 (.lst (E0.map V.int))):=zh (Same.refl _) (h.free nA0)
 replace h:=h.grow (o:=.lst (E0.map V.int)) nA0
 generalize upd B A0 (.lst (E0.map V.int))=B1 at h sA eA
 generalize upd H1 A0 (.lst (E0.map V.int))=H2 at h ⊢
 refine ⟨Nat.le_trans (Nat.zero_le 10) (by decide),fun N0 nN0=>?_⟩
 have eN:upd B1 N0 (.lst []) N0=some (.lst (([]:List Int).map V.int)):=zg
 have sN:Same B1 (upd B1 N0 (.lst [])):=zh (Same.refl _) (h.free nN0)
 replace h:=h.grow (o:=.lst []) nN0
 generalize upd B1 N0 (.lst [])=B2 at h sN eN
 generalize upd H2 N0 (.lst [])=H3 at h ⊢
 have s02:=sA.trans sN
 have csl:cs.length=sts.length+2:=by rw [CA.n,List.length_cons,List.length_append,xV];rfl
 refine ⟨_,rfl,cd,_,rfl,.inl (h.sql (zt qc s02)),_,_,rfl,rfl,1,_,rfl,?_⟩
 rw [List.length_map,csl]
 refine ⟨⟨by decide,by decide,by omega,by omega⟩,?_⟩
 have eno:(((sts.length+2:Nat):Int)-1-1).toNat=sts.length:=by omega
 rw [eno]
 generalize hTF:run4 S pl 1 sts ⟨E0,[],c,(ds,T)⟩=TF at k
 let Pv1:Nat->St->Hp->Prop:=(fun i σ J=>∃ (rest:List Sp4) (t:T4) (fr:Bool) (mk:Nat) (u10 u11 u12:Option V) (Bi:Hp) (Ai Ni:Addr) (tsi:List Addr),σ=[some (.ref cd),some (.int pl),some (.int b),some (.int (W:Nat)),some (.ref sl),some (.ref ca),some (.ref du),some (.ref to),some (.ref Ai),some (.ref Ni),u10,u11,u12,none]/\rest.length+i=sts.length/\run4 S pl (1+i) rest t=TF/\Fr4 fr rest/\(∀ st∈rest,st∈sts)/\(∀ j tv,(tvs4 p m mk rest)[j]?=some tv->(hd::(tvs4 p m 0 sts++[lst]))[1+i+j]?=some tv)/\P4 S many ds.length W fr t/\t.s.2.length<=T.length+i*300/\Same B Bi/\Hd Bi [(ca,.lst (cl t.c)),(du,.lst (t.s.1.map V.int)),(to,.lst (tsi.map V.ref))] J/\TAt Bi tsi t.s.2/\Bi Ai=some (.lst (t.act.map V.int))/\Bi Ni=some (.lst (t.ns.map V.int)))
 refine xT (lo:=1) (n:=sts.length) Pv1 ⟨sts,⟨E0,[],c,(ds,T)⟩,false,0,none,none,none,B2,A0,N0,ts,rfl,rfl,hTF,hf,fun _ h=>h,(fun j tv hj=>by
   rw [Nat.add_comm 1,List.getElem?_cons_succ,List.getElem?_append_left (List.getElem?_eq_some_iff.mp hj).1]
   exact hj),⟨⟨kd,(fun v hv=>by cases hv),kc⟩,rfl,Nat.le_of_eq el,ein,(fun z=>by cases z),Nat.zero_le _⟩,by show T.length<=_;omega,s02,h,ta.same s02,sN _ _ eA,eN⟩ ?_ ?_
 ·clear h ta
  rintro i σ J hi ⟨rest,t,fr,mk,u10,u11,u12,Bi,Ai,Ni,tsi,rfl,rl,rn,hfr,hsub,hcd,p4,tl,si,h,ta,eAi,eNi⟩
  obtain ⟨st,rest,rfl⟩:∃ st r,rest=st::r:=by
   cases rest with
   | nil=>exact absurd rl (by rw [List.length_nil];omega)
   | cons a l=>exact ⟨a,l,rfl⟩
  obtain ⟨f1,f2⟩:=hfr
  obtain ⟨g1,g2⟩:=hrw st (hsub st List.mem_cons_self)
  have c0:=hcd 0 _ rfl
  obtain ⟨sa,hsa⟩:∃ sa,cs[1+i]?=some sa:=⟨cs[1+i]'(by omega),List.getElem?_eq_getElem (by omega)⟩
  have est:=si _ _ (CA.t (1+i) sa _ hsa c0)
  have p4':=p4.go (pl:=pl) (k:=1+i) (by omega) f1 g2
  have rn':run4 S pl (1+i+1) rest (go4 S pl (1+i) st t)=TF:=rn
  have eat:atI (cs.map V.ref) (1+(i:Int))=some (.ref sa):=by
   have:=zK (xs:=cs.map V.ref) (j:=1+i) (v:=.ref sa) (by rw [List.getElem?_map,hsa];rfl)
   rw [Int.natCast_add] at this
   exact this
  have epc:((pl+(1+i):Nat):Int)=(pl:Int)+(1+(i:Int)):=by omega
  have hn:=ta.n
  have tw:=p4.w
  have glen:=(go4_len S pl (1+i) st t).2.1
  refine ⟨_,rfl,_,rfl,cd,_,_,_,rfl,rfl,h.sql (zt qc si),eat,?_⟩
  let Mv2:St->Hp->Prop:=fun σ J=>∃ (u12:Option V) (Bj:Hp) (Aj Nj:Addr) (tsj:List Addr),σ=[some (.ref cd),some (.int pl),some (.int b),some (.int (W:Nat)),some (.ref sl),some (.ref ca),some (.ref du),some (.ref to),some (.ref Aj),some (.ref Nj),some (.int (1+(i:Int))),some (.ref sa),u12,none]/\Same B Bj/\Hd Bj [(ca,.lst (cl (go4 S pl (1+i) st t).c)),(du,.lst ((go4 S pl (1+i) st t).s.1.map V.int)),(to,.lst (tsj.map V.ref))] J/\TAt Bj tsj (go4 S pl (1+i) st t).s.2/\Bj Aj=some (.lst ((go4 S pl (1+i) st t).act.map V.int))/\Bj Nj=some (.lst ((go4 S pl (1+i) st t).ns.map V.int))
  refine ⟨Mv2,?_,?_⟩
  ·have q0:∀ {J},Hd Bi [(ca,.lst (cl t.c)),(du,.lst (t.s.1.map V.int)),(to,.lst (tsi.map V.ref))] J->SqT K J sa (st.tv p mk m):=fun h=>SqT.of (h.sm _ _ est)
   cases st with
   | ld r =>
    obtain ⟨r1,r2,r3,m1⟩:=g1 r (.inl rfl)
    have pd:=p4.d
    let G:Int->Int:=fun e=>t.s.1.getD (S.getD r 0+e).toNat 0
    refine ⟨_,rfl,sa,_,_,_,rfl,rfl,q0 h,rfl,rfl,_,rfl,iteEq ?_⟩
    refine ⟨_,rfl,Ai,rfl,⟨_,h.sql (SqL.of eAi)⟩,_,rfl,fun D nD=>?_⟩
    have h0:Hd Bi [(D,.lst (((t.act.take 0).map G).map V.int)),(ca,.lst (cl t.c)),(du,.lst (t.s.1.map V.int)),(to,.lst (tsi.map V.ref))] (upd J D (.lst [])):=h.new nD
    clear h
    generalize upd J D (.lst [])=J1 at h0 ⊢
    refine comp_list (K:=K) (a:=Ai) (D:=D) (xs:=t.act.map V.int) (fun i σ J=>∃ u,σ=[u,some (.ref du),some (.ref sl),some (.ref sa)]/\Hd Bi [(D,.lst (((t.act.take i).map G).map V.int)),(ca,.lst (cl t.c)),(du,.lst (t.s.1.map V.int)),(to,.lst (tsi.map V.ref))] J) ⟨none,rfl,h0⟩ (fun i σ J _ ⟨_,_,h1⟩=>h1.sql (SqL.of eAi)) ?_ ?_
    ·clear h0
     rintro j y σ J hy ⟨u,rfl,h⟩
     obtain ⟨e,e9,rfl⟩:=ym hy
     have he:=p4.e e (List.mem_of_getElem? e9)
     have et:(t.act.take (j+1)).map G=(t.act.take j).map G++[G e]:=by rw [List.take_add_one,e9,List.map_append];rfl
     rw [et]
     refine ⟨_,rfl,_,rfl,_,rfl,sa,_,_,_,rfl,rfl,SqT.of (h.sm _ _ est),rfl,sl,_,_,_,rfl,rfl,h.sql (zt ql si),yP r r1 rfl,_,rfl,_,_,rfl,rfl,du,_,_,_,rfl,rfl,h.lst 2 rfl,yP (S.getD r 0+e).toNat (by omega) (by omega),_,h.get 0 rfl,(by rw [List.length_map,List.length_map,List.length_take];omega),_,rfl,?_⟩
     rw [List.map_append];exact h.put 0 rfl
    clear h0
    rintro σ J2 ⟨u,rfl,h⟩
    rw [List.length_map,List.take_length] at h
    have nD':Bi D=none:=h.nw (D,_) List.mem_cons_self
    replace h:=h.settle
    have sD:Same Bi (upd Bi D (.lst ((t.act.map G).map V.int))):=zh (Same.refl _) nD'
    have eD:upd Bi D (.lst ((t.act.map G).map V.int)) D=_:=zg
    generalize upd Bi D (.lst ((t.act.map G).map V.int))=Bk at h sD eD
    replace ta:=ta.same sD
    have sk:=si.trans sD
    refine ⟨_,rfl,Ai,rfl,⟨_,h.sql (SqL.of (sD _ _ eAi))⟩,?_⟩
    let R:Int->Tch:=fun e=>(((pl+(1+i):Nat):Int),("read":Str),S.getD r 0+e)
    let Pv4:Nat->St->Hp->Prop:=(fun j σ J=>∃ (u12:Option V) (B3:Hp) (ts3:List Addr),σ=[some (.ref cd),some (.int pl),some (.int b),some (.int (W:Nat)),some (.ref sl),some (.ref ca),some (.ref du),some (.ref to),some (.ref Ai),some (.ref D),some (.int (1+(i:Int))),some (.ref sa),u12,none]/\Same Bk B3/\Hd B3 [(ca,.lst (cl t.c)),(du,.lst (t.s.1.map V.int)),(to,.lst (ts3.map V.ref))] J/\TAt B3 ts3 (t.s.2++(t.act.take j).map R))
    refine for_list (K:=K) (a:=Ai) (xs:=t.act.map V.int) Pv4 ⟨_,Bk,tsi,rfl,Same.refl _,h,by rw [List.take_zero,List.map_nil,List.append_nil];exact ta⟩ (fun j σ J _ ⟨_,B3,_,_,s3,h3,_⟩=>h3.sql (SqL.of (s3 _ _ (sD _ _ eAi)))) ?_ ?_
    ·clear h ta
     rintro j y σ J hy ⟨u12,B3,ts3,rfl,s3,h,ta⟩
     obtain ⟨e,e9,rfl⟩:=ym hy
     have hlt:j<t.act.length:=(List.getElem?_eq_some_iff.mp e9).1
     have et:(t.act.take (j+1)).map R=(t.act.take j).map R++[R e]:=by rw [List.take_add_one,e9,List.map_append];rfl
     have hn:=ta.n
     rw [List.length_append,List.length_map,List.length_take] at hn
     refine ⟨_,rfl,.inl ⟨rfl,_,h.lst 2 rfl⟩,_,rfl,_,rfl,_,_,rfl,rfl,_,rfl,_,rfl,sa,_,_,_,rfl,rfl,SqT.of (h.sm _ _ (s3 _ _ (sD _ _ est))),rfl,sl,_,_,_,rfl,rfl,h.sql (zt ql (sk.trans s3)),yP r r1 rfl,_,rfl,_,_,rfl,rfl,(by show 3<=sizeLine;omega),fun t4 nt=>?_⟩
     obtain ⟨h4,ta4,s4⟩:=ta.note (p:=R e) h nt
     refine ⟨to,_,_,rfl,rfl,h4.get 2 rfl,(by rw [List.length_map];omega),?_⟩
     refine ⟨_,_,ts3++[t4],rfl,s3.trans s4,?_,by rw [et,← List.append_assoc];exact ta4⟩
     rw [List.map_append]
     exact h4.put 2 rfl
    ·clear h ta
     rintro σ J3 ⟨u12,B3,ts3,rfl,s3,h,ta⟩
     rw [List.length_map,List.take_length] at ta
     exact ⟨u12,B3,Ai,D,ts3,rfl,sk.trans s3,h,ta,s3 _ _ (sD _ _ eAi),s3 _ _ eD⟩
   | ch no =>
    cases no with
    | false =>
     let q:Int->Bool:=fun v=>decide (decide (v=0)=false)
     let zs:List (Int×Int):=t.act.zip t.ns
     refine ⟨_,rfl,sa,_,_,_,rfl,rfl,q0 h,rfl,rfl,_,rfl,zE (by decide) ?_⟩
     refine ⟨_,rfl,sa,_,_,_,rfl,rfl,q0 h,rfl,rfl,_,rfl,zE (by decide) ?_⟩
     refine ⟨_,rfl,sa,_,_,_,rfl,rfl,q0 h,rfl,rfl,_,rfl,iteEq ?_⟩
     refine ⟨_,rfl,_,rfl,Ai,Ni,rfl,⟨_,h.sql (SqL.of eAi)⟩,⟨_,h.sql (SqL.of eNi)⟩,_,rfl,fun D nD=>?_⟩
     have h0:Hd Bi [(D,.lst ((((zs.take 0).filter fun p=>q p.2).map Prod.fst).map V.int)),(ca,.lst (cl t.c)),(du,.lst (t.s.1.map V.int)),(to,.lst (tsi.map V.ref))] (upd J D (.lst [])):=h.new nD
     clear h
     generalize upd J D (.lst [])=J1 at h0 ⊢
     refine compF_zip (K:=K) (l1:=Ai) (l2:=Ni) (D:=D) (xs:=t.act.map V.int) (ys:=t.ns.map V.int) (fun j σ J=>∃ (u0 u1:Option V) (Bq:Hp),σ=[u0,u1]/\Same Bi Bq/\Hd Bq [(D,.lst ((((zs.take j).filter fun p=>q p.2).map Prod.fst).map V.int)),(ca,.lst (cl t.c)),(du,.lst (t.s.1.map V.int)),(to,.lst (tsi.map V.ref))] J) ⟨none,none,Bi,rfl,Same.refl _,h0⟩ (fun j σ J _ ⟨_,_,Bq,_,s1,h1⟩=>⟨h1.sql (SqL.of (s1 _ _ eAi)),h1.sql (SqL.of (s1 _ _ eNi))⟩) (by rw [List.length_map,List.length_map];exact p4.n f1) ?_ ?_
     ·clear h0
      rintro j x y σ J Tt hx hy ⟨u0,u1,Bq,rfl,s1,h⟩ nT
      obtain ⟨e,e9,rfl⟩:=ym hx
      obtain ⟨n',e10,rfl⟩:=ym hy
      have ez:zs[j]?=some (e,n'):=List.getElem?_zip_eq_some.mpr ⟨e9,e10⟩
      have et:(zs.take (j+1)).filter (fun p=>q p.2)=(zs.take j).filter (fun p=>q p.2)++if q n'=true then [(e,n')] else []:=by
       rw [List.take_add_one,ez,List.filter_append]
       congr 1
       show List.filter (fun p:Int×Int=>q p.2) [(e,n')]=_
       by_cases z:q n'=true
       ·rw [List.filter_cons_of_pos (p:=fun p:Int×Int=>q p.2) z,if_pos z];rfl
       ·rw [List.filter_cons_of_neg (p:=fun p:Int×Int=>q p.2) z,if_neg z];rfl
      have lf:=List.length_filter_le (fun p:Int×Int=>q p.2) (zs.take j)
      have jl:j<t.act.length:=(List.getElem?_eq_some_iff.mp e9).1
      rw [List.length_take] at lf
      rw [et,List.map_append,List.map_append]
      have m4:=h.grow (o:=.tup [.int e,.int n']) nT
      have s4:Same Bq (upd Bq Tt (.tup [.int e,.int n'])):=zh (Same.refl _) (h.free nT)
      have e4:upd Bq Tt (.tup [.int e,.int n']) Tt=some (.tup [.int e,.int n']):=zg
      generalize upd J Tt (.tup [.int e,.int n'])=J4 at m4 ⊢
      generalize upd Bq Tt (.tup [.int e,.int n'])=B4 at m4 s4 e4
      have sA:=s1.trans s4
      refine ⟨Tt,_,rfl,SqT.of (m4.sm _ _ e4),rfl,_,_,rfl,_,_,rfl,rfl,?_⟩
      refine ⟨_,rfl,rfl,_,rfl,?_⟩
      have ef:(!decide (V.int n'=V.int 0))=q n':=by rw [dec_int];show _=decide (decide (n'=0)=_);by_cases z:n'=0 <;> simp [z]
      rw [ef]
      refine ite2 (fun z=>?_) (fun z=>?_)
      ·rw [if_pos z]
       exact ⟨_,rfl,_,m4.get 0 rfl,(by rw [List.length_map,List.length_map];omega),_,_,B4,rfl,sA,m4.put 0 rfl⟩
      ·rw [if_neg z]
       exact ⟨_,_,B4,rfl,sA,by rw [List.map_nil,List.map_nil,List.append_nil];exact m4⟩
     rintro σ J2 ⟨u0,u1,Bq,rfl,s1,h⟩
     have ezs:zs.take (t.act.map V.int).length=zs:=List.take_of_length_le (by show (t.act.zip t.ns).length<=_;rw [List.length_zip,List.length_map];omega)
     rw [ezs] at h
     have nD':Bq D=none:=h.nw (D,_) List.mem_cons_self
     replace h:=h.settle
     have sD:Same Bq (upd Bq D (.lst (((zs.filter fun p=>q p.2).map Prod.fst).map V.int))):=zh (Same.refl _) nD'
     have eD:upd Bq D (.lst (((zs.filter fun p=>q p.2).map Prod.fst).map V.int)) D=_:=zg
     generalize upd Bq D (.lst (((zs.filter fun p=>q p.2).map Prod.fst).map V.int))=Bk at h sD eD
     have sk:=s1.trans sD
     exact ⟨u12,Bk,D,Ni,tsi,rfl,si.trans sk,h,ta.same sk,eD,sk _ _ eNi⟩
    | true =>
     let q:Int->Bool:=fun v=>decide (decide (v=0)=true)
     let zs:List (Int×Int):=t.act.zip t.ns
     refine ⟨_,rfl,sa,_,_,_,rfl,rfl,q0 h,rfl,rfl,_,rfl,zE (by decide) ?_⟩
     refine ⟨_,rfl,sa,_,_,_,rfl,rfl,q0 h,rfl,rfl,_,rfl,zE (by decide) ?_⟩
     refine ⟨_,rfl,sa,_,_,_,rfl,rfl,q0 h,rfl,rfl,_,rfl,zE (by decide) ?_⟩
     refine ⟨_,rfl,sa,_,_,_,rfl,rfl,q0 h,rfl,rfl,_,rfl,iteEq ?_⟩
     refine ⟨_,rfl,_,rfl,Ai,Ni,rfl,⟨_,h.sql (SqL.of eAi)⟩,⟨_,h.sql (SqL.of eNi)⟩,_,rfl,fun D nD=>?_⟩
     have h0:Hd Bi [(D,.lst ((((zs.take 0).filter fun p=>q p.2).map Prod.fst).map V.int)),(ca,.lst (cl t.c)),(du,.lst (t.s.1.map V.int)),(to,.lst (tsi.map V.ref))] (upd J D (.lst [])):=h.new nD
     clear h
     generalize upd J D (.lst [])=J1 at h0 ⊢
     refine compF_zip (K:=K) (l1:=Ai) (l2:=Ni) (D:=D) (xs:=t.act.map V.int) (ys:=t.ns.map V.int) (fun j σ J=>∃ (u0 u1:Option V) (Bq:Hp),σ=[u0,u1]/\Same Bi Bq/\Hd Bq [(D,.lst ((((zs.take j).filter fun p=>q p.2).map Prod.fst).map V.int)),(ca,.lst (cl t.c)),(du,.lst (t.s.1.map V.int)),(to,.lst (tsi.map V.ref))] J) ⟨none,none,Bi,rfl,Same.refl _,h0⟩ (fun j σ J _ ⟨_,_,Bq,_,s1,h1⟩=>⟨h1.sql (SqL.of (s1 _ _ eAi)),h1.sql (SqL.of (s1 _ _ eNi))⟩) (by rw [List.length_map,List.length_map];exact p4.n f1) ?_ ?_
     ·clear h0
      rintro j x y σ J Tt hx hy ⟨u0,u1,Bq,rfl,s1,h⟩ nT
      obtain ⟨e,e9,rfl⟩:=ym hx
      obtain ⟨n',e10,rfl⟩:=ym hy
      have ez:zs[j]?=some (e,n'):=List.getElem?_zip_eq_some.mpr ⟨e9,e10⟩
      have et:(zs.take (j+1)).filter (fun p=>q p.2)=(zs.take j).filter (fun p=>q p.2)++if q n'=true then [(e,n')] else []:=by
       rw [List.take_add_one,ez,List.filter_append]
       congr 1
       show List.filter (fun p:Int×Int=>q p.2) [(e,n')]=_
       by_cases z:q n'=true
       ·rw [List.filter_cons_of_pos (p:=fun p:Int×Int=>q p.2) z,if_pos z];rfl
       ·rw [List.filter_cons_of_neg (p:=fun p:Int×Int=>q p.2) z,if_neg z];rfl
      have lf:=List.length_filter_le (fun p:Int×Int=>q p.2) (zs.take j)
      have jl:j<t.act.length:=(List.getElem?_eq_some_iff.mp e9).1
      rw [List.length_take] at lf
      rw [et,List.map_append,List.map_append]
      have m4:=h.grow (o:=.tup [.int e,.int n']) nT
      have s4:Same Bq (upd Bq Tt (.tup [.int e,.int n'])):=zh (Same.refl _) (h.free nT)
      have e4:upd Bq Tt (.tup [.int e,.int n']) Tt=some (.tup [.int e,.int n']):=zg
      generalize upd J Tt (.tup [.int e,.int n'])=J4 at m4 ⊢
      generalize upd Bq Tt (.tup [.int e,.int n'])=B4 at m4 s4 e4
      have sA:=s1.trans s4
      refine ⟨Tt,_,rfl,SqT.of (m4.sm _ _ e4),rfl,_,_,rfl,_,_,rfl,rfl,?_⟩
      refine ⟨_,rfl,rfl,_,rfl,?_⟩
      have ef:decide (V.int n'=V.int 0)=q n':=by rw [dec_int];show _=decide (decide (n'=0)=_);by_cases z:n'=0 <;> simp [z]
      rw [ef]
      refine ite2 (fun z=>?_) (fun z=>?_)
      ·rw [if_pos z]
       exact ⟨_,rfl,_,m4.get 0 rfl,(by rw [List.length_map,List.length_map];omega),_,_,B4,rfl,sA,m4.put 0 rfl⟩
      ·rw [if_neg z]
       exact ⟨_,_,B4,rfl,sA,by rw [List.map_nil,List.map_nil,List.append_nil];exact m4⟩
     rintro σ J2 ⟨u0,u1,Bq,rfl,s1,h⟩
     have ezs:zs.take (t.act.map V.int).length=zs:=List.take_of_length_le (by show (t.act.zip t.ns).length<=_;rw [List.length_zip,List.length_map];omega)
     rw [ezs] at h
     have nD':Bq D=none:=h.nw (D,_) List.mem_cons_self
     replace h:=h.settle
     have sD:Same Bq (upd Bq D (.lst (((zs.filter fun p=>q p.2).map Prod.fst).map V.int))):=zh (Same.refl _) nD'
     have eD:upd Bq D (.lst (((zs.filter fun p=>q p.2).map Prod.fst).map V.int)) D=_:=zg
     generalize upd Bq D (.lst (((zs.filter fun p=>q p.2).map Prod.fst).map V.int))=Bk at h sD eD
     have sk:=s1.trans sD
     exact ⟨u12,Bk,D,Ni,tsi,rfl,si.trans sk,h,ta.same sk,eD,sk _ _ eNi⟩
   | rc n =>
    let q:Int->Bool:=gIn n
    let zs:List (Int×Int):=t.act.zip t.ns
    refine ⟨_,rfl,sa,_,_,_,rfl,rfl,q0 h,rfl,rfl,_,rfl,zE (by decide) ?_⟩
    refine ⟨_,rfl,sa,_,_,_,rfl,rfl,q0 h,rfl,rfl,_,rfl,iteEq ?_⟩
    refine ⟨_,rfl,_,rfl,Ai,Ni,rfl,⟨_,h.sql (SqL.of eAi)⟩,⟨_,h.sql (SqL.of eNi)⟩,_,rfl,fun D nD=>?_⟩
    have h0:Hd Bi [(D,.lst ((((zs.take 0).filter fun p=>q p.2).map Prod.fst).map V.int)),(ca,.lst (cl t.c)),(du,.lst (t.s.1.map V.int)),(to,.lst (tsi.map V.ref))] (upd J D (.lst [])):=h.new nD
    clear h
    generalize upd J D (.lst [])=J1 at h0 ⊢
    refine compF_zip (K:=K) (l1:=Ai) (l2:=Ni) (D:=D) (xs:=t.act.map V.int) (ys:=t.ns.map V.int) (fun j σ J=>∃ (u0 u1:Option V) (Bq:Hp),σ=[u0,u1,some (.ref sa)]/\Same Bi Bq/\Hd Bq [(D,.lst ((((zs.take j).filter fun p=>q p.2).map Prod.fst).map V.int)),(ca,.lst (cl t.c)),(du,.lst (t.s.1.map V.int)),(to,.lst (tsi.map V.ref))] J) ⟨none,none,Bi,rfl,Same.refl _,h0⟩ (fun j σ J _ ⟨_,_,Bq,_,s1,h1⟩=>⟨h1.sql (SqL.of (s1 _ _ eAi)),h1.sql (SqL.of (s1 _ _ eNi))⟩) (by rw [List.length_map,List.length_map];exact p4.n f1) ?_ ?_
    ·clear h0
     rintro j x y σ J Tt hx hy ⟨u0,u1,Bq,rfl,s1,h⟩ nT
     obtain ⟨e,e9,rfl⟩:=ym hx
     obtain ⟨n',e10,rfl⟩:=ym hy
     have ez:zs[j]?=some (e,n'):=List.getElem?_zip_eq_some.mpr ⟨e9,e10⟩
     have et:(zs.take (j+1)).filter (fun p=>q p.2)=(zs.take j).filter (fun p=>q p.2)++if q n'=true then [(e,n')] else []:=by
      rw [List.take_add_one,ez,List.filter_append]
      congr 1
      show List.filter (fun p:Int×Int=>q p.2) [(e,n')]=_
      by_cases z:q n'=true
      ·rw [List.filter_cons_of_pos (p:=fun p:Int×Int=>q p.2) z,if_pos z];rfl
      ·rw [List.filter_cons_of_neg (p:=fun p:Int×Int=>q p.2) z,if_neg z];rfl
     have lf:=List.length_filter_le (fun p:Int×Int=>q p.2) (zs.take j)
     have jl:j<t.act.length:=(List.getElem?_eq_some_iff.mp e9).1
     rw [List.length_take] at lf
     rw [et,List.map_append,List.map_append]
     have m4:=h.grow (o:=.tup [.int e,.int n']) nT
     have s4:Same Bq (upd Bq Tt (.tup [.int e,.int n'])):=zh (Same.refl _) (h.free nT)
     have e4:upd Bq Tt (.tup [.int e,.int n']) Tt=some (.tup [.int e,.int n']):=zg
     generalize upd J Tt (.tup [.int e,.int n'])=J4 at m4 ⊢
     generalize upd Bq Tt (.tup [.int e,.int n'])=B4 at m4 s4 e4
     have sA:=s1.trans s4
     refine ⟨Tt,_,rfl,SqT.of (m4.sm _ _ e4),rfl,_,_,rfl,_,_,rfl,rfl,?_⟩
     refine ⟨_,rfl,_,_,rfl,rfl,_,rfl,?_⟩
     have no:¬ q n'=true->∃ (u0 u1:Option V) (Bq:Hp),[some (V.int e),some (.int n'),some (.ref sa)]=[u0,u1,some (.ref sa)]/\Same Bi Bq/\Hd Bq [(D,.lst ((((zs.take j).filter fun p=>q p.2).map Prod.fst).map V.int++((if q n'=true then [(e,n')] else []).map Prod.fst).map V.int)),(ca,.lst (cl t.c)),(du,.lst (t.s.1.map V.int)),(to,.lst (tsi.map V.ref))] J4:=fun z=>⟨_,_,B4,rfl,sA,by rw [if_neg z,List.map_nil,List.map_nil,List.append_nil];exact m4⟩
     by_cases z0:0<=n'
     ·rw [decide_eq_true z0]
      refine iteT ⟨_,rfl,sa,_,_,_,rfl,rfl,SqT.of (m4.sm _ _ (sA _ _ est)),rfl,_,_,rfl,rfl,_,rfl,?_⟩
      by_cases z1:n'<n
      ·rw [decide_eq_true z1]
       have z:q n'=true:=by show (decide (0<=n') && decide (n'<n))=true;rw [decide_eq_true z0,decide_eq_true z1];rfl
       rw [if_pos z]
       exact iteT ⟨_,rfl,_,m4.get 0 rfl,(by rw [List.length_map,List.length_map];omega),_,_,B4,rfl,sA,m4.put 0 rfl⟩
      ·rw [decide_eq_false z1]
       exact yx (no fun y=>z1 (by have y:(decide (0<=n') && decide (n'<n))=true:=y;rw [Bool.and_eq_true] at y;exact of_decide_eq_true y.2))
     ·rw [decide_eq_false z0]
      exact yx ⟨_,rfl,yx (no fun y=>z0 (by have y:(decide (0<=n') && decide (n'<n))=true:=y;rw [Bool.and_eq_true] at y;exact of_decide_eq_true y.1))⟩
    rintro σ J2 ⟨u0,u1,Bq,rfl,s1,h⟩
    have ezs:zs.take (t.act.map V.int).length=zs:=List.take_of_length_le (by show (t.act.zip t.ns).length<=_;rw [List.length_zip,List.length_map];omega)
    rw [ezs] at h
    have nD':Bq D=none:=h.nw (D,_) List.mem_cons_self
    replace h:=h.settle
    have sD:Same Bq (upd Bq D (.lst (((zs.filter fun p=>q p.2).map Prod.fst).map V.int))):=zh (Same.refl _) nD'
    have eD:upd Bq D (.lst (((zs.filter fun p=>q p.2).map Prod.fst).map V.int)) D=_:=zg
    generalize upd Bq D (.lst (((zs.filter fun p=>q p.2).map Prod.fst).map V.int))=Bk at h sD eD
    have sk:=s1.trans sD
    have eNk:=sk _ _ eNi
    refine ⟨_,rfl,Ni,rfl,⟨_,h.sql (SqL.of eNk)⟩,_,rfl,fun D2 nD2=>?_⟩
    have h0:Hd Bk [(D2,.lst (((t.ns.take 0).filter q).map V.int)),(ca,.lst (cl t.c)),(du,.lst (t.s.1.map V.int)),(to,.lst (tsi.map V.ref))] (upd J2 D2 (.lst [])):=h.new nD2
    clear h
    generalize upd J2 D2 (.lst [])=J3 at h0 ⊢
    refine compF_list (K:=K) (a:=Ni) (D:=D2) (xs:=t.ns.map V.int) (fun j σ J=>∃ u,σ=[u,some (.ref sa)]/\Hd Bk [(D2,.lst (((t.ns.take j).filter q).map V.int)),(ca,.lst (cl t.c)),(du,.lst (t.s.1.map V.int)),(to,.lst (tsi.map V.ref))] J) ⟨none,rfl,h0⟩ (fun j σ J _ ⟨_,_,h1⟩=>h1.sql (SqL.of eNk)) ?_ ?_
    ·clear h0
     rintro j y σ J hy ⟨u,rfl,h⟩
     obtain ⟨n',e10,rfl⟩:=ym hy
     have jl:j<t.ns.length:=(List.getElem?_eq_some_iff.mp e10).1
     have pm:=p4.m
     have et:(t.ns.take (j+1)).filter q=(t.ns.take j).filter q++if q n'=true then [n'] else []:=by
      rw [List.take_add_one,e10,List.filter_append]
      congr 1
      show List.filter q [n']=_
      by_cases z:q n'=true
      ·rw [List.filter_cons_of_pos z,if_pos z];rfl
      ·rw [List.filter_cons_of_neg z,if_neg z];rfl
     have lf:=List.length_filter_le q (t.ns.take j)
     rw [List.length_take] at lf
     rw [et,List.map_append]
     refine ⟨_,rfl,_,_,rfl,rfl,_,rfl,?_⟩
     have no:¬ q n'=true->∃ u,[some (V.int n'),some (.ref sa)]=[u,some (.ref sa)]/\Hd Bk [(D2,.lst (((t.ns.take j).filter q).map V.int++(if q n'=true then [n'] else []).map V.int)),(ca,.lst (cl t.c)),(du,.lst (t.s.1.map V.int)),(to,.lst (tsi.map V.ref))] J:=fun z=>⟨_,rfl,by rw [if_neg z,List.map_nil,List.append_nil];exact h⟩
     by_cases z0:0<=n'
     ·rw [decide_eq_true z0]
      refine iteT ⟨_,rfl,sa,_,_,_,rfl,rfl,SqT.of (h.sm _ _ (sk _ _ est)),rfl,_,_,rfl,rfl,_,rfl,?_⟩
      by_cases z1:n'<n
      ·rw [decide_eq_true z1]
       have z:q n'=true:=by show (decide (0<=n') && decide (n'<n))=true;rw [decide_eq_true z0,decide_eq_true z1];rfl
       rw [if_pos z]
       exact iteT ⟨_,rfl,_,h.get 0 rfl,(by rw [List.length_map];omega),_,rfl,h.put 0 rfl⟩
      ·rw [decide_eq_false z1]
       exact yx (no fun y=>z1 (by have y:(decide (0<=n') && decide (n'<n))=true:=y;rw [Bool.and_eq_true] at y;exact of_decide_eq_true y.2))
     ·rw [decide_eq_false z0]
      exact yx ⟨_,rfl,yx (no fun y=>z0 (by have y:(decide (0<=n') && decide (n'<n))=true:=y;rw [Bool.and_eq_true] at y;exact of_decide_eq_true y.1))⟩
    rintro σ J4 ⟨u,rfl,h⟩
    rw [List.length_map,List.take_length] at h
    have nD2':Bk D2=none:=h.nw (D2,_) List.mem_cons_self
    replace h:=h.settle
    have sD2:Same Bk (upd Bk D2 (.lst ((t.ns.filter q).map V.int))):=zh (Same.refl _) nD2'
    have sk2:=sk.trans sD2
    exact ⟨u12,_,D,D2,tsi,rfl,si.trans sk2,h,ta.same sk2,sD2 _ _ eD,zg⟩
   | jo x r f =>
    obtain ⟨r1,r2,r3,m1⟩:=g1 r (.inr ⟨x,f,rfl⟩)
    have h9:=g2 x r f rfl
    have pd:=p4.d
    have sj:∀ J (EE:XK),Hd Bi [(ca,.lst (cl t.c)),(du,.lst (t.s.1.map V.int)),(to,.lst (tsi.map V.ref))] J->spJn K [.ref sa,.int ((pl:Int)+(1+(i:Int))),.int (S.getD r 0),.ref Ai,.ref Ni,.ref ca,.ref du,.ref to] J (fun _ J=>∃ (v12:Option V) (Bj:Hp) (Aj Nj:Addr) (tsj:List Addr),[some (.ref cd),some (.int pl),some (.int b),some (.int (W:Nat)),some (.ref sl),some (.ref ca),some (.ref du),some (.ref to),some (.ref Ai),some (.ref Ni),some (.int (1+(i:Int))),some (.ref sa),u12,none]=[some (.ref cd),some (.int pl),some (.int b),some (.int (W:Nat)),some (.ref sl),some (.ref ca),some (.ref du),some (.ref to),some (.ref Aj),some (.ref Nj),some (.int (1+(i:Int))),some (.ref sa),v12,none]/\Same B Bj/\Hd Bj [(ca,.lst (cl (go4 S pl (1+i) (.jo x r f) t).c)),(du,.lst ((go4 S pl (1+i) (.jo x r f) t).s.1.map V.int)),(to,.lst (tsj.map V.ref))] J/\TAt Bj tsj (go4 S pl (1+i) (.jo x r f) t).s.2/\Bj Aj=some (.lst ((go4 S pl (1+i) (.jo x r f) t).act.map V.int))/\Bj Nj=some (.lst ((go4 S pl (1+i) (.jo x r f) t).ns.map V.int))) EE:=fun J EE h=>by
     refine ⟨Bi,sa,Ai,Ni,ca,du,to,tsi,x,r,p,mk,f,S.getD r 0,((pl+(1+i):Nat):Int),t.act,t.ns,t.s.1,t.c,t.s.2,by rw [epc],h,by cases x <;> exact est,SqL.of eAi,SqL.of eNi,ta,p4.n f1,h9,p4.k.n,p4.k.c,p4.k.d,(fun e he=>by have:=p4.e e he;omega),r2,by omega,by omega,by omega,fun B' H' ts' s' h' ta'=>?_⟩
     cases x with
     | true=>exact ⟨u12,B',Ai,Ni,ts',rfl,si.trans s',h',ta',s' _ _ eAi,s' _ _ eNi⟩
     | false=>exact ⟨u12,B',Ai,Ni,ts',rfl,si.trans s',h',ta',s' _ _ eAi,s' _ _ eNi⟩
    cases x with
    | true =>
     refine ⟨_,rfl,sa,_,_,_,rfl,rfl,q0 h,rfl,rfl,_,rfl,zE (by decide) ?_⟩
     refine ⟨_,rfl,sa,_,_,_,rfl,rfl,q0 h,rfl,rfl,_,rfl,zE (by decide) ?_⟩
     refine ⟨_,rfl,sa,_,_,_,rfl,rfl,q0 h,rfl,rfl,_,rfl,zE (by decide) ?_⟩
     refine ⟨_,rfl,sa,_,_,_,rfl,rfl,q0 h,rfl,rfl,_,rfl,zE (by decide) ?_⟩
     exact ⟨_,rfl,_,rfl,_,rfl,_,_,rfl,rfl,_,rfl,_,rfl,sa,_,_,_,rfl,rfl,q0 h,rfl,sl,_,_,_,rfl,rfl,h.sql (zt ql si),yP r r1 rfl,_,rfl,_,rfl,_,rfl,_,rfl,_,rfl,sj _ E h⟩
    | false =>
     refine ⟨_,rfl,sa,_,_,_,rfl,rfl,q0 h,rfl,rfl,_,rfl,zE (by decide) ?_⟩
     refine ⟨_,rfl,sa,_,_,_,rfl,rfl,q0 h,rfl,rfl,_,rfl,zE (by decide) ?_⟩
     refine ⟨_,rfl,sa,_,_,_,rfl,rfl,q0 h,rfl,rfl,_,rfl,zE (by decide) ?_⟩
     refine ⟨_,rfl,sa,_,_,_,rfl,rfl,q0 h,rfl,rfl,_,rfl,zE (by decide) ?_⟩
     exact ⟨_,rfl,_,rfl,_,rfl,_,_,rfl,rfl,_,rfl,_,rfl,sa,_,_,_,rfl,rfl,q0 h,rfl,sl,_,_,_,rfl,rfl,h.sql (zt ql si),yP r r1 rfl,_,rfl,_,rfl,_,rfl,_,rfl,_,rfl,sj _ E h⟩
  ·rintro σ J2 ⟨u12,Bj,Aj,Nj,tsj,rfl,sj,hj,taj,eAj,eNj⟩
   exact ⟨rest,_,st.fresh,st.mask mk m,_,_,u12,Bj,Aj,Nj,tsj,rfl,by rw [List.length_cons] at rl;omega,rn',f2,fun x hx=>hsub x (List.mem_cons_of_mem _ hx),(fun j tv hjt=>by
    have:=hcd (j+1) tv hjt
    rw [← this];congr 1;omega),p4',by omega,sj,hj,taj,eAj,eNj⟩
 ·clear h ta
  rintro σ J ⟨rest,t,fr,mk,u10,u11,u12,Bi,Ai,Ni,tsi,rfl,rl,rn,_,_,_,_,_,si,h,ta,_,_⟩
  have:rest=[]:=List.length_eq_zero_iff.mp (by omega)
  subst this
  have e:t=TF:=rn
  subst e
  exact k Bi J tsi si h ta
end
end K40
namespace K40
open PySem L2
theorem tvs4_app (p m:Nat) (st:Sp4):∀ (sts:List Sp4) (mk:Nat),tvs4 p m mk (sts++[st])=tvs4 p m mk sts++[st.tv p (mask4 m mk sts) m]
 | [],mk=>rfl
 | x::sts,mk=>by
  show x.tv p mk m::tvs4 p m _ (sts++[st])=_
  rw [tvs4_app p m st sts];rfl
theorem mask4_app (m:Nat) (st:Sp4):∀ (sts:List Sp4) (mk:Nat),mask4 m mk (sts++[st])=st.mask (mask4 m mk sts) m
 | [],mk=>rfl
 | x::sts,mk=>mask4_app m st sts _
def fresh4:Bool->List Sp4->Bool
 | fr,[]=>fr
 | _,st::sts=>fresh4 st.fresh sts
theorem fresh4_app (st:Sp4):∀ (sts:List Sp4) (fr:Bool),fresh4 fr (sts++[st])=st.fresh
 | [],_=>rfl
 | x::sts,_=>fresh4_app st sts _
theorem Fr4_app (st:Sp4):∀ (sts:List Sp4) (fr:Bool),Fr4 fr sts->(match st with | .ld _=>true | _=>fresh4 fr sts)=true->Fr4 fr (sts++[st])
 | [],fr,_,h=>⟨h,trivial⟩
 | x::sts,fr,h,h2=>⟨h.1,Fr4_app st sts _ h.2 h2⟩
structure Rd4 (rows:Int) (sts:List Sp4) (fr:Bool):Prop where
 f:Fr4 false sts
 e:fresh4 false sts=fr
 r:∀ st∈sts,(∀ r:Nat,(st=.ld r∨∃ x f,st=.jo x r f)->(r:Int)<rows)/\∀ x r f,st=.jo x r f->Fd9 f
theorem Rd4.snoc {rows:Int} {sts:List Sp4} {fr:Bool} {st:Sp4} (h:Rd4 rows sts fr) (h1:(match st with | .ld _=>true | _=>fr)=true) (h2:(∀ r:Nat,(st=.ld r∨∃ x f,st=.jo x r f)->(r:Int)<rows)/\∀ x r f,st=.jo x r f->Fd9 f):Rd4 rows (sts++[st]) st.fresh:=by
 refine ⟨Fr4_app st sts false h.f (by rw [h.e];exact h1),fresh4_app st sts false,fun x hx=>?_⟩
 rcases List.mem_append.mp hx with hx | hx
 ·exact h.r x hx
 ·cases List.mem_singleton.mp hx;exact h2
theorem sz (n:Nat) (h:n<=1000:=by decide):n<=sizeLine:=Nat.le_trans h (by decide)
theorem code_one {B:Hp} {t:Addr} {tv:List V} (e:B t=some (.tup tv)):CodeAt B [t] [tv]:=⟨rfl,fun i b v hx hy=>by
 match i,hx,hy with
 | 0,hx,hy=>cases hx;cases hy;exact e
 | i+1,hx,hy=>cases hx⟩
theorem CodeAt.same {B B':Hp} {cs:List Addr} {code:List (List V)} (h:CodeAt B cs code) (s:Same B B'):CodeAt B' cs code:=⟨h.n,fun i b tv x y=>s _ _ (h.t i b tv x y)⟩
end K40
namespace K40
open PySem L2
def folds9:List Str:=["sum","product","least","most","both","either","odd","chain","capped"]
theorem fold9_at {r:Int} (h0:0<=r) (h1:r<9):∃ f,atI (folds9.map V.str) r=some (.str f)/\Fd9 f:=by
 obtain ⟨n,rfl⟩:∃ n:Nat,r=n:=⟨r.toNat,(Int.toNat_of_nonneg h0).symm⟩
 have hn:n<9:=by omega
 clear h0 h1
 have h:∀ n:Fin 9,Fd9 (folds9.getD n.val ""):=by unfold Fd9;decide
 refine ⟨folds9.getD n "",zK ?_,h ⟨n,hn⟩⟩
 rw [List.getElem?_map,List.getD_eq_getElem?_getD,List.getElem?_eq_getElem (show n<folds9.length from hn)];rfl
def joWord (run:Bool):Str:=if run=true then "running" else "fold"
theorem Rd4.ld {rows:Int} {sts:List Sp4} {fr:Bool} (h:Rd4 rows sts fr) {r:Nat} (hr:(r:Int)<rows):Rd4 rows (sts++[.ld r]) true :=
 h.snoc (st:=.ld r) rfl ⟨(fun r' e=>by
  rcases e with e | ⟨_,_,e⟩
  ·cases e;exact hr
  ·cases e),fun x r f e=>by cases e⟩
theorem Rd4.ch {rows:Int} {sts:List Sp4} (h:Rd4 rows sts true) (no:Bool):Rd4 rows (sts++[.ch no]) false :=
 h.snoc (st:=.ch no) rfl ⟨(fun r' e=>by
  rcases e with e | ⟨_,_,e⟩ <;> cases e),fun x r f e=>by cases e⟩
theorem Rd4.rc {rows:Int} {sts:List Sp4} (h:Rd4 rows sts true) (n:Int):Rd4 rows (sts++[.rc n]) true :=
 h.snoc (st:=.rc n) rfl ⟨(fun r' e=>by
  rcases e with e | ⟨_,_,e⟩ <;> cases e),fun x r f e=>by cases e⟩
theorem Rd4.jo {rows:Int} {sts:List Sp4} (h:Rd4 rows sts true) {x:Bool} {r:Nat} {f:Str} (hr:(r:Int)<rows) (h9:Fd9 f):Rd4 rows (sts++[.jo x r f]) true :=
 h.snoc (st:=.jo x r f) rfl ⟨(fun r' e=>by
  rcases e with e | ⟨_,_,e⟩
  ·cases e
  ·cases e;exact hr),fun x r f e=>by cases e;exact h9⟩
theorem cat_hold {J:Hp} {l t l1:Addr} {xs:List V} {tv:List V} (e:J l=some (.lst xs)) (nt:J t=none) (n1:upd J t (.tup tv) l1=none):upd (upd J t (.tup tv)) l1 (.lst [.ref t]) l=some (.lst xs)/\upd (upd J t (.tup tv)) l1 (.lst [.ref t]) l1=some (.lst [.ref t]) :=
 ⟨zh (Same.refl _) n1 _ _ (zh (Same.refl _) nt _ _ e),zg⟩
theorem cat4 {J:Hp} {t l1 l2:Addr} {cs:List Addr} {tv:List V} {code:List (List V)} (C:CodeAt J cs code) (nt:J t=none) (n1:upd J t (.tup tv) l1=none) (n2:upd (upd J t (.tup tv)) l1 (.lst [.ref t]) l2=none):Same J (upd (upd (upd J t (.tup tv)) l1 (.lst [.ref t])) l2 (.lst (cs.map V.ref++[.ref t])))/\upd (upd (upd J t (.tup tv)) l1 (.lst [.ref t])) l2 (.lst (cs.map V.ref++[.ref t])) l2=some (.lst ((cs++[t]).map V.ref))/\CodeAt (upd (upd (upd J t (.tup tv)) l1 (.lst [.ref t])) l2 (.lst (cs.map V.ref++[.ref t]))) (cs++[t]) (code++[tv]):=by
 have s1:Same J (upd J t (.tup tv)):=zh (Same.refl _) nt
 have s2:=zh (o:=.lst [.ref t]) (Same.refl _) n1
 have s3:=zh (o:=.lst (cs.map V.ref++[.ref t])) (Same.refl _) n2
 refine ⟨(s1.trans s2).trans s3,?_,code_app (C.same ((s1.trans s2).trans s3)) (code_one ((s2.trans s3) _ _ zg))⟩
 rw [List.map_append]
 exact zg
theorem tv_snoc {p m:Nat} {sts:List Sp4} {st:Sp4} {b tv:List V} (h:tv=st.tv p (mask4 m 0 sts) m):(b::tvs4 p m 0 sts)++[tv]=b::tvs4 p m 0 (sts++[st]):=by
 rw [tvs4_app,h];rfl
theorem code_len {B:Hp} {cs:List Addr} {b:List V} {p m:Nat} {sts:List Sp4} (h:CodeAt B cs (b::tvs4 p m 0 sts)):cs.length=sts.length+1:=by
 rw [h.n,List.length_cons,xV]
section
variable {P:Program} {w:World} {K:PySem.W.Frag} {mg:Str->Option Value} {base:Heap}
def spRd4 (K:PySem.W.Frag):Sp:=fun vs H Q _=>∃ (a:Addr) (ns:List Int) (k rows many gg:Int),vs=[.ref a,.int k,.int rows,.int many,.int gg]/\SqL K H a (ns.map V.int)/\0<=k/\k<=1000/\1<=rows/\(gg=1∨gg=2∨gg=4) /\
 ∀ H' l cs (p m:Nat) (sts:List Sp4) (fr:Bool),Same H H'->H' l=some (.lst (cs.map V.ref))->CodeAt H' cs ([.str "begin",.int many,.int gg]::(tvs4 p m 0 sts++[[.str "next"]]))->((p:Int)+1)*gg<=8->m<16->sts.length<=6->Rd4 rows sts fr->Q (.ref l) H'
theorem ok_round4 (d:zn K mg "_law_round" xM ["_law_script","_law_k","_law_rows","_law_many","_law_group_here"]) (hrg:mg "range"=none) (SM:Ok P w K mg base CX0 2 "_law_some" ["_law_script","_law_k","_law_salt","_law_many"] (spSome2 K)):Ok P w K mg base CX0 3 "_law_round" ["_law_script","_law_k","_law_rows","_law_many","_law_group_here"] (spRd4 K):=by
 obtain ⟨g,fd,m,F,b⟩:=d
 refine ⟨g,fd,m,F.kp,b,F.ok sc_l_round (by rintro vs H Q E ⟨_,_,_,_,_,_,rfl,_⟩;rfl) fun cdv A outer s H vs Q E hr h=>?_⟩
 obtain ⟨a,ns,k,rows,many,gg,rfl,hS,k0,k1,r1,hg,q⟩:=h
 have nd:=sc_l_round.nd
 have hr2:=hr
 have SL:(200000:Nat)<sizeLine:=by decide
 obtain ⟨m8,e8,m81,m82⟩:∃ m8:Int,(8:Int).fdiv gg=m8/\2<=m8/\m8*gg<=8:=by rcases hg with e | e | e <;> subst e <;> exact ⟨_,rfl,by decide,by decide⟩
 have g1:1<=gg/\gg<=4:=by omega
 refine ⟨_,(zc (zu (i:=5) nd rfl (Or.inl rfl) (zD SM hr2 (by rfl) zr (za (pv 0) (za (pv 1) (za ze (za (zi op_fdivB ze (pv 4)) zb))))))
   (zc (zu (i:=6) nd rfl (Or.inl rfl) ze)
   (zc (zu (i:=7) nd rfl (Or.inl rfl) (yw (za (xi (za zX (za (pv 3) (za (pv 4) zb)))) zb)))
   (zc (ps_mid (zV (zH yF (zD SM hr2 (by rfl) zr (za (pv 0) (za (pv 1) (za ze (za ze zb))))) ze (zL _)) (zc (zu (i:=6) nd rfl (Or.inl rfl) (zi zF ze (zD SM hr2 (by rfl) zr (za (pv 0) (za (pv 1) (za ze (za ze zb)))))))
   (zc (zu (i:=7) nd rfl (Or.inl rfl) (zi op_cat (pv 7) (yw (za (xi (za zX (za (pv 5) (za (zD SM hr2 (by rfl) zr (za (pv 0) (za (pv 1) (za ze (za (pv 2) zb))))) (za ze zb))))) zb))))
   (zf (zu (i:=7) nd rfl (Or.inl rfl) (zi op_cat (pv 7) (yw (za (xi (za (zy zR (yw (za zX (za zX zb))) (zD SM hr2 (by rfl) zr (za (pv 0) (za (pv 1) (za ze (za ze zb))))) (fun _ _=>rfl)) (za (pv 6) (za (pv 5) (za ze zb))))) zb))))))) zI))
   (zc (zu (i:=7) nd rfl (Or.inl rfl) (zi op_cat (pv 7) (yw (za (xi (za zX (za (pv 5) (za (zD SM hr2 (by rfl) zr (za (pv 0) (za (pv 1) (za ze (za (pv 2) zb))))) (za (pv 6) zb))))) zb))))
   (zc (ps_mid (zV (zH yF (zD SM hr2 (by rfl) zr (za (pv 0) (za (pv 1) (za ze (za ze zb))))) ze (zL _)) (zf (zu (i:=7) nd rfl (Or.inl rfl) (zi op_cat (pv 7) (yw (za (xi (za zX (za (pv 5) (za (zD SM hr2 (by rfl) zr (za (pv 0) (za (pv 1) (za ze (za ze zb))))) (za (pv 6) zb))))) zb))))) zI))
   (zc (zu (i:=8) nd rfl (Or.inl rfl) (yw (pa_ks rfl)))
   (zc (xc PassesOwn.never rfl (yN rfl hrg (za (zi zF ze (zD SM hr2 (by rfl) zr (za (pv 0) (za (pv 1) (za ze (za ze zb)))))) zb)) (zB (i:=9) nd rfl (Or.inl rfl)) (zc (zu (i:=10) nd rfl (Or.inl rfl) (zy zR (yw (za zX (za zX zb))) (zD SM hr2 (by rfl) zr (za (pv 0) (za (pv 1) (za (zi zF ze (pv 9)) (za ze zb))))) (fun _ _=>rfl)))
   (zc (zu (i:=11) nd rfl (Or.inl rfl) (zy zR (pv 8) (zD SM hr2 (by rfl) zr (za (pv 0) (za (pv 1) (za (zi zF ze (pv 9)) (za ze zb))))) (fun _ _=>rfl)))
   (zf (zu (i:=7) nd rfl (Or.inl rfl) (zi op_cat (pv 7) (yw (za (xi (za (pv 10) (za (zD SM hr2 (by rfl) zr (za (pv 0) (za (pv 1) (za (zi zF ze (pv 9)) (za (pv 2) zb))))) (za (pv 11) (za (pv 5) (za (pv 6) zb)))))) zb))))))))
   (zf (zq (zi op_cat (pv 7) (yw (za (xi (za zX zb)) zb))))))))))))),?_⟩
 dsimp only [yt,Cx.nox,Cx.wish]
 refine ⟨_,rfl,_,rfl,_,rfl,_,_,rfl,rfl,⟨by omega,by omega,by omega⟩,a,ns,k,1,m8,(by rw [← e8];rfl),hS,by omega,by omega,by decide,by decide,by omega,fun seat _ seat0 seat1=>?_⟩
 obtain ⟨p,rfl⟩:∃ n:Nat,seat=n:=⟨seat.toNat,by omega⟩
 have p8:((p:Int)+1)*gg<=8:=by
  have e1:((p:Int)+1)*gg<=m8*gg:=Int.mul_le_mul_of_nonneg_right (by omega) (by omega)
  omega
 refine ⟨_,rfl,_,rfl,(sz 3),fun t0 nt0=>?_⟩
 have s1:Same H (upd H t0 (.tup [.str "begin",.int many,.int gg])):=zh (Same.refl _) nt0
 have e0:upd H t0 (.tup [.str "begin",.int many,.int gg]) t0=_:=zg
 generalize upd H t0 (.tup [.str "begin",.int many,.int gg])=H1 at s1 e0 ⊢
 refine ⟨(sz 1),fun l0 nl0=>?_⟩
 have s2:Same H1 (upd H1 l0 (.lst [.ref t0])):=zh (Same.refl _) nl0
 have el0:upd H1 l0 (.lst [.ref t0]) l0=some (.lst ([t0].map V.ref)):=zg
 generalize upd H1 l0 (.lst [.ref t0])=H2 at s2 el0 ⊢
 have s02:=s1.trans s2
 have C0:CodeAt H2 [t0] ([.str "begin",.int many,.int gg]::tvs4 p 0 0 []):=code_one (s2 _ _ e0)
 let Mv1:St->Hp->Prop:=fun σ J=>∃ (mm:Nat) (sts:List Sp4) (l:Addr) (cs:List Addr),σ=[some (.ref a),some (.int k),some (.int rows),some (.int many),some (.int gg),some (.int (p:Int)),some (.int (mm:Int)),some (.ref l),none,none,none,none]/\Same H J/\J l=some (.lst (cs.map V.ref))/\CodeAt J cs ([.str "begin",.int many,.int gg]::tvs4 p mm 0 sts)/\mm<16/\mask4 mm 0 sts=mm/\sts.length<=2/\Rd4 rows sts false
 refine ⟨Mv1,?_,?_⟩
 ·have hS2:=zt hS s02
  refine ⟨_,rfl,_,rfl,a,ns,k,2,2,rfl,hS2,by omega,by omega,by decide,by decide,by decide,fun x _ x0 x1=>⟨rfl,_,rfl,?_⟩⟩
  refine ite2 (fun z=>?_) (fun z=>?_)
  rotate_left
  ·exact ⟨0,[],l0,[t0],rfl,s02,el0,C0,by decide,rfl,by decide,⟨trivial,rfl,(fun st h=>by cases h)⟩⟩
  refine ⟨_,rfl,_,rfl,a,ns,k,3,15,rfl,hS2,by omega,by omega,by decide,by decide,by decide,fun m1 _ m10 m11=>⟨_,_,rfl,rfl,?_⟩⟩
  obtain ⟨mm,em⟩:∃ n:Nat,1+m1=n:=⟨(1+m1).toNat,by omega⟩
  show gName 6 (V.int (1+m1)) _ _ _
  rw [em]
  refine ⟨_,rfl,_,rfl,_,rfl,_,rfl,_,rfl,a,ns,k,4,rows,rfl,hS2,by omega,by omega,by decide,by decide,by omega,fun r0 _ r00 r01=>?_⟩
  obtain ⟨r,rfl⟩:∃ n:Nat,r0=n:=⟨r0.toNat,by omega⟩
  refine ⟨sz 4,fun t1 nt1=>⟨sz 1,fun l1 nl1=>?_⟩⟩
  obtain ⟨a1,a2⟩:=cat_hold el0 nt1 nl1
  refine ⟨l0,l1,_,_,rfl,rfl,a1,a2,sz 2,fun l2 nl2=>?_⟩
  obtain ⟨s3,el2,C1⟩:=cat4 C0 nt1 nl1 nl2
  replace C1:CodeAt _ _ ([.str "begin",.int many,.int gg]::tvs4 p mm 0 [.ld r]):=C1
  generalize upd (upd (upd H2 t1 _) l1 _) l2 _=H3 at s3 el2 C1 ⊢
  have s03:=s02.trans s3
  have hS3:=zt hS s03
  refine ⟨_,rfl,sz 2,fun lw nlw=>?_⟩
  have s4:Same H3 (upd H3 lw (.lst [.str "choose",.str "other"])):=zh (Same.refl _) nlw
  have elw:upd H3 lw (.lst [.str "choose",.str "other"]) lw=some (.lst [.str "choose",.str "other"]):=zg
  generalize upd H3 lw (.lst [.str "choose",.str "other"])=H4 at s4 elw ⊢
  refine ⟨_,rfl,_,rfl,a,ns,k,5,2,rfl,zt hS3 s4,by omega,by omega,by decide,by decide,by decide,fun y _ y0 y1=>?_⟩
  obtain ⟨no,hno⟩:∃ nought,atI [V.str "choose",V.str "other"] y=some (.str (chWord nought)):=by
   have:y=0∨y=1:=by omega
   rcases this with rfl | rfl
   ·exact ⟨false,rfl⟩
   ·exact ⟨true,rfl⟩
  refine ⟨lw,_,_,_,rfl,rfl,SqL.of elw,hno,_,rfl,_,rfl,sz 4,fun t2 nt2=>⟨sz 1,fun l3 nl3=>?_⟩⟩
  obtain ⟨a1,a2⟩:=cat_hold (s4 _ _ el2) nt2 nl3
  refine ⟨l2,l3,_,_,rfl,rfl,a1,a2,sz 3,fun l4 nl4=>?_⟩
  obtain ⟨s5,el4,C2⟩:=cat4 (C1.same s4) nt2 nl3 nl4
  replace C2:CodeAt _ _ ([.str "begin",.int many,.int gg]::tvs4 p mm 0 [.ld r,.ch no]):=C2
  generalize upd (upd (upd H4 t2 _) l3 _) l4 _=H5 at s5 el4 C2 ⊢
  exact ⟨mm,[.ld r,.ch no],l4,[t0,t1,t2],rfl,(s03.trans s4).trans s5,el4,C2,by omega,rfl,Nat.le_refl _,((Rd4.ld (sts:=[]) ⟨trivial,rfl,(fun st h=>by cases h)⟩ r01).ch no)⟩
 rintro σ J ⟨mm,sts,l,cs,rfl,sJ,el,CJ,m16,mk,s2',rd⟩
 clear C0 el0 s02 s2 e0 s1 nl0 nt0
 have hSJ:=zt hS sJ
 have cl:=code_len CJ
 refine ⟨_,rfl,_,rfl,_,rfl,_,rfl,_,rfl,a,ns,k,6,rows,rfl,hSJ,by omega,by omega,by decide,by decide,by omega,fun r0 _ r00 r01=>?_⟩
 obtain ⟨r,rfl⟩:∃ n:Nat,r0=n:=⟨r0.toNat,by omega⟩
 refine ⟨_,rfl,sz 4,fun t1 nt1=>⟨sz 1,fun l1 nl1=>?_⟩⟩
 obtain ⟨a1,a2⟩:=cat_hold el nt1 nl1
 refine ⟨l,l1,_,_,rfl,rfl,a1,a2,(by rw [List.length_map];show _+1<=_;omega),fun l2 nl2=>?_⟩
 obtain ⟨s3,el2,C1⟩:=cat4 CJ nt1 nl1 nl2
 rw [tv_snoc (m:=mm) (st:=.ld r) (by rw [mk];rfl)] at C1
 generalize upd (upd (upd J t1 _) l1 _) l2 _=J1 at s3 el2 C1 ⊢
 have rd1:=rd.ld r01
 have mk1:mask4 mm 0 (sts++[.ld r])=mm:=by rw [mask4_app,mk];rfl
 have sl1:(sts++[Sp4.ld r]).length<=3:=by rw [List.length_append];show _+1<=3;omega
 have sJ1:=sJ.trans s3
 clear a1 a2 CJ el hSJ sJ s3 nl2 nl1 nt1
 generalize sts++[Sp4.ld r]=sts at C1 rd1 mk1 sl1 ⊢
 generalize cs++[t1]=cs at el2 C1 ⊢
 let Mv2:St->Hp->Prop:=fun σ J=>∃ (sts:List Sp4) (l:Addr) (cs:List Addr),σ=[some (.ref a),some (.int k),some (.int rows),some (.int many),some (.int gg),some (.int (p:Int)),some (.int (mm:Int)),some (.ref l),none,none,none,none]/\Same H J/\J l=some (.lst (cs.map V.ref))/\CodeAt J cs ([.str "begin",.int many,.int gg]::tvs4 p mm 0 sts)/\mask4 mm 0 sts=mm/\sts.length<=4/\Rd4 rows sts true
 refine ⟨Mv2,?_,?_⟩
 ·have hS1:=zt hS sJ1
  refine ⟨_,rfl,_,rfl,a,ns,k,16,3,rfl,hS1,by omega,by omega,by decide,by decide,by decide,fun x _ x0 x1=>⟨rfl,_,rfl,?_⟩⟩
  refine ite2 (fun z=>?_) (fun z=>?_)
  rotate_left
  ·exact ⟨sts,l2,cs,rfl,sJ1,el2,C1,mk1,by omega,rd1⟩
  refine ⟨_,rfl,_,rfl,_,rfl,_,rfl,a,ns,k,17,41,rfl,hS1,by omega,by omega,by decide,by decide,by decide,fun n _ n0 n1=>?_⟩
  refine ⟨_,rfl,sz 4,fun t1 nt1=>⟨sz 1,fun l1 nl1=>?_⟩⟩
  obtain ⟨a1,a2⟩:=cat_hold el2 nt1 nl1
  have cl:=code_len C1
  refine ⟨l2,l1,_,_,rfl,rfl,a1,a2,(by rw [List.length_map];show _+1<=_;omega),fun l3 nl3=>?_⟩
  obtain ⟨s3,el3,C2⟩:=cat4 C1 nt1 nl1 nl3
  rw [tv_snoc (m:=mm) (st:=.rc n) (by rw [mk1];rfl)] at C2
  generalize upd (upd (upd J1 t1 _) l1 _) l3 _=J2 at s3 el3 C2 ⊢
  exact ⟨sts++[.rc n],l3,cs++[t1],rfl,sJ1.trans s3,el3,C2,by rw [mask4_app,mk1];rfl,by rw [List.length_append];show _+1<=4;omega,rd1.rc n⟩
 clear rd1 mk1 sl1 sJ1 C1 el2
 rintro σ J ⟨sts,l,cs,rfl,sJ,el,CJ,mk,sl4,rd⟩
 refine ⟨sz 9,fun fl nfl=>?_⟩
 have sF:Same J (upd J fl (.lst [.str "sum",.str "product",.str "least",.str "most",.str "both",.str "either",.str "odd",.str "chain",.str "capped"])):=zh (Same.refl _) nfl
 have efl:upd J fl (.lst [.str "sum",.str "product",.str "least",.str "most",.str "both",.str "either",.str "odd",.str "chain",.str "capped"]) fl=some (.lst (folds9.map V.str)):=zg
 generalize upd J fl (.lst [.str "sum",.str "product",.str "least",.str "most",.str "both",.str "either",.str "odd",.str "chain",.str "capped"])=J1 at sF efl ⊢
 refine ⟨_,rfl,_,rfl,a,ns,k,7,2,rfl,zt hS (sJ.trans sF),by omega,by omega,by decide,by decide,by decide,fun x _ x0 x1=>⟨_,_,rfl,rfl,_,rfl,by omega,by omega,?_⟩⟩
 let Pv3:Nat->St->Hp->Prop:=(fun j σ J2=>∃ (u9 u10 u11:Option V) (sts:List Sp4) (l:Addr) (cs:List Addr),σ=[some (.ref a),some (.int k),some (.int rows),some (.int many),some (.int gg),some (.int (p:Int)),some (.int (mm:Int)),some (.ref l),some (.ref fl),u9,u10,u11]/\Same J1 J2/\J2 l=some (.lst (cs.map V.ref))/\CodeAt J2 cs ([.str "begin",.int many,.int gg]::tvs4 p mm 0 sts)/\mask4 mm 0 sts=mm/\sts.length<=4+j/\Rd4 rows sts true)
 refine xT (n:=(1+x).toNat) Pv3 ⟨none,none,none,sts,l,cs,rfl,Same.refl _,sF _ _ el,CJ.same sF,mk,by omega,rd⟩ ?_ ?_
 ·clear el CJ mk sl4 rd
  rintro j σ J2 hj ⟨u9,u10,u11,sts,l,cs,rfl,s2,el,C,mk,sl,rd⟩
  have hS2:=zt hS ((sJ.trans sF).trans s2)
  refine ⟨sz 2,fun lw nlw=>?_⟩
  have s4:Same J2 (upd J2 lw (.lst [.str "fold",.str "running"])):=zh (Same.refl _) nlw
  have elw:upd J2 lw (.lst [.str "fold",.str "running"]) lw=some (.lst [.str "fold",.str "running"]):=zg
  generalize upd J2 lw (.lst [.str "fold",.str "running"])=J3 at s4 elw ⊢
  replace hS2:=zt hS2 s4
  refine ⟨_,rfl,_,rfl,_,rfl,_,_,rfl,rfl,a,ns,k,8+(0+(j:Int)),2,rfl,hS2,by omega,by omega,by omega,by omega,by decide,fun y _ y0 y1=>?_⟩
  obtain ⟨rn,hrn⟩:∃ rn,atI [V.str "fold",V.str "running"] y=some (.str (joWord rn)):=by
   have:y=0∨y=1:=by omega
   rcases this with rfl | rfl
   ·exact ⟨false,rfl⟩
   ·exact ⟨true,rfl⟩
  refine ⟨lw,_,_,_,rfl,rfl,SqL.of elw,hrn,?_⟩
  refine ⟨_,rfl,_,rfl,_,rfl,_,rfl,_,_,rfl,rfl,a,ns,k,10+(0+(j:Int)),9,rfl,hS2,by omega,by omega,by omega,by omega,by decide,fun y2 _ y20 y21=>?_⟩
  obtain ⟨f,hf,h9⟩:=fold9_at y20 y21
  refine ⟨fl,_,_,_,rfl,rfl,SqL.of (s4 _ _ (s2 _ _ efl)),hf,?_⟩
  refine ⟨_,rfl,_,rfl,_,rfl,_,rfl,_,rfl,_,_,rfl,rfl,_,rfl,a,ns,k,12+(0+(j:Int)),rows,rfl,hS2,by omega,by omega,by omega,by omega,by omega,fun r0 _ r00 r01=>?_⟩
  obtain ⟨r,rfl⟩:∃ n:Nat,r0=n:=⟨r0.toNat,by omega⟩
  refine ⟨_,rfl,_,rfl,_,rfl,sz 5,fun t1 nt1=>⟨sz 1,fun l1 nl1=>?_⟩⟩
  obtain ⟨a1,a2⟩:=cat_hold (s4 _ _ el) nt1 nl1
  have cl:=code_len C
  refine ⟨l,l1,_,_,rfl,rfl,a1,a2,(by rw [List.length_map];show _+1<=_;omega),fun l2 nl2=>?_⟩
  obtain ⟨s3,el2,C2⟩:=cat4 (C.same s4) nt1 nl1 nl2
  rw [tv_snoc (m:=mm) (st:=.jo rn r f) (by rw [mk];cases rn <;> rfl)] at C2
  generalize upd (upd (upd J3 t1 _) l1 _) l2 _=J4 at s3 el2 C2 ⊢
  exact ⟨_,_,_,sts++[.jo rn r f],l2,cs++[t1],rfl,(s2.trans s4).trans s3,el2,C2,by rw [mask4_app,mk];cases rn <;> rfl,by rw [List.length_append];show _+1<=_;omega,rd.jo r01 h9⟩
 clear el CJ mk sl4 rd
 rintro σ J2 ⟨u9,u10,u11,sts,l,cs,rfl,s2,el,C,mk,sl,rd⟩
 refine ⟨_,rfl,sz 1,fun t1 nt1=>⟨sz 1,fun l1 nl1=>?_⟩⟩
 obtain ⟨a1,a2⟩:=cat_hold el nt1 nl1
 have cl:=code_len C
 refine ⟨l,l1,_,_,rfl,rfl,a1,a2,(by rw [List.length_map];show _+1<=_;omega),fun l2 nl2=>?_⟩
 obtain ⟨s3,el2,C2⟩:=cat4 C nt1 nl1 nl2
 exact q _ l2 (cs++[t1]) p mm sts true (((sJ.trans sF).trans s2).trans s3) el2 C2 p8 m16 (by omega) rd
end
end K40
namespace K40
open PySem L2
theorem Ok.weak {P:Program} {w:World} {K:PySem.W.Frag} {mg:Str->Option Value} {base:Heap} {CX:CXT} {k:Nat} {x:Str} {ps:List Str} {sp sp':Sp} (o:Ok P w K mg base CX k x ps sp) (h:∀ vs H Q E,sp' vs H Q E->sp vs H Q E):Ok P w K mg base CX k x ps sp':=by
 obtain ⟨f,fd,a,b,c,d⟩:=o
 exact ⟨f,fd,a,b,c,fun vs H Q E z=>d.1 _ _ _ _ (h _ _ _ _ z),fun A outer s H args us vs Q E hr e0 hb r z=>d.2 A outer s H args us vs Q E hr e0 hb r (h _ _ _ _ z)⟩
theorem some_weak {K:PySem.W.Frag}:∀ vs H Q E,spSome K vs H Q E->spSome2 K vs H Q E:=by
 rintro vs H Q E ⟨a,ns,k,sa,m,e,h,h0,h1,h2,h3,h4,q⟩
 exact ⟨a,ns,k,sa,m,e,h,h0,h1,h2,h3,h4,fun r _=>q r⟩
theorem t_lt {T1 T i:Nat} {many b:Int} (h:(T1:Int)<=T+30*min many b) (h2:T<=3000*i) (h3:i<20) (h4:many<=60):T1<90000:=by omega
theorem t_le {a T1 T s w:Nat} {many b side:Int} (h:a<=T1+s) (h2:s<=6*(w+2)) (h3:(w:Int)=min many (b+side)-b) (h4:b<many) (h5:1<=side) (h6:(T1:Int)<=T+30*min many b):(a:Int)<=T+30*min many (b+side):=by omega
theorem cut_le {ns:List Int} {a b:Int}:(cutI ns a b).length<=ns.length:=by
 unfold cutI
 rw [List.length_take,List.length_drop]
 exact Nat.le_trans (Nat.min_le_right _ _) (Nat.sub_le _ _)
theorem run4_props {S:List Int} {pl A:Nat}:∀ (sts:List Sp4) (k:Nat) (t:T4),Kin4 t->(∀ st∈sts,∀ x r f,st=.jo x r f->Fd9 f)->t.act.length<=A->Kin4 (run4 S pl k sts t)/\(run4 S pl k sts t).s.1.length=t.s.1.length/\(run4 S pl k sts t).s.2.length<=t.s.2.length+sts.length*(A+2)
 | [],k,t,h,_,_=>⟨h,rfl,Nat.le_add_right _ _⟩
 | st::sts,k,t,h,f9,ha=>by
  obtain ⟨l1,l2,l3⟩:=go4_len S pl k st t
  obtain ⟨a,b,c⟩:=run4_props (S:=S) (pl:=pl) (A:=A) sts (k+1) (go4 S pl k st t) (go4_kin h (f9 st List.mem_cons_self)) (fun x hx=>f9 x (List.mem_cons_of_mem _ hx)) (by omega)
  refine ⟨a,b.trans l1,?_⟩
  rw [List.length_cons,Nat.add_mul]
  show (run4 S pl (k+1) sts (go4 S pl k st t)).s.2.length<=_
  generalize sts.length*(A+2)=x at *
  omega
theorem lay_int {n:Int} {xs:List PyData} (h2:PyData.canLayAll0 xs=true):PyData.canLayAll0 (.int n::xs)=true:=by
 simp only [PyData.canLayAll0,h2,Bool.and_true];rfl
theorem plain_jo {z f:Str} {a b c:Int} (h:PyData.canLay0 (.str z)=true) (h2:PyData.canLay0 (.str f)=true):Plain [.str z,.int a,.str f,.int b,.int c] :=
 ⟨[.str z,.int a,.str f,.int b,.int c],fun K H=>.cons (.str _) (.cons (.int _) (.cons (.str _) (.cons (.int _) (.cons (.int _) .nil)))),lay_str h (lay_int (lay_str h2 (Zb (ns:=[b,c])))),yD dep_str (yD dep_int (yD dep_str (yD dep_int (yD dep_int dep_nil))))⟩
theorem fd9_lay {f:Str} (h:Fd9 f):PyData.canLay0 (.str f)=true:=by
 rcases h with h | rfl | rfl
 ·simp only [xw,List.mem_cons,List.mem_nil_iff,or_false] at h
  rcases h with rfl | rfl | rfl | rfl | rfl | rfl | rfl <;> decide +kernel
 ·decide +kernel
 ·decide +kernel
theorem Sp4.plain (p mk m:Nat) (st:Sp4) (h:∀ x r f,st=.jo x r f->Fd9 f):Plain (st.tv p mk m):=by
 cases st with
 | ld r=>exact xG (ns:=[(p:Int),r,mk]) (by decide +kernel)
 | ch no =>
  cases no
  ·exact xG (z:="choose") (ns:=[(m:Int),p,mk]) (by decide +kernel)
  ·exact xG (z:="other") (ns:=[(m:Int),p,mk]) (by decide +kernel)
 | rc n=>exact xG (ns:=[(p:Int),n,mk]) (by decide +kernel)
 | jo x r f=>cases x <;> exact plain_jo (by decide +kernel) (fd9_lay (h _ _ _ rfl))
theorem tvs4_plain (p m:Nat):∀ (sts:List Sp4) (mk:Nat),(∀ st∈sts,∀ x r f,st=.jo x r f->Fd9 f)->∀ tv∈tvs4 p m mk sts,Plain tv
 | [],_,_,tv,h=>by cases h
 | st::sts,mk,f9,tv,h=>by
  rcases List.mem_cons.mp h with rfl | h
  ·exact st.plain p mk m (f9 st List.mem_cons_self)
  ·exact tvs4_plain p m sts _ (fun x hx=>f9 x (List.mem_cons_of_mem _ hx)) tv h
section
variable {P:Program} {w:World} {K:PySem.W.Frag} {mg:Str->Option Value} {base:Heap}
def spNumK (K:PySem.W.Frag):Sp:=fun vs H Q _=>∃ (a:Addr) (ns:List Int) (k:Int),vs=[.ref a,.int k]/\SqL K H a (ns.map V.int)/\0<=k/\k<=100000/\∀ r,Kin r->Q (.int r) H
theorem ok_numK (d:zn K mg "_law_number" xC ["_law_script","_law_k"]) (CA:Ok P w K mg base CX0 1 "_law_cell_at" ["_law_script","_law_k"] (spCA K)) (SM:Ok P w K mg base CX0 2 "_law_some" ["_law_script","_law_k","_law_salt","_law_many"] (spSome K)) :
  Ok P w K mg base CX0 3 "_law_number" ["_law_script","_law_k"] (spNumK K):=by
 obtain ⟨g,fd,m,F,b⟩:=d
 refine ⟨g,fd,m,F.kp,b,F.ok sc_l_number (by rintro vs H Q E ⟨_,_,_,rfl,_⟩;rfl) fun cdv A outer s H vs Q E hr h=>?_⟩
 obtain ⟨a,ns,i,rfl,hS,h0,h1,k⟩:=h
 have nd:=sc_l_number.nd
 have hr2:=hr
 have hr1:Room 1 _:=hr.mono (by decide)
 refine ⟨_,(zc (zu (i:=2) nd rfl (Or.inl rfl) (zi yU (zD CA hr1 (by rfl) zr (za (pv 0) (za (pv 1) zb))) ze))
   (zc (zV (zH yF (zD SM hr2 (by rfl) zr (za (pv 0) (za (pv 1) (za ze (za ze zb))))) ze (zL _)) (zf (zq (zi op_sub (zi yU (zi zF (pv 2) (zi ya ze (pv 1))) ze) ze))) zI)
   (zc (zu (i:=3) nd rfl (Or.inl rfl) (zi zF (zi ya (pv 2) ze) (zi ya (zi ya (pv 1) (pv 1)) ze)))
   (zf (zq (zi op_sub (zi yU (pv 3) ze) ze)))))),?_⟩
 refine ⟨_,rfl,_,rfl,a,ns,i,rfl,hS,h0,_,_,rfl,rfl,(by show (0:Int)<18446744073709551616;decide),?_⟩
 refine ⟨_,rfl,_,rfl,a,ns,i,9,2,rfl,hS,h0,h1,by decide,by decide,by decide,fun r r0 r1=>⟨rfl,_,rfl,?_⟩⟩
 refine ite2 (fun z=>?_) (fun z=>?_)
 ·exact ⟨_,rfl,_,rfl,_,_,rfl,rfl,.inl ⟨by decide,by decide⟩,_,_,rfl,rfl,_,_,rfl,rfl,(by show (0:Int)<41;decide),_,_,rfl,rfl,k _ (by unfold Kin;omega)⟩
 ·have c0:=Int.emod_nonneg (ns.getD i.toNat 0) (show (18446744073709551616:Int)≠0 by decide)
  have c1:=Int.emod_lt_of_pos (ns.getD i.toNat 0) (show (0:Int)<18446744073709551616 by decide)
  exact ⟨_,rfl,_,_,rfl,rfl,.inr ⟨by decide,by decide⟩,_,rfl,_,rfl,_,_,rfl,rfl,.inl ⟨by omega,by omega⟩,_,_,rfl,rfl,.inr ⟨by decide,by decide⟩,_,_,rfl,rfl,_,rfl,_,_,rfl,rfl,(by show (0:Int)<18446744073709551616;decide),_,_,rfl,rfl,k _ (by unfold Kin;omega)⟩
theorem num_weak {K:PySem.W.Frag}:∀ vs H Q E,spNumber K vs H Q E->spNumK K vs H Q E:=by
 rintro vs H Q E ⟨a,ns,k,e,h,h0,h1,q⟩
 exact ⟨a,ns,k,e,h,h0,h1,fun r _=>q r⟩
def redu (n:Int):Int:=n % (2*10 ^ 30)-10 ^ 30
def spLaw (K:PySem.W.Frag):Sp:=fun vs H Q _=>∃ (a:Addr) (ns:List Int),vs=[.ref a]/\SqL K H a (ns.map V.int)/\ns.length<=63/\∀ H',Q (.bl true) H'
theorem ok_law {c:MCs} {f:Addr} {fd:FuncData} (F:Fun K "law" "law" s_law f fd) (hlen:mg "len"=none) (hrg:mg "range"=none) (hlist:mg "list"=none) (hsum:mg "sum"=none) (hmin:mg "min"=none)
  (CA:Ok P w K mg base CX0 1 "_law_cell_at" ["_law_script","_law_k"] (spCA K)) (SM:Ok P w K mg base CX0 2 "_law_some" ["_law_script","_law_k","_law_salt","_law_many"] (spSome K)) (LA:Ok P w K mg base CX0 1 "_law_lanes" ["_law_cell"] spLanes) (GR:Ok P w K mg base CX0 3 "_law_group" ["_law_script","_law_k","_law_salt"] (spGroup K))
  (NB:Ok P w K mg base CX0 3 "_law_number" ["_law_script","_law_k"] (spNumK K)) (DU:Ok P w K mg base CX0 4 "_law_dust" ["_law_script","_law_k","_law_salt"] (spDust K))
  (RO:Ok P w K mg base CX0 3 "_law_round" ["_law_script","_law_k","_law_rows","_law_many","_law_group_here"] (spRd4 K)) (ST:Ok P w K mg base CX0 4 "_law_strip" ["_law_code","_law_opened","_law_base","_law_width","_law_starts","_law_carried","_law_due","_law_touches"] (spSt4 K))
  (AL:Ok P w K mg base CX0 5 "_law_alike" ["_law_found","_law_due"] (spAlike 3)) (RN:Ok P w K mg base CX0 11 "_law_ran" ["_law_code","_law_lengths","_law_cells","_law_lanes_here","_law_dust_here","_law_picks"] (spLRan c K Lx)) :
  FnOk P w K mg base CX0 12 f fd ["_law_script"] (spLaw K):=by
 refine F.ok sc_law (by rintro vs H Q E ⟨_,_,rfl,_⟩;rfl) fun cdv A outer s H vs Q E hr h=>?_
 obtain ⟨a,ns,rfl,hS,hn,k⟩:=h
 have nd:=sc_law.nd
 have hr1:Room 1 _:=hr.mono (by decide)
 have hr2:Room 2 _:=hr.mono (by decide)
 have hr3:Room 3 _:=hr.mono (by decide)
 have hr4:Room 4 _:=hr.mono (by decide)
 have hr5:Room 5 _:=hr.mono (by decide)
 have hr8:Room 11 _:=hr
 have SL:(200000:Nat)<sizeLine:=by decide
 refine ⟨_,(zc (zu (i:=1) nd rfl (Or.inl rfl) (zi zF ze (zD SM hr2 (by rfl) zr (za (pv 0) (za ze (za ze (za ze zb)))))))
   (zc (zu (i:=2) nd rfl (Or.inr rfl) (zi zF ze (zD SM hr2 (by rfl) zr (za (pv 0) (za ze (za ze (za ze zb)))))))
   (zc (ps_mid (zV (zH yF (zD SM hr2 (by rfl) zr (za (pv 0) (za ze (za ze (za ze zb))))) ze (zL _)) (zf (zu (i:=2) nd rfl (Or.inr rfl) (zi zF ze (zD SM hr2 (by rfl) zr (za (pv 0) (za ze (za ze (za ze zb)))))))) zI))
   (zc (zu (i:=3) nd rfl (Or.inr rfl) (pe_compC ["_law_k","_law_low","_law_script"] [none,some 2,some 0] rfl rfl rfl (yN rfl hrg (za (pv 1) zb)) (fun s3 H3 fp=>⟨zB (i:=0) (show ((["_law_k","_law_low","_law_script"]:List Str)).Nodup by decide +kernel) rfl (Or.inl rfl),(zi zF (pv 1) (zD SM hr2 (by rfl) zr (za (pv 2) (za (zi zF ze (pv 0)) (za ze (za ze zb))))))⟩)))
   (zc (xX (i:=5) ["_law_k","_law_lengths"] [none,some 3] rfl rfl rfl (yN rfl hrg (za (pv 1) zb)) (fun s3 H3 fp=>⟨zB (i:=0) (show ((["_law_k","_law_lengths"]:List Str)).Nodup by decide +kernel) rfl (Or.inl rfl),(zv (call_sumK (K:=K) rfl rfl) (by rfl) hsum PyProof.Rows.boot_sum (za (yT (sl_listK (K:=K) rfl) (pv 1) xJ (xg (pv 0))) zb))⟩) nd rfl (Or.inl rfl))
   (zc (xX (i:=6) ["_law_k","_law_script"] [none,some 0] rfl rfl rfl (yN rfl hrg (za (zv (call_sum rfl) (by rfl) hsum PyProof.Rows.boot_sum (za (pv 3) zb)) zb)) (fun s3 H3 fp=>⟨zB (i:=0) (show ((["_law_k","_law_script"]:List Str)).Nodup by decide +kernel) rfl (Or.inl rfl),(zi ya (zD NB hr3 (by rfl) zr (za (pv 1) (za (zi zF ze (pv 0)) zb))) (zi op_sub ze (zD SM hr2 (by rfl) zr (za (pv 1) (za (zi zF ze (pv 0)) (za ze (za ze zb)))))))⟩) nd rfl (Or.inl rfl))
   (zc (ps_mid (zu (i:=7) nd rfl (Or.inl rfl) (zD LA hr1 (by rfl) zr (za (zD CA hr1 (by rfl) zr (za (pv 0) (za ze zb))) zb))))
   (zc (xX (i:=8) ["_law_cell"] [none] rfl rfl rfl (xv (yT xu (pv 0) (xg ze) (xg (zi zF ze (zD SM hr2 (by rfl) zr (za (pv 0) (za ze (za ze (za ze zb))))))))) (fun s3 H3 fp=>⟨zB (i:=0) (show ((["_law_cell"]:List Str)).Nodup by decide +kernel) rfl (Or.inl rfl),(zi op_sub (zi yU (pv 0) (zi ya ze (zi op_pow ze ze))) (zi op_pow ze ze))⟩) nd rfl (Or.inl rfl))
   (zc (zu (i:=10) nd rfl (Or.inl rfl) (yw zb))
   (zc (zu (i:=11) nd rfl (Or.inl rfl) (ye zY (by rfl) hlist PyProof.Rows.boot_list (za (pv 6) zb)))
   (zc (ps_mid (zu (i:=12) nd rfl (Or.inl rfl) (yw zb)))
   (zc (xc PassesOwn.never rfl (pi_range2 rfl hrg (za ze (za (zv (xI rfl) (by rfl) hmin PyProof.Rows.boot_min (za (zv zG (by rfl) hlen PySem.boot_len (za (pv 0) zb)) (za ze zb))) zb))) (zB (i:=4) nd rfl (Or.inl rfl)) (zc (zu (i:=13) nd rfl (Or.inl rfl) (zD GR hr3 (by rfl) zr (za (pv 0) (za (pv 4) (za ze zb)))))
   (zc (zu (i:=14) nd rfl (Or.inl rfl) (zi zF ze (zD SM hr2 (by rfl) zr (za (pv 0) (za (pv 4) (za ze (za (pv 2) zb)))))))
   (zc (ps_mid (zu (i:=15) nd rfl (Or.inl rfl) (zD RO hr3 (by rfl) zr (za (pv 0) (za (pv 4) (za (pv 1) (za (pv 14) (za (pv 13) zb))))))))
   (zc (zu (i:=16) nd rfl (Or.inl rfl) (yw zb))
   (zc (xc PassesOwn.never rfl (pi_range3 rfl hrg (za ze (za (pv 14) (za (zi ya (pv 13) (pv 7)) zb)))) (zB (i:=17) nd rfl (Or.inl rfl)) (zc (zu (i:=18) nd rfl (Or.inl rfl) (zv (xI rfl) (by rfl) hmin PyProof.Rows.boot_min (za (zi op_sub (pv 14) (pv 17)) (za (zi ya (pv 13) (pv 7)) zb))))
   (zf (zQ (zD ST hr4 (by rfl) zr (za (pv 15) (za (zv zG (by rfl) hlen PySem.boot_len (za (pv 10) zb)) (za (pv 17) (za (pv 18) (za (pv 5) (za (pv 16) (za (pv 11) (za (pv 12) zb)))))))))))))
   (zf (zu (i:=10) nd rfl (Or.inl rfl) (zi op_cat (pv 10) (pv 15))))))))))
   (zf (zq (zD AL hr5 (by rfl) zr (za (zD RN hr8 (by rfl) zr (za (pv 10) (za (pv 3) (za (pv 6) (za (pv 7) (za (zD DU hr4 (by rfl) zr (za (pv 0) (za ze (za ze zb)))) (za (pv 8) zb))))))) (za (xi (za (pv 11) (za pe_non (za (pv 12) zb)))) zb))))))))))))))))),?_⟩
 dsimp only [yt,Cx.nox,Cx.wish]
 refine ⟨_,rfl,a,ns,0,1,4,rfl,hS,by decide,by decide,by decide,by decide,by decide,fun r0 r00 r01=>⟨_,_,rfl,rfl,?_⟩⟩
 show gName 1 (V.int (2+r0)) _ _ _
 obtain ⟨rows,hrows⟩:∃ n:Nat,2+r0=n:=⟨(2+r0).toNat,by omega⟩
 rw [hrows]
 have w1:2<=rows/\rows<=5:=by omega
 refine ⟨_,rfl,a,ns,0,2,12,rfl,hS,by decide,by decide,by decide,by decide,by decide,fun r1 r10 r11=>⟨_,_,rfl,rfl,?_⟩⟩
 let Mv1:St->Hp->Prop:=fun σ J=>∃ (low:Nat),σ=[some (.ref a),some (.int (rows:Int)),some (.int (low:Int)),none,none,none,none,none,none,none,none,none,none,none,none,none,none,none,none]/\J=H/\1<=low/\low<=60
 refine ⟨Mv1,?_,?_⟩
 ·refine ⟨_,rfl,a,ns,0,3,8,rfl,hS,by decide,by decide,by decide,by decide,by decide,fun r r0 r1'=>⟨rfl,_,rfl,?_⟩⟩
  refine ite2 (fun z=>?_) (fun z=>?_)
  ·refine ⟨_,rfl,a,ns,0,4,60,rfl,hS,by decide,by decide,by decide,by decide,by decide,fun r3 r30 r31=>⟨_,_,rfl,rfl,?_⟩⟩
   exact ⟨(1+r3).toNat,by rw [Int.toNat_of_nonneg (by omega)];rfl,rfl,by omega,by omega⟩
  ·exact ⟨(1+r1).toNat,by rw [Int.toNat_of_nonneg (by omega)];rfl,rfl,by omega,by omega⟩
 rintro σ J ⟨low,rfl,rfl,lo1,lo60⟩
 refine ⟨_,rfl,_,rfl,(by omega),(by omega),_,rfl,fun le nle=>?_⟩
 have h0:Hd J [(le,.lst (([]:List Int).map V.int))] (upd J le (.lst [])):=Hd.base.new nle
 generalize upd J le (.lst [])=H1 at h0 ⊢
 let Pv2:Nat->St->Hp->Prop:=(fun i σ J2=>∃ u lens,lens.length=i/\(∀ v∈lens,(low:Int)<=v/\v<=low+2)/\σ=[u,some (.int (low:Int)),some (.ref a)]/\Hd J [(le,.lst (List.map V.int lens))] J2)
 refine xj (n:=((rows:Nat):Int).toNat) Pv2 ⟨none,[],rfl,(fun v hv=>by cases hv),rfl,h0⟩ ?_ ?_
 ·clear h0
  rintro i σ J2 hi ⟨u,lens,ll,lv,rfl,h⟩
  refine ⟨_,rfl,_,rfl,_,rfl,_,_,rfl,rfl,a,ns,1+(0+(i:Int)),1,3,rfl,h.sql hS,by omega,by omega,by decide,by decide,by omega,fun r r00 r01=>⟨_,_,rfl,rfl,?_⟩⟩
  refine ⟨_,h.get 0 rfl,(by rw [List.length_map];omega),_,lens++[(low:Int)+r],(by rw [List.length_append,ll];rfl),(fun v hv=>?_),rfl,?_⟩
  ·rcases List.mem_append.mp hv with hv | hv
   ·exact lv v hv
   ·cases List.mem_singleton.mp hv;omega
  ·rw [List.map_append];exact h.put 0 rfl
 clear h0
 rintro σ H2 ⟨u,lens,ll,lv,rfl,hle⟩
 rw [Int.toNat_natCast] at ll
 have ele:=hle.get 0 rfl
 replace hS:=hle.sql hS
 clear hle
 have lsum:=sum_len (m:=62) (by omega) (fun v hv=>show 1<=v/\v<=62 by have:=lv v hv;omega)
 have lpos:∀ v∈lens,0<=v:=fun v hv=>by have:=lv v hv;omega
 have lsz:lens.sum<=310:=by
  have e1:(lens.length:Int)*62<=5*62:=Int.mul_le_mul_of_nonneg_right (by omega) (by omega)
  omega
 have lnn:0<=lens.sum:=by omega
 let sv:Nat->Int:=fun x=>(lens.take x).sum
 refine ⟨_,rfl,_,rfl,(by omega),(by omega),_,rfl,fun sl nsl=>?_⟩
 have h0:Hd H2 [(sl,.lst (((List.range 0).map sv).map V.int))] (upd H2 sl (.lst [])):=Hd.base.new nsl
 generalize upd H2 sl (.lst [])=H3 at h0 ⊢
 refine xj (n:=((rows:Nat):Int).toNat) (fun i σ J2=>∃ u,σ=[u,some (.ref le)]/\Hd H2 [(sl,.lst (((List.range i).map sv).map V.int))] J2) ⟨none,rfl,h0⟩ ?_ ?_
 ·clear h0
  rintro i σ J2 hi ⟨u,rfl,h⟩
  have et:(List.range (i+1)).map sv=(List.range i).map sv++[sv i]:=by rw [List.range_succ,List.map_append];rfl
  refine ⟨_,rfl,_,rfl,0+(i:Int),rfl,le,_,rfl,SqL.of (h.sm _ _ ele),fun l nl=>?_⟩
  rw [xU (by omega)]
  refine ⟨l,_,rfl,SqL.of zg,?_⟩
  have e9:(0+(i:Int)).toNat=i:=by omega
  rw [e9]
  replace h:=h.waste (o:=.lst ((lens.take (0+(i:Int)).toNat).map V.int)) nl
  rw [e9] at h
  generalize upd J2 l (.lst ((lens.take i).map V.int))=J3 at h ⊢
  refine ⟨_,h.get 0 rfl,(by rw [List.length_map,List.length_map,List.length_range];omega),_,rfl,?_⟩
  rw [et,List.map_append];exact h.put 0 rfl
 clear h0
 rintro σ H4 ⟨u,rfl,h⟩
 have esl:H4 sl=some (.lst ((zm lens).map V.int)):=by
  have:=h.get 0 rfl
  rw [Int.toNat_natCast,← ll] at this
  exact this
 replace ele:=h.sm _ _ ele
 replace hS:=h.sql hS
 clear h
 refine ⟨_,rfl,le,_,rfl,SqL.of ele,_,rfl,(by omega),(by omega),_,rfl,fun ce nce=>?_⟩
 have h0:Hd H4 [(ce,.lst (([]:List Int).map V.int))] (upd H4 ce (.lst [])):=Hd.base.new nce
 generalize upd H4 ce (.lst [])=H5 at h0 ⊢
 refine xj (n:=lens.sum.toNat) (fun i σ J2=>∃ u cells,cells.length=i/\(∀ v∈cells,Kin v)/\σ=[u,some (.ref a)]/\Hd H4 [(ce,.lst (List.map V.int cells))] J2) ⟨none,[],rfl,(fun v hv=>by cases hv),rfl,h0⟩ ?_ ?_
 ·clear h0
  rintro i σ J2 hi ⟨u,cells,lc,ck,rfl,h⟩
  refine ⟨_,rfl,_,rfl,_,_,rfl,rfl,a,ns,_,rfl,h.sql hS,(by show 0<=8+(0+(i:Int));omega),(by show 8+(0+(i:Int))<=100000;omega),fun v kv=>?_⟩
  refine ⟨_,rfl,_,rfl,_,_,rfl,rfl,a,ns,8+(0+(i:Int)),2,2,rfl,h.sql hS,by omega,by omega,by decide,by decide,by decide,fun x x0 x1=>?_⟩
  refine ⟨_,_,rfl,rfl,_,_,rfl,rfl,.inr ⟨by omega,by omega⟩,?_⟩
  refine ⟨_,h.get 0 rfl,(by rw [List.length_map];omega),_,cells++[v*(1-x)],(by rw [List.length_append,lc];rfl),(fun y hy=>?_),rfl,?_⟩
  ·rcases List.mem_append.mp hy with hy | hy
   ·exact ck y hy
   ·cases List.mem_singleton.mp hy
    have:x=0∨x=1:=by omega
    rcases this with rfl | rfl
    ·rw [show v*(1-0)=v by omega];exact kv
    ·rw [show v*(1-1)=0 by omega];unfold Kin;omega
  rw [List.map_append];exact h.put 0 rfl
 clear h0
 rintro σ H6 ⟨u,cells,lc,ck,rfl,h⟩
 have ece:=h.get 0 rfl
 replace ele:=h.sm _ _ ele
 replace esl:=h.sm _ _ esl
 replace hS:=h.sql hS
 clear h
 let Mv3:St->Hp->Prop:=fun σ J=>∃ Ln:Nat,σ=[some (.ref a),some (.int (rows:Int)),some (.int (low:Int)),some (.ref le),none,some (.ref sl),some (.ref ce),some (.int (Ln:Int)),none,none,none,none,none,none,none,none,none,none,none]/\J=H6/\1<=Ln/\Ln<=64
 refine ⟨Mv3,?_,?_⟩
 ·refine ⟨_,rfl,a,ns,1,rfl,hS,by decide,_,rfl,fun L b1' b2'=>?_⟩
  obtain ⟨Ln,rfl⟩:∃ n:Nat,L=n:=⟨L.toNat,by omega⟩
  exact ⟨Ln,rfl,rfl,by omega,by omega⟩
 rintro σ J ⟨Ln,rfl,rfl,L1,L64⟩
 refine ⟨_,rfl,2,rfl,_,rfl,a,ns,2,2,7,rfl,hS,by decide,by decide,by decide,by decide,by decide,fun r2 q0 q1=>⟨_,_,rfl,rfl,_,rfl,a,_,rfl,hS,fun S nS=>⟨S,rfl,⟨_,SqL.of zg⟩,_,rfl,fun D nD=>?_⟩⟩⟩
 rw [cutV_int (by decide) (by omega)] at nD ⊢
 have cll:(cutI ns 2 (2+r2)).length<=63:=Nat.le_trans cut_le hn
 generalize cutI ns 2 (2+r2)=cs at cll nD ⊢
 refine comp_list (K:=K) (a:=S) (D:=D) (xs:=cs.map V.int) (fun i σ J2=>∃ u,σ=[u]/\Hd J [(D,.lst (((cs.take i).map redu).map V.int)),(S,.lst (cs.map V.int))] J2) ⟨none,rfl,(Hd.base.new nS).new nD⟩ (fun i σ J2 _ ⟨_,_,h⟩=>h.lst 1 rfl) ?_ ?_
 ·rintro i x σ J2 hi ⟨u,rfl,h⟩
  obtain ⟨hlt,rfl⟩:=map_int_at hi
  refine ⟨_,rfl,_,_,rfl,rfl,⟨by decide,by decide,by decide⟩,_,_,rfl,rfl,.inl ⟨by decide,by decide⟩,_,_,rfl,rfl,(by show (0:Int)<2*10 ^ 30;decide),_,_,rfl,rfl,⟨by decide,by decide,by decide⟩,_,_,rfl,rfl,_,h.get 0 rfl,?_,some (.int (cs.getD i 0)),rfl,?_⟩
  ·rw [List.length_map,List.length_map,List.length_take];omega
  ·rw [take_snoc hlt,List.map_append,List.map_append]
   exact h.put 0 rfl
 rintro σ H7 ⟨u,rfl,h⟩
 rw [List.length_map,List.take_length] at h
 have epk:=h.get 0 rfl
 generalize cs.map redu=picks at epk
 replace ele:=h.sm _ _ ele
 replace esl:=h.sm _ _ esl
 replace ece:=h.sm _ _ ece
 replace hS:=h.sql hS
 clear h nD nS
 refine ⟨sz 0,fun cd ncd=>?_⟩
 have ecd:upd H7 cd (.lst []) cd=some (.lst (([]:List Addr).map V.ref)):=zg
 have s6:Same H7 (upd H7 cd (.lst [])):=zh (Same.refl _) ncd
 generalize upd H7 cd (.lst [])=H8 at ecd s6 ⊢
 replace hS:=zt hS s6
 replace ele:=s6 _ _ ele
 replace esl:=s6 _ _ esl
 replace ece:=s6 _ _ ece
 replace epk:=s6 _ _ epk
 clear s6
 refine ⟨_,rfl,ce,_,rfl,.inl (SqL.of ece),fun dd ndd=>?_⟩
 have hB1:Hd H8 [(dd,.lst (cells.map V.int))] (upd H8 dd (.lst (cells.map V.int))):=Hd.base.new ndd
 generalize upd H8 dd (.lst (cells.map V.int))=H9 at hB1 ⊢
 refine ⟨fun σ J=>∃ tt,σ=[some (.ref a),some (.int (rows:Int)),some (.int (low:Int)),some (.ref le),none,some (.ref sl),some (.ref ce),some (.int (Ln:Int)),some (.ref D),none,some (.ref cd),some (.ref dd),some (.ref tt),none,none,none,none,none,none]/\Hd H8 [(dd,.lst (cells.map V.int)),(tt,.lst (([]:List Addr).map V.ref))] J,⟨sz 0,fun tt ntt=>⟨tt,rfl,hB1.fnew ntt⟩⟩,?_⟩
 rintro σ J0 ⟨tt,rfl,hB2⟩
 clear hB1 ndd
 have hn8:(ns.map V.int).length=ns.length:=List.length_map ..
 refine ⟨_,rfl,a,_,rfl,.inl (hB2.sql hS),_,_,rfl,8,_,rfl,⟨by decide,by decide,by split <;> omega,by split <;> omega⟩,?_⟩
 generalize hnr:((if 28<((ns.map V.int).length:Int) then 28 else ((ns.map V.int).length:Int))-8).toNat=nr
 have nrb:nr<=20:=by subst hnr;split <;> omega
 let Pv4:Nat->St->Hp->Prop:=(fun i σ J=>∃ (u4 u13 u14 u15 u16 u17 u18:Option V) (B1:Hp) (cd1:Addr) (cs ts:List Addr) (code:List (List V)) (ds:List Int) (T:List Tch),σ=[some (.ref a),some (.int (rows:Int)),some (.int (low:Int)),some (.ref le),u4,some (.ref sl),some (.ref ce),some (.int (Ln:Int)),some (.ref D),none,some (.ref cd1),some (.ref dd),some (.ref tt),u13,u14,u15,u16,u17,u18]/\Same H8 B1/\Hd B1 [(dd,.lst (ds.map V.int)),(tt,.lst (ts.map V.ref))] J/\B1 cd1=some (.lst (cs.map V.ref))/\CodeAt B1 cs code/\TAt B1 ts T/\(∀ tv∈code,Plain tv)/\code.length<=8*i/\ds.length=cells.length/\(∀ v∈ds,Kin v)/\T.length<=3000*i/\(∀ dus,∃ kk M,Steps Lx code kk (Mc.fresh lens cells Ln dus picks) M/\RestAt (zm lens) lens Ln code.length (ds,T) M))
 refine xT (n:=nr) Pv4
  ⟨none,none,none,none,none,none,none,H8,cd,[],[],[],cells,[],rfl,Same.refl _,hB2,ecd,⟨rfl,fun i b t x=>by cases x⟩,⟨rfl,fun i b t x=>by cases x⟩,(fun tv ht=>by cases ht),Nat.zero_le _,rfl,ck,Nat.zero_le _,fun dus=>⟨0,_,.refl,⟨by show 1<=Ln;omega,by show Ln<=64;omega,List.length_replicate,List.length_replicate,fun m hm=>by rw [List.eq_of_mem_replicate hm];exact List.length_replicate⟩,rfl,rfl,rfl,rfl,rfl,rfl,rfl⟩⟩ ?_ ?_
 ·clear hB2
  rintro i σ J1 hi ⟨u4,u13,u14,u15,u16,u17,u18,B1,cd1,cs,ts,code,ds,T,rfl,sB1,hD,ecd1,CAt,ta,hpl,hcl,hdl,hdk,hTl,st⟩
  refine ⟨_,rfl,_,rfl,a,ns,8+(i:Int),15,rfl,hD.sql (zt hS sB1),by omega,by omega,by decide,by decide,fun gg J2 sJ2 hg=>?_⟩
  obtain ⟨B2,sB2,hD2,_⟩:=hD.over sJ2
  have s82:=sB1.trans sB2
  replace ta:=ta.same sB2
  replace CAt:=CAt.same sB2
  replace ecd1:=sB2 _ _ ecd1
  clear hD sB2 sB1 sJ2
  refine ⟨_,rfl,_,rfl,_,rfl,a,ns,8+(i:Int),14,low,rfl,hD2.sql (zt hS s82),by omega,by omega,by decide,by decide,by omega,fun r14 r140 r141=>⟨_,_,rfl,rfl,?_⟩⟩
  show gName 14 (V.int (1+r14)) _ _ _
  have mb:1<=1+r14/\1+r14<=low:=by omega
  generalize 1+r14=many at mb ⊢
  let Mv5:St->Hp->Prop:=fun σ J=>∃ (l:Addr) (os:List Addr) (p m:Nat) (sts:List Sp4) (fr:Bool) (B3:Hp),σ=[some (.ref a),some (.int (rows:Int)),some (.int (low:Int)),some (.ref le),some (.int (8+(i:Int))),some (.ref sl),some (.ref ce),some (.int (Ln:Int)),some (.ref D),none,some (.ref cd1),some (.ref dd),some (.ref tt),some (.int gg),some (.int many),some (.ref l),u16,u17,u18]/\Same B2 B3/\Hd B3 [(dd,.lst (ds.map V.int)),(tt,.lst (ts.map V.ref))] J/\B3 l=some (.lst (os.map V.ref))/\CodeAt B3 os ([.str "begin",.int many,.int gg]::(tvs4 p m 0 sts++[[.str "next"]]))/\((p:Int)+1)*gg<=8/\m<16/\sts.length<=6/\Rd4 rows sts fr
  refine ⟨Mv5,?_,?_⟩
  ·refine ⟨_,rfl,_,rfl,_,rfl,_,rfl,_,rfl,a,ns,8+(i:Int),rows,many,gg,rfl,hD2.sql (zt hS s82),by omega,by omega,by omega,hg,fun J3 l os p m sts fr s2 el CO p8 m16 s6 rd=>?_⟩
   obtain ⟨o0,ho0⟩:∃ o0,os[0]?=some o0:=⟨os[0]'(by rw [CO.n];exact Nat.succ_pos _),List.getElem?_eq_getElem _⟩
   have eo0:=CO.t 0 o0 _ ho0 rfl
   obtain ⟨B3,sB3,hD3,new3⟩:=hD2.over s2
   have out:∀ x o,J3 x=some o->(∀ zs,o=.lst zs->zs=os.map V.ref)->x ∉ [(dd,HO.lst (ds.map V.int)),(tt,HO.lst (ts.map V.ref))].map Prod.fst:=fun x o e hz m=>by
    rcases List.mem_cons.mp m with m | m
    ·have m:x=dd:=m
     subst m
     have:=s2 _ _ (hD2.get 0 rfl)
     rw [this] at e;cases e
     have:=hz _ rfl
     have e0:(os.map V.ref)[0]?=some (.ref o0):=by rw [List.getElem?_map,ho0];rfl
     rw [← this,List.getElem?_map] at e0
     cases hd:ds[0]? with
     | none=>rw [hd] at e0;cases e0
     | some v=>rw [hd] at e0;cases e0
    ·have m:x=tt:=List.mem_singleton.mp m
     subst m
     have:=s2 _ _ (hD2.get 1 rfl)
     rw [this] at e;cases e
     have:=hz _ rfl
     have e0:(os.map V.ref)[0]?=some (.ref o0):=by rw [List.getElem?_map,ho0];rfl
     rw [← this,List.getElem?_map] at e0
     cases hd:ts[0]? with
     | none=>rw [hd] at e0;cases e0
     | some v =>
      rw [hd] at e0;cases e0
      have tl:0<T.length:=by rw [← ta.n];exact (List.getElem?_eq_some_iff.mp hd).1
      have e1:=s2 _ _ (hD2.sm _ _ (ta.t 0 _ T[0] hd (List.getElem?_eq_getElem tl)))
      rw [eo0] at e1
      cases e1
   exact ⟨l,os,p,m,sts,fr,B3,rfl,sB3,hD3,new3 _ _ el (out _ _ el fun zs e=>by cases e;rfl),⟨CO.n,fun t b tv x y=>new3 _ _ (CO.t t b tv x y) (out _ _ (CO.t t b tv x y) fun zs e=>by cases e)⟩,p8,m16,s6,rd⟩
  rintro σ J3 ⟨l,os,p,m,sts,fr,B3,rfl,sB3,hD3,el,CO,p8,m16,s6,rd⟩
  have s83:=s82.trans sB3
  replace ta:=ta.same sB3
  replace CAt:=CAt.same sB3
  replace ecd1:=sB3 _ _ ecd1
  clear hD2 sB3 s82
  refine ⟨sz 0,fun ca nca=>?_⟩
  have hD4:Hd B3 [(ca,.lst (cl none)),(dd,.lst (ds.map V.int)),(tt,.lst (ts.map V.ref))] _:=hD3.new (o:=.lst []) nca
  generalize upd J3 ca (.lst [])=J4 at hD4 ⊢
  clear hD3 nca
  have gG:-(2 ^ 64:Int)<gg/\gg<2 ^ 64:=by rcases hg with e | e | e <;> rw [e] <;> decide
  have gb:1<=gg*(Ln:Int)/\gg*(Ln:Int)<=256:=by rcases hg with e | e | e <;> rw [e] <;> omega
  obtain ⟨N,eN,hN⟩:=size_iff mb.1 gb.1
  have dl:(ds.length:Int)=lens.sum:=by rw [hdl,lc];exact Int.toNat_of_nonneg lnn
  have rw4:Row4 (zm lens) many ds.length sts:=fun x hx=>⟨fun r hr=>by
   have h1:=(rd.r x hx).1 r hr
   have h2:=row_room (m:=many) lpos (show r<lens.length by omega) (by have:=lv _ (L2.getD_mem (show r<lens.length by omega));omega)
   rw [starts_len,starts_at (by omega)]
   omega,(rd.r x hx).2⟩
  have f9:∀ x∈sts,∀ y r f,x=.jo y r f->Fd9 f:=fun x hx=>(rd.r x hx).2
  let U:Nat->DC:=upC (one4 (zm lens) code.length sts many (gg*(Ln:Int))) (gg*(Ln:Int)) ((ds,T),none)
  have ncs:((cs.map V.ref).length:Int)=(code.length:Nat):=by rw [List.length_map,CAt.n]
  refine ⟨_,rfl,_,rfl,_,rfl,_,_,rfl,rfl,.inl gG,0,many,gg*(Ln:Int),N,rfl,⟨by decide,by decide,by omega,by omega,by omega,by omega⟩,eN,?_⟩
  refine for_step (n:=N) (fun j σ J=>∃ (u17 u18:Option V) (B5:Hp) (ts5:List Addr),σ=[some (.ref a),some (.int (rows:Int)),some (.int (low:Int)),some (.ref le),some (.int (8+(i:Int))),some (.ref sl),some (.ref ce),some (.int (Ln:Int)),some (.ref D),none,some (.ref cd1),some (.ref dd),some (.ref tt),some (.int gg),some (.int many),some (.ref l),some (.ref ca),u17,u18]/\Same B3 B5/\Hd B5 [(ca,.lst (cl (U j).2)),(dd,.lst ((U j).1.1.map V.int)),(tt,.lst (ts5.map V.ref))] J/\TAt B5 ts5 (U j).1.2/\(∀ v∈(U j).1.1,Kin v)/\(∀ v,(U j).2=some v->Kin v)/\(U j).1.1.length=ds.length/\((U j).1.2.length:Int)<=T.length+30*min many (j*(gg*(Ln:Int)))) ⟨_,_,B3,ts,rfl,Same.refl _,hD4,ta,hdk,(fun v e=>by cases e),rfl,(by show (T.length:Int)<=_;rw [show ((0:Nat):Int)*(gg*Ln)=0 by omega];omega)⟩ ?_ ?_
  ·clear hD4
   rintro j σ J hj ⟨u17,u18,B5,ts5,rfl,sB5,hD5,ta5,uk,uc,ul1,ul2⟩
   have hjb:=(hN j).mp hj
   have jb0:(0:Int)<=j*(gg*Ln):=Int.mul_nonneg (by omega) (by omega)
   have sc:((j+1:Nat):Int)*(gg*Ln)=j*(gg*Ln)+gg*Ln:=by rw [Int.natCast_add,Int.add_mul];show _+1*(gg*(Ln:Int))=_;rw [Int.one_mul]
   have eU:U (j+1)=one4 (zm lens) code.length sts many (gg*(Ln:Int)) (j*(gg*Ln)) (U j):=upC_succ _ _ _ _
   rw [eU,sc,Int.zero_add]
   generalize U j=S1 at *
   obtain ⟨⟨d1,T1⟩,c1⟩:=S1
   generalize (j:Int)*(gg*Ln)=b at *
   replace uk:∀ v∈d1,Kin v:=uk
   replace uc:∀ v,c1=some v->Kin v:=uc
   replace ul1:d1.length=ds.length:=ul1
   replace ul2:(T1.length:Int)<=T.length+30*min many b:=ul2
   have wb:(wid many (gg*Ln) b:Int)=min many (b+gg*Ln)-b:=by unfold wid;omega
   have wn':(if gg*(Ln:Int)<many-b then gg*(Ln:Int) else many-b)=(wid many (gg*Ln) b:Nat):=by split <;> omega
   have eln:=elems_len many (gg*Ln) b
   obtain ⟨k1,k2,k3⟩:=run4_props (S:=zm lens) (pl:=code.length) (A:=wid many (gg*Ln) b) sts 1 ⟨elems many (gg*Ln) b,[],c1,(d1,T1)⟩ ⟨uk,(fun v hv=>by cases hv),uc⟩ f9 (Nat.le_of_eq eln)
   have mul:sts.length*(wid many (gg*Ln) b+2)<=6*(wid many (gg*Ln) b+2):=Nat.mul_le_mul_right _ s6
   refine ⟨_,rfl,_,rfl,_,_,rfl,rfl,_,rfl,_,rfl,_,_,rfl,rfl,.inl gG,_,_,rfl,?_⟩
   rw [wn']
   refine ⟨_,rfl,_,rfl,cd1,_,rfl,.inl (SqL.of (hD5.sm _ _ (sB5 _ _ ecd1))),?_⟩
   rw [ncs]
   refine ⟨_,rfl,_,rfl,_,rfl,_,rfl,_,rfl,_,rfl,B5,l,sl,ca,dd,tt,os,ts5,zm lens,d1,T1,c1,code.length,p,m,sts,_,_,many,gg*(Ln:Int),b,rfl,hD5,SqL.of (sB5 _ _ el),CO.same sB5,SqL.of (sB5 _ _ (s83 _ _ esl)),ta5,jb0,hjb,by omega,by omega,rd.f,(by rw [ul1];exact rw4),uk,uc,t_lt ul2 hTl (by omega) (by omega),by omega,fun B6 J6 ts6 s6' hD6 ta6=>?_⟩
   refine ⟨_,_,B6,ts6,rfl,sB5.trans s6',hD6,ta6,k1.d,k1.c,k2.trans ul1,?_⟩
   replace k3:(one4 (zm lens) code.length sts many (gg*(Ln:Int)) b ((d1,T1),c1)).1.2.length<=T1.length+sts.length*(wid many (gg*Ln) b+2):=k3
   exact t_le k3 mul wb hjb gb.1 ul2
  ·clear hD4
   rintro σ J ⟨u17,u18,B5,ts5,rfl,sB5,hD5,ta5,uk,uc,ul1,ul2⟩
   replace hD5:=hD5.tl
   have ncl:os.length=sts.length+2:=by rw [CO.n,List.length_cons,List.length_append,xV];rfl
   have lcs:cs.length<=200:=by rw [CAt.n];omega
   refine ⟨_,rfl,_,rfl,cd1,l,_,_,rfl,rfl,hD5.sm _ _ (sB5 _ _ ecd1),hD5.sm _ _ (sB5 _ _ el),(by rw [List.length_map,List.length_map];omega),fun p2 np2=>?_⟩
   rw [← List.map_append]
   have S4:Same B5 (upd B5 p2 (.lst ((cs++os).map V.ref))):=zh (Same.refl _) (hD5.free np2)
   have ep2:upd B5 p2 (.lst ((cs++os).map V.ref)) p2=_:=zg
   have hD6:=hD5.grow (o:=.lst ((cs++os).map V.ref)) np2
   generalize upd B5 p2 (.lst ((cs++os).map V.ref))=B6 at S4 ep2 hD6
   have s36:Same B3 B6:=sB5.trans S4
   let one:List (List V):=[.str "begin",.int many,.int gg]::(tvs4 p m 0 sts++[[.str "next"]])
   have ol':one.length=sts.length+2:=by show (tvs4 p m 0 sts++[[V.str "next"]]).length+1=_;rw [List.length_append,xV];rfl
   have gt:∀ t:Nat,(code++one)[code.length+t]?=one[t]?:=fun t=>by rw [List.getElem?_append_right (by omega)];congr 1;omega
   have CA4:CodeAt B6 (cs++os) (code++one):=code_app (CAt.same s36) (CO.same s36)
   refine ⟨_,_,_,_,_,_,_,B6,p2,cs++os,ts5,code++one,(U N).1.1,(U N).1.2,rfl,s83.trans s36,hD6,ep2,CA4,ta5.same S4,fun tv htv=>?_,?_,ul1.trans hdl,uk,?_,fun dus=>?_⟩
   ·rcases List.mem_append.mp htv with htv | htv
    ·exact hpl tv htv
    ·rcases List.mem_cons.mp htv with rfl | htv
     ·exact xG (ns:=[many,gg]) (by decide +kernel)
     ·rcases List.mem_append.mp htv with htv | htv
      ·exact tvs4_plain p m sts 0 f9 tv htv
      ·cases List.mem_singleton.mp htv
       exact xG (ns:=[]) (by decide +kernel)
   ·rw [List.length_append,ol'];omega
   ·omega
   ·obtain ⟨kk,M,st1,rs⟩:=st dus
    obtain ⟨k2,M2,st2,rs2,_,_,_⟩:=round4 (code:=code++one) (p:=p) (m:=m) (sts:=sts) (N:=N) rs hg mb.1 (by omega) p8 m16 (by omega) rd.f rw4 hdk (by show T.length<80000;omega) hN (gt 0) (fun t tv ht=>by
      rw [Nat.add_assoc,Nat.add_comm 1 t,gt]
      show (tvs4 p m 0 sts++[[V.str "next"]])[t]?=_
      rw [List.getElem?_append_left (List.getElem?_eq_some_iff.mp ht).1];exact ht) (by
      rw [gt]
      show (tvs4 p m 0 sts++[[V.str "next"]])[sts.length]?=_
      rw [List.getElem?_append_right (by rw [xV];exact Nat.le_refl _),xV,Nat.sub_self];rfl)
    refine ⟨kk+k2,M2,(st1.more one).trans st2,?_⟩
    rw [List.length_append,ol']
    exact rs2
 ·clear hB2
  rintro σ J1 ⟨u4,u13,u14,u15,u16,u17,u18,B1,cd1,cs,ts,code,ds,T,rfl,sB1,hD,ecd1,CAt,ta,hpl,hcl,hdl,hdk,hTl,st⟩
  have sJ:Same H8 J1:=sB1.trans hD.sm
  refine ⟨_,rfl,_,rfl,_,rfl,_,rfl,_,rfl,a,ns,3,5,rfl,zt hS sJ,by decide,by decide,by decide,by decide,fun J2 du dus ld hdu=>?_⟩
  have sJ2:Same J1 J2:=hdu.sm
  obtain ⟨kk,M,st1,rs⟩:=st dus
  have s82:Same H8 J2:=sJ.trans sJ2
  refine ⟨_,rfl,cd1,le,ce,du,D,cs,code,lens,cells,dus,picks,Ln,kk,M,rfl,SqL.of (sJ2 _ _ (hD.sm _ _ ecd1)),CAt.same (hD.sm.trans sJ2),hpl,SqL.of (s82 _ _ ele),SqL.of (s82 _ _ ece),SqL.of (hdu.get 0 rfl),SqL.of (s82 _ _ epk),by omega,by omega,by omega,by omega,st1.run (.inl (by rw [rs.pc];exact Int.le_refl _)),fun B9 A9 H9 t s9 m9 et=>?_⟩
  refine ⟨_,rfl,_,rfl,(sz 3),fun t2 nt2=>?_⟩
  have m10:=m9.grow (o:=.tup [.ref dd,.non,.ref tt]) nt2
  have s10:Same B9 (upd B9 t2 (.tup [.ref dd,.non,.ref tt])):=zh (Same.refl _) (m9.h.free nt2)
  have et2:upd B9 t2 (.tup [.ref dd,.non,.ref tt]) t2=some (.tup [.ref dd,.non,.ref tt]):=zg
  generalize upd B9 t2 (.tup [.ref dd,.non,.ref tt])=B10 at m10 s10 et2
  generalize upd H9 t2 (.tup [.ref dd,.non,.ref tt])=H10 at m10 ⊢
  have sG:Same J1 H10:=((sJ2.trans s9).trans s10).trans m10.h.sm
  exact ⟨_,_,rfl,lk_told m10 (m10.h.sm _ _ (s10 _ _ et)) (m10.h.sm _ _ et2) rs.rf rs.cells rs.touches (sG _ _ (hD.get 0 rfl)) (sG _ _ (hD.get 1 rfl)) (ta.same (hD.sm.trans sG)),fun H11 s11=>k _⟩
end
end K40
namespace K40
open PySem L2
theorem uc {n:Nat}:∀ {us:List Value},us.length=n+1->∃ a r,us=a::r/\r.length=n
 | a::r,h=>⟨a,r,rfl,Nat.succ.inj h⟩
theorem us1 {p:List Value->Prop} (h:∀ a0,p [a0]):∀ us:List Value,us.length=1->p us:=by
 intro us e
 obtain ⟨a0,u0,rfl,e0⟩:=uc e
 cases List.eq_nil_of_length_eq_zero e0
 exact h _
theorem us2 {p:List Value->Prop} (h:∀ a0 a1,p [a0,a1]):∀ us:List Value,us.length=2->p us:=by
 intro us e
 obtain ⟨a0,u0,rfl,e0⟩:=uc e
 obtain ⟨a1,u1,rfl,e1⟩:=uc e0
 cases List.eq_nil_of_length_eq_zero e1
 exact h _ _
theorem us3 {p:List Value->Prop} (h:∀ a0 a1 a2,p [a0,a1,a2]):∀ us:List Value,us.length=3->p us:=by
 intro us e
 obtain ⟨a0,u0,rfl,e0⟩:=uc e
 obtain ⟨a1,u1,rfl,e1⟩:=uc e0
 obtain ⟨a2,u2,rfl,e2⟩:=uc e1
 cases List.eq_nil_of_length_eq_zero e2
 exact h _ _ _
theorem us4 {p:List Value->Prop} (h:∀ a0 a1 a2 a3,p [a0,a1,a2,a3]):∀ us:List Value,us.length=4->p us:=by
 intro us e
 obtain ⟨a0,u0,rfl,e0⟩:=uc e
 obtain ⟨a1,u1,rfl,e1⟩:=uc e0
 obtain ⟨a2,u2,rfl,e2⟩:=uc e1
 obtain ⟨a3,u3,rfl,e3⟩:=uc e2
 cases List.eq_nil_of_length_eq_zero e3
 exact h _ _ _ _
theorem us5 {p:List Value->Prop} (h:∀ a0 a1 a2 a3 a4,p [a0,a1,a2,a3,a4]):∀ us:List Value,us.length=5->p us:=by
 intro us e
 obtain ⟨a0,u0,rfl,e0⟩:=uc e
 obtain ⟨a1,u1,rfl,e1⟩:=uc e0
 obtain ⟨a2,u2,rfl,e2⟩:=uc e1
 obtain ⟨a3,u3,rfl,e3⟩:=uc e2
 obtain ⟨a4,u4,rfl,e4⟩:=uc e3
 cases List.eq_nil_of_length_eq_zero e4
 exact h _ _ _ _ _
theorem us6 {p:List Value->Prop} (h:∀ a0 a1 a2 a3 a4 a5,p [a0,a1,a2,a3,a4,a5]):∀ us:List Value,us.length=6->p us:=by
 intro us e
 obtain ⟨a0,u0,rfl,e0⟩:=uc e
 obtain ⟨a1,u1,rfl,e1⟩:=uc e0
 obtain ⟨a2,u2,rfl,e2⟩:=uc e1
 obtain ⟨a3,u3,rfl,e3⟩:=uc e2
 obtain ⟨a4,u4,rfl,e4⟩:=uc e3
 obtain ⟨a5,u5,rfl,e5⟩:=uc e4
 cases List.eq_nil_of_length_eq_zero e5
 exact h _ _ _ _ _ _
theorem us8 {p:List Value->Prop} (h:∀ a0 a1 a2 a3 a4 a5 a6 a7,p [a0,a1,a2,a3,a4,a5,a6,a7]):∀ us:List Value,us.length=8->p us:=by
 intro us e
 obtain ⟨a0,u0,rfl,e0⟩:=uc e
 obtain ⟨a1,u1,rfl,e1⟩:=uc e0
 obtain ⟨a2,u2,rfl,e2⟩:=uc e1
 obtain ⟨a3,u3,rfl,e3⟩:=uc e2
 obtain ⟨a4,u4,rfl,e4⟩:=uc e3
 obtain ⟨a5,u5,rfl,e5⟩:=uc e4
 obtain ⟨a6,u6,rfl,e6⟩:=uc e5
 obtain ⟨a7,u7,rfl,e7⟩:=uc e6
 cases List.eq_nil_of_length_eq_zero e7
 exact h _ _ _ _ _ _ _ _
theorem all_mk {l:PySem.W.OpenLaw} {w:World} {K:PySem.W.Frag} {h:Heap} {mg:Str->Option Value} {fa f_1q f_t f_1m f_1r f_1a f_p f_g f_h f_i f_k f_j f_o f_s f_q f_l f_m f_1j f_18 f_1e f_1i f_n f_1g f_1o f_1p f_1k f_r f_1f f_1b f_19 f_1l f_1d f_1h f_1c f_1n f_v f_15 f_12 f_u f_11 f_x f_w f_13 f_10 f_y f_14 f_z f_16 f_17 f_a f_d f_b f_c f_e f_f f_2 f_6 f_1 f_0 f_5 f_4 f_3 f_8 f_7 f_9 C_Boxes C_Feed C_Bench:Addr} {TS TE TW f_numbers_written f_numbers_of_here f_numbers_spread f_numbers_shifted f_numbers_gathered f_numbers_joined f_numbers_picked f_numbers_copied f_numbers_brought f_play_trim f_play_stop f_play_save f_play_store f_play_put f_play_any f_play_turns f_play_quiet f_play_till:Addr} {tB tM tN:Tok} {esS esE esW:Array DictEntry} {nS nE nW:Nat} {SF SO:Addr} {tH tC:Tok} {esF esO:Array DictEntry} {nF nO:Nat} {od_1q an_1q od_t an_t od_1m an_1m od_1r an_1r od_1a an_1a od_p an_p od_g an_g od_h an_h od_i an_i od_k an_k od_j an_j od_o an_o od_s an_s od_q an_q od_l an_l od_m an_m od_1j an_1j od_18 an_18 od_1e an_1e od_1i an_1i od_n an_n od_1g an_1g od_1o an_1o od_1p an_1p od_1k an_1k od_r an_r od_1f an_1f od_1b an_1b od_19 an_19 od_1l an_1l od_1d an_1d od_1h an_1h od_1c an_1c od_1n an_1n od_v an_v od_15 an_15 od_12 an_12 od_u an_u od_11 an_11 od_x an_x od_w an_w od_13 an_13 od_10 an_10 od_y an_y od_14 an_14 od_z an_z od_16 an_16 od_17 an_17 od_a an_a od_d an_d od_b an_b od_c an_c od_e an_e od_f an_f od_2 an_2 od_6 an_6 od_1 an_1 od_0 an_0 od_5 an_5 od_4 an_4 od_3 an_3 od_8 an_8 od_7 an_7 od_9 an_9:Option Addr} {sl_1q sl_t sl_1m sl_1r sl_1a sl_p sl_g sl_h sl_i sl_k sl_j sl_o sl_s sl_q sl_l sl_m sl_1j sl_18 sl_1e sl_1i sl_n sl_1g sl_1o sl_1p sl_1k sl_r sl_1f sl_1b sl_19 sl_1l sl_1d sl_1h sl_1c sl_1n sl_v sl_15 sl_12 sl_u sl_11 sl_x sl_w sl_13 sl_10 sl_y sl_14 sl_z sl_16 sl_17 sl_a sl_d sl_b sl_c sl_e sl_f sl_2 sl_6 sl_1 sl_0 sl_5 sl_4 sl_3 sl_8 sl_7 sl_9:Array (Option Value)} {oc_1q kV_1q dc_1q pm_1q cd_1q ct_1q oc_t kV_t dc_t pm_t cd_t ct_t oc_1m kV_1m dc_1m pm_1m cd_1m ct_1m oc_1r kV_1r dc_1r pm_1r cd_1r ct_1r oc_1a kV_1a dc_1a pm_1a cd_1a ct_1a oc_p kV_p dc_p pm_p cd_p ct_p oc_g kV_g dc_g pm_g cd_g ct_g oc_h kV_h dc_h pm_h cd_h ct_h oc_i kV_i dc_i pm_i cd_i ct_i oc_k kV_k dc_k pm_k cd_k ct_k oc_j kV_j dc_j pm_j cd_j ct_j oc_o kV_o dc_o pm_o cd_o ct_o oc_s kV_s dc_s pm_s cd_s ct_s oc_q kV_q dc_q pm_q cd_q ct_q oc_l kV_l dc_l pm_l cd_l ct_l oc_m kV_m dc_m pm_m cd_m ct_m oc_1j kV_1j dc_1j pm_1j cd_1j ct_1j oc_18 kV_18 dc_18 pm_18 cd_18 ct_18 oc_1e kV_1e dc_1e pm_1e cd_1e ct_1e oc_1i kV_1i dc_1i pm_1i cd_1i ct_1i oc_n kV_n dc_n pm_n cd_n ct_n oc_1g kV_1g dc_1g pm_1g cd_1g ct_1g oc_1o kV_1o dc_1o pm_1o cd_1o ct_1o oc_1p kV_1p dc_1p pm_1p cd_1p ct_1p oc_1k kV_1k dc_1k pm_1k cd_1k ct_1k oc_r kV_r dc_r pm_r cd_r ct_r oc_1f kV_1f dc_1f pm_1f cd_1f ct_1f oc_1b kV_1b dc_1b pm_1b cd_1b ct_1b oc_19 kV_19 dc_19 pm_19 cd_19 ct_19 oc_1l kV_1l dc_1l pm_1l cd_1l ct_1l oc_1d kV_1d dc_1d pm_1d cd_1d ct_1d oc_1h kV_1h dc_1h pm_1h cd_1h ct_1h oc_1c kV_1c dc_1c pm_1c cd_1c ct_1c oc_1n kV_1n dc_1n pm_1n cd_1n ct_1n oc_v kV_v dc_v pm_v cd_v ct_v oc_15 kV_15 dc_15 pm_15 cd_15 ct_15 oc_12 kV_12 dc_12 pm_12 cd_12 ct_12 oc_u kV_u dc_u pm_u cd_u ct_u oc_11 kV_11 dc_11 pm_11 cd_11 ct_11 oc_x kV_x dc_x pm_x cd_x ct_x oc_w kV_w dc_w pm_w cd_w ct_w oc_13 kV_13 dc_13 pm_13 cd_13 ct_13 oc_10 kV_10 dc_10 pm_10 cd_10 ct_10 oc_y kV_y dc_y pm_y cd_y ct_y oc_14 kV_14 dc_14 pm_14 cd_14 ct_14 oc_z kV_z dc_z pm_z cd_z ct_z oc_16 kV_16 dc_16 pm_16 cd_16 ct_16 oc_17 kV_17 dc_17 pm_17 cd_17 ct_17 oc_a kV_a dc_a pm_a cd_a ct_a oc_d kV_d dc_d pm_d cd_d ct_d oc_b kV_b dc_b pm_b cd_b ct_b oc_c kV_c dc_c pm_c cd_c ct_c oc_e kV_e dc_e pm_e cd_e ct_e oc_f kV_f dc_f pm_f cd_f ct_f oc_2 kV_2 dc_2 pm_2 cd_2 ct_2 oc_6 kV_6 dc_6 pm_6 cd_6 ct_6 oc_1 kV_1 dc_1 pm_1 cd_1 ct_1 oc_0 kV_0 dc_0 pm_0 cd_0 ct_0 oc_5 kV_5 dc_5 pm_5 cd_5 ct_5 oc_4 kV_4 dc_4 pm_4 cd_4 ct_4 oc_3 kV_3 dc_3 pm_3 cd_3 ct_3 oc_8 kV_8 dc_8 pm_8 cd_8 ct_8 oc_7 kV_7 dc_7 pm_7 cd_7 ct_7 oc_9 kV_9 dc_9 pm_9 cd_9 ct_9:Value} (X:K.In h) (G:h.Ns mainGlobals mg) (hfa:mg "law"=some (.ref fa))
  (a_start_of:PySem.W.nsIn K mainGlobals "start_of"=some (some (.ref f_1q))) (l_1q:K.lookup f_1q=some ⟨oc_1q,od_1q,.func (PySem.W.fnOf "start_of" "start_of" (zk xB) (zj xB) (zd xB) .none kV_1q dc_1q pm_1q an_1q cd_1q ct_1q),sl_1q⟩) (c_1q:PySem.W.codeIn K cd_1q "start_of"=true) (k_1q:PySem.W.keepIn K (.ref f_1q)=true)
  (a_kept:PySem.W.nsIn K mainGlobals "kept"=some (some (.ref f_t))) (l_t:K.lookup f_t=some ⟨oc_t,od_t,.func (PySem.W.fnOf "kept" "kept" (zk s_kept) (zj s_kept) (zd s_kept) .none kV_t dc_t pm_t an_t cd_t ct_t),sl_t⟩) (c_t:PySem.W.codeIn K cd_t "kept"=true) (k_t:PySem.W.keepIn K (.ref f_t)=true)
  (a_plus:PySem.W.nsIn K mainGlobals "plus"=some (some (.ref f_1m))) (l_1m:K.lookup f_1m=some ⟨oc_1m,od_1m,.func (PySem.W.fnOf "plus" "plus" (zk s_plus) (zj s_plus) (zd s_plus) .none kV_1m dc_1m pm_1m an_1m cd_1m ct_1m),sl_1m⟩) (c_1m:PySem.W.codeIn K cd_1m "plus"=true) (k_1m:PySem.W.keepIn K (.ref f_1m)=true)
  (a_times:PySem.W.nsIn K mainGlobals "times"=some (some (.ref f_1r))) (l_1r:K.lookup f_1r=some ⟨oc_1r,od_1r,.func (PySem.W.fnOf "times" "times" (zk s_times) (zj s_times) (zd s_times) .none kV_1r dc_1r pm_1r an_1r cd_1r ct_1r),sl_1r⟩) (c_1r:PySem.W.codeIn K cd_1r "times"=true) (k_1r:PySem.W.keepIn K (.ref f_1r)=true)
  (a_lesser:PySem.W.nsIn K mainGlobals "lesser"=some (some (.ref f_1a))) (l_1a:K.lookup f_1a=some ⟨oc_1a,od_1a,.func (PySem.W.fnOf "lesser" "lesser" (zk s_lesser) (zj s_lesser) (zd s_lesser) .none kV_1a dc_1a pm_1a an_1a cd_1a ct_1a),sl_1a⟩) (c_1a:PySem.W.codeIn K cd_1a "lesser"=true) (k_1a:PySem.W.keepIn K (.ref f_1a)=true)
  (a_greater:PySem.W.nsIn K mainGlobals "greater"=some (some (.ref f_p))) (l_p:K.lookup f_p=some ⟨oc_p,od_p,.func (PySem.W.fnOf "greater" "greater" (zk xQ) (zj xQ) (zd xQ) .none kV_p dc_p pm_p an_p cd_p ct_p),sl_p⟩) (c_p:PySem.W.codeIn K cd_p "greater"=true) (k_p:PySem.W.keepIn K (.ref f_p)=true)
  (a_bits_of_both:PySem.W.nsIn K mainGlobals "bits_of_both"=some (some (.ref f_g))) (l_g:K.lookup f_g=some ⟨oc_g,od_g,.func (PySem.W.fnOf "bits_of_both" "bits_of_both" (zk yC) (zj yC) (zd yC) .none kV_g dc_g pm_g an_g cd_g ct_g),sl_g⟩) (c_g:PySem.W.codeIn K cd_g "bits_of_both"=true) (k_g:PySem.W.keepIn K (.ref f_g)=true)
  (a_bits_of_either:PySem.W.nsIn K mainGlobals "bits_of_either"=some (some (.ref f_h))) (l_h:K.lookup f_h=some ⟨oc_h,od_h,.func (PySem.W.fnOf "bits_of_either" "bits_of_either" (zk yp) (zj yp) (zd yp) .none kV_h dc_h pm_h an_h cd_h ct_h),sl_h⟩) (c_h:PySem.W.codeIn K cd_h "bits_of_either"=true) (k_h:PySem.W.keepIn K (.ref f_h)=true)
  (a_bits_of_one:PySem.W.nsIn K mainGlobals "bits_of_one"=some (some (.ref f_i))) (l_i:K.lookup f_i=some ⟨oc_i,od_i,.func (PySem.W.fnOf "bits_of_one" "bits_of_one" (zk yL) (zj yL) (zd yL) .none kV_i dc_i pm_i an_i cd_i ct_i),sl_i⟩) (c_i:PySem.W.codeIn K cd_i "bits_of_one"=true) (k_i:PySem.W.keepIn K (.ref f_i)=true)
  (a_chained:PySem.W.nsIn K mainGlobals "chained"=some (some (.ref f_k))) (l_k:K.lookup f_k=some ⟨oc_k,od_k,.func (PySem.W.fnOf "chained" "chained" (zk xS) (zj xS) (zd xS) .none kV_k dc_k pm_k an_k cd_k ct_k),sl_k⟩) (c_k:PySem.W.codeIn K cd_k "chained"=true) (k_k:PySem.W.keepIn K (.ref f_k)=true)
  (a_capped:PySem.W.nsIn K mainGlobals "capped"=some (some (.ref f_j))) (l_j:K.lookup f_j=some ⟨oc_j,od_j,.func (PySem.W.fnOf "capped" "capped" (zk s_capped) (zj s_capped) (zd s_capped) .none kV_j dc_j pm_j an_j cd_j ct_j),sl_j⟩) (c_j:PySem.W.codeIn K cd_j "capped"=true) (k_j:PySem.W.keepIn K (.ref f_j)=true)
  (a_free:PySem.W.nsIn K mainGlobals "free"=some (some (.ref f_o))) (l_o:K.lookup f_o=some ⟨oc_o,od_o,.func (PySem.W.fnOf "free" "free" (zk s_free) (zj s_free) (zd s_free) .none kV_o dc_o pm_o an_o cd_o ct_o),sl_o⟩) (c_o:PySem.W.codeIn K cd_o "free"=true) (k_o:PySem.W.keepIn K (.ref f_o)=true)
  (a_joined:PySem.W.nsIn K mainGlobals "joined"=some (some (.ref f_s))) (l_s:K.lookup f_s=some ⟨oc_s,od_s,.func (PySem.W.fnOf "joined" "joined" (zk s_joined) (zj s_joined) (zd s_joined) .none kV_s dc_s pm_s an_s cd_s ct_s),sl_s⟩) (c_s:PySem.W.codeIn K cd_s "joined"=true) (k_s:PySem.W.keepIn K (.ref f_s)=true)
  (a_halved:PySem.W.nsIn K mainGlobals "halved"=some (some (.ref f_q))) (l_q:K.lookup f_q=some ⟨oc_q,od_q,.func (PySem.W.fnOf "halved" "halved" (zk s_halved) (zj s_halved) (zd s_halved) .none kV_q dc_q pm_q an_q cd_q ct_q),sl_q⟩) (c_q:PySem.W.codeIn K cd_q "halved"=true) (k_q:PySem.W.keepIn K (.ref f_q)=true)
  (a_cut_join:PySem.W.nsIn K mainGlobals "cut_join"=some (some (.ref f_l))) (l_l:K.lookup f_l=some ⟨oc_l,od_l,.func (PySem.W.fnOf "cut_join" "cut_join" (zk xE) (zj xE) (zd xE) .none kV_l dc_l pm_l an_l cd_l ct_l),sl_l⟩) (c_l:PySem.W.codeIn K cd_l "cut_join"=true) (k_l:PySem.W.keepIn K (.ref f_l)=true)
  (a_doubled:PySem.W.nsIn K mainGlobals "doubled"=some (some (.ref f_m))) (l_m:K.lookup f_m=some ⟨oc_m,od_m,.func (PySem.W.fnOf "doubled" "doubled" (zk xR) (zj xR) (zd xR) .none kV_m dc_m pm_m an_m cd_m ct_m),sl_m⟩) (c_m:PySem.W.codeIn K cd_m "doubled"=true) (k_m:PySem.W.keepIn K (.ref f_m)=true)
  (a_play_reach:PySem.W.nsIn K mainGlobals "play_reach"=some (some (.ref f_1j))) (l_1j:K.lookup f_1j=some ⟨oc_1j,od_1j,.func (PySem.W.fnOf "play_reach" "play_reach" (zk yV) (zj yV) (zd yV) .none kV_1j dc_1j pm_1j an_1j cd_1j ct_1j),sl_1j⟩) (c_1j:PySem.W.codeIn K cd_1j "play_reach"=true) (k_1j:PySem.W.keepIn K (.ref f_1j)=true)
  (a_lay_chosen:PySem.W.nsIn K mainGlobals "lay_chosen"=some (some (.ref f_18))) (l_18:K.lookup f_18=some ⟨oc_18,od_18,.func (PySem.W.fnOf "lay_chosen" "lay_chosen" (zk yY) (zj yY) (zd yY) .none kV_18 dc_18 pm_18 an_18 cd_18 ct_18),sl_18⟩) (c_18:PySem.W.codeIn K cd_18 "lay_chosen"=true) (k_18:PySem.W.keepIn K (.ref f_18)=true)
  (a_play_choose:PySem.W.nsIn K mainGlobals "play_choose"=some (some (.ref f_1e))) (l_1e:K.lookup f_1e=some ⟨oc_1e,od_1e,.func (PySem.W.fnOf "play_choose" "play_choose" (zk yK) (zj yK) (zd yK) .none kV_1e dc_1e pm_1e an_1e cd_1e ct_1e),sl_1e⟩) (c_1e:PySem.W.codeIn K cd_1e "play_choose"=true) (k_1e:PySem.W.keepIn K (.ref f_1e)=true)
  (a_play_other:PySem.W.nsIn K mainGlobals "play_other"=some (some (.ref f_1i))) (l_1i:K.lookup f_1i=some ⟨oc_1i,od_1i,.func (PySem.W.fnOf "play_other" "play_other" (zk yW) (zj yW) (zd yW) .none kV_1i dc_1i pm_1i an_1i cd_1i ct_1i),sl_1i⟩) (c_1i:PySem.W.codeIn K cd_1i "play_other"=true) (k_1i:PySem.W.keepIn K (.ref f_1i)=true)
  (a_folded:PySem.W.nsIn K mainGlobals "folded"=some (some (.ref f_n))) (l_n:K.lookup f_n=some ⟨oc_n,od_n,.func (PySem.W.fnOf "folded" "folded" (zk s_folded) (zj s_folded) (zd s_folded) .none kV_n dc_n pm_n an_n cd_n ct_n),sl_n⟩) (c_n:PySem.W.codeIn K cd_n "folded"=true) (k_n:PySem.W.keepIn K (.ref f_n)=true)
  (a_play_fold:PySem.W.nsIn K mainGlobals "play_fold"=some (some (.ref f_1g))) (l_1g:K.lookup f_1g=some ⟨oc_1g,od_1g,.func (PySem.W.fnOf "play_fold" "play_fold" (zk xl) (zj xl) (zd xl) .none kV_1g dc_1g pm_1g an_1g cd_1g ct_1g),sl_1g⟩) (c_1g:PySem.W.codeIn K cd_1g "play_fold"=true) (k_1g:PySem.W.keepIn K (.ref f_1g)=true)
  (a_ran_in_order:PySem.W.nsIn K mainGlobals "ran_in_order"=some (some (.ref f_1o))) (l_1o:K.lookup f_1o=some ⟨oc_1o,od_1o,.func (PySem.W.fnOf "ran_in_order" "ran_in_order" (zk yz) (zj yz) (zd yz) .none kV_1o dc_1o pm_1o an_1o cd_1o ct_1o),sl_1o⟩) (c_1o:PySem.W.codeIn K cd_1o "ran_in_order"=true) (k_1o:PySem.W.keepIn K (.ref f_1o)=true)
  (a_running_numbers:PySem.W.nsIn K mainGlobals "running_numbers"=some (some (.ref f_1p))) (l_1p:K.lookup f_1p=some ⟨oc_1p,od_1p,.func (PySem.W.fnOf "running_numbers" "running_numbers" (zk yg) (zj yg) (zd yg) .none kV_1p dc_1p pm_1p an_1p cd_1p ct_1p),sl_1p⟩) (c_1p:PySem.W.codeIn K cd_1p "running_numbers"=true) (k_1p:PySem.W.keepIn K (.ref f_1p)=true)
  (a_play_running:PySem.W.nsIn K mainGlobals "play_running"=some (some (.ref f_1k))) (l_1k:K.lookup f_1k=some ⟨oc_1k,od_1k,.func (PySem.W.fnOf "play_running" "play_running" (zk yA) (zj yA) (zd yA) .none kV_1k dc_1k pm_1k an_1k cd_1k ct_1k),sl_1k⟩) (c_1k:PySem.W.codeIn K cd_1k "play_running"=true) (k_1k:PySem.W.keepIn K (.ref f_1k)=true)
  (a_has_effect:PySem.W.nsIn K mainGlobals "has_effect"=some (some (.ref f_r))) (l_r:K.lookup f_r=some ⟨oc_r,od_r,.func (PySem.W.fnOf "has_effect" "has_effect" (zk yZ) (zj yZ) (zd yZ) .none kV_r dc_r pm_r an_r cd_r ct_r),sl_r⟩) (c_r:PySem.W.codeIn K cd_r "has_effect"=true) (k_r:PySem.W.keepIn K (.ref f_r)=true)
  (a_play_effect:PySem.W.nsIn K mainGlobals "play_effect"=some (some (.ref f_1f))) (l_1f:K.lookup f_1f=some ⟨oc_1f,od_1f,.func (PySem.W.fnOf "play_effect" "play_effect" (zk yJ) (zj yJ) (zd yJ) .none kV_1f dc_1f pm_1f an_1f cd_1f ct_1f),sl_1f⟩) (c_1f:PySem.W.codeIn K cd_1f "play_effect"=true) (k_1f:PySem.W.keepIn K (.ref f_1f)=true)
  (a_numbers_loaded:PySem.W.nsIn K mainGlobals "numbers_loaded"=some (some (.ref f_1b))) (l_1b:K.lookup f_1b=some ⟨oc_1b,od_1b,.func (PySem.W.fnOf "numbers_loaded" "numbers_loaded" (zk yo) (zj yo) (zd yo) .none kV_1b dc_1b pm_1b an_1b cd_1b ct_1b),sl_1b⟩) (c_1b:PySem.W.codeIn K cd_1b "numbers_loaded"=true) (k_1b:PySem.W.keepIn K (.ref f_1b)=true)
  (a_lays_seat:PySem.W.nsIn K mainGlobals "lays_seat"=some (some (.ref f_19))) (l_19:K.lookup f_19=some ⟨oc_19,od_19,.func (PySem.W.fnOf "lays_seat" "lays_seat" (zk xm) (zj xm) (zd xm) .none kV_19 dc_19 pm_19 an_19 cd_19 ct_19),sl_19⟩) (c_19:PySem.W.codeIn K cd_19 "lays_seat"=true) (k_19:PySem.W.keepIn K (.ref f_19)=true)
  (a_play_seat_step:PySem.W.nsIn K mainGlobals "play_seat_step"=some (some (.ref f_1l))) (l_1l:K.lookup f_1l=some ⟨oc_1l,od_1l,.func (PySem.W.fnOf "play_seat_step" "play_seat_step" (zk yn) (zj yn) (zd yn) .none kV_1l dc_1l pm_1l an_1l cd_1l ct_1l),sl_1l⟩) (c_1l:PySem.W.codeIn K cd_1l "play_seat_step"=true) (k_1l:PySem.W.keepIn K (.ref f_1l)=true)
  (a_play_begin:PySem.W.nsIn K mainGlobals "play_begin"=some (some (.ref f_1d))) (l_1d:K.lookup f_1d=some ⟨oc_1d,od_1d,.func (PySem.W.fnOf "play_begin" "play_begin" (zk yX) (zj yX) (zd yX) .none kV_1d dc_1d pm_1d an_1d cd_1d ct_1d),sl_1d⟩) (c_1d:PySem.W.codeIn K cd_1d "play_begin"=true) (k_1d:PySem.W.keepIn K (.ref f_1d)=true)
  (a_play_next:PySem.W.nsIn K mainGlobals "play_next"=some (some (.ref f_1h))) (l_1h:K.lookup f_1h=some ⟨oc_1h,od_1h,.func (PySem.W.fnOf "play_next" "play_next" (zk xk) (zj xk) (zd xk) .none kV_1h dc_1h pm_1h an_1h cd_1h ct_1h),sl_1h⟩) (c_1h:PySem.W.codeIn K cd_1h "play_next"=true) (k_1h:PySem.W.keepIn K (.ref f_1h)=true)
  (a_place_behind:PySem.W.nsIn K mainGlobals "place_behind"=some (some (.ref f_1c))) (l_1c:K.lookup f_1c=some ⟨oc_1c,od_1c,.func (PySem.W.fnOf "place_behind" "place_behind" (zk yB) (zj yB) (zd yB) .none kV_1c dc_1c pm_1c an_1c cd_1c ct_1c),sl_1c⟩) (c_1c:PySem.W.codeIn K cd_1c "place_behind"=true) (k_1c:PySem.W.keepIn K (.ref f_1c)=true)
  (a_ran:PySem.W.nsIn K mainGlobals "ran"=some (some (.ref f_1n))) (l_1n:K.lookup f_1n=some ⟨oc_1n,od_1n,.func (PySem.W.fnOf "ran" "ran" (zk s_ran) (zj s_ran) (zd s_ran) .none kV_1n dc_1n pm_1n an_1n cd_1n ct_1n),sl_1n⟩) (c_1n:PySem.W.codeIn K cd_1n "ran"=true) (k_1n:PySem.W.keepIn K (.ref f_1n)=true)
  (a_l_cell_at:PySem.W.nsIn K mainGlobals "_law_cell_at"=some (some (.ref f_v))) (l_v:K.lookup f_v=some ⟨oc_v,od_v,.func (PySem.W.fnOf "_law_cell_at" "_law_cell_at" (zk xn) (zj xn) (zd xn) .none kV_v dc_v pm_v an_v cd_v ct_v),sl_v⟩) (c_v:PySem.W.codeIn K cd_v "_law_cell_at"=true) (k_v:PySem.W.keepIn K (.ref f_v)=true)
  (a_l_some:PySem.W.nsIn K mainGlobals "_law_some"=some (some (.ref f_15))) (l_15:K.lookup f_15=some ⟨oc_15,od_15,.func (PySem.W.fnOf "_law_some" "_law_some" (zk s_l_some) (zj s_l_some) (zd s_l_some) .none kV_15 dc_15 pm_15 an_15 cd_15 ct_15),sl_15⟩) (c_15:PySem.W.codeIn K cd_15 "_law_some"=true) (k_15:PySem.W.keepIn K (.ref f_15)=true)
  (a_l_number:PySem.W.nsIn K mainGlobals "_law_number"=some (some (.ref f_12))) (l_12:K.lookup f_12=some ⟨oc_12,od_12,.func (PySem.W.fnOf "_law_number" "_law_number" (zk xC) (zj xC) (zd xC) .none kV_12 dc_12 pm_12 an_12 cd_12 ct_12),sl_12⟩) (c_12:PySem.W.codeIn K cd_12 "_law_number"=true) (k_12:PySem.W.keepIn K (.ref f_12)=true)
  (a_l_alike:PySem.W.nsIn K mainGlobals "_law_alike"=some (some (.ref f_u))) (l_u:K.lookup f_u=some ⟨oc_u,od_u,.func (PySem.W.fnOf "_law_alike" "_law_alike" (zk xo) (zj xo) (zd xo) .none kV_u dc_u pm_u an_u cd_u ct_u),sl_u⟩) (c_u:PySem.W.codeIn K cd_u "_law_alike"=true) (k_u:PySem.W.keepIn K (.ref f_u)=true)
  (a_l_lanes:PySem.W.nsIn K mainGlobals "_law_lanes"=some (some (.ref f_11))) (l_11:K.lookup f_11=some ⟨oc_11,od_11,.func (PySem.W.fnOf "_law_lanes" "_law_lanes" (zk xN) (zj xN) (zd xN) .none kV_11 dc_11 pm_11 an_11 cd_11 ct_11),sl_11⟩) (c_11:PySem.W.codeIn K cd_11 "_law_lanes"=true) (k_11:PySem.W.keepIn K (.ref f_11)=true)
  (a_l_group:PySem.W.nsIn K mainGlobals "_law_group"=some (some (.ref f_x))) (l_x:K.lookup f_x=some ⟨oc_x,od_x,.func (PySem.W.fnOf "_law_group" "_law_group" (zk xP) (zj xP) (zd xP) .none kV_x dc_x pm_x an_x cd_x ct_x),sl_x⟩) (c_x:PySem.W.codeIn K cd_x "_law_group"=true) (k_x:PySem.W.keepIn K (.ref f_x)=true)
  (a_l_dust:PySem.W.nsIn K mainGlobals "_law_dust"=some (some (.ref f_w))) (l_w:K.lookup f_w=some ⟨oc_w,od_w,.func (PySem.W.fnOf "_law_dust" "_law_dust" (zk s_l_dust) (zj s_l_dust) (zd s_l_dust) .none kV_w dc_w pm_w an_w cd_w ct_w),sl_w⟩) (c_w:PySem.W.codeIn K cd_w "_law_dust"=true) (k_w:PySem.W.keepIn K (.ref f_w)=true)
  (a_l_ran:PySem.W.nsIn K mainGlobals "_law_ran"=some (some (.ref f_13))) (l_13:K.lookup f_13=some ⟨oc_13,od_13,.func (PySem.W.fnOf "_law_ran" "_law_ran" (zk s_l_ran) (zj s_l_ran) (zd s_l_ran) .none kV_13 dc_13 pm_13 an_13 cd_13 ct_13),sl_13⟩) (c_13:PySem.W.codeIn K cd_13 "_law_ran"=true) (k_13:PySem.W.keepIn K (.ref f_13)=true)
  (a_l_kept:PySem.W.nsIn K mainGlobals "_law_kept"=some (some (.ref f_10))) (l_10:K.lookup f_10=some ⟨oc_10,od_10,.func (PySem.W.fnOf "_law_kept" "_law_kept" (zk s_l_kept) (zj s_l_kept) (zd s_l_kept) .none kV_10 dc_10 pm_10 an_10 cd_10 ct_10),sl_10⟩) (c_10:PySem.W.codeIn K cd_10 "_law_kept"=true) (k_10:PySem.W.keepIn K (.ref f_10)=true)
  (a_l_joined:PySem.W.nsIn K mainGlobals "_law_joined"=some (some (.ref f_y))) (l_y:K.lookup f_y=some ⟨oc_y,od_y,.func (PySem.W.fnOf "_law_joined" "_law_joined" (zk xD) (zj xD) (zd xD) .none kV_y dc_y pm_y an_y cd_y ct_y),sl_y⟩) (c_y:PySem.W.codeIn K cd_y "_law_joined"=true) (k_y:PySem.W.keepIn K (.ref f_y)=true)
  (a_l_round:PySem.W.nsIn K mainGlobals "_law_round"=some (some (.ref f_14))) (l_14:K.lookup f_14=some ⟨oc_14,od_14,.func (PySem.W.fnOf "_law_round" "_law_round" (zk xM) (zj xM) (zd xM) .none kV_14 dc_14 pm_14 an_14 cd_14 ct_14),sl_14⟩) (c_14:PySem.W.codeIn K cd_14 "_law_round"=true) (k_14:PySem.W.keepIn K (.ref f_14)=true)
  (a_l_joins:PySem.W.nsIn K mainGlobals "_law_joins"=some (some (.ref f_z))) (l_z:K.lookup f_z=some ⟨oc_z,od_z,.func (PySem.W.fnOf "_law_joins" "_law_joins" (zk xO) (zj xO) (zd xO) .none kV_z dc_z pm_z an_z cd_z ct_z),sl_z⟩) (c_z:PySem.W.codeIn K cd_z "_law_joins"=true) (k_z:PySem.W.keepIn K (.ref f_z)=true)
  (a_l_strip:PySem.W.nsIn K mainGlobals "_law_strip"=some (some (.ref f_16))) (l_16:K.lookup f_16=some ⟨oc_16,od_16,.func (PySem.W.fnOf "_law_strip" "_law_strip" (zk xL) (zj xL) (zd xL) .none kV_16 dc_16 pm_16 an_16 cd_16 ct_16),sl_16⟩) (c_16:PySem.W.codeIn K cd_16 "_law_strip"=true) (k_16:PySem.W.keepIn K (.ref f_16)=true)
  (a_law:PySem.W.nsIn K mainGlobals "law"=some (some (.ref f_17))) (l_17:K.lookup f_17=some ⟨oc_17,od_17,.func (PySem.W.fnOf "law" "law" (zk s_law) (zj s_law) (zd s_law) .none kV_17 dc_17 pm_17 an_17 cd_17 ct_17),sl_17⟩) (c_17:PySem.W.codeIn K cd_17 "law"=true) (k_17:PySem.W.keepIn K (.ref f_17)=true)
  (a_C_Boxes:PySem.W.nsIn K mainGlobals "Boxes"=some (some (.ref C_Boxes))) (c1_C_Boxes:PySem.W.plainGet K C_Boxes Str.empty=true) (c2_C_Boxes:PySem.W.hasDictIn K C_Boxes=true) (c3_C_Boxes:PySem.W.plainOver K C_Boxes=true) (c4_C_Boxes:PySem.W.findIn K (.ref C_Boxes) "__setattr__"=some (some (.builtin "object.__setattr__")))
  (n_C_Boxes_lanes:PySem.W.findIn K (.ref C_Boxes) "lanes"=some none)
  (n_C_Boxes_numbers:PySem.W.findIn K (.ref C_Boxes) "numbers"=some none)
  (mk_C_Boxes:PySem.W.makesIn K C_Boxes=true) (kC_C_Boxes:PySem.W.keepIn K (.ref C_Boxes)=true)
  (at_a:PySem.W.findIn K (.ref C_Boxes) "__init__"=some (some (.ref f_a))) (fn_a:PySem.W.isFn K (.ref f_a)=true) (l_a:K.lookup f_a=some ⟨oc_a,od_a,.func (PySem.W.fnOf "__init__" "Boxes.__init__" (zk y9) (zj y9) (zd y9) .none kV_a dc_a pm_a an_a cd_a ct_a),sl_a⟩) (c_a:PySem.W.codeIn K cd_a "Boxes.__init__"=true) (k_a:PySem.W.keepIn K (.ref f_a)=true)
  (at_d:PySem.W.findIn K (.ref C_Boxes) "spot_of"=some (some (.ref f_d))) (fn_d:PySem.W.isFn K (.ref f_d)=true) (l_d:K.lookup f_d=some ⟨oc_d,od_d,.func (PySem.W.fnOf "spot_of" "Boxes.spot_of" (zk yu) (zj yu) (zd yu) .none kV_d dc_d pm_d an_d cd_d ct_d),sl_d⟩) (c_d:PySem.W.codeIn K cd_d "Boxes.spot_of"=true) (k_d:PySem.W.keepIn K (.ref f_d)=true)
  (at_b:PySem.W.findIn K (.ref C_Boxes) "lay"=some (some (.ref f_b))) (fn_b:PySem.W.isFn K (.ref f_b)=true) (l_b:K.lookup f_b=some ⟨oc_b,od_b,.func (PySem.W.fnOf "lay" "Boxes.lay" (zk xq) (zj xq) (zd xq) .none kV_b dc_b pm_b an_b cd_b ct_b),sl_b⟩) (c_b:PySem.W.codeIn K cd_b "Boxes.lay"=true) (k_b:PySem.W.keepIn K (.ref f_b)=true)
  (at_c:PySem.W.findIn K (.ref C_Boxes) "number_at"=some (some (.ref f_c))) (fn_c:PySem.W.isFn K (.ref f_c)=true) (l_c:K.lookup f_c=some ⟨oc_c,od_c,.func (PySem.W.fnOf "number_at" "Boxes.number_at" (zk yh) (zj yh) (zd yh) .none kV_c dc_c pm_c an_c cd_c ct_c),sl_c⟩) (c_c:PySem.W.codeIn K cd_c "Boxes.number_at"=true) (k_c:PySem.W.keepIn K (.ref f_c)=true)
  (a_C_Feed:PySem.W.nsIn K mainGlobals "Feed"=some (some (.ref C_Feed))) (c1_C_Feed:PySem.W.plainGet K C_Feed Str.empty=true) (c2_C_Feed:PySem.W.hasDictIn K C_Feed=true) (c3_C_Feed:PySem.W.plainOver K C_Feed=true) (c4_C_Feed:PySem.W.findIn K (.ref C_Feed) "__setattr__"=some (some (.builtin "object.__setattr__")))
  (n_C_Feed_numbers:PySem.W.findIn K (.ref C_Feed) "numbers"=some none)
  (n_C_Feed_at:PySem.W.findIn K (.ref C_Feed) "at"=some none)
  (mk_C_Feed:PySem.W.makesIn K C_Feed=true) (kC_C_Feed:PySem.W.keepIn K (.ref C_Feed)=true)
  (at_e:PySem.W.findIn K (.ref C_Feed) "__init__"=some (some (.ref f_e))) (fn_e:PySem.W.isFn K (.ref f_e)=true) (l_e:K.lookup f_e=some ⟨oc_e,od_e,.func (PySem.W.fnOf "__init__" "Feed.__init__" (zk xp) (zj xp) (zd xp) .none kV_e dc_e pm_e an_e cd_e ct_e),sl_e⟩) (c_e:PySem.W.codeIn K cd_e "Feed.__init__"=true) (k_e:PySem.W.keepIn K (.ref f_e)=true)
  (at_f:PySem.W.findIn K (.ref C_Feed) "taken"=some (some (.ref f_f))) (fn_f:PySem.W.isFn K (.ref f_f)=true) (l_f:K.lookup f_f=some ⟨oc_f,od_f,.func (PySem.W.fnOf "taken" "Feed.taken" (zk y8) (zj y8) (zd y8) .none kV_f dc_f pm_f an_f cd_f ct_f),sl_f⟩) (c_f:PySem.W.codeIn K cd_f "Feed.taken"=true) (k_f:PySem.W.keepIn K (.ref f_f)=true)
  (a_C_Bench:PySem.W.nsIn K mainGlobals "Bench"=some (some (.ref C_Bench))) (c1_C_Bench:PySem.W.plainGet K C_Bench Str.empty=true) (c2_C_Bench:PySem.W.hasDictIn K C_Bench=true) (c3_C_Bench:PySem.W.plainOver K C_Bench=true) (c4_C_Bench:PySem.W.findIn K (.ref C_Bench) "__setattr__"=some (some (.builtin "object.__setattr__")))
  (n_C_Bench_lengths:PySem.W.findIn K (.ref C_Bench) "lengths"=some none)
  (n_C_Bench_starts:PySem.W.findIn K (.ref C_Bench) "starts"=some none)
  (n_C_Bench_cells:PySem.W.findIn K (.ref C_Bench) "cells"=some none)
  (n_C_Bench_lanes:PySem.W.findIn K (.ref C_Bench) "lanes"=some none)
  (n_C_Bench_boxes:PySem.W.findIn K (.ref C_Bench) "boxes"=some none)
  (n_C_Bench_masks:PySem.W.findIn K (.ref C_Bench) "masks"=some none)
  (n_C_Bench_slots:PySem.W.findIn K (.ref C_Bench) "slots"=some none)
  (n_C_Bench_dust:PySem.W.findIn K (.ref C_Bench) "dust"=some none)
  (n_C_Bench_picks:PySem.W.findIn K (.ref C_Bench) "picks"=some none)
  (n_C_Bench_touches:PySem.W.findIn K (.ref C_Bench) "touches"=some none)
  (n_C_Bench_at:PySem.W.findIn K (.ref C_Bench) "at"=some none)
  (n_C_Bench_opened:PySem.W.findIn K (.ref C_Bench) "opened"=some none)
  (n_C_Bench_many:PySem.W.findIn K (.ref C_Bench) "many"=some none)
  (n_C_Bench_group:PySem.W.findIn K (.ref C_Bench) "group"=some none)
  (n_C_Bench_base:PySem.W.findIn K (.ref C_Bench) "base"=some none)
  (n_C_Bench_begun:PySem.W.findIn K (.ref C_Bench) "begun"=some none)
  (n_C_Bench_width:PySem.W.findIn K (.ref C_Bench) "width"=some none)
  (n_C_Bench_faults:PySem.W.findIn K (.ref C_Bench) "faults"=some none)
  (n_C_Bench_cut:PySem.W.findIn K (.ref C_Bench) "cut"=some none)
  (n_C_Bench_carried:PySem.W.findIn K (.ref C_Bench) "carried"=some none)
  (n_C_Bench_raised:PySem.W.findIn K (.ref C_Bench) "raised"=some none)
  (n_C_Bench_turns:PySem.W.findIn K (.ref C_Bench) "turns"=some none)
  (n_C_Bench_refusal:PySem.W.findIn K (.ref C_Bench) "refusal"=some none)
  (mk_C_Bench:PySem.W.makesIn K C_Bench=true) (kC_C_Bench:PySem.W.keepIn K (.ref C_Bench)=true)
  (at_2:PySem.W.findIn K (.ref C_Bench) "__init__"=some (some (.ref f_2))) (fn_2:PySem.W.isFn K (.ref f_2)=true) (l_2:K.lookup f_2=some ⟨oc_2,od_2,.func (PySem.W.fnOf "__init__" "Bench.__init__" (zk xa) (zj xa) (zd xa) .none kV_2 dc_2 pm_2 an_2 cd_2 ct_2),sl_2⟩) (c_2:PySem.W.codeIn K cd_2 "Bench.__init__"=true) (k_2:PySem.W.keepIn K (.ref f_2)=true)
  (at_6:PySem.W.findIn K (.ref C_Bench) "open_round"=some (some (.ref f_6))) (fn_6:PySem.W.isFn K (.ref f_6)=true) (l_6:K.lookup f_6=some ⟨oc_6,od_6,.func (PySem.W.fnOf "open_round" "Bench.open_round" (zk yc) (zj yc) (zd yc) .none kV_6 dc_6 pm_6 an_6 cd_6 ct_6),sl_6⟩) (c_6:PySem.W.codeIn K cd_6 "Bench.open_round"=true) (k_6:PySem.W.keepIn K (.ref f_6)=true)
  (at_1:PySem.W.findIn K (.ref C_Bench) "begin_strip"=some (some (.ref f_1))) (fn_1:PySem.W.isFn K (.ref f_1)=true) (l_1:K.lookup f_1=some ⟨oc_1,od_1,.func (PySem.W.fnOf "begin_strip" "Bench.begin_strip" (zk z9) (zj z9) (zd z9) .none kV_1 dc_1 pm_1 an_1 cd_1 ct_1),sl_1⟩) (c_1:PySem.W.codeIn K cd_1 "Bench.begin_strip"=true) (k_1:PySem.W.keepIn K (.ref f_1)=true)
  (at_0:PySem.W.findIn K (.ref C_Bench) "active_under"=some (some (.ref f_0))) (fn_0:PySem.W.isFn K (.ref f_0)=true) (l_0:K.lookup f_0=some ⟨oc_0,od_0,.func (PySem.W.fnOf "active_under" "Bench.active_under" (zk zU) (zj zU) (zd zU) .none kV_0 dc_0 pm_0 an_0 cd_0 ct_0),sl_0⟩) (c_0:PySem.W.codeIn K cd_0 "Bench.active_under"=true) (k_0:PySem.W.keepIn K (.ref f_0)=true)
  (at_5:PySem.W.findIn K (.ref C_Bench) "numbers_in"=some (some (.ref f_5))) (fn_5:PySem.W.isFn K (.ref f_5)=true) (l_5:K.lookup f_5=some ⟨oc_5,od_5,.func (PySem.W.fnOf "numbers_in" "Bench.numbers_in" (zk yd) (zj yd) (zd yd) .none kV_5 dc_5 pm_5 an_5 cd_5 ct_5),sl_5⟩) (c_5:PySem.W.codeIn K cd_5 "Bench.numbers_in"=true) (k_5:PySem.W.keepIn K (.ref f_5)=true)
  (at_4:PySem.W.findIn K (.ref C_Bench) "lay_seat"=some (some (.ref f_4))) (fn_4:PySem.W.isFn K (.ref f_4)=true) (l_4:K.lookup f_4=some ⟨oc_4,od_4,.func (PySem.W.fnOf "lay_seat" "Bench.lay_seat" (zk yq) (zj yq) (zd yq) .none kV_4 dc_4 pm_4 an_4 cd_4 ct_4),sl_4⟩) (c_4:PySem.W.codeIn K cd_4 "Bench.lay_seat"=true) (k_4:PySem.W.keepIn K (.ref f_4)=true)
  (at_3:PySem.W.findIn K (.ref C_Bench) "lay_mask"=some (some (.ref f_3))) (fn_3:PySem.W.isFn K (.ref f_3)=true) (l_3:K.lookup f_3=some ⟨oc_3,od_3,.func (PySem.W.fnOf "lay_mask" "Bench.lay_mask" (zk yr) (zj yr) (zd yr) .none kV_3 dc_3 pm_3 an_3 cd_3 ct_3),sl_3⟩) (c_3:PySem.W.codeIn K cd_3 "Bench.lay_mask"=true) (k_3:PySem.W.keepIn K (.ref f_3)=true)
  (at_8:PySem.W.findIn K (.ref C_Bench) "touch"=some (some (.ref f_8))) (fn_8:PySem.W.isFn K (.ref f_8)=true) (l_8:K.lookup f_8=some ⟨oc_8,od_8,.func (PySem.W.fnOf "touch" "Bench.touch" (zk yM) (zj yM) (zd yM) .none kV_8 dc_8 pm_8 an_8 cd_8 ct_8),sl_8⟩) (c_8:PySem.W.codeIn K cd_8 "Bench.touch"=true) (k_8:PySem.W.keepIn K (.ref f_8)=true)
  (at_7:PySem.W.findIn K (.ref C_Bench) "read_cell"=some (some (.ref f_7))) (fn_7:PySem.W.isFn K (.ref f_7)=true) (l_7:K.lookup f_7=some ⟨oc_7,od_7,.func (PySem.W.fnOf "read_cell" "Bench.read_cell" (zk yi) (zj yi) (zd yi) .none kV_7 dc_7 pm_7 an_7 cd_7 ct_7),sl_7⟩) (c_7:PySem.W.codeIn K cd_7 "Bench.read_cell"=true) (k_7:PySem.W.keepIn K (.ref f_7)=true)
  (at_9:PySem.W.findIn K (.ref C_Bench) "write_cell"=some (some (.ref f_9))) (fn_9:PySem.W.isFn K (.ref f_9)=true) (l_9:K.lookup f_9=some ⟨oc_9,od_9,.func (PySem.W.fnOf "write_cell" "Bench.write_cell" (zk yb) (zj yb) (zd yb) .none kV_9 dc_9 pm_9 an_9 cd_9 ct_9),sl_9⟩) (c_9:PySem.W.codeIn K cd_9 "Bench.write_cell"=true) (k_9:PySem.W.keepIn K (.ref f_9)=true)
  (aS:PySem.W.nsIn K mainGlobals "SEAT_STEPS"=some (some (.ref TS)))
  (lS:K.lookup TS=some ⟨.type "dict",none,.dict esS nS,#[]⟩)
  (kS:PySem.W.KeysLit w.params esS.toList)
  (aE:PySem.W.nsIn K mainGlobals "EFFECTS"=some (some (.ref TE)))
  (lE:K.lookup TE=some ⟨.type "dict",none,.dict esE nE,#[]⟩)
  (kE:PySem.W.KeysLit w.params esE.toList)
  (aW:PySem.W.nsIn K mainGlobals "WAYS"=some (some (.ref TW)))
  (lW:K.lookup TW=some ⟨.type "dict",none,.dict esW nW,#[]⟩)
  (kW:PySem.W.KeysLit w.params esW.toList)
  (a_numbers_written:PySem.W.nsIn K mainGlobals "numbers_written"=some (some (.ref f_numbers_written)))
  (tS_number:PySem.W.nsIn K TS "number"=some (some (.ref f_numbers_written)))
  (a_numbers_of_here:PySem.W.nsIn K mainGlobals "numbers_of_here"=some (some (.ref f_numbers_of_here)))
  (tS_here:PySem.W.nsIn K TS "here"=some (some (.ref f_numbers_of_here)))
  (tS_load:PySem.W.nsIn K TS "load"=some (some (.ref f_1b)))
  (a_numbers_spread:PySem.W.nsIn K mainGlobals "numbers_spread"=some (some (.ref f_numbers_spread)))
  (tS_spread:PySem.W.nsIn K TS "spread"=some (some (.ref f_numbers_spread)))
  (a_numbers_shifted:PySem.W.nsIn K mainGlobals "numbers_shifted"=some (some (.ref f_numbers_shifted)))
  (tS_shift:PySem.W.nsIn K TS "shift"=some (some (.ref f_numbers_shifted)))
  (a_numbers_gathered:PySem.W.nsIn K mainGlobals "numbers_gathered"=some (some (.ref f_numbers_gathered)))
  (tS_gather:PySem.W.nsIn K TS "gather"=some (some (.ref f_numbers_gathered)))
  (a_numbers_joined:PySem.W.nsIn K mainGlobals "numbers_joined"=some (some (.ref f_numbers_joined)))
  (tS_op:PySem.W.nsIn K TS "op"=some (some (.ref f_numbers_joined)))
  (a_numbers_picked:PySem.W.nsIn K mainGlobals "numbers_picked"=some (some (.ref f_numbers_picked)))
  (tS_pick:PySem.W.nsIn K TS "pick"=some (some (.ref f_numbers_picked)))
  (a_numbers_copied:PySem.W.nsIn K mainGlobals "numbers_copied"=some (some (.ref f_numbers_copied)))
  (tS_copy:PySem.W.nsIn K TS "copy"=some (some (.ref f_numbers_copied)))
  (a_numbers_brought:PySem.W.nsIn K mainGlobals "numbers_brought"=some (some (.ref f_numbers_brought)))
  (tS_bring:PySem.W.nsIn K TS "bring"=some (some (.ref f_numbers_brought)))
  (tE_reach:PySem.W.nsIn K TE "reach"=some (some (.ref f_1j)))
  (tS_reach:PySem.W.nsIn K TS "reach"=some none)
  (a_play_trim:PySem.W.nsIn K mainGlobals "play_trim"=some (some (.ref f_play_trim)))
  (tE_trim:PySem.W.nsIn K TE "trim"=some (some (.ref f_play_trim)))
  (tS_trim:PySem.W.nsIn K TS "trim"=some none)
  (a_play_stop:PySem.W.nsIn K mainGlobals "play_stop"=some (some (.ref f_play_stop)))
  (tE_stop:PySem.W.nsIn K TE "stop"=some (some (.ref f_play_stop)))
  (tS_stop:PySem.W.nsIn K TS "stop"=some none)
  (tE_choose:PySem.W.nsIn K TE "choose"=some (some (.ref f_1e)))
  (tS_choose:PySem.W.nsIn K TS "choose"=some none)
  (tE_other:PySem.W.nsIn K TE "other"=some (some (.ref f_1i)))
  (tS_other:PySem.W.nsIn K TS "other"=some none)
  (a_play_save:PySem.W.nsIn K mainGlobals "play_save"=some (some (.ref f_play_save)))
  (tE_save:PySem.W.nsIn K TE "save"=some (some (.ref f_play_save)))
  (tS_save:PySem.W.nsIn K TS "save"=some none)
  (a_play_store:PySem.W.nsIn K mainGlobals "play_store"=some (some (.ref f_play_store)))
  (tE_store:PySem.W.nsIn K TE "store"=some (some (.ref f_play_store)))
  (tS_store:PySem.W.nsIn K TS "store"=some none)
  (a_play_put:PySem.W.nsIn K mainGlobals "play_put"=some (some (.ref f_play_put)))
  (tE_put:PySem.W.nsIn K TE "put"=some (some (.ref f_play_put)))
  (tS_put:PySem.W.nsIn K TS "put"=some none)
  (tE_fold:PySem.W.nsIn K TE "fold"=some (some (.ref f_1g)))
  (tS_fold:PySem.W.nsIn K TS "fold"=some none)
  (tE_running:PySem.W.nsIn K TE "running"=some (some (.ref f_1k)))
  (tS_running:PySem.W.nsIn K TS "running"=some none)
  (a_play_any:PySem.W.nsIn K mainGlobals "play_any"=some (some (.ref f_play_any)))
  (tE_any:PySem.W.nsIn K TE "any"=some (some (.ref f_play_any)))
  (tS_any:PySem.W.nsIn K TS "any"=some none)
  (tW_begin:PySem.W.nsIn K TW "begin"=some (some (.ref f_1d)))
  (tS_begin:PySem.W.nsIn K TS "begin"=some none)
  (tE_begin:PySem.W.nsIn K TE "begin"=some none)
  (tW_next:PySem.W.nsIn K TW "next"=some (some (.ref f_1h)))
  (tS_next:PySem.W.nsIn K TS "next"=some none)
  (tE_next:PySem.W.nsIn K TE "next"=some none)
  (a_play_turns:PySem.W.nsIn K mainGlobals "play_turns"=some (some (.ref f_play_turns)))
  (tW_turns:PySem.W.nsIn K TW "turns"=some (some (.ref f_play_turns)))
  (tS_turns:PySem.W.nsIn K TS "turns"=some none)
  (tE_turns:PySem.W.nsIn K TE "turns"=some none)
  (a_play_quiet:PySem.W.nsIn K mainGlobals "play_quiet"=some (some (.ref f_play_quiet)))
  (tW_quiet:PySem.W.nsIn K TW "quiet"=some (some (.ref f_play_quiet)))
  (tS_quiet:PySem.W.nsIn K TS "quiet"=some none)
  (tE_quiet:PySem.W.nsIn K TE "quiet"=some none)
  (a_play_till:PySem.W.nsIn K mainGlobals "play_till"=some (some (.ref f_play_till)))
  (tW_till:PySem.W.nsIn K TW "till"=some (some (.ref f_play_till)))
  (tS_till:PySem.W.nsIn K TS "till"=some none)
  (tE_till:PySem.W.nsIn K TE "till"=some none)
  (loS:(TS == sysModules)=false)
  (loE:(TE == sysModules)=false)
  (k_int_int:PySem.W.kitOne K (.type "int") (.type "int")=some true)
  (k_int_bool:PySem.W.kitOne K (.type "int") (.type "bool")=some false)
  (k_int_str:PySem.W.kitOne K (.type "int") (.type "str")=some false)
  (k_int_list:PySem.W.kitOne K (.type "int") (.type "list")=some false)
  (k_int_tuple:PySem.W.kitOne K (.type "int") (.type "tuple")=some false)
  (k_str_str:PySem.W.kitOne K (.type "str") (.type "str")=some true)
  (k_list_str:PySem.W.kitOne K (.type "list") (.type "str")=some false)
  (k_list_list:PySem.W.kitOne K (.type "list") (.type "list")=some true)
  (k_list_tuple:PySem.W.kitOne K (.type "list") (.type "tuple")=some false)
  (k_tuple_str:PySem.W.kitOne K (.type "tuple") (.type "str")=some false)
  (k_tuple_list:PySem.W.kitOne K (.type "tuple") (.type "list")=some false)
  (k_tuple_tuple:PySem.W.kitOne K (.type "tuple") (.type "tuple")=some true)
  (z_isinstance:PySem.W.nsIn K mainGlobals "isinstance"=some none)
  (z_int:PySem.W.nsIn K mainGlobals "int"=some none)
  (z_bool:PySem.W.nsIn K mainGlobals "bool"=some none)
  (z_str:PySem.W.nsIn K mainGlobals "str"=some none)
  (z_list:PySem.W.nsIn K mainGlobals "list"=some none)
  (z_tuple:PySem.W.nsIn K mainGlobals "tuple"=some none)
  (z_len:PySem.W.nsIn K mainGlobals "len"=some none)
  (z_range:PySem.W.nsIn K mainGlobals "range"=some none)
  (z_sum:PySem.W.nsIn K mainGlobals "sum"=some none)
  (z_min:PySem.W.nsIn K mainGlobals "min"=some none)
  (z_max:PySem.W.nsIn K mainGlobals "max"=some none)
  (z_zip:PySem.W.nsIn K mainGlobals "zip"=some none)
  (z_dict:PySem.W.nsIn K mainGlobals "dict"=some none)
  (aB:PySem.W.nsIn K mainGlobals "MANY_BOXES"=some (some (.int 8 tB)))
  (aM:PySem.W.nsIn K mainGlobals "MOST_TOGETHER"=some (some (.int 4 tM)))
  (aN:PySem.W.nsIn K mainGlobals "MANY_MASKS"=some (some (.int 16 tN)))
  (aH:PySem.W.nsIn K mainGlobals "HALF"=some (some (.int 9223372036854775808 tH)))
  (aC:PySem.W.nsIn K mainGlobals "CAP"=some (some (.int 1000000000 tC)))
  (aF:PySem.W.nsIn K mainGlobals "FREE_FOLDS"=some (some (.ref SF)))
  (lF:K.lookup SF=some ⟨.type "dict",none,.dict esF nF,#[]⟩)
  (kF:PySem.W.KeysLit w.params esF.toList)
  (aO:PySem.W.nsIn K mainGlobals "ORDERED_FOLDS"=some (some (.ref SO)))
  (lO:K.lookup SO=some ⟨.type "dict",none,.dict esO nO,#[]⟩)
  (kO:PySem.W.KeysLit w.params esO.toList)
  (h0:PySem.W.nsIn K SF "sum"=some (some (.ref f_1m)))
  (h1:PySem.W.nsIn K SF "product"=some (some (.ref f_1r)))
  (h2:PySem.W.nsIn K SF "least"=some (some (.ref f_1a)))
  (h3:PySem.W.nsIn K SF "most"=some (some (.ref f_p)))
  (h4:PySem.W.nsIn K SF "both"=some (some (.ref f_g)))
  (h5:PySem.W.nsIn K SF "either"=some (some (.ref f_h)))
  (h6:PySem.W.nsIn K SF "odd"=some (some (.ref f_i)))
  (n1:PySem.W.nsIn K SF "chain"=some none)
  (n2:PySem.W.nsIn K SF "capped"=some none)
  (lo:(SF == sysModules)=false)
  (h7:PySem.W.nsIn K SO "chain"=some (some (.ref f_k)))
  (h8:PySem.W.nsIn K SO "capped"=some (some (.ref f_j)))
  : ∃ fd:FuncData,(∀ (s:Shared) (v:Value),BindsTo s fd ⟨[v],[]⟩ [("_law_script",v)])/\∀ base:Heap,K.In base->base.Ns mainGlobals mg->FnOk l.prog w K mg base CX0 12 fa fd ["_law_script"] (spLaw K):=by
 have e:=hfa.symm.trans (PySem.W.mg_of X G a_law)
 cases e
 have d_start_of:zn K mg "start_of" xB ["lengths","row"]:=zp X G a_start_of l_1q c_1q k_1q fun _ _ _ _ _ _=>us2 fun _ _=>rfl
 have d_kept:zn K mg "kept" s_kept ["number"]:=zp X G a_kept l_t c_t k_t fun _ _ _ _ _ _=>us1 fun _=>rfl
 have d_plus:zn K mg "plus" s_plus ["left","right"]:=zp X G a_plus l_1m c_1m k_1m fun _ _ _ _ _ _=>us2 fun _ _=>rfl
 have d_times:zn K mg "times" s_times ["left","right"]:=zp X G a_times l_1r c_1r k_1r fun _ _ _ _ _ _=>us2 fun _ _=>rfl
 have d_lesser:zn K mg "lesser" s_lesser ["left","right"]:=zp X G a_lesser l_1a c_1a k_1a fun _ _ _ _ _ _=>us2 fun _ _=>rfl
 have d_greater:zn K mg "greater" xQ ["left","right"]:=zp X G a_greater l_p c_p k_p fun _ _ _ _ _ _=>us2 fun _ _=>rfl
 have d_bits_of_both:zn K mg "bits_of_both" yC ["left","right"]:=zp X G a_bits_of_both l_g c_g k_g fun _ _ _ _ _ _=>us2 fun _ _=>rfl
 have d_bits_of_either:zn K mg "bits_of_either" yp ["left","right"]:=zp X G a_bits_of_either l_h c_h k_h fun _ _ _ _ _ _=>us2 fun _ _=>rfl
 have d_bits_of_one:zn K mg "bits_of_one" yL ["left","right"]:=zp X G a_bits_of_one l_i c_i k_i fun _ _ _ _ _ _=>us2 fun _ _=>rfl
 have d_chained:zn K mg "chained" xS ["run","number"]:=zp X G a_chained l_k c_k k_k fun _ _ _ _ _ _=>us2 fun _ _=>rfl
 have d_capped:zn K mg "capped" s_capped ["run","number"]:=zp X G a_capped l_j c_j k_j fun _ _ _ _ _ _=>us2 fun _ _=>rfl
 have d_free:zn K mg "free" s_free ["fold"]:=zp X G a_free l_o c_o k_o fun _ _ _ _ _ _=>us1 fun _=>rfl
 have d_joined:zn K mg "joined" s_joined ["fold","run","number"]:=zp X G a_joined l_s c_s k_s fun _ _ _ _ _ _=>us3 fun _ _ _=>rfl
 have d_halved:zn K mg "halved" s_halved ["fold","numbers"]:=zp X G a_halved l_q c_q k_q fun _ _ _ _ _ _=>us2 fun _ _=>rfl
 have d_cut_join:zn K mg "cut_join" xE ["fold","numbers","feed"]:=zp X G a_cut_join l_l c_l k_l fun _ _ _ _ _ _=>us3 fun _ _ _=>rfl
 have d_doubled:zn K mg "doubled" xR ["fold","numbers"]:=zp X G a_doubled l_m c_m k_m fun _ _ _ _ _ _=>us2 fun _ _=>rfl
 have d_play_reach:zn K mg "play_reach" yV ["bench","step"]:=zp X G a_play_reach l_1j c_1j k_1j fun _ _ _ _ _ _=>us2 fun _ _=>rfl
 have d_lay_chosen:zn K mg "lay_chosen" yY ["bench","step","nought"]:=zp X G a_lay_chosen l_18 c_18 k_18 fun _ _ _ _ _ _=>us3 fun _ _ _=>rfl
 have d_play_choose:zn K mg "play_choose" yK ["bench","step"]:=zp X G a_play_choose l_1e c_1e k_1e fun _ _ _ _ _ _=>us2 fun _ _=>rfl
 have d_play_other:zn K mg "play_other" yW ["bench","step"]:=zp X G a_play_other l_1i c_1i k_1i fun _ _ _ _ _ _=>us2 fun _ _=>rfl
 have d_folded:zn K mg "folded" s_folded ["bench","fold","run","numbers"]:=zp X G a_folded l_n c_n k_n fun _ _ _ _ _ _=>us4 fun _ _ _ _=>rfl
 have d_play_fold:zn K mg "play_fold" xl ["bench","step"]:=zp X G a_play_fold l_1g c_1g k_1g fun _ _ _ _ _ _=>us2 fun _ _=>rfl
 have d_ran_in_order:zn K mg "ran_in_order" yz ["fold","numbers"]:=zp X G a_ran_in_order l_1o c_1o k_1o fun _ _ _ _ _ _=>us2 fun _ _=>rfl
 have d_running_numbers:zn K mg "running_numbers" yg ["fold","carried","numbers"]:=zp X G a_running_numbers l_1p c_1p k_1p fun _ _ _ _ _ _=>us3 fun _ _ _=>rfl
 have d_play_running:zn K mg "play_running" yA ["bench","step"]:=zp X G a_play_running l_1k c_1k k_1k fun _ _ _ _ _ _=>us2 fun _ _=>rfl
 have d_has_effect:zn K mg "has_effect" yZ ["word"]:=zp X G a_has_effect l_r c_r k_r fun _ _ _ _ _ _=>us1 fun _=>rfl
 have d_play_effect:zn K mg "play_effect" yJ ["bench","step"]:=zp X G a_play_effect l_1f c_1f k_1f fun _ _ _ _ _ _=>us2 fun _ _=>rfl
 have d_numbers_loaded:zn K mg "numbers_loaded" yo ["bench","step","active"]:=zp X G a_numbers_loaded l_1b c_1b k_1b fun _ _ _ _ _ _=>us3 fun _ _ _=>rfl
 have d_lays_seat:zn K mg "lays_seat" xm ["word"]:=zp X G a_lays_seat l_19 c_19 k_19 fun _ _ _ _ _ _=>us1 fun _=>rfl
 have d_play_seat_step:zn K mg "play_seat_step" yn ["bench","step"]:=zp X G a_play_seat_step l_1l c_1l k_1l fun _ _ _ _ _ _=>us2 fun _ _=>rfl
 have d_play_begin:zn K mg "play_begin" yX ["bench","step"]:=zp X G a_play_begin l_1d c_1d k_1d fun _ _ _ _ _ _=>us2 fun _ _=>rfl
 have d_play_next:zn K mg "play_next" xk ["bench","step"]:=zp X G a_play_next l_1h c_1h k_1h fun _ _ _ _ _ _=>us2 fun _ _=>rfl
 have d_place_behind:zn K mg "place_behind" yB ["bench","step"]:=zp X G a_place_behind l_1c c_1c k_1c fun _ _ _ _ _ _=>us2 fun _ _=>rfl
 have d_ran:zn K mg "ran" s_ran ["code","lengths","cells","lanes","dust","picks"]:=zp X G a_ran l_1n c_1n k_1n fun _ _ _ _ _ _=>us6 fun _ _ _ _ _ _=>rfl
 have d_l_cell_at:zn K mg "_law_cell_at" xn ["_law_script","_law_k"]:=zp X G a_l_cell_at l_v c_v k_v fun _ _ _ _ _ _=>us2 fun _ _=>rfl
 have d_l_some:zn K mg "_law_some" s_l_some ["_law_script","_law_k","_law_salt","_law_many"]:=zp X G a_l_some l_15 c_15 k_15 fun _ _ _ _ _ _=>us4 fun _ _ _ _=>rfl
 have d_l_number:zn K mg "_law_number" xC ["_law_script","_law_k"]:=zp X G a_l_number l_12 c_12 k_12 fun _ _ _ _ _ _=>us2 fun _ _=>rfl
 have d_l_alike:zn K mg "_law_alike" xo ["_law_found","_law_due"]:=zp X G a_l_alike l_u c_u k_u fun _ _ _ _ _ _=>us2 fun _ _=>rfl
 have d_l_lanes:zn K mg "_law_lanes" xN ["_law_cell"]:=zp X G a_l_lanes l_11 c_11 k_11 fun _ _ _ _ _ _=>us1 fun _=>rfl
 have d_l_group:zn K mg "_law_group" xP ["_law_script","_law_k","_law_salt"]:=zp X G a_l_group l_x c_x k_x fun _ _ _ _ _ _=>us3 fun _ _ _=>rfl
 have d_l_dust:zn K mg "_law_dust" s_l_dust ["_law_script","_law_k","_law_salt"]:=zp X G a_l_dust l_w c_w k_w fun _ _ _ _ _ _=>us3 fun _ _ _=>rfl
 have d_l_ran:zn K mg "_law_ran" s_l_ran ["_law_code","_law_lengths","_law_cells","_law_lanes_here","_law_dust_here","_law_picks"]:=zp X G a_l_ran l_13 c_13 k_13 fun _ _ _ _ _ _=>us6 fun _ _ _ _ _ _=>rfl
 have d_l_kept:zn K mg "_law_kept" s_l_kept ["_law_number_here"]:=zp X G a_l_kept l_10 c_10 k_10 fun _ _ _ _ _ _=>us1 fun _=>rfl
 have d_l_joined:zn K mg "_law_joined" xD ["_law_fold","_law_run","_law_number_here"]:=zp X G a_l_joined l_y c_y k_y fun _ _ _ _ _ _=>us3 fun _ _ _=>rfl
 have d_l_round:zn K mg "_law_round" xM ["_law_script","_law_k","_law_rows","_law_many","_law_group_here"]:=zp X G a_l_round l_14 c_14 k_14 fun _ _ _ _ _ _=>us5 fun _ _ _ _ _=>rfl
 have d_l_joins:zn K mg "_law_joins" xO ["_law_step","_law_place","_law_start","_law_active","_law_numbers","_law_carried","_law_due","_law_touches"]:=zp X G a_l_joins l_z c_z k_z fun _ _ _ _ _ _=>us8 fun _ _ _ _ _ _ _ _=>rfl
 have d_l_strip:zn K mg "_law_strip" xL ["_law_code","_law_opened","_law_base","_law_width","_law_starts","_law_carried","_law_due","_law_touches"]:=zp X G a_l_strip l_16 c_16 k_16 fun _ _ _ _ _ _=>us8 fun _ _ _ _ _ _ _ _=>rfl
 have d_Boxes_init:InitIn K C_Boxes "Boxes.__init__" y9 ["self","lanes"]:=⟨f_a,_,⟨mk_C_Boxes,at_a,fn_a,kC_C_Boxes⟩,zO l_a c_a k_a,(zO l_a c_a k_a).binds fun _ _ _ _ _ _=>us2 fun _ _=>rfl⟩
 have d_Boxes_spot_of:yf K C_Boxes "spot_of" "Boxes.spot_of" yu ["self","group","seat","lane"]:=⟨f_d,_,⟨at_d,fn_d,k_d⟩,zO l_d c_d k_d,(zO l_d c_d k_d).binds fun _ _ _ _ _ _=>us4 fun _ _ _ _=>rfl⟩
 have d_Boxes_lay:yf K C_Boxes "lay" "Boxes.lay" xq ["self","group","seat","lane","number"]:=⟨f_b,_,⟨at_b,fn_b,k_b⟩,zO l_b c_b k_b,(zO l_b c_b k_b).binds fun _ _ _ _ _ _=>us5 fun _ _ _ _ _=>rfl⟩
 have d_Boxes_number_at:yf K C_Boxes "number_at" "Boxes.number_at" yh ["self","group","seat","lane"]:=⟨f_c,_,⟨at_c,fn_c,k_c⟩,zO l_c c_c k_c,(zO l_c c_c k_c).binds fun _ _ _ _ _ _=>us4 fun _ _ _ _=>rfl⟩
 have d_Feed_init:InitIn K C_Feed "Feed.__init__" xp ["self","numbers"]:=⟨f_e,_,⟨mk_C_Feed,at_e,fn_e,kC_C_Feed⟩,zO l_e c_e k_e,(zO l_e c_e k_e).binds fun _ _ _ _ _ _=>us2 fun _ _=>rfl⟩
 have d_Feed_taken:yf K C_Feed "taken" "Feed.taken" y8 ["self"]:=⟨f_f,_,⟨at_f,fn_f,k_f⟩,zO l_f c_f k_f,(zO l_f c_f k_f).binds fun _ _ _ _ _ _=>us1 fun _=>rfl⟩
 have d_Bench_init:InitIn K C_Bench "Bench.__init__" xa ["self","lengths","cells","lanes","dust","picks"]:=⟨f_2,_,⟨mk_C_Bench,at_2,fn_2,kC_C_Bench⟩,zO l_2 c_2 k_2,(zO l_2 c_2 k_2).binds fun _ _ _ _ _ _=>us6 fun _ _ _ _ _ _=>rfl⟩
 have d_Bench_open_round:yf K C_Bench "open_round" "Bench.open_round" yc ["self","many","group"]:=⟨f_6,_,⟨at_6,fn_6,k_6⟩,zO l_6 c_6 k_6,(zO l_6 c_6 k_6).binds fun _ _ _ _ _ _=>us3 fun _ _ _=>rfl⟩
 have d_Bench_begin_strip:yf K C_Bench "begin_strip" "Bench.begin_strip" z9 ["self","base"]:=⟨f_1,_,⟨at_1,fn_1,k_1⟩,zO l_1 c_1 k_1,(zO l_1 c_1 k_1).binds fun _ _ _ _ _ _=>us2 fun _ _=>rfl⟩
 have d_Bench_active_under:yf K C_Bench "active_under" "Bench.active_under" zU ["self","mask"]:=⟨f_0,_,⟨at_0,fn_0,k_0⟩,zO l_0 c_0 k_0,(zO l_0 c_0 k_0).binds fun _ _ _ _ _ _=>us2 fun _ _=>rfl⟩
 have d_Bench_numbers_in:yf K C_Bench "numbers_in" "Bench.numbers_in" yd ["self","seat","active"]:=⟨f_5,_,⟨at_5,fn_5,k_5⟩,zO l_5 c_5 k_5,(zO l_5 c_5 k_5).binds fun _ _ _ _ _ _=>us3 fun _ _ _=>rfl⟩
 have d_Bench_lay_seat:yf K C_Bench "lay_seat" "Bench.lay_seat" yq ["self","seat","active","numbers"]:=⟨f_4,_,⟨at_4,fn_4,k_4⟩,zO l_4 c_4 k_4,(zO l_4 c_4 k_4).binds fun _ _ _ _ _ _=>us4 fun _ _ _ _=>rfl⟩
 have d_Bench_lay_mask:yf K C_Bench "lay_mask" "Bench.lay_mask" yr ["self","mask","chosen"]:=⟨f_3,_,⟨at_3,fn_3,k_3⟩,zO l_3 c_3 k_3,(zO l_3 c_3 k_3).binds fun _ _ _ _ _ _=>us3 fun _ _ _=>rfl⟩
 have d_Bench_touch:yf K C_Bench "touch" "Bench.touch" yM ["self","kind","address"]:=⟨f_8,_,⟨at_8,fn_8,k_8⟩,zO l_8 c_8 k_8,(zO l_8 c_8 k_8).binds fun _ _ _ _ _ _=>us3 fun _ _ _=>rfl⟩
 have d_Bench_read_cell:yf K C_Bench "read_cell" "Bench.read_cell" yi ["self","row","place"]:=⟨f_7,_,⟨at_7,fn_7,k_7⟩,zO l_7 c_7 k_7,(zO l_7 c_7 k_7).binds fun _ _ _ _ _ _=>us3 fun _ _ _=>rfl⟩
 have d_Bench_write_cell:yf K C_Bench "write_cell" "Bench.write_cell" yb ["self","row","place","number"]:=⟨f_9,_,⟨at_9,fn_9,k_9⟩,zO l_9 c_9 k_9,(zO l_9 c_9 k_9).binds fun _ _ _ _ _ _=>us4 fun _ _ _ _=>rfl⟩
 have cl_Boxes:Cls K C_Boxes:=⟨c1_C_Boxes,c2_C_Boxes,c3_C_Boxes,c4_C_Boxes⟩
 have cl_Feed:Cls K C_Feed:=⟨c1_C_Feed,c2_C_Feed,c3_C_Feed,c4_C_Feed⟩
 have cl_Bench:Cls K C_Bench:=⟨c1_C_Bench,c2_C_Bench,c3_C_Bench,c4_C_Bench⟩
 have mm:=fun {x:Str} {v:Value} (q:PySem.W.nsIn K mainGlobals x=some (some v))=>PySem.W.mg_of X G q
 have mz:=fun {x:Str} (q:PySem.W.nsIn K mainGlobals x=some none)=>PySem.W.mg_none_of X G q
 refine ⟨PySem.W.fnOf "law" "law" (zk s_law) (zj s_law) (zd s_law) .none kV_17 dc_17 pm_17 an_17 cd_17 ct_17,fun s v=>.of_eq rfl,fun base kb nb=>?_⟩
 let c:MCs:=⟨C_Boxes,C_Feed,C_Bench⟩
 let t:TabA:=⟨TS,TE,TW⟩
 have BC:BCls K C_Boxes:=⟨cl_Boxes,n_C_Boxes_lanes,n_C_Boxes_numbers⟩
 have FC:FCls K C_Feed:=⟨cl_Feed,n_C_Feed_numbers,n_C_Feed_at⟩
 have NC:NCls K C_Bench:=⟨cl_Bench,n_C_Bench_lengths,n_C_Bench_starts,n_C_Bench_cells,n_C_Bench_lanes,n_C_Bench_boxes,n_C_Bench_masks,n_C_Bench_slots,n_C_Bench_dust,n_C_Bench_picks,n_C_Bench_touches,n_C_Bench_at,n_C_Bench_opened,n_C_Bench_many,n_C_Bench_group,n_C_Bench_base,n_C_Bench_begun,n_C_Bench_width,n_C_Bench_faults,n_C_Bench_cut,n_C_Bench_carried,n_C_Bench_raised,n_C_Bench_turns,n_C_Bench_refusal⟩
 have CC:MCls K c:=⟨BC,FC,NC⟩
 have TT:Tabs w K mg t:=⟨⟨esS,nS,lS,kS⟩,⟨esE,nE,lE,kE⟩,⟨esW,nW,lW,kW⟩,loS,loE,mm aS,mm aE,mm aW,⟨_,tS_number,mm a_numbers_written⟩,⟨_,tS_here,mm a_numbers_of_here⟩,⟨_,tS_load,mm a_numbers_loaded⟩,⟨_,tS_spread,mm a_numbers_spread⟩,⟨_,tS_shift,mm a_numbers_shifted⟩,⟨_,tS_gather,mm a_numbers_gathered⟩,⟨_,tS_op,mm a_numbers_joined⟩,⟨_,tS_pick,mm a_numbers_picked⟩,⟨_,tS_copy,mm a_numbers_copied⟩,⟨_,tS_bring,mm a_numbers_brought⟩,⟨_,tE_reach,mm a_play_reach⟩,tS_reach,⟨_,tE_trim,mm a_play_trim⟩,tS_trim,⟨_,tE_stop,mm a_play_stop⟩,tS_stop,⟨_,tE_choose,mm a_play_choose⟩,tS_choose,⟨_,tE_other,mm a_play_other⟩,tS_other,⟨_,tE_save,mm a_play_save⟩,tS_save,⟨_,tE_store,mm a_play_store⟩,tS_store,⟨_,tE_put,mm a_play_put⟩,tS_put,⟨_,tE_fold,mm a_play_fold⟩,tS_fold,⟨_,tE_running,mm a_play_running⟩,tS_running,⟨_,tE_any,mm a_play_any⟩,tS_any,⟨_,tW_begin,mm a_play_begin⟩,tS_begin,tE_begin,⟨_,tW_next,mm a_play_next⟩,tS_next,tE_next,⟨_,tW_turns,mm a_play_turns⟩,tS_turns,tE_turns,⟨_,tW_quiet,mm a_play_quiet⟩,tS_quiet,tE_quiet,⟨_,tW_till,mm a_play_till⟩,tS_till,tE_till⟩
 have SPo:=ok_spot (P:=l.prog) (w:=w) (mg:=mg) (base:=base) d_Boxes_spot_of BC
 have LAy:=ok_lay d_Boxes_lay BC SPo
 have NUm:=ok_num d_Boxes_number_at BC SPo
 have TK:=ok_taken (P:=l.prog) (w:=w) (mg:=mg) (base:=base) d_Feed_taken FC (mz z_len)
 have IFe:=ok_initF (P:=l.prog) (w:=w) (mg:=mg) (base:=base) d_Feed_init FC (mz z_list)
 have IBo:=ok_initB (P:=l.prog) (w:=w) (mg:=mg) (base:=base) d_Boxes_init BC (mm aB)
 have TOu:=ok_touch (P:=l.prog) (w:=w) (mg:=mg) (base:=base) (c:=c) d_Bench_touch NC
 have RCe:=ok_read (c:=c) d_Bench_read_cell NC TOu
 have WCe:=ok_write (c:=c) d_Bench_write_cell NC TOu
 have AU:=ok_act (P:=l.prog) (w:=w) (mg:=mg) (base:=base) (c:=c) d_Bench_active_under (mz z_range) NC
 have NI:=ok_nums (c:=c) d_Bench_numbers_in CC NUm
 have LMa:=ok_mask (c:=c) d_Bench_lay_mask (mz z_range) CC TK
 have LSe:=ok_seat (c:=c) d_Bench_lay_seat (mz z_range) (mz z_dict) (mz z_zip) CC TK LAy
 have BSt:=ok_strip (c:=c) d_Bench_begin_strip (mz z_range) (mz z_list) (mz z_min) CC LMa
 have ORo:=ok_round (c:=c) d_Bench_open_round CC BSt
 have SOf:=ok_start (P:=l.prog) (w:=w) (base:=base) d_start_of (mz z_sum)
 have INi:=ok_initN (c:=c) d_Bench_init CC (mz z_list) (mz z_len) (mz z_range) (mm aM) (mm aN) (mm a_C_Boxes) (mm a_C_Feed) SOf IBo IFe
 have LSW:=ok_lsw (P:=l.prog) (base:=base) (t:=t) d_lays_seat TT
 have HEW:=ok_hew (P:=l.prog) (base:=base) (t:=t) d_has_effect TT
 have LO:=ok_loaded (c:=c) d_numbers_loaded CC RCe
 have BEg:=ok_begin (c:=c) d_play_begin CC ORo
 have NEx:=ok_next (c:=c) d_play_next CC BSt
 have LCh:=ok_chosen (c:=c) d_lay_chosen (mz z_zip) CC AU NI LMa
 have CHo:=ok_choose (c:=c) d_play_choose LCh
 have OTh:=ok_other (c:=c) d_play_other LCh
 have Sf:Folds w K mg SF SO:=⟨⟨_,h0,mm a_plus⟩,⟨_,h1,mm a_times⟩,⟨_,h2,mm a_lesser⟩,⟨_,h3,mm a_greater⟩,⟨_,h4,mm a_bits_of_both⟩,⟨_,h5,mm a_bits_of_either⟩,⟨_,h6,mm a_bits_of_one⟩,n1,n2,lo,⟨esF,nF,lF,kF⟩,mm aF,⟨_,h7,mm a_chained⟩,⟨_,h8,mm a_capped⟩,⟨esO,nO,lO,kO⟩,mm aO⟩
 have GK:=ok_kept (P:=l.prog) (w:=w) (base:=base) d_kept (mm aH)
 have Ff:FnsF l.prog w K mg base:=⟨ok_plus d_plus GK,ok_times d_times GK,ok_lesser d_lesser (mz z_min),ok_greater d_greater (mz z_max),ok_both d_bits_of_both,ok_either d_bits_of_either,ok_one d_bits_of_one,ok_chained d_chained GK,ok_capped d_capped (mm aC) (mz z_min) (mz z_max)⟩
 have FR:=ok_free (P:=l.prog) (base:=base) d_free Sf
 have JO:=ok_joined d_joined Sf FR Ff
 have HV:=ok_halved d_halved JO (mz z_len) (mz z_range)
 have CJ:=ok_cut d_cut_join FC HV TK (mz z_len) (mz z_list)
 have FOl:=ok_folded (c:=c) d_folded CC FR JO CJ
 have FOd:=ok_fold (c:=c) d_play_fold (mz z_len) CC AU NI RCe WCe FOl
 have DB:=ok_doubled d_doubled JO (mz z_len) (mz z_range) (mz z_list)
 have ROr:=ok_order d_ran_in_order JO
 have RUn:=ok_running_numbers d_running_numbers FR JO DB ROr
 have RUg:=ok_running (c:=c) d_play_running (mz z_zip) CC AU NI WCe RUn
 have REa:=ok_reach (c:=c) d_play_reach (mz z_zip) CC AU NI
 have SW:SeatWords l.prog w K mg base c t Lx.S 6:=fun word f h=>by
  obtain ⟨rfl,rfl⟩:=h
  exact ⟨_,_,TT.s_load,LO.mono (by decide),loadM_ok⟩
 have EW:EffWords l.prog w K mg base c t Lx.E 7:=fun word f h=>by
  rcases h with ⟨rfl,rfl⟩ | ⟨rfl,rfl⟩ | ⟨rfl,rfl⟩ | ⟨rfl,rfl⟩ | ⟨rfl,rfl⟩
  ·exact ⟨TT.es_fold,_,_,TT.e_fold,FOd.mono (by decide)⟩
  ·exact ⟨TT.es_running,_,_,TT.e_running,RUg.mono (by decide)⟩
  ·exact ⟨TT.es_choose,_,_,TT.e_choose,CHo.mono (by decide)⟩
  ·exact ⟨TT.es_other,_,_,TT.e_other,OTh.mono (by decide)⟩
  ·exact ⟨TT.es_reach,_,_,TT.e_reach,REa.mono (by decide)⟩
 have WW:WayWords l.prog w K mg base c t Lx.W 8:=fun word f h=>by
  rcases h with ⟨rfl,rfl⟩ | ⟨rfl,rfl⟩
  ·exact ⟨TT.ws_begin,TT.we_begin,_,_,TT.w_begin,BEg.mono (by decide)⟩
  ·exact ⟨TT.ws_next,TT.we_next,_,_,TT.w_next,NEx.mono (by decide)⟩
 have PSS:=ok_pss (c:=c) (t:=t) d_play_seat_step CC TT (by decide) AU LSe SW
 have PEf:=ok_pe (c:=c) (t:=t) (by decide) d_play_effect TT EW
 have PBe:=ok_pb (c:=c) (t:=t) d_place_behind CC TT (by decide) SW EW WW LSW HEW PSS PEf
 have RN0:=ok_ran (c:=c) d_ran CC (mz z_len) (mm a_C_Bench) INi PBe
 have RN:=ok_lran (c:=c) d_l_ran (mz z_list) RN0
 have CA:=ok_cell_at (P:=l.prog) (w:=w) (base:=base) d_l_cell_at (mz z_len)
 have SM2:=ok_some2 d_l_some CA
 have SM:=K40.Ok.weak SM2 some_weak
 have NBK:=ok_numK d_l_number CA SM
 have NB:=K40.Ok.weak NBK num_weak
 have AKs:AlK K mg:=⟨mz z_isinstance,mz z_int,mz z_bool,mz z_str,mz z_list,mz z_tuple,k_int_int,k_int_bool,k_int_str,k_int_list,k_int_tuple,k_str_str,k_list_str,k_list_list,k_list_tuple,k_tuple_str,k_tuple_list,k_tuple_tuple⟩
 have AL:=ok_alike (P:=l.prog) (w:=w) (base:=base) d_l_alike AKs (mz z_len) (mz z_zip) 3
 have LJ:=ok_ljoined (P:=l.prog) (w:=w) (base:=base) d_l_joined (ok_lkept d_l_kept) (mz z_min) (mz z_max)
 have JNs:=ok_joins d_l_joins (mz z_len) (mz z_zip) LJ
 have STr:=ok_strip4 d_l_strip (mz z_len) (mz z_zip) (mz z_range) (mz z_list) JNs
 have ROu:=ok_round4 d_l_round (mz z_range) SM2
 exact ok_law (c:=c) (zO (st:=s_law) l_17 c_17 k_17) (mz z_len) (mz z_range) (mz z_list) (mz z_sum) (mz z_min) CA SM (ok_lanes d_l_lanes) (ok_group d_l_group SM) NBK (ok_dust d_l_dust (mz z_range) SM NB) ROu STr AL RN
theorem walk {l:PySem.W.OpenLaw} {q:Program} {loose:List Str} {XP:(Str->Option Value)->Heap->Prop} {YP:World->Heap->Prop} {d:DefRec} {K:Params->PySem.W.Frag} (hn:l.most=some 63) (hdf:d.params.defaults=[])
  (hY:∀ (w:World) (h:Heap),YP w h->(K w.params).In h)
  (F:∀ (w:World) (mg:Str->Option Value) (fa:Addr) (h:Heap),(K w.params).In h->h.Ns mainGlobals mg->mg d.name=some (.ref fa) ->
   ∃ fd:FuncData,(∀ (s:Shared) (u:Value),BindsTo s fd ⟨[u],[]⟩ [("_law_script",u)])/\∀ base:Heap,(K w.params).In base->base.Ns mainGlobals mg->FnOk l.prog w (K w.params) mg base CX0 12 fa fd ["_law_script"] (spLaw (K w.params))) :
  PySem.W.WalkO q loose XP YP l.row.toRowW d [] (fun f vs=>PySem.call f vs) :=
 L2.walk_of (n:=63) (k:=12) (x:="_law_script") (CX:=fun _=>CX0) (sp:=fun w=>spLaw (K w.params)) hn (by decide) hdf ⟨rfl,by decide,by decide⟩ hY F (fun _ _ a ns hl _ hS=>⟨a,ns,rfl,hS,hl,fun _=>rfl⟩) fun _ _ _ _ _ z=>z
end K40
open PySem PySem.W PyProof.Rows
set_option maxRecDepth 100000 in
set_option maxHeartbeats 0 in
theorem PySem.Challenge.cw_rowbreadth_k40_folded_and_running_holds : PySem.Challenge.rw_rowbreadth_k40_folded_and_running.Holds := by
  w_on;o_law;k_head;(case hw=>w_witness2)
  k_fill
  refine K40.walk (l:=PySem.Challenge.rw_rowbreadth_k40_folded_and_running) rfl rfl (fun w h Y=>PySem.W.kIn_of Y) ?F
  case F =>
    intro w mg fa h KX G hmg
    refine' K40.all_mk KX G hmg ?q0 ?q1 ?q2 ?q3 ?q4 ?q5 ?q6 ?q7 ?q8 ?q9 ?qa ?qb ?qc ?qd ?qe ?qf ?qg ?qh ?qi ?qj ?qk ?ql ?qm ?qn ?qo ?qp ?qq ?qr ?qs ?qt ?qu ?qv ?qw ?qx ?qy ?qz ?q10 ?q11 ?q12 ?q13 ?q14 ?q15 ?q16 ?q17 ?q18 ?q19 ?q1a ?q1b ?q1c ?q1d ?q1e ?q1f ?q1g ?q1h ?q1i ?q1j ?q1k ?q1l ?q1m ?q1n ?q1o ?q1p ?q1q ?q1r ?q1s ?q1t ?q1u ?q1v ?q1w ?q1x ?q1y ?q1z ?q20 ?q21 ?q22 ?q23 ?q24 ?q25 ?q26 ?q27 ?q28 ?q29 ?q2a ?q2b ?q2c ?q2d ?q2e ?q2f ?q2g ?q2h ?q2i ?q2j ?q2k ?q2l ?q2m ?q2n ?q2o ?q2p ?q2q ?q2r ?q2s ?q2t ?q2u ?q2v ?q2w ?q2x ?q2y ?q2z ?q30 ?q31 ?q32 ?q33 ?q34 ?q35 ?q36 ?q37 ?q38 ?q39 ?q3a ?q3b ?q3c ?q3d ?q3e ?q3f ?q3g ?q3h ?q3i ?q3j ?q3k ?q3l ?q3m ?q3n ?q3o ?q3p ?q3q ?q3r ?q3s ?q3t ?q3u ?q3v ?q3w ?q3x ?q3y ?q3z ?q40 ?q41 ?q42 ?q43 ?q44 ?q45 ?q46 ?q47 ?q48 ?q49 ?q4a ?q4b ?q4c ?q4d ?q4e ?q4f ?q4g ?q4h ?q4i ?q4j ?q4k ?q4l ?q4m ?q4n ?q4o ?q4p ?q4q ?q4r ?q4s ?q4t ?q4u ?q4v ?q4w ?q4x ?q4y ?q4z ?q50 ?q51 ?q52 ?q53 ?q54 ?q55 ?q56 ?q57 ?q58 ?q59 ?q5a ?q5b ?q5c ?q5d ?q5e ?q5f ?q5g ?q5h ?q5i ?q5j ?q5k ?q5l ?q5m ?q5n ?q5o ?q5p ?q5q ?q5r ?q5s ?q5t ?q5u ?q5v ?q5w ?q5x ?q5y ?q5z ?q60 ?q61 ?q62 ?q63 ?q64 ?q65 ?q66 ?q67 ?q68 ?q69 ?q6a ?q6b ?q6c ?q6d ?q6e ?q6f ?q6g ?q6h ?q6i ?q6j ?q6k ?q6l ?q6m ?q6n ?q6o ?q6p ?q6q ?q6r ?q6s ?q6t ?q6u ?q6v ?q6w ?q6x ?q6y ?q6z ?q70 ?q71 ?q72 ?q73 ?q74 ?q75 ?q76 ?q77 ?q78 ?q79 ?q7a ?q7b ?q7c ?q7d ?q7e ?q7f ?q7g ?q7h ?q7i ?q7j ?q7k ?q7l ?q7m ?q7n ?q7o ?q7p ?q7q ?q7r ?q7s ?q7t ?q7u ?q7v ?q7w ?q7x ?q7y ?q7z ?q80 ?q81 ?q82 ?q83 ?q84 ?q85 ?q86 ?q87 ?q88 ?q89 ?q8a ?q8b ?q8c ?q8d ?q8e ?q8f ?q8g ?q8h ?q8i ?q8j ?q8k ?q8l ?q8m ?q8n ?q8o ?q8p ?q8q ?q8r ?q8s ?q8t ?q8u ?q8v ?q8w ?q8x ?q8y ?q8z ?q90 ?q91 ?q92 ?q93 ?q94 ?q95 ?q96 ?q97 ?q98 ?q99 ?q9a ?q9b ?q9c ?q9d ?q9e ?q9f ?q9g ?q9h ?q9i ?q9j ?q9k ?q9l ?q9m ?q9n ?q9o ?q9p ?q9q ?q9r ?q9s ?q9t ?q9u ?q9v ?q9w ?q9x ?q9y ?q9z ?qa0 ?qa1 ?qa2 ?qa3 ?qa4 ?qa5 ?qa6 ?qa7 ?qa8 ?qa9 ?qaa ?qab ?qac ?qad ?qae ?qaf ?qag ?qah ?qai ?qaj ?qak ?qal ?qam ?qan ?qao ?qap ?qaq ?qar ?qas ?qat ?qau ?qav ?qaw ?qax ?qay ?qaz ?qb0 ?qb1 ?qb2 ?qb3 ?qb4 ?qb5 ?qb6 ?qb7 ?qb8 ?qb9 ?qba ?qbb ?qbc ?qbd ?qbe ?qbf ?qbg ?qbh ?qbi ?qbj ?qbk ?qbl ?qbm ?qbn ?qbo ?qbp ?qbq ?qbr ?qbs ?qbt ?qbu ?qbv ?qbw ?qbx ?qby ?qbz ?qc0 ?qc1 ?qc2 ?qc3 ?qc4 ?qc5 ?qc6 ?qc7 ?qc8 ?qc9 ?qca ?qcb
    (case q0 | q1 | q2 | q3 | q4 | q5 | q6 | q7 | q8 | q9 | qa | qb | qc | qd | qe | qf | qg | qh | qi | qj | qk | ql | qm | qn | qo | qp | qq | qr | qs | qt | qu | qv | qw | qx | qy | qz | q10 | q11 | q12 | q13=>k_is)
    (case q14 | q15 | q16 | q17 | q18 | q19 | q1a | q1b | q1c | q1d | q1e | q1f | q1g | q1h | q1i | q1j | q1k | q1l | q1m | q1n | q1o | q1p | q1q | q1r | q1s | q1t | q1u | q1v | q1w | q1x | q1y | q1z | q20 | q21 | q22 | q23 | q24 | q25 | q26 | q27=>k_is)
    (case q28 | q29 | q2a | q2b | q2c | q2d | q2e | q2f | q2g | q2h | q2i | q2j | q2k | q2l | q2m | q2n | q2o | q2p | q2q | q2r | q2s | q2t | q2u | q2v | q2w | q2x | q2y | q2z | q30 | q31 | q32 | q33 | q34 | q35 | q36 | q37 | q38 | q39 | q3a | q3b=>k_is)
    (case q3c | q3d | q3e | q3f | q3g | q3h | q3i | q3j | q3k | q3l | q3m | q3n | q3o | q3p | q3q | q3r | q3s | q3t | q3u | q3v | q3w | q3x | q3y | q3z | q40 | q41 | q42 | q43 | q44 | q45 | q46 | q47 | q48 | q49 | q4a | q4b | q4c | q4d | q4e | q4f=>k_is)
    (case q4g | q4h | q4i | q4j | q4k | q4l | q4m | q4n | q4o | q4p | q4q | q4r | q4s | q4t | q4u | q4v | q4w | q4x | q4y | q4z | q50 | q51 | q52 | q53 | q54 | q55 | q56 | q57 | q58 | q59 | q5a | q5b | q5c | q5d | q5e | q5f | q5g | q5h | q5i | q5j=>k_is)
    (case q5k | q5l | q5m | q5n | q5o | q5p | q5q | q5r | q5s | q5t | q5u | q5v | q5w | q5x | q5y | q5z | q60 | q61 | q62 | q63 | q64 | q65 | q66 | q67 | q68 | q69 | q6a | q6b | q6c | q6d | q6e | q6f | q6g | q6h | q6i | q6j | q6k | q6l | q6m | q6n=>k_is)
    (case q6o | q6p | q6q | q6r | q6s | q6t | q6u | q6v | q6w | q6x | q6y | q6z | q70 | q71 | q72 | q73 | q74 | q75 | q76 | q77 | q78 | q79 | q7a | q7b | q7c | q7d | q7e | q7f | q7g | q7h | q7i | q7j | q7k | q7l | q7m | q7n | q7o | q7p | q7q | q7r=>k_is)
    (case q7s | q7t | q7u | q7v | q7w | q7x | q7y | q7z | q80 | q81 | q82 | q83 | q84 | q85 | q86 | q87 | q88 | q89 | q8a | q8b | q8c | q8d | q8e | q8f | q8g | q8h | q8i | q8j | q8k | q8l | q8m | q8n | q8o | q8p | q8q | q8r | q8s | q8t | q8u | q8v=>k_is)
    (case q8w | q8x=>k_is)
    (case q8y=>k_keys)
    (case q8z | q90=>k_is)
    (case q91=>k_keys)
    (case q92 | q93=>k_is)
    (case q94=>k_keys)
    (case q95 | q96 | q97 | q98 | q99 | q9a | q9b | q9c | q9d | q9e | q9f | q9g | q9h | q9i | q9j | q9k | q9l | q9m | q9n | q9o | q9p | q9q | q9r | q9s | q9t | q9u | q9v | q9w | q9x | q9y | q9z | qa0 | qa1 | qa2 | qa3 | qa4 | qa5 | qa6 | qa7 | qa8=>k_is)
    (case qa9 | qaa | qab | qac | qad | qae | qaf | qag | qah | qai | qaj | qak | qal | qam | qan | qao | qap | qaq | qar | qas | qat | qau | qav | qaw | qax=>k_is)
    (case qay | qaz=>rfl)
    (case qb0 | qb1 | qb2 | qb3 | qb4 | qb5 | qb6 | qb7 | qb8 | qb9 | qba | qbb=>kit_is)
    (case qbc | qbd | qbe | qbf | qbg | qbh | qbi | qbj | qbk | qbl | qbm | qbn | qbo | qbp | qbq | qbr | qbs | qbt | qbu | qbv=>k_is)
    (case qbw=>k_keys)
    (case qbx | qby=>k_is)
    (case qbz=>k_keys)
    (case qc0 | qc1 | qc2 | qc3 | qc4 | qc5 | qc6 | qc7 | qc8=>k_is)
    (case qc9=>rfl)
    (case qca | qcb=>k_is)
