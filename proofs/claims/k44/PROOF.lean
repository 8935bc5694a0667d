import PyProof.Rows.All
import Wide.All
import Wide.FinOn
import OpenK.KLine
import KE.RegKIsAll
import KE.KDictOf
import KE.KItem
import KE.LcSums
import KE.KBits
import PyProof.EqAt
import PyProof.EqKinds
import PyProof.TupleCall
import KE.RegKTryMore
import KE.KTryMore
import PySem.Challenge.RW_rowbreadth_k44_right_nests_made
set_option Elab.async false
set_option linter.all false
set_option maxRecDepth 100000
set_option maxHeartbeats 4000000
abbrev Fg:=PySem.W.Frag
abbrev Vl:=PySem.Value
abbrev Ad:=PySem.Addr
abbrev Sh:=PySem.Shared
abbrev J0:=PySem.Str->Option Vl
abbrev J5:=Vl->Sh->Prop
abbrev J6:=List Int
abbrev J7:=List (Ad×PySem.Obj)
abbrev J8:=List Vl
abbrev Ja:=Option Vl
abbrev Jb:=List PySem.Str
abbrev Jc:=List Ad
abbrev Jd:=List PySem.Expr
theorem Je {α:Type _} {β:Type _} {as:List α} {f:α->β}:(as.map f).length=as.length:=List.length_map ..
theorem Jf {α:Type _} {as bs:List α}:(as++bs).length=as.length+bs.length:=List.length_append ..
theorem Jg {α:Type _} {β:Type _} {f:α->β} {as bs:List α}:(as++bs).map f=as.map f++bs.map f:=List.map_append ..
namespace PySem.W.Fast
def tw4799140051211279835:=0
def tw13772909448957203524:=0
def tw2741580324927058862:=0
def tw8624920919149595666:=0
def tw16688785278627735058:=0
def tw10803019645161376484:=0
def tw8254360746112085847:=0
def tw1415807191214090427:=0
def tw16925499483688149460:=0
def tw10672685937165457499:=0
def tw8730100040072193385:=0
def tw13699590338327202963:=0
def tw10812470498423953897:=0
def tw11901164574923364881:=0
def tw14935522162464221113:=0
def tw49163645323318204:=0
def tw7790212819547881015:=0
def tw8878056048653725669:=0
def tw14012011216738966771:=0
def tw2346689494632308676:=0
def tw12004148600502369873:=0
def tw7536780795731446192:=0
def tw5384900201431882666:=0
def tw6225851543228546419:=0
def tw18084986682087271587:=0
def tw9220752398190876974:=0
def tw9727242534212199897:=0
def tw224001165899876274:=0
def tw1868895336114798508:=0
def tw14097630354550729336:=0
def tw3039165114638115526:=0
def tw10718677813727417533:=0
def tw5581434671197387016:=0
def tw10597761166963526088:=0
def tw2803757993064262593:=0
def tw12756178291975299203:=0
def tw4720151372120473735:=0
def tw17439733954576895342:=0
def tw11505041707717722990:=0
def tw13010792519529578825:=0
def tw818367744440751277:=0
def tw15528555667681058829:=0
def tw11321171961702049767:=0
def tw10803097877179760040:=0
def tw14322457841963041343:=0
def tw17794752610080096338:=0
def tw16817388608449549015:=0
def tw2448802007354426360:=0
def tw15508332080496322169:=0
def tw7525652833534935061:=0
def tw4949742600393175258:=0
def tw11529693525799234362:=0
def tw4761811691963393865:=0
def tw2476491746403250261:=0
def tw13655277817492095837:=0
def tw14241368884376698589:=0
def tw6138037166652988515:=0
def tw17626579706587676273:=0
def tw17611016463660306607:=0
def tw4232894632524180614:=0
def tw4398039425422982782:=0
def tw3724321524371349894:=0
def tw12621274720818959509:=0
def tw15558622085773649614:=0
def tw8026534137996275718:=0
def tw14736810666608777640:=0
def tw10573184738775659063:=0
def tw7323135019014536237:=0
def tw5628604895930667596:=0
def tw6680591515366233491:=0
def tw5240023322030886226:=0
def tw96688944715049374:=0
def tw12851984243110004744:=0
def tw4853622483472451334:=0
def tw15146382185429936986:=0
def tw9602221126794592213:=0
def tw13762222152642274392:=0
def tw2803453203615276853:=0
def tw7933959474698744525:=0
def tw10077509305755447529:=0
def tw5651578074083359888:=0
def tw6913350523813549152:=0
def tw6757204290332836187:=0
def tw7881268862364841182:=0
def tw11168667310094584320:=0
def tw14162444100421697026:=0
def tw14398102410586047173:=0
def tw499377122123698396:=0
def tw5672114323356644630:=0
def tw8008096170299635773:=0
def tw17142226805329194734:=0
def tw2626562023422546927:=0
def tw16109273321985380323:=0
def tw10761942839547965288:=0
def tw4402675041740002260:=0
def tw6077848633001960603:=0
def tw9374049500461621598:=0
def tw9172660044244691478:=0
def tw18299388656731079254:=0
def tw974108386486857815:=0
def tw12245685838117453183:=0
def tw7790420867279849963:=0
def tw10394618149496489916:=0
def tw11990287316187465327:=0
def tw473706600352847445:=0
def tw14037293471619004560:=0
def tw11064256170041620656:=0
def tw9805980652758754687:=0
def tw9066400285797143290:=0
def tw762838212729065524:=0
def tw3473149299584972193:=0
def tw10953888238122926152:=0
def tw5308749680999381230:=0
def tw1446306294878458003:=0
def tw46847819062327830:=0
def tw13283710988988765616:=0
def tw9247112236138146660:=0
def tw18353764046128735443:=0
def tw6884285927950920890:=0
def tw13787055063627918077:=0
def tw4926617376308495260:=0
def tw18375285038809005900:=0
def tw6829318353330950733:=0
def tw14883151919218722911:=0
def tw7380936446566129535:=0
def tw12733216320374518695:=0
def tw7142578769370868815:=0
def tw10799298970949118784:=0
def tw16668401558627662928:=0
def tw3466246688538148874:=0
def tw16614610454732561273:=0
def tw5124531312000925032:=0
def tw14050660211724708068:=0
def tw634884731237927889:=0
def tw8354675334311338878:=0
def tw5632391973317047643:=0
def tw1340080910731300915:=0
def tw9527068117452549777:=0
def tw18207106454240064343:=0
def tw6406537480141876984:=0
def tw2089470484454518757:=0
def tw8604087339122368923:=0
def tw1243962201029114595:=0
def tw12871629750274007828:=0
def tw6946455454913353423:=0
def tw4691980758184164633:=0
def tw2945542168464013121:=0
def tw12849714168681700964:=0
def tw17398966389618056773:=0
def tw4150101560519772439:=0
def tw10216998692333001135:=0
def tw14425128719141164000:=0
def tw12910579156549707924:=0
def tw7932633005197885480:=0
def tw7181361655571892868:=0
def tw7678607003843098082:=0
def tw13066835386093957961:=0
def tw17644482751091387480:=0
def tw14456237882686019406:=0
def tw5691770032844633146:=0
def tw10930125031909558140:=0
def tw16965614342129761415:=0
def tw14194973642394574889:=0
def tw3665867586047872454:=0
def tw10234900727671133842:=0
def tw15277868292125797259:=0
def tw3507408259303156651:=0
def tw428748130928008186:=0
def tw12666217119997001958:=0
def tw3574004317866350062:=0
def tw13416458296160544774:=0
def tw13870049610847336629:=0
def tw10325137279139944237:=0
def tw791606847268044078:=0
def tw15905554378503195116:=0
def tw6016306686195177665:=0
def tw9541392857937745120:=0
def tw97717297089701322:=0
def tw9292606206184186017:=0
def tw16618962863386591382:=0
def tw10246479798105026997:=0
def tw9662558577544508878:=0
def tw13646493815600303195:=0
def tw11664072872031124201:=0
def tw4311651964157670678:=0
def tw13856678782409711260:=0
def tw6583330717606746556:=0
def tw3828255862231873300:=0
def tw8397161909912749442:=0
def tw12178143500835813485:=0
def tw4810437065201570311:=0
def tw5757104131618074876:=0
def tw18796490185760682:=0
def tw6688603483554120279:=0
def tw6944582750075239408:=0
def tw9772301860422380405:=0
def tw12771486320990331573:=0
def tw9210655956295378721:=0
def tw9558588109901949221:=0
def tw18104802213348833386:=0
def tw12579438076341788753:=0
def tw296156767918994048:=0
def tw6683418851388213688:=0
def tw2300403354016197813:=0
def tw6661420527710140882:=0
def tw9231910858407567046:=0
def tw5929475213142805393:=0
def tw478719987390885469:=0
def tw18005822641042510436:=0
def tw14746420187755027748:=0
def tw3624081601658875568:=0
def tw11308370183886396951:=0
def tw4079770733248711410:=0
def tw8456195298114667966:=0
def tw4677258984609800141:=0
def tw2688661596591420592:=0
def tw6070009389229327959:=0
def tw6038227213213534677:=0
def tw7161175035566657053:=0
def tw6811065638865110389:=0
def tw6504357793438582529:=0
def tw11792425888831679686:=0
def tw11273510464628663094:=0
def tw17429786796380204872:=0
def tw16376465569657234933:=0
def tw903614962131318347:=0
def tw13475021174029191500:=0
def tw630503824989959203:=0
def tw1028581264909843715:=0
def tw14647507979787979148:=0
def tw5100232084041210321:=0
def tw13076637054219835453:=0
def tw6332073194706083257:=0
def tw15777844649061963600:=0
def tw11842920901795769849:=0
def tw13921051850856681720:=0
def tw3377033007528390437:=0
def tw400782560124756131:=0
def tw17254469580566445771:=0
def tw3740131974022706086:=0
def tw13313735842946882463:=0
def tw7144649312315378331:=0
def tw3171209648347312626:=0
def tw17085857518158127884:=0
def tw14915179978492131820:=0
def tw6850907258180497443:=0
def tw2788189703162556453:=0
def tw2688695179556757405:=0
def tw17473475015111780492:=0
def tw5342999653931615778:=0
def tw10586543140073381740:=0
def tw6126002327379209075:=0
def tw12943880554892396102:=0
def tw15219678010218983717:=0
def tw7573551197869056021:=0
def tw4236544169776164074:=0
def tw17420462300474510037:=0
def tw10715674132651277825:=0
def tw12312146522447683970:=0
def tw11855259103649300116:=0
def tw10380612677812530492:=0
def tw3251508951377655406:=0
def tw3494538930424351379:=0
def tw3519162055762704647:=0
def tw2515168664830636540:=0
def tw17992664022251895573:=0
def tw6701273488236561815:=0
def tw1731770399352243913:=0
def tw4080103113377329310:=0
def tw6372090653135235278:=0
def tw13600703424972703539:=0
def tw2079934424558175433:=0
def tw252656291419205607:=0
def tw1691071098012382904:=0
def tw16284660790888704992:=0
def tw2021414891400005293:=0
def tw13406128769131668130:=0
def tw7247597127082048956:=0
def tw3668431879683704892:=0
def tw5024703313064938947:=0
def tw8958810914643284935:=0
def tw7609727304359332838:=0
def tw6977962283576544710:=0
def tw5701069107630154584:=0
def tw13599885608120344354:=0
def tw5718171372605884750:=0
def tw5692216427784398857:=0
def tw1663441956630107955:=0
def tw1661003615839746829:=0
def tw10310166736128295787:=0
def tw100977560374190736:=0
def tw11084277703858501271:=0
def tw16537598200798856136:=0
def tw4168029087933795409:=0
def tw17838686500147365466:=0
def tw6498962982900331203:=0
def tw3660783644509315010:=0
def tw6833892203749698447:=0
def tw8140485947002109530:=0
def tw17082674605668784978:=0
def tw8314202349635824940:=0
def tw18256881803608875608:=0
def tw4504456911582072570:=0
def tw9317629109410202392:=0
def tw11467448081275642595:=0
def tw483946488352186856:=0
def tw3751615818146270952:=0
def tw10733692602877458559:=0
def tw2155908290367398165:=0
def tw9675812585819437402:=0
def tw17469754694297538326:=0
def tw14209051747071933107:=0
def tw17044176990447120013:=0
def tw6883880414542850633:=0
def tw4342665921008080656:=0
def tw11999886362657025555:=0
def tw2183752319131702589:=0
def tw17389638724012552650:=0
def tw16538163688695810071:=0
def tw141721271374866999:=0
def tw16019290833411088703:=0
def tw11031835104454854261:=0
def tw4385571130766591307:=0
def tw17549392532328062262:=0
def tw10474550027942698577:=0
def tw5216094904344079456:=0
def tw4014731987199778398:=0
def tw2815924938525051483:=0
def tw10181848221527971767:=0
def tw1907794707280087644:=0
def tw9711471733285066278:=0
def tw16082100697243987622:=0
def tw7773051325464825457:=0
def tw6822036069284818491:=0
def tw14701269456117314805:=0
def tw16791176703648195117:=0
def tw13818517728770912335:=0
def tw5277609083598302521:=0
def tw6728629889413175958:=0
def tw16569634942644043620:=0
def tw14658211514605216957:=0
def tw14044392069403488688:=0
def tw5304942995817829094:=0
def tw9949096434177086982:=0
def tw5705010642802007209:=0
def tw5555900838885578399:=0
def tw3343801420122828309:=0
def tw2786825834535703100:=0
def tw2600995196562171973:=0
def tw13310020124712906717:=0
def tw2249586423207380394:=0
def tw6831092456701661515:=0
def tw3848034846022874493:=0
def tw3057935387794067951:=0
def tw16985906478136799559:=0
def tw6585796727059976393:=0
def tw6042217062655971467:=0
def tw5971413546007088132:=0
def tw17675578863114884677:=0
def tw1013167104889159737:=0
def tw385886664925055578:=0
def tw4862411441869065324:=0
def tw15062587219197359148:=0
def tw12557908257792538343:=0
def tw13367793711308795329:=0
def tw14982406194515520058:=0
def tw17329081236471945648:=0
def tw12851024450532951528:=0
def tw18294563515536158712:=0
def tw12457964349773882263:=0
def tw16751580886553039447:=0
def tw5667404367548004596:=0
def tw7818492503093298620:=0
def tw7504673118006033525:=0
def tw6969029431727776374:=0
def tw5562076349482638289:=0
def tw15244963286644806348:=0
def tw9539713000800116453:=0
def tw11359445085407395776:=0
def tw9159802982664439240:=0
def tw6853993258214713355:=0
def tw5574674420849988842:=0
def tw3699714562760117969:=0
def tw1404651212802850752:=0
def tw13529817314407757812:=0
def tw10774776288514696035:=0
def tw10731242084215026629:=0
def tw235151111319371704:=0
def tw2035238562034335789:=0
def tw15185435897677635122:=0
def tw14430944317387670959:=0
def tw165365243987273569:=0
def tw1547231550496697045:=0
def tw69236973202782489:=0
def tw12669784363073458888:=0
def tw12871747599673526225:=0
def tw14345724933021896339:=0
def tw5076909144261462116:=0
def tw12241736778291937474:=0
def tw7668718005217966855:=0
def tw6961863890910146088:=0
def tw1807371839779634325:=0
def tw12116612523164240683:=0
def tw10995982451388223121:=0
def tw10969702793226370018:=0
def tw10194090586784966831:=0
def tw16806393561602295218:=0
def tw7498835846320932428:=0
def tw13842669911301633724:=0
def tw10600433760496068487:=0
def tw9663843457133956042:=0
def tw1786058605885345601:=0
def tw6298225811461679182:=0
def tw1927103210511599574:=0
def tw1553217257630643306:=0
def tw16969984241995971895:=0
def tw913792172095727259:=0
def tw17725309530092782064:=0
def tw516135613237851864:=0
def tw727254387994373733:=0
def tw6982929501965727064:=0
def tw1880028281386146104:=0
def tw18013136534886011371:=0
def tw140143817290898576:=0
def tw112921429907258298:=0
def tw12416156190404370999:=0
def tw10497919887101578847:=0
def tw13472147224974693576:=0
def tw13275576817047150989:=0
def tw12808063535751329882:=0
def tw9409942909192853458:=0
def tw1241581980902581795:=0
def tw10573082874936123675:=0
def tw18169345871200918797:=0
def tw8677054245834616028:=0
def tw10119921270308926247:=0
def tw8616702640654313722:=0
def tw7524780220995881342:=0
def tw18354528318450160253:=0
def tw13368449221025779100:=0
def tw7193843882659352515:=0
def tw13594308583847521725:=0
def tw17927623842026112187:=0
def tw1805699536292564713:=0
def tw8269955612048705980:=0
def tw2679844533564622207:=0
def tw5172842026446707108:=0
def tw12150682009002423516:=0
def tw4361356635397727794:=0
def tw1279336050875352646:=0
def tw532984908510698002:=0
def tw7869830742154113703:=0
def tw11276574977685888516:=0
def tw15951009497489616715:=0
def tw15906670554099398130:=0
def tw2049391221600389156:=0
def tw17945305883008775585:=0
def tw6288315912452751400:=0
def tw2501611695650021748:=0
def tw3274405858476732929:=0
def tw17550812550627999952:=0
def tw15204643812282882214:=0
def tw1399168407061902681:=0
def tw17332797660952425867:=0
def tw6959727124863574347:=0
def tw18115494223867916509:=0
def tw9253219012625296637:=0
def tw3483997707775710836:=0
def tw17403541148064457982:=0
def tw3089284276375936901:=0
def tw6367031637392099059:=0
def tw5246418603270225364:=0
def tw17704376466062596075:=0
def tw8005056882954984655:=0
def tw4899424640046453490:=0
def tw18141072568875192129:=0
def tw6257548555757722609:=0
def tw436980815948155716:=0
def tw15834297802959607629:=0
def tw17210940862326445189:=0
def tw8750661186541442428:=0
def tw11807180800538029103:=0
def tw13331521562105928189:=0
def tw13232292816272779772:=0
def tw6626212543772732019:=0
def tw2692704317592778035:=0
def tw1685482211459835725:=0
def tw14387620581833323918:=0
def tw511064378608109520:=0
def tw13299033384422582664:=0
def tw8412714079598373500:=0
def tw18046826475969539901:=0
def tw17140128908513022039:=0
def tw11263695010462187154:=0
def tw8268430618927103337:=0
def tw9267168476313150582:=0
def tw993429853474389745:=0
def tw1004533775208203218:=0
def tw11102290844113432572:=0
def tw130624592183136725:=0
def tw9746787074669594798:=0
def tw15732307538321381856:=0
def tw10440977285638798276:=0
def tw9751184325764605943:=0
def tw9381831008421528043:=0
def tw8168047027463369939:=0
def tw776148976360987940:=0
def tw4670998389860602786:=0
def tw2251552239678111769:=0
def tw15422268165398863921:=0
def tw13543976068781639060:=0
def tw2515434737884780905:=0
def tw13236465956682212874:=0
def tw9644814476707395661:=0
def tw9808422031763176862:=0
def tw9703778196617471472:=0
def tw3592781577166283377:=0
def tw3175286505121894253:=0
def tw2688850036388254638:=0
def tw2009005865104817527:=0
def tw16197187458454195781:=0
def tw1509553952332053963:=0
def tw15033648302135264546:=0
def tw14027175898738722124:=0
def tw13801475887332728624:=0
def tw13375992042788481581:=0
def tw12277259357311538471:=0
def tw10391970683077645923:=0
def tw12394020616505355560:=0
def tw7966268998110406835:=0
def tw17233029704492664976:=0
def tw7043181897890214930:=0
def tw4540982854633670917:=0
def tw15390212872007701138:=0
def tw2153698710919774415:=0
def tw17484286031058981278:=0
def tw8183058330554687944:=0
def tw688538108299127522:=0
def tw2472374343797859836:=0
def tw16736277607351674470:=0
def tw15993779034983441949:=0
def tw11362976729152878048:=0
def tw5057815968361523023:=0
def tw8920727716931727161:=0
def tw3728694646361049058:=0
def tw10438534951774660237:=0
def tw8199301824389178082:=0
def tw7147741231128193661:=0
def tw5050563456807160627:=0
def tw3106984770158738700:=0
def tw15428641536770161258:=0
def tw10874854470508400114:=0
def tw9671893148114139113:=0
def tw9647650458019236815:=0
def tw9562615629164110428:=0
def tw926250690609132279:=0
def tw8141148855824103623:=0
def tw8124276540913363867:=0
def tw6467541494437389769:=0
def tw6072767087449160323:=0
def tw6025074469113048407:=0
def tw4875439675128481755:=0
def tw463221333305352554:=0
def tw3813322869687184930:=0
def tw3275626420316227300:=0
def tw17417394785507568100:=0
def tw17104471387383187861:=0
def tw16783268018099597562:=0
def tw16669466481358950196:=0
def tw16144273354831086326:=0
def tw13278021348170067790:=0
def tw12238193256253476645:=0
def tw11660498639913811700:=0
def tw11043114066040935616:=0
def tw10970501524865432529:=0
def tw1025438053890438292:=0
def tw17182700563686800732:=0
def tw17170416089686705349:=0
def tw12984349314607964820:=0
def tw11242905824203048313:=0
def tw3106875638843820486:=0
def tw12456240335100721053:=0
def tw3123782159607720394:=0
def tw11131605045110287180:=0
def tw4686747417865504120:=0
def tw4581543193739990292:=0
def tw16500346860267114978:=0
def tw16145947347159626841:=0
def tw1516501711992337675:=0
def tw14434987506974740373:=0
def tw13349323319981845555:=0
def tw17350139609884426001:=0
def tw801412853247816512:=0
def tw7382917166598588623:=0
def tw3641999273194079186:=0
def tw2799596941961411297:=0
def tw15644551703621793804:=0
def tw15079777253574428526:=0
def tw145457877116091958:=0
def tw12433886961738197498:=0
def tw13501359877093965500:=0
def tw6517334709653663385:=0
def tw7727130500068556751:=0
def tw5183728350956496447:=0
def tw3661999040553061104:=0
def tw2374918446545303444:=0
def tw2070253420894364567:=0
def tw17476355107180155222:=0
def tw1619848400158519942:=0
def tw1559288944494863156:=0
def tw15359050949469598852:=0
def tw15304377285760838116:=0
def tw1343880131968954608:=0
def tw13041367973331415511:=0
def tw1277003212367360311:=0
def tw6988705406549068855:=0
def tw17392262053826076219:=0
def tw14730359357664291716:=0
def tw1559237802745662175:=0
def tw14165020316181120353:=0
def tw1142441313038950376:=0
def tw90496381171565653:=0
def tw8871301028377173105:=0
def tw8476496873111921470:=0
def tw8160977627257711326:=0
def tw7547425066763733477:=0
def tw5906034427186148244:=0
def tw5078652653760369311:=0
def tw4675127929528622633:=0
def tw2298788440311762814:=0
def tw18325611976961830615:=0
def tw17964053382781417816:=0
def tw17926789533217223694:=0
def tw17516373094617545474:=0
def tw16390719025102959301:=0
def tw16375523384444131376:=0
def tw16003543808375517184:=0
def tw15461325692751034216:=0
end PySem.W.Fast
open PySem renaming wpAny_bind→q0x
open PySem renaming wpAny_pure→q0y
open Int renaming toNat_natCast→q0z
open List renaming getD_eq_getElem?_getD→q6x
open List renaming mem_cons_of_mem→q6y
open List renaming mem_cons_self→q6z
open Bool renaming false_ne_true→q7x
open List renaming mem_append_right→q7y
open Nat renaming lt_of_lt_of_le→q7z
open List renaming length_cons→q8x
open List renaming append_nil→q8y
open List renaming getElem?_set_self→q8z
open List renaming getElem?_append_left→q9x
section
open PySem PySem.W
def ckx {α : Type} (a : List α) (i : Nat) : List α := (a.drop i).take 64
def ckv (p : Addr × Obj) : Option Obj := some p.2
theorem ck2 {α β γ : Type} {f : α → γ} {g : β → γ} {a : List α} {b : List β} {i : Nat} (x : (ckx a i).map f = (ckx b i).map g) (y : (a.drop (i + 64)).map f = (b.drop (i + 64)).map g) : (a.drop i).map f = (b.drop i).map g := by
  have h1 : ((a.drop i).take 64 ++ (a.drop i).drop 64).map f = ((b.drop i).take 64 ++ (b.drop i).drop 64).map g := by
    rw [List.map_append, List.map_append, List.drop_drop, List.drop_drop, y]
    exact congrArg (· ++ _) x
  rw [List.take_append_drop, List.take_append_drop] at h1
  exact h1
theorem ck_of {K : Params → Frag} {a : List Addr} (e : ∀ P, a = (K P).map (·.1)) (w : World) (s : Shared) (x : (((((ckx a 0).map s.heap.get?, (ckx a 64).map s.heap.get?), ((ckx a 128).map s.heap.get?, (ckx a 192).map s.heap.get?)), (((ckx a 256).map s.heap.get?, (ckx a 320).map s.heap.get?), ((ckx a 384).map s.heap.get?, (ckx a 448).map s.heap.get?))), ((((ckx a 512).map s.heap.get?, (ckx a 576).map s.heap.get?), ((ckx a 640).map s.heap.get?, (ckx a 704).map s.heap.get?)), (((ckx a 768).map s.heap.get?, (ckx a 832).map s.heap.get?), ((ckx a 896).map s.heap.get?, ((a).drop 960).map s.heap.get?)))) = (((((ckx (K w.params) 0).map ckv, (ckx (K w.params) 64).map ckv), ((ckx (K w.params) 128).map ckv, (ckx (K w.params) 192).map ckv)), (((ckx (K w.params) 256).map ckv, (ckx (K w.params) 320).map ckv), ((ckx (K w.params) 384).map ckv, (ckx (K w.params) 448).map ckv))), ((((ckx (K w.params) 512).map ckv, (ckx (K w.params) 576).map ckv), ((ckx (K w.params) 640).map ckv, (ckx (K w.params) 704).map ckv)), (((ckx (K w.params) 768).map ckv, (ckx (K w.params) 832).map ckv), ((ckx (K w.params) 896).map ckv, (((K w.params)).drop 960).map ckv))))) : InK K w s.heap :=
  InK.of e w s (ck2 (congrArg (·.1.1.1.1) x) (ck2 (congrArg (·.1.1.1.2) x) (ck2 (congrArg (·.1.1.2.1) x) (ck2 (congrArg (·.1.1.2.2) x) (ck2 (congrArg (·.1.2.1.1) x) (ck2 (congrArg (·.1.2.1.2) x) (ck2 (congrArg (·.1.2.2.1) x) (ck2 (congrArg (·.1.2.2.2) x) (ck2 (congrArg (·.2.1.1.1) x) (ck2 (congrArg (·.2.1.1.2) x) (ck2 (congrArg (·.2.1.2.1) x) (ck2 (congrArg (·.2.1.2.2) x) (ck2 (congrArg (·.2.2.1.1) x) (ck2 (congrArg (·.2.2.1.2) x) (ck2 (congrArg (·.2.2.2.1) x) (congrArg (·.2.2.2.2) x))))))))))))))))
local macro_rules
  | `(tactic| refine $h:ident (q := $q) (loose := $l) (Xt := $x) (XP := $xp) (Yf := $_:ident ($_:ident $k $a $e)) (Ya := $_) (YP := $_) (N := $n) $hl $_ $_ $rest*) => `(tactic| refine $h (q := $q) (loose := $l) (Xt := $x) (XP := $xp) (Yf := fun s => (((((ckx $a 0).map s.heap.get?, (ckx $a 64).map s.heap.get?), ((ckx $a 128).map s.heap.get?, (ckx $a 192).map s.heap.get?)), (((ckx $a 256).map s.heap.get?, (ckx $a 320).map s.heap.get?), ((ckx $a 384).map s.heap.get?, (ckx $a 448).map s.heap.get?))), ((((ckx $a 512).map s.heap.get?, (ckx $a 576).map s.heap.get?), ((ckx $a 640).map s.heap.get?, (ckx $a 704).map s.heap.get?)), (((ckx $a 768).map s.heap.get?, (ckx $a 832).map s.heap.get?), ((ckx $a 896).map s.heap.get?, (($a).drop 960).map s.heap.get?))))) (Ya := fun w => (((((ckx ($k w.params) 0).map ckv, (ckx ($k w.params) 64).map ckv), ((ckx ($k w.params) 128).map ckv, (ckx ($k w.params) 192).map ckv)), (((ckx ($k w.params) 256).map ckv, (ckx ($k w.params) 320).map ckv), ((ckx ($k w.params) 384).map ckv, (ckx ($k w.params) 448).map ckv))), ((((ckx ($k w.params) 512).map ckv, (ckx ($k w.params) 576).map ckv), ((ckx ($k w.params) 640).map ckv, (ckx ($k w.params) 704).map ckv)), (((ckx ($k w.params) 768).map ckv, (ckx ($k w.params) 832).map ckv), ((ckx ($k w.params) 896).map ckv, ((($k w.params)).drop 960).map ckv))))) (YP := InK $k) (N := $n) $hl (ck_of $e) InK.keeps $rest*)
open PyProof.Rows
set_option maxRecDepth 100000 in
set_option maxHeartbeats 0 in
open_top K44hd for PySem.Challenge.rw_rowbreadth_k44_right_nests_made
end
abbrev qA:Jb:=["left","right"]
abbrev qB:Jb:=["maker","form","aim"]
abbrev qC:Jb:=["bench","step"]
abbrev qE:Jb:=["bench","step","active"]
abbrev qF:Jb:=["self","group","seat","lane"]
abbrev qG:Jb:=["maker","first","first_aim","second","second_aim"]
abbrev qH:Jb:=["self","seat","mask","level","own"]
abbrev qI:Jb:=["form","functions"]
abbrev qJ:Jb:=["_law_cell"]
abbrev qK:Jb:=["self","slot","lane"]
abbrev qL:Jb:=["first","second","functions"]
abbrev qM:Jb:=["self","kind","address"]
abbrev qN:Jb:=["code","lengths","cells","lanes","dust","picks"]
abbrev qO:Jb:=["self","lengths","cells","lanes","dust","picks"]
abbrev qP:Jb:=["self","group","seat","lane","number"]
abbrev qQ:Jb:=["bench","sign","left","right","lane"]
abbrev qR:Jb:=["self","lengths","functions","steps"]
abbrev qS:Jb:=["self","lengths","functions","group"]
abbrev qT:Jb:=["_law_cell","_law_place","_law_row"]
abbrev qU:Jb:=["_law_found","_law_cells","_law_refusal"]
abbrev qV:Jb:=["self","seat","active"]
abbrev qW:Jb:=["self","target","value","test"]
abbrev qX:Jb:=["_law_picked","_law_place","_law_row"]
abbrev qY:Jb:=["_law_script","_law_at","_law_count"]
abbrev qZ:Jb:=["left","right","lane","bench","step"]
abbrev Ua:Jb:=["self","sign","left","right"]
abbrev Ub:Jb:=["program","step","number","group"]
abbrev Uc:Jb:=["program","steps","first","group"]
abbrev Ud:Jb:=["self","seat","active","numbers"]
abbrev Ue:Jb:=["self","row","place","number"]
abbrev Uf:Jb:=["self","slot","lane","number"]
abbrev Ug:Jb:=["_law_script","_law_k"]
abbrev Uh:Jb:=["self","mask","chosen"]
abbrev Ui:Jb:=["sign","left","right"]
abbrev Uj:Jb:=["self","many","group"]
abbrev Uk:Jb:=["self","seat","mask"]
abbrev Ul:Jb:=["self","row","place"]
abbrev Um:Jb:=["self","mask"]
abbrev Uo:Jb:=["self","number"]
abbrev Up:Jb:=["bench","step","nought"]
abbrev Uq:Jb:=["program","group"]
abbrev Ur:Jb:=["maker","step","mask"]
abbrev Us:Jb:=["lane","bench","step"]
abbrev Ut:Jb:=["self","lengths"]
abbrev Uu:Jb:=["self","numbers"]
abbrev Uv:Jb:=["self","base"]
abbrev Uw:Jb:=["lengths","row"]
namespace L2
open PySem PySem.Spec PyProof.Rows
abbrev Key:=Sum Int Str
def zbv:Key->Vl->Bool
 | .inl k,v=>Value.isInt k v
 | .inr x,v=>Value.isStrOf x v
def keyH (w:World):Key->Int
 | .inl k=>hashInt k
 | .inr x=>hashStr w x
theorem yg:∀ {k:Key} {v:Vl},zbv k v=true->(∃ i t,k=Sum.inl i/\v=Value.int i t)∨(∃ x t,k=Sum.inr x/\v=Value.str x t)
 | .inl i,v,h=>by
  obtain ⟨t,e⟩:=Value.isInt_shape (k:=i) (v:=v) h;exact .inl ⟨i,t,rfl,e⟩
 | .inr x,v,h=>by
  obtain ⟨t,e⟩:=Value.isStrOf_shape (x:=x) (v:=v) h;exact .inr ⟨x,t,rfl,e⟩
def keyIs_int (i:Int) (t:Tok):zbv (.inl i) (.int i t)=true:=by simp [zbv,Value.isInt]
def keyIs_str (x:Str) (t:Tok):zbv (.inr x) (.str x t)=true:=by simp [zbv,Value.isStrOf]
def key_ll (a b:Int):decide ((Sum.inl a:Key)=Sum.inl b)=(a == b):=by
 by_cases e:a=b
 ·subst e;simp
 ·have h:¬ (Sum.inl a:Key)=Sum.inl b:=λq=>e (Sum.inl.inj q)
  rw [decide_eq_false h];exact (beq_eq_false_iff_ne.mpr e).symm
def key_rr (a b:Str):decide ((Sum.inr a:Key)=Sum.inr b)=decide (a=b):=by
 by_cases e:a=b
 ·subst e;simp
 ·have h:¬ (Sum.inr a:Key)=Sum.inr b:=λq=>e (Sum.inr.inj q)
  rw [decide_eq_false h,decide_eq_false e]
def key_lr (a:Int) (b:Str):decide ((Sum.inl a:Key)=Sum.inr b)=false:=decide_eq_false (λq=>nomatch q)
def key_rl (a:Str) (b:Int):decide ((Sum.inr a:Key)=Sum.inl b)=false:=decide_eq_false (λq=>nomatch q)
def zM (prog:Program) (w:World):PySem.KeyKind prog w Key where
 is:=zbv
 hash:=keyH w
 inj:=λv a b ha hb=>by
  rcases yg ha with ⟨i,t,rfl,rfl⟩ | ⟨x,t,rfl,rfl⟩
  ·rcases yg hb with ⟨j,u,rfl,e⟩ | ⟨y,u,rfl,e⟩
   ·injection e with e1 _;rw [e1]
   ·exact nomatch e
  ·rcases yg hb with ⟨j,u,rfl,e⟩ | ⟨y,u,rfl,e⟩
   ·exact nomatch e
   ·injection e with e1 _;rw [e1]
 byValue:=λk v h=>by
  rcases yg h with ⟨i,t,rfl,rfl⟩ | ⟨x,t,rfl,rfl⟩ <;> rfl
 pyHash:=λhv h=>by
  rcases yg hv with ⟨i,t,rfl,rfl⟩ | ⟨x,t,rfl,rfl⟩
  ·exact wpAny_pyHash_int h
  ·exact wpAny_pyHash_str h
 eqBool:=λhu hv h=>by
  rcases yg hu with ⟨i,t,rfl,rfl⟩ | ⟨x,t,rfl,rfl⟩
  ·rcases yg hv with ⟨j,u,rfl,rfl⟩ | ⟨y,u,rfl,rfl⟩
   ·rw [key_ll] at h;exact wpAny_eqBool_int h
   ·rw [key_lr] at h;exact SeqAt.EqAt.int_str i t y u _ _ _ _ h
  ·rcases yg hv with ⟨j,u,rfl,rfl⟩ | ⟨y,u,rfl,rfl⟩
   ·rw [key_rl] at h;exact SeqAt.EqAt.str_int x t j u _ _ _ _ h
   ·rw [key_rr] at h;exact wpAny_eqBool_str h
 «strs»:=λk x t v h=>by
  rcases yg h with ⟨i,u,rfl,e⟩ | ⟨y,u,rfl,e⟩
  ·exact nomatch e
  ·injection e with e1 _
   subst e1;cases v <;> rfl
def zd5 (prog:Program) (w:World) (i:Int) (t:Tok):(zM prog w).is (.inl i) (.int i t)=true:=keyIs_int i t
def zd4 (prog:Program) (w:World) (x:Str) (t:Tok):(zM prog w).is (.inr x) (.str x t)=true:=keyIs_str x t
inductive V where
 | non | bl (b:Bool) | int (i:Int) | str (x:Str) | byt (b:Array UInt8) | flt (b:UInt64) | ref (a:Ad) | ty (n:String)
 deriving DecidableEq
def RelV:V->Vl->Prop
 | .non,u=>u=Value.none
 | .bl b,u=>u=Value.bool b
 | .int i,u=>∃ t,u=Value.int i t
 | .str x,u=>∃ t,u=Value.str x t
 | .byt b,u=>∃ t,u=Value.bytes b t
 | .flt b,u=>∃ t,u=Value.float b t
 | .ref a,u=>u=Value.ref a
 | .ty n,u=>u=Value.type n
abbrev Vals:List V->J8->Prop:=Paired RelV
def Vals.length {xs:List V} {us:J8} (r:Vals xs us):xs.length=us.length:=Paired.length r
theorem Vals.get:∀ {xs:List V} {us:J8} {i:Nat} {x:V},Vals xs us->xs[i]?=some x->∃ u,us[i]?=some u/\RelV x u
 | _,_,_,_,.nil,e=>by simp at e
 | _,_,0,_,.cons r _,e=>by simp at e;subst e;exact ⟨_,rfl,r⟩
 | _,_,i+1,x,.cons _ t,e=>by
  obtain ⟨u,h1,h2⟩:=Vals.get (i:=i) (x:=x) t (by simpa using e);exact ⟨u,by simpa using h1,h2⟩
theorem Vals.set {x:V} {u:Vl} (r:RelV x u):∀ {xs:List V} {us:J8} (i:Nat),Vals xs us->Vals (xs.set i x) (us.set i u)
 | _,_,_,.nil=>.nil
 | _,_,0,.cons _ t=>.cons r t
 | _,_,i+1,.cons q t=>.cons q (Vals.set r i t)
theorem Vals.append:∀ {xs ys:List V} {us ws:J8},Vals xs us->Vals ys ws->Vals (xs++ys) (us++ws)
 | _,_,_,_,.nil,s=>s
 | _,_,_,_,.cons r t,s=>.cons r (Vals.append t s)
theorem Vals.take:∀ {xs:List V} {us:J8} (n:Nat),Vals xs us->Vals (xs.take n) (us.take n)
 | _,_,0,_=>.nil
 | _,_,_+1,.nil=>.nil
 | _,_,n+1,.cons r t=>.cons r (Vals.take n t)
theorem Vals.drop:∀ {xs:List V} {us:J8} (n:Nat),Vals xs us->Vals (xs.drop n) (us.drop n)
 | _,_,0,r=>r
 | _,_,_+1,.nil=>.nil
 | _,_,n+1,.cons _ t=>Vals.drop n t
def RelO:Option V->Ja->Prop
 | some v,some u=>RelV v u
 | none,none=>True
 | _,_=>False
def KV {κ:Type}:List (κ×V)->List (κ×Vl)->Prop:=Paired λ(p:κ×V) (q:κ×Vl)=>p.1=q.1/\RelV p.2 q.2
def kV:Key->V
 | .inl i=>.int i
 | .inr x=>.str x
inductive HO where
  | lst (xs:List V)
  | tup (xs:List V)
  | dK (md:List (Key×V)) | dT (md:List (List Key×V))
  | set (S:Int->Bool) (n:Nat)
  | ins (C dx:Ad) (fs:List (Str×V))
  | own (x:Ad)
  | xd (fs:List (Str×V))
  | met (f x:Ad)
  | rng (lo hi:Int)
  | frz (o:Obj) (u:HO)
  | tbl (ps:Array Vl)
  | ext (φ:Heap->Prop)
abbrev Hp:=Ad->Option HO
theorem Jl (l:List PySem.Str) (h:decide l.Nodup=true:=by decide +kernel):l.Nodup:=of_decide_eq_true h
abbrev Jh:=List (Key×V)
abbrev Ji:=List (Ad×HO)
abbrev Jj:=List V
abbrev Jk:=Option V
def upd (H:Hp) (a:Ad) (o:HO):Hp:=λb=>if b=a then some o else H b
def zi {H:Hp} {a:Ad} {o:HO}:upd H a o a=some o:=by unfold upd;rw [if_pos rfl]
def zj {H:Hp} {a b:Ad} {o:HO} (h:b≠a):upd H a o b=H b:=by unfold upd;rw [if_neg h]
def upd_upd {H:Hp} {a:Ad} {o u:HO}:upd (upd H a o) a u=upd H a u:=by
 funext b;unfold upd;split <;> rfl
def ne_of {H:Hp} {a b:Ad} {o u:HO} (h:H a=some o) (h':H b=some u) (d:o≠u):a≠b:=by
 intro e;subst e;rw [h] at h';exact d (Option.some.inj h')
def zq {H:Hp} {a b:Ad} {o:HO} (h:H a=some o) (h':H b=none):a≠b:=by
 intro e;subst e;rw [h] at h';cases h'
section
variable (P:Program) (w:World)
def ObjOk (H:Hp) (h:Heap) (a:Ad):HO->Prop
 | .lst xs=>xs.length<=sizeLine/\∃ (its:J8) (n:Nat),Vals xs its/\h.get? a=some { cls:=.type "list",data:=.seq its.toArray n }
 | .tup xs=>xs.length<=sizeLine/\∃ its:J8,Vals xs its/\IsTup h a its.toArray
 | .dK md=>md.length<=sizeLine/\(a == sysModules)=false/\∃ vs,KV md vs/\h.DictOf (zM P w) a vs
 | .dT md=>md.length<=sizeLine/\(a == sysModules)=false/\∃ xs:List (List Key×Ad×Vl),
   Paired (λ(p:List Key×V) (q:List Key×Ad×Vl)=>p.1=q.1/\H q.2.1=some (.tup (p.1.map kV))/\RelV p.2 q.2.2) md xs /\
   ∃ o es ep,h.get? a=some o/\o.ExactDict/\o.data=.dict es ep/\es.toList=xs.map (entryOfKey (tupleKind (zM P w)))/\(xs.map (·.1)).Nodup
 | .set S n=>h.SetOf (intKind P w) a S n
 | .ins C dx fs=>H dx=some (.own a)/\fs.length<=1000/\dx≠a/\h.get? a=some (PySem.W.instObj C dx) /\
   ∃ mA,h.Ns1 dx mA/\(∀ f,RelO (fs.lookup f) (mA f))/\PySem.Within mA (fs.map (·.1))
 | .own _=>∃ o,h.get? a=some o
 | .xd fs=>∃ mA,h.Ns1 a mA/\∀ f,RelO (fs.lookup f) (mA f)
 | .rng lo hi=>∃ t u v,h.get? a=some { cls:=.type "range",data:=.fields #[.int lo t,.int hi u,.int 1 v] }
 | .frz o u=>h.get? a=some o/\ObjOk H h a u
 | .tbl ps=>h.get? a=some { cls:=.none,data:=.fields ps }
 | .met f x=>h.get? a=some (PySem.W.methodObj (.ref f) (.ref x))
 | .ext φ=>φ h/\(∃ o,h.get? a=some o)/\∀ h1 h2:Heap,φ h1->(∀ o,h1.get? a=some o->h2.get? a=some o)->φ h2
def HOk (H:Hp) (h:Heap):Prop:=∀ a o,H a=some o->ObjOk P w H h a o
end
section
variable {P:Program} {w:World} {H H':Hp} {h h':Heap} {a:Ad} {o:HO}
def ObjOk.lt (x:ObjOk P w H h a o):a<h.objs.size:=by
 cases o with
 | lst xs=>obtain ⟨_,_,_,_,e⟩:=x;exact Heap.lt_size e
 | tup xs=>obtain ⟨_,_,_,p⟩:=x;exact p.lt
 | dK md=>obtain ⟨_,_,_,_,o,_,_,e,_⟩:=x;exact Heap.lt_size e
 | dT md=>obtain ⟨_,_,_,_,o,_,_,e,_⟩:=x;exact Heap.lt_size e
 | set S n=>obtain ⟨o,_,_,_,e,_⟩:=x;exact Heap.lt_size e
 | ins C dx fs=>obtain ⟨_,_,_,e,_⟩:=x;exact Heap.lt_size e
 | own y=>obtain ⟨_,e⟩:=x;exact Heap.lt_size e
 | xd fs=>obtain ⟨_,⟨_,_,_,e,_⟩,_⟩:=x;exact Heap.lt_size e
 | rng lo hi=>obtain ⟨_,_,_,e⟩:=x;exact Heap.lt_size e
 | frz ob u=>obtain ⟨e,_⟩:=x;exact Heap.lt_size e
 | tbl ps=>exact Heap.lt_size (show h.get? a=some _ from x)
 | met f y=>exact Heap.lt_size (show h.get? a=some _ from x)
 | ext φ=>obtain ⟨_,⟨_,e⟩,_⟩:=x;exact Heap.lt_size e
theorem Paired.mapP {α β:Type} {F G:α->β->Prop}:∀ {l₁:List α} {l₂:List β},Paired F l₁ l₂->(∀ a b,F a b->G a b)->Paired G l₁ l₂
 | _,_,.nil,_=>.nil
 | _,_,.cons r t,f=>.cons (f _ _ r) (Paired.mapP t f)
def ObjOk.stay (x:ObjOk P w H h a o) (k:∀ b u,(b=a∨H b=some (.own a))->h.get? b=some u->h'.get? b=some u)
  (ho:∀ b,H b=some (.own a)->H' b=some (.own a)) (ht:∀ b xs,H b=some (.tup xs)->H' b=some (.tup xs)):ObjOk P w H' h' a o:=by
 induction o with
 | lst xs=>obtain ⟨z,its,n,r,e⟩:=x;exact ⟨z,its,n,r,k _ _ (.inl rfl) e⟩
 | tup xs=>obtain ⟨z,its,r,ob,e,c⟩:=x;exact ⟨z,its,r,ob,k _ _ (.inl rfl) e,c⟩
 | dK md=>obtain ⟨z,y,vs,r,ob,es,ep,e,c⟩:=x;exact ⟨z,y,vs,r,ob,es,ep,k _ _ (.inl rfl) e,c⟩
 | dT md =>
  obtain ⟨z,y,xs,r,ob,es,ep,e,c⟩:=x;exact ⟨z,y,xs,Paired.mapP r λp q z=>⟨z.1,ht _ _ z.2.1,z.2.2⟩,ob,es,ep,k _ _ (.inl rfl) e,c⟩
 | set S n=>obtain ⟨ob,es,ep,t,e,c⟩:=x;exact ⟨ob,es,ep,t,k _ _ (.inl rfl) e,c⟩
 | ins C dx fs =>
  obtain ⟨d,z,ne,e,mA,⟨od,es,ep,e2,c⟩,r⟩:=x;exact ⟨ho _ d,z,ne,k _ _ (.inl rfl) e,mA,⟨od,es,ep,k _ _ (.inr d) e2,c⟩,r⟩
 | own y=>obtain ⟨ob,e⟩:=x;exact ⟨ob,k _ _ (.inl rfl) e⟩
 | xd fs=>obtain ⟨mA,⟨od,es,ep,e,c⟩,r⟩:=x;exact ⟨mA,⟨od,es,ep,k _ _ (.inl rfl) e,c⟩,r⟩
 | rng lo hi=>obtain ⟨t,u,v,e⟩:=x;exact ⟨t,u,v,k _ _ (.inl rfl) e⟩
 | frz ob u ih=>obtain ⟨e,q⟩:=x;exact ⟨k _ _ (.inl rfl) e,ih q⟩
 | tbl ps =>
  have e:h.get? a=some { cls:=.none,data:=.fields ps }:=x;show h'.get? a=some { cls:=.none,data:=.fields ps };exact k a _ (.inl rfl) e
 | met f y =>
  have e:h.get? a=some (PySem.W.methodObj (.ref f) (.ref y)):=x;show h'.get? a=some (PySem.W.methodObj (.ref f) (.ref y));exact k a _ (.inl rfl) e
 | ext φ=>obtain ⟨p,⟨o,e⟩,st⟩:=x;exact ⟨st _ _ p λo q=>k _ _ (.inl rfl) q,⟨o,k _ _ (.inl rfl) e⟩,st⟩
def HOk.lt (x:HOk P w H h) (e:H a=some o):a<h.objs.size:=(x a o e).lt
def HOk.fresh (x:HOk P w H h) (e:h.objs.size<=a):H a=none:=by
 cases q:H a with
 | none=>rfl
 | some u=>exact absurd (q7z (x.lt q) e) (Nat.lt_irrefl _)
def HOk.kept (x:HOk P w H h) (k:∀ b u,h.get? b=some u->h'.get? b=some u):HOk P w H h':=λa o e =>
 (x a o e).stay (λb u _ q=>k b u q) (λ_ q=>q) λ_ _ q=>q
def HOk.laid (x:HOk P w H h) (k:∀ b u,h.get? b=some u->h'.get? b=some u) (hp:h.objs.size<=a) (new:ObjOk P w (upd H a o) h' a o):HOk P w (upd H a o) h':=λb u e=>by
 have hn:=x.fresh hp;by_cases hb:b=a
 ·subst hb;rw [zi] at e;cases e;exact new
 ·rw [zj hb] at e
  exact (x b u e).stay (λc v _ q=>k c v q) (λc q=>by rw [zj (zq q hn)];exact q) λc xs q=>by rw [zj (zq q hn)];exact q
end
def Rd (H:Hp) (a:Ad) (u:HO):Prop:=H a=some u∨∃ o,H a=some (.frz o u)
def Rd.ok {P:Program} {w:World} {H:Hp} {h:Heap} {a:Ad} {u:HO} (r:Rd H a u) (x:HOk P w H h):ObjOk P w H h a u:=by
 rcases r with r | ⟨o,r⟩
 ·exact x a u r
 ·obtain ⟨_,q⟩:=x a _ r
  exact q
def Mut:Option HO->Prop
 | some (.lst _)=>True
 | some (.dK _)=>True
 | some (.dT _)=>True
 | some (.set _ _)=>True
 | some (.ins _ _ _)=>True
 | some (.ext _)=>True
 | _=>False
section
variable {P:Program} {w:World} {H:Hp} {h h':Heap} {x e:Ad} {o':HO}
def HOk.write (ok:HOk P w H h) (mu:Mut (H x)) (he:e=x∨H e=some (.own x)) (k:∀ b u,b≠e->h.get? b=some u->h'.get? b=some u) (heo:∃ u,h'.get? e=some u)
  (new:ObjOk P w (upd H x o') h' x o'):HOk P w (upd H x o') h':=λb u q=>by
 have nown:∀ c y,H c=some (.own y)->c≠x:=λc y r z=>by subst z;rw [r] at mu;exact mu
 have ntup:∀ c xs,H c=some (.tup xs)->c≠x:=λc xs r z=>by subst z;rw [r] at mu;exact mu
 by_cases hb:b=x
 ·subst hb;rw [zi] at q;cases q;exact new
 ·rw [zj hb] at q
  by_cases hbe:b=e
  ·have q':H b=some (.own x):=by
    rcases he with z | z
    ·exact absurd (hbe.trans z) hb
    ·rw [hbe];exact z
   rw [q] at q';cases q';obtain ⟨v,hv⟩:=heo;exact ⟨v,by rw [hbe];exact hv⟩
  ·refine (ok b u q).stay (λc v hc r=>k c v ?_ r) (λc r=>by rw [zj (nown c b r)];exact r) λc xs r=>by rw [zj (ntup c xs r)];exact r
   rcases hc with rfl | hc
   ·exact hbe
   ·rintro rfl
    rcases he with z | z
    ·exact nown c b hc z
    ·rw [hc] at z;cases z;exact hb rfl
end
structure Un (fs ex:Jc) (H H':Hp) (h h':Heap):Prop where
 keep:∀ b o,h.get? b=some o->H b=none->b ∉ fs->b ∉ ex->h'.get? b=some o
 slot:∀ b o,h.get? b=some o->H b=none->b∈fs->b ∉ ex->∃ sl,h'.get? b=some { o with slots:=sl }
 free:∀ b o,h.get? b=some o->H b=none->b ∉ ex->H' b=none
 there:∀ b o,h.get? b=some o->b ∉ ex->∃ o',h'.get? b=some o'
 tups:∀ b xs,H b=some (.tup xs)->H' b=some (.tup xs)
 frzs:∀ b o u,H b=some (.frz o u)->H' b=some (.frz o u)
 tbls:∀ b ps,H b=some (.tbl ps)->∃ more,H' b=some (.tbl (ps++more))
section
variable {fs fs' ex ex':Jc} {H H1 H2:Hp} {h h1 h2 h':Heap} {a x e:Ad} {o:HO}
def Un.any (u:Un fs ex H H1 h h1) {b:Ad} {ob:Obj} (q:h.get? b=some ob) (n:H b=none) (hx:b ∉ ex):∃ sl,h1.get? b=some { ob with slots:=sl }:=by
 by_cases hb:b∈fs
 ·exact u.slot b ob q n hb hx
 ·exact ⟨ob.slots,u.keep b ob q n hb hx⟩
def Un.kept (k:∀ b u,h.get? b=some u->h'.get? b=some u):Un fs ex H H h h' :=
 ⟨λb ob q _ _ _=>k b ob q,λb ob q _ _ _=>⟨ob.slots,k b ob q⟩,λ_ _ _ n _=>n,λb ob q _=>⟨ob,k b ob q⟩,λ_ _ q=>q,λ_ _ _ q=>q,λ_ ps q=>⟨#[],by rw [q];simp⟩⟩
def Un.refl:Un fs ex H H h h:=Un.kept λ_ _ q=>q
def Un.laid (k:∀ b u,h.get? b=some u->h'.get? b=some u) (hp:h.objs.size<=a) (hn:H a=none):Un fs ex H (upd H a o) h h' where
 keep:=λb u q _ _ _=>k b u q
 slot:=λb u q _ _ _=>⟨u.slots,k b u q⟩
 free:=λb u q n _=>by rw [zj (Nat.ne_of_lt (q7z (Heap.lt_size q) hp))];exact n
 there:=λb u q _=>⟨u,k b u q⟩
 tups:=λb xs q=>by rw [zj (zq q hn)];exact q
 frzs:=λb u xs q=>by rw [zj (zq q hn)];exact q
 tbls:=λb ps q=>⟨#[],by rw [zj (zq q hn),q];simp⟩
def Un.write (mu:Mut (H x)) (he:e=x∨H e=some (.own x)) (k:∀ b u,b≠e->h.get? b=some u->h'.get? b=some u) (heo:∃ u,h'.get? e=some u):Un fs ex H (upd H x o) h h':=by
 have hx:∀ b,H b=none->b≠x:=λb n z=>by subst z;rw [n] at mu;exact mu
 have hb:∀ b,H b=none->b≠e:=λb n z=>by
  subst z;rcases he with r | r
  ·exact hx b n r
  ·rw [n] at r;cases r
 have hm:∀ b u,H b=some u->¬ Mut (some u)->b≠x:=λb u q nm z=>by subst z;rw [q] at mu;exact nm mu
 refine ⟨λb u q n _ _=>k b u (hb b n) q,λb u q n _ _=>⟨u.slots,k b u (hb b n) q⟩,λb u q n _=>by rw [zj (hx b n)];exact n,λb u q _=>?_,
  λb xs q=>by rw [zj (hm b _ q λz=>z)];exact q,λb u xs q=>by rw [zj (hm b _ q λz=>z)];exact q,λb ps q=>⟨#[],by rw [zj (hm b _ q λz=>z),q];simp⟩⟩
 by_cases hbe:b=e
 ·subst hbe;exact heo
 ·exact ⟨u,k b u hbe q⟩
end
def trk (h:Heap) (H:Hp):Jc:=(List.range h.objs.size).filter λa=>(H a).isSome
def hidT (h:Heap) (H:Hp):Heap:=PySem.W.hideAll h (trk h H)
def hidT_size (h:Heap) (H:Hp):(hidT h H).objs.size=h.objs.size:=PySem.W.hideAll_size _ _
def hidT_get {h:Heap} {H:Hp} {b:Ad} {o:Obj} (e:h.get? b=some o) (n:H b=none):(hidT h H).get? b=some o :=
 PySem.W.hideAll_get _ e λhm=>by
  have q:(H b).isSome=true:=(List.mem_filter.mp hm).2;rw [n] at q;simp at q
def of_hidT {h:Heap} {H:Hp} {b:Ad} {o:Obj} (e:(hidT h H).get? b=some o):h.get? b=some o/\H b=none:=by
 have e':h.get? b=some o:=PySem.W.of_hideAll (trk h H) e;refine ⟨e',?_⟩
 cases q:H b with
 | none=>rfl
 | some x =>
  have hm:b∈trk h H:=List.mem_filter.mpr ⟨List.mem_range.mpr (Heap.lt_size e'),by simp [q]⟩;have z:(hidT h H).get? b=none:=PySem.W.hideAll_none (trk h H) hm;rw [z] at e;cases e
def Xl (g h:Heap) (L:Ad):J7:=(List.range h.objs.size).filterMap λa=>if a=L∨(g.get? a).isSome=true then none else (h.get? a).map λo=>(a,o)
def zd6 {g h:Heap} {L a:Ad} {o:Obj} (h1:a≠L) (h2:g.get? a=none) (h3:h.get? a=some o):(a,o)∈Xl g h L :=
 List.mem_filterMap.mpr ⟨a,List.mem_range.mpr (Heap.lt_size h3),by simp [h1,h2,h3]⟩
def zam {g h:Heap} {L:Ad} {p:Ad×Obj} (hp:p∈Xl g h L):p.1≠L/\g.get? p.1=none/\h.get? p.1=some p.2:=by
 obtain ⟨b,_,e⟩:=List.mem_filterMap.mp hp
 split at e
 ·cases e
 ·rename_i hn
  cases q:h.get? b with
  | none=>rw [q] at e;simp at e
  | some u =>
   rw [q] at e;simp only [Option.map_some,Option.some.injEq] at e;subst e;refine ⟨λz=>hn (.inl z),?_,q⟩;show g.get? b=none
   cases r:g.get? b with
   | none=>rfl
   | some v=>exact (hn (.inr (by simp [r]))).elim
def news_all {g h:Heap} {L:Ad}:News g L h (Xl g h L):=λp hp=>let ⟨a,b,c⟩:=zam hp;⟨c,a,b⟩
structure Mod (K:Fg) (mg:J0) (base:Heap):Prop where
 kin:K.In base
 glob:base.Ns mainGlobals mg
 blt:∃ mb,base.Ns builtinsNs mb/\∀ x:Str,x≠"__name__"->mb x=bootBuiltins x
 nolimit:base.NoLimit
structure Cx where
 prog:Program
 w:World
 K:Fg
 mg:J0
 base:Heap
 A:Around
 N:Jb
 s₀:Sh
 H₀:Hp
 env:Env
 outer:List Env
 stack:List Env
 ex:Jc
 fn:Str->Bool
 calm:Bool
 pn:J7
 xe:J5
def frs (l:List Env):Jc:=l.filterMap (·.frame)
abbrev Cx.fs (X:Cx):Jc:=frs X.outer
def Vis (sc:Scope) (x:Str):Prop:=sc.names.lookup x=some .local∨sc.names.lookup x=some .cell∨sc.names.lookup x=some .free
def Loc (sc:Scope) (x:Str):Prop:=sc.names.lookup x=some .local∨sc.names.lookup x=some .cell
def Look (env:Env) (h:Heap) (m:J0) (x:Str) (u:Vl):Prop :=
 (env.kindOf x=some .local/\m x=some u)∨((env.kindOf x=some .cell∨env.kindOf x=some .free)/\∃ c,env.cells.lookup x=some c/\h.IsCell c (some u))
structure Cx.Ok (X:Cx):Prop where
 mod:Mod X.K X.mg X.base
 kind:X.env.scope.kind=.function
 glob:X.env.globals=mainGlobals
 blt:X.env.builtins=builtinsNs
 above:X.s₀.heap.objs.size<=X.env.locals
 inj:∀ x y c,X.env.cells.lookup x=some c->X.env.cells.lookup y=some c->x=y
 has:∀ x,(X.env.kindOf x=some .cell∨X.env.kindOf x=some .free)->∃ c,X.env.cells.lookup x=some c
 cab:∀ x c,X.fn x=true->X.env.cells.lookup x=some c->X.s₀.heap.objs.size<=c
 hd:X.calm=true->X.A.handled=none
 frames:X.A.frames=some X.stack
 stk:X.stack=X.outer∨(X.stack=X.env::X.outer/\X.env.frame=some X.env.locals)
 exf:∀ b∈X.ex,b≠X.env.locals/\∀ x c,X.env.cells.lookup x=some c->c≠b
 bs:∀ b o,X.base.get? b=some o->X.s₀.heap.get? b=some o/\X.H₀ b=none
 bsz:X.base.objs.size<=X.s₀.heap.objs.size
 noex:∀ b o,X.base.get? b=some o->b ∉ X.ex
 exfs:∀ b∈X.ex,b ∉ X.fs
 funs:X.s₀.heap.FunFrames X.base X.outer
 frf:∀ b∈X.fs,X.H₀ b=none
structure Inv (X:Cx) (l8:J7) (σ:List (Jk)) (H:Hp) (s:Sh):Prop where
 ok:X.Ok
 os:s.os=X.s₀.os
 bare:AllBare s.gens
 base:Un X.fs X.ex X.H₀ H X.s₀.heap s.heap
 loc:∃ m,s.heap.Ns X.env.locals m/\∀ (i:Nat) (x:Str) (v:V),X.N[i]?=some x->σ[i]?=some (some v)->Vis X.env.scope x->∃ u,RelV v u/\Look X.env s.heap m x u
 cell:∀ x c,X.env.cells.lookup x=some c->∃ v,s.heap.IsCell c v
 free:H X.env.locals=none
 freeC:∀ x c,X.env.cells.lookup x=some c->H c=none
 pin:∀ p∈X.pn++l8,s.heap.get? p.1=some p.2/\H p.1=none/\p.1≠X.env.locals/\p.1 ∉ X.fs/\∀ v,p.2.data≠.cell v
 hok:HOk X.prog X.w H s.heap
 len:σ.length=X.N.length
section
variable {X:Cx} {l8:J7} {σ:List (Jk)} {H H':Hp} {s:Sh} {h':Heap}
def Cx.Ok.nofr (ok:X.Ok) {b:Ad} {o:Obj} (e:X.base.get? b=some o):b ∉ X.fs:=λhb=>by
 have:=(ok.funs.mem hb).1;rw [e] at this;cases this
def Inv.bs (I:Inv X l8 σ H s):∀ b o,X.base.get? b=some o->s.heap.get? b=some o/\H b=none:=λb o e =>
 ⟨I.base.keep b o (I.ok.bs b o e).1 (I.ok.bs b o e).2 (I.ok.nofr e) (I.ok.noex b o e),I.base.free b o (I.ok.bs b o e).1 (I.ok.bs b o e).2 (I.ok.noex b o e)⟩
def Inv.bk (I:Inv X l8 σ H s):∀ b o,X.base.get? b=some o->s.heap.get? b=some o:=λb o e=>(I.bs b o e).1
def Inv.mod (I:Inv X l8 σ H s):Mod X.K X.mg X.base:=I.ok.mod
def Inv.kIn (I:Inv X l8 σ H s):X.K.In s.heap:=I.ok.mod.kin.keeps I.bk
def Inv.lt (I:Inv X l8 σ H s):X.env.locals<s.heap.objs.size:=let ⟨_,hn,_⟩:=I.loc;hn.lt
def Inv.sz (I:Inv X l8 σ H s):X.s₀.heap.objs.size<=s.heap.objs.size:=Nat.le_trans I.ok.above (Nat.le_of_lt I.lt)
def Inv.nofs (I:Inv X l8 σ H s) {a:Ad} (h:s.heap.objs.size<=a):a ∉ X.fs:=λhb=>by
 obtain ⟨_,o,ho,_⟩:=I.ok.funs.mem hb;exact absurd (q7z (Heap.lt_size ho) (Nat.le_trans I.sz h)) (Nat.lt_irrefl _)
def Inv.cne (I:Inv X l8 σ H s):∀ x c,X.env.cells.lookup x=some c->c≠X.env.locals:=λx c e z=>by
 obtain ⟨v,o,ho,hd⟩:=I.cell x c e;obtain ⟨m,⟨o',es,ep,ho',hd',_⟩,_⟩:=I.loc;rw [z,ho'] at ho;cases ho;rw [hd'] at hd;cases hd
def Inv.funs (I:Inv X l8 σ H s):s.heap.FunFrames X.base X.outer:=by
 have all:∀ (l:List Env),(∀ b∈frs l,b∈X.fs)->X.s₀.heap.FunFrames X.base l->s.heap.FunFrames X.base l:=by
  intro l
  induction l with
  | nil=>intro _ _;trivial
  | cons env r ih =>
   intro hs hl;obtain ⟨hk,⟨L,o,hf,hn,ho,hd⟩,hr⟩:=hl;have hL:L∈X.fs:=hs L (by unfold frs;rw [List.filterMap_cons,hf];exact q6z);obtain ⟨sl,e⟩:=I.base.slot L o ho (I.ok.frf L hL) hL λz=>I.ok.exfs L z hL;exact ⟨hk,⟨L,_,hf,hn,e,hd⟩,ih (λb hb=>hs b (by unfold frs;rw [List.filterMap_cons,hf];exact q6y _ hb)) hr⟩
 exact all X.outer (λ_ hb=>hb) I.ok.funs
def Inv.stack (I:Inv X l8 σ H s):s.heap.FunFrames X.base X.stack:=by
 rcases I.ok.stk with e | ⟨e,hf⟩
 ·rw [e];exact I.funs
 ·rw [e]
  obtain ⟨m,hn,_⟩:=I.loc;refine .cons (by rw [I.ok.kind];decide) hf hn ?_ I.funs;exact Heap.get?_none_of_le (Nat.le_trans I.ok.bsz I.ok.above)
def Inv.stkSub (I:Inv X l8 σ H s):∀ b∈frs X.stack,b∈X.env.locals::X.fs:=λb hb=>by
 rcases I.ok.stk with e | ⟨e,hf⟩
 ·rw [e] at hb;exact q6y _ hb
 ·rw [e] at hb
  unfold frs at hb;rw [List.filterMap_cons,hf] at hb;exact hb
def Inv.stkFree (I:Inv X l8 σ H s):∀ b∈frs X.stack,H b=none:=λb hb=>by
 rcases List.mem_cons.mp (I.stkSub b hb) with e | hb
 ·rw [e];exact I.free
 ·obtain ⟨_,o,ho,_⟩:=I.ok.funs.mem hb
  exact I.base.free b o ho (I.ok.frf b hb) λz=>I.ok.exfs b z hb
def Inv.step {g':Array GenState} {t':Nat} {d':Drawn} {ch:Jc} (I:Inv X l8 σ H s)
  (hch:∀ b∈ch,(b∈X.ex∨X.s₀.heap.objs.size<=b)/\b≠X.env.locals/\(∀ x c,X.env.cells.lookup x=some c->c≠b)/\∀ p∈X.pn++l8,p.1≠b)
  (keep:∀ b o,b≠X.env.locals->b ∉ X.fs->b ∉ ch->s.heap.get? b=some o->H b=none->h'.get? b=some o)
  (slot:∀ b o,b≠X.env.locals->b∈X.fs->b ∉ ch->s.heap.get? b=some o->H b=none->∃ sl,h'.get? b=some { o with slots:=sl }) (free:∀ b o,b ∉ ch->s.heap.get? b=some o->H b=none->H' b=none)
  (there:∀ b o,b ∉ ch->s.heap.get? b=some o->∃ o',h'.get? b=some o')
  (tups:∀ b xs,H b=some (.tup xs)->H' b=some (.tup xs)) (frzs:∀ b o u,H b=some (.frz o u)->H' b=some (.frz o u)) (tbls:∀ b ps,H b=some (.tbl ps)->∃ more,H' b=some (.tbl (ps++more)))
  (ns:∀ m,s.heap.Ns X.env.locals m->h'.Ns X.env.locals m) (hok:HOk X.prog X.w H' h') (hg:AllBare g') :
  Inv X l8 σ H' { s with heap:=h',gens:=g',drawn:=d',toks:=t' }:=by
 have neL:∀ b o,X.s₀.heap.get? b=some o->b≠X.env.locals:=λb o e=>Nat.ne_of_lt (q7z (Heap.lt_size e) I.ok.above)
 have neC:∀ b o,X.s₀.heap.get? b=some o->b ∉ X.ex->b ∉ ch:=λb o e hx hb=>by
  rcases (hch b hb).1 with z | z
  ·exact hx z
  ·exact absurd (q7z (Heap.lt_size e) z) (Nat.lt_irrefl _)
 have cellK:∀ x c,X.env.cells.lookup x=some c->∀ v,s.heap.IsCell c v->h'.IsCell c v:=λx c e v ⟨o,ho,hd⟩=>by
  have nch:c ∉ ch:=λz=>(hch c z).2.2.1 x c e rfl;by_cases hc:c∈X.fs
  ·obtain ⟨sl,q⟩:=slot c o (I.cne x c e) hc nch ho (I.freeC x c e)
   exact ⟨_,q,hd⟩
  ·exact ⟨o,keep c o (I.cne x c e) hc nch ho (I.freeC x c e),hd⟩
 refine ⟨I.ok,I.os,hg,⟨λb o e n hb hx=>?_,λb o e n hb hx=>?_,λb o e n hx=>?_,λb o e hx=>?_,λb xs e=>tups b xs (I.base.tups b xs e),λb o xs e=>frzs b o xs (I.base.frzs b o xs e),λb ps e=>?_⟩,?_,λx c e=>?_,?_,λx c e=>?_,λp hp=>?_,hok,I.len⟩
 ·exact keep b o (neL b o e) hb (neC b o e hx) (I.base.keep b o e n hb hx) (I.base.free b o e n hx)
 ·obtain ⟨sl,e1⟩:=I.base.slot b o e n hb hx
  obtain ⟨sl',e2⟩:=slot b _ (neL b o e) hb (neC b o e hx) e1 (I.base.free b o e n hx);exact ⟨sl',e2⟩
 ·obtain ⟨o',e1⟩:=I.base.there b o e hx
  exact free b o' (neC b o e hx) e1 (I.base.free b o e n hx)
 ·obtain ⟨o',e1⟩:=I.base.there b o e hx
  exact there b o' (neC b o e hx) e1
 ·obtain ⟨m1,e1⟩:=I.base.tbls b ps e
  obtain ⟨m2,e2⟩:=tbls b _ e1;exact ⟨m1++m2,by rw [e2,Array.append_assoc]⟩
 ·obtain ⟨m,hn,hl⟩:=I.loc
  refine ⟨m,ns m hn,λi x v e1 e2 e3=>?_⟩;obtain ⟨u,r,l⟩:=hl i x v e1 e2 e3;refine ⟨u,r,?_⟩;rcases l with l | ⟨k,c,e,z⟩
  ·exact .inl l
  ·exact .inr ⟨k,c,e,cellK x c e _ z⟩
 ·obtain ⟨v,z⟩:=I.cell x c e
  exact ⟨v,cellK x c e v z⟩
 ·obtain ⟨m,⟨o,_,_,ho,_⟩,_⟩:=I.loc
  exact free _ o (λz=>(hch _ z).2.1 rfl) ho I.free
 ·obtain ⟨v,o,ho,hd⟩:=I.cell x c e
  exact free c o (λz=>(hch c z).2.2.1 x c e rfl) ho (I.freeC x c e)
 ·obtain ⟨e,n,ne,nf,d⟩:=I.pin p hp
  have nch:p.1 ∉ ch:=λz=>(hch p.1 z).2.2.2 p hp rfl;exact ⟨keep p.1 p.2 ne nf nch e n,free p.1 p.2 nch e n,ne,nf,d⟩
def Inv.un {t':Nat} (I:Inv X l8 σ H s) (u:Un X.fs [] H H' s.heap h') (hok:HOk X.prog X.w H' h'):Inv X l8 σ H' { s with heap:=h',toks:=t' }:=by
 obtain ⟨m,⟨o,es,ep,ho,r⟩,_⟩:=id I.loc;obtain ⟨sl,hL⟩:=u.any ho I.free (by simp)
 exact I.step (g':=s.gens) (d':=s.drawn) (ch:=[]) (λ_ z=>nomatch z) (λb o _ hb _ e n=>u.keep b o e n hb (by simp)) (λb o _ hb _ e n=>u.slot b o e n hb (by simp)) (λb o _ e n=>u.free b o e n (by simp)) (λb o _ e=>u.there b o e (by simp)) u.tups u.frzs u.tbls (λm' hm=>by
  obtain ⟨o',es',ep',ho',r'⟩:=hm;rw [ho] at ho';cases ho';exact ⟨_,es',ep',hL,r'⟩) hok I.bare
def Inv.call {g':Array GenState} {t':Nat} {d':Drawn} {ch:Jc} (I:Inv X l8 σ H s) (u:Un (frs X.stack) ch H H' s.heap h') (hok:HOk X.prog X.w H' h') (hg:AllBare g')
  (hch:∀ b∈ch,(b∈X.ex∨X.s₀.heap.objs.size<=b)/\b≠X.env.locals/\(∀ x c,X.env.cells.lookup x=some c->c≠b)/\∀ p∈X.pn++l8,p.1≠b) :
  Inv X l8 σ H' { s with heap:=h',gens:=g',drawn:=d',toks:=t' }:=by
 obtain ⟨m,⟨o,es,ep,ho,r⟩,_⟩:=id I.loc;obtain ⟨sl,hL⟩:=u.any ho I.free λz=>(hch _ z).2.1 rfl
 exact I.step (ch:=ch) hch (λb o hL hb hc e n=>u.keep b o e n (λz=>(List.mem_cons.mp (I.stkSub b z)).elim hL hb) hc) (λb o _ _ hc e n=>u.any e n hc) (λb o hc e n=>u.free b o e n hc) (λb o hc e=>u.there b o e hc) u.tups u.frzs u.tbls (λm' hm=>by
  obtain ⟨o',es',ep',ho',r'⟩:=hm;rw [ho] at ho';cases ho';exact ⟨_,es',ep',hL,r'⟩) hok hg
def Inv.turned {t':Nat} {it:Ad} (I:Inv X l8 σ H s) (k:∀ b o,b≠it->s.heap.get? b=some o->h'.get? b=some o) (hn:H it=none) (hL:it≠X.env.locals)
  (h1:it∈X.ex∨X.s₀.heap.objs.size<=it) (h2:∀ x c,X.env.cells.lookup x=some c->c≠it) (h3:∀ p∈X.pn++l8,p.1≠it):Inv X l8 σ H { s with heap:=h',toks:=t' }:=by
 have nit:∀ b u,H b=some u->b≠it:=λb u e z=>by rw [z,hn] at e;cases e
 refine I.step (g':=s.gens) (d':=s.drawn) (ch:=[it]) (λb hb=>?_) (λb o _ _ hc e _=>k b o (λz=>hc (by simp [z])) e) (λb o _ _ hc e _=>⟨o.slots,k b o (λz=>hc (by simp [z])) e⟩) (λ_ _ _ _ n=>n)
  (λb o hc e=>⟨o,k b o (λz=>hc (by simp [z])) e⟩) (λ_ _ e=>e) (λ_ _ _ e=>e) (λb ps e=>⟨#[],by rw [e];simp⟩) (λm hm=>?_) (λb u e=>?_) I.bare
 ·have e:b=it:=by simpa using hb
  subst e;exact ⟨h1,hL,h2,h3⟩
 ·obtain ⟨o,es,ep,ho,r⟩:=hm
  exact ⟨o,es,ep,k _ o (Ne.symm hL) ho,r⟩
 ·refine (I.hok b u e).stay (λc v hc q=>k c v ?_ q) (λ_ q=>q) λ_ _ q=>q
  rcases hc with z | z
  ·rw [z];exact nit b u e
  ·exact nit c _ z
def Inv.tok (I:Inv X l8 σ H s) (t:Nat):Inv X l8 σ H { s with toks:=t }:=I.un (h':=s.heap) (t':=t) Un.refl I.hok
def Inv.kept {t':Nat} (I:Inv X l8 σ H s) (k:∀ b u,s.heap.get? b=some u->h'.get? b=some u):Inv X l8 σ H { s with heap:=h',toks:=t' }:=I.un (Un.kept k) (I.hok.kept k)
def Inv.laid {a:Ad} {o:HO} {t':Nat} (I:Inv X l8 σ H s) (k:∀ b u,s.heap.get? b=some u->h'.get? b=some u) (hp:s.heap.objs.size<=a) (new:ObjOk X.prog X.w (upd H a o) h' a o) :
  Inv X l8 σ (upd H a o) { s with heap:=h',toks:=t' }:=I.un (Un.laid k hp (I.hok.fresh hp)) (I.hok.laid k hp new)
def Inv.write {x e:Ad} {o:HO} {t':Nat} (I:Inv X l8 σ H s) (mu:Mut (H x)) (he:e=x∨H e=some (.own x)) (k:∀ b u,b≠e->s.heap.get? b=some u->h'.get? b=some u) (heo:∃ u,h'.get? e=some u)
  (new:ObjOk X.prog X.w (upd H x o) h' x o):Inv X l8 σ (upd H x o) { s with heap:=h',toks:=t' }:=I.un (Un.write mu he k heo) (I.hok.write mu he k heo new)
def Inv.pins_of {pins':J7} (I:Inv X l8 σ H s) (h:∀ p∈pins',s.heap.get? p.1=some p.2/\H p.1=none/\p.1≠X.env.locals/\p.1 ∉ X.fs/\∀ v,p.2.data≠.cell v):Inv X pins' σ H s :=
 ⟨I.ok,I.os,I.bare,I.base,I.loc,I.cell,I.free,I.freeC,λp hp=>(List.mem_append.mp hp).elim (λz=>I.pin p (List.mem_append_left _ z)) (h p),I.hok,I.len⟩
def zd1 {N:Jb} (hN:N.Nodup) {i j:Nat} {x:Str} (a:N[i]?=some x) (b:N[j]?=some x):i=j:=by
 obtain ⟨h1,e1⟩:=List.getElem?_eq_some_iff.mp a;obtain ⟨h2,e2⟩:=List.getElem?_eq_some_iff.mp b;exact (List.getElem_inj hN).mp (e1.trans e2.symm)
def zbn {M:Model} {A:Around} {E:J5} {i:Nat} {x:Str} {v:V} {u:Vl} {Q:Unit->Sh->Prop} (I:Inv X l8 σ H s) (hN:X.N.Nodup) (hi:X.N[i]?=some x) (hx:Loc X.env.scope x) (r:RelV v u)
  (h:∀ s',Inv X l8 (σ.set i (some v)) H s'->(∃ a,Heap.SameBut a s.heap s'.heap/\(a=X.env.locals∨X.env.cells.lookup x=some a))->Q () s') (hf:X.fn x=true∨X.env.scope.names.lookup x=some .local:=by first | exact .inl rfl | exact .inr rfl | assumption):wpAny M A (storeName X.env x u) Q E s:=by
 obtain ⟨m,hn,hl⟩:=id I.loc;have hcls:(X.env.scope.kind == .class || (X.env.scope.kind == .module && X.env.locals != X.env.globals))=false:=by rw [I.ok.kind];rfl
 have hiσ:i<σ.length:=by rw [I.len];exact (List.getElem?_eq_some_iff.mp hi).1
 have cne:=I.cne
 have tracked:∀ {a:Ad} {h':Heap},(∃ o,s.heap.get? a=some o/\H a=none)->Heap.SameBut a s.heap h'->HOk X.prog X.w H h':=λ{a h'} ha hs b ob e=>by
  obtain ⟨_,_,hfree⟩:=ha;refine (I.hok b ob e).stay (λc w' hc q=>(hs.2 c ?_).trans q) (λ_ q=>q) λ_ _ q=>q;rintro rfl;rcases hc with rfl | hc
  ·rw [hfree] at e;cases e
  ·rw [hfree] at hc;cases hc
 rcases hx with hk | hk
 ·refine wpAny_storeName_local hk hn (λh' hn' hs=>?_) hcls
  obtain ⟨oL,_,_,hoL,_⟩:=id hn;refine h _ ⟨I.ok,I.os,I.bare,⟨λb o e n hb hx=>?_,λb o e n hb hx=>?_,I.base.free,λb o e hx=>?_,I.base.tups,I.base.frzs,I.base.tbls⟩,⟨_,hn',λj y v' e1 e2 e3=>?_⟩,λy c e=>?_,I.free,I.freeC,λp hp=>?_,tracked ⟨oL,hoL,I.free⟩ hs,by simpa using I.len⟩ ⟨_,hs,.inl rfl⟩
  ·exact (hs.2 b (Nat.ne_of_lt (q7z (Heap.lt_size e) I.ok.above))).trans (I.base.keep b o e n hb hx)
  ·obtain ⟨sl,e1⟩:=I.base.slot b o e n hb hx
   exact ⟨sl,(hs.2 b (Nat.ne_of_lt (q7z (Heap.lt_size e) I.ok.above))).trans e1⟩
  ·obtain ⟨o',e1⟩:=I.base.there b o e hx
   exact ⟨o',(hs.2 b (Nat.ne_of_lt (q7z (Heap.lt_size e) I.ok.above))).trans e1⟩
  ·by_cases hj:j=i
   ·subst hj
    rw [hi] at e1;cases e1;rw [q8z hiσ] at e2;cases e2;exact ⟨u,r,.inl ⟨hk,by simp⟩⟩
   ·rw [List.getElem?_set_ne (Ne.symm hj)] at e2
    obtain ⟨u',r',q⟩:=hl j y v' e1 e2 e3;refine ⟨u',r',?_⟩;rcases q with ⟨k,e⟩ | ⟨k,c,e,z⟩
    ·refine .inl ⟨k,?_⟩
     have:y≠x:=λe=>hj (zd1 hN e1 (e ▸ hi));simp [this,e]
    ·exact .inr ⟨k,c,e,z.sameBut hs (cne y c e)⟩
  ·obtain ⟨w',z⟩:=I.cell y c e
   exact ⟨w',z.sameBut hs (cne y c e)⟩
  ·obtain ⟨e,n,ne,nf,d⟩:=I.pin p hp
   exact ⟨(hs.2 p.1 ne).trans e,n,ne,nf,d⟩
 ·have hfn:X.fn x=true:=by
   rcases hf with z | z
   ·exact z
   ·rw [z] at hk;cases hk
  obtain ⟨c,hc⟩:=I.ok.has x (.inl hk);obtain ⟨w',z⟩:=I.cell x c hc;refine wpAny_storeName_cell I.ok.kind hk hc z (λh' hc' hs=>?_);obtain ⟨oc,hoc,hocd⟩:=id z;refine h { s with heap:=h' } ⟨I.ok,I.os,I.bare,⟨λb o e n hb hx=>?_,λb o e n hb hx=>?_,I.base.free,λb o e hx=>?_,I.base.tups,I.base.frzs,I.base.tbls⟩,⟨m,hn.sameBut hs (Ne.symm (cne x c hc)),λj y v' e1 e2 e3=>?_⟩,λy c' e=>?_,I.free,I.freeC,λp hp=>?_,tracked ⟨oc,hoc,I.freeC x c hc⟩ hs,by simpa using I.len⟩ ⟨c,hs,.inr hc⟩
  ·exact (hs.2 b (Nat.ne_of_lt (q7z (Heap.lt_size e) (I.ok.cab x c hfn hc)))).trans (I.base.keep b o e n hb hx)
  ·obtain ⟨sl,e1⟩:=I.base.slot b o e n hb hx
   exact ⟨sl,(hs.2 b (Nat.ne_of_lt (q7z (Heap.lt_size e) (I.ok.cab x c hfn hc)))).trans e1⟩
  ·obtain ⟨o',e1⟩:=I.base.there b o e hx
   exact ⟨o',(hs.2 b (Nat.ne_of_lt (q7z (Heap.lt_size e) (I.ok.cab x c hfn hc)))).trans e1⟩
  ·by_cases hj:j=i
   ·subst hj
    rw [hi] at e1;cases e1;rw [q8z hiσ] at e2;cases e2;exact ⟨u,r,.inr ⟨.inl hk,c,hc,hc'⟩⟩
   ·rw [List.getElem?_set_ne (Ne.symm hj)] at e2
    obtain ⟨u',r',q⟩:=hl j y v' e1 e2 e3;refine ⟨u',r',?_⟩;rcases q with q | ⟨k,c',e,z'⟩
    ·exact .inl q
    ·refine .inr ⟨k,c',e,z'.sameBut hs ?_⟩
     rintro rfl;exact hj (zd1 hN e1 (I.ok.inj _ _ _ e hc ▸ hi))
  ·by_cases hcc:c'=c
   ·subst hcc;exact ⟨_,hc'⟩
   ·obtain ⟨w2,z2⟩:=I.cell y c' e
    exact ⟨w2,z2.sameBut hs hcc⟩
  ·obtain ⟨e,n,ne,nf,d⟩:=I.pin p hp
   refine ⟨(hs.2 p.1 ?_).trans e,n,ne,nf,d⟩;intro q;rw [q,hoc] at e;have q':oc=p.2:=Option.some.inj e;exact d w' (by rw [← q'];exact hocd)
def zdd {M:Model} {A:Around} {E:J5} {i:Nat} {x:Str} {v:V} {u:Vl} {Q:Unit->Sh->Prop} (I:Inv X l8 σ H s) (hN:X.N.Nodup) (hi:X.N[i]?=some x) (hx:Loc X.env.scope x) (r:RelV v u)
  (h:∀ s',Inv X l8 (σ.set i (some v)) H s'->Q () s') (hf:X.fn x=true∨X.env.scope.names.lookup x=some .local:=by first | exact .inl rfl | exact .inr rfl | assumption):wpAny M A (storeName X.env x u) Q E s :=
 zbn I hN hi hx r (λs' I' _=>h s' I') hf
def Inv.call' {s':Sh} {ch:Jc} (I:Inv X l8 σ H s) (ho:s'.os=s.os) (u:Un (frs X.stack) ch H H' s.heap s'.heap) (hok:HOk X.prog X.w H' s'.heap) (hg:AllBare s'.gens)
  (hch:∀ b∈ch,(b∈X.ex∨X.s₀.heap.objs.size<=b)/\b≠X.env.locals/\(∀ x c,X.env.cells.lookup x=some c->c≠b)/\∀ p∈X.pn++l8,p.1≠b):Inv X l8 σ H' s':=by
 obtain ⟨h',g',d',t',o'⟩:=s';have e:o'=s.os:=ho;subst e;exact I.call (g':=g') (t':=t') (d':=d') u hok hg hch
end
abbrev XK:=Vl->Option Ad->Hp->Prop
abbrev St:=List (Jk)
abbrev VK:=V->Hp->Prop
abbrev TE:=St->Hp->VK->Prop
abbrev TT:=St->Hp->(Bool->Hp->Prop)->Prop
abbrev TA:=St->Hp->(Jj->Hp->Prop)->Prop
structure Ends where
 nx:St->Hp->Prop
 rt:VK
 bk:St->Hp->Prop:=λ_ _=>False
 ct:St->Hp->Prop:=λ_ _=>False
abbrev TS:=Ends->St->Hp->Prop
def EP (X:Cx) (l8:J7) (σ:St) (Q:VK) (u:Vl) (s':Sh):Prop:=∃ v H',Inv X l8 σ H' s'/\RelV v u/\Q v H'
def TP (X:Cx) (l8:J7) (σ:St) (Q:Bool->Hp->Prop) (b:Bool) (s':Sh):Prop:=∃ H',Inv X l8 σ H' s'/\Q b H'
def AP (X:Cx) (l8:J7) (σ:St) (Q:Jj->Hp->Prop) (us:J8) (s':Sh):Prop:=∃ vs H',Inv X l8 σ H' s'/\Vals vs us/\Q vs H'
def SP (X:Cx) (l8:J7) (D:Ends) (f:Flow) (s':Sh):Prop :=
 match f with
 | .next=>∃ σ' H',Inv X l8 σ' H' s'/\D.nx σ' H'
 | .brk=>∃ σ' H',Inv X l8 σ' H' s'/\D.bk σ' H'
 | .cont=>∃ σ' H',Inv X l8 σ' H' s'/\D.ct σ' H'
 | .ret u=>∃ v σ' H',Inv X l8 σ' H' s'/\RelV v u/\D.rt v H'
def PE (X:Cx) (e:Expr) (t:TE):Prop :=
 ∀ (l8:J7) (s:Sh) (σ:St) (H:Hp) (Q:VK),Inv X l8 σ H s->t σ H Q->wpAny (model X.prog X.w) X.A (eval e X.env) (EP X l8 σ Q) X.xe s
def PT (X:Cx) (e:Expr) (t:TT):Prop :=
 ∀ (l8:J7) (s:Sh) (σ:St) (H:Hp) (Q:Bool->Hp->Prop),Inv X l8 σ H s->t σ H Q->wpAny (model X.prog X.w) X.A (isTrue e X.env (eval e X.env)) (TP X l8 σ Q) X.xe s
def PW (X:Cx) (e:Expr) (t:TT):Prop :=
 ∀ (whole:Sem Vl) (l8:J7) (s:Sh) (σ:St) (H:Hp) (Q:Bool->Hp->Prop),Inv X l8 σ H s->t σ H Q->wpAny (model X.prog X.w) X.A (isTrue e X.env whole) (TP X l8 σ Q) X.xe s
def PW.pt {X:Cx} {e:Expr} {t:TT} (h:PW X e t):PT X e t:=h _
def PA (X:Cx) (es:Jd) (t:TA):Prop :=
 ∀ (pos:Pos) (l8:J7) (s:Sh) (σ:St) (H:Hp) (Q:Jj->Hp->Prop),Inv X l8 σ H s->t σ H Q->wpAny (model X.prog X.w) X.A (spliced (backTo pos (starEach es X.env))) (AP X l8 σ Q) X.xe s
def PS (X:Cx) (st:Stmt) (t:TS):Prop :=
 ∀ (l8:J7) (s:Sh) (σ:St) (H:Hp) (D:Ends),Inv X l8 σ H s->t D σ H->wpAny (model X.prog X.w) X.A (exec st X.env) (SP X l8 D) X.xe s
def PSs (X:Cx) (st:List Stmt) (t:TS):Prop :=
 ∀ (l8:J7) (s:Sh) (σ:St) (H:Hp) (D:Ends),Inv X l8 σ H s->t D σ H->wpAny (model X.prog X.w) X.A (execs st X.env) (SP X l8 D) X.xe s
def thn {α:Type} {t:Sem α} {Q Q':α->Sh->Prop} {M:Model} {A:Around} {E:J5} {s:Sh} (h:wpAny M A t Q E s) (hQ:∀ a s,Q a s->Q' a s):wpAny M A t Q' E s:=wpAny_mono h hQ λ_ _ x=>x
section
variable {X:Cx}
inductive tVar (i:Nat) (σ:St) (H:Hp) (Q:VK):Prop
 | mk (v:_) (_:σ[i]?=some (some v)) (_:Q v H)
def tC (v:V):TE:=λ_ H Q=>Q v H
def pe_var {i:Nat} {x:Str} {pos:Pos} (hN:X.N[i]?=some x) (hv:Vis X.env.scope x) (hd:(x == ("__debug__":Str))=false:=by decide) (hcd:(x == ("__classdict__":Str))=false:=by decide):PE X (.Name x pos) (tVar i):=by
 intro l8 s σ H Q I h;obtain ⟨v,e,h⟩:=h;obtain ⟨m,hn,hl⟩:=I.loc;obtain ⟨u,r,l⟩:=hl i x v hN e hv;have fin:EP X l8 σ Q u s:=⟨v,H,I,r,h⟩;rcases l with ⟨hk,hm⟩ | ⟨hk,c,hc,hcell⟩
 ·exact wpAny_Name (wpAny_loadName_local I.ok.kind hk hn hm fin) hd
 ·rcases hk with hk | hk
  ·exact wpAny_Name (wpAny_loadName_cell I.ok.kind hk hc hcell fin) hd
  ·exact wpAny_Name (wpAny_loadName_free I.ok.kind hk hc hcell fin hcd) hd
def zg {i j pos}:PE X (.Constant (.int i) j pos) (tC (.int i)):=λ_ _ _ H _ I h=>wpAny_Constant_int ⟨.int i,H,I.tok _,⟨_,rfl⟩,h⟩
def Xe {b j pos}:PE X (.Constant (.bool b) j pos) (tC (.bl b)):=λ_ _ _ H _ I h=>Constant_bool ⟨.bl b,H,I,rfl,h⟩
def xv {j pos}:PE X (.Constant .none j pos) (tC .non):=λ_ _ _ H _ I h=>Constant_none ⟨.non,H,I,rfl,h⟩
def zV {x j pos}:PE X (.Constant (.str x) j pos) (tC (.str x)):=λ_ _ _ H _ I h=>Calls.Constant_str ⟨.str x,H,I.tok _,⟨_,rfl⟩,h⟩
def Gl (X:Cx) (x:Str):Prop:=X.env.kindOf x=some .globalImplicit
def Ya {E:J5} {l8:J7} {s:Sh} {σ:St} {H:Hp} {x:Str} {u:Vl} {pos:Pos} {Q:J5} (I:Inv X l8 σ H s) (hg:Gl X x) (hm:X.mg x=some u) (h:Q u s)
  (hd:(x == ("__debug__":Str))=false:=by decide):wpAny (model X.prog X.w) X.A (eval (.Name x pos) X.env) Q E s :=
 Calls.Name_function_global I.ok.kind hg (Calls.loadGlobal_global (by rw [I.ok.glob];exact I.mod.glob.keeps I.bk) hm h) hd
def Yb {E:J5} {l8:J7} {s:Sh} {σ:St} {H:Hp} {x:Str} {u:Vl} {pos:Pos} {Q:J5} (I:Inv X l8 σ H s) (hg:Gl X x) (hm:X.mg x=none) (hv:bootBuiltins x=some u) (h:Q u s)
  (hn:x≠"__name__":=by decide) (hd:(x == ("__debug__":Str))=false:=by decide):wpAny (model X.prog X.w) X.A (eval (.Name x pos) X.env) Q E s:=by
 obtain ⟨mb,h1,h2⟩:=I.mod.blt;exact Calls.Name_function_global I.ok.kind hg (Calls.loadGlobal_builtin (by rw [I.ok.glob];exact I.mod.glob.keeps I.bk) hm (by rw [I.ok.blt];exact h1.keeps I.bk) ((h2 x hn).trans hv) h) hd
def pe_glob {x:Str} {v:V} {u:Vl} {pos:Pos} (hg:Gl X x) (hm:X.mg x=some u) (r:RelV v u) (hd:(x == ("__debug__":Str))=false:=by decide):PE X (.Name x pos) (tC v) :=
 λ_ _ _ H _ I h=>Ya I hg hm ⟨v,H,I,r,h⟩ hd
def pe_bltn {x:Str} {v:V} {u:Vl} {pos:Pos} (hg:Gl X x) (hm:X.mg x=none) (hv:bootBuiltins x=some u) (r:RelV v u) (hn:x≠"__name__":=by decide) (hd:(x == ("__debug__":Str))=false:=by decide):PE X (.Name x pos) (tC v) :=
 λ_ _ _ H _ I h=>Yb I hg hm hv ⟨v,H,I,r,h⟩ hn hd
variable {a b:Expr} {ta tb:TE} {pos:Pos}
def PC (X:Cx) (op:CmpOp) (a b:Expr) (t:TE):Prop :=
 ∀ (l8:J7) (s:Sh) (σ:St) (H:Hp) (Q:VK),Inv X l8 σ H s->t σ H Q ->
  wpAny (model X.prog X.w) X.A (eval a X.env) (λv s₁=>wpAny (model X.prog X.w) X.A (eval b X.env) (λu s₂=>wpAny (model X.prog X.w) X.A (compareOp op v u) (EP X l8 σ Q) X.xe s₂) X.xe s₁) X.xe s
inductive tB_S (Q:(Bool->Hp->Prop)) (x:V) (H1:Hp):Prop
 | mk (c:_) (_:x=.bl c) (_:Q c H1)
def tB (t:TE):TT:=λσ H Q=>t σ H λx H1=>tB_S Q x H1
def pt_cmp {op:CmpOp} {t:TE} (h:PC X op a b t) (h1:behindInMarks op b=false:=by first | exact nobehind _ (by decide) (by decide) | rfl):PT X (.Compare a [op] [b] pos) (tB t):=by
 intro l8 s σ H Q I hw;refine wpAny_isTrue_Compare1 (thn (h l8 s σ H _ I hw) λv s1 h1=>thn h1 λu s2 h2=>thn h2 λc s3 ⟨x,H1,I1,r1,q1⟩=>?_) h1;obtain ⟨d,rfl,q⟩:=q1;cases r1;exact wpAny_truthy_bool ⟨H1,I1,q⟩
def yb {e:Expr} {t:TE} (h:PE X e t) (he:∀ whole,isTrue e X.env whole=(do let v ← whole;standAt e.pos;holding [v] (truthy v)):=by intro _;rfl):PT X e (tB t):=by
 intro l8 s σ H Q I hw;refine isTrue_plain (thn (h l8 s σ H _ I hw) λv s1 ⟨x,H1,I1,r1,q1⟩=>?_) (he _);obtain ⟨d,rfl,q⟩:=q1;cases r1;exact wpAny_truthy_bool ⟨H1,I1,q⟩
variable {tA tB':TT} {rest:Jd}
def tAnd (t u:TT):TT:=λσ H Q=>t σ H λc H1=>if c=true then u σ H1 Q else Q false H1
def tOr (t u:TT):TT:=λσ H Q=>t σ H λc H1=>if c=true then Q true H1 else u σ H1 Q
def tNot (t:TT):TT:=λσ H Q=>t σ H λc H1=>Q (!c) H1
def pw_and1 (ha:PT X a tA):PW X (.BoolOp .And [a] pos) tA:=by
 intro wh l8 s σ H Q I h;refine isTrue_and (thn (ha l8 s σ H Q I h) λc s1 e=>?_)
 cases c with
 | true=>exact isTrue_and_nil e
 | false=>exact e
def pw_or1 (ha:PT X a tA):PW X (.BoolOp .Or [a] pos) tA:=by
 intro wh l8 s σ H Q I h;refine isTrue_or (thn (ha l8 s σ H Q I h) λc s1 e=>?_)
 cases c with
 | false=>exact isTrue_or_nil e
 | true=>exact e
def pw_and (ha:PT X a tA) (hb:PW X (.BoolOp .And (b::rest) pos) tB'):PW X (.BoolOp .And (a::b::rest) pos) (tAnd tA tB'):=by
 intro wh l8 s σ H Q I h;refine isTrue_and (thn (ha l8 s σ H _ I h) λc s1 ⟨H1,I1,q1⟩=>?_)
 cases c with
 | true=>exact hb wh l8 s1 σ H1 Q I1 q1
 | false=>exact ⟨H1,I1,q1⟩
def pw_or (ha:PT X a tA) (hb:PW X (.BoolOp .Or (b::rest) pos) tB'):PW X (.BoolOp .Or (a::b::rest) pos) (tOr tA tB'):=by
 intro wh l8 s σ H Q I h;refine isTrue_or (thn (ha l8 s σ H _ I h) λc s1 ⟨H1,I1,q1⟩=>?_)
 cases c with
 | true=>exact ⟨H1,I1,q1⟩
 | false=>exact hb wh l8 s1 σ H1 Q I1 q1
def zaf (ha:PT X a tA):PT X (.UnaryOp .Not a pos) (tNot tA):=by
 intro l8 s σ H Q I h;exact isTrue_not (ha l8 s σ H (λc H1=>Q (!c) H1) I h)
inductive tAndV_S (tb:TE) (σ:St) (Q:VK) (x:V) (H1:Hp):Prop
 | mk (c:_) (_:x=.bl c) (_:if c=true then tb σ H1 Q else Q (.bl false) H1)
def tAndV (ta tb:TE):TE:=λσ H Q=>ta σ H λx H1=>tAndV_S tb σ Q x H1
inductive tOrV_S (tb:TE) (σ:St) (Q:VK) (x:V) (H1:Hp):Prop
 | mk (c:_) (_:x=.bl c) (_:if c=true then Q (.bl true) H1 else tb σ H1 Q)
def tOrV (ta tb:TE):TE:=λσ H Q=>ta σ H λx H1=>tOrV_S tb σ Q x H1
inductive tNotV_S (Q:VK) (x:V) (H1:Hp):Prop
 | mk (c:_) (_:x=.bl c) (_:Q (.bl (!c)) H1)
def tNotV (ta:TE):TE:=λσ H Q=>ta σ H λx H1=>tNotV_S Q x H1
def zcp {op} {t:TE} (h:PE X a t):PE X (.BoolOp op [a] pos) t:=λl8 s σ H Q I hw=>BoolOp_one (h l8 s σ H Q I hw)
def zcq (ha:PE X a ta) (hb:PE X (.BoolOp .And (b::rest) pos) tb):PE X (.BoolOp .And (a::b::rest) pos) (tAndV ta tb):=by
 intro l8 s σ H Q I h;refine BoolOp_and (thn (ha l8 s σ H _ I h) λv s1 ⟨x,H1,I1,r1,q1⟩=>?_);obtain ⟨c,rfl,q1⟩:=q1;cases r1;refine wpAny_truthy_bool ?_
 cases c with
 | true=>exact hb l8 s1 σ H1 Q I1 q1
 | false=>exact ⟨.bl false,H1,I1,rfl,q1⟩
def pe_or (ha:PE X a ta) (hb:PE X (.BoolOp .Or (b::rest) pos) tb):PE X (.BoolOp .Or (a::b::rest) pos) (tOrV ta tb):=by
 intro l8 s σ H Q I h;refine BoolOp_or (thn (ha l8 s σ H _ I h) λv s1 ⟨x,H1,I1,r1,q1⟩=>?_);obtain ⟨c,rfl,q1⟩:=q1;cases r1;refine wpAny_truthy_bool ?_
 cases c with
 | false=>exact hb l8 s1 σ H1 Q I1 q1
 | true=>exact ⟨.bl true,H1,I1,rfl,q1⟩
def pe_not (ha:PE X a ta):PE X (.UnaryOp .Not a pos) (tNotV ta):=by
 intro l8 s σ H Q I h;refine UnaryOp_ (thn (ha l8 s σ H _ I h) λv s1 ⟨x,H1,I1,r1,q1⟩=>?_);obtain ⟨c,rfl,q1⟩:=q1;cases r1;exact not_of (wpAny_truthy_bool ⟨.bl (!c),H1,I1,rfl,q1⟩)
def tIf (t:TT) (ta tb:TE):TE:=λσ H Q=>t σ H λc H1=>if c=true then ta σ H1 Q else tb σ H1 Q
def zds {c:Expr} (hc:PT X c tA) (ha:PE X a ta) (hb:PE X b tb):PE X (.IfExp c a b pos) (tIf tA ta tb):=by
 intro l8 s σ H Q I h;refine wpAny_IfExp (thn (hc l8 s σ H _ I h) λd s1 ⟨H1,I1,q1⟩=>?_)
 cases d with
 | true=>exact ha l8 s1 σ H1 Q I1 q1
 | false=>exact hb l8 s1 σ H1 Q I1 q1
end
def SqL (K:Fg) (H:Hp) (a:Ad) (xs:Jj):Prop :=
 Rd H a (.lst xs) ∨
  ∃ (o:Obj) (its:Array Vl) (n:Nat),K.lookup a=some o/\o.cls=.type "list"/\o.dict=none/\o.data=.seq its n/\its.size<=sizeLine/\Vals xs its.toList
def SqT (K:Fg) (H:Hp) (a:Ad) (xs:Jj):Prop :=
 Rd H a (.tup xs) ∨
  ∃ (o:Obj) (its:Array Vl) (n:Nat),K.lookup a=some o/\o.cls=.type "tuple"/\o.data=.seq its n/\its.size<=sizeLine/\Vals xs its.toList
def absV:Vl->Jk
 | .none=>some .non
 | .bool b=>some (.bl b)
 | .int i _=>some (.int i)
 | .str x _=>some (.str x)
 | .bytes b _=>some (.byt b)
 | .float b _=>some (.flt b)
 | .ref a=>some (.ref a)
 | .type n=>some (.ty n)
 | _=>none
def RelV.abs {x:V} {u:Vl} (r:RelV x u):absV u=some x:=by
 cases x with
 | non=>cases r;rfl
 | bl _=>cases r;rfl
 | int _=>obtain ⟨t,rfl⟩:=r;rfl
 | str _=>obtain ⟨t,rfl⟩:=r;rfl
 | byt _=>obtain ⟨t,rfl⟩:=r;rfl
 | flt _=>obtain ⟨t,rfl⟩:=r;rfl
 | ref _=>cases r;rfl
 | ty _=>cases r;rfl
def RelV.inj {x y:V} {u:Vl} (r:RelV x u) (q:RelV y u):x=y:=Option.some.inj (r.abs.symm.trans q.abs)
theorem Vals.inj:∀ {xs ys:Jj} {us:J8},Vals xs us->Vals ys us->xs=ys
 | _,_,_,.nil,.nil=>rfl
 | _,_,_,.cons r t,.cons r' t'=>by rw [r.inj r',Vals.inj t t']
section
variable {X:Cx} {l8:J7} {σ:St} {H:Hp} {s:Sh} {a:Ad} {xs ys:Jj}
def SqL.of {K:Fg} (h:H a=some (.lst xs)):SqL K H a xs:=.inl (.inl h)
def SqT.of {K:Fg} (h:H a=some (.tup xs)):SqT K H a xs:=.inl (.inl h)
def Inv.list (I:Inv X l8 σ H s) (h:SqL X.K H a xs):∃ its:J8,Vals xs its/\PlainL s.heap a its.toArray/\xs.length<=sizeLine:=by
 rcases h with h | ⟨o,its,n,hk,hc,hd,hs,hz,r⟩
 ·obtain ⟨z,its,n,r,e⟩:=h.ok I.hok
  exact ⟨its,r,⟨_,n,e,rfl,rfl,rfl⟩,z⟩
 ·refine ⟨its.toList,r,⟨o,n,I.kIn a o hk,hc,hd,by simpa using hs⟩,?_⟩
  have e:=r.length;simp only [Array.length_toList] at e;omega
def Inv.tuple (I:Inv X l8 σ H s) (h:SqT X.K H a xs):∃ its:J8,Vals xs its/\IsTup s.heap a its.toArray/\xs.length<=sizeLine:=by
 rcases h with h | ⟨o,its,n,hk,hc,hs,hz,r⟩
 ·obtain ⟨z,its,r,p⟩:=h.ok I.hok
  exact ⟨its,r,p,z⟩
 ·refine ⟨its.toList,r,⟨o,I.kIn a o hk,hc,n,by simpa using hs⟩,?_⟩
  have e:=r.length;simp only [Array.length_toList] at e;omega
def Inv.list_inj (I:Inv X l8 σ H s) (h:SqL X.K H a xs) (h':SqL X.K H a ys):xs=ys:=by
 obtain ⟨its,r,⟨o,n,e,_,_,d⟩,_⟩:=I.list h;obtain ⟨its',r',⟨o',n',e',_,_,d'⟩,_⟩:=I.list h';rw [e] at e';cases e';rw [d] at d';injection d' with d1 _
 have:its=its':=by simpa using congrArg Array.toList d1
 subst this;exact r.inj r'
end
abbrev Cx.wish (X:Cx) (E:J5):Cx:={ X with xe:=E }
abbrev Cx.nox (X:Cx):Cx:=X.wish λ_ _=>False
def Cx.Ok.wish {X:Cx} (ok:X.Ok) (E:J5):(X.wish E).Ok :=
 {ok with}
def Cx.Ok.unwish {X:Cx} {E:J5} (ok:(X.wish E).Ok):X.Ok :=
 {ok with}
section
variable {X:Cx} {l8:J7} {σ:St} {H:Hp} {s:Sh} {E:J5}
def Inv.wish (I:Inv X l8 σ H s) (E:J5):Inv (X.wish E) l8 σ H s:=⟨I.ok.wish E,I.os,I.bare,I.base,I.loc,I.cell,I.free,I.freeC,I.pin,I.hok,I.len⟩
def Inv.unwish (I:Inv (X.wish E) l8 σ H s):Inv X l8 σ H s:=⟨I.ok.unwish,I.os,I.bare,I.base,I.loc,I.cell,I.free,I.freeC,I.pin,I.hok,I.len⟩
def SP.unwish {D:Ends} {f:Flow} {s':Sh} (h:SP (X.wish E) l8 D f s'):SP X l8 D f s':=by
 cases f with
 | next=>obtain ⟨σ',H',I,q⟩:=h;exact ⟨σ',H',I.unwish,q⟩
 | brk=>obtain ⟨σ',H',I,q⟩:=h;exact ⟨σ',H',I.unwish,q⟩
 | cont=>obtain ⟨σ',H',I,q⟩:=h;exact ⟨σ',H',I.unwish,q⟩
 | ret u=>obtain ⟨v,σ',H',I,r,q⟩:=h;exact ⟨v,σ',H',I.unwish,r,q⟩
def PSs.nox {st:List Stmt} {t:TS} (h:PSs X.nox st t):PSs X st t:=λl8 s σ H D I hw =>
 wpAny_mono (h l8 s σ H D (I.wish _) hw) (λ_ _ q=>q.unwish) λ_ _ z=>False.elim z
end
section
variable {X:Cx} {st:Stmt} {rest:List Stmt} {t u:TS} {e:Expr} {te:TE} {pos:Pos}
def tNext:TS:=λD σ H=>D.nx σ H
def tSeq (t u:TS):TS:=λD σ H=>t { D with nx:=u D } σ H
def zy:PSs X [] tNext:=λ_ _ σ H _ I h=>wpAny_execs_nil ⟨σ,H,I,h⟩
def zd (h1:PS X st t) (h2:PSs X rest u):PSs X (st::rest) (tSeq t u):=by
 intro l8 s σ H D I h;refine wpAny_execs_cons (thn (h1 l8 s σ H { D with nx:=u D } I h) λf s1 q=>?_)
 cases f with
 | next =>
  obtain ⟨σ',H',I',q⟩:=q;exact h2 l8 s1 σ' H' D I' q
 | ret v=>exact q
 | brk=>exact q
 | cont=>exact q
def zf (h1:PS X st t):PSs X [st] t:=by
 intro l8 s σ H D I h;refine wpAny_execs_cons (thn (h1 l8 s σ H D I h) λf s1 q=>?_)
 cases f with
 | next=>exact wpAny_execs_nil q
 | ret v=>exact q
 | brk=>exact q
 | cont=>exact q
def Inv.quiet {l8:J7} {σ:St} {H:Hp} {s:Sh} (I:Inv X l8 σ H s):interactive X.env=false:=by simp [interactive,I.ok.kind]
def tDrop (te:TE):TS:=λD σ H=>te σ H λ_ H1=>D.nx σ H1
def zG (he:PE X e te) (hs:swapsWith e none pos.line X.env=pure false:=by rfl):PS X (.Expr e pos) (tDrop te):=by
 intro l8 s σ H D I h;exact wpAny_Expr_any (thn (he l8 s σ H _ I h) λv s1 ⟨x,H1,I1,r1,q1⟩=>⟨σ,H1,I1,q1⟩) I.quiet hs
def tRet (te:TE):TS:=λD σ H=>te σ H D.rt
def zm (he:PE X e te):PS X (.Return (some e) pos) (tRet te):=by
 intro l8 s σ H D I h;exact wpAny_Return_some (thn (he l8 s σ H _ I h) λv s1 ⟨x,H1,I1,r1,q1⟩=>⟨x,σ,H1,I1,r1,q1⟩)
def tIfS (c:TT) (t u:TS):TS:=λD σ H=>c σ H λb H1=>if b=true then t D σ H1 else u D σ H1
def zL {c:Expr} {a b:List Stmt} {tc:TT} (hc:PT X c tc) (ha:PSs X a t) (hb:PSs X b u):PS X (.If c a b pos) (tIfS tc t u):=by
 intro l8 s σ H D I h;refine wpAny_If (thn (hc l8 s σ H _ I h) λd s1 ⟨H1,I1,q1⟩=>?_)
 cases d with
 | true=>exact ha l8 s1 σ H1 D I1 q1
 | false=>exact hb l8 s1 σ H1 D I1 q1
end
abbrev TG:=V->St->Hp->(St->Hp->Prop)->Prop
abbrev TGs:=Jj->St->Hp->(St->Hp->Prop)->Prop
def PG (X:Cx) (target:Expr) (t:TG):Prop :=
 ∀ (l8:J7) (s:Sh) (σ:St) (H:Hp) (v:V) (u:Vl) (Q:St->Hp->Prop),Inv X l8 σ H s->RelV v u->t v σ H Q ->
  wpAny (model X.prog X.w) X.A (assign target X.env u) (λ_ s'=>∃ σ' H',Inv X l8 σ' H' s'/\Q σ' H') X.xe s
def PGs (X:Cx) (ts:Jd) (t:TGs):Prop :=
 ∀ (l8:J7) (s:Sh) (σ:St) (H:Hp) (vs:Jj) (us:J8) (Q:St->Hp->Prop),Inv X l8 σ H s->Vals vs us->t vs σ H Q ->
  wpAny (model X.prog X.w) X.A (assignInOrder ((assignEach ts X.env).map (·.2)) us) (λ_ s'=>∃ σ' H',Inv X l8 σ' H' s'/\Q σ' H') X.xe s
abbrev TSet:=V->V->V->Hp->(Hp->Prop)->Prop
def PSet (X:Cx) (t:TSet):Prop :=
 ∀ (l8:J7) (s:Sh) (σ:St) (H:Hp) (o i v:V) (ov iv u:Vl) (Q:Hp->Prop),Inv X l8 σ H s->RelV o ov->RelV i iv->RelV v u->t o i v H Q ->
  wpAny (model X.prog X.w) X.A (setItem ov iv u) (λ_ s'=>∃ H',Inv X l8 σ H' s'/\Q H') X.xe s
section
variable {X:Cx} {pos:Pos}
def gName (i:Nat):TG:=λv σ H Q=>Q (σ.set i (some v)) H
def zQ {i:Nat} {x:Str} (hN:X.N.Nodup) (hi:X.N[i]?=some x) (hx:Loc X.env.scope x) (hf:X.fn x=true∨X.env.scope.names.lookup x=some .local:=by first | exact .inl rfl | exact .inr rfl | assumption):PG X (.Name x pos) (gName i):=by
 intro l8 s σ H v u Q I r h;exact wpAny_assign_Name (zdd I hN hi hx r (λs' I'=>⟨_,H,I',h⟩) hf)
def oQz (i:Nat) {x:Str} (hN:X.N.Nodup) (hi:X.N[i]?=some x:=by rfl) (hx:Loc X.env.scope x:=by exact Or.inl rfl) (hf:X.fn x=true∨X.env.scope.names.lookup x=some .local:=by first | exact .inl rfl | exact .inr rfl | assumption):PG X (.Name x pos) (gName i):=zQ hN hi hx hf
def gNil:TGs:=λvs σ H Q=>vs=[]/\Q σ H
inductive gCons (t:TG) (u:TGs) (vs:Jj) (σ:St) (H:Hp) (Q:(St->Hp->Prop)):Prop
 | mk (v r:_) (_:vs=v::r) (_:t v σ H λσ' H'=>u r σ' H' Q)
def XR:PGs X [] gNil:=by
 intro l8 s σ H vs us Q I r h;obtain ⟨e,h⟩:=h;subst e;cases r;exact assignInOrder_nil ⟨σ,H,I,h⟩
def xu {e:Expr} {es:Jd} {t:TG} {u:TGs} (h1:PG X e t) (h2:PGs X es u)
  (hs:(assignEach (e::es) X.env).map (·.2)=assign e X.env::(assignEach es X.env).map (·.2):=by rfl):PGs X (e::es) (gCons t u):=by
 intro l8 s σ H vs us Q I r h;obtain ⟨v,vr,e1,h⟩:=h;subst e1
 cases r with
 | cons r rr =>
  rw [hs];refine assignInOrder_cons (thn (h1 l8 s σ H _ _ _ I r h) λ_ s1 ⟨σ1,H1,I1,q1⟩=>?_);exact h2 l8 s1 σ1 H1 _ _ Q I1 rr q1
inductive gTup (K:Fg) (n:Nat) (t:TGs) (v:V) (σ:St) (H:Hp) (Q:(St->Hp->Prop)):Prop
 | mk (a xs:_) (_:v=.ref a) (_:SqT K H a xs) (_:xs.length=n) (_:t xs σ H Q)
def pg_tup {es:Jd} {k:Nat} {t:TGs} {n:Nat} (hc:X.calm=true) (h:PGs X es t)
  (hn:(assignEach es X.env).length=n:=by rfl) (hst:(assignEach es X.env).findIdx? (·.1)=none:=by rfl):PG X (.Tuple es k pos) (gTup X.K n t):=by
 intro l8 s σ H v u Q I r hw;obtain ⟨a,xs,e1,hq,hl,hw⟩:=hw;subst e1;cases r;obtain ⟨its,rv,ht,hz⟩:=I.tuple hq;refine assign_Tuple_tuple (I.ok.hd hc) ht (by simp [hn,← hl,rv.length]) hst λh' hx=>?_;have I1:Inv X l8 σ H { s with heap:=h' }:=I.kept (t':=s.toks) λb o e=>hx b o (Nat.ne_of_lt (Heap.lt_size e)) e;exact h l8 _ σ H xs _ Q I1 (by simpa using rv) hw
def gSub (to ti:TE) (t:TSet):TG:=λv σ H Q=>to σ H λo H1=>ti σ H1 λi H2=>t o i v H2 λH3=>Q σ H3
def zah {o i:Expr} {to ti:TE} {t:TSet} (ho:PE X o to) (hi:PE X i ti) (hs:PSet X t)
  (ha:∀ v,assign (.Subscript o i pos) X.env v=(do
   let ov ← holding [v] (eval o X.env);let iv ← holding [v,ov] (eval i X.env)
   standAt pos
   holding [v,ov,iv] (setItem ov iv v)
   release [v,ov,iv] []):=by intro _;rfl):PG X (.Subscript o i pos) (gSub to ti t):=by
 intro l8 s σ H v u Q I r h;rw [ha];refine q0x (wpAny_holding (thn (ho l8 s σ H _ I h) λov s1 ⟨x,H1,I1,r1,q1⟩=>?_));refine q0x (wpAny_holding (thn (hi l8 s1 σ H1 _ I1 q1) λiv s2 ⟨y,H2,I2,r2,q2⟩=>?_));refine q0x (wpAny_standAt (q0x (wpAny_holding (thn (hs l8 s2 σ H2 x y v ov iv u _ I2 r1 r2 r q2) λ_ s3 ⟨H3,I3,q3⟩=>?_))));exact wpAny_release ⟨σ,H3,I3,q3⟩
def tAsg (te:TE) (g:TG):TS:=λD σ H=>te σ H λx H1=>g x σ H1 D.nx
def zag {tg e:Expr} {te:TE} {g:TG} (he:PE X e te) (hg:PG X tg g) (hs:swapsWithSole [tg] e pos.line X.env=pure false:=by rfl) (hw:swappedStores [tg] e X.env=pure none:=by rfl)
  (h1:(assignEach [tg] X.env).map (·.2)=[assign tg X.env]:=by rfl):PS X (.Assign [tg] e pos) (tAsg te g):=by
 intro l8 s σ H D I h;refine wpAny_Assign_stores (thn (he l8 s σ H _ I h) λv s1 ⟨x,H1,I1,r1,q1⟩=>?_) hs hw;rw [h1];exact thn (hg l8 s1 σ H1 x v _ I1 r1 q1) λ_ s2 q=>q
def zr {i:Nat} {x:Str} {e:Expr} {te:TE} {pos':Pos} (hN:X.N.Nodup) (hi:X.N[i]?=some x) (hx:Loc X.env.scope x) (he:PE X e te) (hs:swapsWith e (some (.Name x pos')) pos.line X.env=pure false:=by rfl) (hf:X.fn x=true∨X.env.scope.names.lookup x=some .local:=by first | exact .inl rfl | exact .inr rfl | assumption) :
  PS X (.Assign [.Name x pos'] e pos) (tAsg te (gName i)):=by
 intro l8 s σ H D I h;refine wpAny_Assign_Name (thn (he l8 s σ H _ I h) λv s1 ⟨y,H1,I1,r1,q1⟩=>?_) hs;exact zdd I1 hN hi hx r1 (λs2 I2=>⟨_,H1,I2,q1⟩) hf
def oRz (i:Nat) {x:Str} {e:Expr} {te:TE} {pos':Pos} (hN:X.N.Nodup) (he:PE X e te) (hi:X.N[i]?=some x:=by rfl) (hx:Loc X.env.scope x:=by exact Or.inl rfl) (hs:swapsWith e (some (.Name x pos')) pos.line X.env=pure false:=by rfl) (hf:X.fn x=true∨X.env.scope.names.lookup x=some .local:=by first | exact .inl rfl | exact .inr rfl | assumption):PS X (.Assign [.Name x pos'] e pos) (tAsg te (gName i)):=zr hN hi hx he hs hf
inductive tWhile (c:TT) (tb:TS) (D:Ends) (σ:St) (H:Hp):Prop
 | mk (W:Nat->St->Hp->Prop) (_:(∃ m,W m σ H)) (_:∀ m σ H,W m σ H->c σ H λb H1=>if b=true then ∃ N:St->Hp->Prop,(∀ σ' H',N σ' H'->∃ m',m'<m/\W m' σ' H')/\tb { D with nx:=N,ct:=N,bk:=D.nx } σ H1 else D.nx σ H1)
def ps_while {c:Expr} {body:List Stmt} {tc:TT} {tb:TS} (hp:PassesOwn (model X.prog X.w) X.A X.env X.xe) (hc:PT X c tc) (hb:PSs X body tb):PS X (.While c body [] pos) (tWhile tc tb):=by
 intro l8 s σ H D I h;obtain ⟨W,⟨m0,w0⟩,turn⟩:=h;refine wpAny_While (codeAny_whileLoop (λn s'=>∃ σ' H',Inv X l8 σ' H' s'/\W n σ' H') ?_ m0 ⟨σ,H,I,w0⟩);rintro n s1 ⟨σ1,H1,I1,w1⟩;refine wpAny_passesOwn hp (thn (hc l8 s1 σ1 H1 _ I1 (turn n σ1 H1 w1)) λb s2 ⟨H2,I2,q2⟩=>?_)
 cases b with
 | true =>
  obtain ⟨N,hN,q2⟩:=q2;rw [if_pos rfl];refine wpAny_passesOwn hp (thn (hb l8 s2 σ1 H2 _ I2 q2) λf s3 q3=>?_)
  cases f with
  | next =>
   obtain ⟨σ3,H3,I3,n3⟩:=q3;obtain ⟨m',hm,w3⟩:=hN σ3 H3 n3;exact ⟨m',hm,σ3,H3,I3,w3⟩
  | cont =>
   obtain ⟨σ3,H3,I3,n3⟩:=q3;obtain ⟨m',hm,w3⟩:=hN σ3 H3 n3;exact ⟨m',hm,σ3,H3,I3,w3⟩
  | brk=>exact q3
  | ret v=>exact q3
 | false =>
  rw [if_neg q7x];exact wpAny_execs_nil ⟨σ1,H2,I2,q2⟩
end
structure It where
 go:Nat->Hp->Prop
 yld:Nat->Hp->V->Hp->Prop
 stop:Nat->Hp->Prop
def Yf (X:Cx) (l8:J7) (H:Hp) (b:Ad):Prop :=
 H b=none/\b≠X.env.locals/\b ∉ X.fs/\(b∈X.ex∨X.s₀.heap.objs.size<=b)/\(∀ x c,X.env.cells.lookup x=some c->c≠b)/\∀ p∈X.pn++l8,p.1≠b
def Inv.fpOk {X:Cx} {l8:J7} {σ:St} {H H':Hp} {s:Sh} {b:Ad} (I:Inv X l8 σ H s) (hb:s.heap.objs.size<=b) (hn:H' b=none):Yf X l8 H' b:=by
 refine ⟨hn,Nat.ne_of_gt (q7z I.lt hb),I.nofs hb,.inr (Nat.le_trans I.sz hb),λx c e z=>?_,λp hp z=>?_⟩
 ·obtain ⟨v,q⟩:=I.cell x c e
  exact absurd (q7z q.lt (by rw [z];exact hb)) (Nat.lt_irrefl _)
 ·exact absurd (q7z (Heap.lt_size (I.pin p hp).1) (by rw [z];exact hb)) (Nat.lt_irrefl _)
structure Turn (P:Program) (w:World) (K:Fg) (tg:Expr) (J:It) (fp:Jc) (it:Ad) (tn:Nat->Heap->Prop):Prop where
 mem:it∈fp
 obj:∀ i h,tn i h->∀ b∈fp,∃ o,h.get? b=some o/\∀ v,o.data≠.cell v
 keep:∀ i h h',tn i h->(∀ b∈fp,∀ o,h.get? b=some o->h'.get? b=some o)->tn i h'
 item:∀ (X:Cx),X.prog=P->X.w=w->X.K=K->X.calm=true->∀ (i:Nat) (l8:J7) (s:Sh) (σ:St) (H:Hp) (E:J5),Inv X l8 σ H s->(∀ b∈fp,Yf X l8 H b)->tn i s.heap->J.go i H ->
  wpAny (model P w) X.A (pyNext (.ref it)) (λr s1=>∃ u,r=some u /\
   wpAny (model P w) X.A (letOwnedTupleGo tg (.ref it) u) (λ_ s2=>∃ x H',Inv X l8 σ H' s2/\RelV x u/\J.yld i H x H'/\tn (i+1) s2.heap/\∀ b∈fp,H' b=none) E s1) E s
 done:∀ (X:Cx),X.prog=P->X.w=w->X.K=K->X.calm=true->∀ (i:Nat) (l8:J7) (s:Sh) (σ:St) (H:Hp) (E:J5),Inv X l8 σ H s->(∀ b∈fp,Yf X l8 H b)->tn i s.heap->J.stop i H ->
  wpAny (model P w) X.A (pyNext (.ref it)) (λr s1=>r=none/\Inv X l8 σ H s1) E s
 self:∀ (A:Around) (i:Nat) (s:Sh) (Q:J5) (E:J5),tn i s.heap->Q (.ref it) s->wpAny (model P w) A (pyIter (.ref it)) Q E s
abbrev TI:=St->Hp->(It->Hp->Prop)->Prop
def PIE (X:Cx) (l8:J7) (σ:St) (tg:Expr) (R:It->Hp->Prop) (itv:Vl) (s2:Sh):Prop :=
 ∃ (it:Ad) (fp:Jc) (tn:Nat->Heap->Prop) (J:It) (H':Hp),itv=.ref it/\Inv X l8 σ H' s2/\Turn X.prog X.w X.K tg J fp it tn/\tn 0 s2.heap/\(∀ b∈fp,Yf X l8 H' b)/\R J H'
def PI (X:Cx) (tg iter:Expr) (wi:TI):Prop :=
 ∀ (l8:J7) (s:Sh) (σ:St) (H:Hp) (R:It->Hp->Prop),Inv X l8 σ H s->wi σ H R ->
  wpAny (model X.prog X.w) X.A (eval iter X.env) (λv s1=>wpAny (model X.prog X.w) X.A (pyIter v) (PIE X l8 σ tg R) X.xe s1) X.xe s
def go_of {M:Model} {A:Around} {E:J5} {s:Sh} {tg:Expr} {it:Ad} {u:Vl} {o:Obj} {n:String} {vs:Array Vl} {Q:Unit->Sh->Prop} (ho:s.heap.get? it=some o) (hc:o.cls=.type n) (hd:o.data=.fields vs)
    (hn:["enumerate","zip","dict_itemiterator","dict_reverseitemiterator","odict_iterator","itertools.zip_longest","itertools.pairwise"].contains n=false) (hQ:Q () s):wpAny M A (letOwnedTupleGo tg (.ref it) u) Q E s:=by
  unfold letOwnedTupleGo;cases tg <;> first
    | exact q0y hQ
    | (cases u <;> first
        | exact q0y hQ
        | (refine q0x (wpAny_load ho ?_)
           rw [hc,hd];show wpAny M A (if (["enumerate","zip","dict_itemiterator","dict_reverseitemiterator","odict_iterator","itertools.zip_longest","itertools.pairwise"].contains n && vs[0]? == some (rawInt _))=true then _ else _) Q E s;rw [if_neg (by intro h;rw [hn,Bool.false_and] at h;cases h)];exact q0y hQ))
def Itl (K:Fg) (a:Ad):It :=
 ⟨λi H=>∃ xs x,SqL K H a xs/\xs[i]?=some x,λi H x H'=>H'=H/\∀ xs,SqL K H a xs->xs[i]?=some x,λi H=>∃ xs,SqL K H a xs/\xs.length<=i⟩
def Itr (lo:Int) (n:Nat):It:=⟨λi _=>i<n,λi H x H'=>H'=H/\x=.int (lo+i),λi _=>n<=i⟩
def turn_list {P:Program} {w:World} {K:Fg} {tg:Expr} (a it:Ad):Turn P w K tg (Itl K a) [it] it (λi h=>h.IsListIter it a i) where
 mem:=by simp
 obj:=λi h st b hb=>by
  have e:b=it:=by simpa using hb
  subst e;obtain ⟨o,e,c,d⟩:=st;exact ⟨o,e,λv z=>by rw [d] at z;cases z⟩
 keep:=λi h h' st k=>st.at λo e=>k it (by simp) o e
 item:=by
  intro X hP hw hK hc i l8 s σ H E I hf st hg;subst hP hw hK;obtain ⟨xs,x,hq,hx⟩:=hg;obtain ⟨its,rv,p,hz⟩:=I.list hq;obtain ⟨u,hu,ru⟩:=rv.get hx;obtain ⟨f0,f1,f2,f3,f4,f5⟩:=hf it (by simp);refine wpAny_pyNext_list_item st p.isList (x:=u) (by simpa using hu) λh' st' sb=>?_;have I1:Inv X l8 σ H { s with heap:=h' }:=I.turned (t':=s.toks) (λb o hb e=>(sb.2 b hb).trans e) f0 f1 f3 f4 f5;obtain ⟨o,e,c,d⟩:=id st';exact ⟨u,rfl,go_of (s:={ s with heap:=h' }) e c d (by decide) ⟨x,H,I1,ru,⟨rfl,λys hy=>by rw [I.list_inj hy hq];exact hx⟩,st',λb hb=>(hf b hb).1⟩⟩
 done:=by
  intro X hP hw hK hc i l8 s σ H E I hf st hg;subst hP hw hK;obtain ⟨xs,hq,hx⟩:=hg;obtain ⟨its,rv,p,hz⟩:=I.list hq;obtain ⟨f0,f1,f2,f3,f4,f5⟩:=hf it (by simp);have hl:=rv.length;exact wpAny_pyNext_list_end (I.ok.hd hc) st p.isList (by simp;omega) λh' eb=>⟨rfl,I.turned (t':=s.toks) (λb o hb e=>eb b o hb e) f0 f1 f3 f4 f5⟩
 self:=λ_ _ _ _ _ st h=>wpAny_pyIter_listiter st h
def zer {P:Program} {w:World} {K:Fg} {tg:Expr} (it:Ad) (lo:Int) (n:Nat):Turn P w K tg (Itr lo n) [it] it (λi h=>IsRangeIter h it (lo+(i:Nat)*1) ((n:Int)-(i:Nat)) 1) where
 mem:=by simp
 obj:=λi h st b hb=>by
  have e:b=it:=by simpa using hb
  subst e
  exact ⟨_,st,λv z=>by
   have z':Data.fields _=Data.cell v:=z;cases z'⟩
 keep:=λi h h' st k=>k it (by simp) _ st
 item:=by
  intro X hP hw hK hc i l8 s σ H E I hf st hg;subst hP hw hK;obtain ⟨f0,f1,f2,f3,f4,f5⟩:=hf it (by simp);have W:=Walks.range (prog:=X.prog) (w:=X.w) (I.ok.hd hc) it lo 1 n;refine W.item i s _ _ hg st λv h' tk hv st' kk=>?_;obtain ⟨t,rfl⟩:=hv;have I1:Inv X l8 σ H { s with heap:=h',toks:=tk }:=I.turned (λb o hb e=>kk b o (by simpa using hb) e) f0 f1 f3 f4 f5;refine ⟨_,rfl,go_of (s:={ s with heap:=h',toks:=tk }) (n:="range_iterator") st' rfl rfl (by decide) ⟨.int (lo+i),H,I1,⟨t,?_⟩,⟨rfl,rfl⟩,st',λb hb=>(hf b hb).1⟩⟩;rw [Int.mul_one]
 done:=by
  intro X hP hw hK hc i l8 s σ H E I hf st hg;subst hP hw hK;obtain ⟨f0,f1,f2,f3,f4,f5⟩:=hf it (by simp);exact wpAny_pyNext_range_end (I.ok.hd hc) st (by have:n<=i:=hg;omega) λh' eb=>⟨rfl,I.turned (t':=s.toks) (λb o hb e=>eb b o hb e) f0 f1 f3 f4 f5⟩
 self:=λ_ _ _ _ _ st h=>wpAny_pyIter_rangeiter st h
section
variable {X:Cx} {tg:Expr}
inductive iList_S (K:Fg) (R:(It->Hp->Prop)) (x:V) (H1:Hp):Prop
 | mk (a:_) (_:x=.ref a) (_:(∃ xs,SqL K H1 a xs)) (_:R (Itl K a) H1)
def iList (K:Fg) (tl:TE):TI:=λσ H R=>tl σ H λx H1=>iList_S K R x H1
def Zl {l:Expr} {tl:TE} (hl:PE X l tl):PI X tg l (iList X.K tl):=by
 intro l8 s σ H R I h;refine thn (hl l8 s σ H _ I h) λv s1 ⟨x,H1,I1,r1,q1⟩=>?_;obtain ⟨a,e,⟨xs,hq⟩,q⟩:=q1;subst e;cases r1;obtain ⟨its,rv,p,hz⟩:=I1.list hq;refine wpAny_pyIter_list p.isList ?_;refine ⟨s1.heap.objs.size,[s1.heap.objs.size],_,_,H1,rfl,I1.kept (t':=s1.toks) λb o e=>Heap.get?_push_of_some _ e,turn_list a _,⟨_,Heap.get?_push_size _ rfl,rfl,rfl⟩,λb hb=>?_,q⟩;have e:b=s1.heap.objs.size:=by simpa using hb
 subst e;exact I1.fpOk (Nat.le_refl _) (I1.hok.fresh (Nat.le_refl _))
def zdp {l8:J7} {σ:St} {H:Hp} {s:Sh} {R:It->Hp->Prop} {E:J5} {lo hi:Int} {t u v:Tok} {tk:Nat} (I:Inv X l8 σ H s) (h1:-(2 ^ 62)<=lo) (h2:lo<2 ^ 62) (h3:-(2 ^ 62)<=hi) (h4:hi<2 ^ 62)
  (q:R (Itr lo (hi-lo).toNat) H):wpAny (model X.prog X.w) X.A (pyIter (.ref s.heap.objs.size)) (PIE X l8 σ tg R) E { s with heap:=s.heap.push { cls:=.type "range",data:=.fields #[.int lo t,.int hi u,.int 1 v] },toks:=tk }:=by
 refine wpAny_pyIter_range (IsRange.new ..) (small_one h1 h2 h3 h4) ?_;have I1:Inv X l8 σ H { s with heap:=s.heap.push { cls:=.type "range",data:=.fields #[.int lo t,.int hi u,.int 1 v] },toks:=tk }:=I.kept λb o e=>Heap.get?_push_of_some _ e
 refine ⟨(s.heap.push { cls:=.type "range",data:=.fields #[.int lo t,.int hi u,.int 1 v] }).objs.size,[(s.heap.push { cls:=.type "range",data:=.fields #[.int lo t,.int hi u,.int 1 v] }).objs.size],_,_,H,rfl,
  I1.kept (t':=tk) λb o e=>Heap.get?_push_of_some _ e,zer _ lo (hi-lo).toNat,?_,λb hb=>?_,q⟩
 ·have e1:lo+((0:Nat):Int)*1=lo:=by simp
  have e2:(((hi-lo).toNat:Nat):Int)-((0:Nat):Int)=Builtin.Range.rangeSize lo hi 1:=by rw [rangeSize_one];split <;> omega
  show IsRangeIter _ _ (lo+((0:Nat):Int)*1) ((((hi-lo).toNat:Nat):Int)-((0:Nat):Int)) 1;rw [e1,e2];exact Heap.get?_push_size _ rfl
 ·have e:b=(s.heap.push { cls:=.type "range",data:=.fields #[.int lo t,.int hi u,.int 1 v] }).objs.size:=by simpa using hb
  subst e;exact I1.fpOk (Nat.le_refl _) (I1.hok.fresh (Nat.le_refl _))
inductive iRng1_S (R:(It->Hp->Prop)) (vs:Jj) (H1:Hp):Prop
 | mk (j:Int) (_:vs=[.int j]) (_:-(2 ^ 62)<=j) (_:j<2 ^ 62) (_:R (Itr 0 j.toNat) H1)
def iRng1 (ta:TA):TI:=λσ H R=>ta σ H λvs H1=>iRng1_S R vs H1
inductive iRng2_S (R:(It->Hp->Prop)) (vs:Jj) (H1:Hp):Prop
 | mk (i j:Int) (_:vs=[.int i,.int j]) (_:(-(2 ^ 62)<=i/\i<2 ^ 62/\-(2 ^ 62)<=j/\j<2 ^ 62)) (_:R (Itr i (j-i).toNat) H1)
def iRng2 (ta:TA):TI:=λσ H R=>ta σ H λvs H1=>iRng2_S R vs H1
def yY {a:Expr} {ta:TA} {p pos:Pos} (hg:Gl X "range") (hm:X.mg "range"=none) (ha:PA X [a] ta) (hs:starEach [a] X.env=[(false,eval a X.env)]:=by rfl):PI X tg (.Call (.Name "range" p) [a] [] pos) (iRng1 ta):=by
 intro l8 s σ H R I h;refine Call_ (Yb I hg hm boot_range (PyProof.Rows.callWith_type1 (thn (ha pos l8 s σ H _ I h) λus s1 ⟨vs,H1,I1,r1,q1⟩=>?_) hs rfl));obtain ⟨j,e,q1,q2,q⟩:=q1;subst e
 cases r1 with
 | cons r rr =>
  cases rr;obtain ⟨t,rfl⟩:=r;exact call_range_1 (zdp I1 (by omega) (by omega) q1 q2 (by simpa using q))
def pi_range2 {a b:Expr} {ta:TA} {p pos:Pos} (hg:Gl X "range") (hm:X.mg "range"=none) (ha:PA X [a,b] ta) (hs:starEach [a,b] X.env=[(false,eval a X.env),(false,eval b X.env)]:=by rfl) (hs2:starEach [b] X.env=[(false,eval b X.env)]:=by rfl) :
  PI X tg (.Call (.Name "range" p) [a,b] [] pos) (iRng2 ta):=by
 intro l8 s σ H R I h;refine Call_ (Yb I hg hm boot_range (PyProof.Rows.callWith_type1 (thn (ha pos l8 s σ H _ I h) λus s1 ⟨vs,H1,I1,r1,q1⟩=>?_) (by rw [hs,hs2]) (by rw [hs2];rfl)));obtain ⟨i,j,e,⟨q1,q2,q3,q4⟩,q⟩:=q1;subst e
 cases r1 with
 | cons r rr =>
  cases rr with
  | cons r' rr =>
   cases rr;obtain ⟨t,rfl⟩:=r;obtain ⟨t',rfl⟩:=r';exact call_range_2 (zdp I1 q1 q2 q3 q4 q)
inductive tFor_S (g:TG) (tb:TS) (D:Ends) (σ:St) (J:It) (H1:Hp):Prop
 | mk (W:Nat->Nat->St->Hp->Prop) (_:(∃ m,W 0 m σ H1)) (_:∀ i m σ H,W i m σ H->(J.stop i H/\D.nx σ H)∨(J.go i H/\∃ N:St->Hp->Prop,(∀ σ' H',N σ' H'->∃ m',m'<m/\W (i+1) m' σ' H')/\∀ x H',J.yld i H x H'->g x σ H' λσ2 H2=>tb { D with nx:=N,ct:=N,bk:=D.nx } σ2 H2))
def tFor (wi:TI) (g:TG) (tb:TS):TS:=λD σ H=>wi σ H λJ H1=>tFor_S g tb D σ J H1
def Xr (fp:Jc) (h:Heap):J7:=fp.filterMap λb=>(h.get? b).map λo=>(b,o)
def xG {fp:Jc} {h:Heap} {b:Ad} {o:Obj} (hb:b∈fp) (e:h.get? b=some o):(b,o)∈Xr fp h:=List.mem_filterMap.mpr ⟨b,hb,by rw [e];rfl⟩
def of_pinsAt {fp:Jc} {h:Heap} {p:Ad×Obj} (hp:p∈Xr fp h):p.1∈fp/\h.get? p.1=some p.2:=by
 obtain ⟨b,hb,e⟩:=List.mem_filterMap.mp hp
 cases q:h.get? b with
 | none=>rw [q] at e;cases e
 | some o =>
  rw [q] at e;have e':(b,o)=p:=Option.some.inj e;subst e';exact ⟨hb,q⟩
def Inv.pinned {l8:J7} {σ:St} {H:Hp} {s:Sh} {fp:Jc} (I:Inv X l8 σ H s) (hf:∀ b∈fp,Yf X l8 H b) (ho:∀ b∈fp,∃ o,s.heap.get? b=some o/\∀ v,o.data≠.cell v):Inv X (l8++Xr fp s.heap) σ H s :=
 I.pins_of λp hp=>(List.mem_append.mp hp).elim (λz=>I.pin p (q7y _ z)) λz=>by
  obtain ⟨hb,e⟩:=of_pinsAt z;obtain ⟨f0,f1,f2,_⟩:=hf p.1 hb;obtain ⟨o,e',d⟩:=ho p.1 hb;rw [e] at e';cases e';exact ⟨e,f0,f1,f2,d⟩
def Inv.unpinned {l8 pl:J7} {σ:St} {H:Hp} {s:Sh} (I:Inv X (l8++pl) σ H s):Inv X l8 σ H s:=I.pins_of λp hp=>I.pin p (q7y _ (List.mem_append_left _ hp))
def x6 {iter:Expr} {body:List Stmt} {wi:TI} {g:TG} {tb:TS} {pos:Pos} (hp:PassesOwn (model X.prog X.w) X.A X.env X.xe) (hc:X.calm=true) (hi:PI X tg iter wi) (hg:PG X tg g) (hb:PSs X body tb)
  (hs:∀ x,foldedSetIterable iter X.env x=pure x:=by intro _;rfl):PS X (.For tg iter body [] pos) (tFor wi g tb):=by
 intro l8 s σ H D I h;refine wpAny_For (thn (hi l8 s σ H _ I h) λv s1 h1=>thn h1 λitv s2 h2=>?_) hs;obtain ⟨it,fp,tn,J,H2,e,I2,T,st2,f2,W,⟨m0,w0⟩,turn⟩:=h2;subst e;have stat:∀ {H':Hp},(∀ b∈fp,H' b=none)->∀ b∈fp,Yf X l8 H' b:=λhn b hb=>⟨hn b hb,(f2 b hb).2⟩;refine codeAny_forLoop_any (λn s'=>∃ i σ' H',Inv X l8 σ' H' s'/\tn i s'.heap/\(∀ b∈fp,H' b=none)/\W i n σ' H') ?_ m0 ⟨0,σ,H2,I2,st2,λb hb=>(f2 b hb).1,w0⟩;rintro n s3 ⟨i,σ3,H3,I3,st3,fr3,w3⟩;rcases turn i n σ3 H3 w3 with ⟨stop,qn⟩ | ⟨go,N,hN,step⟩
 ·refine wpAny_passesOwn hp (thn (T.done X rfl rfl rfl hc i l8 s3 σ3 H3 X.xe I3 (stat fr3) st3 stop) λr s4 ⟨hr,I4⟩=>?_)
  subst hr;exact wpAny_execs_nil ⟨σ3,H3,I4,qn⟩
 ·refine wpAny_passesOwn hp (thn (T.item X rfl rfl rfl hc i l8 s3 σ3 H3 X.xe I3 (stat fr3) st3 go) λr s4 ⟨u,hr,h4⟩=>?_)
  subst hr;refine wpAny_passesOwn hp (thn h4 λ_ s5 ⟨x,H5,I5,r5,y5,st5,fr5⟩=>?_);have I5':=I5.pinned (stat fr5) (T.obj _ _ st5);refine wpAny_passesOwn hp (thn (hg _ s5 σ3 H5 x u _ I5' r5 (step x H5 y5)) λ_ s6 ⟨σ6,H6,I6,q6⟩=>?_);refine wpAny_passesOwn hp (thn (hb _ s6 σ6 H6 _ I6 q6) λf s7 q7=>?_)
  have again:∀ {σ7:St} {H7:Hp},Inv X (l8++Xr fp s5.heap) σ7 H7 s7->N σ7 H7->∃ m,m<n/\∃ i σ' H',Inv X l8 σ' H' s7/\tn i s7.heap/\(∀ b∈fp,H' b=none)/\W i m σ' H':=λ{σ7 H7} I7 n7=>by
   obtain ⟨m',hm,w7⟩:=hN σ7 H7 n7;refine ⟨m',hm,i+1,σ7,H7,I7.unpinned,T.keep _ _ _ st5 λb hb o e=>(I7.pin (b,o) (q7y _ (q7y _ (xG hb e)))).1,λb hb=>?_,w7⟩;obtain ⟨o,e,d⟩:=T.obj _ _ st5 b hb;exact (I7.pin (b,o) (q7y _ (q7y _ (xG hb e)))).2.1
  cases f with
  | next=>obtain ⟨σ7,H7,I7,n7⟩:=q7;exact again I7 n7
  | cont=>obtain ⟨σ7,H7,I7,n7⟩:=q7;exact again I7 n7
  | brk=>obtain ⟨σ7,H7,I7,q7⟩:=q7;exact ⟨σ7,H7,I7.unpinned,q7⟩
  | ret v=>obtain ⟨x7,σ7,H7,I7,r7,q7⟩:=q7;exact ⟨x7,σ7,H7,I7.unpinned,r7,q7⟩
end
def Xj {K:Fg} {a:Ad} {xs:Jj} {g:TG} {tb:TS} {D:Ends} {σ:St} {H:Hp} (Pv:Nat->St->Hp->Prop) (h0:Pv 0 σ H) (hl:∀ i σ H,i<=xs.length->Pv i σ H->SqL K H a xs)
  (hs:∀ i x σ H,xs[i]?=some x->Pv i σ H->g x σ H λσ2 H2=>tb { D with nx:=Pv (i+1),ct:=Pv (i+1),bk:=D.nx } σ2 H2) (hd:∀ σ H,Pv xs.length σ H->D.nx σ H) :
  tFor_S g tb D σ (Itl K a) H:=by
 refine ⟨λi m σ H=>m=xs.length-i/\i<=xs.length/\Pv i σ H,⟨xs.length,by simp,Nat.zero_le _,h0⟩,?_⟩;rintro i m σ H ⟨rfl,hi,p⟩;have q:=hl i σ H hi p;by_cases hlt:i<xs.length
 ·refine .inr ⟨⟨xs,xs[i],q,by simp [hlt]⟩,Pv (i+1),λσ' H' p'=>⟨xs.length-(i+1),by omega,rfl,hlt,p'⟩,λx H' y=>?_⟩
  obtain ⟨e,y⟩:=y;subst e;exact hs i x σ _ (y xs q) p
 ·have e:i=xs.length:=by omega
  subst e;exact .inl ⟨⟨xs,q,Nat.le_refl _⟩,hd σ H p⟩
def Zo {lo:Int} {n:Nat} {g:TG} {tb:TS} {D:Ends} {σ:St} {H:Hp} (Pv:Nat->St->Hp->Prop) (h0:Pv 0 σ H)
  (hs:∀ i σ H,i<n->Pv i σ H->g (.int (lo+i)) σ H λσ2 H2=>tb { D with nx:=Pv (i+1),ct:=Pv (i+1),bk:=D.nx } σ2 H2) (hd:∀ σ H,Pv n σ H->D.nx σ H) :
  tFor_S g tb D σ (Itr lo n) H:=by
 refine ⟨λi m σ H=>m=n-i/\i<=n/\Pv i σ H,⟨n,by simp,Nat.zero_le _,h0⟩,?_⟩;rintro i m σ H ⟨rfl,hi,p⟩;by_cases hlt:i<n
 ·refine .inr ⟨hlt,Pv (i+1),λσ' H' p'=>⟨n-(i+1),by omega,rfl,hlt,p'⟩,λx H' y=>?_⟩
  obtain ⟨e,y⟩:=y;subst e y;exact hs i σ _ hlt p
 ·have e:i=n:=by omega
  subst e;exact .inl ⟨Nat.le_refl _,hd σ H p⟩
abbrev R2:=V->V->Hp->VK->Prop
def OpR (X:Cx) (f:Vl->Vl->Sem Vl) (r:R2):Prop :=
 ∀ (l8:J7) (s:Sh) (σ:St) (H:Hp) (x y:V) (v u:Vl) (Q:VK),Inv X l8 σ H s->RelV x v->RelV y u->r x y H Q ->
  wpAny (model X.prog X.w) X.A (f v u) (EP X l8 σ Q) X.xe s
def UnR (X:Cx) (f:Vl->Sem Vl) (r:V->Hp->VK->Prop):Prop :=
 ∀ (l8:J7) (s:Sh) (σ:St) (H:Hp) (x:V) (v:Vl) (Q:VK),Inv X l8 σ H s->RelV x v->r x H Q ->
  wpAny (model X.prog X.w) X.A (f v) (EP X l8 σ Q) X.xe s
def Yk (X:Cx) (f:Vl) (r:Jj->Hp->VK->Prop):Prop :=
 ∀ (l8:J7) (s:Sh) (σ:St) (H:Hp) (xs:Jj) (us:J8) (Q:VK),Inv X l8 σ H s->Vals xs us->r xs H Q ->
  wpAny (model X.prog X.w) X.A (call f us) (EP X l8 σ Q) X.xe s
def tOp (r:R2) (ta tb:TE):TE:=λσ H Q=>ta σ H λx H1=>tb σ H1 λy H2=>r x y H2 Q
def tUn (r:V->Hp->VK->Prop) (ta:TE):TE:=λσ H Q=>ta σ H λx H1=>r x H1 Q
inductive rI (C:Int->Int->Prop) (g:Int->Int->V) (x y:V) (H:Hp) (Q:VK):Prop
 | mk (i j:_) (_:x=.int i) (_:y=.int j) (_:C i j) (_:Q (g i j) H)
inductive rI0 (g:Int->Int->V) (x y:V) (H:Hp) (Q:VK):Prop
 | mk (i j:_) (_:x=.int i) (_:y=.int j) (_:Q (g i j) H)
inductive rU (g:Int->V) (x:V) (H:Hp) (Q:VK):Prop
 | mk (i:_) (_:x=.int i) (_:Q (g i) H)
section
variable {X:Cx} {a b c:Expr} {ta tb tc:TE} {pos:Pos}
def binT (ha:PE X a ta) (hb:PE X b tb) {l8:J7} {s:Sh} {σ:St} {H:Hp} {R:V->V->Hp->Prop} (I:Inv X l8 σ H s)
  (h:ta σ H λx H1=>tb σ H1 λy H2=>R x y H2) {Q:J5} {f:Vl->Vl->Sem Vl}
  (hf:∀ v u s2 x y H2,Inv X l8 σ H2 s2->RelV x v->RelV y u->R x y H2->wpAny (model X.prog X.w) X.A (f v u) Q X.xe s2) :
  wpAny (model X.prog X.w) X.A (eval a X.env) (λv s₁=>wpAny (model X.prog X.w) X.A (eval b X.env) (λu s₂=>wpAny (model X.prog X.w) X.A (f v u) Q X.xe s₂) X.xe s₁) X.xe s:=by
 refine thn (ha l8 s σ H _ I h) λv s1 ⟨x,H1,I1,r1,q1⟩=>?_;refine thn (hb l8 s1 σ H1 _ I1 q1) λu s2 ⟨y,H2,I2,r2,q2⟩=>?_;exact hf v u s2 x y H2 I2 r1 r2 q2
def zn {op:Operator} {r:R2} (ho:OpR X (binaryOp op) r) (ha:PE X a ta) (hb:PE X b tb):PE X (.BinOp a op b pos) (tOp r ta tb):=by
 intro l8 s σ H Q I h;exact wpAny_BinOp (binT ha hb I h λv u s2 x y H2 I2 rx ry q=>ho l8 s2 σ H2 x y v u Q I2 rx ry q)
def pe_un {op:UnaryOp} {r:V->Hp->VK->Prop} (ho:UnR X (unaryOp op) r) (ha:PE X a ta):PE X (.UnaryOp op a pos) (tUn r ta):=by
 intro l8 s σ H Q I h;exact UnaryOp_ (thn (ha l8 s σ H _ I h) λv s1 ⟨x,H1,I1,r1,q1⟩=>ho l8 s1 σ H1 x v Q I1 r1 q1)
def opI {f:Vl->Vl->Sem Vl} {C:Int->Int->Prop} {g:Int->Int->Int}
  (rule:∀ (i j:Int) (t u:Tok) (s:Sh) (Q:J5) (E:J5),C i j->Q (.int (g i j) s.toks) { s with toks:=s.toks+1 }->wpAny (model X.prog X.w) X.A (f (.int i t) (.int j u)) Q E s) :
  OpR X f (rI C λi j=>.int (g i j)):=by
 intro l8 s σ H x y v u Q I rx ry h;obtain ⟨i,j,rfl,rfl,hc,q⟩:=h;obtain ⟨t,rfl⟩:=rx;obtain ⟨t',rfl⟩:=ry;exact rule i j t t' s _ _ hc ⟨.int (g i j),H,I.tok _,⟨_,rfl⟩,q⟩
def opI0 {f:Vl->Vl->Sem Vl} {g:Int->Int->Int}
  (rule:∀ (i j:Int) (t u:Tok) (s:Sh) (Q:J5) (E:J5),Q (.int (g i j) s.toks) { s with toks:=s.toks+1 }->wpAny (model X.prog X.w) X.A (f (.int i t) (.int j u)) Q E s) :
  OpR X f (rI0 λi j=>.int (g i j)):=by
 intro l8 s σ H x y v u Q I rx ry h;obtain ⟨i,j,rfl,rfl,q⟩:=h;obtain ⟨t,rfl⟩:=rx;obtain ⟨t',rfl⟩:=ry;exact rule i j t t' s _ _ ⟨.int (g i j),H,I.tok _,⟨_,rfl⟩,q⟩
def opB0 {f:Vl->Vl->Sem Vl} {g:Int->Int->Bool}
  (rule:∀ (i j:Int) (t u:Tok) (s:Sh) (Q:J5) (E:J5),Q (.bool (g i j)) s->wpAny (model X.prog X.w) X.A (f (.int i t) (.int j u)) Q E s) :
  OpR X f (rI0 λi j=>.bl (g i j)):=by
 intro l8 s σ H x y v u Q I rx ry h;obtain ⟨i,j,rfl,rfl,q⟩:=h;obtain ⟨t,rfl⟩:=rx;obtain ⟨t',rfl⟩:=ry;exact rule i j t t' s _ _ ⟨.bl (g i j),H,I,rfl,q⟩
def CDiv (i j:Int):Prop:=0<j/\j<1073741824
def CMul (i j:Int):Prop:=(-(2 ^ 64)<i/\i<2 ^ 64)∨(-(2 ^ 64)<j/\j<2 ^ 64)
def CMul.ok {i j:Int} (h:CMul i j):IntMulOk i j:=by
 rcases h with ⟨h1,h2⟩ | ⟨h1,h2⟩
 ·exact .of_left (intBits_le_64 h1 h2)
 ·exact .of_right (intBits_le_64 h1 h2)
def zP:OpR X (binaryOp .Add) (rI0 λi j=>.int (i+j)):=opI0 λ_ _ _ _ _ _ _ q=>add_int q
def y9:OpR X (binaryOp .Sub) (rI0 λi j=>.int (i-j)):=opI0 λ_ _ _ _ _ _ _ q=>sub_int q
def yC:OpR X (binaryOp .Mult) (rI CMul λi j=>.int (i*j)):=opI λ_ _ _ _ _ _ _ hc q=>mul_int q hc.ok
def xx:OpR X (binaryOp .FloorDiv) (rI CDiv λi j=>.int (i / j)):=opI λi j _ _ _ _ _ hc q=>by
 have h1:(0:Int)<j:=hc.1;have h2:j<1073741824:=hc.2;exact floordiv_int (by omega) (by rw [Int.fdiv_eq_ediv_of_nonneg i (by omega)];exact q) (.inl (PyProof.noPylong_small (by omega)))
def yk:OpR X (binaryOp .Mod) (rI (λ_ j=>0<j) λi j=>.int (i % j)):=opI λi j _ _ _ _ _ hc q=>by
 have h1:(0:Int)<j:=hc;exact mod_int' (by omega) (by rw [Int.fmod_eq_emod_of_nonneg i (by omega)];exact q)
def op_modN:OpR X (binaryOp .Mod) (rI (λ_ j=>j≠0) λi j=>.int (i.fmod j)):=opI λ_ _ _ _ _ _ _ hc q=>mod_int' hc q
def op_and:OpR X (binaryOp .BitAnd) (rI0 λi j=>.int (Builtin.bitAnd i j)):=opI0 λ_ _ _ _ _ _ _ q=>and_int q
def op_or:OpR X (binaryOp .BitOr) (rI0 λi j=>.int (Builtin.bitOr i j)):=opI0 λ_ _ _ _ _ _ _ q=>or_int q
def op_xor:OpR X (binaryOp .BitXor) (rI0 λi j=>.int (Builtin.bitXor i j)):=opI0 λ_ _ _ _ _ _ _ q=>xor_int q
def unI {f:Vl->Sem Vl} {g:Int->Int}
  (rule:∀ (i:Int) (t:Tok) (s:Sh) (Q:J5) (E:J5),Q (.int (g i) s.toks) { s with toks:=s.toks+1 }->wpAny (model X.prog X.w) X.A (f (.int i t)) Q E s) :
  UnR X f (rU λi=>.int (g i)):=by
 intro l8 s σ H x v Q I rx h;obtain ⟨i,rfl,q⟩:=h;obtain ⟨t,rfl⟩:=rx;exact rule i t s _ _ ⟨.int (g i),H,I.tok _,⟨_,rfl⟩,q⟩
def zb7:UnR X (unaryOp .USub) (rU λi=>.int (-i)):=unI λ_ _ _ _ _ q=>neg_int q
end
def scal:V->V->Bool
 | .non,.non=>true | .non,.int _=>true | .int _,.non=>true | .non,.bl _=>true | .bl _,.non=>true | .non,.str _=>true | .str _,.non=>true
 | .int _,.int _=>true | .bl _,.bl _=>true | .str _,.str _=>true | .byt _,.byt _=>true
 | .int _,.str _=>true | .str _,.int _=>true | .bl _,.str _=>true | .str _,.bl _=>true
 | _,_=>false
def rEq:R2:=λx y H Q=>scal x y=true/\Q (.bl (decide (x=y))) H
def rNe:R2:=λx y H Q=>scal x y=true/\Q (.bl (!decide (x=y))) H
def zc3 {i j:Int}:decide (V.int i=V.int j)=(i == j):=by
 rw [Bool.eq_iff_iff];simp
def dec_bl {i j:Bool}:decide (V.bl i=V.bl j)=(i == j):=by
 rw [Bool.eq_iff_iff];simp
def dec_str {i j:Str}:decide (V.str i=V.str j)=(i == j):=by
 rw [Bool.eq_iff_iff];simp
def dec_byt {i j:Array UInt8}:decide (V.byt i=V.byt j)=(i.toList == j.toList):=by
 rw [Bool.eq_iff_iff];cases i;cases j;simp
section
variable {X:Cx} {a b c:Expr} {ta tb tc:TE} {pos:Pos}
def zX {l8:J7} {σ:St} {H:Hp} {s:Sh} {Q:VK} {k k':Bool} (I:Inv X l8 σ H s) (q:Q (.bl k) H) (e:k=k'):EP X l8 σ Q (.bool k') s:=by
 subst e;exact ⟨.bl k,H,I,rfl,q⟩
def y8:OpR X (compareOp .Eq) rEq:=by
 intro l8 s σ H x y v u Q I rx ry h;obtain ⟨hs,q⟩:=h
 cases x with
 | non =>
  cases rx
  cases y with
  | non=>cases ry;exact PySem.EqNone.eq_none_none (zX I q (by simp))
  | bl j=>cases ry;exact PySem.EqNone.eq_none_bool (zX I q (by simp))
  | int j=>obtain ⟨t',rfl⟩:=ry;exact PySem.EqNone.eq_none_int (zX I q (by simp))
  | str j=>obtain ⟨t',rfl⟩:=ry;exact PySem.EqNone.eq_none_str (zX I q (by simp))
  | _=>exact absurd (show false=true from hs) q7x
 | bl i =>
  cases rx
  cases y with
  | non=>cases ry;exact PySem.EqNone.eq_bool_none (zX I q (by simp))
  | bl j=>cases ry;exact eq_bool (zX I q dec_bl)
  | str j=>obtain ⟨t',rfl⟩:=ry;exact PySem.EqMixed.eq_bool_str (zX I q (by simp))
  | _=>exact absurd (show false=true from hs) q7x
 | int i =>
  obtain ⟨t,rfl⟩:=rx
  cases y with
  | non=>cases ry;exact PySem.EqNone.eq_int_none (zX I q (by simp))
  | int j=>obtain ⟨t',rfl⟩:=ry;exact eq_int (zX I q zc3)
  | str j=>obtain ⟨t',rfl⟩:=ry;exact PySem.EqMixed.eq_int_str (zX I q (by simp))
  | _=>exact absurd (show false=true from hs) q7x
 | str i =>
  obtain ⟨t,rfl⟩:=rx
  cases y with
  | non=>cases ry;exact PySem.EqNone.eq_str_none (zX I q (by simp))
  | bl j=>cases ry;exact PySem.EqMixed.eq_str_bool (zX I q (by simp))
  | int j=>obtain ⟨t',rfl⟩:=ry;exact PySem.EqMixed.eq_str_int (zX I q (by simp))
  | str j=>obtain ⟨t',rfl⟩:=ry;exact eq_str (zX I q dec_str)
  | _=>exact absurd (show false=true from hs) q7x
 | byt i =>
  obtain ⟨t,rfl⟩:=rx
  cases y with
  | byt j=>obtain ⟨t',rfl⟩:=ry;exact PySem.W.eq_bytes (zX I q dec_byt)
  | _=>exact absurd (show false=true from hs) q7x
 | _=>cases y <;> exact absurd (show false=true from hs) q7x
def op_ne:OpR X (compareOp .NotEq) rNe:=by
 intro l8 s σ H x y v u Q I rx ry h;obtain ⟨hs,q⟩:=h
 cases x with
 | non =>
  cases rx
  cases y with
  | non=>cases ry;exact PySem.EqNone.ne_none_none (zX I q (by simp))
  | bl j=>cases ry;exact PySem.EqNone.ne_none_bool (zX I q (by simp))
  | int j=>obtain ⟨t',rfl⟩:=ry;exact PySem.EqNone.ne_none_int (zX I q (by simp))
  | str j=>obtain ⟨t',rfl⟩:=ry;exact PySem.EqNone.ne_none_str (zX I q (by simp))
  | _=>exact absurd (show false=true from hs) q7x
 | bl i =>
  cases rx
  cases y with
  | non=>cases ry;exact PySem.EqNone.ne_bool_none (zX I q (by simp))
  | bl j=>cases ry;exact ne_bool (zX I q (congrArg not dec_bl))
  | str j=>obtain ⟨t',rfl⟩:=ry;exact PySem.EqMixed.ne_bool_str (zX I q (by simp))
  | _=>exact absurd (show false=true from hs) q7x
 | int i =>
  obtain ⟨t,rfl⟩:=rx
  cases y with
  | non=>cases ry;exact PySem.EqNone.ne_int_none (zX I q (by simp))
  | int j=>obtain ⟨t',rfl⟩:=ry;exact ne_int (zX I q (congrArg not zc3))
  | str j=>obtain ⟨t',rfl⟩:=ry;exact PySem.EqMixed.ne_int_str (zX I q (by simp))
  | _=>exact absurd (show false=true from hs) q7x
 | str i =>
  obtain ⟨t,rfl⟩:=rx
  cases y with
  | non=>cases ry;exact PySem.EqNone.ne_str_none (zX I q (by simp))
  | bl j=>cases ry;exact PySem.EqMixed.ne_str_bool (zX I q (by simp))
  | int j=>obtain ⟨t',rfl⟩:=ry;exact PySem.EqMixed.ne_str_int (zX I q (by simp))
  | str j=>obtain ⟨t',rfl⟩:=ry;exact ne_str (zX I q (congrArg not dec_str))
  | _=>exact absurd (show false=true from hs) q7x
 | byt i =>
  obtain ⟨t,rfl⟩:=rx
  cases y with
  | byt j=>obtain ⟨t',rfl⟩:=ry;exact PySem.W.ne_bytes (zX I q (congrArg not dec_byt))
  | _=>exact absurd (show false=true from hs) q7x
 | _=>cases y <;> exact absurd (show false=true from hs) q7x
def op_lt:OpR X (compareOp .Lt) (rI0 λi j=>.bl (decide (i<j))):=opB0 λ_ _ _ _ _ _ _ q=>lt_int q
def op_le:OpR X (compareOp .LtE) (rI0 λi j=>.bl (decide (i<=j))):=opB0 λ_ _ _ _ _ _ _ q=>le_int q
def op_gt:OpR X (compareOp .Gt) (rI0 λi j=>.bl (decide (j<i))):=opB0 λ_ _ _ _ _ _ _ q=>gt_int q
def zak:OpR X (compareOp .Is) (λx y H Q=>y=.non/\Q (.bl (decide (x=.non))) H):=by
 intro l8 s σ H x y v u Q I rx ry h;obtain ⟨rfl,q⟩:=h;cases ry;refine is_none_gen (zX I q ?_);cases x <;> first
  | (cases rx;rfl)
  | (obtain ⟨t,rfl⟩:=rx;rfl)
def op_notN:OpR X (compareOp .IsNot) (λx y H Q=>y=.non/\Q (.bl (!decide (x=.non))) H):=by
 intro l8 s σ H x y v u Q I rx ry h;obtain ⟨rfl,q⟩:=h;cases ry;refine isnot_none_gen (zX I q ?_);cases x <;> first
  | (cases rx;rfl)
  | (obtain ⟨t,rfl⟩:=rx;rfl)
def zJ (b:Expr) {op:CmpOp} (h:op≠.In:=by decide) (h2:op≠.NotIn:=by decide):behindInMarks op b=false:=by
 have e1:(op == CmpOp.In)=false:=by cases op <;> first | rfl | exact absurd rfl h
 have e2:(op == CmpOp.NotIn)=false:=by cases op <;> first | rfl | exact absurd rfl h2
 cases b <;> simp [behindInMarks,e1,e2]
def Zm {op:CmpOp} {r:R2} (ho:OpR X (compareOp op) r) (ha:PE X a ta) (hb:PE X b tb) (hm:behindInMarks op b=false):PE X (.Compare a [op] [b] pos) (tOp r ta tb):=by
 intro l8 s σ H Q I h;exact wpAny_Compare1 (binT ha hb I h λv u s2 x y H2 I2 rx ry q=>ho l8 s2 σ H2 x y v u Q I2 rx ry q) hm
inductive tTest_S (Q:(Bool->Hp->Prop)) (x:V) (H':Hp):Prop
 | mk (k:_) (_:x=.bl k) (_:Q k H')
def tTest (t:TE):TT:=λσ H Q=>t σ H λx H'=>tTest_S Q x H'
def zF {op:CmpOp} {r:R2} (ho:OpR X (compareOp op) r) (ha:PE X a ta) (hb:PE X b tb) (hm:behindInMarks op b=false):PT X (.Compare a [op] [b] pos) (tTest (tOp r ta tb)):=by
 intro l8 s σ H Q I h
 refine wpAny_isTrue_Compare1 (thn (ha l8 s σ H _ I h) λv s1 ⟨x,H1,I1,r1,q1⟩=>thn (hb l8 s1 σ H1 _ I1 q1) λu s2 ⟨y,H2,I2,r2,q2⟩ =>
  thn (ho l8 s2 σ H2 x y v u _ I2 r1 r2 q2) λc s3 ⟨z,H3,I3,r3,k,e,q3⟩=>?_) hm
 subst e;cases r3;exact wpAny_truthy_bool ⟨H3,I3,q3⟩
def zar:(sizeLine:Nat)<2 ^ 63:=by rw [sizeLine_eq];decide
def vals1 {x:V} {us:J8} (r:Vals [x] us):∃ u,us=[u]/\RelV x u:=by
 cases r with
 | cons r1 r2=>cases r2;exact ⟨_,rfl,r1⟩
def vals2 {x y:V} {us:J8} (r:Vals [x,y] us):∃ u w',us=[u,w']/\RelV x u/\RelV y w':=by
 cases r with
 | cons r1 r2 =>
  cases r2 with
  | cons r3 r4=>cases r4;exact ⟨_,_,rfl,r1,r3⟩
def YF (hc:X.calm=true):Yk X (.builtin "max") (λxs H Q=>∃ i j,xs=[.int i,.int j]/\Q (.int (if j > i then j else i)) H):=by
 intro l8 s σ H xs us Q I r h;obtain ⟨i,j,rfl,q⟩:=h;obtain ⟨u,w',rfl,⟨t,rfl⟩,⟨t',rfl⟩⟩:=vals2 r;refine max_two_ints (I.ok.hd hc) λh' tk k=>⟨_,H,I.kept k,?_,q⟩;by_cases hj:j > i
 ·rw [if_pos hj,if_pos hj];exact ⟨_,rfl⟩
 ·rw [if_neg hj,if_neg hj];exact ⟨_,rfl⟩
def zb1 (hc:X.calm=true):Yk X (.builtin "min") (λxs H Q=>∃ i j,xs=[.int i,.int j]/\Q (.int (if j<i then j else i)) H):=by
 intro l8 s σ H xs us Q I r h;obtain ⟨i,j,rfl,q⟩:=h;obtain ⟨u,w',rfl,⟨t,rfl⟩,⟨t',rfl⟩⟩:=vals2 r;refine min_two_ints (I.ok.hd hc) λh' tk k=>⟨_,H,I.kept k,?_,q⟩;by_cases hj:j<i
 ·rw [if_pos hj,if_pos hj];exact ⟨_,rfl⟩
 ·rw [if_neg hj,if_neg hj];exact ⟨_,rfl⟩
end
structure ObjM (h:Heap) (x dx C:Ad) (mA:J0):Prop where
 obj:h.get? x=some (PySem.W.instObj C dx)
 ns:h.Ns1 dx mA
 ne:dx≠x
def lookIn_ns {h:Heap} {dx:Ad} {mA:J0} (n:h.Ns1 dx mA):∃ od,h.get? dx=some od/\∀ name,PySem.W.lookIn name od=some (mA name):=by
 obtain ⟨o,es,ep,ho,hd,hk,_,hm⟩:=n;refine ⟨o,ho,λname=>?_⟩;have e:=hm name;unfold nsFind findBy at e;rw [← Array.find?_toList] at e;unfold PySem.W.lookIn;rw [hd];dsimp only
 split
 ·rename_i y q
  rw [q] at e;exact congrArg some e
 ·rename_i q
  rw [q] at e
  have a:es.toList.any (·.refKey)=false:=by
   rw [List.any_eq_false];intro y hy;obtain ⟨z,t,hkey⟩:=hk y (Array.mem_toList_iff.mp hy);simp [DictEntry.refKey,hkey]
  have a':¬ es.toList.any (·.refKey)=true:=by rw [a];exact q7x
  rw [if_neg a'];exact congrArg some e
def ObjM.look {h:Heap} {x dx C:Ad} {mA:J0} (I:ObjM h x dx C mA):∃ od,PySem.W.InstAt h x (PySem.W.instObj C dx) C (some od)/\∀ name,PySem.W.lookIn name od=some (mA name) :=
 let ⟨od,ho,hl⟩:=lookIn_ns I.ns
 ⟨od,⟨I.obj,rfl,rfl,ho⟩,hl⟩
section
variable {prog:Program} {w:World} {A:Around} {E:J5} {s:Sh} {K:Fg} {x dx C f:Ad} {mA:J0} {name:Str} {v:Vl}
def get_map {expr:Bool} {Q:J5} (X:K.In s.heap) (I:ObjM s.heap x dx C mA) (hg:PySem.W.plainGet K C name=true) (hh:PySem.W.hasDictIn K C=true)
  (ha:PySem.W.findIn K (.ref C) name=some none) (hv:mA name=some v) (hv':PySem.W.handedIn v=true) (h:Q v { s with toks:=s.toks+1 }) :
  wpAny (model prog w) A (getAttr (.ref x) name expr) Q E s:=by
 obtain ⟨od,J,hl⟩:=I.look;exact PySem.W.get_value X J (PySem.W.plainGet_of hg).1 (PySem.W.findObj_own hh ha rfl (by rw [hl,hv])) hv' h
def get_meth {pl:Sem Bool} {Q:Vl×J8->Sh->Prop} (X:K.In s.heap) (I:ObjM s.heap x dx C mA) (hg:PySem.W.plainGet K C name=true)
  (hf:PySem.W.findIn K (.ref C) name=some (some (.ref f))) (ht:PySem.W.isFn K (.ref f)=true) (hv:mA name=none) (h:Q (.ref f,[.ref x]) s) :
  wpAny (model prog w) A (getMethod (.ref x) name pl) Q E s:=by
 obtain ⟨od,J,hl⟩:=I.look;exact PySem.W.method_fn X J (PySem.W.plainGet_of hg).1 (PySem.W.plainGet_of hg).2 hf (beq_iff_eq.mp ht) (by show (PySem.W.lookIn name od).map (·.isSome)=some false;rw [hl,hv];rfl) h
def set_map {ns:Jb} {Q:Unit->Sh->Prop} (X:K.In s.heap) (I:ObjM s.heap x dx C mA)
  (hs:PySem.W.findIn K (.ref C) "__setattr__"=some (some (.builtin "object.__setattr__"))) (hp:PySem.W.plainOver K C=true) (ht:PySem.W.takerIn K C name=some none) (hh:PySem.W.hasDictIn K C=true)
  (hw:PySem.Within mA ns) (hsz:ns.length<=sizeLine)
  (h:∀ h',ObjM h' x dx C (λy=>if y=name then some v else mA y)->Heap.SameBut dx s.heap h'->Q () { s with heap:=h',toks:=s.toks+2 }) :
  wpAny (model prog w) A (setAttr (.ref x) name v) Q E s:=by
 obtain ⟨od,J,hl⟩:=I.look;refine PySem.W.set_plain X J hs (PySem.W.osa_open (s:={ s with toks:=s.toks+1 }) (r:=none) X J hp ht λb=>?_);obtain ⟨cd,hc,hd'⟩:=PySem.W.any_some hh;have hx:s.heap.get? x=some ⟨.ref C,some dx,.plain,#[]⟩:=I.obj;refine q0x (q0y (q0x (q0x (wpAny_loadPart hx (q0x (PySem.W.Looks.here (s:={ s with toks:=s.toks+1 }) (PySem.W.looks_clsIn X hc) ?_))))));rw [hd'];refine q0y (a:=some dx) (q0x (q0y (q0x ?_)));refine wpAny_nsSet1 (s:={ s with toks:=s.toks+1 }) I.ns λh' hn2 hs2=>?_;obtain ⟨oD,esD,epD,hoD,hdD,hcD⟩:=hn2.count (PySem.Within.cons name v hw);refine q0x (wpAny_lookBehind hoD (by rw [hdD];exact pastItsLine_dict (Nat.le_trans hcD (by rw [q8x];omega))) ?_);exact q0y (h _ ⟨(hs2.2 _ (Ne.symm I.ne)).trans I.obj,hn2,I.ne⟩ hs2)
def make_map {R:Result->Sh->Prop} {vs:J8} {kw:List (Str×Vl)} (X:K.In s.heap) (hm:PySem.W.makesIn K C=true)
  (hi:PySem.W.findIn K (.ref C) "__init__"=some (some (.ref f))) (hf:PySem.W.typeIn K (.ref f)=some (.type "function"))
  (h:codeAny (model prog w) (A.under (.builtin "type.__call__" ⟨.ref C::vs,kw⟩)) (.call (.ref f) ⟨.ref (s.heap.objs.size+1)::vs,kw⟩) (PySem.W.InitBack (s.heap.objs.size+1) R)
   { s with heap:=(s.heap.push PySem.W.emptyDict).push (PySem.W.instObj C s.heap.objs.size) }) :
  codeAny (model prog w) A (.call (.ref C) ⟨vs,kw⟩) R s:=by
 obtain ⟨hh,g,d,t,os⟩:=s;exact PySem.W.make_core (PySem.W.makes_of X hm) (PySem.W.looks_findIn X hi) (λself=>PySem.W.bind_fn X self hf) (.inl rfl) h
def make_map0 {R:Result->Sh->Prop} (X:K.In s.heap) (hm:PySem.W.makesIn K C=true)
  (hi:PySem.W.findIn K (.ref C) "__init__"=some (some (.builtin "object.__init__")))
  (hb:∀ self,PySem.W.Looks (model prog w) s.heap (bindSpecial (.builtin "object.__init__") self) (.builtin "object.__init__",[self]))
  (h:codeAny (model prog w) (A.under (.builtin "type.__call__" ⟨[.ref C],[]⟩)) (.call (.builtin "object.__init__") ⟨[.ref (s.heap.objs.size+1)],[]⟩) (PySem.W.InitBack (s.heap.objs.size+1) R)
   { s with heap:=(s.heap.push PySem.W.emptyDict).push (PySem.W.instObj C s.heap.objs.size) }) :
  codeAny (model prog w) A (.call (.ref C) ⟨[],[]⟩) R s:=by
 obtain ⟨hh,g,d,t,os⟩:=s;exact PySem.W.make_core (PySem.W.makes_of X hm) (PySem.W.looks_findIn X hi) hb (.inr ⟨rfl,rfl⟩) h
end
def zS (f:Str) (v:V):List (Str×V)->List (Str×V)
 | []=>[(f,v)]
 | (g,x)::r=>if g=f then (g,v)::r else (g,x)::zS f v r
theorem XD (f g:Str) (v:V):∀ fs:List (Str×V),(zS f v fs).lookup g=if g=f then some v else fs.lookup g
 | []=>by
  show List.lookup g [(f,v)]=_;by_cases h:g=f
  ·have hb:(g == f)=true:=beq_iff_eq.mpr h
   simp only [List.lookup,hb,if_pos h]
  ·have hb:(g == f)=false:=beq_eq_false_iff_ne.mpr h
   simp only [List.lookup,hb,if_neg h]
 | (k,x)::r=>by
  have ih:=XD f g v r;rw [show zS f v ((k,x)::r)=(if k=f then (k,v)::r else (k,x)::zS f v r) from rfl];by_cases hk:k=f
  ·rw [if_pos hk]
   by_cases h:g=k
   ·have hb:(g == k)=true:=beq_iff_eq.mpr h
    simp only [List.lookup,hb,if_pos (h.trans hk)]
   ·have hb:(g == k)=false:=beq_eq_false_iff_ne.mpr h
    simp only [List.lookup,hb,if_neg (λe:g=f=>h (e.trans hk.symm))]
  ·rw [if_neg hk]
   by_cases h:g=k
   ·have hb:(g == k)=true:=beq_iff_eq.mpr h
    simp only [List.lookup,hb,if_neg (λe:g=f=>hk (h.symm.trans e))]
   ·have hb:(g == k)=false:=beq_eq_false_iff_ne.mpr h
    simp only [List.lookup,hb];exact ih
theorem Xv (f:Str) (v:V):∀ fs:List (Str×V),f∈(zS f v fs).map (·.1)/\∀ g,g∈fs.map (·.1)->g∈(zS f v fs).map (·.1)
 | []=>⟨by simp [zS],λg h=>by simp at h⟩
 | (k,x)::r=>by
  obtain ⟨i1,i2⟩:=Xv f v r;rw [show zS f v ((k,x)::r)=(if k=f then (k,v)::r else (k,x)::zS f v r) from rfl];by_cases hk:k=f
  ·rw [if_pos hk]
   subst hk;exact ⟨by simp,λg h=>by simpa using h⟩
  ·rw [if_neg hk]
   refine ⟨?_,λg h=>?_⟩
   ·rw [List.map_cons]
    exact q6y _ i1
   ·rw [List.map_cons] at h ⊢
    rcases List.mem_cons.mp h with e | e
    ·exact List.mem_cons.mpr (.inl e)
    ·exact q6y _ (i2 g e)
theorem XF (f:Str) (v:V):∀ fs:List (Str×V),(zS f v fs).length<=fs.length+1
 | []=>by simp [zS]
 | (k,x)::r=>by
  have ih:=XF f v r;rw [show zS f v ((k,x)::r)=(if k=f then (k,v)::r else (k,x)::zS f v r) from rfl];by_cases hk:k=f
  ·rw [if_pos hk,q8x,q8x];omega
  ·rw [if_neg hk,q8x,q8x];omega
def RelO.some_of {v:V} {o:Ja} (r:RelO (some v) o):∃ u,o=some u/\RelV v u:=by
 cases o with
 | none=>exact (show False from r).elim
 | some u=>exact ⟨u,rfl,r⟩
def RelO.none_of {o:Ja} (r:RelO none o):o=none:=by
 cases o with
 | none=>rfl
 | some u=>exact (show False from r).elim
def handed_of {v:V} {u:Vl} (r:RelV v u):PySem.W.handedIn u=true:=by
 cases v with
 | non=>cases (show u=Value.none from r);rfl
 | bl b=>cases (show u=Value.bool b from r);rfl
 | int i=>obtain ⟨t,e⟩:=(show ∃ t,u=Value.int i t from r);cases e;rfl
 | str x=>obtain ⟨t,e⟩:=(show ∃ t,u=Value.str x t from r);cases e;rfl
 | byt b=>obtain ⟨t,e⟩:=(show ∃ t,u=Value.bytes b t from r);cases e;rfl
 | flt b=>obtain ⟨t,e⟩:=(show ∃ t,u=Value.float b t from r);cases e;rfl
 | ref a=>cases (show u=Value.ref a from r);rfl
 | ty n=>cases (show u=Value.type n from r);rfl
section
variable {P:Program} {w:World} {H H':Hp} {h h':Heap} {a C dx:Ad} {fs fs':List (Str×V)}
def XT (hok:HOk P w H h) (e:H a=some (.ins C dx fs)):∃ mA,ObjM h a dx C mA/\(∀ f,RelO (fs.lookup f) (mA f))/\PySem.Within mA (fs.map (·.1))/\fs.length<=1000/\H dx=some (.own a):=by
 obtain ⟨d,z,ne,ob,mA,n,r,q⟩:=(show ObjOk P w H h a (.ins C dx fs) from hok a _ e);exact ⟨mA,⟨ob,n,ne⟩,r,q,z,d⟩
end
structure Cls (K:Fg) (C:Ad):Prop where
 pg:PySem.W.plainGet K C Str.empty=true
 hd:PySem.W.hasDictIn K C=true
 po:PySem.W.plainOver K C=true
 sa:PySem.W.findIn K (.ref C) "__setattr__"=some (some (.builtin "object.__setattr__"))
def Cls.get {K:Fg} {C:Ad} (c:Cls K C) (f:Str):PySem.W.plainGet K C f=true:=c.pg
def NoAttr (K:Fg) (C:Ad) (f:Str):Prop:=PySem.W.findIn K (.ref C) f=some none
def NoAttr.taker {K:Fg} {C:Ad} {f:Str} (n:NoAttr K C f):PySem.W.takerIn K C f=some none:=by
 unfold PySem.W.takerIn;rw [show PySem.W.findIn K (.ref C) f=some none from n];rfl
structure Con (K:Fg) (C:Ad) (f:Str) (v:V) (u:Vl):Prop where
 at_:PySem.W.findIn K (.ref C) f=some (some u)
 rel:RelV v u
 get:PySem.W.specialIn K u "__get__"=some none
 cp:PySem.W.copiedNames.contains f=false
structure Meth (K:Fg) (C:Ad) (m:Str) (f:Ad):Prop where
 at_:PySem.W.findIn K (.ref C) m=some (some (.ref f))
 fn:PySem.W.isFn K (.ref f)=true
 kp:PySem.W.keepIn K (.ref f)=true
section
variable {X:Cx} {l8:J7} {σ:St} {H:Hp} {s:Sh} {a C dx:Ad} {fs:List (Str×V)} {f:Str} {v:V} {A:Around} {E:J5}
def zfg {b:Bool} {Q:J5} (I:Inv X l8 σ H s) (e:H a=some (.ins C dx fs)) (c:Cls X.K C) (n:NoAttr X.K C f) (l:fs.lookup f=some v)
  (h:∀ u s',Inv X l8 σ H s'->RelV v u->Q u s'):wpAny (model X.prog X.w) A (getAttr (.ref a) f b) Q E s:=by
 obtain ⟨mA,O,r,_,_,_⟩:=XT I.hok e;obtain ⟨u,hu,ru⟩:=RelO.some_of (v:=v) (o:=mA f) (by rw [← l];exact r f);exact get_map I.kIn O (c.get f) c.hd n hu (handed_of ru) (h u _ (I.tok _) ru)
def zax {m:Str} {g:Ad} {pl:Sem Bool} {Q:Vl×J8->Sh->Prop} (I:Inv X l8 σ H s) (e:H a=some (.ins C dx fs)) (c:Cls X.K C) (k:Meth X.K C m g) (l:fs.lookup m=none)
  (h:Q (.ref g,[.ref a]) s):wpAny (model X.prog X.w) A (getMethod (.ref a) m pl) Q E s:=by
 obtain ⟨mA,O,r,_,_,_⟩:=XT I.hok e;have hn:mA m=none:=RelO.none_of (by rw [← l];exact r m);exact get_meth I.kIn O (c.get m) k.at_ k.fn hn h
def zev {y:V} {u:Vl} {Q:Unit->Sh->Prop} (I:Inv X l8 σ H s) (e:H a=some (.ins C dx fs)) (c:Cls X.K C) (n:NoAttr X.K C f) (hl:fs.length<1000) (ry:RelV y u)
  (h:∀ s',Inv X l8 σ (upd H a (.ins C dx (zS f y fs))) s'->Q () s'):wpAny (model X.prog X.w) A (setAttr (.ref a) f u) Q E s:=by
 obtain ⟨mA,O,r,wi,_,ho⟩:=XT I.hok e;have hz:(fs.map (·.1)).length<=sizeLine:=by rw [Je,sizeLine_eq];omega
 refine set_map I.kIn O c.sa c.po n.taker c.hd wi hz λh' O' sb=>h _ ?_;have hd:∃ o,h'.get? dx=some o:=let ⟨o,_,_,e',_⟩:=O'.ns;⟨o,e'⟩;refine I.write (x:=a) (e:=dx) (by rw [e];exact True.intro) (.inr ho) (λb q hb z=>(sb.2 b hb).trans z) hd ?_;refine ⟨by rw [zj O.ne];exact ho,?_,O.ne,O'.obj,_,O'.ns,λg=>?_,λg hg=>?_⟩
 ·have:=XF f y fs;omega
 ·show RelO ((zS f y fs).lookup g) (if g=f then some u else mA g)
  rw [XD];by_cases q:g=f
  ·rw [if_pos q,if_pos q];exact ry
  ·rw [if_neg q,if_neg q];exact r g
 ·by_cases q:g=f
  ·rw [q];exact (Xv f y fs).1
  ·refine (Xv f y fs).2 g (wi g λz=>hg ?_)
   show (if g=f then some u else mA g)=none;rw [if_neg q];exact z
def Inv.made (I:Inv X l8 σ H s):Inv X l8 σ (upd (upd H s.heap.objs.size (.own (s.heap.objs.size+1))) (s.heap.objs.size+1) (.ins C s.heap.objs.size []))
  { s with heap:=(s.heap.push PySem.W.emptyDict).push (PySem.W.instObj C s.heap.objs.size) }:=by
 have e1:(s.heap.push PySem.W.emptyDict).get? s.heap.objs.size=some PySem.W.emptyDict:=Heap.get?_push_size s.heap rfl
 have e2:((s.heap.push PySem.W.emptyDict).push (PySem.W.instObj C s.heap.objs.size)).get? (s.heap.objs.size+1)=some (PySem.W.instObj C s.heap.objs.size):=by
  have:=Heap.get?_push_size (s.heap.push PySem.W.emptyDict) (o:=PySem.W.instObj C s.heap.objs.size) rfl
  rwa [Heap.size_push] at this
 have e3:(s.heap.push PySem.W.emptyDict).Ns s.heap.objs.size (λ_=>none):=⟨PySem.W.emptyDict,#[],_,e1,rfl,(λe he=>absurd he (by simp)),λ_=>rfl⟩;have I1:=I.laid (a:=s.heap.objs.size) (o:=.own (s.heap.objs.size+1)) (h':=s.heap.push PySem.W.emptyDict) (t':=s.toks) (λb u q=>Heap.get?_push_of_some _ q) (Nat.le_refl _) ⟨_,e1⟩;refine I1.laid (a:=s.heap.objs.size+1) (o:=.ins C s.heap.objs.size []) (t':=s.toks) (λb u q=>Heap.get?_push_of_some _ q) (Nat.le_of_eq (Heap.size_push _ _)) ?_;have ne:s.heap.objs.size≠s.heap.objs.size+1:=Nat.ne_of_lt (Nat.lt_succ_self _);refine ⟨by rw [zj ne,zi],Nat.zero_le _,ne,e2,λ_=>none,(Heap.Ns1.of_empty e3).at λo q=>Heap.get?_push_of_some _ q,λ_=>True.intro,λy hy=>absurd rfl hy⟩
def attr_of {prog:Program} {w:World} {env:Env} {e:Expr} {f:Str} {pos:Pos} {s:Sh} {Q:J5} (hb:attributeBase e f env (eval e env)=eval e env)
  (h:wpAny (model prog w) A (eval e env) (λo s₁=>wpAny (model prog w) A (getAttr o f true) Q E s₁) E s):wpAny (model prog w) A (eval (.Attribute e f pos) env) Q E s :=
 Attribute_any_ h (by rw [arm_eval_Attribute,hb])
end
inductive tFld_S (K:Fg) (f:Str) (Q:VK) (x:V) (H1:Hp):Prop
 | mk (a C:_) (dx fs v:_) (_:x=.ref a) (_:H1 a=some (.ins C dx fs)) (_:Cls K C) (_:NoAttr K C f) (_:fs.lookup f=some v) (_:Q v H1)
def tFld (K:Fg) (ta:TE) (f:Str):TE:=λσ H Q=>ta σ H λx H1=>tFld_S K f Q x H1
inductive sFld_S (K:Fg) (f:Str) (D:Ends) (σ:St) (y x:V) (H2:Hp):Prop
 | mk (a C:_) (dx fs:_) (_:x=.ref a) (_:H2 a=some (.ins C dx fs)) (_:Cls K C) (_:NoAttr K C f) (_:fs.length<1000) (_:D.nx σ (upd H2 a (.ins C dx (zS f y fs))))
def sFld (K:Fg) (ta tv:TE) (f:Str):TS:=λD σ H=>tv σ H λy H1=>ta σ H1 λx H2=>sFld_S K f D σ y x H2
section
variable {X:Cx} {o e value:Expr} {f:Str} {pos pos' tpos:Pos} {ta tv:TE}
def zh (he:PE X e ta) (hb:attributeBase e f X.env (eval e X.env)=eval e X.env):PE X (.Attribute e f pos) (tFld X.K ta f):=by
 intro l8 s σ H Q I h;refine attr_of hb (thn (he l8 s σ H _ I h) λu s1 ⟨x,H1,I1,rx,a,C,dx,fs,v,ex,ea,c,n,l,q⟩=>?_);subst ex;obtain rfl:u=Value.ref a:=rx;exact zfg I1 ea c n l λu' s2 I2 ru=>⟨v,H1,I2,ru,q⟩
def zu (ha:PE X o ta) (hv:PE X value tv) (hs:swapsWith value (some (.Attribute o f pos')) pos.line X.env=pure false):PS X (.Assign [.Attribute o f pos'] value pos) (sFld X.K ta tv f):=by
 intro l8 s σ H D I h;refine plainObj_wpAny_Assign_Attribute (thn (hv l8 s σ H _ I h) λu s1 ⟨y,H1,I1,ry,q⟩=>thn (ha l8 s1 σ H1 _ I1 q) λov s2 ⟨x,H2,I2,rx,a,C,dx,fs,ex,ea,c,n,l,q2⟩=>?_) hs;subst ex;obtain rfl:ov=Value.ref a:=rx;exact zev I2 ea c n l ry λs3 I3=>⟨σ,_,I3,q2⟩
end
section
variable {X:Cx} {l8:J7} {σ:St} {H:Hp} {s:Sh} {A:Around} {E:J5} {Q:J5} {c:Vl} {b:Bool}
inductive TyOf (K:Fg) (H:Hp):V->Vl->Prop where
 | non:TyOf K H .non (.type "NoneType")
 | bl (x:Bool):TyOf K H (.bl x) (.type "bool")
 | int (i:Int):TyOf K H (.int i) (.type "int")
 | str (x:Str):TyOf K H (.str x) (.type "str")
 | flt (x:UInt64):TyOf K H (.flt x) (.type "float")
 | lst {a:Ad} {xs:Jj} (e:H a=some (.lst xs)):TyOf K H (.ref a) (.type "list")
 | frz {a:Ad} {o:Obj} {xs:Jj} (e:H a=some (.frz o (.lst xs))):TyOf K H (.ref a) (.type "list")
 | tup {a:Ad} {xs:Jj} (e:H a=some (.tup xs)):TyOf K H (.ref a) (.type "tuple")
 | dK {a:Ad} {md:Jh} (e:H a=some (.dK md)):TyOf K H (.ref a) (.type "dict")
 | dT {a:Ad} {md:List (List Key×V)} (e:H a=some (.dT md)):TyOf K H (.ref a) (.type "dict")
 | ins {a C dx:Ad} {fs:List (Str×V)} (e:H a=some (.ins C dx fs)) (cl:Cls K C) (ha:PySem.W.findIn K (.ref C) "__class__"=some (some (.builtin "object.__class__")))
   (hn:PySem.W.specialIn K (.builtin "object.__class__") "__get__"=some (some (.builtin "getset_descriptor.__get__"))) (htk:PySem.W.takesIn K (.builtin "object.__class__")=some true)
   (hm:PySem.W.mroIn K C (.type "object")=some true):TyOf K H (.ref a) (.ref C)
def isinst_ok {x:V} {u t:Vl} (I:Inv X l8 σ H s) (rx:RelV x u) (ty:TyOf X.K H x t) (e:PySem.W.kitOne X.K t c=some b) (h:∀ tk,Q (.bool b) { s with toks:=tk }) :
  wpAny (model X.prog X.w) A (call (.builtin "isinstance") [u,c]) Q E s:=by
 cases ty with
 | non=>cases (show u=Value.none from rx);exact PySem.W.kia_one PySem.W.kitx_none I.kIn True.intro e (λz=>nomatch z) h
 | bl y=>cases (show u=Value.bool y from rx);exact PySem.W.kia_one PySem.W.kitx_bool I.kIn True.intro e (λz=>nomatch z) h
 | int i=>obtain ⟨t,q⟩:=(show ∃ t,u=Value.int i t from rx);cases q;exact PySem.W.kia_one PySem.W.kitx_int I.kIn True.intro e (λz=>nomatch z) h
 | str y=>obtain ⟨t,q⟩:=(show ∃ t,u=Value.str y t from rx);cases q;exact PySem.W.kia_one PySem.W.kitx_str I.kIn True.intro e (λz=>nomatch z) h
 | flt y=>obtain ⟨t,q⟩:=(show ∃ t,u=Value.float y t from rx);cases q;exact PySem.W.kia_one PySem.W.kitx_float I.kIn True.intro e (λz=>nomatch z) h
 | @lst a xs ea =>
  cases (show u=Value.ref a from rx);obtain ⟨_,_,n,_,h1⟩:=(show ObjOk X.prog X.w H s.heap a (.lst xs) from I.hok a _ ea);exact PySem.W.kia_one PySem.W.kitx_list I.kIn ⟨_,h1,rfl⟩ e (λz=>nomatch z) h
 | @frz a ob xs ea =>
  cases (show u=Value.ref a from rx);obtain ⟨_,_,_,n,_,h1⟩:=(show ObjOk X.prog X.w H s.heap a (.frz ob (.lst xs)) from I.hok a _ ea);exact PySem.W.kia_one PySem.W.kitx_list I.kIn ⟨_,h1,rfl⟩ e (λz=>nomatch z) h
 | @tup a xs ea =>
  cases (show u=Value.ref a from rx);obtain ⟨_,_,_,p⟩:=(show ObjOk X.prog X.w H s.heap a (.tup xs) from I.hok a _ ea);obtain ⟨o,h1,h2,_⟩:=p;exact PySem.W.kia_one PySem.W.kitx_tuple I.kIn ⟨o,h1,h2⟩ e (λz=>nomatch z) h
 | @dK a md ea =>
  cases (show u=Value.ref a from rx);obtain ⟨_,_,vs,_,p⟩:=(show ObjOk X.prog X.w H s.heap a (.dK md) from I.hok a _ ea);obtain ⟨o,es,ep,h1,h2,_⟩:=p;exact PySem.W.kia_one PySem.W.kitx_dict I.kIn ⟨o,h1,h2.1⟩ e (λz=>nomatch z) h
 | @dT a md ea =>
  cases (show u=Value.ref a from rx);obtain ⟨_,_,xs,_,o,es,ep,h1,h2,_⟩:=(show ObjOk X.prog X.w H s.heap a (.dT md) from I.hok a _ ea);exact PySem.W.kia_one PySem.W.kitx_dict I.kIn ⟨o,h1,h2.1⟩ e (λz=>nomatch z) h
 | @ins a C dx fs ea cl ha hn htk hm =>
  cases (show u=Value.ref a from rx);obtain ⟨mA,O,_⟩:=XT I.hok ea;obtain ⟨od,J,_⟩:=O.look;exact PySem.W.kia_one (PySem.W.kitx_own (cl.get _) cl.hd ha hn htk hm) I.kIn J e (λz=>nomatch z) h
end
structure Room (k:Nat) (A:Around):Prop where
 hd:A.handled=none
 dp:A.depth+3*k+5<recursionLimit
 un:A.units+16*k+200<cLine
def Room.mono {j k:Nat} {A:Around} (r:Room k A) (h:j<=k):Room j A:=⟨r.hd,by have:=r.dp;omega,by have:=r.un;omega⟩
def Room.deeper {k:Nat} {A:Around} (r:Room (k+1) A) (env:Env):Room k (A.deeper env) :=
 ⟨r.hd,by have:=r.dp;show A.depth+1+3*k+5<_;omega,by have:=r.un;show A.units+3+16*k+200<_;omega⟩
def zfd {A:Around} {C:Ad} {us:J8} {kw:List (Str×Vl)}:(A.under (.builtin "type.__call__" ⟨.ref C::us,kw⟩)).depth=A.depth+1:=by
 first | rfl | simp [Around.under,Code.weight,Code.isCreation,Code.isGuard,Code.isCaller,Code.frames,Code.isFrame,guardIds]
def zfc {A:Around} {C:Ad} {us:J8} {kw:List (Str×Vl)}:(A.under (.builtin "type.__call__" ⟨.ref C::us,kw⟩)).units=A.units+1:=by
 first | rfl | simp [Around.under,Code.cUnits,Code.frames,Code.isFrame]
def Room.make {k:Nat} {A:Around} (r:Room (k+1) A) (C:Ad) (us:J8) (kw:List (Str×Vl)):Room k (A.under (.builtin "type.__call__" ⟨.ref C::us,kw⟩)) :=
 ⟨r.hd,by have:=r.dp;rw [zfd];omega,by have:=r.un;rw [zfc];omega⟩
def Room.depth {k:Nat} {A:Around} (r:Room k A):A.depth<recursionLimit:=by have:=r.dp;omega
def Room.units {k:Nat} {A:Around} (r:Room k A):A.units+64<cLine:=by have:=r.un;omega
def tNil:TA:=λ_ H Q=>Q [] H
def X2 (ta:TE) (tr:TA):TA:=λσ H Q=>ta σ H λx H1=>tr σ H1 λxs H2=>Q (x::xs) H2
section
variable {X:Cx} {e:Expr} {es:Jd} {te:TE} {t:TA} {pos:Pos}
def zc:PA X [] tNil:=λ_ _ _ _ H Q I h=>Calls.spliced_nil ⟨[],H,I,.nil,h⟩
def zb (ha:PE X e te) (hr:PA X es t) (hs:starEach (e::es) X.env=(false,eval e X.env)::starEach es X.env:=by rfl):PA X (e::es) (X2 te t):=by
 intro pos l8 s σ H Q I h;rw [hs];show wpAny _ _ (spliced ((false,eval e X.env)::backTo pos (starEach es X.env))) _ _ s;refine Calls.spliced_cons (thn (ha l8 s σ H _ I h) λu s1 ⟨x,H1,I1,r1,q1⟩=>?_);exact thn (hr pos l8 s1 σ H1 _ I1 q1) λus s2 ⟨xs,H2,I2,r2,q2⟩=>⟨x::xs,H2,I2,.cons r1 r2,q2⟩
def tTup (t:TA):TE:=λσ H Q=>t σ H λxs H1=>xs.length<=sizeLine/\∀ p,H1 p=none->Q (.ref p) (upd H1 p (.tup xs))
def tLst (t:TA):TE:=λσ H Q=>t σ H λxs H1=>xs.length<=sizeLine/\∀ p,H1 p=none->Q (.ref p) (upd H1 p (.lst xs))
def yc {x1} (h:PA X es t):PE X (.Tuple es x1 pos) (tTup t):=by
 intro l8 s σ H Q I hq;refine wpAny_Tuple_spliced (thn (h pos l8 s σ H _ I hq) λus s1 ⟨xs,H1,I1,r,z,q⟩=>⟨by rw [← r.length];exact z,?_⟩);have hf:H1 s1.heap.objs.size=none:=I1.hok.fresh (Nat.le_refl _);refine ⟨.ref s1.heap.objs.size,upd H1 s1.heap.objs.size (.tup xs),I1.laid (t':=s1.toks) (λb u e=>Heap.get?_push_of_some _ e) (Nat.le_refl _) ?_,rfl,q _ hf⟩;exact ⟨z,us,r,⟨_,Heap.get?_push_size _ rfl,rfl,_,rfl⟩⟩
def yh (h:PA X es t):PE X (.List es pos) (tLst t):=by
 intro l8 s σ H Q I hq;refine wpAny_List_spliced (thn (h pos l8 s σ H _ I hq) λus s1 ⟨xs,H1,I1,r,z,q⟩=>⟨by rw [← r.length];exact z,?_⟩);have hf:H1 s1.heap.objs.size=none:=I1.hok.fresh (Nat.le_refl _);refine ⟨.ref s1.heap.objs.size,upd H1 s1.heap.objs.size (.lst xs),I1.laid (t':=s1.toks) (λb u e=>Heap.get?_push_of_some _ e) (Nat.le_refl _) ?_,rfl,q _ hf⟩;exact ⟨z,us,0,r,Heap.get?_push_size _ rfl⟩
end
abbrev Sp:=Jj->Hp->VK->XK->Prop
abbrev CXT:=List Env->Hp->Sh->XK->J5
structure Env0 (P:Program) (w:World) (K:Fg) (mg:J0) (base:Heap) (A:Around) (outer:List Env) (s:Sh) (H:Hp):Prop where
 frames:A.frames=some outer
 mod:Mod K mg base
 bs:∀ b o,base.get? b=some o->s.heap.get? b=some o/\H b=none
 bsz:base.objs.size<=s.heap.objs.size
 funs:s.heap.FunFrames base outer
 frf:∀ b∈frs outer,H b=none
 hok:HOk P w H s.heap
 bare:AllBare s.gens
def CE (outer:List Env) (P:Program) (w:World) (H:Hp) (s:Sh) (Q:VK) (u:Vl) (s':Sh):Prop :=
 ∃ v H',s'.os=s.os/\AllBare s'.gens/\Un (frs outer) [] H H' s.heap s'.heap/\HOk P w H' s'.heap/\RelV v u/\Q v H'
def CR (CX:CXT) (outer:List Env) (P:Program) (w:World) (H:Hp) (s:Sh) (Q:VK) (E:XK) (r:Result) (s':Sh):Prop :=
 match r with
 | .ok (.ret u)=>CE outer P w H s Q u s'
 | .ok _=>False
 | .error e=>CX outer H s E e s'
structure FnOk (P:Program) (w:World) (K:Fg) (mg:J0) (base:Heap) (CX:CXT) (k:Nat) (f:Ad) (fd:FuncData) (ps:Jb) (sp:Sp):Prop where
 len:∀ vs H Q E,sp vs H Q E->vs.length=ps.length
 run:∀ (A:Around) (outer:List Env) (s:Sh) (H:Hp) (args:Args) (us:J8) (vs:Jj) (Q:VK) (E:XK),Room k A->Env0 P w K mg base A outer s H->BindsTo s fd args (ps.zip us)->Vals vs us->sp vs H Q E ->
  codeAny (model P w) A (.call (.ref f) args) (CR CX outer P w H s Q E) s
def FnOk.mono {P:Program} {w:World} {K:Fg} {mg:J0} {base:Heap} {CX:CXT} {j k:Nat} {f:Ad} {fd:FuncData} {ps:Jb} {sp:Sp} (F:FnOk P w K mg base CX j f fd ps sp) (h:j<=k) :
  FnOk P w K mg base CX k f fd ps sp:=⟨F.len,λA outer s H args us vs Q E hr=>F.run A outer s H args us vs Q E (hr.mono h)⟩
def Env0.make {P:Program} {w:World} {K:Fg} {mg:J0} {base:Heap} {A:Around} {outer:List Env} {s:Sh} {H:Hp} (e:Env0 P w K mg base A outer s H) (C:Ad) (us:J8) (kw:List (Str×Vl)) :
  Env0 P w K mg base (A.under (.builtin "type.__call__" ⟨.ref C::us,kw⟩)) outer s H:=⟨by first | exact e.frames | (simpa [Around.under,Code.envs,Code.isFrame,pushEnvs] using e.frames),e.mod,e.bs,e.bsz,e.funs,e.frf,e.hok,e.bare⟩
section
variable {X:Cx} {l8:J7} {σ:St} {H:Hp} {s s':Sh}
def Inv.env0 (I:Inv X l8 σ H s):Env0 X.prog X.w X.K X.mg X.base X.A X.stack s H :=
 ⟨I.ok.frames,I.ok.mod,I.bs,Nat.le_trans I.ok.bsz I.sz,I.stack,I.stkFree,I.hok,I.bare⟩
def Inv.after {Q:VK} {u:Vl} (I:Inv X l8 σ H s) (h:CE X.stack X.prog X.w H s Q u s'):EP X l8 σ Q u s':=by
 obtain ⟨v,H',os,bare,un,hok,r,q⟩:=h;obtain ⟨hh,g,d,t,os'⟩:=s';obtain rfl:os'=s.os:=os;exact ⟨v,H',I.call (h':=hh) (g':=g) (d':=d) (t':=t) (ch:=[]) un hok bare (λb z=>absurd z (by simp)),r,q⟩
end
def zbm (sp:Sp) (dvs:Jj) (E:XK) (t:TA):TE:=λσ H Q=>t σ H λvs H1=>sp (vs++dvs) H1 Q E
inductive tMeth_S (C:Ad) (m:Str) (sp:Sp) (dvs:Jj) (E:XK) (t:TA) (σ:St) (Q:VK) (x:V) (H1:Hp):Prop
 | mk (a dx fs:_) (_:x=.ref a) (_:H1 a=some (.ins C dx fs)) (_:fs.lookup m=none) (_:t σ H1 λvs H2=>sp (x::(vs++dvs)) H2 Q E)
def tMeth (C:Ad) (m:Str) (sp:Sp) (dvs:Jj) (E:XK) (ta:TE) (t:TA):TE:=λσ H Q=>ta σ H λx H1=>tMeth_S C m sp dvs E t σ Q x H1
def tMake (C:Ad) (sp:Sp) (dvs:Jj) (E:XK) (t:TA):TE:=λσ H Q=>t σ H λvs H1=>∀ x dx,H1 x=none->H1 dx=none->dx≠x ->
 sp (.ref x::(vs++dvs)) (upd (upd H1 dx (.own x)) x (.ins C dx [])) (λv H2=>v=.non/\Q (.ref x) H2) E
def Binds (K:Fg) (fd:FuncData) (ps:Jb) (ds:J8):Prop :=
 ∀ (s:Sh) (us:J8),K.In s.heap->(us++ds).length=ps.length->BindsTo s fd ⟨us,[]⟩ (ps.zip (us++ds))
def Binds.all {K:Fg} {fd:FuncData} {ps:Jb} (h:∀ us:J8,us.length=ps.length->bindArgs fd ⟨us,[]⟩=pure (ps.zip us)):Binds K fd ps []:=λs us _ hl=>by
 rw [q8y] at hl ⊢;exact .of_eq (h us hl)
def xa (CX:CXT) (X:Cx) (E:XK):Prop:=∀ (l8:J7) (σ:St) (H:Hp) (s:Sh) (e:Vl) (s':Sh),Inv X l8 σ H s->CX X.stack H s E e s'->X.xe e s'
section
variable {X:Cx} {CX:CXT} {k:Nat} {f C:Ad} {fd:FuncData} {ps:Jb} {sp:Sp} {dvs:Jj} {ds:J8} {E:XK} {x m:Str} {p pos apos:Pos} {e o:Expr} {es:Jd} {ta:TE} {t:TA}
def zcl {l8:J7} {σ:St} {H:Hp} {s:Sh} {Q:VK} {us:J8} {vs:Jj} (F:FnOk X.prog X.w X.K X.mg X.base CX k f fd ps sp) (hr:Room k X.A) (hb:Binds X.K fd ps ds) (hd:Vals dvs ds) (hx:xa CX X E)
  (I:Inv X l8 σ H s) (r:Vals vs us) (h:sp (vs++dvs) H Q E):wpAny (model X.prog X.w) X.A (call (.ref f) us) (EP X l8 σ Q) X.xe s:=by
 have r2:Vals (vs++dvs) (us++ds):=r.append hd;have hl:(us++ds).length=ps.length:=by rw [← r2.length];exact F.len _ _ _ _ h
 refine wpAny_call (codeAny_mono (F.run X.A X.stack s H ⟨us,[]⟩ (us++ds) (vs++dvs) Q E hr I.env0 (hb s us I.kIn hl) r2 h) λr s' hq=>?_)
 cases r with
 | error e=>exact hx l8 σ H s e s' I hq
 | ok fl =>
  cases fl with
  | ret u=>exact I.after hq
  | next=>exact False.elim hq
  | brk=>exact False.elim hq
  | cont=>exact False.elim hq
def pe_call (F:FnOk X.prog X.w X.K X.mg X.base CX k f fd ps sp) (hr:Room k X.A) (hg:Gl X x) (hm:X.mg x=some (.ref f)) (hk:PySem.W.keepIn X.K (.ref f)=true) (hb:Binds X.K fd ps ds) (hd:Vals dvs ds) (hx:xa CX X E)
  (ha:PA X (e::es) t) (hdb:(x == ("__debug__":Str))=false:=by decide) (he:starEach (e::es) X.env=(false,eval e X.env)::starEach es X.env:=by rfl) (hpl:(backTo pos (starEach es X.env)).any (·.1)=false:=by rfl) :
  PE X (.Call (.Name x p) (e::es) [] pos) (zbm sp dvs E t):=by
 intro l8 s σ H Q I h;refine wpAny_Call_Name_kw (Ya I hg hm ?_ hdb);refine PySem.W.callWith_K (h₀:=X.base) I.ok.mod.kin hk (thn (ha pos l8 s σ H _ I h) λus s1 ⟨vs,H1,I1,r,q⟩=>⟨I1.kIn,?_⟩) he hpl;exact zcl F hr hb hd hx I1 r q
def pe_meth {pl:Sem Bool} (he:PE X o ta) (c:Cls X.K C) (hm:Meth X.K C m f) (F:FnOk X.prog X.w X.K X.mg X.base CX k f fd ps sp) (hr:Room k X.A) (hb:Binds X.K fd ps ds) (hd:Vals dvs ds) (hx:xa CX X E) (ha:PA X (e::es) t)
  (hst:starEach (e::es) X.env=(false,eval e X.env)::starEach es X.env:=by rfl) (hpl:(backTo pos (starEach es X.env)).any (·.1)=false:=by rfl)
  (ht:eval (.Call (.Attribute o m apos) (e::es) [] pos) X.env=(do
   let ov ← eval o X.env
   standAt apos.atName
   let (f,first) ← holding [ov] (getMethod ov m pl)
   callWith pos f first (backTo pos (starEach (e::es) X.env)) (backToKw pos (keywordEach [] X.env))):=by rfl) :
  PE X (.Call (.Attribute o m apos) (e::es) [] pos) (tMeth C m sp dvs E ta t):=by
 intro l8 s σ H Q I h;refine PySem.W.methodCall_KW (pl:=pl) (thn (he l8 s σ H _ I h) λu s1 ⟨x,H1,I1,rx,a,dx,fs,ex,ea,l,q⟩=>?_) ht;subst ex;obtain rfl:u=Value.ref a:=rx;refine zax I1 ea c hm l ?_;refine PySem.W.callWith_K (first:=[.ref a]) (h₀:=X.base) I.ok.mod.kin hm.kp (thn (ha pos l8 s1 σ H1 _ I1 q) λus s2 ⟨vs,H2,I2,r,q2⟩=>⟨I2.kIn,?_⟩) hst hpl;exact zcl (us:=.ref a::us) (vs:=.ref a::vs) F hr hb hd hx I2 (.cons rfl r) q2
def pe_meth0 {pl:Sem Bool} (he:PE X o ta) (c:Cls X.K C) (hm:Meth X.K C m f) (F:FnOk X.prog X.w X.K X.mg X.base CX k f fd ps sp) (hr:Room k X.A) (hb:Binds X.K fd ps ds) (hd:Vals dvs ds) (hx:xa CX X E)
  (ht:eval (.Call (.Attribute o m apos) [] [] pos) X.env=(do
   let ov ← eval o X.env
   standAt apos.atName
   let (f,first) ← holding [ov] (getMethod ov m pl)
   callWith pos f first (backTo pos (starEach [] X.env)) (backToKw pos (keywordEach [] X.env))):=by rfl) :
  PE X (.Call (.Attribute o m apos) [] [] pos) (tMeth C m sp dvs E ta tNil):=by
 intro l8 s σ H Q I h;refine PySem.W.methodCall_KW (pl:=pl) (thn (he l8 s σ H _ I h) λu s1 ⟨x,H1,I1,rx,a,dx,fs,ex,ea,l,q⟩=>?_) ht;subst ex;obtain rfl:u=Value.ref a:=rx;refine zax I1 ea c hm l ?_;exact PySem.W.callWith_K0 (first:=[.ref a]) I1.kIn hm.kp (zcl (us:=[.ref a]) (vs:=[.ref a]) F hr hb hd hx I1 (.cons rfl .nil) q)
structure Mk (K:Fg) (C f:Ad):Prop where
 makes:PySem.W.makesIn K C=true
 init:PySem.W.findIn K (.ref C) "__init__"=some (some (.ref f))
 fn:PySem.W.isFn K (.ref f)=true
 kp:PySem.W.keepIn K (.ref C)=true
def run_make {l8:J7} {σ:St} {H:Hp} {s:Sh} {Q:VK} {us:J8} {vs:Jj} (M:Mk X.K C f) (F:FnOk X.prog X.w X.K X.mg X.base CX k f fd ps sp) (hr:Room (k+1) X.A) (hb:Binds X.K fd ps ds) (hd:Vals dvs ds)
  (hx:xa CX X E) (I:Inv X l8 σ H s) (r:Vals vs us)
  (h:∀ x dx,H x=none->H dx=none->dx≠x->sp (.ref x::(vs++dvs)) (upd (upd H dx (.own x)) x (.ins C dx [])) (λv H2=>v=.non/\Q (.ref x) H2) E) :
  wpAny (model X.prog X.w) X.A (call (.ref C) us) (EP X l8 σ Q) X.xe s:=by
 have hq:=h (s.heap.objs.size+1) s.heap.objs.size (I.hok.fresh (Nat.le_succ _)) (I.hok.fresh (Nat.le_refl _)) (Nat.ne_of_lt (Nat.lt_succ_self _));have I2:=Inv.made (C:=C) I;have r2:Vals (V.ref (s.heap.objs.size+1)::(vs++dvs)) (Value.ref (s.heap.objs.size+1)::(us++ds)):=.cons rfl (r.append hd)
 have hl:(Value.ref (s.heap.objs.size+1)::us++ds).length=ps.length:=by
  have e:=r2.length;rw [F.len _ _ _ _ hq] at e;exact e.symm
 refine wpAny_call (make_map (f:=f) I.kIn M.makes M.init (beq_iff_eq.mp M.fn) (codeAny_mono (F.run _ X.stack _ _ ⟨Value.ref (s.heap.objs.size+1)::us,[]⟩ (Value.ref (s.heap.objs.size+1)::(us++ds)) _ _ E (hr.make C us [])
  (I2.env0.make C us []) (hb _ (Value.ref (s.heap.objs.size+1)::us) I2.kIn hl) r2 hq) λr s' hq'=>?_))
 cases r with
 | error e=>exact hx l8 σ _ _ e s' I2 hq'
 | ok fl =>
  cases fl with
  | ret u =>
   obtain ⟨v,H',I3,rv,ev,q3⟩:=I2.after hq';subst ev;exact ⟨rv,⟨V.ref (s.heap.objs.size+1),H',I3,rfl,q3⟩⟩
  | next=>exact False.elim hq'
  | brk=>exact False.elim hq'
  | cont=>exact False.elim hq'
def pe_make (M:Mk X.K C f) (F:FnOk X.prog X.w X.K X.mg X.base CX k f fd ps sp) (hr:Room (k+1) X.A) (hg:Gl X x) (hm:X.mg x=some (.ref C)) (hb:Binds X.K fd ps ds) (hd:Vals dvs ds) (hx:xa CX X E)
  (ha:PA X (e::es) t) (hdb:(x == ("__debug__":Str))=false:=by decide) (he:starEach (e::es) X.env=(false,eval e X.env)::starEach es X.env:=by rfl) (hpl:(backTo pos (starEach es X.env)).any (·.1)=false:=by rfl) :
  PE X (.Call (.Name x p) (e::es) [] pos) (tMake C sp dvs E t):=by
 intro l8 s σ H Q I h;refine wpAny_Call_Name_kw (Ya I hg hm ?_ hdb);refine PySem.W.callWith_K (h₀:=X.base) I.ok.mod.kin M.kp (thn (ha pos l8 s σ H _ I h) λus s1 ⟨vs,H1,I1,r,q⟩=>⟨I1.kIn,?_⟩) he hpl;exact run_make M F hr hb hd hx I1 r q
end
section
variable {X:Cx} {CX:CXT} {k:Nat} {f C:Ad} {fd:FuncData} {ps ks:Jb} {sp:Sp} {E:XK} {x m:Str} {p pos apos kpos:Pos} {e o:Expr} {es:Jd} {kws:List Keyword} {te ta:TE} {t tk:TA} {nm:Option Str}
structure KBinds (K:Fg) (fd:FuncData) (ps ks:Jb) (g:J8->J8->J8) (gV:Jj->Jj->Jj):Prop where
 to:∀ (s:Sh) (us ws:J8),K.In s.heap->(g us ws).length=ps.length->BindsTo s fd ⟨us,ks.zip ws⟩ (ps.zip (g us ws))
 rel:∀ {vs:Jj} {us:J8} {zs:Jj} {ws:J8},Vals vs us->Vals zs ws->Vals (gV vs zs) (g us ws)
variable {g:J8->J8->J8} {gV:Jj->Jj->Jj}
end
structure FnScope (N P:Jb) (sc:Scope):Prop where
 kind:sc.kind=.function
 co:sc.isCoroutine=false
 gen:sc.isGenerator=false
 nd:N.Nodup
 pre:N.take P.length=P
 par:∀ x∈P,sc.names.lookup x=some .local∨sc.names.lookup x=some .cell
 nofree:∀ y∈sc.names,y.2≠.free
theorem zb2 {kindOf:Str->Option NameKind} {x:Str}:∀ {binds:List (Str×Vl)} {m:J0},(∀ v,(x,v) ∉ binds)->bindL kindOf binds m x=m x
 | [],_,_=>rfl
 | (n,v)::r,m,h=>by
  unfold bindL;rw [zb2 λw hw=>h w (q6y _ hw)]
  split
  ·have:x≠n:=by rintro rfl;exact h v q6z
   simp [this]
  ·rfl
theorem zb4 {kindOf:Str->Option NameKind} {x:Str}:∀ {binds:List (Str×Vl)} {m:J0},(∀ v,(x,v) ∉ binds)->bindC kindOf binds m x=m x
 | [],_,_=>rfl
 | (n,v)::r,m,h=>by
  unfold bindC;rw [zb4 λw hw=>h w (q6y _ hw)]
  split
  ·rfl
  ·have:x≠n:=by rintro rfl;exact h v q6z
   simp [this]
theorem zb3 {kindOf:Str->Option NameKind} {x:Str} {v:Vl}:∀ {P:Jb} {vs:J8} {i:Nat} {m:J0},P.Nodup->P[i]?=some x->vs[i]?=some v->kindOf x=some .local ->
  bindL kindOf (P.zip vs) m x=some v
 | [],_,_,_,_,h,_,_=>by simp at h
 | _::_,[],_,_,_,_,h,_=>by simp at h
 | p::P,w::vs,0,m,nd,h1,h2,hk=>by
  simp at h1 h2;subst h1;subst h2;show bindL kindOf ((p,w)::P.zip vs) m p=_;unfold bindL;rw [zb2 λv hv=>(List.nodup_cons.mp nd).1 (List.of_mem_zip hv).1,if_pos hk];simp
 | p::P,w::vs,i+1,m,nd,h1,h2,hk=>by
  show bindL kindOf ((p,w)::P.zip vs) m x=_;unfold bindL;exact zb3 (i:=i) (List.nodup_cons.mp nd).2 (by simpa using h1) (by simpa using h2) hk
theorem zb5 {kindOf:Str->Option NameKind} {x:Str} {v:Vl}:∀ {P:Jb} {vs:J8} {i:Nat} {m:J0},P.Nodup->P[i]?=some x->vs[i]?=some v->kindOf x≠some .local ->
  bindC kindOf (P.zip vs) m x=some v
 | [],_,_,_,_,h,_,_=>by simp at h
 | _::_,[],_,_,_,_,h,_=>by simp at h
 | p::P,w::vs,0,m,nd,h1,h2,hk=>by
  simp at h1 h2;subst h1;subst h2;show bindC kindOf ((p,w)::P.zip vs) m p=_;unfold bindC;rw [zb4 λv hv=>(List.nodup_cons.mp nd).1 (List.of_mem_zip hv).1,if_neg hk];simp
 | p::P,w::vs,i+1,m,nd,h1,h2,hk=>by
  show bindC kindOf ((p,w)::P.zip vs) m x=_;unfold bindC;exact zb5 (i:=i) (List.nodup_cons.mp nd).2 (by simpa using h1) (by simpa using h2) hk
def start (N:Jb) (vs:Jj):St:=vs.map some++List.replicate (N.length-vs.length) none
def yd (CX:CXT) (P:Program) (w:World) (K:Fg) (mg:J0) (base:Heap) (N:Jb) (me:Str) (scope:Scope) (f:Ad) (cd:Vl) (A:Around) (outer:List Env) (s:Sh) (H:Hp) (E:XK):Cx where
 prog:=P
 w:=w
 K:=K
 mg:=mg
 base:=base
 A:=A.deeper (envOfC me scope s.heap.objs.size f cd)
 N:=N
 s₀:=s
 H₀:=H
 env:=envOfC me scope s.heap.objs.size f cd
 outer:=outer
 stack:=envOfC me scope s.heap.objs.size f cd::outer
 ex:=[]
 calm:=true
 fn:=λ_=>true
 pn:=[]
 xe:=λe s'=>wpAny (model P w) (A.deeper (envOfC me scope s.heap.objs.size f cd)) (leaving (envOfC me scope s.heap.objs.size f cd) e) (λ_ s''=>CX outer H s E e s'') (λe' s''=>CX outer H s E e' s'') s'
def zem {sc:Scope} {n:Nat} {x:Str} (h:sc.names.lookup x=some .cell):∃ c,(cellsFrom n sc.names []).lookup x=some c:=by
 have q:=PySem.W.cellsFrom_some sc.names n [] (.inl h);exact Option.isSome_iff_exists.mp q
def inv_start {CX:CXT} {P:Program} {w:World} {K:Fg} {mg:J0} {base:Heap} {N ps:Jb} {me:Str} {scope:Scope} {f:Ad} {cd:Vl} {A:Around} {outer:List Env} {s s1:Sh} {H:Hp} {E:XK} {us:J8} {vs:Jj}
  (S:FnScope N ps scope) (hd:A.handled=none) (e0:Env0 P w K mg base A outer s H) (hl:vs.length=ps.length) (r:Vals vs us)
  (x:InCallC s s.heap.objs.size (bindL (envOfC me scope s.heap.objs.size f cd).kindOf (ps.zip us) λ_=>none) (cellsFrom (s.heap.objs.size+1) scope.names []) (bindC (envOfC me scope s.heap.objs.size f cd).kindOf (ps.zip us) λ_=>none) s1) :
  Inv (yd CX P w K mg base N me scope f cd A outer s H E) [] (start N vs) H s1:=by
 have hpl:ps.length<=N.length:=by have:=congrArg List.length S.pre;rw [List.length_take] at this;omega
 obtain ⟨h1,tk,rfl,hk⟩:=x.done;have noA:∀ b:Ad,b ∉ (yd CX P w K mg base N me scope f cd A outer s H E).ex:=λb z=>absurd (show b∈([]:Jc) from z) (by simp)
 refine ⟨⟨e0.mod,S.kind,rfl,rfl,Nat.le_refl _,λy z c h1 h2=>?_,λy hy=>?_,λy c _ h=>?_,λ_=>hd,Around.frames_deeper e0.frames,.inr ⟨rfl,rfl⟩,λb z=>absurd z (noA b),e0.bs,e0.bsz,λb _ _=>noA b,λb z=>absurd z (noA b),e0.funs,e0.frf⟩,
  rfl,e0.bare,Un.kept hk,⟨_,x.toInCall.ns,λi y v h1 h2 h3=>?_⟩,λy c h=>⟨_,x.cell y c h⟩,e0.hok.fresh (Nat.le_refl _),λy c h=>?_,λp hp=>absurd (show p∈([]:J7) from hp) (by simp),e0.hok.kept hk,?_⟩
 ·exact name_of_addr x.apart (PySem.mem_of_lookup h1) (PySem.mem_of_lookup h2)
 ·have hy:scope.names.lookup y=some .cell∨scope.names.lookup y=some .free:=hy
  rcases hy with hy | hy
  ·exact zem hy
  ·exact absurd rfl (S.nofree _ (PySem.mem_of_lookup hy))
 ·exact Nat.le_of_lt (x.above y c (PySem.mem_of_lookup h))
 ·have hi:i<vs.length:=by
   unfold start at h2;by_cases hi:i<vs.length
   ·exact hi
   ·rw [List.getElem?_append_right (by simpa using hi)] at h2
    rw [List.getElem?_replicate] at h2
    split at h2 <;> cases h2
  have ha:vs[i]?=some v:=by
   unfold start at h2;rw [q9x (by simpa using hi),List.getElem?_map] at h2
   cases e:vs[i]? with
   | none=>rw [e] at h2;cases h2
   | some a=>rw [e] at h2;cases h2;rfl
  obtain ⟨u,hu,rv⟩:=r.get ha
  have hp:ps[i]?=some y:=by
   rw [← S.pre,List.getElem?_take_of_lt (by omega)];exact h1
  have ndP:ps.Nodup:=by rw [← S.pre];exact S.nd.sublist (List.take_sublist _ _)
  refine ⟨u,rv,?_⟩;rcases S.par y (List.mem_of_getElem? hp) with k | k
  ·exact .inl ⟨k,zb3 ndP hp hu k⟩
  ·obtain ⟨c,e⟩:=zem (n:=s.heap.objs.size+1) k
   refine .inr ⟨.inl k,c,e,?_⟩;have q:=x.cell y c e;rw [zb5 ndP hp hu (by show scope.names.lookup y≠_;rw [k];decide)] at q;exact q
 ·exact e0.hok.fresh (Nat.le_of_lt (x.above y c (PySem.mem_of_lookup h)))
 ·unfold start
  show _=N.length;rw [Jf,Je,List.length_replicate];omega
def fn_of {CX:CXT} {P:Program} {w:World} {K:Fg} {mg:J0} {base:Heap} {k:Nat} {f:Ad} {name me:Str} {params:Arguments} {body:List Stmt} {scope:Scope} {dV kV doc pm mh ct oc:Vl} {an od:Option Ad}
  {osl:Array (Ja)} {N ps:Jb} {sp:Sp} (lk:K.lookup f=some ⟨oc,od,.func (PySem.W.fnOf name me params body scope dV kV doc pm an mh ct),osl⟩) (hcd:PySem.W.codeIn K mh me=true) (S:FnScope N ps scope)
  (len:∀ vs H Q E,sp vs H Q E->vs.length=ps.length)
  (hbody:∀ (A:Around) (outer:List Env) (s:Sh) (H:Hp) (vs:Jj) (Q:VK) (E:XK),Room k (A.deeper (envOfC me scope s.heap.objs.size f mh))->sp vs H Q E ->
   ∃ t,PSs (yd CX P w K mg base N me scope f mh A outer s H E) body t/\t { nx:=λ_ H'=>Q .non H',rt:=Q } (start N vs) H) :
  FnOk P w K mg base CX (k+1) f (PySem.W.fnOf name me params body scope dV kV doc pm an mh ct) ps sp:=by
 refine ⟨len,λA outer s H args us vs Q E hr e0 hb r hsp=>?_⟩;have hl:=len _ _ _ _ hsp;have KX:K.In s.heap:=e0.mod.kin.keeps λb o e=>(e0.bs b o e).1;have lim:s.heap.NoLimit:=e0.mod.nolimit.keeps λb o e=>(e0.bs b o e).1
 have hkind:∀ y∈ps.zip us,scope.names.lookup y.1=some .local∨(scope.names.lookup y.1=some .cell/\((cellsFrom (s.heap.objs.size+1) scope.names []).lookup y.1).isSome=true):=λ⟨n,v⟩ hy=>by
  rcases S.par n (List.of_mem_zip hy).1 with q | q
  ·exact .inl q
  ·exact .inr ⟨q,PySem.W.cellsFrom_some _ _ _ (.inl q)⟩
 refine codeAny_call_function hr.depth (KX _ _ lk) rfl S.co S.gen rfl (PySem.W.codeRec_of KX hcd) (hb _ _ _ _ ?_);refine wpAny_newFunctionEnv_cells S.kind hkind λenv he s1 x=>?_;subst he;refine ⟨lim.keeps x.toInCall.keep,codeAny_func ?_⟩;obtain ⟨t,ht,hq⟩:=hbody A outer s H vs Q E (hr.deeper _) hsp;have I:Inv (yd CX P w K mg base N me scope f mh A outer s H E) [] (start N vs) H s1:=inv_start S hr.hd e0 hl r x;refine wpAny_mono (ht [] s1 (start N vs) H _ I hq) (λfl s' hs=>?_) λe s' hs=>hs
 have fin:∀ {σ':St} {H':Hp} {v:V} {u:Vl},Inv (yd CX P w K mg base N me scope f mh A outer s H E) [] σ' H' s'->RelV v u->Q v H'->CE outer P w H s Q u s' :=
  λ{σ' H' v u} J rv q=>⟨v,H',J.os,J.bare,J.base,J.hok,rv,q⟩
 cases fl with
 | ret u =>
  obtain ⟨v,σ',H',J,rv,q⟩:=hs;exact fin J rv q
 | next =>
  obtain ⟨σ',H',J,q⟩:=hs;exact fin (v:=V.non) (u:=Value.none) J rfl q
 | brk =>
  obtain ⟨_,_,_,q⟩:=hs;exact False.elim q
 | cont =>
  obtain ⟨_,_,_,q⟩:=hs;exact False.elim q
section
variable {X:Cx} {x:Str} {p pos:Pos} {e:Expr} {es:Jd} {t:TA} {id T:String} {r:Jj->Hp->VK->Prop}
def tCB (r:Jj->Hp->VK->Prop) (t:TA):TE:=λσ H Q=>t σ H λvs H1=>r vs H1 Q
def zp (hc:Yk X (.builtin id) r) (hg:Gl X x) (hm:X.mg x=none) (hv:bootBuiltins x=some (.builtin id)) (ha:PA X (e::es) t) (hn:x≠"__name__":=by decide) (hdb:(x == ("__debug__":Str))=false:=by decide)
  (he:starEach (e::es) X.env=(false,eval e X.env)::starEach es X.env:=by rfl) (hpl:(backTo pos (starEach es X.env)).any (·.1)=false:=by rfl):PE X (.Call (.Name x p) (e::es) [] pos) (tCB r t):=by
 intro l8 s σ H Q I h;refine wpAny_Call_Name_kw (Yb I hg hm hv ?_ hn hdb);exact PyProof.Rows.callWith_builtin1 (thn (ha pos l8 s σ H _ I h) λus s1 ⟨vs,H1,I1,r1,q1⟩=>hc l8 s1 σ H1 vs us Q I1 r1 q1) he hpl
def xh (hc:Yk X (.type T) r) (hg:Gl X x) (hm:X.mg x=none) (hv:bootBuiltins x=some (.type T)) (ha:PA X (e::es) t) (hn:x≠"__name__":=by decide) (hdb:(x == ("__debug__":Str))=false:=by decide)
  (he:starEach (e::es) X.env=(false,eval e X.env)::starEach es X.env:=by rfl) (hpl:(backTo pos (starEach es X.env)).any (·.1)=false:=by rfl):PE X (.Call (.Name x p) (e::es) [] pos) (tCB r t):=by
 intro l8 s σ H Q I h;refine wpAny_Call_Name_kw (Yb I hg hm hv ?_ hn hdb);exact PyProof.Rows.callWith_type1 (thn (ha pos l8 s σ H _ I h) λus s1 ⟨vs,H1,I1,r1,q1⟩=>hc l8 s1 σ H1 vs us Q I1 r1 q1) he hpl
end
end L2
namespace HT
open PySem PyProof.Rows
section
open PySem.SeqAt
open PySem.AutoSeq1 (wpAny_loadPart')
open PySem.MeetsSeq PySem.MeetsSeq2 PySem.MeetsSeq3
end
section
variable {prog:Program} {w:World} {A:Around} {E:J5} {s:Sh}
def sIx (n d:Nat):Option Int->Nat
 | none=>d
 | some v=>if v<0 then (v+(n:Int)).toNat else min v.toNat n
def sIx_none (n d:Nat):sIx n d none=d:=rfl
end
end HT
namespace L2
open PySem PySem.Spec PyProof.Rows
abbrev TO:=St->Hp->(Option Int->Hp->Prop)->Prop
def PO (X:Cx) (e:Option Expr) (t:TO):Prop :=
 ∀ (l8:J7) (s:Sh) (σ:St) (H:Hp) (Q:Option Int->Hp->Prop),Inv X l8 σ H s->t σ H Q ->
  wpAny (model X.prog X.w) X.A (evalPart e X.env) (λu s'=>∃ o H',Inv X l8 σ H' s'/\IsPart u o/\Q o H') X.xe s
def tNoPart:TO:=λ_ H Q=>Q none H
inductive tPart_S (Q:(Option Int->Hp->Prop)) (x:V) (H1:Hp):Prop
 | mk (i:_) (_:x=.int i) (_:Q (some i) H1)
def tPart (t:TE):TO:=λσ H Q=>t σ H λx H1=>tPart_S Q x H1
section
variable {X:Cx} {e:Expr} {te:TE} {lo hi:Option Expr} {tl th:TO} {pos p2:Pos}
def po_none:PO X none tNoPart:=by
 intro l8 s σ H Q I h;rw [evalPart_none];exact q0y ⟨none,H,I,.none,h⟩
def zco (h:PE X e te):PO X (some e) (tPart te):=by
 intro l8 s σ H Q I hw;rw [evalPart_some];refine thn (h l8 s σ H _ I hw) λu s1 ⟨x,H1,I1,r1,q1⟩=>?_;obtain ⟨i,rfl,q⟩:=q1;obtain ⟨t,rfl⟩:=r1;exact ⟨some i,H1,I1,.int i t,q⟩
def SlR (X:Cx) (r:V->Option Int->Option Int->Hp->VK->Prop):Prop :=
 ∀ (l8:J7) (s:Sh) (σ:St) (H:Hp) (x:V) (v vl vu:Vl) (lo hi:Option Int) (sl:Ad) (Q:VK),Inv X l8 σ H s->RelV x v->s.heap.IsSliceOf sl vl vu .none->IsPart vl lo->IsPart vu hi->r x lo hi H Q ->
  ∃ T id,typeLookup (.type T) "__getitem__"=pure (some (.builtin id))/\s.TypeIs v T/\wpAny (model X.prog X.w) X.A (getItem v (.ref sl)) (EP X l8 σ Q) X.xe s
def tSl (r:V->Option Int->Option Int->Hp->VK->Prop) (te:TE) (tl th:TO):TE:=λσ H Q=>te σ H λx H1=>tl σ H1 λl H2=>th σ H2 λu H3=>r x l u H3 Q
def zdr {r:V->Option Int->Option Int->Hp->VK->Prop} (hr:SlR X r) (he:PE X e te) (hl:PO X lo tl) (hu:PO X hi th):PE X (.Subscript e (.Slice lo hi none p2) pos) (tSl r te tl th):=by
 intro l8 s σ H Q I h;refine Subscript_ (thn (he l8 s σ H _ I h) λv s1 ⟨x,H1,I1,r1,q1⟩=>?_);refine wpAny_Slice (thn (hl l8 s1 σ H1 _ I1 q1) λvl s2 ⟨l,H2,I2,pl,q2⟩=>thn (hu l8 s2 σ H2 _ I2 q2) λvu s3 ⟨u,H3,I3,pu,q3⟩=>?_);rw [evalPart_none];refine q0y ?_;have I4:Inv X l8 σ H3 { s3 with heap:=s3.heap.push { cls:=.type "slice",data:=.fields #[vl,vu,.none] } }:=I3.kept (t':=s3.toks) λb ob q=>Heap.get?_push_of_some _ q;obtain ⟨T,id,hT,ht,hg⟩:=hr l8 { s3 with heap:=s3.heap.push { cls:=.type "slice",data:=.fields #[vl,vu,.none] } } σ H3 x v vl vu l u s3.heap.objs.size Q I4 r1 (Heap.IsSliceOf.new ..) pl pu q3;show wpAny (model X.prog X.w) X.A (subscriptTail e (.Slice lo hi none p2) v (.ref s3.heap.objs.size)) (EP X l8 σ Q) X.xe { s3 with heap:=s3.heap.push { cls:=.type "slice",data:=.fields #[vl,vu,.none] } };exact tail_any (ops:=[.ref s3.heap.objs.size,v]) ht hT hg (by with_unfolding_all rfl)
def cutV (xs:Jj) (lo hi:Option Int):Jj:=(xs.drop (HT.sIx xs.length 0 lo)).take (HT.sIx xs.length xs.length hi-HT.sIx xs.length 0 lo)
def zeh (xs:Jj) (lo hi:Option Int):(cutV xs lo hi).length<=xs.length:=by
 unfold cutV;rw [List.length_take,List.length_drop];omega
end
def ixN (n:Nat) (i:Int):Option Nat:=if 0<=i then (if i<n then some i.toNat else none) else if -(n:Int)<=i then some (i+n).toNat else none
def atI {α:Type} (xs:List α) (i:Int):Option α:=(ixN xs.length i).bind λj=>xs[j]?
def ixN_seq {n:Nat} {i:Int} {j:Nat} (h:ixN n i=some j):seqIndex? i n=some j/\j<n/\-(n:Int)<=i/\i<n:=by
 unfold ixN at h;by_cases h0:0<=i
 ·rw [if_pos h0] at h
  by_cases h1:i<n
  ·rw [if_pos h1] at h
   have e:i.toNat=j:=Option.some.inj h;exact ⟨by rw [seqIndex_of h0 h1,e],by omega,by omega,h1⟩
  ·rw [if_neg h1] at h;cases h
 ·rw [if_neg h0] at h
  by_cases h1:-(n:Int)<=i
  ·rw [if_pos h1] at h
   have e:(i+n).toNat=j:=Option.some.inj h;exact ⟨by rw [seqIndex_neg (by omega) h1,e],by omega,h1,by omega⟩
  ·rw [if_neg h1] at h;cases h
def zc5 {α:Type} {xs:List α} {i:Int} {v:α} (h:atI xs i=some v):∃ j,seqIndex? i xs.length=some j/\xs[j]?=some v/\j<xs.length/\-(xs.length:Int)<=i/\i<xs.length:=by
 unfold atI at h
 cases e:ixN xs.length i with
 | none=>rw [e] at h;cases h
 | some j =>
  rw [e] at h;obtain ⟨h1,h2,h3,h4⟩:=ixN_seq e;exact ⟨j,h1,h,h2,h3,h4⟩
def zH {α:Type} {xs:List α} {j:Nat} {v:α} (h:xs[j]?=some v):atI xs (j:Int)=some v:=by
 have hj:j<xs.length:=(List.getElem?_eq_some_iff.mp h).1
 have e:ixN xs.length (j:Int)=some j:=by
  unfold ixN;rw [if_pos (by omega),if_pos (by omega)];simp
 unfold atI;rw [e];exact h
def atI_last {α:Type} (xs:List α) (v:α):atI (xs++[v]) (-1)=some v:=by
 have hl:(xs++[v]).length=xs.length+1:=by simp
 have e:ixN (xs++[v]).length (-1)=some xs.length:=by
  unfold ixN;rw [hl,if_neg (by decide),if_pos (by omega)];congr 1;omega
 unfold atI;rw [e];show (xs++[v])[xs.length]?=some v;simp
def PlainIx (b:Expr):Prop:=∀ o i,subscripted b false o i=operate [o,i] (getItem o i)
def IxR (X:Cx) (r:R2):Prop :=
 ∀ (value slice:Expr) (l8:J7) (s:Sh) (σ:St) (H:Hp) (x y:V) (v u:Vl) (Q:VK),Inv X l8 σ H s->RelV x v->RelV y u->r x y H Q ->
  subscripted slice false v u=operate [v,u] (getItem v u)->wpAny (model X.prog X.w) X.A (subscriptTail value slice v u) (EP X l8 σ Q) X.xe s
def MtR (X:Cx) (id:String) (r:V->Jj->Hp->VK->Prop):Prop :=
 ∀ (l8:J7) (s:Sh) (σ:St) (H:Hp) (x:V) (xs:Jj) (v:Vl) (us:J8) (Q:VK),Inv X l8 σ H s->RelV x v->Vals xs us->r x xs H Q ->
  wpAny (model X.prog X.w) X.A (call (.builtin id) (v::us)) (EP X l8 σ Q) X.xe s
section
variable {X:Cx} {a b:Expr} {ta tb:TE} {pos:Pos}
def zB {r:R2} (hr:IxR X r) (ha:PE X a ta) (hb:PE X b tb) (hs:PlainIx b):PE X (.Subscript a b pos) (tOp r ta tb):=by
 intro l8 s σ H Q I h;exact Subscript_ (binT ha hb I h λv u s2 x y H2 I2 rx ry q=>hr a b l8 s2 σ H2 x y v u Q I2 rx ry q (hs _ _))
inductive rIxL (K:Fg) (x y:V) (H:Hp) (Q:VK):Prop
 | mk (p xs:_) (i v:_) (_:x=.ref p) (_:y=.int i) (_:SqL K H p xs) (_:atI xs i=some v) (_:Q v H)
inductive rIxT (K:Fg) (x y:V) (H:Hp) (Q:VK):Prop
 | mk (p xs:_) (i v:_) (_:x=.ref p) (_:y=.int i) (_:SqT K H p xs) (_:atI xs i=some v) (_:Q v H)
inductive rIxS (x y:V) (H:Hp) (Q:VK):Prop
 | mk (z i c:_) (_:x=.str z) (_:y=.int i) (_:z.length<=sizeLine) (_:atI z.cps.toList i=some c) (_:Q (.str ⟨#[c]⟩) H)
def z6:IxR X (rIxL X.K):=by
 intro value slice l8 s σ H x y v u Q I rx ry h hs;obtain ⟨p,xs,i,z,rfl,rfl,hq,he,q⟩:=h;cases rx;obtain ⟨t,rfl⟩:=ry;obtain ⟨its,r,pl,hz⟩:=I.list hq;obtain ⟨j,h1,h2,h3,h4,h5⟩:=zc5 he;obtain ⟨w,ew,rw'⟩:=r.get h2;have hl:=r.length;have hn:=zar;have fin:EP X l8 σ Q w s:=⟨z,H,I,rw',q⟩;by_cases h0:0<=i
 ·have hj:i.toNat=j:=by
   rw [seqIndex_of h0 h5] at h1;exact Option.some.inj h1
  exact item_listR pl.isList h0 (by omega) (by rw [hj];simpa using ew) fin hs
 ·have hj:(i+(its.toArray.size:Int)).toNat=j:=by
   rw [seqIndex_neg (by omega) h4] at h1;rw [List.size_toArray,← hl];exact Option.some.inj h1
  exact subscriptTail_builtinR (x:=w) pl.isList.typeIs slot_list_getitem.lookup
   (wpAny_getItem_list_neg (Q:=λr s'=>r=w/\EP X l8 σ Q r s') pl.isList (by omega) (by rw [List.size_toArray] <;> omega) (by omega) (by rw [hj];simpa using ew) ⟨rfl,fin⟩) hs
def zI:IxR X (rIxT X.K):=by
 intro value slice l8 s σ H x y v u Q I rx ry h hs;obtain ⟨p,xs,i,z,rfl,rfl,hq,he,q⟩:=h;cases rx;obtain ⟨t,rfl⟩:=ry;obtain ⟨its,r,pl,hz⟩:=I.tuple hq;obtain ⟨j,h1,h2,h3,h4,h5⟩:=zc5 he;obtain ⟨w,ew,rw'⟩:=r.get h2;have hl:=r.length;have hn:=zar;have fin:EP X l8 σ Q w s:=⟨z,H,I,rw',q⟩;exact subscriptTail_builtinR (x:=w) pl.typeIs slot_tuple_getitem.lookup
  (getItem_tuple (j:=j) (Q:=λr s'=>r=w/\EP X l8 σ Q r s') pl (by omega) (by omega) (by rw [List.size_toArray,← hl];exact h1) (by simpa using ew) ⟨rfl,fin⟩) hs
def ix_str:IxR X rIxS:=by
 intro value slice l8 s σ H x y v u Q I rx ry h hs;obtain ⟨z,i,c,rfl,rfl,hz,he,q⟩:=h;obtain ⟨t,rfl⟩:=rx;obtain ⟨t',rfl⟩:=ry;obtain ⟨j,h1,h2,h3,h4,h5⟩:=zc5 he;have hl:z.cps.toList.length=z.length:=by simp [Str.length]
 rw [hl] at h1 h4 h5;have hn:=zar
 exact tail_any (typeIs_str s z t) slot_str_getitem.lookup (getItem_str (c:=c) (by
  have e1:decide (i < -(2 ^ 63:Int))=false:=decide_eq_false (by omega);have e2:decide (i ≥ 2 ^ 63)=false:=decide_eq_false (by omega);rw [e1,e2,Bool.or_false]) (by rw [h1];simpa using h2) ⟨.str ⟨#[c]⟩,H,I.tok _,⟨_,rfl⟩,q⟩) hs
def zfb (its:J8) (n j:Nat) (u:Vl):Obj.mapSeq (·.setIfInBounds j u) { cls:=.type "list",data:=.seq its.toArray n }={ cls:=.type "list",data:=.seq (its.set j u).toArray n }:=by
 simp [Obj.mapSeq]
def Inv.lst {l8:J7} {σ:St} {H:Hp} {s:Sh} {p:Ad} {xs:Jj} (I:Inv X l8 σ H s) (h:H p=some (.lst xs)) :
  ∃ (its:J8) (n:Nat),Vals xs its/\s.heap.get? p=some { cls:=.type "list",data:=.seq its.toArray n }/\xs.length<=sizeLine:=by
 obtain ⟨z,its,n,r,e⟩:=I.hok p _ h;exact ⟨its,n,r,e,z⟩
def Inv.lstUpd {l8:J7} {σ:St} {H:Hp} {s:Sh} {p:Ad} {xs ys:Jj} {its its':J8} {n n':Nat} {f:Obj->Obj} (I:Inv X l8 σ H s) (h:H p=some (.lst xs))
  (ho:s.heap.get? p=some { cls:=.type "list",data:=.seq its.toArray n }) (hf:f { cls:=.type "list",data:=.seq its.toArray n }={ cls:=.type "list",data:=.seq its'.toArray n' }) (r:Vals ys its') (hz:ys.length<=sizeLine) (t:Nat) :
  Inv X l8 σ (upd H p (.lst ys)) { s with heap:=s.heap.update p f,toks:=t }:=by
 have e:(s.heap.update p f).get? p=some { cls:=.type "list",data:=.seq its'.toArray n' }:=by
  rw [Heap.get?_update_self f ho (by rw [hf] <;> rfl),hf]
 refine I.write (x:=p) (e:=p) (by rw [h];trivial) (.inl rfl) (λb u hb q=>(Heap.get?_update_other _ _ (Ne.symm hb)).trans q) ⟨_,e⟩ ?_;exact ⟨hz,its',n',r,e⟩
inductive rSetL (o i v:V) (H:Hp) (Q:(Hp->Prop)):Prop
 | mk (p xs:_) (k j:_) (_:o=.ref p) (_:i=.int k) (_:H p=some (.lst xs)) (_:ixN xs.length k=some j) (_:Q (upd H p (.lst (xs.set j v))))
def Yo:PSet X rSetL:=by
 intro l8 s σ H o i v ov iv u Q I ro ri rv h;obtain ⟨p,xs,k,j,rfl,rfl,hp,hj,q⟩:=h;cases ro;obtain ⟨t,rfl⟩:=ri;obtain ⟨its,n,r,ho,hz⟩:=I.lst hp;obtain ⟨h1,h2,h3,h4⟩:=ixN_seq hj;have hl:=r.length;have hn:=zar
 have I':Inv X l8 σ (upd H p (.lst (xs.set j v))) { s with heap:=s.heap.update p (Obj.mapSeq (·.setIfInBounds j u)) } :=
  I.lstUpd hp ho (zfb its n j u) (r.set rv j) (by rw [List.length_set];exact hz) s.toks
 by_cases h0:0<=k
 ·have hk:k.toNat=j:=by
   rw [seqIndex_of h0 h4] at h1;exact Option.some.inj h1
  exact PySem.W.ki_setAt ho h0 (by omega) (by rw [List.size_toArray,← hl];exact h4) (by rw [hk];exact ⟨_,I',q⟩)
 ·have hk:(k+(its.toArray.size:Int)).toNat=j:=by
   rw [seqIndex_neg (by omega) h3] at h1;rw [List.size_toArray,← hl];exact Option.some.inj h1
  exact PySem.W.ki_setBack ho (by omega) (by rw [List.size_toArray,← hl];exact h3) (by omega) (by rw [hk];exact ⟨_,I',q⟩)
def zb8 (lo hi:Option Int) (n:Nat):(sliceBounds lo hi none n).1=((HT.sIx n 0 lo:Nat):Int)/\(sliceBounds lo hi none n).2.1=((HT.sIx n n hi:Nat):Int)/\(sliceBounds lo hi none n).2.2=1:=by
 refine ⟨?_,?_,rfl⟩
 ·cases lo with
  | none=>simp [sliceBounds,HT.sIx]
  | some i =>
   simp only [sliceBounds,HT.sIx,Option.getD_none,show (1:Int) > 0 by decide,if_true];by_cases h:i<0
   ·simp only [h,if_true] <;> omega
   ·simp only [h,if_false] <;> omega
 ·cases hi with
  | none=>simp [sliceBounds,HT.sIx]
  | some i =>
   simp only [sliceBounds,HT.sIx,Option.getD_none,show (1:Int) > 0 by decide,if_true];by_cases h:i<0
   ·simp only [h,if_true] <;> omega
   ·simp only [h,if_false] <;> omega
def zbd (its:J8) (lo hi:Option Int):slicePick its.toArray lo hi none=((its.drop (HT.sIx its.length 0 lo)).take (HT.sIx its.length its.length hi-HT.sIx its.length 0 lo)).toArray:=by
 obtain ⟨h1,h2,h3⟩:=zb8 lo hi its.toArray.size;unfold slicePick;rw [h1,h2,h3];simp only [sliceRange_one,pick_run,List.size_toArray] <;> rfl
inductive rSlL (K:Fg) (x:V) (lo hi:Option Int) (H:Hp) (Q:VK):Prop
 | mk (a xs:_) (_:x=.ref a) (_:SqL K H a xs) (_:∀ p,H p=none->Q (.ref p) (upd H p (.lst (cutV xs lo hi))))
def sl_list:SlR X (rSlL X.K):=by
 intro l8 s σ H x v vl vu lo hi sl Q I rx hs pl pu h;obtain ⟨a,xs,rfl,hx,q⟩:=h;cases rx;obtain ⟨its,r,ht,hz⟩:=I.list hx;have hlen:=r.length;refine ⟨"list",_,slot_list_getitem.lookup,ht.isList.typeIs,?_⟩;refine wpAny_getItem_list_slice ht.isList hs pl pu .none (by simp) ?_ (by rw [List.size_toArray] <;> omega);rw [zbd,← hlen];refine ⟨.ref s.heap.objs.size,_,I.laid (t':=s.toks) (o:=.lst (cutV xs lo hi)) (λb ob q=>Heap.get?_push_of_some _ q) (Nat.le_refl _) ?_,rfl,q _ (I.hok.fresh (Nat.le_refl _))⟩;exact ⟨Nat.le_trans (zeh xs lo hi) hz,_,0,(r.drop (HT.sIx xs.length 0 lo)).take (HT.sIx xs.length xs.length hi-HT.sIx xs.length 0 lo),Heap.get?_push_size _ rfl⟩
def YL:V->Bool
 | .non=>true
 | .bl _=>true
 | .int _=>true
 | .str _=>true
 | _=>false
def eqV:V->V->Bool
 | .non,.non=>true
 | .bl a,.bl b=>a == b
 | .bl a,.int b=>(if a then 1 else 0) == b
 | .int a,.bl b=>a == (if b then 1 else 0)
 | .int a,.int b=>a == b
 | .str a,.str b=>a == b
 | _,_=>false
def eqAt_V {A:Around} {s:Sh} {y x:V} {u v:Vl} (ry:RelV y u) (rx:RelV x v) (fy:YL y=true) (fx:YL x=true):SeqAt.EqAt A s u v (eqV y x):=by
 cases y with
 | non =>
  cases ry
  cases x with
  | non=>cases rx;exact SeqAt.EqAt.same _
  | bl b=>cases rx;exact SeqAt.EqAt.none_bool b
  | int b=>obtain ⟨t,rfl⟩:=rx;exact SeqAt.EqAt.none_int b t
  | str b=>obtain ⟨t,rfl⟩:=rx;exact SeqAt.EqAt.none_str b t
  | _=>exact absurd (show false=true from fx) q7x
 | bl a =>
  cases ry
  cases x with
  | non=>cases rx;exact SeqAt.EqAt.bool_none a
  | bl b=>cases rx;exact SeqAt.EqAt.bool_bool a b
  | int b=>obtain ⟨t,rfl⟩:=rx;exact SeqAt.EqAt.bool_int a b t
  | str b=>obtain ⟨t,rfl⟩:=rx;exact SeqAt.EqAt.bool_str a b t
  | _=>exact absurd (show false=true from fx) q7x
 | int a =>
  obtain ⟨t',rfl⟩:=ry
  cases x with
  | non=>cases rx;exact SeqAt.EqAt.int_none a t'
  | bl b=>cases rx;exact SeqAt.EqAt.int_bool a t' b
  | int b=>obtain ⟨t,rfl⟩:=rx;exact SeqAt.EqAt.int_int a t' b t
  | str b=>obtain ⟨t,rfl⟩:=rx;exact SeqAt.EqAt.int_str a t' b t
  | _=>exact absurd (show false=true from fx) q7x
 | str a =>
  obtain ⟨t',rfl⟩:=ry
  cases x with
  | non=>cases rx;exact SeqAt.EqAt.str_none a t'
  | bl b=>cases rx;exact SeqAt.EqAt.str_bool a t' b
  | int b=>obtain ⟨t,rfl⟩:=rx;exact SeqAt.EqAt.str_int a t' b t
  | str b=>obtain ⟨t,rfl⟩:=rx;exact SeqAt.EqAt.str_str a t' b t
  | _=>exact absurd (show false=true from fx) q7x
 | _=>exact absurd (show false=true from fy) q7x
def eqU (x:V) (u:Vl):Bool:=match u with
 | .none=>eqV .non x
 | .bool b=>eqV (.bl b) x
 | .int i _=>eqV (.int i) x
 | .str z _=>eqV (.str z) x
 | _=>false
def eqU_of {x y:V} {u:Vl} (r:RelV y u) (f:YL y=true):eqU x u=eqV y x:=by
 cases y with
 | non=>cases r;rfl
 | bl b=>cases r;rfl
 | int i=>obtain ⟨t,rfl⟩:=r;rfl
 | str z=>obtain ⟨t,rfl⟩:=r;rfl
 | _=>exact absurd (show false=true from f) q7x
theorem zc6 {x:V}:∀ {xs:Jj} {us:J8},Vals xs us->xs.all YL=true->us.any (eqU x)=xs.any λy=>eqV y x
 | _,_,.nil,_=>rfl
 | y::xs,u::us,.cons r t,f=>by
  rw [List.all_cons,Bool.and_eq_true] at f;rw [List.any_cons,List.any_cons,eqU_of r f.1,zc6 t f.2]
theorem zaq {A:Around} {s:Sh} {x:V} {v:Vl} (rx:RelV x v) (fx:YL x=true):∀ {xs:Jj} {us:J8},Vals xs us->xs.all YL=true->∀ u∈us,SeqAt.EqAt A s u v (eqU x u)
 | _,_,.nil,_=>λu hu=>by cases hu
 | y::xs,u::us,.cons r t,f=>λu' hu=>by
  rw [List.all_cons,Bool.and_eq_true] at f;rcases List.mem_cons.mp hu with rfl | hu
  ·rw [eqU_of r f.1];exact eqAt_V r rx f.1 fx
  ·exact zaq rx fx t f.2 u' hu
def inV (x:V) (xs:Jj):Bool:=xs.any λy=>eqV y x
inductive rIn (K:Fg) (neg:Bool) (x y:V) (H:Hp) (Q:VK):Prop
 | mk (p xs:_) (_:y=.ref p) (_:(SqL K H p xs∨SqT K H p xs)) (_:YL x=true) (_:xs.all YL=true) (_:Q (.bl (if neg then !inV x xs else inV x xs)) H)
def zbq:OpR X (compareOp .In) (rIn X.K false):=by
 intro l8 s σ H x y v u Q I rx ry h;obtain ⟨p,xs,rfl,hq,fx,fs,q⟩:=h;cases ry;rcases hq with hq | hq
 ·obtain ⟨its,r,pl,hz⟩:=I.list hq
  refine SeqAt.in_listAt (eqU x) pl.isList (λw hw=>zaq rx fx r fs w (by simpa using hw)) ⟨.bl _,H,I,rfl,?_⟩;rw [show its.toArray.any (eqU x)=its.any (eqU x) by simp,zc6 r fs];exact q
 ·obtain ⟨its,r,pl,hz⟩:=I.tuple hq
  refine SeqAt.in_tupleAt (eqU x) pl (λw hw=>zaq rx fx r fs w (by simpa using hw)) ⟨.bl _,H,I,rfl,?_⟩;rw [show its.toArray.any (eqU x)=its.any (eqU x) by simp,zc6 r fs];exact q
def zD:Yk X (.builtin "len") (λxs H Q=>∃ p ys,xs=[.ref p]/\(SqL X.K H p ys∨SqT X.K H p ys)/\Q (.int ys.length) H):=by
 intro l8 s σ H xs us Q I r h;obtain ⟨p,ys,rfl,hq,q⟩:=h;obtain ⟨u,rfl,rx⟩:=vals1 r;cases rx;have hn:=zar;rcases hq with hq | hq
 ·obtain ⟨its,r',pl,hz⟩:=I.list hq
  have hlen:=r'.length;exact Calls.call_len_list pl.isList (by simp only [List.size_toArray] <;> omega) ⟨.int ys.length,H,I.tok _,⟨s.toks+1,by rw [List.size_toArray,hlen]⟩,q⟩
 ·obtain ⟨its,r',pl,hz⟩:=I.tuple hq
  have hlen:=r'.length;exact len_tuple pl (by simp only [List.size_toArray] <;> omega) ⟨.int ys.length,H,I.tok _,⟨s.toks+1,by rw [List.size_toArray,hlen]⟩,q⟩
def y6:Yk X (.type "list") (λxs H Q=>∃ p ys,xs=[.ref p]/\(SqL X.K H p ys∨SqT X.K H p ys)/\∀ l,H l=none->Q (.ref l) (upd H l (.lst ys))):=by
 intro l8 s σ H xs us Q I r h;obtain ⟨p,ys,rfl,hq,q⟩:=h;obtain ⟨u,rfl,rx⟩:=vals1 r;cases rx
 have fin:∀ (its:J8),Vals ys its->ys.length<=sizeLine->∀ (h':Heap) (c':Nat),(∀ b o',s.heap.get? b=some o'->h'.get? b=some o') ->
   h'.get? s.heap.objs.size=some { cls:=.type "list",dict:=none,data:=.seq its.toArray c',slots:=#[] }->EP X l8 σ Q (.ref s.heap.objs.size) { s with heap:=h' }:=λits r' hz h' c' kp e =>
  ⟨.ref s.heap.objs.size,_,I.laid (t':=s.toks) kp (Nat.le_refl _) (show ObjOk X.prog X.w _ h' _ (.lst ys) from ⟨hz,its,c',r',e⟩),rfl,q _ (I.hok.fresh (Nat.le_refl _))⟩
 rcases hq with hq | hq
 ·obtain ⟨its,r',pl,hz⟩:=I.list hq
  have hlen:=r'.length;obtain ⟨o,ho,hc,n,hd⟩:=pl.isList;exact call_list_seq p (.inl rfl) ho hc hd (λh' c' kp e=>fin its r' hz h' c' kp e) (by simp only [List.size_toArray] <;> omega)
 ·obtain ⟨its,r',pl,hz⟩:=I.tuple hq
  have hlen:=r'.length;obtain ⟨o,ho,hc,n,hd⟩:=pl;exact call_list_seq p (.inr rfl) ho hc hd (λh' c' kp e=>fin its r' hz h' c' kp e) (by simp only [List.size_toArray] <;> omega)
def tyV (K:Fg) (T:String) (x:V) (H:Hp):Prop:=match x with
 | .str _=>T="str"
 | .int _=>T="int"
 | .ref p=>(T="list"/\∃ xs,SqL K H p xs)∨(T="tuple"/\∃ o,K.lookup p=some o/\o.cls=.type "tuple"/\o.dict=none) ∨
   (T="dict"/\((∃ md,H p=some (.dK md))∨∃ md,H p=some (.dT md)))∨(T="set"/\∃ S n,H p=some (.set S n))
 | _=>False
def tyV_is {l8:J7} {σ:St} {H:Hp} {s:Sh} {T:String} {x:V} {v:Vl} (I:Inv X l8 σ H s) (r:RelV x v) (ty:tyV X.K T x H) :
  s.TypeIs v T/\∀ a,v=.ref a->∃ ob,s.heap.get? a=some ob/\ob.dict=none:=by
 cases x with
 | str z =>
  obtain ⟨t,rfl⟩:=r;cases (show T="str" from ty);exact ⟨typeIs_str s z t,λ_ e=>nomatch e⟩
 | int i =>
  obtain ⟨t,rfl⟩:=r;cases (show T="int" from ty);exact ⟨typeIs_int s i t,λ_ e=>nomatch e⟩
 | ref p =>
  cases r;rcases ty with ⟨rfl,xs,hq⟩ | ⟨rfl,o,hk,hc,hd⟩ | ⟨rfl,hk⟩ | ⟨rfl,S,n,hk⟩
  ·obtain ⟨its,_,pl,_⟩:=I.list hq
   refine ⟨pl.isList.typeIs,λa e=>?_⟩;cases e;obtain ⟨o,n,e,c,hd,_⟩:=pl;exact ⟨o,e,hd⟩
  ·refine ⟨⟨o,I.kIn p o hk,hc⟩,λa e=>?_⟩
   cases e;exact ⟨o,I.kIn _ o hk,hd⟩
  ·have z:∃ o,s.heap.get? p=some o/\o.ExactDict:=by
    rcases hk with ⟨md,hk⟩ | ⟨md,hk⟩
    ·obtain ⟨_,_,_,_,o,_,_,e,ex,_⟩:=I.hok p _ hk
     exact ⟨o,e,ex⟩
    ·obtain ⟨_,_,_,_,o,_,_,e,ex,_⟩:=I.hok p _ hk
     exact ⟨o,e,ex⟩
   obtain ⟨o,e,ex⟩:=z;refine ⟨⟨o,e,ex.1⟩,λa e2=>?_⟩;cases e2;exact ⟨o,e,ex.2.1⟩
  ·obtain ⟨o,_,_,_,e,ex,_⟩:=I.hok p _ hk
   refine ⟨⟨o,e,ex.1⟩,λa e2=>?_⟩;cases e2;exact ⟨o,e,ex.2.1⟩
 | _=>exact False.elim ty
def tBM (K:Fg) (T:String) (r:V->Jj->Hp->VK->Prop) (to:TE) (t:TA):TE:=λσ H Q=>to σ H λx H1=>tyV K T x H1/\t σ H1 λxs H2=>r x xs H2 Q
variable {o e:Expr} {es:Jd} {to:TE} {t:TA} {name:Str} {apos cpos:Pos} {T id:String} {r:V->Jj->Hp->VK->Prop}
def Ys (pa:PlainAttrs T) (slot:Slot T name id) (hty:typeOf (.builtin id)=pure (.type "method_descriptor")) (hm:MtR X id r) (ho:PE X o to) (ha:PA X (e::es) t)
  (hbase:attributeBase o name X.env (eval o X.env)=eval o X.env:=by rfl)
  (hfew:((backTo cpos (starEach (e::es) X.env)).all (λx=>!x.1) && (backToKw cpos (keywordEach [] X.env)).all (λx=>x.1.isSome)
   && decide ((e::es).length+([]:List Keyword).length+(if ([]:List Keyword).isEmpty then 0 else 1)<30))=true:=by rfl)
  (hline:(apos.endLine == cpos.line)=true:=by rfl) (hs:starEach (e::es) X.env=(false,eval e X.env)::starEach es X.env:=by rfl) (hplain:(backTo cpos (starEach es X.env)).any (·.1)=false:=by rfl) :
  PE X (.Call (.Attribute o name apos) (e::es) [] cpos) (tBM X.K T r to t):=by
 intro l8 s σ H Q I h;refine wpAny_Call_method_late hbase hfew hline rfl (thn (ho l8 s σ H _ I h) λv s1 ⟨x,H1,I1,r1,ty,q1⟩=>?_);obtain ⟨h1,h2⟩:=tyV_is I1 r1 ty;refine ⟨T,id,pa,slot,hty,h1,h2,?_⟩;have hA:=ha cpos l8 s1 σ H1 _ I1 q1;rw [hs] at hA ⊢;refine Calls.callWith_builtin (by show (false || (backTo cpos (starEach es X.env)).any (·.1))=false;rw [hplain] <;> rfl) (Calls.evalArgs_plain ?_);exact thn hA λus s2 ⟨vs,H2,I2,r2,q2⟩=>hm l8 s2 σ H2 x vs v us Q I2 r1 r2 q2
/- xs.append(e),list.index on a module's tuple .. are MtR facts of 06m -/
end
def MtM (X:Cx) (id:String) (r:V->Jj->Hp->VK->Prop):Prop :=
 ∀ (l8:J7) (s:Sh) (σ:St) (H:Hp) (x:V) (xs:Jj) (v:Vl) (us:J8) (Q:VK),Inv X l8 σ H s->RelV x v->Vals xs us->r x xs H Q ->
  wpAny (model X.prog X.w) X.A (call (.builtin id) (v::us)) (EP X l8 σ Q) X.xe s
theorem Vals.one:∀ {x:V} {us:J8},Vals [x] us->∃ u,us=[u]/\RelV x u
 | _,_,.cons r .nil=>⟨_,rfl,r⟩
theorem Vals.rep {xs:Jj} {us:J8} (h:Vals xs us):∀ k:Nat,Vals (List.replicate k xs).flatten (List.replicate k us).flatten
 | 0=>.nil
 | k+1=>by
  rw [List.replicate_succ,List.replicate_succ,List.flatten_cons,List.flatten_cons];exact Vals.append h (Vals.rep h k)
theorem zby (its:J8):∀ (k:Nat) (acc:J8),
  List.foldl (λx1 x2=>x1++x2) acc.toArray (List.replicate k its.toArray)=(acc++(List.replicate k its).flatten).toArray
 | 0,acc=>by simp
 | k+1,acc=>by
  have e:acc.toArray++its.toArray=(acc++its).toArray:=by simp
  have e2:(acc++its)++(List.replicate k its).flatten=acc++(List.replicate (k+1) its).flatten:=by
   rw [List.replicate_succ,List.flatten_cons,List.append_assoc]
  rw [← e2,← zby its k (acc++its),← e,List.replicate_succ,List.foldl_cons]
section
variable {X:Cx} {l8:J7} {σ:St} {H:Hp} {s:Sh} {l b:Ad} {xs ys zs:Jj}
def Inv.lset {its its':J8} {n:Nat} {f:Array Vl->Array Vl} {t':Nat} (I:Inv X l8 σ H s) (hH:H l=some (.lst xs))
  (e:s.heap.get? l=some { cls:=.type "list",data:=.seq its.toArray n }) (hf:f its.toArray=its'.toArray) (hv:Vals ys its') (hz:ys.length<=sizeLine) :
  Inv X l8 σ (upd H l (.lst ys)) { s with heap:=s.heap.update l (Obj.mapSeq f),toks:=t' }:=by
 have q:=PySem.IsL.update e f;rw [hf] at q;refine I.write (x:=l) (e:=l) (by rw [hH];exact trivial) (.inl rfl) (λb' u hb hu=>(Heap.get?_update_other s.heap (Obj.mapSeq f) (Ne.symm hb)).trans hu) ⟨_,q⟩ ?_;exact ⟨hz,its',_,hv,q⟩
def Inv.lnew {its:J8} {t':Nat} (I:Inv X l8 σ H s) (hv:Vals ys its) (hz:ys.length<=sizeLine) :
  Inv X l8 σ (upd H s.heap.objs.size (.lst ys)) { s with heap:=s.heap.push { cls:=.type "list",data:=.seq its.toArray },toks:=t' } :=
 I.laid (λ_ _ q=>Heap.get?_push_of_some _ q) (Nat.le_refl _) ⟨hz,its,0,hv,Heap.get?_push_size _ rfl⟩
def Inv.fresh (I:Inv X l8 σ H s):H s.heap.objs.size=none:=I.hok.fresh (Nat.le_refl _)
def Inv.lstM (I:Inv X l8 σ H s) (hH:H l=some (.lst xs)):xs.length<=sizeLine/\∃ (its:J8) (n:Nat),Vals xs its/\xs.length=its.length/\s.heap.get? l=some { cls:=.type "list",data:=.seq its.toArray n }:=by
 obtain ⟨z,its,n,r,e⟩:=I.hok l _ hH;exact ⟨z,its,n,r,r.length,e⟩
def zd0 {n:Nat} (h:n<=sizeLine):Builtin.List.listTooLong n=false:=by
 unfold Builtin.List.listTooLong;exact decide_eq_false (by omega)
end
section
variable {X:Cx}
inductive rAppend (x:V) (vs:Jj) (H:Hp) (Q:VK):Prop
 | mk (l xs y:_) (_:x=.ref l) (_:vs=[y]) (_:H l=some (.lst xs)) (_:xs.length<sizeLine) (_:Q .non (upd H l (.lst (xs++[y]))))
def yr:MtM X "list.append" rAppend:=by
 intro l8 s σ H x vs v us Q I rx rv h;obtain ⟨l,xs,y,rfl,rfl,hH,hz,q⟩:=h;cases rx;obtain ⟨u,rfl,ru⟩:=rv.one;obtain ⟨z,its,n,r,hl,e⟩:=I.lstM hH;refine call_meets F.slot_list_append ⟨_,e,rfl⟩ F.entry_list_append (F.args_list_append_2 _ _) (PySem.list_append l its.toArray n u (by rw [List.size_toArray];omega)) ⟨e,?_⟩;refine ⟨.non,_,I.lset (its':=its++[u]) hH e (by simp) (r.append (.cons ru .nil)) ?_,rfl,q⟩;rw [Jf,List.length_singleton];omega
inductive rExtend (x:V) (vs:Jj) (H:Hp) (Q:VK):Prop
 | mk (l b:_) (xs zs:_) (_:x=.ref l) (_:vs=[.ref b]) (_:H l=some (.lst xs)) (_:H b=some (.lst zs)) (_:xs.length+zs.length<=sizeLine) (_:Q .non (upd H l (.lst (xs++zs))))
def zbr:MtM X "list.extend" rExtend:=by
 intro l8 s σ H x vs v us Q I rx rv h;obtain ⟨l,b,xs,zs,rfl,rfl,hH,hB,hz,q⟩:=h;cases rx;obtain ⟨u,rfl,ru⟩:=rv.one;cases ru;obtain ⟨z,its,n,r,hl,e⟩:=I.lstM hH;obtain ⟨z2,its2,n2,r2,hl2,e2⟩:=I.lstM hB;have hsz:its.toArray.size+its2.toArray.size<=sizeLine:=by rw [List.size_toArray,List.size_toArray];omega
 have hlong:¬ (!its.toArray.isEmpty && Builtin.List.listTooLong (its.toArray.size+its2.toArray.size))=true:=by
  rw [zd0 hsz,Bool.and_false];exact q7x
 refine call_meets F.slot_list_extend ⟨_,e,rfl⟩ F.entry_list_extend (F.args_list_extend_2 _ _)
  (AutoSeq1.list_extend_list_list_0 l its.toArray n b its2.toArray n2 hlong (by rw [List.size_toArray];omega) (by omega)) ⟨e,e2,?_⟩
 refine ⟨.non,_,I.lset (its':=its++its2) hH e (by simp) (r.append r2) ?_,rfl,q⟩;rw [Jf];omega
inductive rCat (x y:V) (H:Hp) (Q:VK):Prop
 | mk (l b:_) (xs zs:_) (_:x=.ref l) (_:y=.ref b) (_:H l=some (.lst xs)) (_:H b=some (.lst zs)) (_:xs.length+zs.length<=sizeLine) (_:∀ p,H p=none->Q (.ref p) (upd H p (.lst (xs++zs))))
def zcu:OpR X (binaryOp .Add) rCat:=by
 intro l8 s σ H x y v u Q I rx ry h;obtain ⟨l,b,xs,zs,rfl,rfl,hH,hB,hz,q⟩:=h;cases rx;cases ry;obtain ⟨z,its,n,r,hl,e⟩:=I.lstM hH;obtain ⟨z2,its2,n2,r2,hl2,e2⟩:=I.lstM hB;refine PySem.P.add_list e e2 ?_ (by rw [List.size_toArray,List.size_toArray];omega);have ea:its.toArray++its2.toArray=(its++its2).toArray:=by simp
 rw [ea];exact ⟨.ref _,_,I.lnew (t':=s.toks) (r.append r2) (by rw [Jf];omega),rfl,q _ I.fresh⟩
inductive rRep (x y:V) (H:Hp) (Q:VK):Prop
 | mk (l k xs:_) (_:x=.ref l) (_:y=.int k) (_:H l=some (.lst xs)) (_:-(2 ^ 63)<=k) (_:k<2 ^ 63) (_:xs.length*k.toNat<=sizeLine) (_:∀ p,H p=none->Q (.ref p) (upd H p (.lst (List.replicate k.toNat xs).flatten)))
def len_rep {α:Type} (xs:List α) (k:Nat):(List.replicate k xs).flatten.length=k*xs.length:=by
 induction k with
 | zero=>simp
 | succ k ih=>rw [List.replicate_succ,List.flatten_cons,Jf,ih,Nat.succ_mul,Nat.add_comm]
def zct:OpR X (binaryOp .Mult) rRep:=by
 intro l8 s σ H x y v u Q I rx ry h;obtain ⟨l,k,xs,rfl,rfl,hH,h1,h2,hz,q⟩:=h;cases rx;obtain ⟨t,rfl⟩:=ry;obtain ⟨z,its,n,r,hl,e⟩:=I.lstM hH;have hlen:its.toArray.size*k.toNat<=sizeLine:=by rw [List.size_toArray,← hl];exact hz
 have hcap:¬ its.toArray.size*k.toNat > (2 ^ 63-1) / 8:=by
  have:(sizeLine:Nat)<=(2 ^ 63-1) / 8:=by decide
  omega
 have hfit:¬ (!Builtin.List.listFitsIndex k)=true:=by
  rw [fitsIndex_both h1 h2];exact q7x
 have hlong:¬ Builtin.List.listTooLong (its.toArray.size*k.toNat)=true:=by
  rw [zd0 hlen];exact q7x
 have hnew:List.foldl (λx1 x2=>x1++x2) #[] (List.replicate (if its.toArray.isEmpty=true then 0 else k.toNat) its.toArray)=(List.replicate k.toNat its).flatten.toArray:=by
  have f0:∀ m:Nat,List.foldl (λx1 x2=>x1++x2) #[] (List.replicate m its.toArray)=(List.replicate m its).flatten.toArray:=λm=>by
   have:=zby its m [];rw [List.nil_append] at this;exact this
  rw [f0]
  cases its with
  | nil=>simp
  | cons a r'=>rw [if_neg (by simp)]
 refine wpAny_binaryOp_repeat_ref (T:="list") (U:="int") (by decide) ⟨_,e,rfl⟩ (λs'=>typeIs_int s' k t) noFill_list_mul F.fills_int_mul F.slot_int_rmul repeat_list F.slot_int_index.lookup
  (call_meets F.slot_int_rmul (typeIs_int s k t) F.entry_int_rmul (F.args_int_rmul_2 _ _) (int___rmul___int_list k t l its.toArray n)
   ⟨e,rfl,⟨_,e,rfl⟩,call_meets F.slot_list_mul ⟨_,e,rfl⟩ F.entry_list_mul (F.args_list_mul_2 _ _) (AutoListH.list___mul___list_int_3 l its.toArray n k t hfit hcap hlong) ⟨e,?_⟩⟩)
 rw [hnew];exact ⟨.ref _,_,I.lnew (t':=s.toks) (r.rep k.toNat) (by rw [len_rep,Nat.mul_comm];exact hz),rfl,q _ I.fresh⟩
end
section
variable {prog:Program} {w:World} {A:Around} {E:J5} {s:Sh}
set_option maxRecDepth 100000 in
end
section
variable {X:Cx}
end
end L2
namespace Att
open PySem PySem.W PySem.Calls PyProof.Rows
def XL {P:Params} {h:Heap}:∀ (ns:J6) (vs:J8),WellAll P h vs (ns.map WData.int)->IntsAre vs ns:=by
 intro ns
 induction ns with
 | nil =>
  intro vs w;rw [List.map_nil] at w;cases w;exact .nil
 | cons n ns ih =>
  intro vs w;rw [List.map_cons] at w
  cases w with
  | cons a b =>
   cases a;exact .cons _ _ (ih _ b)
def script_of {l:OpenLaw} {n:Nat} (hn:l.most=some n) {P:Params} {h:Heap} {args:List WData} {vals:J8}
  (hpre:l.row.toRowW.claim.pre args=true) (hwl:WellAll P h vals args) :
  ∃ a vs ns,vals=[Value.ref a]/\args=[WData.list (ns.map WData.int)]/\h.get? a=some { cls:=.type "list",data:=.seq vs.toArray }/\IntsAre vs ns/\ns.length<=n:=by
 have hsh:WShape.hasAll [] args [.list .int]=true:=(pre_splitW hpre).1;have hc:l.pre.holds [] { args:=args }=true:=(pre_splitW hpre).2;obtain ⟨d,r,rfl,h1,h2⟩:=hasAllW_cons hsh;obtain rfl:=hasAllW_nil h2;obtain ⟨xs,rfl,h3⟩:=hasW_list h1;obtain ⟨ns,rfl⟩:=items_int h3
 have hlen:ns.length<=n:=by
  unfold OpenLaw.pre at hc
  have h4:(WTm.not (.lt (.lit (.int (n:Int))) (.len (.arg 0)))).holds [] { args:=[.list (ns.map .int)] }=true:=by
   have h4:=(holds_andW hc).1;rw [hn] at h4;exact h4
  have h5:=condW_of h4 (w_not (w_lt w_lit (w_len_list (w_arg rfl))));rw [Je] at h5;refine Nat.le_of_not_lt λq=>?_;have q':(n:Int)<((ns.length:Nat):Int):=by omega
  first
   | (rw [decide_eq_true q'] at h5;exact absurd h5 (by decide))
   | (simp at h5;omega)
 cases hwl with
 | cons w1 w2 =>
  cases w2
  cases w1 with
  | list ho hall=>exact ⟨_,_,ns,rfl,rfl,ho,XL ns _ hall,hlen⟩
def post_true (l:OpenLaw) (args:List WData):l.row.toRowW.claim.post args (.bool true) args=true :=
 postW_of (r:=l.row.toRowW) (X:=(true == true))
  (show WShape.has [] (.bool true) .bool=true by first | rfl | decide | simp [WShape.has,WShape.arms,WShape.armsAll])
  (show (WTm.eq .res (.lit (.bool true))).value [] { args:=args,res:=some (.bool true),after:=args }=some (.bool (true == true)) from w_eq_bool (w_res rfl) w_lit) rfl
def attach_call {l:OpenLaw} {n:Nat} {q:Program} {loose:Jb} {XP:(J0)->Heap->Prop} {YP:World->Heap->Prop} {d:DefRec}
  (hn:l.most=some n) (hdf:d.params.defaults=[])
  (call:∀ (w:World) (s₀ s₁:Sh) (mg mb:J0) (fa:Ad) (o:Obj) (pm cd doc:Vl) (a:Ad) (vs:J8) (ns:J6),
   Ground q loose [] XP w s₀ mg mb s₁.heap->YP w s₁.heap ->
   s₁.heap.get? fa=some o->o.data=.func (docDef d.name d.params d.body d.scope pm cd doc)->s₁.heap.CodeRec cd d.name->mg d.name=some (.ref fa) ->
   s₁.heap.get? a=some { cls:=.type "list",data:=.seq vs.toArray }->IntsAre vs ns->ns.length<=n->s₁.gens=#[] ->
   codeAny (model l.prog w) callerA (.call (.ref fa) ⟨[.ref a],[]⟩) (λr s'=>r=.ok (.ret (.bool true))/\OldK s₁.heap s'.heap/\s'.os=s₁.os/\AllBare s'.gens) s₁) :
  WalkO q loose XP YP l.row.toRowW d [] (λf vs=>PySem.call f vs):=by
 intro w s₀ s₁ mg mb G Y fa o pm cd doc dV kV ho hd hcd hD hmg hg args vals as hpre hlay hrd hwl hlo;obtain rfl:dV=.none:=Dflts.none hD hdf;obtain rfl:kV=.none:=Dflts.noKw hD;obtain ⟨a,vs,ns,rfl,rfl,hobj,hints,hlen⟩:=script_of hn hpre hwl;refine enter_call (codeAny_mono (call w s₀ s₁ mg mb fa o pm cd doc a vs ns G Y ho (fd_plain hd) hcd hmg hobj hints hlen hg) λr s' hq=>?_);obtain ⟨rfl,h2,h3,h4⟩:=hq;exact ⟨.inl ⟨.bool true,.bool true,[],rfl,λ_=>rfl,.bool true,post_true l _,λ_=>⟨List.Pairwise.nil,λ_ hm=>(nomatch hm)⟩⟩,h2,h3,h4⟩
section
variable {prog:Program} {w:World} {A:Around} {E:J5} {s:Sh} {K:Frag}
end
end Att
namespace L2
open PySem PySem.Spec PyProof.Rows
theorem zbk:∀ {vs:J8} {ns:J6},IntsAre vs ns->Vals (ns.map V.int) vs
 | _,_,.nil=>.nil
 | _,_,.cons n t h=>.cons ⟨t,rfl⟩ (zbk h)
def Only (H:Hp):Prop:=∀ b,H b=none∨∃ o xs,H b=some (.frz o (.lst xs))
def law_call {P:Program} {w:World} {K:Fg} {mg mb:J0} {CX:CXT} {k:Nat} {fa a:Ad} {fd:FuncData} {x:Str} {sp:Sp} {s₁:Sh} {vs:J8} {ns:J6}
  (KX:K.In s₁.heap) (hns:s₁.heap.Ns mainGlobals mg) (hb:s₁.heap.Ns builtinsNs mb) (hbb:∀ x:Str,x≠"__name__"->mb x=bootBuiltins x) (hlim:s₁.heap.NoLimit) (hg:s₁.gens=#[])
  (ha:s₁.heap.get? a=some { cls:=.type "list",data:=.seq vs.toArray }) (hi:IntsAre vs ns) (hl:ns.length<=sizeLine) (hr:Room k callerA)
  (F:∀ base:Heap,K.In base->base.Ns mainGlobals mg->FnOk P w K mg base CX k fa fd [x] sp) (hbind:∀ (s:Sh) (u:Vl),BindsTo s fd ⟨[u],[]⟩ [(x,u)])
  (hsp:∀ H:Hp,Only H->SqL K H a (ns.map V.int)->sp [.ref a] H (λv _=>v=.bl true) λ_ _ _=>False)
  (hCX:∀ H e s',CX [] H s₁ (λ_ _ _=>False) e s'->False) :
  codeAny (model P w) callerA (.call (.ref fa) ⟨[.ref a],[]⟩) (λr s'=>r=.ok (.ret (.bool true))/\OldK s₁.heap s'.heap/\s'.os=s₁.os/\AllBare s'.gens) s₁:=by
 have rv:=zbk hi;have lenV:=hi.length
 have core:∀ H:Hp,Only H->SqL K H a (ns.map V.int)->HOk P w H s₁.heap->(∀ b,H b≠none->b=a)->(H a≠none->K.lookup a=none) ->
   codeAny (model P w) callerA (.call (.ref fa) ⟨[.ref a],[]⟩) (λr s'=>r=.ok (.ret (.bool true))/\OldK s₁.heap s'.heap/\s'.os=s₁.os/\AllBare s'.gens) s₁:=by
  intro H hO hS hok hA hK;have base_of:∀ {b:Ad} {o:Obj},s₁.heap.get? b=some o->H b=none->(hidT s₁.heap H).get? b=some o:=λe n=>hidT_get e n
  have noA:∀ {b:Ad} {o:Obj} {es:Array DictEntry} {ep:Nat},s₁.heap.get? b=some o->o.data=.dict es ep->H b=none:=λ{b o es ep} e d=>by
   cases q:H b with
   | none=>rfl
   | some u =>
    have e':b=a:=hA b (by rw [q];simp);subst e';rw [ha] at e;cases e;have d':Data.seq vs.toArray _=Data.dict es ep:=d;cases d'
  have nsK:∀ {b:Ad} {m:J0},s₁.heap.Ns b m->(hidT s₁.heap H).Ns b m:=λ{b m} ⟨o,es,ep,e,d,r⟩=>⟨o,es,ep,base_of e (noA e d),d,r⟩
  have hKb:K.In (hidT s₁.heap H):=λb o e=>base_of (KX b o e) (by
   cases q:H b with
   | none=>rfl
   | some u =>
    have e':b=a:=hA b (by rw [q];simp);subst e';rw [hK (by rw [q];simp)] at e;cases e)
  have hM:Mod K mg (hidT s₁.heap H):=⟨hKb,nsK hns,⟨mb,nsK hb,hbb⟩,let ⟨mc,h1,h2⟩:=hlim;⟨mc,nsK h1,h2⟩⟩;have e0:Env0 P w K mg (hidT s₁.heap H) callerA [] s₁ H:=⟨rfl,hM,λb o e=>of_hidT e,Nat.le_of_eq (hidT_size _ _),trivial,λb hb=>absurd (show b∈([]:Jc) from hb) (by simp),hok,.of_eq hg⟩;refine codeAny_mono ((F _ hKb (nsK hns)).run callerA [] s₁ H ⟨[.ref a],[]⟩ [.ref a] [.ref a] _ _ hr e0 (hbind s₁ (.ref a)) (.cons rfl .nil) (hsp H hO hS)) λr s' h=>?_
  cases r with
  | error e=>exact (hCX H e s' h).elim
  | ok fl =>
   cases fl with
   | next=>exact False.elim h
   | brk=>exact False.elim h
   | cont=>exact False.elim h
   | ret u =>
    obtain ⟨v,H',os,bare,un,hok',r',q⟩:=h;have q':v=.bl true:=q;subst q';obtain rfl:u=Value.bool true:=r';refine ⟨rfl,OldK.of_keep λb o e=>?_,os,bare⟩
    cases q:H b with
    | none=>exact un.keep b o e q (by intro z;exact absurd (show b∈([]:Jc) from z) (by simp)) (by simp)
    | some u =>
     rcases hO b with z | ⟨ob,xs,z⟩
     ·rw [q] at z;cases z
     ·have z2:=un.frzs b ob _ z
      obtain ⟨e1,_⟩:=hok b _ z;obtain ⟨e2,_⟩:=hok' b _ z2;rw [e] at e1;cases e1;exact e2
 cases hk:K.lookup a with
 | some o =>
  have e:=KX a o hk;rw [ha] at e;cases e;refine core (λ_=>none) (λ_=>.inl rfl) (.inr ⟨_,vs.toArray,_,hk,rfl,rfl,rfl,by rw [List.size_toArray,lenV];exact hl,by simpa using rv⟩) (λb u z=>by have z':(none:Option HO)=some u:=z;cases z') (λb z=>absurd rfl z) λz=>absurd rfl z
 | none =>
  refine core (λb=>if b=a then some (.frz { cls:=.type "list",data:=.seq vs.toArray } (.lst (ns.map V.int))) else none) (λb=>?_) (.inl (.inr ⟨{ cls:=.type "list",data:=.seq vs.toArray },if_pos rfl⟩)) (λb u z=>?_) (λb z=>?_) λ_=>hk
  ·by_cases hb:b=a
   ·exact .inr ⟨_,_,if_pos hb⟩
   ·exact .inl (if_neg hb)
  ·by_cases hb:b=a
   ·have z':=(if_pos hb).symm.trans z
    cases z';subst hb;exact ⟨ha,by rw [Je];exact hl,vs,_,rv,ha⟩
   ·have z':=(if_neg hb).symm.trans z
    cases z'
  ·by_cases hb:b=a
   ·exact hb
   ·exact absurd (if_neg hb) z
def walk_of {l:PySem.W.OpenLaw} {n k:Nat} {q:Program} {loose:Jb} {XP:(J0)->Heap->Prop} {YP:World->Heap->Prop} {d:DefRec} {K:Params->Fg} {CX:World->CXT} {sp:World->Sp} {x:Str}
  (hn:l.most=some n) (hn2:n<=sizeLine) (hdf:d.params.defaults=[]) (hr:Room k callerA)
  (hY:∀ (w:World) (h:Heap),YP w h->(K w.params).In h)
  (F:∀ (w:World) (mg:J0) (fa:Ad) (h:Heap),(K w.params).In h->h.Ns mainGlobals mg->mg d.name=some (.ref fa) ->
   ∃ fd:FuncData,(∀ (s:Sh) (u:Vl),BindsTo s fd ⟨[u],[]⟩ [(x,u)]) /\
    ∀ base:Heap,(K w.params).In base->base.Ns mainGlobals mg->FnOk l.prog w (K w.params) mg base (CX w) k fa fd [x] (sp w))
  (hsp:∀ (w:World) (H:Hp) (a:Ad) (ns:J6),ns.length<=n->Only H->SqL (K w.params) H a (ns.map V.int)->sp w [.ref a] H (λv _=>v=.bl true) λ_ _ _=>False)
  (hCX:∀ (w:World) (H:Hp) (s:Sh) (e:Vl) (s':Sh),CX w [] H s (λ_ _ _=>False) e s'->False) :
  PySem.W.WalkO q loose XP YP l.row.toRowW d [] (λf vs=>PySem.call f vs):=by
 refine Att.attach_call hn hdf λw s₀ s₁ mg mb fa o pm cd doc a vs ns G Y ho hd hcd hmg hobj hints hlen hg=>?_;have KX:=hY w _ Y;obtain ⟨fd,hb,hF⟩:=F w mg fa _ KX G.T.g hmg;exact law_call KX G.T.g G.T.b G.T.builtins G.T.nolimit hg hobj hints (Nat.le_trans hlen hn2) hr hF hb (λH hO hS=>hsp w H a ns hlen hO hS) λH e s'=>hCX w H s₁ e s'
end L2
/- THE LAST THEOREM (shape;LID,My.* are yours):
   My.Adr: a structure of the addresses that your layer names (classes,functions);My.Txt K t: a structure (Prop) of the equations over K;
   My.txt_mk:{K} {implicit addresses ..} (e1:nsIn K mainGlobals "law"=some (some (.ref f))) (e2:K.lookup f=some ⟨oc,od,.func (fnOf "law" "law" params body scope dV kV doc pm an mh ct),sl⟩) (e3:codeIn K mh "law"=true) ..:∃ t,My.Txt K t
set_option maxRecDepth 100000 in
set_option maxHeartbeats 0 in
(the tactic k_is has no namespace: write k_is) -/
namespace L2
open PySem PySem.Spec PyProof.Rows
def zU (s:Stmt) (j:Nat):Stmt:=match s with
 | .ClassDef _ _ _ body _ _ _ _ _ _ _=>body.getD j (.Pass ⟨0,0,0,0⟩)
 | _=>.Pass ⟨0,0,0,0⟩
def yf (s:Stmt):Arguments:=match s with
 | .FunctionDef _ a _ _ _ _ _ _ _ _=>a
 | _=>{ posonlyargs:=[],args:=[],vararg:=none,kwonlyargs:=[],kw_defaults:=[],kwarg:=none,defaults:=[] }
def zR (s:Stmt):List Stmt:=match s with
 | .FunctionDef _ _ b _ _ _ _ _ _ _=>b
 | _=>[]
def ze (s:Stmt):Scope:=match s with
 | .FunctionDef _ _ _ _ _ _ sc _ _ _=>sc
 | _=>{ kind:=.function,names:=[],isGenerator:=false,isCoroutine:=false }
abbrev CX0:CXT:=λ_ _ _ _ _ _=>False
abbrev E0:XK:=λ_ _ _=>False
def zo {X:Cx}:xa CX0 X E0:=λ_ _ _ _ _ _ _ h=>h.elim
structure Fun (K:Fg) (x me:Str) (st:Stmt) (f:Ad) (fd:FuncData):Prop where
 ex:∃ (oc:Vl) (od:Option Ad) (kV doc pm:Vl) (an:Option Ad) (mh ct:Vl) (osl:Array (Ja)),
  fd=PySem.W.fnOf x me (yf st) (zR st) (ze st) .none kV doc pm an mh ct/\K.lookup f=some ⟨oc,od,.func fd,osl⟩/\PySem.W.codeIn K mh me=true
 kp:PySem.W.keepIn K (.ref f)=true
section
variable {P:Program} {w:World} {K:Fg} {mg:J0} {base:Heap}
def Fun.ok {x me:Str} {st:Stmt} {f:Ad} {fd:FuncData} {N ps:Jb} {k:Nat} {sp:Sp} (F:Fun K x me st f fd) (S:FnScope N ps (ze st)) (len:∀ vs H Q E,sp vs H Q E->vs.length=ps.length)
  (hbody:∀ (mh:Vl) (A:Around) (outer:List Env) (s:Sh) (H:Hp) (vs:Jj) (Q:VK) (E:XK),Room k (A.deeper (envOfC me (ze st) s.heap.objs.size f mh))->sp vs H Q E ->
   ∃ t,PSs (yd CX0 P w K mg base N me (ze st) f mh A outer s H E).nox (zR st) t/\t { nx:=λ_ H'=>Q .non H',rt:=Q } (start N vs) H):FnOk P w K mg base CX0 (k+1) f fd ps sp:=by
 obtain ⟨oc,od,kV,doc,pm,an,mh,ct,osl,rfl,lk,hcd⟩:=F.ex;refine fn_of lk hcd S len λA outer s H vs Q E hr hsp=>?_;obtain ⟨t,h,q⟩:=hbody mh A outer s H vs Q E hr hsp;exact ⟨t,h.nox,q⟩
def Fun.binds {x me:Str} {st:Stmt} {f:Ad} {fd:FuncData} {ps:Jb} (F:Fun K x me st f fd)
  (h:∀ (kV doc pm:Vl) (an:Option Ad) (mh ct:Vl) (us:J8),us.length=ps.length->bindArgs (PySem.W.fnOf x me (yf st) (zR st) (ze st) .none kV doc pm an mh ct) ⟨us,[]⟩=pure (ps.zip us)):Binds K fd ps []:=by
 obtain ⟨oc,od,kV,doc,pm,an,mh,ct,osl,rfl,lk,hcd⟩:=F.ex;exact .all (h kV doc pm an mh ct)
def YV {x me:Str} {st:Stmt} {f:Ad} {oc:Vl} {od an:Option Ad} {osl:Array (Ja)} {kV doc pm mh ct:Vl} (l:K.lookup f=some ⟨oc,od,.func (PySem.W.fnOf x me (yf st) (zR st) (ze st) .none kV doc pm an mh ct),osl⟩)
  (c:PySem.W.codeIn K mh me=true) (k:PySem.W.keepIn K (.ref f)=true):Fun K x me st f (PySem.W.fnOf x me (yf st) (zR st) (ze st) .none kV doc pm an mh ct):=⟨⟨oc,od,kV,doc,pm,an,mh,ct,osl,rfl,l,c⟩,k⟩
end
section
variable {X:Cx}
def pv (i:Nat) {x:Str} {pos:Pos} (hN:X.N[i]?=some x:=by rfl) (hv:Vis X.env.scope x:=by first | exact Or.inl rfl | exact Or.inr (Or.inl rfl) | exact Or.inr (Or.inr rfl)) (hd:(x == ("__debug__":Str))=false:=by decide)
  (hcd:(x == ("__classdict__":Str))=false:=by decide):PE X (.Name x pos) (tVar i):=pe_var hN hv hd hcd
end
def xl {A B:Prop} (h:B):if false=true then A else B:=by
 rw [if_neg q7x];exact h
def ZY {A B:Prop} (h:A):if true=true then A else B:=by
 rw [if_pos rfl];exact h
def yo {c A B:Prop} [Decidable c] (h1:c->A) (h2:¬ c->B):if c then A else B:=by
 by_cases h:c
 ·rw [if_pos h]
  exact h1 h
 ·rw [if_neg h]
  exact h2 h
def iteNS {c A B:Prop} [Decidable c] (hc:c) (h:B):if (!decide c)=true then A else B:=by
 rw [decide_eq_true hc];exact xl h
def Same (H H':Hp):Prop:=∀ b o,H b=some o->H' b=some o
def Same.refl (H:Hp):Same H H:=λ_ _ h=>h
def Same.trans {H H1 H2:Hp} (a:Same H H1) (b:Same H1 H2):Same H H2:=λc o h=>b c o (a c o h)
def Same.free {H H':Hp} (e:Same H H') {l:Ad} (h:H' l=Option.none):H l=Option.none:=by
 cases q:H l with
 | none=>rfl
 | some o =>
  rw [e l o q] at h;cases h
def ObjOk.here {P:Program} {w:World} {H:Hp} {h:Heap} {a:Ad} {o:HO} (x:ObjOk P w H h a o):∃ ob,h.get? a=some ob:=by
 cases o with
 | lst xs=>obtain ⟨_,_,_,_,e⟩:=x;exact ⟨_,e⟩
 | tup xs=>obtain ⟨_,_,_,ob,e,_⟩:=x;exact ⟨_,e⟩
 | dK md=>obtain ⟨_,_,_,_,ob,_,_,e,_⟩:=x;exact ⟨_,e⟩
 | dT md=>obtain ⟨_,_,_,_,ob,_,_,e,_⟩:=x;exact ⟨_,e⟩
 | set S n=>obtain ⟨ob,_,_,_,e,_⟩:=x;exact ⟨_,e⟩
 | ins C dx fs=>obtain ⟨_,_,_,e,_⟩:=x;exact ⟨_,e⟩
 | own y=>exact x
 | xd fs=>obtain ⟨_,⟨_,_,_,e,_⟩,_⟩:=x;exact ⟨_,e⟩
 | rng lo hi=>obtain ⟨_,_,_,e⟩:=x;exact ⟨_,e⟩
 | frz ob u=>obtain ⟨e,_⟩:=x;exact ⟨_,e⟩
 | tbl ps=>exact ⟨_,x⟩
 | met f y=>exact ⟨_,x⟩
 | ext φ=>obtain ⟨_,e,_⟩:=x;exact e
def mem_frs {env:Env} {l:List Env} {L:Ad} (hf:env.frame=some L):L∈frs (env::l):=by
 unfold frs;rw [List.filterMap_cons,hf];exact q6z
def Zn {env:Env} {l:List Env} {L b:Ad} (hf:env.frame=some L) (hb:b∈frs l):b∈frs (env::l):=by
 unfold frs at *;rw [List.filterMap_cons,hf];exact q6y _ hb
theorem xj {h base base':Heap}:∀ {l:List Env},h.FunFrames base l->(∀ b∈frs l,base'.get? b=none)->h.FunFrames base' l
 | [],_,_=>trivial
 | _::_,⟨hk,⟨L,o,hf,_,ho,hd⟩,hr⟩,k=>⟨hk,⟨L,o,hf,k L (mem_frs hf),ho,hd⟩,xj hr λb hb=>k b (Zn hf hb)⟩
structure Fly (base:Heap) (outer:List Env) (H:Hp) (s h:Heap) (e:Ad) (cls:Vl):Prop where
 stays:base.StaysIn h
 frames:h.FunFrames base outer
 baseE:base.get? e=none
 newE:s.get? e=none
 freeE:H e=none
 tr:∃ oe vs T oT ts,h.get? e=some oe/\oe.cls=cls/\oe.data=.fields vs/\vs[1]?=some (.ref T)/\T≠e/\h.get? T=some oT/\oT.data=.fields ts/\ts[3]?=some .none/\base.get? T=none/\s.get? T=none/\H T=none
def CXe (P:Program) (w:World) (base:Heap):CXT:=λouter H s E e s' =>
 ∃ (ea C:Ad) (H':Hp),e=.ref ea/\s'.os=s.os/\AllBare s'.gens/\Un (frs outer) [] H H' s.heap s'.heap/\HOk P w H' s'.heap/\Fly base outer H' s.heap s'.heap ea (.ref C)/\E (.ref C) none H'
section
variable {X:Cx} {l8:J7} {σ:St} {H:Hp} {s:Sh} {e:Ad} {cls:Vl}
def lv_new {h1:Heap} {vs:J8} {Q:Unit->Sh->Prop} {E:J5} (I:Inv X l8 σ H s) (hst:X.stack=X.env::X.outer) (hf:X.env.frame=some X.env.locals) (hex:X.ex=[])
  (hx:Heap.MadeExcOf s.heap h1 e cls vs)
  (hQ:∀ h',Un X.fs [] X.H₀ H X.s₀.heap h'->HOk X.prog X.w H h'->Fly X.base X.outer H X.s₀.heap h' e cls->Q () { s with heap:=h' }) :
  wpAny (model X.prog X.w) X.A (leaving X.env (.ref e)) Q E { s with heap:=h1 }:=by
 have hfs:=I.stack;rw [hst] at hfs;have hfr:X.A.frames=some (X.env::X.outer):=by rw [← hst];exact I.ok.frames
 have fmem:∀ b∈frs (X.env::X.outer),X.base.get? b=none/\∃ o,s.heap.get? b=some o/\∀ vs,o.data≠.fields vs:=λb hb=>hfs.mem hb;have funt:∀ b∈frs (X.env::X.outer),H b=none:=λb hb=>I.stkFree b (by rw [hst];exact hb);have bget:∀ b o,b ∉ frs (X.env::X.outer)->s.heap.get? b=some o->(PySem.W.hideAll s.heap (frs (X.env::X.outer))).get? b=some o:=λb o n q=>PySem.W.hideAll_get _ q n;have bof:∀ b o,(PySem.W.hideAll s.heap (frs (X.env::X.outer))).get? b=some o->s.heap.get? b=some o:=λb o q=>PySem.W.of_hideAll _ q;have bno:∀ b∈frs (X.env::X.outer),(PySem.W.hideAll s.heap (frs (X.env::X.outer))).get? b=none:=λb hb=>PySem.W.hideAll_none _ hb
 have none_of:∀ b,s.heap.get? b=none->(PySem.W.hideAll s.heap (frs (X.env::X.outer))).get? b=none:=λb q=>by
  cases r:(PySem.W.hideAll s.heap (frs (X.env::X.outer))).get? b with
  | none=>rfl
  | some o=>rw [bof b o r] at q;cases q
 obtain ⟨t,he,_,_⟩:=hx.there;refine wpAny_leaving_first (base:=PySem.W.hideAll s.heap (frs (X.env::X.outer))) hfr (xj (hfs.of_keeps λb o hb _=>⟨o,hx.keeps b o hb,rfl⟩) bno) hf he (λb o q=>hx.keeps b o (bof b o q)) (none_of e hx.new) rfl rfl λh' hL=>?_;obtain ⟨k1,k2,k3,k4⟩:=hL;have neL:∀ b o,X.s₀.heap.get? b=some o->b≠X.env.locals:=λb o q=>Nat.ne_of_lt (q7z (Heap.lt_size q) I.ok.above)
 have inS:∀ b,b∈frs (X.env::X.outer)->b=X.env.locals∨b∈X.fs:=λb hb=>by
  rcases List.mem_cons.mp (I.stkSub b (by rw [hst];exact hb)) with z | z
  ·exact .inl z
  ·exact .inr z
 have keep:∀ b o,b ∉ frs (X.env::X.outer)->s.heap.get? b=some o->h'.get? b=some o:=λb o n q=>k1 b o (bget b o n q)
 have slot:∀ b o,b∈frs (X.env::X.outer)->s.heap.get? b=some o->∃ sl,h'.get? b=some { o with slots:=sl }:=λb o hb q=>by
  obtain ⟨_,o',q',nf⟩:=fmem b hb;rw [q] at q';cases q';exact k4 b o (hx.keeps b o q) nf
 have there0:∀ b,s.heap.get? b=none->X.s₀.heap.get? b=none:=λb q=>by
  cases r:X.s₀.heap.get? b with
  | none=>rfl
  | some o =>
   obtain ⟨o',z⟩:=I.base.there b o r (by rw [hex];simp);rw [z] at q;cases q
 have trk:∀ b o,H b=some o->b ∉ frs (X.env::X.outer):=λb o q hb=>by rw [funt b hb] at q;cases q
 refine hQ h' ⟨λb o q n hb _=>?_,λb o q n hb _=>?_,λb o q n _=>I.base.free b o q n (by rw [hex];simp),λb o q _=>?_,I.base.tups,I.base.frzs,I.base.tbls⟩ (λb o q=>?_) ⟨λb o q=>?_,?_,?_,there0 e hx.new,?_,?_⟩
 ·refine keep b o (λz=>?_) (I.base.keep b o q n hb (by rw [hex];simp))
  rcases inS b z with z | z
  ·exact neL b o q z
  ·exact hb z
 ·obtain ⟨sl,q1⟩:=I.base.slot b o q n hb (by rw [hex];simp)
  obtain ⟨sl',q2⟩:=slot b _ (Zn hf hb) q1;exact ⟨sl',q2⟩
 ·obtain ⟨o',q1⟩:=I.base.there b o q (by rw [hex];simp)
  by_cases hb:b∈frs (X.env::X.outer)
  ·obtain ⟨sl,q2⟩:=slot b o' hb q1
   exact ⟨_,q2⟩
  ·exact ⟨_,keep b o' hb q1⟩
 ·exact (I.hok b o q).stay (λc u hc r=>keep c u (by
   rcases hc with rfl | hc
   ·exact trk _ _ q
   ·exact trk _ _ hc) r) (λ_ z=>z) λ_ _ z=>z
 ·refine keep b o (λz=>?_) (I.bk b o q)
  rw [(fmem b z).1] at q;cases q
 ·obtain ⟨_,_,k2⟩:=xj k2 (base':=X.base) λb hb=>(fmem b hb).1
  exact k2
 ·cases r:X.base.get? e with
  | none=>rfl
  | some o=>have:=I.bk e o r;rw [hx.new] at this;cases this
 ·cases r:H e with
  | none=>rfl
  | some o=>obtain ⟨ob,z⟩:=(I.hok e o r).here;rw [hx.new] at z;cases z
 ·obtain ⟨oe,ws,T,oT,ts,t1,t2,t3,t4,t5,t6,t7,t8,t9⟩:=k3
  have tf:T ∉ frs (X.env::X.outer):=λz=>by
   obtain ⟨_,o',q',nf⟩:=k2.mem z;rw [t7] at q';cases q';exact nf ts t8
  have tn:s.heap.get? T=none:=by
   cases r:s.heap.get? T with
   | none=>rfl
   | some o=>rw [bget T o tf r] at t5;cases t5
  refine ⟨oe,ws,T,oT,ts,t1,t2,t3,t4,t6,t7,t8,t9,?_,there0 T tn,?_⟩
  ·cases r:X.base.get? T with
   | none=>rfl
   | some o=>have:=I.bk T o r;rw [tn] at this;cases this
  ·cases r:H T with
   | none=>rfl
   | some o=>obtain ⟨ob,z⟩:=(I.hok T o r).here;rw [tn] at z;cases z
end
section
variable {X:Cx} {l8:J7} {σ:St} {H H':Hp} {s s':Sh} {e:Ad} {cls:Vl}
def lv_on {Q:Unit->Sh->Prop} {E:J5} (I:Inv X l8 σ H s) (hst:X.stack=X.env::X.outer) (hf:X.env.frame=some X.env.locals) (hex:X.ex=[])
  (u:Un (frs X.stack) [] H H' s.heap s'.heap) (hok:HOk X.prog X.w H' s'.heap) (fl:Fly X.base X.stack H' s.heap s'.heap e cls)
  (hQ:∀ h',Un X.fs [] X.H₀ H' X.s₀.heap h'->HOk X.prog X.w H' h'->Fly X.base X.outer H' X.s₀.heap h' e cls->Q () { s' with heap:=h' }) :
  wpAny (model X.prog X.w) X.A (leaving X.env (.ref e)) Q E s':=by
 obtain ⟨y1,y2,y3,y4,y5,oe,ws,T,oT,ts,t1,t2,t3,t4,t6,t7,t8,t9,t10,t11,t12⟩:=fl;rw [hst] at y2 u;have hfs:=I.stack;rw [hst] at hfs;have hfr:X.A.frames=some (X.env::X.outer):=by rw [← hst];exact I.ok.frames
 have fbase:∀ b∈frs (X.env::X.outer),X.base.get? b=none:=λb hb=>(hfs.mem hb).1;have fdat:∀ b∈frs (X.env::X.outer),∃ o,s'.heap.get? b=some o/\∀ vs,o.data≠.fields vs:=λb hb=>(y2.mem hb).2
 have funt:∀ b∈frs (X.env::X.outer),H' b=none:=λb hb=>by
  obtain ⟨_,o,ho,_⟩:=hfs.mem hb;exact u.free b o ho (I.stkFree b (by rw [hst];exact hb)) (by simp)
 have bget:∀ b o,b ∉ e::T::frs (X.env::X.outer)->s'.heap.get? b=some o->(PySem.W.hideAll s'.heap (e::T::frs (X.env::X.outer))).get? b=some o:=λb o n q=>PySem.W.hideAll_get _ q n;have bof:∀ b o,(PySem.W.hideAll s'.heap (e::T::frs (X.env::X.outer))).get? b=some o->s'.heap.get? b=some o:=λb o q=>PySem.W.of_hideAll _ q;have bno:∀ b∈e::T::frs (X.env::X.outer),(PySem.W.hideAll s'.heap (e::T::frs (X.env::X.outer))).get? b=none:=λb hb=>PySem.W.hideAll_none _ hb;refine wpAny_leaving_next (base:=PySem.W.hideAll s'.heap (e::T::frs (X.env::X.outer))) (cls:=cls) hfr (xj y2 λb hb=>bno b (by simp [hb])) hf
  ⟨oe,ws,T,oT,ts,t1,t2,t3,t4,bno T (by simp),t6,t7,t8,t9⟩ (λb o q=>bof b o q) (bno e (by simp)) λh' hL=>?_
 obtain ⟨k1,k2,k3,k4⟩:=hL;have neL:∀ b o,X.s₀.heap.get? b=some o->b≠X.env.locals:=λb o q=>Nat.ne_of_lt (q7z (Heap.lt_size q) I.ok.above)
 have inS:∀ b,b∈frs (X.env::X.outer)->b=X.env.locals∨b∈X.fs:=λb hb=>by
  rcases List.mem_cons.mp (I.stkSub b (by rw [hst];exact hb)) with z | z
  ·exact .inl z
  ·exact .inr z
 have keep:∀ b o,b ∉ frs (X.env::X.outer)->b≠e->b≠T->s'.heap.get? b=some o->h'.get? b=some o:=λb o n n1 n2 q=>k1 b o (bget b o (by simp [n,n1,n2]) q)
 have slot:∀ b o,b∈frs (X.env::X.outer)->s'.heap.get? b=some o->∃ sl,h'.get? b=some { o with slots:=sl }:=λb o hb q=>by
  obtain ⟨o',q',nf⟩:=fdat b hb;rw [q] at q';cases q';exact k4 b o q nf
 have old:∀ b o,s.heap.get? b=some o->b≠e/\b≠T:=λb o q=>⟨λz=>(by rw [z,y4] at q;cases q),λz=>(by rw [z,t11] at q;cases q)⟩
 have there0:∀ b,s.heap.get? b=none->X.s₀.heap.get? b=none:=λb q=>by
  cases r:X.s₀.heap.get? b with
  | none=>rfl
  | some o =>
   obtain ⟨o',z⟩:=I.base.there b o r (by rw [hex];simp);rw [z] at q;cases q
 have trk:∀ b o,H' b=some o->b ∉ frs (X.env::X.outer)/\b≠e/\b≠T:=λb o q=>⟨λhb=>(by rw [funt b hb] at q;cases q),λz=>(by rw [z,y5] at q;cases q),λz=>(by rw [z,t12] at q;cases q)⟩;refine hQ h' ⟨λb o q n hb _=>?_,λb o q n hb _=>?_,λb o q n _=>?_,λb o q _=>?_,λb xs q=>u.tups b xs (I.base.tups b xs q),λb o x q=>u.frzs b o x (I.base.frzs b o x q),λb ps q=>?_⟩ (λb o q=>?_) ⟨λb o q=>?_,?_,y3,there0 e y4,y5,?_⟩
 ·have q1:=I.base.keep b o q n hb (by rw [hex];simp)
  have n1:=I.base.free b o q n (by rw [hex];simp)
  have nf:b ∉ frs (X.env::X.outer):=λz=>by
   rcases inS b z with z | z
   ·exact neL b o q z
   ·exact hb z
  exact keep b o nf (old b o q1).1 (old b o q1).2 (u.keep b o q1 n1 nf (by simp))
 ·obtain ⟨sl,q1⟩:=I.base.slot b o q n hb (by rw [hex];simp)
  have n1:=I.base.free b o q n (by rw [hex];simp);obtain ⟨sl2,q2⟩:=u.slot b _ q1 n1 (Zn hf hb) (by simp);obtain ⟨sl',q3⟩:=slot b _ (Zn hf hb) q2;exact ⟨sl',q3⟩
 ·obtain ⟨o',q1⟩:=I.base.there b o q (by rw [hex];simp)
  exact u.free b o' q1 (I.base.free b o q n (by rw [hex];simp)) (by simp)
 ·obtain ⟨o',q1⟩:=I.base.there b o q (by rw [hex];simp)
  obtain ⟨o2,q2⟩:=u.there b o' q1 (by simp);by_cases hb:b∈frs (X.env::X.outer)
  ·obtain ⟨sl,q3⟩:=slot b o2 hb q2
   exact ⟨_,q3⟩
  ·exact ⟨_,keep b o2 hb (old b o' q1).1 (old b o' q1).2 q2⟩
 ·obtain ⟨m1,e1⟩:=I.base.tbls b ps q
  obtain ⟨m2,e2⟩:=u.tbls b _ e1;exact ⟨m1++m2,by rw [e2,Array.append_assoc]⟩
 ·exact (hok b o q).stay (λc v hc r=>by
   have z:c ∉ frs (X.env::X.outer)/\c≠e/\c≠T:=by
    rcases hc with rfl | hc
    ·exact trk _ _ q
    ·exact trk _ _ hc
   exact keep c v z.1 z.2.1 z.2.2 r) (λ_ z=>z) λ_ _ z=>z
 ·refine keep b o (λz=>by rw [fbase b z] at q;cases q) (λz=>by rw [z,y3] at q;cases q) (λz=>by rw [z,t10] at q;cases q) (y1 b o q)
 ·obtain ⟨_,_,k2⟩:=xj k2 (base':=X.base) λb hb=>fbase b hb
  exact k2
 ·obtain ⟨oe',ws',T',oT',ts',r1,r2,r3,r4,r5,r6,r7,r8,r9⟩:=k3
  by_cases hT:T'=T
  ·subst hT
   exact ⟨oe',ws',T',oT',ts',r1,r2,r3,r4,r6,r7,r8,r9,t10,there0 T' t11,t12⟩
  ·have tf:T' ∉ frs (X.env::X.outer):=λz=>by
    obtain ⟨_,o',q',nf⟩:=k2.mem z;rw [r7] at q';cases q';exact nf ts' r8
   have tn:s'.heap.get? T'=none:=by
    cases r:s'.heap.get? T' with
    | none=>rfl
    | some o=>rw [bget T' o (by simp [tf,r6,hT]) r] at r5;cases r5
   have tn0:s.heap.get? T'=none:=by
    cases r:s.heap.get? T' with
    | none=>rfl
    | some o =>
     obtain ⟨o',z⟩:=u.there T' o r (by simp);rw [tn] at z;cases z
   refine ⟨oe',ws',T',oT',ts',r1,r2,r3,r4,r6,r7,r8,r9,?_,there0 T' tn0,?_⟩
   ·cases r:X.base.get? T' with
    | none=>rfl
    | some o=>have:=y1 T' o r;rw [tn] at this;cases this
   ·cases r:H' T' with
    | none=>rfl
    | some o=>obtain ⟨ob,z⟩:=(hok T' o r).here;rw [tn] at z;cases z
end
section
variable {P:Program} {w:World} {K:Fg} {mg:J0} {base:Heap} {N:Jb} {me:Str} {scope:Scope} {f:Ad} {cd:Vl} {A:Around} {outer:List Env} {s:Sh} {H:Hp} {E:XK}
def zaj:xa (CXe P w base) (yd (CXe P w base) P w K mg base N me scope f cd A outer s H E) E:=by
 intro l8 σ H1 s1 e s' I h;obtain ⟨ea,C,H',rfl,os,bare,un,hok,fl,q⟩:=h;exact lv_on I rfl rfl rfl un hok fl λh' u' hok' fl'=>⟨ea,C,H',rfl,os.trans I.os,bare,u',hok',fl',q⟩
def Throws (X:Cx) (E:XK):Prop:=∀ (l8:J7) (σ:St) (H:Hp) (s:Sh) (h':Heap) (e C:Ad) (vs:J8),Inv X l8 σ H s->Heap.MadeExcOf s.heap h' e (.ref C) vs->E (.ref C) none H->X.xe (.ref e) { s with heap:=h' }
def throwE:Throws (yd (CXe P w base) P w K mg base N me scope f cd A outer s H E) E:=by
 intro l8 σ H1 s1 h1 e C vs I hx q;exact lv_new I rfl rfl rfl hx λh' u' hok' fl'=>⟨e,C,H1,rfl,I.os,I.bare,u',hok',fl',q⟩
end
end L2
namespace My
open PySem PySem.Spec PySem.Calls PySem.W PyProof.Rows PySem.Builtin PySem.Builtin.ObjectAttr PySem.Builtin.Getset_descriptor
def ClsAt (x D:Ad) (h:Heap):Prop:=∃ o,h.get? x=some o/\o.cls=.ref D
def clsAt_ty {x D:Ad} (M:Model) (h:Heap) (p:ClsAt x D h):Looks M h (typeOf (.ref x)) (.ref D):=by
 obtain ⟨o,a,b⟩:=p;exact b ▸ (Looks.ld a).andThen .now
def find_data {K:Frag} {M:Model} {h:Heap} (X:K.In h) {x D:Ad} {name:Str} {g a:Vl} (ha:findIn K (.ref D) name=some (some a)) (hn:specialIn K a "__get__"=some (some g)) (htk:takesIn K a=some true) :
  Looks M h (find (.ref x) (.ref D) name) (.bind g a) :=
 (looks_findIn X ha).andThen ((show Looks M h (getOf (some a)) (some g) from looks_specialIn X hn).andThen ((show Looks M h (dataDescriptor? (some a) (some g)) (some (g,a)) from (looks_takesIn X htk).andThen .now).andThen (Looks.tag .now)))
section
variable {prog:Program} {w:World} {A:Around} {E:J5} {s:Sh} {K:Frag} {x D:Ad} {R:Result->Sh->Prop}
def class_of {tp:Vl} (X:K.In s.heap) (p:ClsAt x D s.heap) (hm:mroIn K D (.type "object")=some true) (h:R (.ok (.ret (.ref D))) s) :
  codeAny (model prog w) A (.call (.builtin "getset_descriptor.__get__") ⟨[.builtin "object.__class__",.ref x,tp],[]⟩) R s:=by
 obtain ⟨h0,g0,d0,t0,o0⟩:=s;have T0:=clsAt_ty (model prog w) h0 p;have T1:=looks_mroIn (M:=model prog w) X hm;refine codeAny_call_builtin KF.slot_gs.plain KF.entry_gs (KF.slot_gs.check _ _ _ _ _ _ _ _ KF.type_class (KF.args_gs _ _ _) ?_);unfold Builtin.«getset_descriptor.__get__» descrGet;rw [dga_obj];refine q0x (q0y ?_);unfold descrGetter descrCheckInstance descrNameAndClass isInstance;simp only [KF.owner_class]
 repeat lk
 refine ⟨Code.quiet_builtin _ (by decide +kernel),codeAny_builtin KF.entry_class ?_⟩;unfold Builtin.«object.__class__» shownTypeOf
 repeat lk
 exact h
def ga_check {M:Model} {Q:Unit->Sh->Prop} {nameV:Vl} {h0:Heap} {g0:Array GenState} {d0:Drawn} {t0:Nat} {o0:OsState} (T0:Looks M h0 (typeOf (.ref x)) (.ref D)) (TS:Looks M h0 (isSubtype (.ref D) (.type "BaseException")) true) (hq:Q () ⟨h0,g0,d0,t0,o0⟩) :
  wpAny M A (checkBuiltinCall "BaseException.__getattribute__" ⟨[.ref x,nameV],[]⟩) Q E ⟨h0,g0,d0,t0,o0⟩:=by
 have e1:builtinKind "BaseException.__getattribute__"=some .slot:=by decide +kernel
 have e2:splitId "BaseException.__getattribute__"=some ("BaseException","__getattribute__"):=by decide +kernel
 have e3:=F.args_bexc_ga (.ref x) nameV;simp only [checkBuiltinCall,e1,e2];refine q0x ?_;unfold isInstance
 repeat (first | lk | wp_step)
 exact hq
def ga_entry {Q:Fin->Sh->Prop} {tk:Tok} {h0:Heap} {g0:Array GenState} {d0:Drawn} {t0:Nat} {o0:OsState} (X:K.In h0) (p:ClsAt x D h0) (ha:findIn K (.ref D) "__class__"=some (some (.builtin "object.__class__")))
  (hn:specialIn K (.builtin "object.__class__") "__get__"=some (some (.builtin "getset_descriptor.__get__"))) (htk:takesIn K (.builtin "object.__class__")=some true) (hm:mroIn K D (.type "object")=some true) (hq:Q (.done (.ret (.ref D))) ⟨h0,g0,d0,t0,o0⟩) :
  wpAny (model prog w) A (Builtin.«object.__getattribute__» ⟨[.ref x,.str "__class__" tk],[]⟩) Q E ⟨h0,g0,d0,t0,o0⟩:=by
 have T0:=clsAt_ty (model prog w) h0 p;have T2:=find_data (M:=model prog w) X (x:=x) ha hn htk;unfold Builtin.«object.__getattribute__»;refine q0x (q0y ?_)
 repeat (first | (with_reducible refine q0x (T0.at ?_)) | (with_reducible refine q0x (T2.at ?_)) | wp_step)
 refine class_of (s:=⟨h0,g0,d0,t0,o0⟩) X p hm ?_
 repeat (any_goals (first | assumption | wp_step))
def zfm {Q:Ja->Sh->Prop} (hg:findIn K (.ref D) "__getattribute__"=some (some (.builtin "BaseException.__getattribute__"))) (hgg:findIn K (.ref D) "__getattr__"=some none) (hsb:subIn K (.ref D) (.type "BaseException")=some true) (ha:findIn K (.ref D) "__class__"=some (some (.builtin "object.__class__")))
  (hn:specialIn K (.builtin "object.__class__") "__get__"=some (some (.builtin "getset_descriptor.__get__"))) (htk:takesIn K (.builtin "object.__class__")=some true) (hm:mroIn K D (.type "object")=some true)
  (X:K.In s.heap) (p:ClsAt x D s.heap) (h:Q (some (.ref D)) { s with toks:=s.toks+1 }):wpAny (model prog w) A (getAttr? (.ref x) "__class__") Q E s:=by
 obtain ⟨h0,g0,d0,t0,o0⟩:=s;have T0:=clsAt_ty (model prog w) h0 p;have T1:=looks_findIn (M:=model prog w) X hg;have T3:=looks_findIn (M:=model prog w) X hgg;have TS:=looks_subIn (M:=model prog w) X hsb;have f3:=F.excAttr_ValueError.ga.bind (.ref x);have hx2:(Value.builtin "BaseException.__getattribute__" == Value.builtin "object.__getattribute__")=false:=by decide +kernel
 have hx1:(onTheHeap (Value.ref D) && Value.builtin "BaseException.__getattribute__" == Value.builtin "object.__getattribute__")=false:=by rw [hx2];rfl
 unfold getAttr? getAttrBy? getAttrBy;refine q0x (wpAny_mkText (q0x (wpAny_attempt (wpAny_holding (q0x (T0.at (q0x (T1.at ?_))))))));dsimp only;rw [if_neg (by rw [hx1];exact q7x)];unfold getAttrByItsOwn hookBefore;rw [if_pos (show onTheHeap (Value.ref D)=true from rfl)];refine q0x (T3.at ?_)
 repeat (any_goals (first | assumption | wp_step | lk))
 refine codeAny_call_builtin F.excAttr_ValueError.ga.plain F.entry_bexc_ga (ga_check T0 TS (ga_entry (K:=K) X p ha hn htk hm ?_))
 repeat (any_goals (first | assumption | wp_step))
def kitx_exc (hg:findIn K (.ref D) "__getattribute__"=some (some (.builtin "BaseException.__getattribute__"))) (hgg:findIn K (.ref D) "__getattr__"=some none) (hsb:subIn K (.ref D) (.type "BaseException")=some true) (hd:hasDictIn K D=true) (ha:findIn K (.ref D) "__class__"=some (some (.builtin "object.__class__")))
  (hn:specialIn K (.builtin "object.__class__") "__get__"=some (some (.builtin "getset_descriptor.__get__"))) (htk:takesIn K (.builtin "object.__class__")=some true) (hm:mroIn K D (.type "object")=some true) :
  KitX K (.ref x) (.ref D) (ClsAt x D) where
 ty:=λM h _ p=>clsAt_ty M h p
 it:=λM h X _=>by
  obtain ⟨c,hc,_⟩:=any_some hd;unfold clsIn at hc
  split at hc
  ·rename_i u1 u2 u3 u4 ho
   intro A' Q' E' s' k q;unfold isType loadHead;exact q0x (wpAny_loadPart (k _ _ (X _ _ ho)) (q0y q))
  ·cases hc
 ne:=λh tp dd its n sl X e=>by
  obtain ⟨c,hc,_⟩:=any_some hd;refine Bool.eq_false_iff.mpr λq=>?_;obtain rfl:D=tp:=Value.ref.inj (beq_iff_eq.mp q);unfold clsIn at hc
  split at hc
  ·rename_i u1 u2 u3 u4 ho
   have z:=(X _ _ ho).symm.trans e;cases z
  ·cases hc
 ca:=λX p k=>zfm hg hgg hsb ha hn htk hm X p k
end
end My
namespace L2
open PySem PySem.Spec PyProof.Rows
section
variable {X:Cx} {l8:J7} {σ:St} {H H':Hp} {s s':Sh} {e C:Ad}
structure Mid (X:Cx) (H':Hp) (s:Heap) (s':Heap) (e C:Ad) (B:Heap) (a0:Vl) (T:Ad) (h:Heap):Prop where
 fly:Heap.FlyingW B (X.env::X.outer) e (.ref C) a0 h
 slots:s'.UpToSlots h
def mid_inv {B h:Heap} {a0:Vl} {T:Ad} (I:Inv X l8 σ H s) (hst:X.stack=X.env::X.outer)
  (u:Un (frs X.stack) [] H H' s.heap s'.heap) (hok:HOk X.prog X.w H' s'.heap) (bare:AllBare s'.gens) (os:s'.os=s.os) (fl:Fly X.base X.stack H' s.heap s'.heap e (.ref C))
  (nT:s.heap.get? T=none) (fT:H' T=none) (hB:∀ b o,b ∉ e::T::frs X.stack->s'.heap.get? b=some o->B.get? b=some o) (hfl:B.StaysIn h) (hsl:s'.heap.UpToSlots h) :
  Inv X l8 σ H' { s' with heap:=h }:=by
 obtain ⟨y1,y2,y3,y4,y5,_⟩:=fl;have fdat:∀ b∈frs X.stack,∃ o,s'.heap.get? b=some o/\∀ vs,o.data≠.fields vs:=λb hb=>(y2.mem hb).2;have keep:∀ b o,b ∉ frs X.stack->b≠e->b≠T->s'.heap.get? b=some o->h.get? b=some o:=λb o n n1 n2 q=>hfl b o (hB b o (by simp [n,n1,n2]) q)
 have slot:∀ b o,b∈frs X.stack->s'.heap.get? b=some o->∃ sl,h.get? b=some { o with slots:=sl }:=λb o hb q=>by
  obtain ⟨o',q',nf⟩:=fdat b hb;rw [q] at q';cases q';exact hsl b o q nf
 have old:∀ b o,s.heap.get? b=some o->b≠e/\b≠T:=λb o q=>⟨λz=>(by rw [z,y4] at q;cases q),λz=>(by rw [z,nT] at q;cases q)⟩
 have funt:∀ b∈frs X.stack,H' b=none:=λb hb=>by
  obtain ⟨_,o,ho,_⟩:=I.stack.mem hb;exact u.free b o ho (I.stkFree b hb) (by simp)
 have trk:∀ b o,H' b=some o->b ∉ frs X.stack/\b≠e/\b≠T:=λb o q=>⟨λhb=>(by rw [funt b hb] at q;cases q),λz=>(by rw [z,y5] at q;cases q),λz=>(by rw [z,fT] at q;cases q)⟩;refine I.call' (s':={ s' with heap:=h }) (ch:=[]) os ⟨λb o q n hb _=>?_,λb o q n hb _=>?_,u.free,λb o q _=>?_,u.tups,u.frzs,u.tbls⟩ (λb o q=>?_) bare (λb z=>absurd z (by simp))
 ·exact keep b o hb (old b o q).1 (old b o q).2 (u.keep b o q n hb (by simp))
 ·obtain ⟨sl,q1⟩:=u.slot b o q n hb (by simp)
  obtain ⟨sl',q2⟩:=slot b _ hb q1;exact ⟨sl',q2⟩
 ·obtain ⟨o',q1⟩:=u.there b o q (by simp)
  by_cases hb:b∈frs X.stack
  ·obtain ⟨sl,q2⟩:=slot b o' hb q1
   exact ⟨_,q2⟩
  ·exact ⟨_,keep b o' hb (old b o q).1 (old b o q).2 q1⟩
 ·exact (hok b o q).stay (λc v hc r=>by
   have z:c ∉ frs X.stack/\c≠e/\c≠T:=by
    rcases hc with rfl | hc
    ·exact trk _ _ q
    ·exact trk _ _ hc
   exact keep c v z.1 z.2.1 z.2.2 r) (λ_ z=>z) λ_ _ z=>z
def Landed (X:Cx) (l8:J7) (σ:St) (H':Hp) (e C:Ad) (s1:Sh):Prop :=
 ∃ (H:Hp) (s s':Sh) (B:Heap) (a0:Vl) (T:Ad),Inv X l8 σ H s/\Un (frs X.stack) [] H H' s.heap s'.heap/\HOk X.prog X.w H' s'.heap/\AllBare s'.gens/\s'.os=s.os/\Fly X.base X.stack H' s.heap s'.heap e (.ref C) /\
  s.heap.get? T=none/\H' T=none/\(∀ b o,b ∉ e::T::frs X.stack->s'.heap.get? b=some o->B.get? b=some o)/\Heap.FlyingW B (X.env::X.outer) e (.ref C) a0 s1.heap/\s'.heap.UpToSlots s1.heap/\s1={ s' with heap:=s1.heap }
def Landed.inv {s1:Sh} (l:Landed X l8 σ H' e C s1) (hst:X.stack=X.env::X.outer):Inv X l8 σ H' s1:=by
 obtain ⟨H,s,s',B,a0,T,I,u,hok,bare,os,fl,nT,fT,hB,hfl,hsl,es⟩:=l;rw [es];exact mid_inv (a0:=a0) I hst u hok bare os fl nT fT hB hfl.1 hsl
def Landed.cls {s1:Sh} (l:Landed X l8 σ H' e C s1):My.ClsAt e C s1.heap:=by
 obtain ⟨H,s,s',B,a0,T,I,u,hok,bare,os,fl,nT,fT,hB,hfl,hsl,es⟩:=l;exact hfl.there
def Landed.free {s1:Sh} (l:Landed X l8 σ H' e C s1):H' e=none:=by
 obtain ⟨H,s,s',B,a0,T,I,u,hok,bare,os,fl,_⟩:=l;exact fl.freeE
def Landed.again {s1:Sh} {M:Model} {A:Around} {E:J5} {Q:Unit->Sh->Prop} (l:Landed X l8 σ H' e C s1) (h:∀ s2,Landed X l8 σ H' e C s2->Q () s2):wpAny M A (setFlight (.ref e) none) Q E s1:=by
 obtain ⟨H,s,s',B,a0,T,I,u,hok,bare,os,fl,nT,fT,hB,hfl,hsl,es⟩:=l;refine lands_againW hfl λh' f2 u2=>h _ ⟨H,s,s',B,a0,T,I,u,hok,bare,os,fl,nT,fT,hB,f2,hsl.trans u2,?_⟩;show ({ s1 with heap:=h' }:Sh)={ s' with heap:=h' };rw [es]
def land {E:XK} {ev:Vl} {E':J5} {F:Sh->Prop} (I:Inv X l8 σ H s) (hst:X.stack=X.env::X.outer) (hf:X.env.frame=some X.env.locals) (h:CXe X.prog X.w X.base X.stack H s E ev s')
  (k:∀ e C H' s1,ev=.ref e->E (.ref C) none H'->Landed X l8 σ H' e C s1->F s1) :
  wpAny (model X.prog X.w) X.A (noteFrame ev X.env) (λ_ s2=>wpAny (model X.prog X.w) X.A (setFlight ev none) (λ_ s3=>F s3) E' s2) E' s':=by
 obtain ⟨e,C,H',rfl,os,bare,u,hok,fl,q⟩:=h;obtain ⟨y1,y2,y3,y4,y5,oe,ws,T,oT,ts,t1,t2,t3,t4,t6,t7,t8,t9,t10,t11,t12⟩:=id fl;have hfr:X.A.frames=some (X.env::X.outer):=by rw [← hst];exact I.ok.frames
 have bno:∀ b∈e::T::frs (X.env::X.outer),(PySem.W.hideAll s'.heap (e::T::frs (X.env::X.outer))).get? b=none:=λb hb=>PySem.W.hideAll_none _ hb;have bof:∀ b o,(PySem.W.hideAll s'.heap (e::T::frs (X.env::X.outer))).get? b=some o->s'.heap.get? b=some o:=λb o q=>PySem.W.of_hideAll _ q;have sz:1<ws.size:=(Array.getElem?_eq_some_iff.mp t4).1
 have fw:Heap.FlyingW (PySem.W.hideAll s'.heap (e::T::frs (X.env::X.outer))) (X.env::X.outer) e (.ref C) ws[0] s'.heap :=
  ⟨λb o q=>bof b o q,bno e (by simp),xj (hst ▸ y2) (λb hb=>bno b (by simp [hb])),oe,ws,T,oT,ts,t1,⟨t2,by simp⟩,t3,t4,bno T (by simp),t6,t7,t8,t9⟩
 refine wpAny_looks_onW hfr hf fw λh1 k1 u1=>?_;refine wpAny_landsW k1 λh2 k2 u2=>?_;refine k e C H' _ rfl q ⟨H,s,s',_,_,T,I,u,hok,bare,os,fl,t11,t12,λb o hb r=>?_,k2,u1.trans u2,rfl⟩;rw [hst] at hb;exact PySem.W.hideAll_get _ r hb
end
abbrev Cx.exc (X:Cx) (e:Ad):Cx:={ X with A:=X.A.mark (some (.ref e)),calm:=false,xe:=λ_ _=>False }
def Cx.Ok.exc {X:Cx} (ok:X.Ok) (e:Ad):(X.exc e).Ok :=
 ⟨ok.mod,ok.kind,ok.glob,ok.blt,ok.above,ok.inj,ok.has,ok.cab,(λz=>nomatch z),ok.frames,ok.stk,ok.exf,ok.bs,ok.bsz,ok.noex,ok.exfs,ok.funs,ok.frf⟩
section
variable {X:Cx} {l8:J7} {σ:St} {H H':Hp} {s s':Sh} {e C:Ad}
def Inv.exc (I:Inv X l8 σ H s) (e:Ad):Inv (X.exc e) l8 σ H s:=⟨I.ok.exc e,I.os,I.bare,I.base,I.loc,I.cell,I.free,I.freeC,I.pin,I.hok,I.len⟩
def Inv.unexc (I:Inv (X.exc e) l8 σ H s) (ok:X.Ok):Inv X l8 σ H s:=⟨ok,I.os,I.bare,I.base,I.loc,I.cell,I.free,I.freeC,I.pin,I.hok,I.len⟩
def excO (e C:Ad):HO:=.ext (My.ClsAt e C)
def Landed.held {s1:Sh} (l:Landed X l8 σ H' e C s1) (hst:X.stack=X.env::X.outer):Inv X l8 σ (upd H' e (excO e C)) s1:=by
 have J:=l.inv hst;have fe:=l.free;obtain ⟨oe,he,hc⟩:=l.cls;obtain ⟨H,s,s',B,a0,T,I,u,hok,bare,os,fl,_⟩:=l;have ne:∀ b o,s.heap.get? b=some o->b≠e:=λb o q z=>by rw [z,fl.newE] at q;cases q
 have ne0:∀ b o,X.s₀.heap.get? b=some o->b ∉ X.ex->b≠e:=λb o q hx=>by
  obtain ⟨o',q1⟩:=I.base.there b o q hx;exact ne b o' q1
 have neH:∀ b o,H' b=some o->b≠e:=λb o q z=>by rw [z,fe] at q;cases q
 refine ⟨J.ok,J.os,J.bare,⟨J.base.keep,J.base.slot,λb o q n hx=>?_,J.base.there,λb xs q=>?_,λb o x q=>?_,λb ps q=>?_⟩,J.loc,J.cell,?_,λx c q=>?_,λp hp=>?_,λb o q=>?_,J.len⟩
 ·rw [zj (ne0 b o q hx)];exact J.base.free b o q n hx
 ·have z:=J.base.tups b xs q
  rw [zj (neH _ _ z)];exact z
 ·have z:=J.base.frzs b o x q
  rw [zj (neH _ _ z)];exact z
 ·obtain ⟨m,z⟩:=J.base.tbls b ps q
  exact ⟨m,by rw [zj (neH _ _ z)];exact z⟩
 ·obtain ⟨m,⟨o,_,_,ho,_⟩,_⟩:=I.loc
  rw [zj (ne _ o ho)];exact J.free
 ·obtain ⟨v,o,ho,_⟩:=I.cell x c q
  rw [zj (ne _ o ho)];exact J.freeC x c q
 ·obtain ⟨q1,q2,q3,q4,q5⟩:=J.pin p hp
  obtain ⟨r1,_⟩:=I.pin p hp;exact ⟨q1,by rw [zj (ne _ _ r1)];exact q2,q3,q4,q5⟩
 ·by_cases hb:b=e
  ·subst hb
   rw [zi] at q;cases q;refine ⟨⟨oe,he,hc⟩,⟨oe,he⟩,λh1 h2 p k=>?_⟩;obtain ⟨o1,p1,p2⟩:=p;exact ⟨o1,k o1 p1,p2⟩
  ·rw [zj hb] at q
   exact (J.hok b o q).stay (λc v _ r=>r) (λc r=>by rw [zj (neH _ _ r)];exact r) λc xs r=>by rw [zj (neH _ _ r)];exact r
def PH (X:Cx) (hs:List ExceptHandler) (th:Ad->Ad->TS):Prop :=
 ∀ (l8:J7) (s1:Sh) (σ:St) (H':Hp) (e C:Ad) (D:Ends),Landed X l8 σ H' e C s1->th e C D σ H'->wpAny (model X.prog X.w) X.A (handleBy (.ref e) X.env hs) (SP X l8 D) X.xe s1
def ph_nil:PH X [] (λ_ _ _ _ _=>False):=λ_ _ _ _ _ _ _ _ h=>h.elim
def hNo (K:Fg) (B:Ad) (t:Ad->TS) (tr:Ad->Ad->TS):Ad->Ad->TS:=λe C D σ H'=>∃ b,PySem.W.exmOne K (.ref C) (.ref B)=some b /\
 if b=true then t e D σ (upd H' e (excO e C)) else tr e C D σ H'
def ph_no {x:Str} {B:Ad} {np pos:Pos} {b₀:Stmt} {suite:List Stmt} {rest:List ExceptHandler} {t:Ad->TS} {tr:Ad->Ad->TS} (hst:X.stack=X.env::X.outer) (hg:Gl X x) (hm:X.mg x=some (.ref B))
  (hs:∀ e,PSs (X.exc e) (b₀::suite) (t e)) (hr:PH X rest tr) (hd:(x == ("__debug__":Str))=false:=by decide) :
  PH X (.ExceptHandler (some (.Name x np)) none (b₀::suite) pos::rest) (hNo X.K B t tr):=by
 intro l8 s1 σ H' e C D l h;obtain ⟨b,hx,h⟩:=h;have J:=l.inv hst;refine wpAny_handleBy_cons (codeAny_handlers_test (Ya (J.exc e) hg hm ?_ hd)) (λz=>nomatch z);refine PySem.W.exm_one J.kIn (My.clsAt_ty _ _ l.cls) hx _ _ _ _ (λ_ _ z=>z) ?_
 cases b with
 | false=>exact hr l8 s1 σ H' e C D l (by simpa using h)
 | true =>
  rw [if_pos rfl] at h;refine codeAny_handlers_suite (l.again λs2 l2=>?_);have I2:=(l2.held hst).exc e;refine wpAny_mono (hs e l8 s2 _ _ _ I2 h) (λf s4 q=>?_) λ_ _ z=>z.elim
  cases f with
  | next=>obtain ⟨σ',H2,I4,q⟩:=q;exact ⟨_,_,I4.unexc J.ok,q⟩
  | brk=>obtain ⟨σ',H2,I4,q⟩:=q;exact ⟨_,_,I4.unexc J.ok,q⟩
  | cont=>obtain ⟨σ',H2,I4,q⟩:=q;exact ⟨_,_,I4.unexc J.ok,q⟩
  | ret u=>obtain ⟨v,σ',H2,I4,r,q⟩:=q;exact ⟨v,_,_,I4.unexc J.ok,r,q⟩
end
def trX (X:Cx) (l8:J7) (σ₀:St) (R:Ad->Hp->Prop):J5:=λev s' =>
 ∃ (H:Hp) (s:Sh) (E:XK),Inv X l8 σ₀ H s/\CXe X.prog X.w X.base X.stack H s E ev s'/\∀ C H',E (.ref C) none H'->R C H'
abbrev Cx.tr (X:Cx) (l8:J7) (σ₀:St) (R:Ad->Hp->Prop):Cx:={ X with pn:=X.pn++l8,xe:=trX X l8 σ₀ R }
def XE (R:Ad->Hp->Prop):XK:=λc _ H'=>∃ C,c=.ref C/\R C H'
section
variable {X:Cx} {l8:J7} {σ σ₀:St} {H H':Hp} {s s':Sh} {R:Ad->Hp->Prop}
def Cx.Ok.tr (ok:X.Ok):(X.tr l8 σ₀ R).Ok :=
 {ok with}
def Inv.tr (I:Inv X l8 σ H s):Inv (X.tr l8 σ₀ R) [] σ H s :=
 ⟨I.ok.tr,I.os,I.bare,I.base,I.loc,I.cell,I.free,I.freeC,λp hp=>I.pin p (by simpa using hp),I.hok,I.len⟩
def Inv.untr {ps:J7} (I:Inv (X.tr l8 σ₀ R) ps σ H s) (ok:X.Ok):Inv X l8 σ H s :=
 ⟨ok,I.os,I.bare,I.base,I.loc,I.cell,I.free,I.freeC,λp hp=>I.pin p (List.mem_append_left _ hp),I.hok,I.len⟩
def PS1 (X:Cx) (σ₀:St) (st:Stmt) (t:TS):Prop :=
 ∀ (l8:J7) (s:Sh) (H:Hp) (D:Ends),Inv X l8 σ₀ H s->t D σ₀ H->wpAny (model X.prog X.w) X.A (exec st X.env) (SP X l8 D) X.xe s
def PE1 (X:Cx) (σ₀:St) (e:Expr) (t:TE):Prop :=
 ∀ (l8:J7) (s:Sh) (H:Hp) (Q:VK),Inv X l8 σ₀ H s->t σ₀ H Q->wpAny (model X.prog X.w) X.A (eval e X.env) (EP X l8 σ₀ Q) X.xe s
def XW (CX:CXT) (X:Cx) (σ₀:St) (E:XK):Prop:=∀ (l8:J7) (H:Hp) (s:Sh) (e:Vl) (s':Sh),Inv X l8 σ₀ H s->CX X.stack H s E e s'->X.xe e s'
def pass_tr (ok:X.Ok):XW (CXe X.prog X.w X.base) (X.tr l8 σ₀ R) σ₀ (XE R):=λps H s e s' I q=>⟨H,s,XE R,I.untr ok,q,λC H' ⟨C',z,r⟩=>by cases z;exact r⟩
def run_fn1 {CX:CXT} {k:Nat} {f:Ad} {fd:FuncData} {ps:Jb} {sp:Sp} {dvs:Jj} {ds:J8} {E:XK} {Q:VK} {us:J8} {vs:Jj} (F:FnOk X.prog X.w X.K X.mg X.base CX k f fd ps sp) (hr:Room k X.A) (hb:Binds X.K fd ps ds) (hd:Vals dvs ds) (hx:XW CX X σ₀ E)
  (I:Inv X l8 σ₀ H s) (r:Vals vs us) (h:sp (vs++dvs) H Q E):wpAny (model X.prog X.w) X.A (call (.ref f) us) (EP X l8 σ₀ Q) X.xe s:=by
 have r2:Vals (vs++dvs) (us++ds):=r.append hd;have hl:(us++ds).length=ps.length:=by rw [← r2.length];exact F.len _ _ _ _ h
 refine wpAny_call (codeAny_mono (F.run X.A X.stack s H ⟨us,[]⟩ (us++ds) (vs++dvs) Q E hr I.env0 (hb s us I.kIn hl) r2 h) λr s' hq=>?_)
 cases r with
 | error e=>exact hx l8 H s e s' I hq
 | ok fl =>
  cases fl with
  | ret u=>exact I.after hq
  | next=>exact False.elim hq
  | brk=>exact False.elim hq
  | cont=>exact False.elim hq
def pe1_call {CX:CXT} {k:Nat} {f:Ad} {fd:FuncData} {ps:Jb} {sp:Sp} {E:XK} {x:Str} {p pos:Pos} {e:Expr} {es:Jd} {t:TA} (F:FnOk X.prog X.w X.K X.mg X.base CX k f fd ps sp) (hr:Room k X.A) (hg:Gl X x) (hm:X.mg x=some (.ref f)) (hk:PySem.W.keepIn X.K (.ref f)=true) (hb:Binds X.K fd ps []) (hx:XW CX X σ₀ E)
  (ha:PA X (e::es) t) (hdb:(x == ("__debug__":Str))=false:=by decide) (he:starEach (e::es) X.env=(false,eval e X.env)::starEach es X.env:=by rfl) (hpl:(backTo pos (starEach es X.env)).any (·.1)=false:=by rfl) :
  PE1 X σ₀ (.Call (.Name x p) (e::es) [] pos) (zbm sp [] E t):=by
 intro l8 s H Q I h;refine wpAny_Call_Name_kw (Ya I hg hm ?_ hdb);refine PySem.W.callWith_K (h₀:=X.base) I.ok.mod.kin hk (thn (ha pos l8 s σ₀ H _ I h) λus s1 ⟨vs,H1,I1,r,q⟩=>⟨I1.kIn,?_⟩) he hpl;exact run_fn1 F hr hb .nil hx I1 r q
structure Disp (P:Program) (w:World) (K:Fg) (mg:J0) (base:Heap) (CX:CXT) (k:Nat) (m:Str) (ps:Jb) (sp:Sp) (C:Ad):Prop where
 cl:Cls K C
 to:∃ (f:Ad) (fd:FuncData),Meth K C m f/\FnOk P w K mg base CX k f fd ps sp/\Binds K fd ps []
inductive tTry (t:(Ad->Hp->Prop)->TS) (th:Ad->Ad->TS) (D:Ends) (σ:St) (H:Hp):Prop
 | mk (R:Ad->Hp->Prop) (_:t R D σ H) (_:∀ e C H',H' e=none->R C H'->th e C D σ H')
def ps_try {st:Stmt} {h₀:ExceptHandler} {hs:List ExceptHandler} {pos:Pos} {t:(Ad->Hp->Prop)->TS} {th:Ad->Ad->TS} (hst:X.stack=X.env::X.outer) (hf:X.env.frame=some X.env.locals)
  (hb:∀ l8 σ₀ R,X.Ok->PS1 (X.tr l8 σ₀ R) σ₀ st (t R)) (hh:PH X (h₀::hs) th):PS X (.Try [st] (h₀::hs) [] [] pos) (tTry t th):=by
 intro l8 s σ H D I h;obtain ⟨R,h,k⟩:=h;refine wpAny_Try_except (wpAny_execs_cons (wpAny_mono (hb l8 σ R I.ok [] s H D I.tr h) (λf s1 q=>?_) λev s1 q=>?_))
 ·cases f with
  | next =>
   obtain ⟨σ',H2,I4,q⟩:=q;exact wpAny_execs_nil (wpAny_execs_nil ⟨_,_,I4.untr I.ok,q⟩)
  | brk=>obtain ⟨σ',H2,I4,q⟩:=q;exact ⟨_,_,I4.untr I.ok,q⟩
  | cont=>obtain ⟨σ',H2,I4,q⟩:=q;exact ⟨_,_,I4.untr I.ok,q⟩
  | ret u=>obtain ⟨v,σ',H2,I4,r,q⟩:=q;exact ⟨v,_,_,I4.untr I.ok,r,q⟩
 ·obtain ⟨H1,s0,E,I1,c,z⟩:=q
  exact land I1 hst hf c λe C H' s2 ee q l=>(by subst ee;exact hh l8 s2 σ H' e C D l (k e C H' l.free (z C H' q)))
def ps_raise {x:Str} {C:Ad} {bm:J8} {B newId initId:String} {np cpos pos:Pos} {e₀:Expr} {rest:Jd} {ta:TA} {E:XK} (O:OwnCls x C bm newId X.mg X.base) (FB:ExcBaseFacts B newId initId bm) (hc:X.calm=true) (hg:Gl X x) (ht:Throws X E) (ha:PA X (e₀::rest) ta)
  (he:starEach (e₀::rest) X.env=(false,eval e₀ X.env)::starEach rest X.env:=by rfl) (hplain:(backTo cpos (starEach rest X.env)).any (·.1)=false:=by rfl) (hd:(x == ("__debug__":Str))=false:=by decide) :
  PS X (.Raise (some (.Call (.Name x np) (e₀::rest) [] cpos)) none pos) (λ_ σ H=>ta σ H λvs H1=>vs.length<=sizeLine/\E (.ref C) none H1):=by
 intro l8 s σ H D I h;obtain ⟨tl,N,nm,q,bs,hdct,sn,sub,ab,col,dd,k0,k1,k2,k3,k5,mN,hC,hN,hni,T⟩:=O.obj;refine wpAny_Raise_call_subT (C:=C) (nm:=nm) (q:=q) (N:=N) (bs:=bs) (bm:=tl) (hdct:=hdct) (sn:=sn) (sub:=sub) (ab:=ab) (col:=col) (dd:=dd) (k0:=k0) (k1:=k1) (k2:=k2) (k3:=k3) (k5:=k5)
  FB (mN:=mN) (T.hasType FB.hasBase) (I.ok.hd hc) (by rw [he];show (false || (backTo cpos (starEach rest X.env)).any (·.1))=false;rw [hplain];rfl) hni (Ya I hg O.bound ⟨rfl,?_⟩ hd)
 have h1:=ha cpos l8 s σ H _ I h;rw [he] at h1 ⊢;refine Calls.evalArgs_plain (wpAny_mono h1 (λvs s2 hq=>?_) λ_ _ z=>z);obtain ⟨us,H1,I1,r,hl,q⟩:=hq;exact ⟨rfl,by rw [← r.length];exact hl,I1.bk _ _ hC,hN.keeps I1.bk,T.keeps I1.bk,λh' e m=>ht l8 σ H1 s2 h' e C _ I1 m q⟩
end
def xT (w:World) (K:Fg) (a:Ad):Prop:=∃ es n,K.lookup a=some ⟨.type "dict",none,.dict es n,#[]⟩/\PySem.W.KeysLit w.params es.toList
section
variable {X:Cx} {a:Ad} {ke:Expr} {tk:TE} {p pos:Pos} {D:Str}
def top_item {l8:J7} {σ:St} {H:Hp} {s:Sh} {x:Str} {t:Tok} {u:Vl} {A:Around} {E:J5} {Q:J5} (I:Inv X l8 σ H s) (T:xT X.w X.K a) (e:PySem.W.nsIn X.K a x=some (some u)) (h:Q u { s with toks:=s.toks+1 }) :
  wpAny (model X.prog X.w) A (getItem (.ref a) (.str x t)) Q E s:=by
 obtain ⟨es,n,hl,hk⟩:=T;exact wpAny_getItem_of (strKind_is X.prog X.w x t) (PySem.W.mapOf_K (prog:=X.prog) I.kIn hl hk) (PySem.W.find_K hl e) h
def top_in {l8:J7} {σ:St} {H:Hp} {s:Sh} {x:Str} {t:Tok} {r:Ja} {A:Around} {E:J5} {Q:J5} (I:Inv X l8 σ H s) (T:xT X.w X.K a) (e:PySem.W.nsIn X.K a x=some r) (lo:(a == sysModules)=false) (h:Q (.bool r.isSome) { s with toks:=s.toks+1 }) :
  wpAny (model X.prog X.w) A (compareOp .In (.str x t) (.ref a)) Q E s:=by
 obtain ⟨es,n,hl,hk⟩:=T;exact wpAny_in_of (strKind_is X.prog X.w x t) lo (PySem.W.mapOf_K (prog:=X.prog) I.kIn hl hk) (by rw [PySem.W.find_K hl e];exact h)
inductive rTopIn (w:World) (K:Fg) (x y:V) (H:Hp) (Q:VK):Prop
 | mk (k:Str) (a:Ad) (r:Ja) (_:x=.str k) (_:y=.ref a) (_:xT w K a) (_:(a == sysModules)=false) (_:PySem.W.nsIn K a k=some r) (_:Q (.bl r.isSome) H)
def zbp:OpR X (compareOp .In) (rTopIn X.w X.K):=by
 intro l8 s σ H x y v u Q I rx ry h;obtain ⟨k,a,r,rfl,rfl,T,lo,e,q⟩:=h;obtain ⟨t,rfl⟩:=(show ∃ t,v=Value.str k t from rx);cases (show u=Value.ref a from ry);exact top_in I T e lo ⟨.bl r.isSome,H,I.tok _,rfl,q⟩
inductive tCallV_S (P:Program) (w:World) (K:Fg) (mg:J0) (base:Heap) (CX:CXT) (k:Nat) (E:XK) (t:TA) (σ:St) (Q:VK) (x:V) (H1:Hp):Prop
 | mk (f:Ad) (fd:FuncData) (ps:Jb) (sp:Sp) (_:x=.ref f) (_:FnOk P w K mg base CX k f fd ps sp) (_:PySem.W.keepIn K (.ref f)=true) (_:Binds K fd ps []) (_:t σ H1 λvs H2=>sp vs H2 Q E)
def tCallV (P:Program) (w:World) (K:Fg) (mg:J0) (base:Heap) (CX:CXT) (k:Nat) (E:XK) (tf:TE) (t:TA):TE:=λσ H Q=>tf σ H λx H1=>tCallV_S P w K mg base CX k E t σ Q x H1
def Xd {CX:CXT} {k:Nat} {E:XK} {func e:Expr} {es:Jd} {tf:TE} {t:TA} (hf:PE X func tf) (hr:Room k X.A) (hx:xa CX X E) (ha:PA X (e::es) t)
  (he:starEach (e::es) X.env=(false,eval e X.env)::starEach es X.env:=by rfl) (hpl:(backTo pos (starEach es X.env)).any (·.1)=false:=by rfl)
  (hc:eval (.Call func (e::es) [] pos) X.env=(do callWith pos (← eval func X.env) [] (backTo pos (starEach (e::es) X.env)) (backToKw pos (keywordEach [] X.env))):=by rfl) :
  PE X (.Call func (e::es) [] pos) (tCallV X.prog X.w X.K X.mg X.base CX k E tf t):=by
 intro l8 s σ H Q I h;refine Call_ (thn (hf l8 s σ H _ I h) λu s1 ⟨x,H1,I1,rx,f,fd,ps,sp,ex,F,hk,hb,q⟩=>?_) hc;subst ex;obtain rfl:u=Value.ref f:=rx;refine PySem.W.callWith_K (h₀:=X.base) I.ok.mod.kin hk (thn (ha pos l8 s1 σ H1 _ I1 q) λus s2 ⟨vs,H2,I2,r,q2⟩=>⟨I2.kIn,?_⟩) he hpl;exact zcl (dvs:=[]) (ds:=[]) F hr hb .nil hx I2 r (by simpa using q2)
end
section
variable {X:Cx}
inductive rIxTop (w:World) (K:Fg) (x y:V) (H:Hp) (Q:VK):Prop
 | mk (a:Ad) (k:Str) (u:Vl) (v:V) (_:x=.ref a) (_:y=.str k) (_:xT w K a) (_:PySem.W.nsIn K a k=some (some u)) (_:RelV v u) (_:Q v H)
def zcz:IxR X (rIxTop X.w X.K):=by
 intro value slice l8 s σ H x y v u Q I rx ry h hs;obtain ⟨a,k,u',z,rfl,rfl,T,e,r,q⟩:=h;cases (show v=Value.ref a from rx);obtain ⟨t,rfl⟩:=(show ∃ t,u=Value.str k t from ry);have T':=T;obtain ⟨es,n,hl,hk⟩:=T';exact tail_any (PySem.W.mapOf_K (prog:=X.prog) I.kIn hl hk).typeIs slot_dict_getitem.lookup (top_item I T e ⟨z,H,I.tok _,r,q⟩) hs
structure ExcCls (K:Fg) (C:Ad):Prop where
 hg:PySem.W.findIn K (.ref C) "__getattribute__"=some (some (.builtin "BaseException.__getattribute__"))
 hgg:PySem.W.findIn K (.ref C) "__getattr__"=some none
 hsb:PySem.W.subIn K (.ref C) (.type "BaseException")=some true
 hd:PySem.W.hasDictIn K C=true
 ha:PySem.W.findIn K (.ref C) "__class__"=some (some (.builtin "object.__class__"))
 hn:PySem.W.specialIn K (.builtin "object.__class__") "__get__"=some (some (.builtin "getset_descriptor.__get__"))
 ht:PySem.W.takesIn K (.builtin "object.__class__")=some true
 hm:PySem.W.mroIn K C (.type "object")=some true
def TyX (K:Fg) (H:Hp) (x:V) (t:Vl):Prop:=TyOf K H x t∨∃ e C,x=.ref e/\H e=some (excO e C)/\t=.ref C/\ExcCls K C
inductive rIsi (K:Fg) (vs:Jj) (H:Hp) (Q:VK):Prop
 | mk (x c:V) (cv t:Vl) (b:Bool) (_:vs=[x,c]) (_:RelV c cv) (_:(∀ u,RelV c u->u=cv)) (_:TyX K H x t) (_:PySem.W.kitOne K t cv=some b) (_:Q (.bl b) H)
def zC:Yk X (.builtin "isinstance") (rIsi X.K):=by
 intro l8 s σ H xs us Q I r h;obtain ⟨x,c,cv,t,b,rfl,rc,ic,ty,e,q⟩:=h;obtain ⟨u,w',rfl,ru,rw'⟩:=vals2 r;cases ic w' rw';rcases ty with ty | ⟨ea,C,rfl,he,rfl,ec⟩
 ·exact isinst_ok I ru ty e λtk=>⟨.bl b,H,I.tok _,rfl,q⟩
 ·cases (show u=Value.ref ea from ru)
  obtain ⟨p,_⟩:=(show ObjOk X.prog X.w H s.heap ea (excO ea C) from I.hok ea _ he);exact PySem.W.kia_one (My.kitx_exc ec.hg ec.hgg ec.hsb ec.hd ec.ha ec.hn ec.ht ec.hm) I.kIn p e (λz=>nomatch z) λtk=>⟨.bl b,H,I.tok _,rfl,q⟩
end
def ZM {P:Program} {w:World} {base:Heap} {X:Cx}:xa (CXe P w base) X E0:=λ_ _ _ _ _ _ _ h=>by
 obtain ⟨_,_,_,_,_,_,_,_,_,q⟩:=h;exact q.elim
section
variable {P:Program} {w:World} {K:Fg} {mg:J0} {base:Heap}
def Fun.okE {x me:Str} {st:Stmt} {f:Ad} {fd:FuncData} {N ps:Jb} {k:Nat} {sp:Sp} (F:Fun K x me st f fd) (S:FnScope N ps (ze st)) (len:∀ vs H Q E,sp vs H Q E->vs.length=ps.length)
  (hbody:∀ (mh:Vl) (A:Around) (outer:List Env) (s:Sh) (H:Hp) (vs:Jj) (Q:VK) (E:XK),Room k (A.deeper (envOfC me (ze st) s.heap.objs.size f mh))->sp vs H Q E ->
   ∃ t,PSs (yd (CXe P w base) P w K mg base N me (ze st) f mh A outer s H E) (zR st) t/\t { nx:=λ_ H'=>Q .non H',rt:=Q } (start N vs) H):FnOk P w K mg base (CXe P w base) (k+1) f fd ps sp:=by
 obtain ⟨oc,od,kV,doc,pm,an,mh,ct,osl,rfl,lk,hcd⟩:=F.ex;exact fn_of lk hcd S len λA outer s H vs Q E hr hsp=>hbody mh A outer s H vs Q E hr hsp
def zk (K:Fg) (mg:J0) (x:Str) (st:Stmt) (ps:Jb):Prop:=∃ (f:Ad) (fd:FuncData),mg x=some (.ref f)/\Fun K x x st f fd/\Binds K fd ps []
def defIn_mk {h:Heap} {x:Str} {st:Stmt} {ps:Jb} {f:Ad} {oc:Vl} {od an:Option Ad} {osl:Array (Ja)} {kV doc pm mh ct:Vl} (X:K.In h) (G:h.Ns mainGlobals mg)
  (a:PySem.W.nsIn K mainGlobals x=some (some (.ref f))) (l:K.lookup f=some ⟨oc,od,.func (PySem.W.fnOf x x (yf st) (zR st) (ze st) .none kV doc pm an mh ct),osl⟩)
  (c:PySem.W.codeIn K mh x=true) (k:PySem.W.keepIn K (.ref f)=true)
  (b:∀ (kV doc pm:Vl) (an:Option Ad) (mh ct:Vl) (us:J8),us.length=ps.length->bindArgs (PySem.W.fnOf x x (yf st) (zR st) (ze st) .none kV doc pm an mh ct) ⟨us,[]⟩=pure (ps.zip us)):zk K mg x st ps :=
 ⟨f,_,PySem.W.mg_of X G a,YV l c k,(YV l c k).binds b⟩
def Ok (P:Program) (w:World) (K:Fg) (mg:J0) (base:Heap) (CX:CXT) (k:Nat) (x:Str) (ps:Jb) (sp:Sp):Prop :=
 ∃ (f:Ad) (fd:FuncData),mg x=some (.ref f)/\PySem.W.keepIn K (.ref f)=true/\Binds K fd ps []/\FnOk P w K mg base CX k f fd ps sp
def Ok.mono {CX:CXT} {j k:Nat} {x:Str} {ps:Jb} {sp:Sp} (o:Ok P w K mg base CX j x ps sp) (h:j<=k):Ok P w K mg base CX k x ps sp:=by
 obtain ⟨f,fd,a,b,c,d⟩:=o;exact ⟨f,fd,a,b,c,d.mono h⟩
end
def zv {X:Cx} {CX:CXT} {k:Nat} {x:Str} {ps:Jb} {sp:Sp} {E:XK} {p pos:Pos} {e:Expr} {es:Jd} {t:TA} (o:Ok X.prog X.w X.K X.mg X.base CX k x ps sp) (hr:Room k X.A) (hg:Gl X x) (hx:xa CX X E) (ha:PA X (e::es) t)
  (hdb:(x == ("__debug__":Str))=false:=by decide) (he:starEach (e::es) X.env=(false,eval e X.env)::starEach es X.env:=by rfl) (hpl:(backTo pos (starEach es X.env)).any (·.1)=false:=by rfl) :
  PE X (.Call (.Name x p) (e::es) [] pos) (zbm sp [] E t):=by
 obtain ⟨f,fd,a,b,c,d⟩:=o;exact pe_call d hr hg a b c .nil hx ha hdb he hpl
def pe1_ok {X:Cx} {σ₀:St} {CX:CXT} {k:Nat} {x:Str} {ps:Jb} {sp:Sp} {E:XK} {p pos:Pos} {e:Expr} {es:Jd} {t:TA} (o:Ok X.prog X.w X.K X.mg X.base CX k x ps sp) (hr:Room k X.A) (hg:Gl X x) (hx:XW CX X σ₀ E) (ha:PA X (e::es) t)
  (hdb:(x == ("__debug__":Str))=false:=by decide) (he:starEach (e::es) X.env=(false,eval e X.env)::starEach es X.env:=by rfl) (hpl:(backTo pos (starEach es X.env)).any (·.1)=false:=by rfl) :
  PE1 X σ₀ (.Call (.Name x p) (e::es) [] pos) (zbm sp [] E t):=by
 obtain ⟨f,fd,a,b,c,d⟩:=o;exact pe1_call d hr hg a b c hx ha hdb he hpl
theorem zc0:∀ {ns:J6} {us:J8},Vals (ns.map V.int) us->IntsAre us ns
 | [],_,.nil=>.nil
 | n::ns,_,.cons ⟨t,e⟩ r=>by subst e;exact .cons n t (zc0 r)
section
variable {X:Cx}
def zal:OpR X (binaryOp .FloorDiv) (rI (λ_ j=>j≠0/\-18446744073709551616<j/\j<18446744073709551616) λi j=>.int (i.fdiv j)):=opI λi j _ _ _ _ _ hc q=>floordiv_int hc.1 q (.inl (PyProof.noPylong_of_log2 (by
 have h64:j.natAbs<2 ^ 65:=by omega
 have:=(Nat.log2_lt (by omega:j.natAbs≠0)).mpr h64;omega)))
end
inductive sp1 (g:Int->V) (vs:Jj) (H:Hp) (Q:VK) (_:XK):Prop
 | mk (n:_) (_:vs=[.int n]) (_:Q (g n) H)
inductive sp2 (C:Int->Int->Prop) (g:Int->Int->Int) (vs:Jj) (H:Hp) (Q:VK) (_:XK):Prop
 | mk (a b:_) (_:vs=[.int a,.int b]) (_:C a b) (_:Q (.int (g a b)) H)
def len1 {g:Int->V}:∀ vs H Q E,sp1 g vs H Q E->vs.length=1:=by rintro vs H Q E ⟨n,e,_⟩;rw [e];rfl
def len2 {C:Int->Int->Prop} {g:Int->Int->Int}:∀ vs H Q E,sp2 C g vs H Q E->vs.length=2:=by rintro vs H Q E ⟨a,b,e,_⟩;rw [e];rfl
def xR {X:Cx} {x:Str} {i:Int} {t:Tok} {pos:Pos} (hm:X.mg x=some (.int i t)) (hg:Gl X x:=by rfl) (hd:(x == ("__debug__":Str))=false:=by decide):PE X (.Name x pos) (tC (.int i)):=pe_glob hg hm (v:=.int i) ⟨_,rfl⟩ hd
def zZ {X:Cx} {x:Str} {a:Ad} {pos:Pos} (hm:X.mg x=some (.ref a)) (hg:Gl X x:=by rfl) (hd:(x == ("__debug__":Str))=false:=by decide):PE X (.Name x pos) (tC (.ref a)):=pe_glob hg hm (v:=.ref a) rfl hd
def Xs {X:Cx} {x:Str} {n:String} {pos:Pos} (hm:X.mg x=none) (hv:bootBuiltins x=some (.type n)) (hg:Gl X x:=by rfl) (hn:x≠"__name__":=by decide) (hd:(x == ("__debug__":Str))=false:=by decide):PE X (.Name x pos) (tC (.ty n)):=pe_bltn hg hm hv (v:=.ty n) rfl hn hd
abbrev Cx.comp (X:Cx) (scope:Scope) (cl:List (Str×Ad)) (NY:Jb) (s3:Sh) (H3:Hp) (fp:Jc):Cx :=
 { X with N:=NY,s₀:=s3,H₀:=H3,env:=compEnvC scope cl s3.heap.objs.size X.env,outer:=X.stack,ex:=fp,fn:=λ_=>false,pn:=[],xe:=λ_ _=>False }
abbrev Lz:Obj:={ cls:=.type "list",data:=.seq ([]:J8).toArray }
abbrev pz (s:Sh):Sh:={ s with heap:=s.heap.push Lz }
abbrev Xz (X:Cx) (scope:Scope) (cl:List (Str×Ad)) (NY:Jb) (s2:Sh) (H2:Hp) (fp:Jc):Cx:=X.comp scope cl NY (pz s2) (upd H2 s2.heap.objs.size (.lst [])) fp
structure Sees (X:Cx) (scope:Scope) (cl:List (Str×Ad)):Prop where
 kind:scope.kind=.function
 clos:closureFor scope X.env=pure cl
 nocell:∀ y∈scope.names,y.2≠.cell
 names:∀ y∈scope.names,y.2=.local->scope.names.lookup y.1=some .local
 sub:∀ x c,cl.lookup x=some c->X.env.cells.lookup x=some c
 has:∀ x,((compEnvC scope cl 0 X.env).kindOf x=some .cell∨(compEnvC scope cl 0 X.env).kindOf x=some .free)->∃ c,cl.lookup x=some c
section
variable {X:Cx} {l8:J7} {σ:St} {H3:Hp} {s3:Sh} {scope:Scope} {cl:List (Str×Ad)} {NY:Jb} {fp:Jc}
def comp_ok (I:Inv X l8 σ H3 s3) (S:Sees X scope cl) (hfp:∀ b∈fp,Yf X l8 H3 b) (hob:∀ b∈fp,∃ o,s3.heap.get? b=some o):(X.comp scope cl NY s3 H3 fp).Ok where
 mod:=I.ok.mod
 kind:=S.kind
 glob:=I.ok.glob
 blt:=I.ok.blt
 above:=Nat.le_refl _
 inj:=λx y c a b=>I.ok.inj x y c (S.sub _ _ a) (S.sub _ _ b)
 has:=λx h=>S.has x h
 cab:=λ_ _ h=>nomatch h
 hd:=I.ok.hd
 frames:=I.ok.frames
 stk:=.inl rfl
 exf:=λb hb=>⟨λz=>by
  obtain ⟨o,q⟩:=hob b hb;exact absurd (Heap.lt_size q) (by rw [z];exact Nat.lt_irrefl _),λx c q=>(hfp b hb).2.2.2.2.1 x c (S.sub _ _ q)⟩
 bs:=I.bs
 bsz:=Nat.le_trans I.ok.bsz I.sz
 noex:=λb o q hb=>by
  rcases (hfp b hb).2.2.2.1 with z | z
  ·exact I.ok.noex b o q z
  ·exact absurd (q7z (Heap.lt_size q) (Nat.le_trans I.ok.bsz z)) (Nat.lt_irrefl _)
 exfs:=λb hb z=>by
  rcases List.mem_cons.mp (I.stkSub b z) with y | y
  ·exact (hfp b hb).2.1 y
  ·exact (hfp b hb).2.2.1 y
 funs:=I.stack
 frf:=I.stkFree
def zei {h1:Heap} {t:Nat} {σY:St} (I:Inv X l8 σ H3 s3) (S:Sees X scope cl) (hfp:∀ b∈fp,Yf X l8 H3 b) (hob:∀ b∈fp,∃ o,s3.heap.get? b=some o)
  (hn:h1.Ns s3.heap.objs.size λ_=>none) (hk:∀ b o,s3.heap.get? b=some o->h1.get? b=some o) (hl:σY.length=NY.length)
  (hσ:∀ (i:Nat) (x:Str) (v:V),NY[i]?=some x->σY[i]?=some (some v)->∃ c u,(((compEnvC scope cl 0 X.env).kindOf x=some .cell∨(compEnvC scope cl 0 X.env).kindOf x=some .free))/\cl.lookup x=some c/\RelV v u/\s3.heap.IsCell c (some u)) :
  Inv (X.comp scope cl NY s3 H3 fp) [] σY H3 { s3 with heap:=h1,toks:=t } where
 ok:=comp_ok I S hfp hob
 os:=rfl
 bare:=I.bare
 base:=Un.kept hk
 loc:=⟨_,hn,λi x v e1 e2 _=>by
  obtain ⟨c,u,k,q,r,z⟩:=hσ i x v e1 e2;obtain ⟨o,z1,z2⟩:=z;exact ⟨u,r,.inr ⟨k,c,q,o,hk _ _ z1,z2⟩⟩⟩
 cell:=λx c q=>by
  obtain ⟨v,o,z1,z2⟩:=I.cell x c (S.sub _ _ q);exact ⟨v,o,hk _ _ z1,z2⟩
 free:=I.hok.fresh (Nat.le_refl _)
 freeC:=λx c q=>I.freeC x c (S.sub _ _ q)
 pin:=λp hp=>absurd hp (by simp)
 hok:=I.hok.kept hk
 len:=hl
def zbz {Y:J7} {σY:St} {H':Hp} {s':Sh} {h':Heap} (I:Inv X l8 σ H3 s3) (hfp:∀ b∈fp,Yf X l8 H3 b) (J:Inv (X.comp scope cl NY s3 H3 fp) Y σY H' s') (hs:Heap.SameBut s3.heap.objs.size s'.heap h') :
  Inv X l8 σ H' { s' with heap:=h' }:=by
 have ne:∀ b o,s3.heap.get? b=some o->b≠s3.heap.objs.size:=λb o q=>Nat.ne_of_lt (Heap.lt_size q);have B:=J.base;refine I.call' (s':={ s' with heap:=h' }) (ch:=fp) J.os ⟨λb o q n hb hx=>?_,λb o q n hb hx=>?_,B.free,λb o q hx=>?_,B.tups,B.frzs,B.tbls⟩ (λb o q=>?_) J.bare λb hb=>?_
 ·exact (hs.2 b (ne b o q)).trans (B.keep b o q n hb hx)
 ·obtain ⟨sl,z⟩:=B.slot b o q n hb hx
  exact ⟨sl,(hs.2 b (ne b o q)).trans z⟩
 ·obtain ⟨o',z⟩:=B.there b o q hx
  exact ⟨o',(hs.2 b (ne b o q)).trans z⟩
 ·have hf:H' s3.heap.objs.size=none:=J.free
  refine (J.hok b o q).stay (λc v hc r=>(hs.2 c ?_).trans r) (λ_ z=>z) λ_ _ z=>z;rintro rfl;rcases hc with z | z
  ·rw [← z,hf] at q;cases q
  ·rw [hf] at z;cases z
 ·obtain ⟨_,f2,_,f4,f5,f6⟩:=hfp b hb
  exact ⟨f4,f2,f5,f6⟩
end
section
variable {prog:Program} {w:World} {A:Around} {R:Result->Sh->Prop} {s:Sh}
theorem comp_loop {elt target iter:Expr} {scope:Scope} {pos:Pos} {it acc:Vl} {env:Env} (I:Nat->Sh->Prop)
  (turn:∀ n s,I n s->wpAny (model prog w) A (pyNext it) (λr s₁=>match r with
   | none=>R (.ok .next) s₁
   | some v=>wpAny (model prog w) A (letOwnedTupleGo target it v) (λ_ s₂=>wpAny (model prog w) A (assign target env v) (λ_ s₃=>wpAny (model prog w) A (eval elt env) (λx s₄ =>
     wpAny (model prog w) A (call (.builtin "list.append") [acc,x]) (λ_ s₅=>∃ m,m<n/\I m s₅) (λ_ _=>False) s₄) (λ_ _=>False) s₃) (λ_ _=>False) s₂) (λ_ _=>False) s₁) (λ_ _=>False) s)
  (n:Nat) (h:I n s):codeAny (model prog w) A (.compLoop (.ListComp elt [⟨target,iter,[],0⟩] scope pos) 0 it acc env) R s:=by
 refine codeAny_loop rfl I (λn s hI=>?_) n h;show wpAny _ _ ((compTurn (.ListComp elt [⟨target,iter,[],0⟩] scope pos) 0 it acc env).onRaise (λx=>do noteFrame x env;theTreesLotGoes x)) _ _ s;refine wpAny_noted ?_;rw [compTurn_list1];refine q0x (wpAny_standAt (q0x (wpAny_mono (turn n s hI) (λr s₁ h₁=>?_) λ_ _ z=>z.elim)))
 cases r with
 | none=>exact q0y h₁
 | some v =>
  refine q0x (wpAny_mono h₁ (λ_ s₂ h₂=>?_) λ_ _ z=>z.elim);refine q0x (wpAny_mono h₂ (λ_ s₃ h₃=>?_) λ_ _ z=>z.elim);refine q0x (q0x (wpAny_mono h₃ (λx s₄ h₄=>?_) λ_ _ z=>z.elim));exact q0x (wpAny_mono h₄ (λ_ s₅ h₅=>q0y (q0y ⟨rfl,h₅⟩)) λ_ _ z=>z.elim)
end
inductive CompW (J:It) (g:TG) (te:TE) (σY:St) (H1:Hp) (D:Ad) (Q:VK):Prop
 | mk (W:Nat->Nat->St->Hp->Prop) (_:(∃ m,W 0 m σY H1)) (_:∀ i m σ' H',W i m σ' H'->(J.stop i H'/\Q (.ref D) H')∨(J.go i H'/\∃ N:St->Hp->Prop,(∀ σ2 H2,N σ2 H2->∃ m',m'<m/\W (i+1) m' σ2 H2)/\∀ x H2,J.yld i H' x H2->g x σ' H2 λσ3 H3=>te σ3 H3 λv H4=>∃ xs,H4 D=some (.lst xs)/\xs.length<sizeLine/\N σ3 (upd H4 D (.lst (xs++[v]))))):CompW J g te σY H1 D Q
inductive tComp_S (g:TG) (te:TE) (σ0:St->Hp->St->Prop) (σ:St) (Q:VK) (J:It) (H1:Hp):Prop
 | mk (σY:_) (_:σ0 σ H1 σY) (_:∀ D,H1 D=none->CompW J g te σY (upd H1 D (.lst [])) D Q)
def tComp (wi:TI) (g:TG) (te:TE) (σ0:St->Hp->St->Prop):TE:=λσ H Q=>wi σ H λJ H1=>tComp_S g te σ0 σ Q J H1
section
variable {prog:Program} {w:World} {A:Around} {R:Result->Sh->Prop} {s:Sh}
theorem zfh {elt target iter tst:Expr} {scope:Scope} {pos:Pos} {it acc:Vl} {env:Env} (I:Nat->Sh->Prop)
  (turn:∀ n s,I n s->wpAny (model prog w) A (pyNext it) (λr s₁=>match r with
   | none=>R (.ok .next) s₁
   | some v=>wpAny (model prog w) A (letOwnedTupleGo target it v) (λ_ s₂=>wpAny (model prog w) A (assign target env v) (λ_ s₃=>wpAny (model prog w) A (isTrue tst env (eval tst env)) (λok t₃=>match ok with
     | true=>wpAny (model prog w) A (eval elt env) (λx s₄=>wpAny (model prog w) A (call (.builtin "list.append") [acc,x]) (λ_ s₅=>∃ m,m<n/\I m s₅) (λ_ _=>False) s₄) (λ_ _=>False) t₃
     | false=>∃ m,m<n/\I m t₃) (λ_ _=>False) s₃) (λ_ _=>False) s₂) (λ_ _=>False) s₁) (λ_ _=>False) s)
  (n:Nat) (h:I n s):codeAny (model prog w) A (.compLoop (.ListComp elt [⟨target,iter,[tst],0⟩] scope pos) 0 it acc env) R s:=by
 refine codeAny_loop rfl I (λn s hI=>?_) n h;show wpAny _ _ ((compTurn (.ListComp elt [⟨target,iter,[tst],0⟩] scope pos) 0 it acc env).onRaise (λx=>do noteFrame x env;theTreesLotGoes x)) _ _ s;refine wpAny_noted ?_;rw [compTurn_list];refine q0x (wpAny_standAt (q0x (wpAny_mono (turn n s hI) (λr s₁ h₁=>?_) λ_ _ z=>z.elim)))
 cases r with
 | none=>exact q0y h₁
 | some v =>
  refine q0x (wpAny_mono h₁ (λ_ s₂ h₂=>?_) λ_ _ z=>z.elim);refine q0x (wpAny_mono h₂ (λ_ s₃ h₃=>?_) λ_ _ z=>z.elim);refine q0x (wpAny_tests_one (wpAny_mono h₃ (λok t₃ h₃=>?_) λ_ _ z=>z.elim))
  cases ok with
  | false=>exact q0y ⟨rfl,h₃⟩
  | true =>
   refine q0x (q0x (wpAny_mono h₃ (λx s₄ h₄=>?_) λ_ _ z=>z.elim));exact q0x (wpAny_mono h₄ (λ_ s₅ h₅=>q0y (q0y ⟨rfl,h₅⟩)) λ_ _ z=>z.elim)
end
inductive CompWF (J:It) (g:TG) (tt:TT) (te:TE) (σY:St) (H1:Hp) (D:Ad) (Q:VK):Prop
 | mk (W:Nat->Nat->St->Hp->Prop) (_:(∃ m,W 0 m σY H1)) (_:∀ i m σ' H',W i m σ' H'->(J.stop i H'/\Q (.ref D) H')∨(J.go i H'/\∃ N:St->Hp->Prop,(∀ σ2 H2,N σ2 H2->∃ m',m'<m/\W (i+1) m' σ2 H2)/\∀ x H2,J.yld i H' x H2->g x σ' H2 λσ3 H3=>tt σ3 H3 λb H4=>if b=true then te σ3 H4 λv H5=>∃ xs,H5 D=some (.lst xs)/\xs.length<sizeLine/\N σ3 (upd H5 D (.lst (xs++[v]))) else N σ3 H4)):CompWF J g tt te σY H1 D Q
inductive tCompF_S (g:TG) (tt:TT) (te:TE) (σ0:St->Hp->St->Prop) (σ:St) (Q:VK) (J:It) (H1:Hp):Prop
 | mk (σY:_) (_:σ0 σ H1 σY) (_:∀ D,H1 D=none->CompWF J g tt te σY (upd H1 D (.lst [])) D Q)
def tCompF (wi:TI) (g:TG) (tt:TT) (te:TE) (σ0:St->Hp->St->Prop):TE:=λσ H Q=>wi σ H λJ H1=>tCompF_S g tt te σ0 σ Q J H1
def tTrue:TT:=λ_ H Q=>Q true H
def Ifs (X:Cx) (ifs:Jd) (tt:TT):Prop:=(ifs=[]/\tt=tTrue)∨∃ tst,ifs=[tst]/\PT X tst tt
def Ifs.len {X:Cx} {ifs:Jd} {tt:TT} (h:Ifs X ifs tt):ifs.length<=1:=by
 rcases h with ⟨rfl,_⟩ | ⟨_,rfl,_⟩
 ·exact Nat.zero_le _
 ·exact Nat.le_refl _
def testW (M:Model) (A:Around) (env:Env) (ifs:Jd) (K:Bool->Sh->Prop) (E:J5) (s:Sh):Prop:=match ifs with
 | [t]=>wpAny M A (isTrue t env (eval t env)) K E s
 | _=>K true s
def ifs_ok {X:Cx} {ifs:Jd} {tt:TT} {l8:J7} {σ:St} {H:Hp} {s:Sh} {Q:Bool->Hp->Prop} {K:Bool->Sh->Prop} (h:Ifs X ifs tt) (I:Inv X l8 σ H s) (q:tt σ H Q) (k:∀ b H' s',Inv X l8 σ H' s'->Q b H'->K b s'):testW (model X.prog X.w) X.A X.env ifs K X.xe s:=by
 rcases h with ⟨rfl,rfl⟩ | ⟨_,rfl,ht⟩
 ·exact k true H s I q
 ·exact thn (ht l8 s σ H Q I q) λb s' ⟨H',I',q'⟩=>k b H' s' I' q'
theorem za4 {prog:Program} {w:World} {A:Around} {R:Result->Sh->Prop} {s:Sh} {elt target iter:Expr} {ifs:Jd} {scope:Scope} {pos:Pos} {it acc:Vl} {env:Env} (hi:ifs.length<=1) (I:Nat->Sh->Prop)
  (turn:∀ n s,I n s->wpAny (model prog w) A (pyNext it) (λr s₁=>match r with
   | none=>R (.ok .next) s₁
   | some v=>wpAny (model prog w) A (letOwnedTupleGo target it v) (λ_ s₂=>wpAny (model prog w) A (assign target env v) (λ_ s₃=>testW (model prog w) A env ifs (λok t₃=>match ok with
     | true=>wpAny (model prog w) A (eval elt env) (λx s₄=>wpAny (model prog w) A (call (.builtin "list.append") [acc,x]) (λ_ s₅=>∃ m,m<n/\I m s₅) (λ_ _=>False) s₄) (λ_ _=>False) t₃
     | false=>∃ m,m<n/\I m t₃) (λ_ _=>False) s₃) (λ_ _=>False) s₂) (λ_ _=>False) s₁) (λ_ _=>False) s)
  (n:Nat) (h:I n s):codeAny (model prog w) A (.compLoop (.ListComp elt [⟨target,iter,ifs,0⟩] scope pos) 0 it acc env) R s:=by
 match ifs,hi with
 | [],_=>exact comp_loop I turn n h
 | [t],_=>exact zfh I turn n h
section
variable {X:Cx} {tg:Expr}
structure CompEnd (X:Cx) (l8:J7) (σ:St) (H5:Hp) (s6:Sh) (C:Ad):Prop where
 ns:∃ m,s6.heap.Ns C m
 hn:H5 C=none
 hL:C≠X.env.locals
 h1:X.s₀.heap.objs.size<=C
 h2:∀ x c,X.env.cells.lookup x=some c->c≠C
 h3:∀ p∈X.pn++l8,p.1≠C
 inv:∀ h',Heap.SameBut C s6.heap h'->Inv X l8 σ H5 { s6 with heap:=h' }
def zfi {iter elt:Expr} {ifs:Jd} {scope:Scope} {pos pos':Pos} {cl:List (Str×Ad)} {NY:Jb} {wi:TI} {g:TG} {tt:TT} {te:TE} {σ0:St->Hp->St->Prop} (hc:X.calm=true) (S:Sees X scope cl) (hi:PI X tg iter wi)
  (hY:∀ (s3:Sh) (H3:Hp) (fp:Jc),PG (X.comp scope cl NY s3 H3 fp) tg g/\Ifs (X.comp scope cl NY s3 H3 fp) ifs tt/\PE (X.comp scope cl NY s3 H3 fp) elt te)
  (h0:∀ (l8:J7) (σ:St) (H:Hp) (s3:Sh) (σY:St),Inv X l8 σ H s3->σ0 σ H σY->σY.length=NY.length/\∀ (i:Nat) (x:Str) (v:V),NY[i]?=some x->σY[i]?=some (some v) ->
   ∃ c u,(((compEnvC scope cl 0 X.env).kindOf x=some .cell∨(compEnvC scope cl 0 X.env).kindOf x=some .free))/\cl.lookup x=some c/\RelV v u/\s3.heap.IsCell c (some u))
  (hs:∀ x,foldedSetIterable iter X.env x=pure x) {use:Option (Vl->Sem Unit)} {R:J5} {l8:J7} {s:Sh} {σ:St} {H:Hp} {Q:VK} (I:Inv X l8 σ H s) (h:tCompF wi g tt te σ0 σ H Q)
  (fin:∀ (C D:Ad) (H5:Hp) (s6:Sh),CompEnd X l8 σ H5 s6 C->Q (.ref D) H5->compPost (model X.prog X.w) X.A X.xe use R (.ref D) C (.ok .next) s6) :
  wpAny (model X.prog X.w) X.A (comprehension (.ListComp elt [⟨tg,iter,ifs,0⟩] scope pos) scope X.env pos' (newList []) (firstAsync [⟨tg,iter,ifs,0⟩]) (firstIter [⟨tg,iter,ifs,0⟩] X.env) use) R X.xe s:=by
 refine wpAny_comprehension_free rfl hs S.clos S.kind S.names (thn (hi l8 s σ H _ I h) λv s1 h1=>thn h1 λitv s2 h2=>?_);obtain ⟨it,fp,tn,J,H2,e,I2,T,st2,f2,σY,hσ,hW⟩:=h2;subst e;refine wpAny_newObj_type ?_;have I3:Inv X l8 σ (upd H2 s2.heap.objs.size (.lst [])) (pz s2):=I2.lnew (t':=s2.toks) (its:=[]) .nil (Nat.zero_le _);obtain ⟨W,⟨m0,w0⟩,turn⟩:=hW s2.heap.objs.size (I2.hok.fresh (Nat.le_refl _));have ob2:=T.obj _ _ st2
 have hfp:∀ b∈fp,Yf X l8 (upd H2 s2.heap.objs.size (.lst [])) b:=λb hb=>by
  obtain ⟨o,q,_⟩:=ob2 b hb;exact ⟨by rw [zj (Nat.ne_of_lt (Heap.lt_size q))];exact (f2 b hb).1,(f2 b hb).2⟩
 have hob:∀ b∈fp,∃ o,(s2.heap.push Lz).get? b=some o:=λb hb=>by
  obtain ⟨o,q,_⟩:=ob2 b hb;exact ⟨o,Heap.get?_push_of_some _ q⟩
 refine wpAny_newFunctionEnv S.nocell (λy hy=>absurd hy (by simp)) (λh1 hn1 hs1=>?_) S.kind;obtain ⟨hl,hY0⟩:=h0 l8 σ H2 s2 σY I2 hσ;have k23:∀ b o,s2.heap.get? b=some o->(s2.heap.push Lz).get? b=some o:=λb o q=>Heap.get?_push_of_some _ q;have k34:∀ b o,(s2.heap.push Lz).get? b=some o->h1.get? b=some o:=λb o q=>(hs1.2 b (Nat.ne_of_lt (Heap.lt_size q))).trans (Heap.get?_push_of_some _ q)
 have I4:=zei (scope:=scope) (cl:=cl) (NY:=NY) (fp:=fp) (h1:=h1) (t:=s2.toks) (σY:=σY) I3 S hfp hob hn1 k34 hl λi x v e1 e2=>by
  obtain ⟨c,u,k,q,r,o,z1,z2⟩:=hY0 i x v e1 e2;exact ⟨c,u,k,q,r,o,k23 _ _ z1,z2⟩
 have st4:tn 0 h1:=T.keep _ _ _ st2 λb hb o q=>k34 _ _ (k23 _ _ q);have fr4:∀ b∈fp,(upd H2 s2.heap.objs.size (.lst [])) b=none:=λb hb=>(hfp b hb).1;obtain ⟨hg,ht,he⟩:=hY (pz s2) (upd H2 s2.heap.objs.size (.lst [])) fp;have okY:=I4.ok
 have statY:∀ {H':Hp},(∀ b∈fp,H' b=none)->∀ b∈fp,Yf (Xz X scope cl NY s2 H2 fp) [] H' b :=
  λhn b hb=>⟨hn b hb,(okY.exf b hb).1,okY.exfs b hb,.inl hb,(okY.exf b hb).2,λp hp=>absurd hp (by simp)⟩
 have loop:codeAny (model X.prog X.w) X.A (.compLoop (.ListComp elt [⟨tg,iter,ifs,0⟩] scope pos) 0 (.ref it) (.ref s2.heap.objs.size) (compEnvC scope cl (s2.heap.push Lz).objs.size X.env))
   (compPost (model X.prog X.w) X.A X.xe use R (.ref s2.heap.objs.size) (s2.heap.push Lz).objs.size) { s2 with heap:=h1,toks:=s2.toks }:=by
  refine za4 ht.len (λn s'=>∃ i σ' H',Inv (Xz X scope cl NY s2 H2 fp) [] σ' H' s'/\tn i s'.heap/\(∀ b∈fp,H' b=none)/\W i n σ' H') ?_ m0 ⟨0,σY,_,I4,st4,fr4,w0⟩;rintro n s5 ⟨i,σ5,H5,I5,st5,fr5,w5⟩;rcases turn i n σ5 H5 w5 with ⟨stop,q⟩ | ⟨go,N,hN,step⟩
  ·refine thn (T.done (Xz X scope cl NY s2 H2 fp) rfl rfl rfl hc i [] s5 σ5 H5 _ I5 (statY fr5) st5 stop) λr s6 ⟨hr,I6⟩=>?_
   subst hr;obtain ⟨m,hm,_⟩:=I6.loc;refine fin _ _ H5 s6 ⟨⟨m,hm⟩,I6.free,Ne.symm (Nat.ne_of_lt I3.lt),I3.sz,λx c z=>?_,λp hp=>?_,λh' hs'=>zbz I3 hfp I6 hs'⟩ q
   ·obtain ⟨_,o,z1,_⟩:=I3.cell x c z
    exact Nat.ne_of_lt (Heap.lt_size z1)
   ·exact Nat.ne_of_lt (Heap.lt_size (I3.pin p hp).1)
  ·refine thn (T.item (Xz X scope cl NY s2 H2 fp) rfl rfl rfl hc i [] s5 σ5 H5 _ I5 (statY fr5) st5 go) λr s6 ⟨u,hr,h6⟩=>?_
   subst hr;refine thn h6 λ_ s7 ⟨x,H7,I7,r7,y7,st7,fr7⟩=>?_;have I7':=I7.pinned (statY fr7) (T.obj _ _ st7);refine thn (hg _ s7 σ5 H7 x u _ I7' r7 (step x H7 y7)) λ_ s8 ⟨σ8,H8,I8,q8⟩=>?_
   have pk:∀ {H':Hp} {s':Sh} {σ':St},Inv (Xz X scope cl NY s2 H2 fp) ([]++Xr fp s7.heap) σ' H' s'->tn (i+1) s'.heap/\∀ b∈fp,H' b=none:=λI'=>by
    refine ⟨T.keep _ _ _ st7 λb hb o q=>(I'.pin (b,o) (q7y _ (q7y _ (xG hb q)))).1,λb hb=>?_⟩;obtain ⟨o,q,d⟩:=T.obj _ _ st7 b hb;exact (I'.pin (b,o) (q7y _ (q7y _ (xG hb q)))).2.1
   refine ifs_ok ht I8 q8 λbb H8' s8' I8' q8'=>?_
   cases bb with
   | false =>
    have q8':=(show N σ8 H8' by simpa using q8');obtain ⟨m',hm,w10⟩:=hN _ _ q8';exact ⟨m',hm,i+1,σ8,_,I8'.unpinned,(pk I8').1,(pk I8').2,w10⟩
   | true =>
    have q8':=(show te σ8 H8' _ by simpa using q8');refine thn (he _ s8' σ8 H8' _ I8' q8') λz s9 ⟨v9,H9,I9,r9,xs,hx9,hz9,n9⟩=>?_;refine thn (yr _ s9 σ8 H9 (.ref s2.heap.objs.size) [v9] (.ref s2.heap.objs.size) [z] (λ_ H'=>H'=upd H9 s2.heap.objs.size (.lst (xs++[v9]))) I9 rfl (.cons r9 .nil) ⟨s2.heap.objs.size,xs,v9,rfl,rfl,hx9,hz9,rfl⟩) λy s10 ⟨v10,H10,I10,_,e10⟩=>?_;subst e10;obtain ⟨m',hm,w10⟩:=hN _ _ n9;exact ⟨m',hm,i+1,σ8,_,I10.unpinned,(pk I10).1,(pk I10).2,w10⟩
 exact codeAny_compStart_list loop (T.self _ 0 _ _ _ st4 loop)
def zdt {iter elt:Expr} {ifs:Jd} {scope:Scope} {pos:Pos} {cl:List (Str×Ad)} {NY:Jb} {wi:TI} {g:TG} {tt:TT} {te:TE} {σ0:St->Hp->St->Prop} (hc:X.calm=true) (S:Sees X scope cl) (hi:PI X tg iter wi)
  (hY:∀ (s3:Sh) (H3:Hp) (fp:Jc),PG (X.comp scope cl NY s3 H3 fp) tg g/\Ifs (X.comp scope cl NY s3 H3 fp) ifs tt/\PE (X.comp scope cl NY s3 H3 fp) elt te)
  (h0:∀ (l8:J7) (σ:St) (H:Hp) (s3:Sh) (σY:St),Inv X l8 σ H s3->σ0 σ H σY->σY.length=NY.length/\∀ (i:Nat) (x:Str) (v:V),NY[i]?=some x->σY[i]?=some (some v) ->
   ∃ c u,(((compEnvC scope cl 0 X.env).kindOf x=some .cell∨(compEnvC scope cl 0 X.env).kindOf x=some .free))/\cl.lookup x=some c/\RelV v u/\s3.heap.IsCell c (some u))
  (hs:∀ x,foldedSetIterable iter X.env x=pure x:=by intro _;rfl) :
  PE X (.ListComp elt [⟨tg,iter,ifs,0⟩] scope pos) (tCompF wi g tt te σ0):=by
 intro l8 s σ H Q I h;rw [eval_ListComp];refine zfi (use:=none) hc S hi hY h0 hs I h λC D H5 s6 e q=>?_;obtain ⟨m,hm⟩:=e.ns;exact ⟨m,hm,λh' hs'=>⟨.ref D,H5,e.inv h' hs',rfl,q⟩⟩
def pe_comp {iter elt:Expr} {scope:Scope} {pos:Pos} {cl:List (Str×Ad)} {NY:Jb} {wi:TI} {g:TG} {te:TE} {σ0:St->Hp->St->Prop} (hc:X.calm=true) (S:Sees X scope cl) (hi:PI X tg iter wi)
  (hY:∀ (s3:Sh) (H3:Hp) (fp:Jc),PG (X.comp scope cl NY s3 H3 fp) tg g/\PE (X.comp scope cl NY s3 H3 fp) elt te)
  (h0:∀ (l8:J7) (σ:St) (H:Hp) (s3:Sh) (σY:St),Inv X l8 σ H s3->σ0 σ H σY->σY.length=NY.length/\∀ (i:Nat) (x:Str) (v:V),NY[i]?=some x->σY[i]?=some (some v) ->
   ∃ c u,(((compEnvC scope cl 0 X.env).kindOf x=some .cell∨(compEnvC scope cl 0 X.env).kindOf x=some .free))/\cl.lookup x=some c/\RelV v u/\s3.heap.IsCell c (some u))
  (hs:∀ x,foldedSetIterable iter X.env x=pure x:=by intro _;rfl) :
  PE X (.ListComp elt [⟨tg,iter,[],0⟩] scope pos) (tComp wi g te σ0):=by
 intro l8 s σ H Q I h;refine zdt (tt:=tTrue) hc S hi (λs3 H3 fp=>⟨(hY s3 H3 fp).1,.inl ⟨rfl,rfl⟩,(hY s3 H3 fp).2⟩) h0 hs l8 s σ H Q I ?_
 have e:(λJ H1=>tCompF_S g tTrue te σ0 σ Q J H1)=λJ H1=>tComp_S g te σ0 σ Q J H1:=by
  funext J H1;exact propext ⟨λ⟨a,b,c⟩=>⟨a,b,λD n=>let ⟨W,w0,k⟩:=c D n;⟨W,w0,k⟩⟩,λ⟨a,b,c⟩=>⟨a,b,λD n=>let ⟨W,w0,k⟩:=c D n;⟨W,w0,k⟩⟩⟩
 show wi σ H _;rw [e];exact h
end
def ZZ {K:Fg} {a D:Ad} {xs:Jj} {g:TG} {te:TE} {σY:St} {H1:Hp} {Q:VK} (Pv:Nat->St->Hp->Prop) (h0:Pv 0 σY H1) (hl:∀ i σ H,i<=xs.length->Pv i σ H->SqL K H a xs)
  (hs:∀ i x σ H,xs[i]?=some x->Pv i σ H->g x σ H λσ3 H3=>te σ3 H3 λv H4=>∃ ys,H4 D=some (.lst ys)/\ys.length<sizeLine/\Pv (i+1) σ3 (upd H4 D (.lst (ys++[v])))) (hd:∀ σ H,Pv xs.length σ H->Q (.ref D) H) :
  CompW (Itl K a) g te σY H1 D Q:=by
 refine ⟨λi m σ H=>m=xs.length-i/\i<=xs.length/\Pv i σ H,⟨xs.length,by simp,Nat.zero_le _,h0⟩,?_⟩;rintro i m σ H ⟨rfl,hi,p⟩;have q:=hl i σ H hi p;by_cases hlt:i<xs.length
 ·refine .inr ⟨⟨xs,xs[i],q,by simp [hlt]⟩,Pv (i+1),λσ' H' p'=>⟨xs.length-(i+1),by omega,rfl,hlt,p'⟩,λx H' y=>?_⟩
  obtain ⟨e,y⟩:=y;subst e;exact hs i x σ _ (y xs q) p
 ·have e:i=xs.length:=by omega
  subst e;exact .inl ⟨⟨xs,q,Nat.le_refl _⟩,hd σ H p⟩
def YW {lo:Int} {n:Nat} {D:Ad} {g:TG} {te:TE} {σY:St} {H1:Hp} {Q:VK} (Pv:Nat->St->Hp->Prop) (h0:Pv 0 σY H1)
  (hs:∀ i σ H,i<n->Pv i σ H->g (.int (lo+i)) σ H λσ3 H3=>te σ3 H3 λv H4=>∃ ys,H4 D=some (.lst ys)/\ys.length<sizeLine/\Pv (i+1) σ3 (upd H4 D (.lst (ys++[v])))) (hd:∀ σ H,Pv n σ H->Q (.ref D) H) :
  CompW (Itr lo n) g te σY H1 D Q:=by
 refine ⟨λi m σ H=>m=n-i/\i<=n/\Pv i σ H,⟨n,by simp,Nat.zero_le _,h0⟩,?_⟩;rintro i m σ H ⟨rfl,hi,p⟩;by_cases hlt:i<n
 ·refine .inr ⟨hlt,Pv (i+1),λσ' H' p'=>⟨n-(i+1),by omega,rfl,hlt,p'⟩,λx H' y=>?_⟩
  obtain ⟨e,y⟩:=y;subst e y;exact hs i σ _ hlt p
 ·have e:i=n:=by omega
  subst e;exact .inl ⟨Nat.le_refl _,hd σ H p⟩
def clGo (env:Env):List (Str×NameKind)->List (Str×Ad)->List (Str×Ad)
 | [],cs=>cs
 | y::r,cs=>clGo env r (if y.2 == .free then (y.1,(env.cells.lookup y.1).getD 0)::cs else cs)
abbrev Ym (env:Env) (scope:Scope):List (Str×Ad):=clGo env scope.names []
def zfl {scope:Scope} {env:Env} (h:∀ y∈scope.names,y.2=.free->∃ c,env.cells.lookup y.1=some c):closureFor scope env=pure (Ym env scope):=by
 rw [closureFor.eq_1]
 suffices q:∀ (names:List (Str×NameKind)) (cs:List (Str×Ad)),(∀ y∈names,y.2=.free->∃ c,env.cells.lookup y.1=some c) ->
   (do
    let s ← forIn names cs λx __s =>
     have cs:=__s
     match x with
     | (name,kind) =>
      if (kind == NameKind.free)=true then do
       let l ← cellOf env name;have cs:List (Str×Ad):=(name,l)::cs
       pure (ForInStep.yield cs)
      else pure (ForInStep.yield cs)
    pure s:Sem (List (Str×Ad)))=pure (clGo env names cs) from (congrArg (λ(m:Sem (List (Str×Ad)))=>m >>= λs=>(pure s:Sem (List (Str×Ad)))) (q scope.names [] h)).trans rfl
 intro names
 induction names with
 | nil=>intro cs _;rfl
 | cons y r ih =>
  intro cs h;obtain ⟨n,k⟩:=y;have hr:=λy hy=>h y (q6y _ hy);rw [List.forIn_cons];show _=pure (clGo env r (if k == .free then (n,(env.cells.lookup n).getD 0)::cs else cs));by_cases e:k=.free
  ·subst e
   obtain ⟨c,hc⟩:=h (n,.free) q6z rfl;have e1:cellOf env n=pure c:=by unfold cellOf;rw [show env.cells.lookup n=some c from hc]
   simp only [e1,show env.cells.lookup n=some c from hc,Option.getD_some,beq_self_eq_true,if_true];exact ih _ hr
  ·have e0:(k == NameKind.free)=false:=by simp [e]
   simp only [e0,Bool.false_eq_true,if_false];exact ih _ hr
theorem zel {env:Env} {x:Str} {c:Ad}:∀ {names:List (Str×NameKind)} {cs:List (Str×Ad)},(∀ y∈names,y.2=.free->∃ c,env.cells.lookup y.1=some c)->(∀ x c,cs.lookup x=some c->env.cells.lookup x=some c)->(clGo env names cs).lookup x=some c->env.cells.lookup x=some c
 | [],cs,_,hc,h=>hc _ _ h
 | (n,k)::r,cs,hn,hc,h=>by
  refine zel (λy hy=>hn y (q6y _ hy)) (λx c q=>?_) h;by_cases e:k=.free
  ·subst e
   obtain ⟨c',hc'⟩:=hn (n,.free) q6z rfl;simp only [beq_self_eq_true,if_true,show env.cells.lookup n=some c' from hc',Option.getD_some,List.lookup_cons] at q;by_cases z:x=n
   ·subst z;simp at q;rw [← q];exact hc'
   ·have z':(x == n)=false:=by simp [z]
    rw [z'] at q;exact hc _ _ q
  ·have e0:(k == NameKind.free)=false:=by simp [e]
   rw [e0] at q;exact hc _ _ q
theorem zb0 {env:Env} {x:Str}:∀ {names:List (Str×NameKind)} {cs:List (Str×Ad)},(∃ c,cs.lookup x=some c)->∃ c,(clGo env names cs).lookup x=some c
 | [],_,h=>h
 | (n,k)::r,cs,h=>by
  refine zb0 (names:=r) ?_;by_cases e:(k == NameKind.free)=true
  ·simp only [e,if_true,List.lookup_cons]
   cases hx:x == n with
   | true=>exact ⟨_,rfl⟩
   | false=>exact h
  ·simp only [e,if_false];exact h
theorem za6 {env:Env} {x:Str}:∀ {names:List (Str×NameKind)} {cs:List (Str×Ad)},(x,NameKind.free)∈names->∃ c,(clGo env names cs).lookup x=some c
 | (n,k)::r,cs,h=>by
  rcases List.mem_cons.mp h with e | e
  ·cases e
   refine zb0 (names:=r) ⟨(env.cells.lookup x).getD 0,?_⟩;simp
  ·show ∃ c,(clGo env r _).lookup x=some c
   exact za6 e
def X4 (X:Cx) (scope:Scope):Bool :=
 (match scope.kind with | .function=>true | _=>false) && scope.names.all λy=>match y.2 with
  | .cell=>false
  | .free=>(match X.env.kindOf y.1 with | some .cell=>true | some .free=>true | _=>false)
  | .local=>(match scope.names.lookup y.1 with | some .local=>true | _=>false)
  | _=>true
def YZ {X:Cx} {scope:Scope} (ok:X.Ok) (h:X4 X scope=true):Sees X scope (Ym X.env scope):=by
 unfold X4 at h;rw [Bool.and_eq_true,List.all_eq_true] at h;obtain ⟨hk,hn⟩:=h
 have fr:∀ y∈scope.names,y.2=.free->∃ c,X.env.cells.lookup y.1=some c:=λy hy e=>by
  have q:=hn y hy;rw [e] at q;refine ok.has y.1 ?_;revert q;dsimp only
  split
  ·rename_i z;intro _;exact .inl z
  ·rename_i z;intro _;exact .inr z
  ·intro q;cases q
 refine ⟨?_,zfl fr,λy hy e=>?_,λy hy e=>?_,λx c q=>zel fr (λ_ _ z=>by cases z) q,λx q=>?_⟩
 ·revert hk
  cases scope.kind <;> simp
 ·have q:=hn y hy
  rw [e] at q;exact q7x q
 ·have q:=hn y hy
  rw [e] at q;revert q;dsimp only
  split
  ·rename_i z;intro _;exact z
  ·intro q;cases q
 ·have key:∀ k,(compEnvC scope (Ym X.env scope) 0 X.env).kindOf x=some k->(k=.cell∨k=.free)->(x,NameKind.free)∈scope.names:=by
   intro k hk' hkk;have q:((scope.names.map λy=>match y with | (n,k)=>if (k == NameKind.free && X.env.scope.kind == ScopeKind.function && X.env.kindOf n == some NameKind.cell)=true then (n,NameKind.cell) else (n,k))).lookup x=some k:=hk'
   obtain ⟨n,k',e1,e2⟩:∃ n k',(n,k')∈scope.names/\(match (n,k') with | (n,k)=>if (k == NameKind.free && X.env.scope.kind == ScopeKind.function && X.env.kindOf n == some NameKind.cell)=true then (n,NameKind.cell) else (n,k))=(x,k):=by
    have m:(x,k)∈(scope.names.map λy=>match y with | (n,k)=>if (k == NameKind.free && X.env.scope.kind == ScopeKind.function && X.env.kindOf n == some NameKind.cell)=true then (n,NameKind.cell) else (n,k)):=by
     revert q;generalize (scope.names.map λy=>match y with | (n,k)=>if (k == NameKind.free && X.env.scope.kind == ScopeKind.function && X.env.kindOf n == some NameKind.cell)=true then (n,NameKind.cell) else (n,k))=l
     induction l with
     | nil=>intro q;cases q
     | cons a l ih =>
      intro q;obtain ⟨a1,a2⟩:=a;rw [List.lookup_cons] at q
      cases hx:x == a1 with
      | true=>rw [hx] at q;cases q;have:=beq_iff_eq.mp hx;subst this;exact q6z
      | false=>rw [hx] at q;exact q6y _ (ih q)
    obtain ⟨⟨n,k'⟩,h1,h2⟩:=List.mem_map.mp m;exact ⟨n,k',h1,h2⟩
   dsimp only at e2
   split at e2
   ·rename_i z
    cases e2;simp only [Bool.and_eq_true,beq_iff_eq] at z;rw [z.1.1] at e1;exact e1
   ·cases e2
    rcases hkk with rfl | rfl
    ·have z:=hn _ e1
     exact absurd z q7x
    ·exact e1
  rcases q with q | q
  ·exact za6 (key _ q (.inl rfl))
  ·exact za6 (key _ q (.inr rfl))
def za7 (X:Cx) (scope:Scope):Jb->List (Option Nat)->Bool
 | [],[]=>true
 | _::r,none::c=>za7 X scope r c
 | x::r,some j::c=>(match X.N[j]? with | some y=>x == y | none=>false) && (match (compEnvC scope (Ym X.env scope) 0 X.env).kindOf x with | some .cell=>true | some .free=>true | _=>false)
   && (match X.env.kindOf x with | some .cell=>true | some .free=>true | _=>false) && za7 X scope r c
 | _,_=>false
def capt (cap:List (Option Nat)) (σ:St):St:=cap.map λo=>o.bind λj=>(σ[j]?).join
theorem Xk {X:Cx} {scope:Scope} {l8:J7} {σ:St} {H:Hp} {s:Sh} (I:Inv X l8 σ H s) (S:Sees X scope (Ym X.env scope)):∀ {NY:Jb} {cap:List (Option Nat)},za7 X scope NY cap=true->(capt cap σ).length=NY.length/\∀ (i:Nat) (x:Str) (v:V),NY[i]?=some x->(capt cap σ)[i]?=some (some v) ->
   ∃ c u,(((compEnvC scope (Ym X.env scope) 0 X.env).kindOf x=some .cell∨(compEnvC scope (Ym X.env scope) 0 X.env).kindOf x=some .free))/\(Ym X.env scope).lookup x=some c/\RelV v u/\s.heap.IsCell c (some u)
 | [],[],_=>⟨rfl,λi x v e _=>by cases e⟩
 | [],_::_,h=>by cases h
 | y::r,[],h=>by cases h
 | y::r,none::c,h=>by
  obtain ⟨l,q⟩:=Xk I S (NY:=r) (cap:=c) h;refine ⟨by rw [q8x,← l];rfl,λi x v e1 e2=>?_⟩
  cases i with
  | zero=>cases e2
  | succ i=>exact q i x v e1 e2
 | y::r,some j::c,h=>by
  unfold za7 at h;rw [Bool.and_eq_true,Bool.and_eq_true,Bool.and_eq_true] at h;obtain ⟨⟨⟨h1,h2⟩,h3⟩,h4⟩:=h;obtain ⟨l,q⟩:=Xk I S (NY:=r) (cap:=c) h4;refine ⟨by rw [q8x,← l];rfl,λi x v e1 e2=>?_⟩
  cases i with
  | succ i=>exact q i x v e1 e2
  | zero =>
   have ey:y=x:=Option.some.inj e1;subst ey;have ev:(σ[j]?).join=some v:=Option.some.inj e2
   have hσ:σ[j]?=some (some v):=by
    cases z:σ[j]? with
    | none=>rw [z] at ev;cases ev
    | some o=>rw [z] at ev;rw [show o=some v from ev]
   have hN:X.N[j]?=some y:=by
    cases z:X.N[j]? with
    | none=>rw [z] at h1;cases h1
    | some y'=>rw [z] at h1;rw [beq_iff_eq.mp h1]
   have hK:(compEnvC scope (Ym X.env scope) 0 X.env).kindOf y=some .cell∨(compEnvC scope (Ym X.env scope) 0 X.env).kindOf y=some .free:=by
    revert h2
    split
    ·rename_i z;intro _;exact .inl z
    ·rename_i z;intro _;exact .inr z
    ·intro q;cases q
   have hV:X.env.kindOf y=some .cell∨X.env.kindOf y=some .free:=by
    revert h3
    split
    ·rename_i z;intro _;exact .inl z
    ·rename_i z;intro _;exact .inr z
    ·intro q;cases q
   obtain ⟨c',hc'⟩:=S.has y hK;obtain ⟨m,_,hl⟩:=I.loc;obtain ⟨u,ru,lk⟩:=hl j y v hN hσ (.inr hV);refine ⟨c',u,hK,hc',ru,?_⟩;rcases lk with ⟨k,_⟩ | ⟨_,c2,e3,e4⟩
   ·have k':X.env.kindOf y=some .local:=k
    rcases hV with z | z <;> rw [z] at k' <;> cases k'
   ·have e5:=S.sub _ _ hc'
    rw [e3] at e5;cases e5;exact e4
abbrev tCompC (wi:TI) (g:TG) (te:TE) (cap:List (Option Nat)):TE:=tComp wi g te λσ _ σY=>σY=capt cap σ
section
variable {X:Cx} {tg:Expr}
def xw {iter elt:Expr} {scope:Scope} {pos:Pos} {wi:TI} {g:TG} {te:TE} (NY:Jb) (cap:List (Option Nat)) (hc:X.calm=true) (hk:X4 X scope=true) (hcap:za7 X scope NY cap=true) (hi:PI X tg iter wi)
  (hY:∀ (s3:Sh) (H3:Hp) (fp:Jc),PG (X.comp scope (Ym X.env scope) NY s3 H3 fp) tg g/\PE (X.comp scope (Ym X.env scope) NY s3 H3 fp) elt te)
  (hs:∀ x,foldedSetIterable iter X.env x=pure x:=by intro _;rfl):PE X (.ListComp elt [⟨tg,iter,[],0⟩] scope pos) (tCompC wi g te cap):=by
 intro l8 s σ H Q I h;have S:=YZ I.ok hk;refine pe_comp (NY:=NY) hc S hi hY (λl8 σ H s3 σY I3 e=>?_) hs l8 s σ H Q I h;subst e;exact Xk I3 S hcap
end
section
variable {X:Cx}
def ix_listK {K:Fg} (e:X.K=K):IxR X (rIxL K):=by subst e;exact z6
end
def xA {ns:J6} {j:Int} (i:Nat) (h:i<ns.length) (e:j=i):atI (ns.map V.int) j=some (.int (ns.getD i 0)):=by
 subst e;refine zH ?_;rw [List.getElem?_map,List.getElem?_eq_getElem h];simp [List.getD,h]
def getD_mem {ns:J6} {i:Nat} (h:i<ns.length):ns.getD i 0∈ns:=by
 rw [q6x,List.getElem?_eq_getElem h];exact List.getElem_mem h
def Z9 {ns:J6} {i:Nat} {x:V} (h:(ns.map V.int)[i]?=some x):i<ns.length/\x=.int (ns.getD i 0):=by
 rw [List.getElem?_map] at h
 cases e:ns[i]? with
 | none=>rw [e] at h;cases h
 | some n =>
  rw [e] at h;refine ⟨(List.getElem?_eq_some_iff.mp e).1,?_⟩;rw [q6x,e];exact (Option.some.inj h).symm
section
variable {X:Cx} {l8:J7} {σ:St} {H:Hp} {s:Sh}
def Inv.keptL {h':Heap} {t':Nat} (I:Inv X l8 σ H s) {m:J0} (hl:∀ (i:Nat) (x:Str) (v:V),X.N[i]?=some x->σ[i]?=some (some v)->Vis X.env.scope x->∃ u,RelV v u/\Look X.env s.heap m x u)
  (k:∀ b o,b≠X.env.locals->s.heap.get? b=some o->h'.get? b=some o) (hn:h'.Ns X.env.locals m):Inv X l8 σ H { s with heap:=h',toks:=t' }:=by
 have B:=I.base
 have ne0:∀ b o,X.s₀.heap.get? b=some o->b≠X.env.locals:=λb o q z=>by
  have h1:b<X.s₀.heap.objs.size:=Heap.lt_size q;have h2:X.s₀.heap.objs.size<=X.env.locals:=I.ok.above;rw [z] at h1;exact absurd (q7z h1 h2) (Nat.lt_irrefl _)
 refine ⟨I.ok,I.os,I.bare,⟨λb o q n hb hx=>?_,λb o q n hb hx=>?_,B.free,λb o q hx=>?_,B.tups,B.frzs,B.tbls⟩,⟨m,hn,λi x v e1 e2 vs=>?_⟩,λx c q=>?_,I.free,I.freeC,λp hp=>?_,λb o q=>?_,I.len⟩
 ·exact k _ _ (ne0 _ _ q) (B.keep b o q n hb hx)
 ·obtain ⟨sl,z⟩:=B.slot b o q n hb hx
  exact ⟨sl,k _ _ (ne0 _ _ q) z⟩
 ·obtain ⟨o',z⟩:=B.there b o q hx
  exact ⟨o',k _ _ (ne0 _ _ q) z⟩
 ·obtain ⟨u,r,lk⟩:=hl i x v e1 e2 vs
  refine ⟨u,r,?_⟩;rcases lk with z | ⟨z1,c,z2,o,z3,z4⟩
  ·exact .inl z
  ·exact .inr ⟨z1,c,z2,o,k _ _ (I.cne _ _ z2) z3,z4⟩
 ·obtain ⟨v,o,z1,z2⟩:=I.cell x c q
  exact ⟨v,o,k _ _ (I.cne _ _ q) z1,z2⟩
 ·obtain ⟨z1,z2,z3,z4⟩:=I.pin p hp
  exact ⟨k _ _ z3 z1,z2,z3,z4⟩
 ·refine (I.hok b o q).stay (λc v hc r=>k _ _ ?_ r) (λ_ z=>z) λ_ _ z=>z
  rintro rfl;rcases hc with z | z
  ·rw [← z,I.free] at q;cases q
  ·rw [I.free] at z;cases z
def fr_all (I:Inv X l8 σ H s) {m:J0} (hm:s.heap.Ns X.env.locals m):Fr X.base X.env.locals s.heap m:=⟨hm,I.bk,Nat.le_trans I.ok.bsz I.ok.above⟩
theorem kept_all {h':Heap} {m:J0} (F:Fr X.base X.env.locals h' m) (N:News X.base X.env.locals h' (Xl X.base s.heap X.env.locals)) (I:Inv X l8 σ H s):∀ b o,b≠X.env.locals->s.heap.get? b=some o->h'.get? b=some o:=λb o n q=>by
 cases e:X.base.get? b with
 | none=>exact (N (b,o) (zd6 n e q)).1
 | some o' =>
  have z:=I.bk b o' e;rw [q] at z;cases z;exact F.keep b o e
end
section
variable {X:Cx}
inductive rSum (K:Fg) (xs:Jj) (H:Hp) (Q:VK):Prop
 | mk (p:Ad) (ns:J6) (_:xs=[.ref p]) (_:SqL K H p (ns.map V.int)) (_:Q (.int ns.sum) H)
def call_sum (hc:X.calm=true):Yk X (.builtin "sum") (rSum X.K):=by
 intro l8 s σ H xs us Q I r h;obtain ⟨p,ns,rfl,hp,q⟩:=h;obtain ⟨u,rfl,ru⟩:=r.one;cases (show u=Value.ref p from ru);obtain ⟨its,rv,pl,_⟩:=I.list hp;obtain ⟨m,hm,hl⟩:=I.loc
 exact LSm.sum_ints (fr_all I hm) news_all (I.ok.hd hc) pl.isList (zc0 rv) λh' tk t' F N =>
  ⟨.int ns.sum,H,I.keptL hl (kept_all F N I) F.ns,⟨_,rfl⟩,q⟩
end
mutual
inductive DV (K:Fg) (H:Hp):V->PyData->Prop
 | non:DV K H .non .none
 | bl (b:Bool):DV K H (.bl b) (.bool b)
 | int (i:Int):DV K H (.int i) (.int i)
 | str (x:Str):DV K H (.str x) (.str x)
 | lst {a:Ad} {xs:Jj} {ds:List PyData}:SqL K H a xs->DVs K H xs ds->DV K H (.ref a) (.list ds)
 | tup {a:Ad} {xs:Jj} {ds:List PyData}:SqT K H a xs->DVs K H xs ds->DV K H (.ref a) (.tuple ds)
inductive DVs (K:Fg) (H:Hp):Jj->List PyData->Prop
 | nil:DVs K H [] []
 | cons {v:V} {vs:Jj} {d:PyData} {ds:List PyData}:DV K H v d->DVs K H vs ds->DVs K H (v::vs) (d::ds)
end
section
variable {X:Cx} {l8:J7} {σ:St} {H:Hp} {s:Sh}
mutual
theorem Yu (I:Inv X l8 σ H s):∀ {v:V} {d:PyData} {u:Vl},DV X.K H v d->RelV v u->∃ as,Reads s.heap u d as
 | _,_,u,.non,r=>by cases (show u=Value.none from r);exact ⟨_,.none⟩
 | _,_,u,.bl b,r=>by cases (show u=Value.bool b from r);exact ⟨_,.bool b⟩
 | _,_,u,.int i,r=>by obtain ⟨t,rfl⟩:=(show ∃ t,u=Value.int i t from r);exact ⟨_,.int i t⟩
 | _,_,u,.str x,r=>by obtain ⟨t,rfl⟩:=(show ∃ t,u=Value.str x t from r);exact ⟨_,.str x t⟩
 | _,_,u,.lst (a:=a) h q,r=>by
  cases (show u=Value.ref a from r);obtain ⟨its,rv,⟨o,n,e,c,d,f⟩,_⟩:=I.list h;obtain ⟨as,ra⟩:=Xx I q rv;exact ⟨_,.list e c f ra⟩
 | _,_,u,.tup (a:=a) h q,r=>by
  cases (show u=Value.ref a from r);obtain ⟨its,rv,⟨o,e,c,n,f⟩,_⟩:=I.tuple h;obtain ⟨as,ra⟩:=Xx I q rv;exact ⟨_,.tuple e c f ra⟩
theorem Xx (I:Inv X l8 σ H s):∀ {vs:Jj} {ds:List PyData} {us:J8},DVs X.K H vs ds->Vals vs us->∃ as,ReadsAll s.heap us ds as
 | _,_,_,.nil,.nil=>⟨_,.nil⟩
 | _,_,_,.cons h q,.cons r rr=>by
  obtain ⟨as,ra⟩:=Yu I h r;obtain ⟨bs,rb⟩:=Xx I q rr;exact ⟨_,.cons ra rb⟩
end
end
section
variable {X:Cx}
inductive rEqD (K:Fg) (f:Bool->Bool) (x y:V) (H:Hp) (Q:VK):Prop
 | mk (d e:_) (_:DV K H x d) (_:DV K H y e) (_:d.canLay0=true) (_:e.canLay0=true) (_:d.depth<=64) (_:Q (.bl (f (d.eqv e))) H)
def op_eqD (hu:X.A.units+64<cLine):OpR X (compareOp .Eq) (rEqD X.K id):=by
 intro l8 s σ H x y v u Q I rx ry h;obtain ⟨d,e,hd,he,c1,c2,dp,q⟩:=h;obtain ⟨as,ra⟩:=Yu I hd rx;obtain ⟨bs,rb⟩:=Yu I he ry;exact SeqAt.compareEq_reads ra rb c1 c2 (by omega) ⟨.bl _,H,I,rfl,q⟩
def op_neD (hu:X.A.units+64<cLine):OpR X (compareOp .NotEq) (rEqD X.K not):=by
 intro l8 s σ H x y v u Q I rx ry h;obtain ⟨d,e,hd,he,c1,c2,dp,q⟩:=h;obtain ⟨as,ra⟩:=Yu I hd rx;obtain ⟨bs,rb⟩:=Yu I he ry;exact SeqAt.compareNe_reads ra rb c1 c2 (by omega) ⟨.bl _,H,I,rfl,q⟩
end
def dI (ns:J6):PyData:=.list (ns.map PyData.int)
theorem zec {K:Fg} {H:Hp}:∀ {ns:J6},DVs K H (ns.map V.int) (ns.map PyData.int)
 | []=>.nil
 | n::ns=>.cons (.int n) zec
def dv_ints {K:Fg} {H:Hp} {a:Ad} {ns:J6} (h:SqL K H a (ns.map V.int)):DV K H (.ref a) (dI ns):=.lst h zec
theorem XG:∀ {ns:J6},PyData.canLayAll0 (ns.map PyData.int)=true
 | []=>rfl
 | n::ns=>by
  rw [List.map_cons];show (PyData.canLay0 (.int n) && PyData.canLayAll0 (ns.map PyData.int))=true;rw [XG];rfl
def zat {ns:J6}:(dI ns).canLay0=true:=XG
theorem YN:∀ {ns:J6},PyData.depthAll (ns.map PyData.int)<=1
 | []=>by decide
 | n::ns=>by
  have:=YN (ns:=ns);rw [List.map_cons];show max (PyData.depth (.int n)) (PyData.depthAll (ns.map PyData.int))<=1;have e:PyData.depth (.int n)<=1:=by show _<=_;simp [PyData.depth]
  omega
end L2
namespace L2
open PySem
def dep_list {xs:List PyData} {n:Nat} (h:PyData.depthAll xs<=n):(PyData.list xs).depth<=n+1:=by
 have e:(PyData.list xs).depth=PyData.depthAll xs+1:=by first | rfl | (simp [PyData.depth];done) | (simp [PyData.depth];omega)
 omega
def dep_tup {xs:List PyData} {n:Nat} (h:PyData.depthAll xs<=n):(PyData.tuple xs).depth<=n+1:=by
 have e:(PyData.tuple xs).depth=PyData.depthAll xs+1:=by first | rfl | (simp [PyData.depth];done) | (simp [PyData.depth];omega)
 omega
def dep_nil {n:Nat}:PyData.depthAll []<=n:=by
 have e:PyData.depthAll []=0:=by first | rfl | simp [PyData.depthAll]
 omega
def za3 {x:PyData} {xs:List PyData} {n:Nat} (h:x.depth<=n) (h':PyData.depthAll xs<=n):PyData.depthAll (x::xs)<=n:=by
 have e:PyData.depthAll (x::xs)=max x.depth (PyData.depthAll xs):=by first | rfl | simp [PyData.depthAll]
 omega
def dep_ints {ns:J6}:(dI ns).depth<=2:=dep_list YN
end L2
namespace L2
open PySem PySem.Spec PyProof.Rows
def zw {K:Fg} {H H':Hp} {a:Ad} {xs:Jj} (h:SqL K H a xs) (s:Same H H'):SqL K H' a xs:=by
 rcases h with h | h
 ·exact .inl (h.imp (λz=>s _ _ z) λ⟨o,z⟩=>⟨o,s _ _ z⟩)
 ·exact .inr h
def zt {H H':Hp} {a:Ad} {o:HO} (s:Same H H') (h:H a=none):Same H (upd H' a o):=λc x z=>by rw [zj (zq z h)];exact s _ _ z
def cutI (cs:J6) (a b:Int):J6:=(cs.drop (min a.toNat cs.length)).take (min b.toNat cs.length-min a.toNat cs.length)
def zck {n d:Nat} {a:Int} (h:0<=a):HT.sIx n d (some a)=min a.toNat n:=by
 show (if a<0 then (a+(n:Int)).toNat else min a.toNat n)=min a.toNat n;rw [if_neg (by omega)]
def cutV_int {cs:J6} {a b:Int} (ha:0<=a) (hb:0<=b):cutV (cs.map V.int) (some a) (some b)=(cutI cs a b).map V.int:=by
 unfold cutV cutI;rw [zck ha,zck hb,Je,← List.map_drop,← List.map_take]
def cutV_take {cs:J6} {b:Int} (hb:0<=b):cutV (cs.map V.int) none (some b)=(cs.take b.toNat).map V.int:=by
 unfold cutV;rw [HT.sIx_none,zck hb,Je,List.drop_zero,Nat.sub_zero,← List.map_take];congr 1;rw [List.take_eq_take_iff];omega
def zbc {ns:J6} {i:Nat} (h:i<ns.length):(ns.take (i+1)).sum=(ns.take i).sum+ns.getD i 0:=by
 have e:ns.take (i+1)=ns.take i++[ns.getD i 0]:=by
  rw [List.take_add_one,q6x,List.getElem?_eq_getElem h];rfl
 rw [e,List.sum_append];simp
def zdc {ns:J6} (h:∀ v∈ns,0<=v):∀ (i:Nat),0<=(ns.take i).sum/\(ns.take i).sum<=ns.sum:=by
 induction ns with
 | nil=>intro i;simp
 | cons n ns ih =>
  intro i;have z:=h n q6z
  cases i with
  | zero =>
   have:=(ih (λv hv=>h v (q6y _ hv)) ns.length).1;rw [List.take_length] at this;simp;omega
  | succ i =>
   have:=ih (λv hv=>h v (q6y _ hv)) i;rw [List.take_succ_cons,List.sum_cons,List.sum_cons];omega
section
variable {P:Program} {w:World} {K:Fg} {mg:J0} {base:Heap}
def zN (K:Fg) (C:Ad) (x me:Str) (st:Stmt) (ps:Jb):Prop:=∃ (f:Ad) (fd:FuncData),Meth K C x f/\Fun K x me st f fd/\Binds K fd ps []
def OkM (P:Program) (w:World) (K:Fg) (mg:J0) (base:Heap) (CX:CXT) (k:Nat) (C:Ad) (x:Str) (ps:Jb) (sp:Sp):Prop :=
 ∃ (f:Ad) (fd:FuncData),Meth K C x f/\Binds K fd ps []/\FnOk P w K mg base CX k f fd ps sp
def yp (K:Fg) (C:Ad) (me:Str) (st:Stmt) (ps:Jb):Prop:=∃ (f:Ad) (fd:FuncData),Mk K C f/\Fun K "__init__" me st f fd/\Binds K fd ps []
def OkI (P:Program) (w:World) (K:Fg) (mg:J0) (base:Heap) (CX:CXT) (k:Nat) (C:Ad) (ps:Jb) (sp:Sp):Prop :=
 ∃ (f:Ad) (fd:FuncData),Mk K C f/\Binds K fd ps []/\FnOk P w K mg base CX k f fd ps sp
def oDf {x:Str} {st:Stmt} {N ps:Jb} {k:Nat} {sp:Sp} (d:zk K mg x st ps) (S:FnScope N ps (ze st)) (hbody:∀ (f:Ad) (mh:Vl) (A:Around) (outer:List Env) (s:Sh) (H:Hp) (vs:Jj) (Q:VK) (E:XK),Room k (A.deeper (envOfC x (ze st) s.heap.objs.size f mh))->sp vs H Q E->∃ t,PSs (yd CX0 P w K mg base N x (ze st) f mh A outer s H E).nox (zR st) t/\t { nx:=λ_ H'=>Q .non H',rt:=Q } (start N vs) H) (len:∀ vs H Q E,sp vs H Q E->vs.length=ps.length:=by intro vs H Q E h;first | (cases h;subst_vars;rfl) | (repeat first | (obtain ⟨e,_⟩:=h;subst e;rfl) | obtain ⟨_,h⟩:=h)):Ok P w K mg base CX0 (k+1) x ps sp:=by
 obtain ⟨f,fd,m,F,b⟩:=d;exact ⟨f,fd,m,F.kp,b,F.ok S len (hbody f)⟩
def oMf {C:Ad} {x me:Str} {st:Stmt} {N ps:Jb} {k:Nat} {sp:Sp} (d:zN K C x me st ps) (S:FnScope N ps (ze st)) (hbody:∀ (f:Ad) (mh:Vl) (A:Around) (outer:List Env) (s:Sh) (H:Hp) (vs:Jj) (Q:VK) (E:XK),Room k (A.deeper (envOfC me (ze st) s.heap.objs.size f mh))->sp vs H Q E->∃ t,PSs (yd CX0 P w K mg base N me (ze st) f mh A outer s H E).nox (zR st) t/\t { nx:=λ_ H'=>Q .non H',rt:=Q } (start N vs) H) (len:∀ vs H Q E,sp vs H Q E->vs.length=ps.length:=by intro vs H Q E h;first | (cases h;subst_vars;rfl) | (repeat first | (obtain ⟨e,_⟩:=h;subst e;rfl) | obtain ⟨_,h⟩:=h)):OkM P w K mg base CX0 (k+1) C x ps sp:=by
 obtain ⟨f,fd,m,F,b⟩:=d;exact ⟨f,fd,m,b,F.ok S len (hbody f)⟩
def oIf {C:Ad} {me:Str} {st:Stmt} {N ps:Jb} {k:Nat} {sp:Sp} (d:yp K C me st ps) (S:FnScope N ps (ze st)) (hbody:∀ (f:Ad) (mh:Vl) (A:Around) (outer:List Env) (s:Sh) (H:Hp) (vs:Jj) (Q:VK) (E:XK),Room k (A.deeper (envOfC me (ze st) s.heap.objs.size f mh))->sp vs H Q E->∃ t,PSs (yd CX0 P w K mg base N me (ze st) f mh A outer s H E).nox (zR st) t/\t { nx:=λ_ H'=>Q .non H',rt:=Q } (start N vs) H) (len:∀ vs H Q E,sp vs H Q E->vs.length=ps.length:=by intro vs H Q E h;first | (cases h;subst_vars;rfl) | (repeat first | (obtain ⟨e,_⟩:=h;subst e;rfl) | obtain ⟨_,h⟩:=h)):OkI P w K mg base CX0 (k+1) C ps sp:=by
 obtain ⟨f,fd,m,F,b⟩:=d;exact ⟨f,fd,m,b,F.ok S len (hbody f)⟩
def oDe {x:Str} {st:Stmt} {N ps:Jb} {k:Nat} {sp:Sp} (d:zk K mg x st ps) (S:FnScope N ps (ze st)) (hbody:∀ (f:Ad) (mh:Vl) (A:Around) (outer:List Env) (s:Sh) (H:Hp) (vs:Jj) (Q:VK) (E:XK),Room k (A.deeper (envOfC x (ze st) s.heap.objs.size f mh))->sp vs H Q E->∃ t,PSs (yd (CXe P w base) P w K mg base N x (ze st) f mh A outer s H E) (zR st) t/\t { nx:=λ_ H'=>Q .non H',rt:=Q } (start N vs) H) (len:∀ vs H Q E,sp vs H Q E->vs.length=ps.length:=by intro vs H Q E h;first | (cases h;subst_vars;rfl) | (repeat first | (obtain ⟨e,_⟩:=h;subst e;rfl) | obtain ⟨_,h⟩:=h)):Ok P w K mg base (CXe P w base) (k+1) x ps sp:=by
 obtain ⟨f,fd,m,F,b⟩:=d;exact ⟨f,fd,m,F.kp,b,F.okE S len (hbody f)⟩
def oIe {C:Ad} {me:Str} {st:Stmt} {N ps:Jb} {k:Nat} {sp:Sp} (d:yp K C me st ps) (S:FnScope N ps (ze st)) (hbody:∀ (f:Ad) (mh:Vl) (A:Around) (outer:List Env) (s:Sh) (H:Hp) (vs:Jj) (Q:VK) (E:XK),Room k (A.deeper (envOfC me (ze st) s.heap.objs.size f mh))->sp vs H Q E->∃ t,PSs (yd (CXe P w base) P w K mg base N me (ze st) f mh A outer s H E) (zR st) t/\t { nx:=λ_ H'=>Q .non H',rt:=Q } (start N vs) H) (len:∀ vs H Q E,sp vs H Q E->vs.length=ps.length:=by intro vs H Q E h;first | (cases h;subst_vars;rfl) | (repeat first | (obtain ⟨e,_⟩:=h;subst e;rfl) | obtain ⟨_,h⟩:=h)):OkI P w K mg base (CXe P w base) (k+1) C ps sp:=by
 obtain ⟨f,fd,m,F,b⟩:=d;exact ⟨f,fd,m,b,F.okE S len (hbody f)⟩
end
section
variable {X:Cx} {CX:CXT} {k:Nat} {C:Ad} {ps:Jb} {sp:Sp} {E:XK} {x m:Str} {p pos apos:Pos} {e o:Expr} {es:Jd} {ta:TE} {t:TA}
def zW (h:OkM X.prog X.w X.K X.mg X.base CX k C m ps sp) (c:Cls X.K C) (hr:Room k X.A) (hx:xa CX X E) {pl:Sem Bool} (he:PE X o ta) (ha:PA X (e::es) t)
  (hst:starEach (e::es) X.env=(false,eval e X.env)::starEach es X.env:=by rfl) (hpl:(backTo pos (starEach es X.env)).any (·.1)=false:=by rfl)
  (ht:eval (.Call (.Attribute o m apos) (e::es) [] pos) X.env=(do
   let ov ← eval o X.env
   standAt apos.atName
   let (f,first) ← holding [ov] (getMethod ov m pl)
   callWith pos f first (backTo pos (starEach (e::es) X.env)) (backToKw pos (keywordEach [] X.env))):=by rfl) :
  PE X (.Call (.Attribute o m apos) (e::es) [] pos) (tMeth C m sp [] E ta t):=by
 obtain ⟨f,fd,a,b,d⟩:=h;exact pe_meth he c a d hr b .nil hx ha hst hpl ht
def pe_okM0 (h:OkM X.prog X.w X.K X.mg X.base CX k C m ps sp) (c:Cls X.K C) (hr:Room k X.A) (hx:xa CX X E) {pl:Sem Bool} (he:PE X o ta)
  (ht:eval (.Call (.Attribute o m apos) [] [] pos) X.env=(do
   let ov ← eval o X.env
   standAt apos.atName
   let (f,first) ← holding [ov] (getMethod ov m pl)
   callWith pos f first (backTo pos (starEach [] X.env)) (backToKw pos (keywordEach [] X.env))):=by rfl) :
  PE X (.Call (.Attribute o m apos) [] [] pos) (tMeth C m sp [] E ta tNil):=by
 obtain ⟨f,fd,a,b,d⟩:=h;exact pe_meth0 he c a d hr b .nil hx ht
def xF (h:OkI X.prog X.w X.K X.mg X.base CX k C ps sp) (hm:X.mg x=some (.ref C)) (hr:Room (k+1) X.A) (hg:Gl X x) (hx:xa CX X E) (ha:PA X (e::es) t) (hdb:(x == ("__debug__":Str))=false:=by decide)
  (he:starEach (e::es) X.env=(false,eval e X.env)::starEach es X.env:=by rfl) (hpl:(backTo pos (starEach es X.env)).any (·.1)=false:=by rfl):PE X (.Call (.Name x p) (e::es) [] pos) (tMake C sp [] E t):=by
 obtain ⟨f,fd,a,b,d⟩:=h;exact pe_make a d hr hg hm b .nil hx ha hdb he hpl
end
def rep_ints (n:Nat):(List.replicate n [V.int 0]).flatten=(List.replicate n (0:Int)).map V.int:=by
 induction n with
 | zero=>rfl
 | succ n ih=>rw [List.replicate_succ,List.flatten_cons,ih];rfl
def set_ints {ns:J6} {j:Nat} {n:Int}:(ns.map V.int).set j (.int n)=(ns.set j n).map V.int:=by rw [List.map_set]
def ixN_nat {n:Nat} {i:Int} (h0:0<=i) (h1:i<n):ixN n i=some i.toNat:=by
 unfold ixN;rw [if_pos h0,if_pos h1]
def FH (K:Fg) (x me:Str) (st:Stmt) (f:Ad):Prop:=∃ (oc:Vl) (od:Option Ad) (kV dc pm:Vl) (an:Option Ad) (cd ct:Vl) (sl:Array (Ja)),K.lookup f=some ⟨oc,od,.func (PySem.W.fnOf x me (yf st) (zR st) (ze st) .none kV dc pm an cd ct),sl⟩/\PySem.W.codeIn K cd me=true/\PySem.W.keepIn K (.ref f)=true
def DH (K:Fg) (x:Str) (st:Stmt) (f:Ad):Prop:=PySem.W.nsIn K mainGlobals x=some (some (.ref f))/\FH K x x st f
def MH (K:Fg) (C:Ad) (x me:Str) (st:Stmt):Prop:=∃ f:Ad,(PySem.W.findIn K (.ref C) x=some (some (.ref f))/\PySem.W.isFn K (.ref f)=true)/\FH K x me st f
def CH (K:Fg) (C:Ad):Prop:=PySem.W.plainGet K C Str.empty=true/\PySem.W.hasDictIn K C=true/\PySem.W.plainOver K C=true/\PySem.W.findIn K (.ref C) "__setattr__"=some (some (.builtin "object.__setattr__"))
def FN (K:Fg) (C:Ad):Jb->Prop
 | []=>True
 | f::r=>PySem.W.findIn K (.ref C) f=some none/\FN K C r
section
variable {K:Fg} {mg:J0} {x me:Str} {st:Stmt} {f C:Ad} {h:Heap} {ps:Jb}
def DH.d (d:DH K x st f) (X:K.In h) (G:h.Ns mainGlobals mg)
  (b:∀ (kV doc pm:Vl) (an:Option Ad) (mh ct:Vl) (us:J8),us.length=ps.length->bindArgs (PySem.W.fnOf x x (yf st) (zR st) (ze st) .none kV doc pm an mh ct) ⟨us,[]⟩=pure (ps.zip us):=by first|exact λ_ _ _ _ _ _=>us1 λ_=>rfl|exact λ_ _ _ _ _ _=>us2 λ_ _=>rfl|exact λ_ _ _ _ _ _=>us3 λ_ _ _=>rfl|exact λ_ _ _ _ _ _=>us4 λ_ _ _ _=>rfl|exact λ_ _ _ _ _ _=>us5 λ_ _ _ _ _=>rfl|exact λ_ _ _ _ _ _=>us6 λ_ _ _ _ _ _=>rfl):zk K mg x st ps :=
 by obtain ⟨a,_,_,_,_,_,_,_,_,_,l,c,k⟩:=d;exact defIn_mk X G a l c k b
def MH.m (d:MH K C x me st)
  (b:∀ (kV doc pm:Vl) (an:Option Ad) (mh ct:Vl) (us:J8),us.length=ps.length->bindArgs (PySem.W.fnOf x me (yf st) (zR st) (ze st) .none kV doc pm an mh ct) ⟨us,[]⟩=pure (ps.zip us):=by first|exact λ_ _ _ _ _ _=>us1 λ_=>rfl|exact λ_ _ _ _ _ _=>us2 λ_ _=>rfl|exact λ_ _ _ _ _ _=>us3 λ_ _ _=>rfl|exact λ_ _ _ _ _ _=>us4 λ_ _ _ _=>rfl|exact λ_ _ _ _ _ _=>us5 λ_ _ _ _ _=>rfl|exact λ_ _ _ _ _ _=>us6 λ_ _ _ _ _ _=>rfl):zN K C x me st ps :=
 by obtain ⟨f,⟨a,n⟩,_,_,_,_,_,_,_,_,_,l,c,k⟩:=d;exact ⟨f,_,⟨a,n,k⟩,YV l c k,(YV l c k).binds b⟩
def MH.i (d:MH K C "__init__" me st) (mk:PySem.W.makesIn K C=true) (kC:PySem.W.keepIn K (.ref C)=true)
  (b:∀ (kV doc pm:Vl) (an:Option Ad) (mh ct:Vl) (us:J8),us.length=ps.length->bindArgs (PySem.W.fnOf "__init__" me (yf st) (zR st) (ze st) .none kV doc pm an mh ct) ⟨us,[]⟩=pure (ps.zip us):=by first|exact λ_ _ _ _ _ _=>us1 λ_=>rfl|exact λ_ _ _ _ _ _=>us2 λ_ _=>rfl|exact λ_ _ _ _ _ _=>us3 λ_ _ _=>rfl|exact λ_ _ _ _ _ _=>us4 λ_ _ _ _=>rfl|exact λ_ _ _ _ _ _=>us5 λ_ _ _ _ _=>rfl|exact λ_ _ _ _ _ _=>us6 λ_ _ _ _ _ _=>rfl):yp K C me st ps :=
 by obtain ⟨f,⟨a,n⟩,_,_,_,_,_,_,_,_,_,l,c,k⟩:=d;exact ⟨f,_,⟨mk,a,n,kC⟩,YV l c k,(YV l c k).binds b⟩
def CH.c (d:CH K C):Cls K C:=⟨d.1,d.2.1,d.2.2.1,d.2.2.2⟩
end
end L2
namespace L2
open PySem
def DH.mk {K:Fg} {x:Str} {st:Stmt} {f:Ad} {oc:Vl} {od an:Option Ad} {kV dc pm cd ct:Vl} {sl:Array (Ja)} (a:PySem.W.nsIn K mainGlobals x=some (some (.ref f))) (l:K.lookup f=some ⟨oc,od,.func (PySem.W.fnOf x x (yf st) (zR st) (ze st) .none kV dc pm an cd ct),sl⟩) (c:PySem.W.codeIn K cd x=true) (k:PySem.W.keepIn K (.ref f)=true):DH K x st f:=⟨a,_,_,_,_,_,_,_,_,_,l,c,k⟩
def MH.mk {K:Fg} {C:Ad} {x me:Str} {st:Stmt} {f:Ad} {oc:Vl} {od an:Option Ad} {kV dc pm cd ct:Vl} {sl:Array (Ja)} (a:PySem.W.findIn K (.ref C) x=some (some (.ref f))) (n:PySem.W.isFn K (.ref f)=true) (l:K.lookup f=some ⟨oc,od,.func (PySem.W.fnOf x me (yf st) (zR st) (ze st) .none kV dc pm an cd ct),sl⟩) (c:PySem.W.codeIn K cd me=true) (k:PySem.W.keepIn K (.ref f)=true):MH K C x me st:=⟨f,⟨a,n⟩,_,_,_,_,_,_,_,_,_,l,c,k⟩
def scK {N P:Jb} {sc:Scope} (h:(decide (sc.kind=.function) && (!sc.isCoroutine && (!sc.isGenerator && (decide N.Nodup && (decide (N.take P.length=P) && ((P.all λx=>decide (sc.names.lookup x=some .local∨sc.names.lookup x=some .cell)) && sc.names.all λy=>decide (y.2≠.free)))))))=true:=by decide +kernel):FnScope N P sc:=by
 simp only [Bool.and_eq_true,decide_eq_true_eq,Bool.not_eq_true',List.all_eq_true] at h;obtain ⟨h1,h2,h3,h4,h5,h6,h7⟩:=h;exact ⟨h1,h2,h3,h4,h5,h6,h7⟩
def TB (K:Fg) (T:Ad):List (Str×Ad)->Prop
 | []=>True
 | p::r=>PySem.W.nsIn K T p.1=some (some (.ref p.2))/\TB K T r
def TN (K:Fg) (T:Ad):Jb->Prop
 | []=>True
 | x::r=>PySem.W.nsIn K T x=some none/\TN K T r
theorem TB.g {K:Fg} {T:Ad} {x:Str} {f:Ad}:∀ {L:List (Str×Ad)} (_:TB K T L) (i:Nat),L[i]?=some (x,f)->PySem.W.nsIn K T x=some (some (.ref f))
 | _::_,h,0,e=>by cases e;exact h.1
 | _::_,h,i+1,e=>TB.g h.2 i e
theorem TN.g {K:Fg} {T:Ad} {x:Str}:∀ {L:Jb} (_:TN K T L) (i:Nat),L[i]?=some x->PySem.W.nsIn K T x=some none
 | _::_,h,0,e=>by cases e;exact h.1
 | _::_,h,i+1,e=>TN.g h.2 i e
theorem FN.g {K:Fg} {C:Ad} {x:Str}:∀ {L:Jb} (_:FN K C L) (i:Nat),L[i]?=some x->PySem.W.findIn K (.ref C) x=some none
 | _::_,h,0,e=>by cases e;exact h.1
 | _::_,h,i+1,e=>FN.g h.2 i e
theorem ucV {n:Nat}:∀ {us:J8},us.length=n+1->∃ a r,us=a::r/\r.length=n
 | a::r,h=>⟨a,r,rfl,Nat.succ.inj h⟩
end L2
namespace L2
open PySem PySem.Spec PyProof.Rows
structure Hd (B:Hp) (L:Ji) (H:Hp):Prop where
 nd:(L.map Prod.fst).Nodup
 nw:∀ p∈L,B p.1=none
 st:∀ p∈L,H p.1=some p.2
 sm:Same B H
namespace Hd
variable {B:Hp} {L:Ji} {H H':Hp} {a b:Ad} {o o':HO}
def base:Hd B [] B:=⟨List.nodup_nil,(λ_ h=>nomatch h),(λ_ h=>nomatch h),Same.refl B⟩
def get (h:Hd B L H) (i:Nat) (e:L[i]?=some (a,o)):H a=some o:=h.st _ (List.mem_of_getElem? e)
def same (h:Hd B L H) (s:Same H H'):Hd B L H':=⟨h.nd,h.nw,λp m=>s _ _ (h.st p m),h.sm.trans s⟩
def new (h:Hd B L H) (n:H a=none):Hd B ((a,o)::L) (upd H a o):=by
 have ne:∀ p∈L,p.1≠a:=λp m=>zq (h.st p m) n;refine ⟨List.nodup_cons.mpr ⟨λm=>?_,h.nd⟩,λp m=>?_,λp m=>?_,zt h.sm (h.sm.free n)⟩
 ·obtain ⟨p,mp,e⟩:=List.mem_map.mp m
  exact ne p mp e
 ·rcases List.mem_cons.mp m with rfl | m
  ·exact h.sm.free n
  ·exact h.nw p m
 ·rcases List.mem_cons.mp m with rfl | m
  ·exact zi
  ·rw [zj (ne p m)];exact h.st p m
def fst_set (i:Nat) (e:L[i]?=some (a,o)):(L.set i (a,o')).map Prod.fst=L.map Prod.fst:=by
 rw [List.map_set];apply List.ext_getElem?;intro j;rw [List.getElem?_set]
 split
 ·rename_i q
  subst q
  split
  ·rw [List.getElem?_map,e];rfl
  ·rename_i q
   rw [List.getElem?_eq_none (by omega)]
 ·rfl
def ne (h:Hd B L H) (i j:Nat) (ei:L[i]?=some (a,o)) (ej:L[j]?=some (b,o')) (hij:i≠j):a≠b:=λe=>by
 subst e;have h1:(L.map Prod.fst)[i]?=some a:=by rw [List.getElem?_map,ei];rfl
 have h2:(L.map Prod.fst)[j]?=some a:=by rw [List.getElem?_map,ej];rfl
 obtain ⟨b1,e1⟩:=List.getElem?_eq_some_iff.mp h1;obtain ⟨b2,e2⟩:=List.getElem?_eq_some_iff.mp h2
 have key:∀ (l:Jc),l.Nodup->∀ (i j:Nat) (b1:i<l.length) (b2:j<l.length),l[i]=l[j]->i=j:=by
  intro l hl
  induction l with
  | nil=>intro i j b1;cases b1
  | cons x r ih =>
   intro i j b1 b2 q;have nr:=List.nodup_cons.mp hl
   cases i with
   | zero =>
    cases j with
    | zero=>rfl
    | succ j=>exact absurd (by rw [List.getElem_cons_zero,List.getElem_cons_succ] at q;rw [q];exact List.getElem_mem _) nr.1
   | succ i =>
    cases j with
    | zero=>exact absurd (by rw [List.getElem_cons_zero,List.getElem_cons_succ] at q;rw [← q];exact List.getElem_mem _) nr.1
    | succ j=>rw [List.getElem_cons_succ,List.getElem_cons_succ] at q;rw [ih nr.2 i j _ _ q]
 exact hij (key _ h.nd i j b1 b2 (e1.trans e2.symm))
def chg (h:Hd B L H) (i:Nat) (e:L[i]?=some (a,o)) (k:∀ c u,c≠a->H c=some u->H' c=some u) (q:H' a=some o'):Hd B (L.set i (a,o')) H':=by
 have nb:B a=none:=h.nw _ (List.mem_of_getElem? e);refine ⟨by rw [fst_set i e];exact h.nd,λp m=>?_,λp m=>?_,λc u z=>k c u (zq z nb) (h.sm c u z)⟩
 ·rcases List.mem_or_eq_of_mem_set m with m | rfl
  ·exact h.nw p m
  ·exact nb
 ·obtain ⟨j,lt,ej⟩:=List.getElem_of_mem m
  have ej:(L.set i (a,o'))[j]?=some p:=by rw [List.getElem?_eq_getElem lt,ej]
  rw [List.getElem?_set] at ej
  split at ej
  ·split at ej
   ·cases ej;exact q
   ·cases ej
  ·rename_i hij
   obtain ⟨c,u⟩:=p;exact k c u (Ne.symm (h.ne i j e ej hij)) (h.get j ej)
def put (h:Hd B L H) (i:Nat) (e:L[i]?=some (a,o)):Hd B (L.set i (a,o')) (upd H a o'):=h.chg i e (λc u n z=>by rw [zj n];exact z) zi
def sql (h:Hd B L H) {K:Fg} {xs:Jj} (q:SqL K B a xs):SqL K H a xs:=zw q h.sm
def lst (h:Hd B L H) {K:Fg} {xs:Jj} (i:Nat) (e:L[i]?=some (a,.lst xs)):SqL K H a xs:=SqL.of (h.get i e)
def sub {L':Ji} (h:Hd B L H) (s:List.Sublist L' L):Hd B L' H:=⟨h.nd.sublist (s.map _),λp m=>h.nw p (s.subset m),λp m=>h.st p (s.subset m),h.sm⟩
def tl {p:Ad×HO} (h:Hd B (p::L) H):Hd B L H:=h.sub (List.sublist_cons_self _ _)
def free (h:Hd B L H) (n:H a=none):B a=none:=h.sm.free n
def add (h:Hd B L H) (n:∀ p∈L,p.1≠a) (nb:B a=none) (e:H a=some o):Hd B ((a,o)::L) H:=by
 refine ⟨List.nodup_cons.mpr ⟨λm=>?_,h.nd⟩,λp m=>?_,λp m=>?_,h.sm⟩
 ·obtain ⟨p,mp,e⟩:=List.mem_map.mp m
  exact n p mp e
 ·rcases List.mem_cons.mp m with rfl | m
  ·exact nb
  ·exact h.nw p m
 ·rcases List.mem_cons.mp m with rfl | m
  ·exact e
  ·exact h.st p m
def made {C x dx l:Ad} {ox ol:HO} (h:Hd B L H) (nx:H x=none) (ndx:H dx=none) (ne:dx≠x) (k:∀ b u,b≠x->upd (upd H dx (.own x)) x (.ins C dx []) b=some u->H' b=some u)
  (nl:upd (upd H dx (.own x)) x (.ins C dx []) l=none) (ex:H' x=some ox) (el:H' l=some ol):Hd B ((l,ol)::(x,ox)::(dx,.own x)::L) H':=by
 have h1:Hd B ((dx,.own x)::L) (upd H dx (.own x)):=h.new ndx;have h2:Hd B ((x,.ins C dx [])::(dx,.own x)::L) (upd (upd H dx (.own x)) x (.ins C dx [])):=h1.new (by rw [zj (Ne.symm ne)];exact nx);have h3:Hd B ((x,ox)::(dx,.own x)::L) H':=h2.chg 0 rfl k ex;refine h3.add (λp m=>?_) (h2.free nl) el;rcases List.mem_cons.mp m with rfl | m
 ·exact zq (h2.get 0 rfl) nl
 ·exact zq (h2.st p (q6y _ m)) nl
def made0 {C x dx:Ad} {ox:HO} (h:Hd B L H) (nx:H x=none) (ndx:H dx=none) (ne:dx≠x) (k:∀ b u,b≠x->upd (upd H dx (.own x)) x (.ins C dx []) b=some u->H' b=some u) (ex:H' x=some ox):Hd B ((x,ox)::(dx,.own x)::L) H':=by
 have h1:Hd B ((dx,.own x)::L) (upd H dx (.own x)):=h.new ndx;have h2:Hd B ((x,.ins C dx [])::(dx,.own x)::L) (upd (upd H dx (.own x)) x (.ins C dx [])):=h1.new (by rw [zj (Ne.symm ne)];exact nx);exact h2.chg 0 rfl k ex
def perm {B:Hp} {L L':Ji} {H:Hp} (h:Hd B L H) (p:L.Perm L'):Hd B L' H:=⟨(p.map Prod.fst).nodup h.nd,λq m=>h.nw q (p.mem_iff.mpr m),λq m=>h.st q (p.mem_iff.mpr m),h.sm⟩
end Hd
section
variable {X:Cx} {st:Stmt} {t:TS} {e:Expr} {te:TE}
inductive tMid (t:TS) (D:Ends) (σ:St) (H:Hp):Prop
 | mk (M:St->Hp->Prop) (_:t { D with nx:=M } σ H) (_:∀ σ' H',M σ' H'->D.nx σ' H')
def Yr (h:PS X st t):PS X st (tMid t):=by
 intro l8 s σ H D I q;obtain ⟨M,q,k⟩:=q;refine thn (h l8 s σ H _ I q) λf s1 z=>?_
 cases f with
 | next=>exact let ⟨σ',H',I',z⟩:=z;⟨σ',H',I',k _ _ z⟩
 | ret v=>exact z
 | brk=>exact z
 | cont=>exact z
end
def but (H:Hp) (ls:Jc):Hp:=λb=>if b∈ls then none else H b
def za8 {H:Hp} {ls:Jc} {b:Ad} (h:b∈ls):but H ls b=none:=by unfold but;rw [if_pos h]
def Ye {H:Hp} {ls:Jc} {b:Ad} {o:HO} (h:H b=some o) (n:b ∉ ls):but H ls b=some o:=by unfold but;rw [if_neg n];exact h
namespace Hd
variable {B B':Hp} {L:Ji} {H H':Hp} {a:Ad} {o:HO}
end Hd
def but_inv {H:Hp} {a b:Ad} {o:HO} (h:but H [a] b=some o):b≠a/\H b=some o:=by
 unfold but at h
 split at h
 ·cases h
 ·rename_i z;exact ⟨λe=>z (by rw [e];exact List.mem_singleton_self a),h⟩
def but_free {H:Hp} {a b:Ad} (n:but H [a] b=none) (ne:b≠a):H b=none:=by
 unfold but at n;rw [if_neg (by simp [ne])] at n;exact n
section
variable {X:Cx} {l8:J7} {σ σ':St} {H H':Hp} {s s':Sh} {a:Ad} {xs:Jj}
end
namespace Hd
variable {B:Hp} {L L':Ji} {H:Hp}
end Hd
section
variable {X:Cx} {tg:Expr}
end
section
variable {X:Cx}
end
section
variable {X:Cx} {l8:J7} {σ σ':St} {H H':Hp} {s s':Sh} {a:Ad} {xs:Jj}
end
def ints_at {ns:J6} {us:J8} (h:Vals (ns.map V.int) us) (i:Nat) (v:Vl) (e:us[i]?=some v):∃ n t,ns[i]?=some n/\v=.int n t:=by
 induction ns generalizing us i with
 | nil=>cases h;cases e
 | cons n ns ih =>
  cases h with
  | cons r rr =>
   cases i with
   | zero=>obtain ⟨t,rfl⟩:=r;cases (show some _=some v from e);exact ⟨n,t,rfl,rfl⟩
   | succ i=>exact ih rr i e
def zc8 {vs:Jj} {us:J8} (h:Vals vs us):us.length=vs.length:=by
 induction h with
 | nil=>rfl
 | cons _ _ ih=>rw [q8x,q8x,ih]
section
variable {X:Cx}
end
section
variable {X:Cx} {l8:J7} {σ:St} {H:Hp} {s:Sh}
end
section
variable {prog:Program} {w:World} {A:Around} {E:J5} {s:Sh}
end
section
variable {X:Cx} {pos:Pos}
inductive rAnyB (K:Fg) (xs:Jj) (H:Hp) (Q:VK):Prop
 | mk (p:Ad) (bs:List Bool) (_:xs=[.ref p]) (_:SqL K H p (bs.map V.bl)) (_:Q (.bl (bs.any id)) H)
def bools_at {bs:List Bool} {us:J8} (h:Vals (bs.map V.bl) us) (i:Nat) (v:Vl) (e:us[i]?=some v):∃ b,bs[i]?=some b/\v=.bool b:=by
 induction bs generalizing us i with
 | nil=>cases h;cases e
 | cons b bs ih =>
  cases h with
  | cons r rr =>
   cases i with
   | zero=>cases (show _=Value.bool b from r);cases (show some _=some v from e);exact ⟨b,rfl,rfl⟩
   | succ i=>exact ih rr i e
def ze1 (bs:List Bool):((List.range bs.length).any λi=>(bs[i]?).getD false)=bs.any id:=by
 induction bs with
 | nil=>rfl
 | cons n ns ih =>
  rw [q8x,List.range_succ_eq_map,List.any_cons,List.any_map,List.any_cons,← ih];rfl
def call_anyB (hc:X.calm=true):Yk X (.builtin "any") (rAnyB X.K):=by
 intro l8 s σ H xs us Q I r h;obtain ⟨p,bs,rfl,hp,q⟩:=h;obtain ⟨u,rfl,ru⟩:=r.one;cases (show u=Value.ref p from ru);obtain ⟨its,rv,pl,_⟩:=I.list hp;have hl:=pl.isList;have hlt:p<s.heap.objs.size:=by obtain ⟨_,e,_⟩:=hl;exact Heap.lt_size e
 refine call_any_walk (wpAny_pyIter_list hl ?_)
 refine ⟨s.heap.objs.size,[s.heap.objs.size,p],[s.heap.objs.size],its.toArray.size,_,_,λi=>(bs[i]?).getD false,rfl,Walks.list (A:=X.A.in1) (I.ok.hd hc) _ p (Nat.ne_of_lt hlt) its.toArray,
  ⟨⟨_,Heap.get?_push_size _ rfl,rfl,rfl⟩,hl.push _⟩,λi v s' Q' E' hP hQ=>?_,λh' tk hk=>?_⟩
 ·obtain ⟨n,e,rfl⟩:=bools_at rv i v (by simpa using hP)
  simp only [e,Option.getD_some] at hQ;exact wpAny_truthy_bool hQ
 ·have ek:((List.range its.toArray.size).any λi=>(bs[i]?).getD false)=bs.any id:=by
   have:=zc8 rv;rw [Je] at this;rw [List.size_toArray,this];exact ze1 bs
  rw [ek];exact ⟨.bl _,H,I.kept λb o e=>hk b o (λhm=>by rw [List.mem_singleton.mp hm] at e;exact Nat.lt_irrefl _ (Heap.lt_size e)) (Heap.get?_push_of_some _ e),rfl,q⟩
end
section
variable {X:Cx} {l8:J7} {σ:St} {H:Hp} {s:Sh} {h':Heap}
def Inv.turnedT {its:Jc} {T:Ad} {o:HO} {t':Nat} (I:Inv X l8 σ H s) (k:∀ b u,b ∉ its->s.heap.get? b=some u->h'.get? b=some u) (hf:∀ b∈its,Yf X l8 H b) (hT:s.heap.objs.size<=T) (new:ObjOk X.prog X.w (upd H T o) h' T o) :
  Inv X l8 σ (upd H T o) { s with heap:=h',toks:=t' }:=by
 have fr:=I.hok.fresh hT;have neT:∀ {b:Ad} {u:Obj},s.heap.get? b=some u->b≠T:=λe=>Nat.ne_of_lt (q7z (Heap.lt_size e) hT);have ni:∀ {b:Ad} {u:HO},H b=some u->b ∉ its:=λe m=>by rw [(hf _ m).1] at e;cases e
 refine I.step (g':=s.gens) (d':=s.drawn) (ch:=its) (λb hb=>?_) (λb u _ _ hc e _=>k b u hc e) (λb u _ _ hc e _=>⟨u.slots,k b u hc e⟩) (λb u _ e n=>by rw [zj (neT e)];exact n)
  (λb u hc e=>⟨u,k b u hc e⟩) (λb ys e=>by rw [zj (zq e fr)];exact e) (λb u v e=>by rw [zj (zq e fr)];exact e) (λb ps e=>⟨#[],by rw [zj (zq e fr),e];simp⟩) (λm hm=>?_) (λb u e=>?_) I.bare
 ·obtain ⟨_,f1,_,f3,f4,f5⟩:=hf b hb
  exact ⟨f3,f1,f4,f5⟩
 ·obtain ⟨ob,es,ep,ho,r⟩:=hm
  exact ⟨ob,es,ep,k _ ob (λm=>(hf _ m).2.1 rfl) ho,r⟩
 ·by_cases hb:b=T
  ·subst hb;rw [zi] at e;cases e;exact new
  ·rw [zj hb] at e
   refine (I.hok b u e).stay (λc v hc q=>k c v ?_ q) (λc q=>by rw [zj (zq q fr)];exact q) λc ys q=>by rw [zj (zq q fr)];exact q
   rcases hc with z | z
   ·rw [z];exact ni e
   ·exact ni z
def Inv.turnedL {its:Jc} {t':Nat} (I:Inv X l8 σ H s) (k:∀ b u,b ∉ its->s.heap.get? b=some u->h'.get? b=some u) (hf:∀ b∈its,Yf X l8 H b):Inv X l8 σ H { s with heap:=h',toks:=t' }:=by
 have ni:∀ {b:Ad} {u:HO},H b=some u->b ∉ its:=λe m=>by rw [(hf _ m).1] at e;cases e
 refine I.step (g':=s.gens) (d':=s.drawn) (ch:=its) (λb hb=>?_) (λb u _ _ hc e _=>k b u hc e) (λb u _ _ hc e _=>⟨u.slots,k b u hc e⟩) (λ_ _ _ _ n=>n)
  (λb u hc e=>⟨u,k b u hc e⟩) (λ_ _ e=>e) (λ_ _ _ e=>e) (λb ps e=>⟨#[],by rw [e];simp⟩) (λm hm=>?_) (λb u e=>?_) I.bare
 ·obtain ⟨_,f1,_,f3,f4,f5⟩:=hf b hb
  exact ⟨f3,f1,f4,f5⟩
 ·obtain ⟨ob,es,ep,ho,r⟩:=hm
  exact ⟨ob,es,ep,k _ ob (λm=>(hf _ m).2.1 rfl) ho,r⟩
 ·refine (I.hok b u e).stay (λc v hc q=>k c v ?_ q) (λ_ q=>q) λ_ _ q=>q
  rcases hc with z | z
  ·rw [z];exact ni e
  ·exact ni z
end
def Itz (K:Fg) (l1 l2:Ad):It :=
  ⟨λi H=>∃ xs ys x y,SqL K H l1 xs/\SqL K H l2 ys/\xs[i]?=some x/\ys[i]?=some y,
   λi H x H'=>∃ T u v,x=.ref T/\H T=none/\H'=upd H T (.tup [u,v])/\∀ xs ys,SqL K H l1 xs->SqL K H l2 ys->xs[i]?=some u/\ys[i]?=some v,
   λi H=>∃ xs ys,SqL K H l1 xs/\SqL K H l2 ys/\(xs.length<=i∨ys.length<=i)⟩
def turn_zip {P:Program} {w:World} {K:Fg} {es:Jd} {kt:Nat} {pos:Pos} {z TI TO i1 i2 l1 l2:Ad} (D:ZipApart z TI TO i1 i2 l1 l2) :
  Turn P w K (.Tuple es kt pos) (Itz K l1 l2) [z,TI,TO,i1,i2] z (λi h=>IsZip h z TI TO .none/\IsPair h TI (.ref i1) (.ref i2)/\(∃ a b,IsPair h TO a b)/\h.IsListIter i1 l1 i/\h.IsListIter i2 l2 i) where
 mem:=by simp
 obj:=λi h st b hb=>by
  obtain ⟨hz,hI,⟨a,b',hO⟩,⟨o1,e1,c1,d1⟩,⟨o2,e2,c2,d2⟩⟩:=st;simp at hb;rcases hb with rfl | rfl | rfl | rfl | rfl
  ·exact ⟨_,hz,λv q=>by cases q⟩
  ·exact ⟨_,hI,λv q=>by cases q⟩
  ·exact ⟨_,hO,λv q=>by cases q⟩
  ·exact ⟨_,e1,λv q=>by rw [d1] at q;cases q⟩
  ·exact ⟨_,e2,λv q=>by rw [d2] at q;cases q⟩
 keep:=λi h h' st k=>by
  obtain ⟨hz,hI,⟨a,b',hO⟩,h1,h2⟩:=st;exact ⟨k z (by simp) _ hz,k TI (by simp) _ hI,⟨a,b',k TO (by simp) _ hO⟩,h1.at λo e=>k i1 (by simp) o e,h2.at λo e=>k i2 (by simp) o e⟩
 item:=by
  intro X hP hw hK hc i l8 s σ H E I hf st hg;subst hP hw hK;obtain ⟨hz,hI,⟨a,b',hO⟩,h1,h2⟩:=st;obtain ⟨xs,ys,x,y,q1,q2,ex,ey⟩:=hg;obtain ⟨is1,r1,p1,_⟩:=I.list q1;obtain ⟨is2,r2,p2,_⟩:=I.list q2;obtain ⟨u,hu,ru⟩:=r1.get ex;obtain ⟨v,hv,rv⟩:=r2.get ey;refine wpAny_pyNext_zip_item D hz hI hO h1 h2 p1.isList p2.isList (x:=u) (y:=v) (by simpa using hu) (by simpa using hv) λh1' a1 a2 a3 a4 a5 a6 hk=>?_;refine ⟨_,rfl,wpAny_letOwnedTupleGo_zip (s:={ s with heap:=h1' }) a1 λh2' z' sb=>?_⟩;have lt:∀ {c:Ad} {o:Obj},s.heap.get? c=some o->c≠s.heap.objs.size:=λe=>Nat.ne_of_lt (Heap.lt_size e);have Tz:s.heap.objs.size≠z:=(lt hz).symm;have fr:=I.hok.fresh (Nat.le_refl _);refine ⟨.ref s.heap.objs.size,upd H s.heap.objs.size (.tup [x,y]),I.turnedT (its:=[z,TI,TO,i1,i2]) (t':=s.toks) (λb o nb e=>?_) hf (Nat.le_refl _) ⟨by show 2<=sizeLine;decide,[u,v],.cons ru (.cons rv .nil),_,sb.extBut _ _ Tz a5,rfl,_,rfl⟩,rfl,⟨s.heap.objs.size,x,y,rfl,fr,rfl,λxs' ys' q1' q2'=>?_⟩,?_,λb hb=>?_⟩
  ·have nb':b≠z/\b≠TI/\b≠TO/\b≠i1/\b≠i2:=by simpa using nb
   exact sb.extBut _ _ nb'.1 (hk b o nb'.1 nb'.2.2.1 nb'.2.2.2.1 nb'.2.2.2.2 e)
  ·rw [I.list_inj q1' q1,I.list_inj q2' q2];exact ⟨ex,ey⟩
  ·exact ⟨z',sb.extBut _ _ D.TIz (hk _ _ D.TIz D.TITO D.TIi1 D.TIi2 hI),⟨_,_,sb.extBut _ _ D.TOz a2⟩,a3.extBut sb.extBut D.i1z,a4.extBut sb.extBut D.i2z⟩
  ·have e:=(hf b hb).1
   have:∃ o,s.heap.get? b=some o:=by
    simp at hb;rcases hb with rfl | rfl | rfl | rfl | rfl
    ·exact ⟨_,hz⟩
    ·exact ⟨_,hI⟩
    ·exact ⟨_,hO⟩
    ·obtain ⟨o,e,_⟩:=h1;exact ⟨o,e⟩
    ·obtain ⟨o,e,_⟩:=h2;exact ⟨o,e⟩
   obtain ⟨o,eo⟩:=this;rw [zj (lt eo)];exact e
 done:=by
  intro X hP hw hK hc i l8 s σ H E I hf st hg;subst hP hw hK;obtain ⟨hz,hI,⟨a,b',hO⟩,h1,h2⟩:=st;obtain ⟨xs,ys,q1,q2,le⟩:=hg;obtain ⟨is1,r1,p1,_⟩:=I.list q1;obtain ⟨is2,r2,p2,_⟩:=I.list q2;have g1:=r1.length;have g2:=r2.length;refine wpAny_pyNext_zip_end (I.ok.hd hc) D hz hI hO h1 h2 p1.isList p2.isList (by rcases le with le | le;exact .inl (by simp;omega);exact .inr (by simp;omega)) λh1' hk=>⟨rfl,I.turnedL (its:=[z,TI,TO,i1,i2]) (t':=s.toks) (λb o nb e=>?_) hf⟩;have nb':b≠z/\b≠TI/\b≠TO/\b≠i1/\b≠i2:=by simpa using nb
  exact hk b o nb'.1 nb'.2.2.1 nb'.2.2.2.1 nb'.2.2.2.2 e
 self:=λ_ _ _ _ _ st h=>wpAny_pyIter_zip st.1 h
section
variable {X:Cx} {es:Jd} {kt:Nat} {tp:Pos}
inductive iZip_S (K:Fg) (R:(It->Hp->Prop)) (vs:Jj) (H1:Hp):Prop
 | mk (l1 l2:_) (_:vs=[.ref l1,.ref l2]) (_:(∃ xs,SqL K H1 l1 xs)) (_:(∃ ys,SqL K H1 l2 ys)) (_:R (Itz K l1 l2) H1)
def iZip (K:Fg) (ta:TA):TI:=λσ H R=>ta σ H λvs H1=>iZip_S K R vs H1
def pi_zip {a b:Expr} {ta:TA} {p pos:Pos} (hg:Gl X "zip") (hm:X.mg "zip"=none) (ha:PA X [a,b] ta) (hs:starEach [a,b] X.env=[(false,eval a X.env),(false,eval b X.env)]:=by rfl)
  (hs2:starEach [b] X.env=[(false,eval b X.env)]:=by rfl):PI X (.Tuple es kt tp) (.Call (.Name "zip" p) [a,b] [] pos) (iZip X.K ta):=by
 intro l8 s σ H R I h;refine Call_ (Yb I hg hm boot_zip (PyProof.Rows.callWith_type1 (thn (ha pos l8 s σ H _ I h) λus s1 ⟨vs,H1,I1,r1,q1⟩=>?_) (by rw [hs,hs2]) (by rw [hs2];rfl)));obtain ⟨l1,l2,e,⟨xs,x1⟩,⟨ys,x2⟩,q⟩:=q1;subst e;obtain ⟨u,v,rfl,ru,rv⟩:=vals2 r1;cases (show u=Value.ref l1 from ru);cases (show v=Value.ref l2 from rv);obtain ⟨is1,g1,p1,_⟩:=I1.list x1;obtain ⟨is2,g2,p2,_⟩:=I1.list x2;have L1:l1<s1.heap.objs.size:=by obtain ⟨_,e,_⟩:=p1.isList;exact Heap.lt_size e
 have L2:l2<s1.heap.objs.size:=by obtain ⟨_,e,_⟩:=p2.isList;exact Heap.lt_size e
 refine call_zip_2 p1.isList p2.isList λh' a1 a2 a3 a4 a5 a6 hk=>?_;refine wpAny_pyIter_zip (s:={ s1 with heap:=h' }) a1 ?_;have J:Inv X l8 σ H1 { s1 with heap:=h' }:=I1.kept (t':=s1.toks) λb o e=>hk b o e;have fp:∀ n,Yf X l8 H1 (s1.heap.objs.size+n):=λn=>I1.fpOk (Nat.le_add_right _ _) (I1.hok.fresh (Nat.le_add_right _ _));refine ⟨_,_,_,_,H1,rfl,J,turn_zip (zipApart_new L1 L2),⟨a1,a2,⟨_,_,a3⟩,a4,a5⟩,λb hb=>?_,q⟩;simp at hb;rcases hb with rfl | rfl | rfl | rfl | rfl
 ·exact fp 4
 ·exact fp 2
 ·exact fp 3
 ·exact fp 0
 ·exact fp 1
end
def for_zip {K:Fg} {l1 l2:Ad} {xs ys:Jj} {g:TG} {tb:TS} {D:Ends} {σ:St} {H:Hp} (Pv:Nat->St->Hp->Prop) (h0:Pv 0 σ H) (hl:∀ i σ H,i<=xs.length->Pv i σ H->SqL K H l1 xs/\SqL K H l2 ys) (he:ys.length=xs.length)
  (hs:∀ i x y σ H T,xs[i]?=some x->ys[i]?=some y->Pv i σ H->H T=none->g (.ref T) σ (upd H T (.tup [x,y])) λσ2 H2=>tb { D with nx:=Pv (i+1),ct:=Pv (i+1),bk:=D.nx } σ2 H2) (hd:∀ σ H,Pv xs.length σ H->D.nx σ H) :
  tFor_S g tb D σ (Itz K l1 l2) H:=by
 refine ⟨λi m σ H=>m=xs.length-i/\i<=xs.length/\Pv i σ H,⟨xs.length,by simp,Nat.zero_le _,h0⟩,?_⟩;rintro i m σ H ⟨rfl,hi,p⟩;obtain ⟨q1,q2⟩:=hl i σ H hi p;by_cases hlt:i<xs.length
 ·refine .inr ⟨⟨xs,ys,xs[i],ys[i],q1,q2,by simp [hlt],by simp [he,hlt]⟩,Pv (i+1),λσ' H' p'=>⟨xs.length-(i+1),by omega,rfl,hlt,p'⟩,λx H' y=>?_⟩
  obtain ⟨T,u,v,e,nT,e',y⟩:=y;subst e e';obtain ⟨y1,y2⟩:=y xs ys q1 q2;exact hs i u v σ H T y1 y2 p nT
 ·have e:i=xs.length:=by omega
  subst e;exact .inl ⟨⟨xs,ys,q1,q2,.inl (Nat.le_refl _)⟩,hd σ H p⟩
section
variable (P:Program) (w:World)
end
section
variable {P:Program} {w:World} {H H':Hp} {h h':Heap} {a:Ad} {o:HO}
end
section
variable {P:Program} {w:World} {H:Hp} {h h':Heap} {x e:Ad} {o':HO}
end
section
variable {fs fs' ex ex':Jc} {H H1 H2:Hp} {h h1 h2 h':Heap} {a x e:Ad} {o:HO}
end
section
variable {X:Cx} {l8:J7} {σ:List (Jk)} {H H':Hp} {s:Sh} {h':Heap}
end
section
variable {X:Cx}
variable {a b:Expr} {ta tb:TE} {pos:Pos}
variable {tA tB':TT} {rest:Jd}
end
section
variable {X:Cx} {l8:J7} {σ:St} {H:Hp} {s:Sh} {a:Ad} {xs ys:Jj}
end
section
variable {X:Cx} {l8:J7} {σ:St} {H:Hp} {s:Sh} {E:J5}
end
section
variable {X:Cx} {st:Stmt} {rest:List Stmt} {t u:TS} {e:Expr} {te:TE} {pos:Pos}
end
section
variable {X:Cx} {pos:Pos}
end
section
variable {X:Cx} {tg:Expr}
end
section
variable {X:Cx} {a b c:Expr} {ta tb tc:TE} {pos:Pos}
end
section
variable {prog:Program} {w:World} {A:Around} {E:J5} {s:Sh} {K:Fg} {x dx C f:Ad} {mA:J0} {name:Str} {v:Vl}
end
section
variable {P:Program} {w:World} {H H':Hp} {h h':Heap} {a C dx:Ad} {fs fs':List (Str×V)}
end
section
variable {X:Cx} {l8:J7} {σ:St} {H:Hp} {s:Sh} {a C dx:Ad} {fs:List (Str×V)} {f:Str} {v:V} {A:Around} {E:J5}
end
section
variable {X:Cx} {o e value:Expr} {f:Str} {pos pos' tpos:Pos} {ta tv:TE}
end
section
variable {X:Cx} {l8:J7} {σ:St} {H:Hp} {s:Sh} {A:Around} {E:J5} {Q:J5} {c:Vl} {b:Bool}
end
section
variable {X:Cx} {e:Expr} {es:Jd} {te:TE} {t:TA} {pos:Pos}
end
section
variable {X:Cx} {l8:J7} {σ:St} {H:Hp} {s s':Sh}
end
section
variable {X:Cx} {CX:CXT} {k:Nat} {f C:Ad} {fd:FuncData} {ps:Jb} {sp:Sp} {dvs:Jj} {ds:J8} {E:XK} {x m:Str} {p pos apos:Pos} {e o:Expr} {es:Jd} {ta:TE} {t:TA}
end
section
variable {X:Cx} {CX:CXT} {k:Nat} {f C:Ad} {fd:FuncData} {ps ks:Jb} {sp:Sp} {E:XK} {x m:Str} {p pos apos kpos:Pos} {e o:Expr} {es:Jd} {kws:List Keyword} {te ta:TE} {t tk:TA} {nm:Option Str}
variable {g:J8->J8->J8} {gV:Jj->Jj->Jj}
end
section
variable {X:Cx} {x:Str} {p pos:Pos} {e:Expr} {es:Jd} {t:TA} {id T:String} {r:Jj->Hp->VK->Prop}
end
section
variable {κ:Type} [DecidableEq κ]
def zO (md:List (κ×V)) (k:κ):Jk:=(md.find? λkv=>decide (kv.1=k)).map (·.2)
def yL (md:List (κ×V)) (k:κ) (v:V):List (κ×V) :=
 if (md.any λkv=>decide (kv.1=k))=true then md.map (λkv=>if kv.1=k then (kv.1,v) else kv) else md++[(k,v)]
def yx {p:κ×V} {r:List (κ×V)} {k:κ} (e:p.1=k):zO (p::r) k=some p.2:=by simp [zO,List.find?_cons,e]
def yy {p:κ×V} {r:List (κ×V)} {k:κ} (e:¬ p.1=k):zO (p::r) k=zO r k:=by simp [zO,List.find?_cons,e]
theorem YX (k:κ):∀ md:List (κ×V),(md.any λkv=>decide (kv.1=k))=(zO md k).isSome
 | []=>rfl
 | p::r=>by
  rw [List.any_cons];by_cases e:p.1=k
  ·simp only [yx e,decide_eq_true e,Bool.true_or,Option.isSome_some]
  ·rw [yy e,decide_eq_false e,Bool.false_or];exact YX k r
theorem zda (k j:κ) (y:V):∀ md:List (κ×V),zO (md.map λkv=>if kv.1=k then (kv.1,y) else kv) j=(zO md j).map λx=>if j=k then y else x
 | []=>rfl
 | p::r=>by
  have ih:=zda k j y r;rw [List.map_cons];by_cases h:p.1=k
  ·rw [if_pos h]
   by_cases e:p.1=j
   ·rw [yx (p:=(p.1,y)) e,yx e,Option.map_some,if_pos (e.symm.trans h)]
   ·rw [yy (p:=(p.1,y)) e,yy e,ih]
  ·rw [if_neg h]
   by_cases e:p.1=j
   ·rw [yx (p:=p) e,yx e,Option.map_some,if_neg (λz=>h (e.trans z))]
   ·rw [yy (p:=p) e,yy e,ih]
theorem zbl (k j:κ) (y:V):∀ md:List (κ×V),zO md k=none->zO (md++[(k,y)]) j=if j=k then some y else zO md j
 | [],_=>by
  by_cases e:k=j
  ·rw [if_pos e.symm];exact yx (p:=(k,y)) e
  ·rw [if_neg (λz=>e z.symm)];exact yy (p:=(k,y)) e
 | p::r,hn=>by
  rw [List.cons_append];have hk:¬ p.1=k:=λz=>by rw [yx z] at hn;cases hn
  rw [yy hk] at hn;have ih:=zbl k j y r hn;by_cases e:p.1=j
  ·rw [yx e,yx e,if_neg (λz=>hk (e.trans z))]
  ·rw [yy e,yy e,ih]
def xU (md:List (κ×V)) (k j:κ) (y:V):zO (yL md k y) j=if j=k then some y else zO md j:=by
 unfold yL;by_cases a:(md.any λkv=>decide (kv.1=k))=true
 ·rw [if_pos a,zda]
  rw [YX] at a;by_cases e:j=k
  ·obtain ⟨x,hx⟩:=Option.isSome_iff_exists.mp a
   rw [if_pos e,e,hx,Option.map_some,if_pos rfl]
  ·rw [if_neg e]
   cases zO md j with
   | none=>rfl
   | some x=>rw [Option.map_some,if_neg e]
 ·rw [if_neg a]
  refine zbl k j y md ?_;rw [YX] at a
  cases q:zO md k with
  | none=>rfl
  | some x=>rw [q] at a;exact (a rfl).elim
def xi (md:List (κ×V)) (k:κ) (v:V):(yL md k v).length<=md.length+1:=by
 unfold yL
 split
 ·rw [Je];omega
 ·rw [Jf,q8x,List.length_nil];omega
def RelO.isSome_eq {o:Jk} {u:Ja} (r:RelO o u):o.isSome=u.isSome:=by
 cases o with
 | none=>cases u with
  | none=>rfl
  | some _=>exact (show False from r).elim
 | some _=>cases u with
  | none=>exact (show False from r).elim
  | some _=>rfl
def RelO.getD {o:Jk} {u:Ja} {d:V} {d':Vl} (r:RelO o u) (rd:RelV d d'):RelV (o.getD d) (u.getD d'):=by
 cases o with
 | none=>cases u with
  | none=>exact rd
  | some _=>exact (show False from r).elim
 | some _=>cases u with
  | none=>exact (show False from r).elim
  | some _=>exact r
def KV.val {md:List (κ×V)} {vs:List (κ×Vl)} (r:KV md vs) (k:κ):RelO (zO md k) (valueAt vs k):=by
 unfold KV at r
 induction r with
 | nil=>exact True.intro
 | @cons p q ps qs h t ih =>
  obtain ⟨h1,h2⟩:=h;by_cases e:p.1=k
  ·have e':q.1=k:=h1.symm.trans e
   have b:valueAt (q::qs) k=some q.2:=by simp [valueAt,List.find?_cons,e']
   rw [yx e,b];exact h2
  ·have e':¬ q.1=k:=λz=>e (h1.trans z)
   have b:valueAt (q::qs) k=valueAt qs k:=by simp [valueAt,List.find?_cons,e']
   rw [yy e,b];exact ih
def KV.any {md:List (κ×V)} {vs:List (κ×Vl)} (r:KV md vs) (k:κ):(md.any λkv=>decide (kv.1=k))=vs.any λkv=>decide (kv.1=k):=by
 unfold KV at r
 induction r with
 | nil=>rfl
 | cons h t ih=>rw [List.any_cons,List.any_cons,ih,h.1]
def KV.repl {md:List (κ×V)} {vs:List (κ×Vl)} (r:KV md vs) (k:κ) {y:V} {u:Vl} (ry:RelV y u) :
  KV (md.map λkv=>if kv.1=k then (kv.1,y) else kv) (vs.map λkv=>if kv.1=k then (kv.1,u) else kv):=by
 unfold KV at r ⊢
 induction r with
 | nil=>exact .nil
 | @cons p q ps qs h t ih =>
  rw [List.map_cons,List.map_cons];refine .cons ?_ ih;obtain ⟨h1,h2⟩:=h;by_cases e:p.1=k
  ·rw [if_pos e,if_pos (h1.symm.trans e)];exact ⟨h1,ry⟩
  ·rw [if_neg e,if_neg (λz=>e (h1.trans z))];exact ⟨h1,h2⟩
def KV.put {md:List (κ×V)} {vs:List (κ×Vl)} (r:KV md vs) (k:κ) {y:V} {u:Vl} (ry:RelV y u):KV (yL md k y) (stored vs k u):=by
 unfold yL stored;rw [r.any k];by_cases e:(vs.any λkv=>decide (kv.1=k))=true
 ·rw [if_pos e,if_pos e];exact r.repl k ry
 ·rw [if_neg e,if_neg e];exact Paired.snoc r ⟨rfl,ry⟩
def KV.keys {md:List (κ×V)} {vs:List (κ×Vl)} (r:KV md vs):md.map (·.1)=vs.map (·.1):=by
 unfold KV at r
 induction r with
 | nil=>rfl
 | cons h t ih=>rw [List.map_cons,List.map_cons,ih,h.1]
def KV.length {md:List (κ×V)} {vs:List (κ×Vl)} (r:KV md vs):md.length=vs.length:=Paired.length r
end
def zaw {P:Program} {w:World} {k:Key} {u:Vl} (r:RelV (kV k) u):(zM P w).is k u=true:=by
 cases k with
 | inl i=>obtain ⟨t,e⟩:=(show ∃ t,u=Value.int i t from r);subst e;exact zd5 P w i t
 | inr x=>obtain ⟨t,e⟩:=(show ∃ t,u=Value.str x t from r);subst e;exact zd4 P w x t
theorem zbx {P:Program} {w:World}:∀ {ks:List Key} {us:J8},Vals (ks.map kV) us->ItemsAre (zM P w) ks us
 | [],_,r=>by rw [List.map_nil] at r;cases r;exact .nil
 | k::ks,_,r=>by
  rw [List.map_cons] at r
  cases r with
  | cons h t=>exact .cons (zaw h) (zbx t)
abbrev KT (H:Hp):List (List Key×V)->List (List Key×Ad×Vl)->Prop:=Paired λp q=>p.1=q.1/\H q.2.1=some (.tup (p.1.map kV))/\RelV p.2 q.2.2
def KT.val {H:Hp} {md:List (List Key×V)} {xs:List (List Key×Ad×Vl)} (r:KT H md xs) (k:List Key):RelO (zO md k) ((atKey xs k).map (·.2)):=by
 induction r with
 | nil=>exact True.intro
 | @cons p q ps qs h t ih =>
  obtain ⟨h1,_,h2⟩:=h;by_cases e:p.1=k
  ·have e':q.1=k:=h1.symm.trans e
   have b:atKey (q::qs) k=some q.2:=by simp [atKey,List.find?_cons,e']
   rw [yx e,b];exact h2
  ·have e':¬ q.1=k:=λz=>e (h1.trans z)
   have b:atKey (q::qs) k=atKey qs k:=by simp [atKey,List.find?_cons,e']
   rw [yy e,b];exact ih
def KT.repl {H:Hp} {md:List (List Key×V)} {xs:List (List Key×Ad×Vl)} (r:KT H md xs) (k:List Key) {y:V} {u:Vl} (ry:RelV y u) :
  KT H (md.map λkv=>if kv.1=k then (kv.1,y) else kv) (xs.map (putAt k u)):=by
 induction r with
 | nil=>exact .nil
 | @cons p q ps qs h t ih =>
  rw [List.map_cons,List.map_cons];refine .cons ?_ ih;obtain ⟨h1,h2,h3⟩:=h;unfold putAt;by_cases e:p.1=k
  ·rw [if_pos e,if_pos (h1.symm.trans e)];exact ⟨h1,h2,ry⟩
  ·rw [if_neg e,if_neg (λz=>e (h1.trans z))];exact ⟨h1,h2,h3⟩
def KT.put {H:Hp} {md:List (List Key×V)} {xs:List (List Key×Ad×Vl)} (r:KT H md xs) (k:List Key) {b:Ad} {y:V} {u:Vl} (hb:H b=some (.tup (k.map kV))) (ry:RelV y u) :
  KT H (yL md k y) (storedH xs k b u):=by
 have e:(md.any λkv=>decide (kv.1=k))=(atKey xs k).isSome:=by
  rw [YX,(r.val k).isSome_eq,Option.isSome_map]
 unfold yL storedH;rw [e];by_cases q:(atKey xs k).isSome=true
 ·rw [if_pos q,if_pos q];exact r.repl k ry
 ·rw [if_neg q,if_neg q];exact Paired.snoc r ⟨rfl,hb,ry⟩
def KT.keeps {H H':Hp} {md:List (List Key×V)} {xs:List (List Key×Ad×Vl)} (r:KT H md xs) (ht:∀ b ys,H b=some (.tup ys)->H' b=some (.tup ys)):KT H' md xs :=
 Paired.mapP r λ_ _ z=>⟨z.1,ht _ _ z.2.1,z.2.2⟩
section
variable {P:Program} {w:World} {H:Hp} {h:Heap} {a:Ad}
def rd_of {u:HO} (ok:HOk P w H h) (e:Rd H a u):ObjOk P w H h a u:=e.ok ok
def za2 {md:Jh} (ok:HOk P w H h) (e:Rd H a (.dK md)):md.length<=sizeLine/\(a == sysModules)=false/\∃ vs,KV md vs/\h.DictOf (zM P w) a vs :=
 show ObjOk P w H h a (.dK md) from rd_of ok e
def dk_of {md:Jh} (ok:HOk P w H h) (e:H a=some (.dK md)):md.length<=sizeLine/\(a == sysModules)=false/\∃ vs,KV md vs/\h.DictOf (zM P w) a vs:=za2 ok (.inl e)
def Xw {ks:List Key} (ok:HOk P w H h) (e:H a=some (.tup (ks.map kV))):(tupleKind (zM P w)).is h ks a:=by
 obtain ⟨_,its,r,o,h1,h2,n,h3⟩:=(show ObjOk P w H h a (.tup (ks.map kV)) from ok a _ e);exact ⟨o,its.toArray,n,h1,h2,h3,by simpa using zbx r⟩
def za1 {md:List (List Key×V)} (ok:HOk P w H h) (e:Rd H a (.dT md)):md.length<=sizeLine/\(a == sysModules)=false /\
  ∃ xs,KT H md xs/\h.DictOfH (tupleKind (zM P w)) a xs:=by
 obtain ⟨z,y,xs,r,o,es,ep,h1,h2,h3,h4,h5⟩:=(show ObjOk P w H h a (.dT md) from rd_of ok e);refine ⟨z,y,xs,r,o,es,ep,h1,h2,h3,h4,λx hx=>?_,h5⟩
 have all:∀ {l:List (List Key×V)} {m:List (List Key×Ad×Vl)},KT H l m->∀ x∈m,(tupleKind (zM P w)).is h x.1 x.2.1:=by
  intro l m q
  induction q with
  | nil=>intro x hx;exact nomatch hx
  | @cons p q ps qs hq t ih =>
   intro x hx;rcases List.mem_cons.mp hx with e | hx
   ·subst e
    exact Xw ok (by rw [← hq.1];exact hq.2.1)
   ·exact ih x hx
 exact all r x hx
def dt_of {md:List (List Key×V)} (ok:HOk P w H h) (e:H a=some (.dT md)):md.length<=sizeLine/\(a == sysModules)=false /\
  ∃ xs,KT H md xs/\h.DictOfH (tupleKind (zM P w)) a xs:=za1 ok (.inl e)
end
def DGet (H:Hp) (a:Ad) (y:V) (r:Jk):Prop :=
 (∃ md k,Rd H a (.dK md)/\y=kV k/\r=zO md k)∨∃ md k b,Rd H a (.dT md)/\y=.ref b/\H b=some (.tup (k.map kV))/\r=zO md k
def DPut (H:Hp) (a:Ad) (y v:V) (H':Hp):Prop :=
 (∃ md k,H a=some (.dK md)/\y=kV k/\md.length<sizeLine/\H'=upd H a (.dK (yL md k v))) ∨
 ∃ md k b,H a=some (.dT md)/\y=.ref b/\H b=some (.tup (k.map kV))/\md.length<sizeLine/\H'=upd H a (.dT (yL md k v))
def DGet.k {H:Hp} {a:Ad} {md:Jh} {k:Key} (e:H a=some (.dK md)):DGet H a (kV k) (zO md k):=.inl ⟨md,k,.inl e,rfl,rfl⟩
def DPut.k {H:Hp} {a:Ad} {md:Jh} {k:Key} {v:V} (e:H a=some (.dK md)) (hl:md.length<sizeLine):DPut H a (kV k) v (upd H a (.dK (yL md k v))):=.inl ⟨md,k,e,rfl,hl,rfl⟩
section
variable {X:Cx} {l8:J7} {σ:St} {H:Hp} {s:Sh} {a:Ad} {y v:V} {u r:Vl} {o:Jk} {A:Around} {E:J5}
def Inv.big (I:Inv X l8 σ H s):sysModules<s.heap.objs.size:=by
 have h:mainGlobals<s.heap.objs.size:=(I.mod.glob.keeps I.bk).lt;exact Nat.lt_trans (by decide) h
def d_getItem {Q:J5} (hu:A.units+1<cLine) (I:Inv X l8 σ H s) (g:DGet H a y (some v)) (ry:RelV y u) (h:∀ w' s',Inv X l8 σ H s'->RelV v w'->Q w' s') :
  wpAny (model X.prog X.w) A (getItem (.ref a) u) Q E s:=by
 rcases g with ⟨md,k,e,ey,l⟩ | ⟨md,k,b,e,ey,eb,l⟩
 ·subst ey
  obtain ⟨z,hd,vs,rel,dd⟩:=za2 I.hok e;obtain ⟨w',hw,rw'⟩:=RelO.some_of (v:=v) (o:=valueAt vs k) (by rw [l];exact rel.val k);exact wpAny_getItem_of (zaw ry) dd.mapOf hw (h w' _ (I.tok _) rw')
 ·subst ey
  cases (show u=Value.ref b from ry);obtain ⟨z,hd,xs,rel,dd⟩:=za1 I.hok e;obtain ⟨w',hw,rw'⟩:=RelO.some_of (v:=v) (o:=(atKey xs k).map (·.2)) (by rw [l];exact rel.val k);obtain ⟨p,hp,hp2⟩:=Option.map_eq_some_iff.mp hw;refine wpAny_getItem_heap (tupleKind_room_in1 hu) (Xw I.hok eb) dd hp ?_;rw [hp2];exact h w' _ (I.tok _) rw'
def d_notIn {Q:J5} (hu:A.units+1<cLine) (I:Inv X l8 σ H s) (g:DGet H a y o) (ry:RelV y u) (h:∀ s',Inv X l8 σ H s'->Q (.bool (!o.isSome)) s') :
  wpAny (model X.prog X.w) A (compareOp .NotIn u (.ref a)) Q E s:=by
 rcases g with ⟨md,k,e,ey,l⟩ | ⟨md,k,b,e,ey,eb,l⟩
 ·subst ey
  obtain ⟨z,hd,vs,rel,dd⟩:=za2 I.hok e;refine wpAny_notIn_of (zaw ry) hd dd.mapOf ?_;rw [← (rel.val k).isSome_eq,← l];exact h _ (I.tok _)
 ·subst ey
  cases (show u=Value.ref b from ry);obtain ⟨z,hd,xs,rel,dd⟩:=za1 I.hok e;refine wpAny_notIn_heap (tupleKind_room_in1 hu) (Xw I.hok eb) hd dd ?_;have q:=(rel.val k).isSome_eq;rw [Option.isSome_map] at q;rw [← q,← l];exact h _ (I.tok _)
def d_write {h':Heap} {t':Nat} {ob:HO} (I:Inv X l8 σ H s) (mu:Mut (H a)) (hs:Heap.SameBut a s.heap h') (he:∃ q,h'.get? a=some q) (new:ObjOk X.prog X.w (upd H a ob) h' a ob) :
  Inv X l8 σ (upd H a ob) { s with heap:=h',toks:=t' } :=
 I.write (x:=a) (e:=a) mu (.inl rfl) (λb q hb z=>(hs.2 b hb).trans z) he new
def dk_new {P:Program} {w:World} {H':Hp} {h':Heap} {md:Jh} {vs:List (Key×Vl)} (z:md.length<=sizeLine) (hd:(a == sysModules)=false) (rel:KV md vs) (dd:h'.DictOf (zM P w) a vs) :
  ObjOk P w H' h' a (.dK md):=⟨z,hd,vs,rel,dd⟩
def d_setItem {H':Hp} {Q:Unit->Sh->Prop} (hu:A.units+1<cLine) (I:Inv X l8 σ H s) (g:DPut H a y v H') (ry:RelV y u) (rv:RelV v r) (h:∀ s',Inv X l8 σ H' s'->Q () s') :
  wpAny (model X.prog X.w) A (setItem (.ref a) u r) Q E s:=by
 rcases g with ⟨md,k,e,ey,l,eH⟩ | ⟨md,k,b,e,ey,eb,l,eH⟩
 ·subst ey eH
  obtain ⟨z,hd,vs,rel,dd⟩:=dk_of I.hok e;have hz:vs.length<=sizeLine:=by rw [← rel.length];exact z
  have hl:(yL md k v).length<=sizeLine:=by have:=xi md k v;omega
  refine wpAny_setItem_pairs (hsz:=hz) (zaw ry) dd λh' dd' hs=>h _ ?_;have he:∃ q,h'.get? a=some q:=let ⟨q,_,_,hq,_⟩:=dd';⟨q,hq⟩;exact d_write I (by rw [e];exact True.intro) hs he (dk_new hl hd (rel.put k rv) dd')
 ·subst ey eH
  cases (show u=Value.ref b from ry);obtain ⟨z,hd,xs,rel,dd⟩:=dt_of I.hok e;have hz:xs.length<=sizeLine:=by rw [← Paired.length rel];exact z
  have hl:(yL md k v).length<=sizeLine:=by have:=xi md k v;omega
  refine wpAny_setItem_heap (hsz:=hz) (tupleKind_room_in1 hu) (Xw I.hok eb) dd λh' dd' hs=>h _ ?_;obtain ⟨q,es,ep,hq,h2,h3,h4,_,h5⟩:=dd';refine d_write I (by rw [e];exact True.intro) hs ⟨q,hq⟩ ⟨hl,hd,_,(rel.put k eb rv).keeps λc ys ec=>?_,q,es,ep,hq,h2,h3,h4,h5⟩;rw [zj (ne_of ec e (λz=>nomatch z))];exact ec
end
section
variable {X:Cx} {l8:J7} {σ:St} {H:Hp} {s:Sh} {a:Ad} {md:Jh} {k:Key} {u:Vl} {A:Around} {E:J5}
end
def NoSl (i:Expr):Prop:=∀ ov iv,subscripted i false ov iv=operate [ov,iv] (getItem ov iv)
def subD_of {prog:Program} {w:World} {A:Around} {E:J5} {s:Sh} {env:Env} {value slice:Expr} {pos:Pos} {T id:String} {Q:J5}
  (hl:typeLookup (.type T) "__getitem__"=pure (some (.builtin id))) (hs:NoSl slice)
  (h:wpAny (model prog w) A (eval value env) (λo s₁=>wpAny (model prog w) A (eval slice env) (λi s₂=>s₂.TypeIs o T/\wpAny (model prog w) A (getItem o i) Q E s₂) E s₁) E s) :
  wpAny (model prog w) A (eval (.Subscript value slice pos) env) Q E s:=by
 refine Subscript_ (wpAny_mono h (λo s₁ h₁=>wpAny_mono h₁ (λi s₂ h₂=>?_) λ_ _ x=>x) λ_ _ x=>x);obtain ⟨hT,h₂⟩:=h₂;unfold subscriptTail;refine q0x ?_;rw [getitemInPython_of_ne hT.not_modules];refine q0x (wpAny_specialOf hT hl ?_)
 have fin:wpAny (model prog w) A (subscripted slice false o i) (λr s₃=>wpAny (model prog w) A (letTemporaryGo value o r >>= λ_=>pure r) Q E s₃) E s₂:=by
  rw [hs o i];exact wpAny_operating (wpAny_mono h₂ (λr s₃ h₃=>q0x (wpAny_letTemporaryGo (q0y h₃))) λ_ _ x=>x)
 first
  | exact q0y (q0x fin)
  | exact q0x (q0y (q0x fin))
  | exact q0x fin
def zeg {X:Cx} {l8:J7} {σ:St} {H:Hp} {s:Sh} {a:Ad} {y:V} {o:Jk} (I:Inv X l8 σ H s) (g:DGet H a y o):s.TypeIs (.ref a) "dict":=by
 rcases g with ⟨md,k,e,_,_⟩ | ⟨md,k,b,e,_,_,_⟩
 ·obtain ⟨_,_,vs,_,dd⟩:=za2 I.hok e
  exact dd.typeIs
 ·obtain ⟨_,_,xs,_,dd⟩:=za1 I.hok e
  exact dd.typeIs
inductive tDGet_S (Q:VK) (x y:V) (H2:Hp):Prop
 | mk (a v:_) (_:x=.ref a) (_:DGet H2 a y (some v)) (_:Q v H2)
def tDGet (td ty:TE):TE:=λσ H Q=>td σ H λx H1=>ty σ H1 λy H2=>tDGet_S Q x y H2
inductive tDNotIn_S (Q:VK) (y x:V) (H2:Hp):Prop
 | mk (a o:_) (_:x=.ref a) (_:DGet H2 a y o) (_:Q (.bl (!o.isSome)) H2)
def tDNotIn (ty td:TE):TE:=λσ H Q=>ty σ H λy H1=>td σ H1 λx H2=>tDNotIn_S Q y x H2
inductive sDPut_S (D:Ends) (σ:St) (v x y:V) (H3:Hp):Prop
 | mk (a H4:_) (_:x=.ref a) (_:DPut H3 a y v H4) (_:D.nx σ H4)
def sDPut (td ty tv:TE):TS:=λD σ H=>tv σ H λv H1=>td σ H1 λx H2=>ty σ H2 λy H3=>sDPut_S D σ v x y H3
section
variable {X:Cx} {o i e value:Expr} {pos pos' tpos:Pos} {td ty tv:TE}
def pe_dget (hu:X.A.units+1<cLine) (ho:PE X o td) (hi:PE X i ty) (hs:NoSl i):PE X (.Subscript o i pos) (tDGet td ty):=by
 intro l8 s σ H Q I h;refine subD_of PySem.F.slot_dict_getitem.lookup hs (thn (ho l8 s σ H _ I h) λu s1 ⟨x,H1,I1,rx,q1⟩=>thn (hi l8 s1 σ H1 _ I1 q1) λiv s2 ⟨y,H2,I2,ry,a,v,ex,g,q2⟩=>?_);subst ex;obtain rfl:u=Value.ref a:=rx;exact ⟨zeg I2 g,d_getItem hu I2 g ry λw' s3 I3 rw'=>⟨v,H2,I3,rw',q2⟩⟩
def pc_dnotin (hu:X.A.units+1<cLine) (hi:PE X i ty) (ho:PE X o td):PC X .NotIn i o (tDNotIn ty td):=by
 intro l8 s σ H Q I h;refine thn (hi l8 s σ H _ I h) λiv s1 ⟨y,H1,I1,ry,q1⟩=>thn (ho l8 s1 σ H1 _ I1 q1) λu s2 ⟨x,H2,I2,rx,a,ov,ex,g,q2⟩=>?_;subst ex;obtain rfl:u=Value.ref a:=rx;exact d_notIn hu I2 g ry λs3 I3=>⟨.bl (!ov.isSome),H2,I3,rfl,q2⟩
def ps_dput (hu:X.A.units+1<cLine) (ho:PE X o td) (hi:PE X i ty) (hv:PE X value tv) (hs:swapsWith value (some (.Subscript o i pos')) pos.line X.env=pure false) :
  PS X (.Assign [.Subscript o i pos'] value pos) (sDPut td ty tv):=by
 intro l8 s σ H D I h;refine wpAny_Assign_Subscript (thn (hv l8 s σ H _ I h) λr s1 ⟨v,H1,I1,rv,q1⟩=>thn (ho l8 s1 σ H1 _ I1 q1) λu s2 ⟨x,H2,I2,rx,q2⟩=>thn (hi l8 s2 σ H2 _ I2 q2) λiv s3 ⟨y,H3,I3,ry,a,H4,ex,g,q3⟩=>?_) hs;subst ex;obtain rfl:u=Value.ref a:=rx;exact d_setItem hu I3 g ry rv λs4 I4=>⟨σ,H4,I4,q3⟩
end
def dk_empty {P:Program} {w:World} {H:Hp} (h:Heap) (hb:sysModules<h.objs.size):ObjOk P w H (h.push { cls:=.type "dict",data:=.dict #[] }) h.objs.size (.dK []) :=
 ⟨Nat.zero_le _,beq_eq_false_iff_ne.mpr (Ne.symm (Nat.ne_of_lt hb)),[],.nil,Heap.DictOf.new h⟩
def tDNewK:TE:=λ_ H Q=>∀ p,H p=none->Q (.ref p) (upd H p (.dK []))
section
variable {X:Cx} {pos:Pos}
def zai:PE X (.Dict [] [] pos) tDNewK:=λl8 s σ H Q I h =>
 wpAny_Dict_empty ⟨.ref s.heap.objs.size,_,I.laid (a:=s.heap.objs.size) (o:=.dK []) (t':=s.toks) (λ_ _ q=>Heap.get?_push_of_some _ q) (Nat.le_refl _) (dk_empty s.heap I.big),rfl,h _ (I.hok.fresh (Nat.le_refl _))⟩
end
structure M1 (X:Cx) (o:Expr) (m:Str) (apos:Pos) (e:Expr) (cpos:Pos):Prop where
 base:attributeBase o m X.env (eval o X.env)=eval o X.env
 few:((backTo cpos (starEach [e] X.env)).all (λx=>!x.1) && (backToKw cpos (keywordEach [] X.env)).all (λx=>x.1.isSome)
  && decide (([e]:Jd).length+([]:List Keyword).length+(if ([]:List Keyword).isEmpty then 0 else 1)<30))=true
 line:(apos.endLine == cpos.line)=true
 trees:backTo cpos (starEach [e] X.env)=[(false,eval e X.env)]
structure M2 (X:Cx) (o:Expr) (m:Str) (apos:Pos) (e f:Expr) (cpos:Pos):Prop where
 base:attributeBase o m X.env (eval o X.env)=eval o X.env
 few:((backTo cpos (starEach [e,f] X.env)).all (λx=>!x.1) && (backToKw cpos (keywordEach [] X.env)).all (λx=>x.1.isSome)
  && decide (([e,f]:Jd).length+([]:List Keyword).length+(if ([]:List Keyword).isEmpty then 0 else 1)<30))=true
 line:(apos.endLine == cpos.line)=true
 trees:backTo cpos (starEach [e,f] X.env)=[(false,eval e X.env),(false,eval f X.env)]
def IsD (H:Hp) (a:Ad):Prop:=(∃ md,Rd H a (.dK md))∨∃ md,Rd H a (.dT md)
def isD_at {X:Cx} {l8:J7} {σ:St} {H:Hp} {s:Sh} {a:Ad} (I:Inv X l8 σ H s) (d:IsD H a) :
  s.TypeIs (.ref a) "dict"/\(∀ b,Value.ref a=.ref b->∃ ob,s.heap.get? b=some ob/\ob.dict=none)/\(a == sysModules)=false:=by
 rcases d with ⟨md,e⟩ | ⟨md,e⟩
 ·obtain ⟨_,hd,vs,_,dd⟩:=za2 I.hok e
  refine ⟨dd.typeIs,λb q=>?_,hd⟩;cases q;obtain ⟨ob,_,_,h1,h2,_⟩:=dd;exact ⟨ob,h1,h2.2.1⟩
 ·obtain ⟨_,hd,xs,_,dd⟩:=za1 I.hok e
  refine ⟨dd.typeIs,λb q=>?_,hd⟩;cases q;obtain ⟨ob,_,_,h1,h2,_⟩:=dd;exact ⟨ob,h1,h2.2.1⟩
section
variable {X:Cx} {l8:J7} {σ:St} {H:Hp} {s:Sh} {a:Ad} {y d:V} {u r:Vl} {o:Jk} {A:Around} {E:J5}
def d_get1 {Q:J5} (hu:A.units+1<cLine) (I:Inv X l8 σ H s) (g:DGet H a y o) (ry:RelV y u) (h:∀ w' s',Inv X l8 σ H s'->RelV (o.getD .non) w'->Q w' s') :
  wpAny (model X.prog X.w) A (call (.builtin "dict.get") [.ref a,u]) Q E s:=by
 rcases g with ⟨md,k,e,ey,l⟩ | ⟨md,k,b,e,ey,eb,l⟩
 ·subst ey
  obtain ⟨z,hd,vs,rel,dd⟩:=za2 I.hok e;refine call_meetsIn PySem.F.slot_dict_get dd.typeIs PySem.F.entry_dict_get (PySem.F.args_dict_get_2 _ _) (meets_dict_get (zM X.prog X.w) a (zaw ry) hd) ⟨_,dd.mapOf,h _ _ (I.tok _) ?_⟩;rw [l];exact (rel.val k).getD rfl
 ·subst ey
  cases (show u=Value.ref b from ry);obtain ⟨z,hd,xs,rel,dd⟩:=za1 I.hok e;refine call_meetsIn PySem.F.slot_dict_get dd.typeIs PySem.F.entry_dict_get (PySem.F.args_dict_get_2 _ _) (meetsH_dict_get (tupleKind (zM X.prog X.w)) a b hd) ⟨tupleKind_room_in1 hu,k,xs,Xw I.hok eb,dd,h _ _ (I.tok _) ?_⟩;rw [l];exact (rel.val k).getD rfl
def d_get2 {Q:J5} (hu:A.units+1<cLine) (I:Inv X l8 σ H s) (g:DGet H a y o) (ry:RelV y u) (rd:RelV d r) (h:∀ w' s',Inv X l8 σ H s'->RelV (o.getD d) w'->Q w' s') :
  wpAny (model X.prog X.w) A (call (.builtin "dict.get") [.ref a,u,r]) Q E s:=by
 rcases g with ⟨md,k,e,ey,l⟩ | ⟨md,k,b,e,ey,eb,l⟩
 ·subst ey
  obtain ⟨z,hd,vs,rel,dd⟩:=za2 I.hok e;refine call_meetsIn PySem.F.slot_dict_get dd.typeIs PySem.F.entry_dict_get (PySem.F.args_dict_get_3 _ _ _) (meets_dict_get_default (zM X.prog X.w) a (zaw ry) hd r) ⟨_,dd.mapOf,h _ _ (I.tok _) ?_⟩;rw [l];exact (rel.val k).getD rd
 ·subst ey
  cases (show u=Value.ref b from ry);obtain ⟨z,hd,xs,rel,dd⟩:=za1 I.hok e;refine call_meetsIn PySem.F.slot_dict_get dd.typeIs PySem.F.entry_dict_get (PySem.F.args_dict_get_3 _ _ _) (meetsH_dict_get_default (tupleKind (zM X.prog X.w)) a b hd r) ⟨tupleKind_room_in1 hu,k,xs,Xw I.hok eb,dd,h _ _ (I.tok _) ?_⟩;rw [l];exact (rel.val k).getD rd
end
inductive tDGet1_S (ty:TE) (σ:St) (Q:VK) (x:V) (H1:Hp):Prop
 | mk (a:_) (_:x=.ref a) (_:IsD H1 a) (_:ty σ H1 λy H2=>∃ o,DGet H2 a y o/\Q (o.getD .non) H2)
def tDGet1 (td ty:TE):TE:=λσ H Q=>td σ H λx H1=>tDGet1_S ty σ Q x H1
inductive tDGet2_S (ty tx:TE) (σ:St) (Q:VK) (x:V) (H1:Hp):Prop
 | mk (a:_) (_:x=.ref a) (_:IsD H1 a) (_:ty σ H1 λy H2=>tx σ H2 λz H3=>∃ o,DGet H3 a y o/\Q (o.getD z) H3)
def tDGet2 (td ty tx:TE):TE:=λσ H Q=>td σ H λx H1=>tDGet2_S ty tx σ Q x H1
section
variable {X:Cx} {o e f:Expr} {apos cpos:Pos} {td ty tx:TE}
def pe_dget1 (hu:X.A.units+1<cLine) (ho:PE X o td) (he:PE X e ty) (m:M1 X o "get" apos e cpos):PE X (.Call (.Attribute o "get" apos) [e] [] cpos) (tDGet1 td ty):=by
 intro l8 s σ H Q I h;refine wpAny_Call_method m.base m.few m.line PySem.F.plainAttrs_dict PySem.F.slot_dict_get PySem.F.type_dict_get (thn (ho l8 s σ H _ I h) λu s1 ⟨x,H1,I1,rx,a,ex,d,q1⟩=>?_);subst ex;obtain rfl:u=Value.ref a:=rx;obtain ⟨t1,t2,_⟩:=isD_at I1 d;refine ⟨t1,t2,?_⟩;rw [m.trees];refine Calls.callWith_builtin rfl (Calls.evalArgs_plain (Calls.spliced_cons (thn (he l8 s1 σ H1 _ I1 q1) λiv s2 ⟨y,H2,I2,ry,ov,g,q2⟩=>Calls.spliced_nil ?_)));exact d_get1 hu I2 g ry λw' s3 I3 rw'=>⟨_,H2,I3,rw',q2⟩
def pe_dget2 (hu:X.A.units+1<cLine) (ho:PE X o td) (he:PE X e ty) (hf:PE X f tx) (m:M2 X o "get" apos e f cpos):PE X (.Call (.Attribute o "get" apos) [e,f] [] cpos) (tDGet2 td ty tx):=by
 intro l8 s σ H Q I h;refine wpAny_Call_method m.base m.few m.line PySem.F.plainAttrs_dict PySem.F.slot_dict_get PySem.F.type_dict_get (thn (ho l8 s σ H _ I h) λu s1 ⟨x,H1,I1,rx,a,ex,d,q1⟩=>?_);subst ex;obtain rfl:u=Value.ref a:=rx;obtain ⟨t1,t2,_⟩:=isD_at I1 d;refine ⟨t1,t2,?_⟩;rw [m.trees]
 refine Calls.callWith_builtin rfl (Calls.evalArgs_plain (Calls.spliced_cons (thn (he l8 s1 σ H1 _ I1 q1) λiv s2 ⟨y,H2,I2,ry,q2⟩ =>
  Calls.spliced_cons (thn (hf l8 s2 σ H2 _ I2 q2) λfv s3 ⟨z,H3,I3,rz,ov,g,q3⟩=>Calls.spliced_nil ?_))))
 exact d_get2 hu I3 g ry rz λw' s4 I4 rw'=>⟨_,H3,I4,rw',q3⟩
end
section
variable {X:Cx} {l8:J7} {σ:St} {H:Hp} {s:Sh} {a:Ad} {md:Jh} {A:Around} {E:J5}
end
section
variable {X:Cx} {l8:J7} {σ:St} {H:Hp} {s:Sh} {a:Ad} {y:V} {u:Vl} {A:Around} {E:J5}
end
end L2
namespace Att
open PySem PySem.W PySem.Calls PyProof.Rows
section
variable {prog:Program} {w:World} {A:Around} {E:J5} {s:Sh} {K:Frag}
end
end Att
namespace L2
open PySem PySem.Spec PyProof.Rows
section
variable {P:Program} {w:World} {K:Fg} {mg:J0} {base:Heap}
end
section
variable {X:Cx}
end
section
variable {κ:Type} [DecidableEq κ]
end
abbrev XC (h:Heap) (z TI TO T:Ad) (f1:Vl):Prop :=
 h.get? z=some { cls:=.type "zip",dict:=none,data:=.fields #[rawInt T,f1,.bool false,.ref TI,.ref TO],slots:=#[] }
section
variable {prog:Program} {w:World} {A:Around} {E:J5} {s:Sh}
def alive_at {a:Ad} {Q:Option Obj->Sh->Prop} (h:Q (s.heap.get? a) s):wpAny (model prog w) A (loadIfAlive a) Q E s:=λ_ _ _=>h
def YH {z TI TO T:Ad} {b1:Bool} {Q:Bool->Sh->Prop} (zz:XC s.heap z TI TO T (.bool b1)) (al:∃ o,s.heap.get? T=some o)
  (q:∀ h2,XC h2 z TI TO T (.bool true)->Heap.SameBut z s.heap h2->Q false { s with heap:=h2 }):wpAny (model prog w) A (Builtin.SmallTypes.ownedTupleIsFree (.ref z)) Q E s:=by
 obtain ⟨o,eo⟩:=al;unfold Builtin.SmallTypes.ownedTupleIsFree;refine q0x (wpAny_field zz rfl (x:=rawInt T) rfl ?_);show wpAny _ _ (loadIfAlive (T:Int).toNat >>= _) _ _ _;refine q0x (alive_at ?_);rw [q0z,eo];simp only [Option.isNone_some,Bool.false_eq_true,if_false];refine q0x (wpAny_field zz rfl (x:=.bool b1) rfl ?_)
 cases b1 with
 | true =>
  rw [if_neg (by decide)];exact q0y (q s.heap zz (Heap.SameBut.refl ..))
 | false =>
  rw [if_pos (by decide)];refine q0x (wpAny_setField_rec zz (by simp) λh2 z2 sb=>q0y (q h2 z2 sb))
def zbb {z TI TO T i1 i2 l1 l2:Ad} {b1:Bool} {k:Nat} {xs ys:Array Vl} {x y:Vl} {Q:Ja->Sh->Prop} (D:ZipApart z TI TO i1 i2 l1 l2) (zz:XC s.heap z TI TO T (.bool b1)) (al:∃ o,s.heap.get? T=some o)
  (pI:IsPair s.heap TI (.ref i1) (.ref i2)) (h1:s.heap.IsListIter i1 l1 k) (h2:s.heap.IsListIter i2 l2 k) (hl1:s.heap.IsList l1 xs) (hl2:s.heap.IsList l2 ys) (ex:xs[k]?=some x) (ey:ys[k]?=some y)
  (q:∀ h',XC h' z TI TO T (.bool true)->h'.IsListIter i1 l1 (k+1)->h'.IsListIter i2 l2 (k+1)->IsPair h' s.heap.objs.size x y->(∀ c o,c≠z->c≠i1->c≠i2->s.heap.get? c=some o->h'.get? c=some o)->h'.objs.size=s.heap.objs.size+1->Q (some (.ref s.heap.objs.size)) { s with heap:=h' }) :
  wpAny (model prog w) A (pyNext (.ref z)) Q E s:=by
 have ty:s.TypeIs (.ref z) "zip":=⟨_,zz,rfl⟩;unfold pyNext;refine q0x (wpAny_attempt (wpAny_callSpecial?_slot (name:=Str.ofString "__next__") ty F.slot_zip_next (wpAny_call_entry F.slot_zip_next ty F.entry_zip_next ?_ (F.args_zip_next_1 _))));show wpAny _ _ (field (.ref z) 2 >>= _) _ _ _;refine q0x (wpAny_field zz rfl (x:=.bool false) rfl ?_);show wpAny _ _ (field (.ref z) 3 >>= _) _ _ _;refine q0x (wpAny_field zz rfl (x:=.ref TI) rfl ?_);refine q0x (wpAny_seqItems pI rfl ?_);show wpAny _ _ (Builtin.SmallTypes.ownedTupleIsFree (.ref z) >>= _) _ _ _;refine q0x (YH zz al λh3 z3 sb=>?_);simp only [Bool.false_eq_true,if_false];rw [show (forIn (#[Value.ref i1,Value.ref i2]:Array Vl):(Option Fin×Array Vl)->_->Sem _)=forIn [Value.ref i1,Value.ref i2] from funext λ_=>funext λ_=>by simp];simp only [List.forIn_cons,List.forIn_nil];have h13:=h1.extBut sb.extBut D.i1z;have h23:=h2.extBut sb.extBut D.i2z;have hl13:=hl1.extBut sb.extBut D.l1z;have hl23:=hl2.extBut sb.extBut D.l2z;refine q0x (q0x (q0x (wpAny_holding ?_)));show wpAny _ _ (Builtin.SmallTypes.nextOf (.ref i1) >>= _) _ _ _;refine q0x (wpAny_nextOf_list_item h13 hl13 ex λh4 a4 sb4=>q0y (q0y ?_));refine q0x (q0x (wpAny_holding ?_));show wpAny _ _ (Builtin.SmallTypes.nextOf (.ref i2) >>= _) _ _ _;refine q0x (wpAny_nextOf_list_item (h23.extBut sb4.extBut D.i12.symm) (hl23.extBut sb4.extBut D.l2i1) ey λh5 a5 sb5=>q0y (q0y (q0y ?_)));show wpAny _ _ (newTuple [x,y] >>= _) _ _ _;refine q0x (wpAny_newTuple ?_);have sz:h5.objs.size=s.heap.objs.size:=by rw [sb5.1,sb4.1,sb.1]
 have up:∀ c o,c≠z->c≠i1->c≠i2->s.heap.get? c=some o->(h5.push { cls:=.type "tuple",data:=.seq #[x,y] }).get? c=some o:=λc o c1 c2 c3 e=>Heap.get?_push_of_some _ (sb5.extBut _ _ c3 (sb4.extBut _ _ c2 (sb.extBut _ _ c1 e)));refine q0y ⟨_,rfl,q0y ?_⟩;show Q (some (.ref h5.objs.size)) _;rw [sz];have fin:=q (h5.push { cls:=.type "tuple",data:=.seq #[x,y] }) (Heap.get?_push_of_some _ (sb5.extBut _ _ D.i2z.symm (sb4.extBut _ _ D.i1z.symm z3))) ((a4.extBut sb5.extBut D.i12).at λo e=>Heap.get?_push_of_some _ e) (a5.at λo e=>Heap.get?_push_of_some _ e) (by rw [← sz];exact Heap.get?_push_size _ rfl) up (by rw [Heap.size_push,sz]);exact fin
def zb6 {z TI TO T i1 i2 l1 l2:Ad} {b1:Bool} {k:Nat} {xs ys:Array Vl} {Q:Ja->Sh->Prop} (hd:A.handled=none) (D:ZipApart z TI TO i1 i2 l1 l2) (zz:XC s.heap z TI TO T (.bool b1)) (al:∃ o,s.heap.get? T=some o)
  (pI:IsPair s.heap TI (.ref i1) (.ref i2)) (h1:s.heap.IsListIter i1 l1 k) (hl1:s.heap.IsList l1 xs) (ex:xs[k]?=none)
  (q:∀ h',(∀ c o,c≠z->c≠i1->c≠i2->s.heap.get? c=some o->h'.get? c=some o)->Q none { s with heap:=h' }) :
  wpAny (model prog w) A (pyNext (.ref z)) Q E s:=by
 have ty:s.TypeIs (.ref z) "zip":=⟨_,zz,rfl⟩;unfold pyNext;refine q0x (wpAny_attempt (wpAny_callSpecial?_slot (name:=Str.ofString "__next__") ty F.slot_zip_next (wpAny_call_entry F.slot_zip_next ty F.entry_zip_next ?_ (F.args_zip_next_1 _))));show wpAny _ _ (field (.ref z) 2 >>= _) _ _ _;refine q0x (wpAny_field zz rfl (x:=.bool false) rfl ?_);show wpAny _ _ (field (.ref z) 3 >>= _) _ _ _;refine q0x (wpAny_field zz rfl (x:=.ref TI) rfl ?_);refine q0x (wpAny_seqItems pI rfl ?_);show wpAny _ _ (Builtin.SmallTypes.ownedTupleIsFree (.ref z) >>= _) _ _ _;refine q0x (YH zz al λh3 z3 sb=>?_);simp only [Bool.false_eq_true,if_false];rw [show (forIn (#[Value.ref i1,Value.ref i2]:Array Vl):(Option Fin×Array Vl)->_->Sem _)=forIn [Value.ref i1,Value.ref i2] from funext λ_=>funext λ_=>by simp];simp only [List.forIn_cons,List.forIn_nil];refine q0x (q0x (q0x (wpAny_holding ?_)));show wpAny _ _ (Builtin.SmallTypes.nextOf (.ref i1) >>= _) _ _ _;refine q0x (wpAny_nextOf_list_end hd (h1.extBut sb.extBut D.i1z) (hl1.extBut sb.extBut D.l1z) ex λh4 e sb4 he=>?_);obtain ⟨o,ho,hc⟩:=he;refine q0x (wpAny_isInstance (T:="StopIteration") (b:=true) ⟨o,ho,hc⟩ isSubtype_stop ?_);exact q0y (q _ λc o c1 c2 c3 e=>sb4 c o c2 (sb.extBut _ _ c1 e))
end
end L2
namespace PySem
open Sem (wp)
namespace F
def my_entry_zip_ga:entryFor table "zip.__getattribute__"=some Builtin.«object.__getattribute__» :=
 entryFor_alias (id':="object.__getattribute__") (by kernel_rfl) (by first | rfl | decide +kernel) (by decide +kernel) (by kernel_rfl)
def my_lk_zip_keys:typeLookup (.type "zip") "keys"=pure none:=by rw [typeLookup_type,builtinLookup_eq_fast];kernel_rfl
def my_lk_zip_hook:typeLookup (.type "zip") "__getattr__"=pure none:=by rw [typeLookup_type,builtinLookup_eq_fast];kernel_rfl
end F
def Xt (a:Ad) (fs:Array Vl) (u:Tok) :
  Meets (Builtin.«object.__getattribute__» ⟨[.ref a,.str "keys" u],[]⟩) (λA R s=>s.heap.get? a=some { cls:=.type "zip",dict:=none,data:=.fields fs,slots:=#[] }/\raisesAttr (.ref a) "keys" A R s) :=
 Meets.of_wp λprog w A R s z=>by
  obtain ⟨hp,g,d,tk,os⟩:=s;obtain ⟨zx,zs⟩:=z;have zT:(⟨hp,g,d,tk,os⟩:Sh).TypeIs (.ref a) "zip":=⟨_,zx,rfl⟩;have f4:=F.my_lk_zip_keys;unfold Builtin.«object.__getattribute__»;repeat (any_goals (first | assumption | wp_step | fail))
  exact wpAny_raiseAttrError zs.1 zs.2 (attrMsg_fits (by decide +kernel) (by decide +kernel))
def zap {prog:Program} {w:World} {A:Around} {E:J5} {s:Sh} {a:Ad} {fs:Array Vl} {Q:Ja->Sh->Prop} (zx:s.heap.get? a=some { cls:=.type "zip",dict:=none,data:=.fields fs,slots:=#[] }) (zA:A.handled=none)
  (q:∀ h' tk e,Heap.NewExcOf s.heap h' e "AttributeError"->Q none { s with heap:=h',toks:=tk }):wpAny (model prog w) A (getAttr? (.ref a) "keys") Q E s:=by
 obtain ⟨hp,g,d,tk,os⟩:=s;have zT:∀ tk',(⟨hp,g,d,tk',os⟩:Sh).TypeIs (.ref a) "zip":=λ_=>⟨_,zx,rfl⟩;have f1:=sub_AttributeError;have f3:=F.slot_zip_getattribute.lookup;have f4:=F.slot_zip_getattribute.bind (.ref a);have f5:=F.my_lk_zip_hook;unfold getAttr? getAttrBy? getAttrBy
 repeat (any_goals (first | assumption | exact zT _ | ((with_reducible show wpAny _ _ (call (Value.builtin "zip.__getattribute__") _ _) _ _ _);refine call_meets F.slot_zip_getattribute (zT _) F.my_entry_zip_ga (F.args_zip_getattribute_2 _ _) (Xt a fs _) ⟨zx,zA,λh9 k9 e9 n9=>?_⟩) | wp_step))
 obtain ⟨t9,u9,x9⟩:=n9.there;show wpAny _ _ (getattributeRaised _ _ _ _ _ _ _) _ _ _;unfold getattributeRaised
 repeat (any_goals (first | assumption | wp_step | fail))
 exact q _ _ _ n9.of
end PySem
namespace L2
open PySem PySem.Spec PyProof.Rows
def Yj:entryFor table "dict.update.loop"=some Builtin.«dict.update.loop»:=entryFor_of_tree (by kernel_rfl)
def ZS (z TI TO i1 i2 l1 l2:Ad) (k:Nat) (h:Heap):Prop :=
 (IsZip h z TI TO .none∨∃ T b,XC h z TI TO T (.bool b)/\(∃ o,h.get? T=some o)/\T≠z/\T≠TO/\T≠i1/\T≠i2)/\IsPair h TI (.ref i1) (.ref i2)/\(∃ a b,IsPair h TO a b)/\h.IsListIter i1 l1 k/\h.IsListIter i2 l2 k
section
variable {prog:Program} {w:World} {A:Around} {E:J5} {s:Sh} {z TI TO i1 i2 l1 l2 d:Ad} {xs ys:Array Vl}
def zs_item {k:Nat} {x y:Vl} {Q:Ja->Sh->Prop} (D:ZipApart z TI TO i1 i2 l1 l2) (st:ZS z TI TO i1 i2 l1 l2 k s.heap) (hl1:s.heap.IsList l1 xs) (hl2:s.heap.IsList l2 ys) (ex:xs[k]?=some x) (ey:ys[k]?=some y)
  (q:∀ h',ZS z TI TO i1 i2 l1 l2 (k+1) h'->IsPair h' s.heap.objs.size x y->(∀ c o,c≠z->c≠TO->c≠i1->c≠i2->s.heap.get? c=some o->h'.get? c=some o)->Q (some (.ref s.heap.objs.size)) { s with heap:=h' }) :
  wpAny (model prog w) A (pyNext (.ref z)) Q E s:=by
 obtain ⟨zz,pI,⟨a,b,pO⟩,h1,h2⟩:=st;have lt:∀ {c:Ad} {o:Obj},s.heap.get? c=some o->s.heap.objs.size≠c:=λe=>Nat.ne_of_gt (Heap.lt_size e);have n1:s.heap.objs.size≠i1:=by obtain ⟨o,e,_⟩:=h1;exact lt e
 have n2:s.heap.objs.size≠i2:=by obtain ⟨o,e,_⟩:=h2;exact lt e
 rcases zz with zz | ⟨T,b1,zz,al,t1,t2,t3,t4⟩
 ·refine wpAny_pyNext_zip_item D zz pI pO h1 h2 hl1 hl2 ex ey λh' a1 a2 a3 a4 a5 a6 hk=>?_
  exact q h' ⟨.inr ⟨_,_,a1,⟨_,a5⟩,lt zz,lt pO,n1,n2⟩,hk _ _ D.TIz D.TITO D.TIi1 D.TIi2 pI,⟨_,_,a2⟩,a3,a4⟩ a5 hk
 ·obtain ⟨o,eo⟩:=al
  refine zbb D zz ⟨o,eo⟩ pI h1 h2 hl1 hl2 ex ey λh' a1 a3 a4 a5 hk _=>?_;exact q h' ⟨.inr ⟨T,true,a1,⟨o,hk _ _ t1 t3 t4 eo⟩,t1,t2,t3,t4⟩,hk _ _ D.TIz D.TIi1 D.TIi2 pI,⟨_,_,hk _ _ D.TOz D.TOi1 D.TOi2 pO⟩,a3,a4⟩ a5 λc o c1 _ c3 c4 e=>hk c o c1 c3 c4 e
def zs_end {k:Nat} {Q:Ja->Sh->Prop} (hd:A.handled=none) (D:ZipApart z TI TO i1 i2 l1 l2) (st:ZS z TI TO i1 i2 l1 l2 k s.heap) (hl1:s.heap.IsList l1 xs) (hl2:s.heap.IsList l2 ys) (ex:xs[k]?=none)
  (q:∀ h',(∀ c o,c≠z->c≠TO->c≠i1->c≠i2->s.heap.get? c=some o->h'.get? c=some o)->Q none { s with heap:=h' }):wpAny (model prog w) A (pyNext (.ref z)) Q E s:=by
 obtain ⟨zz,pI,⟨a,b,pO⟩,h1,h2⟩:=st;rcases zz with zz | ⟨T,b1,zz,al,_⟩
 ·exact wpAny_pyNext_zip_end hd D zz pI pO h1 h2 hl1 hl2 (.inl ex) λh' hk=>q h' hk
 ·exact zb6 (ys:=ys) hd D zz al pI h1 hl1 ex λh' hk=>q h' λc o c1 _ c3 c4 e=>hk c o c1 c3 c4 e
def zau (md:List (Key×Vl)):List (Key×Vl)->List (Key×Vl)
 | []=>md
 | p::r=>zau (stored md p.1 p.2) r
def ZS.same {k:Nat} {h h2:Heap} (st:ZS z TI TO i1 i2 l1 l2 k h) (dz:d≠z) (dI:d≠TI) (dO:d≠TO) (d1:d≠i1) (d2:d≠i2) (kp:∀ c o,c≠d->h.get? c=some o->h2.get? c=some o) (hd:∃ o,h2.get? d=some o):ZS z TI TO i1 i2 l1 l2 k h2:=by
 obtain ⟨zz,pI,⟨a,b,pO⟩,h1,h2'⟩:=st;refine ⟨?_,kp _ _ dI.symm pI,⟨a,b,kp _ _ dO.symm pO⟩,h1.at λo e=>kp _ o d1.symm e,h2'.at λo e=>kp _ o d2.symm e⟩;rcases zz with zz | ⟨T,b1,zz,⟨o,eo⟩,t⟩
 ·exact .inl (kp _ _ dz.symm zz)
 ·refine .inr ⟨T,b1,kp _ _ dz.symm zz,?_,t⟩
  by_cases e:T=d
  ·rw [e];exact hd
  ·exact ⟨o,kp _ _ e eo⟩
theorem dz_loop (hd:A.handled=none) (D:ZipApart z TI TO i1 i2 l1 l2) (dz:d≠z) (dI:d≠TI) (dO:d≠TO) (d1:d≠i1) (d2:d≠i2) (dl1:d≠l1) (dl2:d≠l2) :
  ∀ (ps:List (Key×Vl)) (k:Nat) (s:Sh) (md:List (Key×Vl)) (i:Int) (t:Tok) (R:Result->Sh->Prop),ZS z TI TO i1 i2 l1 l2 k s.heap->s.heap.IsList l1 xs->s.heap.IsList l2 ys->s.heap.DictOf (zM prog w) d md->md.length+ps.length<=sizeLine ->
   xs.size=k+ps.length->(∀ j (p:Key×Vl),ps[j]?=some p->∃ u,xs[k+j]?=some u/\(zM prog w).is p.1 u=true/\ys[k+j]?=some p.2) ->
   (∀ h' tk,h'.DictOf (zM prog w) d (zau md ps)->(∀ c o,c≠z->c≠TO->c≠i1->c≠i2->c≠d->s.heap.get? c=some o->h'.get? c=some o)->R (.ok (.ret .none)) { s with heap:=h',toks:=tk }) ->
   codeAny (model prog w) A (.builtin "dict.update.loop" ⟨[.ref d,.ref z,.int i t,.none],[]⟩) R s
 | [],k,s,md,i,t,R,st,hl1,hl2,hm,hz,hn,hp,q=>by
  refine codeAny_builtin Yj ?_;show wpAny _ _ (pyNext (.ref z) >>= _) _ _ _;refine q0x (zs_end hd D st hl1 hl2 (Array.getElem?_eq_none (by rw [hn];exact Nat.le_refl _)) λh' hk=>?_);show wpAny _ _ (Builtin.Dict.addKeywords d [] >>= _) _ _ _;refine q0x (q0y (q0y ?_))
  have hd':h'.DictOf (zM prog w) d md:=by
   obtain ⟨o,es,ep,ho,r⟩:=hm;exact ⟨o,es,ep,hk _ _ dz dO d1 d2 ho,r⟩
  exact q h' s.toks hd' λc o c1 c2 c3 c4 _ e=>hk c o c1 c2 c3 c4 e
 | p::ps,k,s,md,i,t,R,st,hl1,hl2,hm,hz,hn,hp,q=>by
  refine codeAny_builtin Yj ?_;obtain ⟨u,eu,ku,ev⟩:=hp 0 p rfl;show wpAny _ _ (pyNext (.ref z) >>= _) _ _ _;refine q0x (zs_item D st hl1 hl2 eu ev λh' st' pT hk=>?_)
  have hm':h'.DictOf (zM prog w) d md:=by
   obtain ⟨o,es,ep,ho,r⟩:=hm;exact ⟨o,es,ep,hk _ _ dz dO d1 d2 ho,r⟩
  have hl1':h'.IsList l1 xs:=hl1.at λo e=>hk _ o D.l1z D.l1TO D.l1i1 D.l1i2 e;have hl2':h'.IsList l2 ys:=hl2.at λo e=>hk _ o D.l2z D.l2TO D.l2i1 D.l2i2 e;refine q0x (wpAny_holding ?_);refine q0x (wpAny_tryCatch ?_);unfold Builtin.Dict.pairItems;refine q0x (wpAny_typeOf (T:="tuple") ⟨_,pT,rfl⟩ ?_);rw [if_pos (by decide)];refine q0x (wpAny_seqItems pT rfl (q0y ?_));show wpAny _ _ (holding [u,p.2] (dictSet d u p.2)) _ _ _;refine wpAny_holding (wpAny_dictSet_pairs (hsz:=by rw [q8x] at hz;omega) ku hm' λh2 hm2 sb=>?_);refine q0y ⟨Code.quiet_builtin _ (by decide +kernel),?_⟩;have nd:∃ o,h2.get? d=some o:=by obtain ⟨o,_,_,e,_⟩:=hm2;exact ⟨o,e⟩
  have ls:(stored md p.1 p.2).length<=md.length+1:=by
   unfold stored;split
   ·rw [Je];omega
   ·rw [Jf];exact Nat.le_refl _
  refine dz_loop hd D dz dI dO d1 d2 dl1 dl2 ps (k+1) { s with heap:=h2,toks:=s.toks+1 } (stored md p.1 p.2) (i+1) 0 R (st'.same dz dI dO d1 d2 (λc o n e=>sb.extBut _ _ n e) nd) (hl1'.extBut sb.extBut dl1.symm) (hl2'.extBut sb.extBut dl2.symm) hm2 (by rw [q8x] at hz;omega) (by rw [hn,q8x];omega) (λj r hj=>?_) (λh3 tk hm3 hk3=>?_)
  ·have:=hp (j+1) r hj
   rw [show k+1+j=k+(j+1) by omega];exact this
  ·exact q h3 tk hm3 λc o c1 c2 c3 c4 c5 e=>hk3 c o c1 c2 c3 c4 c5 (sb.extBut _ _ c5 (hk c o c1 c2 c3 c4 e))
end
def putAll (md:Jh):Jh->Jh
 | []=>md
 | p::r=>putAll (yL md p.1 p.2) r
theorem KV.putAll:∀ {ps:Jh} {qs:List (Key×Vl)} {md:Jh} {vs:List (Key×Vl)},KV ps qs->KV md vs->KV (L2.putAll md ps) (zau vs qs)
 | [],_,_,_,.nil,h=>h
 | p::ps,_,_,_,.cons (b:=q) r rr,h=>by
  have e:q.1=p.1:=r.1.symm;show KV (L2.putAll (yL _ p.1 p.2) ps) (zau (stored _ q.1 q.2) _);rw [e];exact KV.putAll rr (h.put p.1 r.2)
theorem zae:∀ (ps:Jh) (md:Jh),(putAll md ps).length<=md.length+ps.length
 | [],_=>Nat.le_refl _
 | p::ps,md=>by
  have:=zae ps (yL md p.1 p.2);have:=xi md p.1 p.2;show (putAll (yL md p.1 p.2) ps).length<=md.length+(ps.length+1);omega
section
variable {prog:Program} {w:World} {A:Around} {E:J5} {s:Sh} {z TI TO i1 i2 l1 l2:Ad} {xs ys:Array Vl}
def ZS.keeps {k:Nat} {h h2:Heap} (st:ZS z TI TO i1 i2 l1 l2 k h) (kp:∀ c o,h.get? c=some o->h2.get? c=some o):ZS z TI TO i1 i2 l1 l2 k h2:=by
 obtain ⟨zz,pI,⟨a,b,pO⟩,h1,h2'⟩:=st;refine ⟨?_,kp _ _ pI,⟨a,b,kp _ _ pO⟩,h1.at λo e=>kp _ o e,h2'.at λo e=>kp _ o e⟩;rcases zz with zz | ⟨T,b1,zz,⟨o,eo⟩,t⟩
 ·exact .inl (kp _ _ zz)
 ·exact .inr ⟨T,b1,kp _ _ zz,⟨o,kp _ _ eo⟩,t⟩
def zbi {ps:List (Key×Vl)} {Q:J5} (hd:A.handled=none) (D:ZipApart z TI TO i1 i2 l1 l2) (zz:IsZip s.heap z TI TO .none) (st:ZS z TI TO i1 i2 l1 l2 0 s.heap) (hl1:s.heap.IsList l1 xs) (hl2:s.heap.IsList l2 ys) (hz:ps.length<=sizeLine) (hn:xs.size=ps.length)
  (hp:∀ (j:Nat) (p:Key×Vl),ps[j]?=some p->∃ u,xs[j]?=some u/\(zM prog w).is p.1 u=true/\ys[j]?=some p.2)
  (q:∀ h' tk,h'.DictOf (zM prog w) s.heap.objs.size (zau [] ps)->(∀ c o,c≠z->c≠TO->c≠i1->c≠i2->s.heap.get? c=some o->h'.get? c=some o)->Q (.ref s.heap.objs.size) { s with heap:=h',toks:=tk }):wpAny (model prog w) A (call (.type "dict") [.ref z]) Q E s:=by
 refine callType_codes (Q₁:=λobj s₁=>obj=.ref s.heap.objs.size/\s₁={ s with heap:=s.heap.push { cls:=.type "dict",data:=.dict #[] } }) F.kt_called_dict (F.kt_typeCall_dict_1 _) F.entry_dict_init (kt_code_dict_new _ ⟨rfl,rfl⟩) λobj s1 y=>?_;obtain ⟨rfl,rfl⟩:=y;have nw:(s.heap.push { cls:=.type "dict",data:=.dict #[] }).DictOf (zM prog w) s.heap.objs.size []:=Heap.DictOf.new s.heap;have kp:∀ c o,s.heap.get? c=some o->(s.heap.push { cls:=.type "dict",data:=.dict #[] }).get? c=some o:=λc o e=>Heap.get?_push_of_some _ e;have lt:∀ {c:Ad} {o:Obj},s.heap.get? c=some o->s.heap.objs.size≠c:=λe=>Nat.ne_of_gt (Heap.lt_size e);obtain ⟨_,pI,⟨a,b,pO⟩,g1,g2⟩:=id st;have e1:s.heap.objs.size≠i1:=by obtain ⟨o,e,_⟩:=g1;exact lt e
 have e2:s.heap.objs.size≠i2:=by obtain ⟨o,e,_⟩:=g2;exact lt e
 have e3:s.heap.objs.size≠l1:=by obtain ⟨o,e,_⟩:=hl1;exact lt e
 have e4:s.heap.objs.size≠l2:=by obtain ⟨o,e,_⟩:=hl2;exact lt e
 refine ⟨nw.typeIs,F.args_dict_init_2 _ _,?_⟩;unfold Builtin.«dict.__init__»;refine q0x ?_;unfold Builtin.Dict.selfAndRest;refine q0x (wpAny_notOrdered_dict nw.typeIs ?_);show wpAny _ _ (pure (s.heap.objs.size,[Value.ref z])) _ _ _;refine q0y ?_;show wpAny _ _ (Builtin.Dict.updateFrom "dict.__init__" s.heap.objs.size (.ref z) [] .none) _ _ _;unfold Builtin.Dict.updateFrom;refine q0x (wpAny_typeOf (T:="zip") ⟨_,kp _ _ zz,rfl⟩ ?_);rw [if_pos (by decide)];refine q0x (zap (kp _ _ zz) hd λh3 tk e ne=>?_);simp only [Option.isNone_none,if_true];have k3:∀ c o,s.heap.get? c=some o->h3.get? c=some o:=λc o e=>ne.keeps c o (kp c o e);refine q0x (wpAny_rule (q0x (wpAny_pyIter_zip (f0:=.none) (k3 _ _ zz) ?_)));refine q0y ⟨Code.quiet_builtin _ (by decide +kernel),?_⟩
 have d3:h3.DictOf (zM prog w) s.heap.objs.size []:=by
  obtain ⟨o,es,ep,ho,r⟩:=nw;exact ⟨o,es,ep,ne.keeps _ _ ho,r⟩
 refine dz_loop (A:=A.in1) (xs:=xs) (ys:=ys) hd D (lt zz) (lt pI) (lt pO) e1 e2 e3 e4 ps 0 { s with heap:=h3,toks:=tk } [] 0 0 _ (st.keeps k3) (hl1.at λo e=>k3 _ o e) (hl2.at λo e=>k3 _ o e) d3 (by show 0+ps.length<=_;omega) (by rw [hn,Nat.zero_add]) (λj r hj=>by rw [Nat.zero_add];exact hp j r hj) λh4 tk4 d4 k4=>?_;exact ⟨rfl,q h4 tk4 d4 λc o c1 c2 c3 c4 e=>k4 c o c1 c2 c3 c4 (lt e).symm (k3 c o e)⟩
end
theorem kv_zip:∀ (ks:List Key) {ys:Jj} {us:J8},Vals ys us->ks.length=ys.length->KV (ks.zip ys) (ks.zip us)
 | [],_,_,_,_=>.nil
 | k::ks,_,_,.nil,h=>by cases h
 | k::ks,_,_,.cons r rr,h=>.cons ⟨rfl,r⟩ (kv_zip ks rr (by simpa using h))
section
variable {X:Cx}
inductive tDictZip_S (K:Fg) (Q:VK) (vs:Jj) (H1:Hp):Prop
 | mk (l1 l2:Ad) (ks:List Key) (ys:Jj) (_:vs=[.ref l1,.ref l2]) (_:SqL K H1 l1 (ks.map kV)) (_:SqL K H1 l2 ys) (_:ks.length=ys.length) (_:∀ d,H1 d=none->Q (.ref d) (upd H1 d (.dK (putAll [] (ks.zip ys)))))
def tDictZip (K:Fg) (ta:TA):TE:=λσ H Q=>ta σ H λvs H1=>tDictZip_S K Q vs H1
def ze3 {a b:Expr} {ta:TA} {p p2 pos pos2:Pos} (hc:X.calm=true) (hg:Gl X "dict") (hm:X.mg "dict"=none) (hg2:Gl X "zip") (hm2:X.mg "zip"=none) (ha:PA X [a,b] ta)
  (hs:starEach [a,b] X.env=[(false,eval a X.env),(false,eval b X.env)]:=by rfl) (hs2:starEach [b] X.env=[(false,eval b X.env)]:=by rfl)
  (hs3:starEach [Expr.Call (.Name "zip" p2) [a,b] [] pos2] X.env=[(false,eval (.Call (.Name "zip" p2) [a,b] [] pos2) X.env)]:=by rfl):PE X (.Call (.Name "dict" p) [.Call (.Name "zip" p2) [a,b] [] pos2] [] pos) (tDictZip X.K ta):=by
 intro l8 s σ H Q I h;refine wpAny_Call_Name_kw (Yb I hg hm boot_dict (PyProof.Rows.callWith_type1 ?_ (by rw [hs3];rfl) (by rfl)));rw [hs3];show wpAny _ _ (spliced [(false,eval (.Call (.Name "zip" p2) [a,b] [] pos2) X.env)]) _ _ s;refine Calls.spliced_cons (Call_ (Yb I hg2 hm2 boot_zip (PyProof.Rows.callWith_type1 (thn (ha pos2 l8 s σ H _ I h) λus s1 ⟨vs,H1,I1,r1,q1⟩=>?_) (by rw [hs,hs2]) (by rw [hs2];rfl))));obtain ⟨l1,l2,ks,ys,e,x1,x2,le,q⟩:=q1;subst e;obtain ⟨u,v,rfl,ru,rv⟩:=vals2 r1;cases (show u=Value.ref l1 from ru);cases (show v=Value.ref l2 from rv);obtain ⟨is1,g1,p1,z1⟩:=I1.list x1;obtain ⟨is2,g2,p2',z2⟩:=I1.list x2;have L1:l1<s1.heap.objs.size:=by obtain ⟨_,e,_⟩:=p1.isList;exact Heap.lt_size e
 have L2:l2<s1.heap.objs.size:=by obtain ⟨_,e,_⟩:=p2'.isList;exact Heap.lt_size e
 have n1:=g1.length;have n2:=g2.length;rw [Je] at n1;refine call_zip_2 p1.isList p2'.isList λh' a1 a2 a3 a4 a5 a6 hk=>Calls.spliced_nil ?_;have J:Inv X l8 σ H1 { s1 with heap:=h' }:=I1.kept (t':=s1.toks) λb o e=>hk b o e;have fp:∀ n,Yf X l8 H1 (s1.heap.objs.size+n):=λn=>I1.fpOk (Nat.le_add_right _ _) (I1.hok.fresh (Nat.le_add_right _ _));have rel:KV (ks.zip ys) (ks.zip is2):=kv_zip ks g2 le;have lz:(ks.zip is2).length=ks.length:=by rw [List.length_zip,Nat.min_eq_left];omega
 rw [Je] at z1;refine zbi (s:={ s1 with heap:=h' }) (xs:=is1.toArray) (ys:=is2.toArray) (ps:=ks.zip is2) (I1.ok.hd hc) (zipApart_new L1 L2) a1 ⟨.inl a1,a2,⟨_,_,a3⟩,a4,a5⟩ (p1.isList.at λo e=>hk _ o e) (p2'.isList.at λo e=>hk _ o e) (by omega) (by rw [lz,List.size_toArray];omega) (λj r hj=>?_) λh3 tk d3 k3=>?_
 ·obtain ⟨ek,ev⟩:ks[j]?=some r.1/\is2[j]?=some r.2:=by
   rw [List.getElem?_zip_eq_some] at hj;exact hj
  obtain ⟨u,eu,ru⟩:=g1.get (show (ks.map kV)[j]?=some (kV r.1) by rw [List.getElem?_map,ek];rfl);exact ⟨u,by simpa using eu,zaw ru,by simpa using ev⟩
 ·have fr:H1 h'.objs.size=none:=I1.hok.fresh (by rw [a6];omega)
  have b4:=fp 4;have b3:=fp 3;have b0:=fp 0;have b1:=fp 1;have b2:=fp 2
  have lay:ObjOk X.prog X.w (upd H1 h'.objs.size (.dK (putAll [] (ks.zip ys)))) h3 h'.objs.size (.dK (putAll [] (ks.zip ys))):=by
   refine ⟨?_,?_,_,KV.putAll rel .nil,d3⟩
   ·have:=zae (ks.zip ys) []
    rw [List.length_zip] at this;have:([]:Jh).length=0:=rfl;omega
   ·have:=J.big
    exact beq_eq_false_iff_ne.mpr (Nat.ne_of_gt this)
  refine ⟨.ref h'.objs.size,upd H1 h'.objs.size (.dK (putAll [] (ks.zip ys))),?_,rfl,q _ fr⟩
  exact J.turnedT (its:=[s1.heap.objs.size+4,s1.heap.objs.size+2,s1.heap.objs.size+3,s1.heap.objs.size,s1.heap.objs.size+1]) (λc o nc e=>by
   have nc':c≠s1.heap.objs.size+4/\c≠s1.heap.objs.size+2/\c≠s1.heap.objs.size+3/\c≠s1.heap.objs.size/\c≠s1.heap.objs.size+1:=by simpa using nc
   exact k3 c o nc'.1 nc'.2.2.1 nc'.2.2.2.1 nc'.2.2.2.2 e) (λc hc'=>by
   simp at hc';rcases hc' with rfl | rfl | rfl | rfl | rfl
   ·exact b4
   ·exact b2
   ·exact b3
   ·exact b0
   ·exact b1) (Nat.le_refl _) lay
end
section
variable {prog:Program} {w:World} {A:Around} {R:Result->Sh->Prop} {s:Sh}
end
section
variable {X:Cx} {tg:Expr}
end
abbrev tCompFC (wi:TI) (g:TG) (tt:TT) (te:TE) (cap:List (Option Nat)):TE:=tCompF wi g tt te λσ _ σY=>σY=capt cap σ
section
variable {X:Cx} {tg:Expr}
def zdu {iter elt tst:Expr} {scope:Scope} {pos:Pos} {wi:TI} {g:TG} {tt:TT} {te:TE} (NY:Jb) (cap:List (Option Nat)) (hc:X.calm=true) (hk:X4 X scope=true) (hcap:za7 X scope NY cap=true) (hi:PI X tg iter wi)
  (hY:∀ (s3:Sh) (H3:Hp) (fp:Jc),PG (X.comp scope (Ym X.env scope) NY s3 H3 fp) tg g/\PT (X.comp scope (Ym X.env scope) NY s3 H3 fp) tst tt/\PE (X.comp scope (Ym X.env scope) NY s3 H3 fp) elt te)
  (hs:∀ x,foldedSetIterable iter X.env x=pure x:=by intro _;rfl):PE X (.ListComp elt [⟨tg,iter,[tst],0⟩] scope pos) (tCompFC wi g tt te cap):=by
 intro l8 s σ H Q I h;have S:=YZ I.ok hk;refine zdt (NY:=NY) hc S hi (λs3 H3 fp=>⟨(hY s3 H3 fp).1,.inr ⟨_,rfl,(hY s3 H3 fp).2.1⟩,(hY s3 H3 fp).2.2⟩) (λl8 σ H s3 σY I3 e=>?_) hs l8 s σ H Q I h;subst e;exact Xk I3 (YZ I3.ok hk) hcap
end
def zej {lo:Int} {n:Nat} {D:Ad} {g:TG} {tt:TT} {te:TE} {σY:St} {H1:Hp} {Q:VK} (Pv:Nat->St->Hp->Prop) (h0:Pv 0 σY H1)
  (hs:∀ i σ H,i<n->Pv i σ H->g (.int (lo+i)) σ H λσ3 H3=>tt σ3 H3 λb H4=>if b=true then te σ3 H4 λv H5=>∃ ys,H5 D=some (.lst ys)/\ys.length<sizeLine/\Pv (i+1) σ3 (upd H5 D (.lst (ys++[v]))) else Pv (i+1) σ3 H4) (hd:∀ σ H,Pv n σ H->Q (.ref D) H) :
  CompWF (Itr lo n) g tt te σY H1 D Q:=by
 refine ⟨λi m σ H=>m=n-i/\i<=n/\Pv i σ H,⟨n,by simp,Nat.zero_le _,h0⟩,?_⟩;rintro i m σ H ⟨rfl,hi,p⟩;by_cases hlt:i<n
 ·refine .inr ⟨hlt,Pv (i+1),λσ' H' p'=>⟨n-(i+1),by omega,rfl,hlt,p'⟩,λx H' y=>?_⟩
  obtain ⟨e,y⟩:=y;subst e y;exact hs i σ _ hlt p
 ·have e:i=n:=by omega
  subst e;exact .inl ⟨Nat.le_refl _,hd σ H p⟩
section
variable {prog:Program} {w:World} {A:Around} {s:Sh}
end
section
variable {prog:Program} {w:World} {A:Around} {E:J5} {s:Sh}
end
section
variable {X:Cx} {e:Expr} {te:TE} {p p' pos pos':Pos}
end
end L2
namespace L2
open PySem PySem.Spec PyProof.Rows PyProof
section
variable {X:Cx}
def zen:Yk X (.type "range") (λxs H Q=>∃ j:Int,xs=[.int j]/\∀ l,H l=none->Q (.ref l) (upd H l (.rng 0 j))):=by
 intro l8 s σ H xs us Q I r h;obtain ⟨j,rfl,q⟩:=h;obtain ⟨u,rfl,rx⟩:=vals1 r;obtain ⟨t,rfl⟩:=rx;refine call_range_1 ?_;exact ⟨.ref s.heap.objs.size,_,I.laid (λb o e=>Heap.get?_push_of_some _ e) (Nat.le_refl _) (show ObjOk X.prog X.w _ _ _ (.rng 0 j) from ⟨_,_,_,Heap.get?_push_size _ rfl⟩),rfl,q _ (I.hok.fresh (Nat.le_refl _))⟩
def Zr (n:Nat):J6:=(List.range n).map Int.ofNat
def vals_upto:∀ (n:Nat) (us:J8),us.length=n->(∀ (i:Nat) (v:Vl),us[i]?=some v->∃ t,v=Value.int (0+(i:Nat)*1) t)->Vals ((Zr n).map V.int) us:=by
 intro n
 induction n with
 | zero=>intro us hl _;cases us with
  | nil=>exact .nil
  | cons _ _=>cases hl
 | succ n ih =>
  intro us hl h;obtain ⟨ini,last,rfl⟩:∃ ini last,us=ini++[last]:=⟨us.dropLast,us.getLast (by intro e;rw [e] at hl;cases hl),(List.dropLast_concat_getLast _).symm⟩;have hi:ini.length=n:=by rw [Jf] at hl;simpa using hl
  have e:Zr (n+1)=Zr n++[(n:Int)]:=by unfold Zr;rw [List.range_succ,Jg];rfl
  rw [e,Jg];refine (ih ini hi λi v hv=>?_).append (.cons ?_ .nil)
  ·have:i<ini.length:=(List.getElem?_eq_some_iff.mp hv).1
   exact h i v (by rw [q9x this];exact hv)
  ·obtain ⟨t,rfl⟩:=h n last (by rw [List.getElem?_append_right (by omega),hi,Nat.sub_self];rfl)
   exact ⟨t,by show Value.int (0+(n:Int)*1) t=Value.int n t;congr 1;omega⟩
def zbj (hc:X.calm=true):Yk X (.type "list") (λxs H Q=>∃ (p:Ad) (n:Nat),xs=[.ref p]/\H p=some (.rng 0 n)/\n<=1000/\∀ l,H l=none->Q (.ref l) (upd H l (.lst ((Zr n).map V.int)))):=by
 intro l8 s σ H xs us Q I r h;obtain ⟨p,n,rfl,hp,hn,q⟩:=h;obtain ⟨u,rfl,rx⟩:=vals1 r;cases rx;obtain ⟨t,u,v,e⟩:=I.hok p _ hp;have hs:Builtin.Range.small 0 (n:Int) 1=true:=small_one (by omega) (by omega) (by omega) (by omega);have hz:Builtin.Range.rangeSize 0 (n:Int) 1=n:=by rw [rangeSize_one];split <;> omega
 have SL:(1000:Nat)<=sizeLine:=by decide
 refine call_list_range (I.ok.hd hc) e hs hz (by omega) λh' tk acc c' hk hS ha=>?_;refine ⟨.ref s.heap.objs.size,_,I.laid (t':=tk) hk (Nat.le_refl _) (show ObjOk X.prog X.w _ h' _ (.lst ((Zr n).map V.int)) from ⟨?_,acc.toList,c',vals_upto n acc.toList ?_ ?_,?_⟩),rfl,q _ (I.hok.fresh (Nat.le_refl _))⟩
 ·rw [Je];unfold Zr;rw [Je,List.length_range];omega
 ·simpa using ha.1
 ·intro i v hv
  exact ha.2 i v (by simpa using hv)
 ·simpa using hS
end
end L2
namespace L2
open PySem PySem.Spec PyProof.Rows
section
variable {X:Cx}
end
end L2
namespace My
open PySem PySem.W PyProof.Rows
def za9 (x y:Int):Builtin.bitAnd x y / 2=Builtin.bitAnd (x / 2) (y / 2)/\Builtin.bitAnd x y % 2=(x % 2)*(y % 2):=by
 have h:=kbt_halves x y;rcases (by omega:x % 2=0∨x % 2=1) with a | a <;> rcases (by omega:y % 2=0∨y % 2=1) with b | b <;>
  (rw [a,b] at h ⊢;simp at h ⊢;omega)
def zcs (x y:Int):Builtin.bitOr x y / 2=Builtin.bitOr (x / 2) (y / 2)/\Builtin.bitOr x y % 2=max (x % 2) (y % 2):=by
 rw [bitOr_and,bitOr_and];have h:=kbt_halves x y;rcases (by omega:x % 2=0∨x % 2=1) with a | a <;> rcases (by omega:y % 2=0∨y % 2=1) with b | b <;>
  (rw [a,b] at h ⊢;simp at h;omega)
def XY (x y:Int):Builtin.bitXor x y / 2=Builtin.bitXor (x / 2) (y / 2)/\Builtin.bitXor x y % 2=(x % 2+y % 2) % 2:=by
 rw [bitXor_and,bitXor_and];have h:=kbt_halves x y;rcases (by omega:x % 2=0∨x % 2=1) with a | a <;> rcases (by omega:y % 2=0∨y % 2=1) with b | b <;>
  (rw [a,b] at h ⊢;simp at h;omega)
def xz (x:Int) (k:Nat):x / 2 ^ (k+1)=x / 2 / 2 ^ k:=by
 rw [Int.ediv_ediv_of_nonneg (by decide),Int.pow_succ,Int.mul_comm]
def and_bit (k:Nat):∀ x y:Int,Builtin.bitAnd x y / 2 ^ k % 2=(x / 2 ^ k % 2)*(y / 2 ^ k % 2):=by
 induction k with
 | zero=>intro x y;simpa using (za9 x y).2
 | succ k ih=>intro x y;rw [xz,xz,xz,(za9 x y).1,ih]
def or_bit (k:Nat):∀ x y:Int,Builtin.bitOr x y / 2 ^ k % 2=max (x / 2 ^ k % 2) (y / 2 ^ k % 2):=by
 induction k with
 | zero=>intro x y;simpa using (zcs x y).2
 | succ k ih=>intro x y;rw [xz,xz,xz,(zcs x y).1,ih]
def xor_bit (k:Nat):∀ x y:Int,Builtin.bitXor x y / 2 ^ k % 2=(x / 2 ^ k % 2+y / 2 ^ k % 2) % 2:=by
 induction k with
 | zero=>intro x y;simpa using (XY x y).2
 | succ k ih=>intro x y;rw [xz,xz,xz,(XY x y).1,ih]
def In (n:Nat) (x:Int):Prop:=-(2 ^ n)<=x/\x<2 ^ n
def zc1 {n:Nat} {x:Int}:In (n+1) x↔In n (x / 2):=by
 unfold In;rw [Int.pow_succ];constructor
 ·intro h;omega
 ·intro h;omega
def YD {x:Int} (h:In 0 x):x=0∨x=-1:=by
 unfold In at h;omega
def and_in (n:Nat):∀ x y:Int,In n x->In n y->In n (Builtin.bitAnd x y):=by
 induction n with
 | zero =>
  intro x y hx hy;rcases YD hx with a | a <;> rcases YD hy with b | b <;> (subst a;subst b;unfold In;decide)
 | succ n ih=>intro x y hx hy;rw [zc1] at *;rw [(za9 x y).1];exact ih _ _ hx hy
def or_in (n:Nat):∀ x y:Int,In n x->In n y->In n (Builtin.bitOr x y):=by
 induction n with
 | zero =>
  intro x y hx hy;rcases YD hx with a | a <;> rcases YD hy with b | b <;> (subst a;subst b;unfold In;decide)
 | succ n ih=>intro x y hx hy;rw [zc1] at *;rw [(zcs x y).1];exact ih _ _ hx hy
def xor_in (n:Nat):∀ x y:Int,In n x->In n y->In n (Builtin.bitXor x y):=by
 induction n with
 | zero =>
  intro x y hx hy;rcases YD hx with a | a <;> rcases YD hy with b | b <;> (subst a;subst b;unfold In;decide)
 | succ n ih=>intro x y hx hy;rw [zc1] at *;rw [(XY x y).1];exact ih _ _ hx hy
def Kin (x:Int):Prop:=-9223372036854775808<=x/\x<=9223372036854775807
structure Free (op:Int->Int->Int):Prop where
 cl:∀ a b,Kin a->Kin b->Kin (op a b)
 cm:∀ a b,Kin a->Kin b->op a b=op b a
 as:∀ a b c,Kin a->Kin b->Kin c->op (op a b) c=op a (op b c)
end My
namespace L2
open PySem PySem.Spec PyProof.Rows
section
variable {X:Cx} {σ₀:St}
end
end L2
namespace FM
open PySem L2
abbrev Kin (x:Int):Prop:=-9223372036854775808<=x/\x<=9223372036854775807
def kept (n:Int):Int:=(n+9223372036854775808) % (2*9223372036854775808)-9223372036854775808
def signs:Jb:=["+","-","*","/","rest","least","most","<","=","&","|","^"]
def doneR (sg:Str) (a b:Int):Option Int :=
 if sg="+" then some (kept (a+b)) else if sg="-" then some (kept (a-b)) else if sg="*" then some (kept (a*b))
 else if sg="/" then (if b=0 then none else some (kept (a.fdiv b))) else if sg="rest" then (if b=0 then none else some (a.fmod b))
 else if sg="least" then some (if b<a then b else a) else if sg="most" then some (if b > a then b else a)
 else if sg="<" then some (if a<b then 1 else 0) else if sg="=" then some (if a=b then 1 else 0)
 else if sg="&" then some (Builtin.bitAnd a b) else if sg="|" then some (Builtin.bitOr a b) else some (Builtin.bitXor a b)
def edges:J6:=[-9223372036854775808,9223372036854775807,-1,4294967296,-9223372036854775807,3037000500]
def yM (c:Int):Int :=
 if c % 4=0 then c / 4 % 7-3 else if c % 4=1 then edges.getD (c / 4 % 6).toNat 0 else if c % 4=2 then c / 4*48271 % 2001-1000
 else c / 4*2862933555777941757 % 18446744073709551616-9223372036854775808
def edge_at:∀ k:Nat,k<6->(edges.map V.int)[k]?=some (V.int (edges.getD k 0))/\Kin (edges.getD k 0):=by decide
def zbw (c:Int):Kin (yM c):=by
 unfold yM
 split
 ·omega
 ·split
  ·exact (edge_at _ (by omega)).2
  ·split <;> omega
def bitDue (sg:Str) (a b:Int):Int:=if sg="&" then a*b else if sg="|" then (if b > a then b else a) else (a+b) % 2
def pw_pos (n:Nat):(0:Int)<2 ^ n:=by
 induction n with
 | zero=>decide
 | succ n ih=>rw [Int.pow_succ];omega
def fbit (x:Int) (n:Nat):x.fdiv (2 ^ n) % 2=x / 2 ^ n % 2:=by rw [Int.fdiv_eq_ediv_of_nonneg _ (Int.le_of_lt (pw_pos n))]
def in63 {x:Int}:Kin x↔My.In 63 x:=by
 unfold Kin My.In;have e:(2:Int) ^ 63=9223372036854775808:=by decide
 rw [e];omega
def bits_ok {sg:Str} (hs:sg="&"∨sg="|"∨sg="^") {a b:Int} (ha:Kin a) (hb:Kin b):∃ r,doneR sg a b=some r/\Kin r/\∀ n:Nat,r.fdiv (2 ^ n) % 2=bitDue sg (a.fdiv (2 ^ n) % 2) (b.fdiv (2 ^ n) % 2):=by
 rcases hs with rfl | rfl | rfl
 ·exact ⟨_,rfl,in63.mpr (My.and_in 63 a b (in63.mp ha) (in63.mp hb)),λn=>by rw [fbit,fbit,fbit,My.and_bit];rfl⟩
 ·refine ⟨_,rfl,in63.mpr (My.or_in 63 a b (in63.mp ha) (in63.mp hb)),λn=>?_⟩
  rw [fbit,fbit,fbit,My.or_bit];show max _ _=if _ > _ then _ else _
  split <;> omega
 ·exact ⟨_,rfl,in63.mpr (My.xor_in 63 a b (in63.mp ha) (in63.mp hb)),λn=>by rw [fbit,fbit,fbit,My.xor_bit];rfl⟩
def XS (n:Int):Kin (kept n):=by unfold kept;omega
def done_in {sg:Str} (hs:sg∈signs) {a b r:Int} (ha:Kin a) (hb:Kin b) (h:doneR sg a b=some r):Kin r:=by
 simp only [signs,List.mem_cons,List.not_mem_nil,or_false] at hs
 have bit:(sg="&"∨sg="|"∨sg="^")->Kin r:=λz=>by
  obtain ⟨r',e,k,_⟩:=bits_ok z ha hb;rw [e] at h;cases h;exact k
 rcases hs with rfl | rfl | rfl | rfl | rfl | rfl | rfl | rfl | rfl | rfl | rfl | rfl
 ·cases h;exact XS _
 ·cases h;exact XS _
 ·cases h;exact XS _
 ·have h':(if b=0 then none else some (kept (a.fdiv b)))=some r:=h
  split at h'
  ·cases h'
  ·cases h';exact XS _
 ·have h':(if b=0 then none else some (a.fmod b))=some r:=h
  split at h'
  ·cases h'
  ·rename_i z
   cases h';rcases (by omega:0<b∨b<0) with p | p
   ·have h1:=Int.fmod_nonneg_of_pos a p
    have h2:=Int.fmod_lt_of_pos a p;omega
   ·have h1:a.fmod b<=0:=by
     have e:=Int.neg_fmod_neg a b;have h3:=Int.fmod_nonneg_of_pos (-a) (show 0 < -b by omega);omega
    have h2:b<a.fmod b:=by
     have e:=Int.neg_fmod_neg a b;have h3:=Int.fmod_lt_of_pos (-a) (show 0 < -b by omega);omega
    omega
 ·have h':some (if b<a then b else a)=some r:=h
  cases h';split <;> omega
 ·have h':some (if b > a then b else a)=some r:=h
  cases h';split <;> omega
 ·have h':some (if a<b then (1:Int) else 0)=some r:=h
  cases h';split <;> omega
 ·have h':some (if a=b then (1:Int) else 0)=some r:=h
  cases h';split <;> omega
 ·exact bit (.inl rfl)
 ·exact bit (.inr (.inl rfl))
 ·exact bit (.inr (.inr rfl))
inductive Fm | num (n:Int) | here | cell (r:Int) | shi (r by' other:Int) | loc (at':Int) | at' (r:Int) (p:Fm) | pair (sg:Str) (l r:Fm) | cho (t l r:Fm)
inductive Res | ok (n:Int) | nought | outside
 deriving DecidableEq
structure SpotD where
 lens:J6
 cells:J6
 place:Int
 own:J6
structure Cs where
 num:Ad
 here:Ad
 cell:Ad
 shi:Ad
 loc:Ad
 at':Ad
 pair:Ad
 cho:Ad
 spot:Ad
structure SpotAt (c:Cs) (K:Fg) (H:Hp) (x:Ad) (S:SpotD):Prop where
 ex:∃ dx l f e o,H x=some (.ins c.spot dx [("lengths",.ref l),("functions",.ref f),("cells",.ref e),("place",.int S.place),("own",.ref o)])/\SqL K H l (S.lens.map V.int)/\SqL K H e (S.cells.map V.int)/\SqL K H o (S.own.map V.int)
def SpotD.start (S:SpotD) (r:Int):Int:=(S.lens.take r.toNat).sum
def SpotD.len (S:SpotD) (r:Int):Int:=S.lens.getD r.toNat 0
def SpotD.cellAt (S:SpotD) (r q:Int):Int:=S.cells.getD (S.start r+q).toNat 0
structure SpotOk (S:SpotD):Prop where
 ln:∀ v∈S.lens,0<=v
 tot:(S.cells.length:Int)=S.lens.sum
 ck:∀ v∈S.cells,Kin v
 ok':∀ v∈S.own,Kin v
 pl:Kin S.place
def SpotD.has (S:SpotD) (r:Int):Prop:=0<=r/\r.toNat<S.lens.length
def cell_in {S:SpotD} (o:SpotOk S) {r q:Int} (h:S.has r) (h0:0<=q) (h1:q<S.len r):0<=S.start r+q/\S.start r+q<S.cells.length/\Kin (S.cellAt r q):=by
 have m:=zdc o.ln r.toNat;have m2:=zdc o.ln (r.toNat+1);have e:=zbc h.2;have t:=o.tot;unfold SpotD.start SpotD.len at *;have a:0<=(S.lens.take r.toNat).sum+q:=by omega
 have b:(S.lens.take r.toNat).sum+q<S.cells.length:=by omega
 refine ⟨a,b,?_⟩;unfold SpotD.cellAt SpotD.start;exact o.ck _ (L2.getD_mem (by omega))
end FM
namespace L2
open PySem PySem.Spec PyProof.Rows
structure Air (X:Cx) (H:Hp) (h:Heap) (e:Ad) (cls:Vl):Prop where
 be:X.base.get? e=none
 se:X.s₀.heap.get? e=none
 fe:H e=none
 tr:∃ oe vs T oT ts x,h.get? e=some oe/\oe.cls=cls/\oe.data=.fields vs/\vs[1]?=some (.ref T)/\T≠e/\h.get? T=some oT/\oT.data=.fields ts/\ts[3]?=some x/\X.base.get? T=none/\X.s₀.heap.get? T=none/\H T=none
section
variable {X:Cx} {l8:J7} {σ:St} {H:Hp} {s:Sh} {e:Ad} {cls:Vl}
end
section
variable {prog:Program} {w:World} {A:Around} {R:Result->Sh->Prop} {s:Sh}
end
section
variable {X:Cx} {l8:J7} {σ:St} {H H':Hp} {s s':Sh} {e C T:Ad}
end
section
variable {X:Cx} {tg:Expr}
end
structure MkN (K:Fg) (C:Ad):Prop where
 makes:PySem.W.makesIn K C=true
 init:PySem.W.findIn K (.ref C) "__init__"=some (some (.builtin "object.__init__"))
 kp:PySem.W.keepIn K (.ref C)=true
def tMakeN (C:Ad):TE:=λ_ H Q=>∀ x dx,H x=none->H dx=none->dx≠x->Q (.ref x) (upd (upd H dx (.own x)) x (.ins C dx []))
section
variable {X:Cx} {C:Ad} {x:Str} {p pos:Pos}
def pe_makeN (M:MkN X.K C) (hg:Gl X x) (hm:X.mg x=some (.ref C)) (hdb:(x == ("__debug__":Str))=false:=by decide):PE X (.Call (.Name x p) [] [] pos) (tMakeN C):=by
 intro l8 s σ H Q I h;refine wpAny_Call_Name_kw (Ya I hg hm ?_ hdb);refine PySem.W.callWith_K0 I.kIn M.kp ?_;have I2:=Inv.made (C:=C) I;have q:=h (s.heap.objs.size+1) s.heap.objs.size (I.hok.fresh (Nat.le_succ _)) (I.hok.fresh (Nat.le_refl _)) (Nat.ne_of_lt (Nat.lt_succ_self _));refine wpAny_call (make_map0 I.kIn M.makes M.init (λself=>PySem.W.Looks.of_pure (PySem.W.oi_bind self)) ?_);have Y:=PySem.W.makes_of (M:=model X.prog X.w) I.kIn M.makes
 have e2:((s.heap.push PySem.W.emptyDict).push (PySem.W.instObj C s.heap.objs.size)).get? (s.heap.objs.size+1)=some (PySem.W.instObj C s.heap.objs.size):=by
  have:=Heap.get?_push_size (s.heap.push PySem.W.emptyDict) (o:=PySem.W.instObj C s.heap.objs.size) rfl
  rwa [Heap.size_push] at this
 have t1:PySem.W.Looks (model X.prog X.w) ((s.heap.push PySem.W.emptyDict).push (PySem.W.instObj C s.heap.objs.size)) (typeOf (.ref (s.heap.objs.size+1))) (.ref C):=(PySem.W.Looks.ld e2).andThen .now;have kp:∀ b o,s.heap.get? b=some o->((s.heap.push PySem.W.emptyDict).push (PySem.W.instObj C s.heap.objs.size)).get? b=some o:=λb o e=>Heap.get?_push_of_some _ (Heap.get?_push_of_some _ e);have t2:PySem.W.Looks (model X.prog X.w) ((s.heap.push PySem.W.emptyDict).push (PySem.W.instObj C s.heap.objs.size)) (isInstance (.ref (s.heap.objs.size+1)) (.type "object")) true:=t1.andThen (Y.top.keeps kp);refine codeAny_call_builtin PySem.W.oi_plain PySem.W.entry_oi (PySem.W.check_slot PySem.W.oi_kind PySem.W.oi_split t2 (PySem.W.oi_args _) ?_);rw [PySem.W.oi_run];exact q0y ⟨rfl,.ref (s.heap.objs.size+1),_,I2,rfl,q⟩
end
end L2
namespace F2
open PySem L2
abbrev Kin:=FM.Kin
abbrev SpotD:=FM.SpotD
abbrev Res:=FM.Res
mutual
inductive Fm
 | num (n:Int) | here | cell (r:Int) | shi (r b o:Int) | loc (a:Int) | at' (r:Int) (p:Fm) | pair (sg:Str) (l r:Fm) | cho (t l r:Fm) | call (a:Int) (hs:Fms)
inductive Fms
 | nil | cons (f:Fm) (r:Fms)
end
instance:Inhabited Fm:=⟨.here⟩
def Fms.len:Fms->Nat
 | .nil=>0
 | .cons _ r=>r.len+1
structure Cs extends FM.Cs where
 call:Ad
mutual
def FormAt (c:Cs) (H:Hp):Fm->Ad->Prop
 | .num n,x=>∃ dx,H x=some (.ins c.num dx [("number",.int n)])
 | .here,x=>∃ dx,H x=some (.ins c.here dx [])
 | .cell r,x=>∃ dx,H x=some (.ins c.cell dx [("row",.int r)])
 | .shi r b o,x=>∃ dx,H x=some (.ins c.shi dx [("row",.int r),("by",.int b),("other",.int o)])
 | .loc a,x=>∃ dx,H x=some (.ins c.loc dx [("at",.int a)])
 | .at' r p,x=>∃ dx y,H x=some (.ins c.at' dx [("row",.int r),("place",.ref y)])/\FormAt c H p y
 | .pair sg l r,x=>∃ dx y z,H x=some (.ins c.pair dx [("sign",.str sg),("left",.ref y),("right",.ref z)])/\FormAt c H l y/\FormAt c H r z
 | .cho t l r,x=>∃ dx u y z,H x=some (.ins c.cho dx [("test",.ref u),("left",.ref y),("right",.ref z)])/\FormAt c H t u/\FormAt c H l y/\FormAt c H r z
 | .call a hs,x=>∃ dx l ys,H x=some (.ins c.call dx [("at",.int a),("handed",.ref l)])/\H l=some (.lst (ys.map V.ref))/\FormsAt c H hs ys
def FormsAt (c:Cs) (H:Hp):Fms->Jc->Prop
 | .nil,ys=>ys=[]
 | .cons f r,ys=>∃ y t,ys=y::t/\FormAt c H f y/\FormsAt c H r t
end
mutual
theorem FormAt.same {c:Cs} {H H':Hp} (s:Same H H'):∀ {F:Fm} {x:Ad},FormAt c H F x->FormAt c H' F x
 | .num _,_,h=>by obtain ⟨dx,h⟩:=h;exact ⟨dx,s _ _ h⟩
 | .here,_,h=>by obtain ⟨dx,h⟩:=h;exact ⟨dx,s _ _ h⟩
 | .cell _,_,h=>by obtain ⟨dx,h⟩:=h;exact ⟨dx,s _ _ h⟩
 | .shi _ _ _,_,h=>by obtain ⟨dx,h⟩:=h;exact ⟨dx,s _ _ h⟩
 | .loc _,_,h=>by obtain ⟨dx,h⟩:=h;exact ⟨dx,s _ _ h⟩
 | .at' _ _,_,h=>by obtain ⟨dx,y,h,p⟩:=h;exact ⟨dx,y,s _ _ h,FormAt.same s p⟩
 | .pair _ _ _,_,h=>by obtain ⟨dx,y,z,h,p,q⟩:=h;exact ⟨dx,y,z,s _ _ h,FormAt.same s p,FormAt.same s q⟩
 | .cho _ _ _,_,h=>by obtain ⟨dx,u,y,z,h,o,p,q⟩:=h;exact ⟨dx,u,y,z,s _ _ h,FormAt.same s o,FormAt.same s p,FormAt.same s q⟩
 | .call _ _,_,h=>by obtain ⟨dx,l,ys,h,e,p⟩:=h;exact ⟨dx,l,ys,s _ _ h,s _ _ e,FormsAt.same s p⟩
theorem FormsAt.same {c:Cs} {H H':Hp} (s:Same H H'):∀ {F:Fms} {ys:Jc},FormsAt c H F ys->FormsAt c H' F ys
 | .nil,_,h=>h
 | .cons _ _,_,h=>by obtain ⟨y,t,e,p,q⟩:=h;exact ⟨y,t,e,FormAt.same s p,FormsAt.same s q⟩
end
abbrev Fn:=Nat×Fm
def bodyOf (fs:List Fn) (a:Int):Fm:=(fs.getD a.toNat (0,.here)).2
def handsOf (fs:List Fn) (a:Int):Nat:=(fs.getD a.toNat (0,.here)).1
structure FunsAt (c:Cs) (K:Fg) (H:Hp) (f:Ad) (fs:List Fn):Prop where
 ex:∃ ts:Jc,SqL K H f (ts.map V.ref)/\ts.length=fs.length/\∀ i,i<fs.length->∃ b,SqT K H (ts.getD i 0) [.int ((fs.getD i (0,.here)).1:Int),.ref b]/\FormAt c H (fs.getD i (0,.here)).2 b
def sqt_same {K:Fg} {H H':Hp} {a:Ad} {xs:Jj} (h:SqT K H a xs) (s:Same H H'):SqT K H' a xs:=by
 rcases h with h | h
 ·exact .inl (h.imp (λz=>s _ _ z) λ⟨o,z⟩=>⟨o,s _ _ z⟩)
 ·exact .inr h
structure SpotAt (c:Cs) (K:Fg) (H:Hp) (x:Ad) (S:SpotD) (fs:List Fn):Prop where
 ex:∃ dx l f e o,H x=some (.ins c.spot dx [("lengths",.ref l),("functions",.ref f),("cells",.ref e),("place",.int S.place),("own",.ref o)])/\SqL K H l (S.lens.map V.int)/\FunsAt c K H f fs/\SqL K H e (S.cells.map V.int)/\SqL K H o (S.own.map V.int)
inductive RL | ok (l:J6) | bad (e:Res)
mutual
def ev (cl:Int->J6->Res) (S:SpotD):Fm->Res
 | .num n=>.ok n
 | .here=>.ok S.place
 | .cell r=>if S.len r=1 then .ok (S.cellAt r 0) else .ok (S.cellAt r S.place)
 | .shi r b o=>if 0<=S.place+b/\S.place+b<S.len r then .ok (S.cellAt r (S.place+b)) else .ok o
 | .loc a=>.ok (S.own.getD a.toNat 0)
 | .at' r p=>match ev cl S p with
  | .ok q=>if 0<=q/\q<S.len r then .ok (S.cellAt r q) else .outside
  | e=>e
 | .pair sg l r=>match ev cl S l with
  | .ok a=>(match ev cl S r with
   | .ok b=>(match FM.doneR sg a b with
    | some n=>.ok n
    | none=>.nought)
   | e=>e)
  | e=>e
 | .cho t l r=>match ev cl S t with
  | .ok a=>if a≠0 then ev cl S l else ev cl S r
  | e=>e
 | .call a hs=>match evs cl S hs with
  | .ok l=>cl a l
  | .bad e=>e
def evs (cl:Int->J6->Res) (S:SpotD):Fms->RL
 | .nil=>.ok []
 | .cons f r=>match ev cl S f with
  | .ok n=>(match evs cl S r with
   | .ok l=>.ok (n::l)
   | .bad e=>.bad e)
  | e=>.bad e
end
def callK (fs:List Fn) (S:SpotD):Nat->Int->J6->Res
 | 0,_,_=>.outside
 | k+1,a,l=>ev (callK fs S k) { S with own:=l } (bodyOf fs a)
abbrev worth (fs:List Fn) (k:Nat) (S:SpotD) (F:Fm):Res:=ev (callK fs S k) S F
mutual
def WF (fs:List Fn) (k:Nat) (S:SpotD):Fm->Prop
 | .num n=>Kin n
 | .here=>True
 | .cell r=>S.has r/\1<=S.len r/\(S.len r≠1->0<=S.place/\S.place<S.len r)
 | .shi r _ o=>S.has r/\Kin o
 | .loc a=>0<=a/\a.toNat<S.own.length
 | .at' r p=>S.has r/\WF fs k S p
 | .pair sg l r=>sg∈FM.signs/\WF fs k S l/\WF fs k S r
 | .cho t l r=>WF fs k S t/\WF fs k S l/\WF fs k S r
 | .call a hs=>0<=a/\a.toNat<k/\a.toNat<fs.length/\hs.len=handsOf fs a/\WFs fs k S hs
def WFs (fs:List Fn) (k:Nat) (S:SpotD):Fms->Prop
 | .nil=>True
 | .cons f r=>WF fs k S f/\WFs fs k S r
end
def Bodies (fs:List Fn):Prop:=∀ (a:Int) (S:SpotD) (l:J6),0<=a->a.toNat<fs.length->l.length=handsOf fs a->WF fs a.toNat { S with own:=l } (bodyOf fs a)
mutual
theorem WF.mono {fs:List Fn} {j k:Nat} {S:SpotD} (h:j<=k):∀ {F:Fm},WF fs j S F->WF fs k S F
 | .num _,w=>w
 | .here,w=>w
 | .cell _,w=>w
 | .shi _ _ _,w=>w
 | .loc _,w=>w
 | .at' _ _,w=>⟨w.1,WF.mono h w.2⟩
 | .pair _ _ _,w=>⟨w.1,WF.mono h w.2.1,WF.mono h w.2.2⟩
 | .cho _ _ _,w=>⟨WF.mono h w.1,WF.mono h w.2.1,WF.mono h w.2.2⟩
 | .call _ _,w=>⟨w.1,by have:=w.2.1;omega,w.2.2.1,w.2.2.2.1,WFs.mono h w.2.2.2.2⟩
theorem WFs.mono {fs:List Fn} {j k:Nat} {S:SpotD} (h:j<=k):∀ {F:Fms},WFs fs j S F->WFs fs k S F
 | .nil,_=>trivial
 | .cons _ _,w=>⟨WF.mono h w.1,WFs.mono h w.2⟩
end
mutual
theorem Yd {fs:List Fn} (hb:Bodies fs) {S T:SpotD} {j k k':Nat} (h1:j<=k) (h2:j<=k') (ih:∀ a l,0<=a->a.toNat<j->a.toNat<fs.length->l.length=handsOf fs a->callK fs T k a l=callK fs T k' a l):∀ {F:Fm},WF fs j S F->ev (callK fs T k) S F=ev (callK fs T k') S F
 | .num _,_=>rfl
 | .here,_=>rfl
 | .cell _,_=>rfl
 | .shi _ _ _,_=>rfl
 | .loc _,_=>rfl
 | .at' r p,w=>by unfold ev;rw [Yd hb h1 h2 ih w.2]
 | .pair sg l r,w=>by unfold ev;rw [Yd hb h1 h2 ih w.2.1,Yd hb h1 h2 ih w.2.2]
 | .cho t l r,w=>by unfold ev;rw [Yd hb h1 h2 ih w.1,Yd hb h1 h2 ih w.2.1,Yd hb h1 h2 ih w.2.2]
 | .call a hs,w=>by
  unfold ev;obtain ⟨e,el⟩:=zeb hb h1 h2 ih w.2.2.2.2;rw [e]
  cases z:evs (callK fs T k') S hs with
  | bad _=>rfl
  | ok l =>
   exact ih a l w.1 w.2.1 w.2.2.1 (by rw [el l z];exact w.2.2.2.1)
theorem zeb {fs:List Fn} (hb:Bodies fs) {S T:SpotD} {j k k':Nat} (h1:j<=k) (h2:j<=k') (ih:∀ a l,0<=a->a.toNat<j->a.toNat<fs.length->l.length=handsOf fs a->callK fs T k a l=callK fs T k' a l):∀ {F:Fms},WFs fs j S F->evs (callK fs T k) S F=evs (callK fs T k') S F/\∀ l,evs (callK fs T k') S F=.ok l->l.length=F.len
 | .nil,_=>⟨rfl,λl e=>by cases (show RL.ok []=RL.ok l from e);rfl⟩
 | .cons f r,w=>by
  have e1:=Yd hb h1 h2 ih w.1;obtain ⟨e2,el⟩:=zeb hb h1 h2 ih w.2;refine ⟨by unfold evs;rw [e1,e2],λl e=>?_⟩;unfold evs at e
  split at e
  ·split at e
   ·rename_i l' z
    cases e;show l'.length+1=r.len+1;rw [el l' z]
   ·cases e
  ·cases e
end
theorem evs_bad {cl:Int->J6->Res} {S:SpotD} (n:Int):∀ {F:Fms},evs cl S F≠.bad (.ok n)
 | .nil=>λe=>by cases (show RL.ok []=RL.bad _ from e)
 | .cons f r=>λe=>by
  unfold evs at e
  split at e
  ·split at e
   ·cases e
   ·rename_i e' z
    cases e;exact evs_bad n z
  ·rename_i e' z
   injection e with e
   exact z n e
mutual
theorem ev_kin {fs:List Fn} {S:SpotD} (o:FM.SpotOk S) {k:Nat} {cl:Int->J6->Res} (hc:∀ a l n,0<=a->a.toNat<k->a.toNat<fs.length->l.length=handsOf fs a->(∀ v∈l,Kin v)->cl a l=.ok n->Kin n):∀ {F:Fm} {n:Int},WF fs k S F->ev cl S F=.ok n->Kin n
 | .num _,_,h,e=>by cases (show FM.Res.ok _=FM.Res.ok _ from e);exact h
 | .here,_,_,e=>by cases (show FM.Res.ok _=FM.Res.ok _ from e);exact o.pl
 | .cell r,n,h,e=>by
  unfold ev at e
  split at e
  ·rename_i z;cases e;exact (FM.cell_in o h.1 (by omega) (by omega)).2.2
  ·rename_i z;cases e;exact (FM.cell_in o h.1 (h.2.2 z).1 (h.2.2 z).2).2.2
 | .shi r b o',n,h,e=>by
  unfold ev at e
  split at e
  ·rename_i z;cases e;exact (FM.cell_in o h.1 z.1 z.2).2.2
  ·cases e;exact h.2
 | .loc a,n,h,e=>by cases (show FM.Res.ok _=FM.Res.ok _ from e);exact o.ok' _ (L2.getD_mem h.2)
 | .at' r p,n,h,e=>by
  unfold ev at e
  split at e
  ·rename_i q hq
   split at e
   ·rename_i z;cases e;exact (FM.cell_in o h.1 z.1 z.2).2.2
   ·cases e
  ·rename_i e' hq;exact absurd e (hq n)
 | .pair sg l r,n,h,e=>by
  unfold ev at e
  split at e
  ·rename_i a ha
   split at e
   ·rename_i b hb
    split at e
    ·rename_i m hm;cases e;exact FM.done_in h.1 (ev_kin o hc h.2.1 ha) (ev_kin o hc h.2.2 hb) hm
    ·cases e
   ·rename_i e' hq;exact absurd e (hq n)
  ·rename_i e' hq;exact absurd e (hq n)
 | .cho t l r,n,h,e=>by
  unfold ev at e
  split at e
  ·split at e
   ·exact ev_kin o hc h.2.1 e
   ·exact ev_kin o hc h.2.2 e
  ·rename_i e' hq;exact absurd e (hq n)
 | .call a hs,n,h,e=>by
  unfold ev at e
  split at e
  ·rename_i l z
   obtain ⟨q1,q2⟩:=evs_kin o hc h.2.2.2.2 z;exact hc a l n h.1 h.2.1 h.2.2.1 (by rw [q1];exact h.2.2.2.1) q2 e
  ·rename_i e' z
   cases e'
   ·exact absurd z (evs_bad _)
   ·cases e
   ·cases e
theorem evs_kin {fs:List Fn} {S:SpotD} (o:FM.SpotOk S) {k:Nat} {cl:Int->J6->Res} (hc:∀ a l n,0<=a->a.toNat<k->a.toNat<fs.length->l.length=handsOf fs a->(∀ v∈l,Kin v)->cl a l=.ok n->Kin n):∀ {F:Fms} {l:J6},WFs fs k S F->evs cl S F=.ok l->l.length=F.len/\∀ v∈l,Kin v
 | .nil,l,_,e=>by cases (show RL.ok []=RL.ok l from e);exact ⟨rfl,λv hv=>nomatch hv⟩
 | .cons f r,l,h,e=>by
  unfold evs at e
  split at e
  ·rename_i n hn
   split at e
   ·rename_i l' z
    cases e;obtain ⟨q1,q2⟩:=evs_kin o hc h.2 z;refine ⟨by show l'.length+1=r.len+1;rw [q1],λv hv=>?_⟩;rcases List.mem_cons.mp hv with rfl | hv
    ·exact ev_kin o hc h.1 hn
    ·exact q2 v hv
   ·cases e
  ·cases e
end
def SpotOk.hand {S:SpotD} (o:FM.SpotOk S) {l:J6} (h:∀ v∈l,Kin v):FM.SpotOk { S with own:=l }:=⟨o.ln,o.tot,o.ck,h,o.pl⟩
theorem call_kin {fs:List Fn} (hb:Bodies fs) {S:SpotD} (o:FM.SpotOk S):∀ (k:Nat) (a:Int) (l:J6) (n:Int),0<=a->a.toNat<k->a.toNat<fs.length->l.length=handsOf fs a->(∀ v∈l,Kin v)->callK fs S k a l=.ok n->Kin n
 | 0,_,_,_,_,h,_,_,_,_=>absurd h (Nat.not_lt_zero _)
 | k+1,a,l,n,h0,h1,h2,h3,h4,e=>by
  have e:ev (callK fs S k) { S with own:=l } (bodyOf fs a)=.ok n:=e;exact ev_kin (fs:=fs) (k:=k) (SpotOk.hand o h4) (λa l n x0 x1 x2 x3 x4 x5=>call_kin hb o k a l n x0 x1 x2 x3 x4 x5) (WF.mono (by omega) (hb a S l h0 h2 h3)) e
def worth_kin {fs:List Fn} (hb:Bodies fs) {S:SpotD} (o:FM.SpotOk S) {k:Nat} {F:Fm} {n:Int} (w:WF fs k S F) (e:worth fs k S F=.ok n):Kin n:=ev_kin (fs:=fs) (k:=k) o (λa l n x0 x1 x2 x3 x4 x5=>call_kin hb o k a l n x0 x1 x2 x3 x4 x5) w e
end F2
namespace L2
open PySem PySem.Spec PyProof.Rows
structure FunD (K:Fg) (x me:Str) (st:Stmt) (f:Ad) (fd:FuncData) (ds:Array Vl):Prop where
 ex:∃ (oc:Vl) (od:Option Ad) (kV doc pm:Vl) (an:Option Ad) (mh ct:Vl) (osl:Array (Ja)) (T:Ad) (o:Obj) (n:Nat),
  fd=PySem.W.fnOf x me (yf st) (zR st) (ze st) (.ref T) kV doc pm an mh ct/\K.lookup f=some ⟨oc,od,.func fd,osl⟩/\PySem.W.codeIn K mh me=true/\K.lookup T=some o/\o.data=.seq ds n
 kp:PySem.W.keepIn K (.ref f)=true
section
variable {P:Program} {w:World} {K:Fg} {mg:J0} {base:Heap}
def FunD.okE {x me:Str} {st:Stmt} {f:Ad} {fd:FuncData} {ds:Array Vl} {N ps:Jb} {k:Nat} {sp:Sp} (F:FunD K x me st f fd ds) (S:FnScope N ps (ze st)) (len:∀ vs H Q E,sp vs H Q E->vs.length=ps.length)
  (hbody:∀ (mh:Vl) (A:Around) (outer:List Env) (s:Sh) (H:Hp) (vs:Jj) (Q:VK) (E:XK),Room k (A.deeper (envOfC me (ze st) s.heap.objs.size f mh))->sp vs H Q E ->
   ∃ t,PSs (yd (CXe P w base) P w K mg base N me (ze st) f mh A outer s H E) (zR st) t/\t { nx:=λ_ H'=>Q .non H',rt:=Q } (start N vs) H):FnOk P w K mg base (CXe P w base) (k+1) f fd ps sp:=by
 obtain ⟨oc,od,kV,doc,pm,an,mh,ct,osl,T,o,n,rfl,lk,hcd,_,_⟩:=F.ex;exact fn_of lk hcd S len λA outer s H vs Q E hr hsp=>hbody mh A outer s H vs Q E hr hsp
def FunD.binds {x me:Str} {st:Stmt} {f:Ad} {fd:FuncData} {ds:Array Vl} {ps:Jb} {ds2:J8} (F:FunD K x me st f fd ds)
  (h:∀ (T:Ad) (kV doc pm:Vl) (an:Option Ad) (mh ct:Vl) (us:J8),(us++ds2).length=ps.length->∃ k:Option (Array Vl)->Sem (List (Str×Vl)),bindArgs (PySem.W.fnOf x me (yf st) (zR st) (ze st) (.ref T) kV doc pm an mh ct) ⟨us,[]⟩=seqItems? (.ref T) >>= k/\k (some ds)=pure (ps.zip (us++ds2))):Binds K fd ps ds2:=by
 obtain ⟨oc,od,kV,doc,pm,an,mh,ct,osl,T,o,n,rfl,lk,hcd,lT,eT⟩:=F.ex;intro s us KX hl;obtain ⟨k,h1,h2⟩:=h T kV doc pm an mh ct us hl;exact BindsTo.of_defaults rfl (KX _ _ lT) eT h1 h2
def YE {x me:Str} {st:Stmt} {f T:Ad} {oc ocT:Vl} {od an odT:Option Ad} {osl oslT:Array (Ja)} {kV doc pm mh ct:Vl} {ds:Array Vl} {n:Nat} (l:K.lookup f=some ⟨oc,od,.func (PySem.W.fnOf x me (yf st) (zR st) (ze st) (.ref T) kV doc pm an mh ct),osl⟩)
  (c:PySem.W.codeIn K mh me=true) (k:PySem.W.keepIn K (.ref f)=true) (lT:K.lookup T=some ⟨ocT,odT,.seq ds n,oslT⟩):FunD K x me st f (PySem.W.fnOf x me (yf st) (zR st) (ze st) (.ref T) kV doc pm an mh ct) ds:=⟨⟨oc,od,kV,doc,pm,an,mh,ct,osl,T,_,n,rfl,l,c,lT,rfl⟩,k⟩
def InitN (K:Fg) (C:Ad) (me:Str) (st:Stmt) (ps:Jb):Prop:=∃ (f:Ad) (fd:FuncData),Mk K C f/\FunD K "__init__" me st f fd #[.none]/\Binds K fd ps []/\Binds K fd ps [.none]
def OkN (P:Program) (w:World) (K:Fg) (mg:J0) (base:Heap) (CX:CXT) (k:Nat) (C:Ad) (ps:Jb) (sp:Sp):Prop :=
 ∃ (f:Ad) (fd:FuncData),Mk K C f/\Binds K fd ps []/\Binds K fd ps [.none]/\FnOk P w K mg base CX k f fd ps sp
end
section
variable {X:Cx} {CX:CXT} {k:Nat} {C:Ad} {ps:Jb} {sp:Sp} {E:XK} {x m:Str} {p pos apos:Pos} {e o:Expr} {es:Jd} {ta:TE} {t:TA}
def pe_okN (h:OkN X.prog X.w X.K X.mg X.base CX k C ps sp) (hm:X.mg x=some (.ref C)) (hr:Room (k+1) X.A) (hg:Gl X x) (hx:xa CX X E) (ha:PA X (e::es) t) (hdb:(x == ("__debug__":Str))=false:=by decide)
  (he:starEach (e::es) X.env=(false,eval e X.env)::starEach es X.env:=by rfl) (hpl:(backTo pos (starEach es X.env)).any (·.1)=false:=by rfl):PE X (.Call (.Name x p) (e::es) [] pos) (tMake C sp [.non] E t):=by
 obtain ⟨f,fd,a,_,b,d⟩:=h;exact pe_make a d hr hg hm b (.cons rfl .nil) hx ha hdb he hpl
end
def ps1_ret {X:Cx} {σ₀:St} {e:Expr} {te:TE} {pos:Pos} (he:PE1 X σ₀ e te):PS1 X σ₀ (.Return (some e) pos) (tRet te):=by
 intro l8 s H D I h;exact wpAny_Return_some (thn (he l8 s H _ I h) λv s1 ⟨x,H1,I1,r1,q1⟩=>⟨x,σ₀,H1,I1,r1,q1⟩)
end L2
namespace L2
open PySem
namespace Hd
variable {B:Hp} {L:Ji} {H H' J:Hp} {a b:Ad} {o o':HO}
def grow (h:Hd B L H) (n:H a=none):Hd (upd B a o) L (upd H a o):=by
 refine ⟨h.nd,λp q=>?_,λp q=>?_,λb u z=>?_⟩
 ·rw [zj (zq (h.st p q) n)];exact h.nw p q
 ·rw [zj (zq (h.st p q) n)];exact h.st p q
 ·by_cases e:b=a
  ·subst e;rw [zi] at z ⊢;exact z
  ·rw [zj e] at z ⊢;exact h.sm _ _ z
def settle (m:Hd B ((a,o)::L) H):Hd (upd B a o) L H:=by
 have h:=m.tl;have na:a ∉ L.map Prod.fst:=(List.nodup_cons.mp m.nd).1;refine ⟨h.nd,λp q=>?_,h.st,λb u z=>?_⟩
 ·rw [zj (λe=>na (by rw [← e];exact List.mem_map_of_mem q))];exact h.nw p q
 ·by_cases e:b=a
  ·subst e;rw [zi] at z;cases z;exact m.get 0 rfl
  ·rw [zj e] at z;exact m.sm _ _ z
def settled (m:Hd B ((a,o)::L) H):Same B (upd B a o):=zt (Same.refl _) (m.nw (a,o) (q6z ..))
def waste (h:Hd B L H) (n:H a=none):Hd B L (upd H a o):=h.same (zt (Same.refl _) n)
def fnew {p:Ad×HO} (h:Hd B (p::L) H) (n:H a=none):Hd B (p::(a,o)::L) (upd H a o):=(h.new n).perm (List.Perm.swap _ _ _)
def fput (h:Hd B ((a,o)::L) H):Hd B ((a,o')::L) (upd H a o'):=h.put 0 rfl
end Hd
namespace Hd
variable {B:Hp} {L L2:Ji} {H H' J:Hp} {a b:Ad} {o o':HO}
def join (m:Hd B L H) (h:Hd H L2 J):Hd B (L++L2) J:=by
 refine ⟨?_,λp q=>?_,λp q=>?_,λb u z=>h.sm _ _ (m.sm _ _ z)⟩
 ·rw [Jg]
  refine List.nodup_append.mpr ⟨m.nd,h.nd,λx hx y hy e=>?_⟩;obtain ⟨p,hp,rfl⟩:=List.mem_map.mp hx;obtain ⟨q,hq,rfl⟩:=List.mem_map.mp hy;have:=m.st p hp;rw [e,h.nw q hq] at this;cases this
 ·rcases List.mem_append.mp q with q | q
  ·exact m.nw p q
  ·exact m.free (h.nw p q)
 ·rcases List.mem_append.mp q with q | q
  ·exact h.sm _ _ (m.st p q)
  ·exact h.st p q
def settles {S:Ji}:∀ {B:Hp},Hd B (S++L) H->∃ B',Same B B'/\(∀ p∈S,B' p.1=some p.2)/\Hd B' L H:=by
 induction S with
 | nil=>exact λ{B} h=>⟨B,Same.refl _,(λp m=>by cases m),h⟩
 | cons p S ih =>
  intro B h;obtain ⟨a,o⟩:=p;obtain ⟨B',s,e,h'⟩:=ih (Hd.settle h);refine ⟨B',(Hd.settled h).trans s,λp m=>?_,h'⟩;rcases List.mem_cons.mp m with rfl | m
  ·exact s _ _ zi
  ·exact e p m
end Hd
end L2
namespace L2
open PySem PySem.Spec PyProof.Rows
open Sem (wp)
section
variable {prog:Program} {w:World} {A:Around} {E:J5} {s:Sh}
end
section
variable {X:Cx} {es:Jd} {kt:Nat} {tp:Pos}
end
end L2
namespace L2
open PySem
def pg_tupK {X:Cx} {K:Fg} {es:Jd} {k:Nat} {t:TGs} {n:Nat} {pos:Pos} (e:X.K=K) (hc:X.calm=true) (h:PGs X es t) (hn:(assignEach es X.env).length=n:=by rfl) (hst:(assignEach es X.env).findIdx? (·.1)=none:=by rfl):PG X (.Tuple es k pos) (gTup K n t):=e ▸ pg_tup hc h hn hst
def compF_zip {K:Fg} {l1 l2 D:Ad} {xs ys:Jj} {g:TG} {tt:TT} {te:TE} {σY:St} {H1:Hp} {Q:VK} (Pv:Nat->St->Hp->Prop) (h0:Pv 0 σY H1) (hl:∀ i σ H,i<=xs.length->Pv i σ H->SqL K H l1 xs/\SqL K H l2 ys) (he:ys.length=xs.length)
  (hs:∀ i x y σ H T,xs[i]?=some x->ys[i]?=some y->Pv i σ H->H T=none->g (.ref T) σ (upd H T (.tup [x,y])) λσ3 H3=>tt σ3 H3 λb H4=>if b=true then te σ3 H4 λv H5=>∃ zs,H5 D=some (.lst zs)/\zs.length<sizeLine/\Pv (i+1) σ3 (upd H5 D (.lst (zs++[v]))) else Pv (i+1) σ3 H4) (hd:∀ σ H,Pv xs.length σ H->Q (.ref D) H) :
  CompWF (Itz K l1 l2) g tt te σY H1 D Q:=by
 refine ⟨λi m σ H=>m=xs.length-i/\i<=xs.length/\Pv i σ H,⟨xs.length,by simp,Nat.zero_le _,h0⟩,?_⟩;rintro i m σ H ⟨rfl,hi,p⟩;obtain ⟨q1,q2⟩:=hl i σ H hi p;by_cases hlt:i<xs.length
 ·refine .inr ⟨⟨xs,ys,xs[i],ys[i],q1,q2,by simp [hlt],by simp [he,hlt]⟩,Pv (i+1),λσ' H' p'=>⟨xs.length-(i+1),by omega,rfl,hlt,p'⟩,λx H' y=>?_⟩
  obtain ⟨T,u,v,e,nT,e',y⟩:=y;subst e e';obtain ⟨y1,y2⟩:=y xs ys q1 q2;exact hs i u v σ H T y1 y2 p nT
 ·have e:i=xs.length:=by omega
  subst e;exact .inl ⟨⟨xs,ys,q1,q2,.inl (Nat.le_refl _)⟩,hd σ H p⟩
end L2
namespace L2
open PySem PySem.Spec PyProof.Rows
section
variable {X:Cx} {l8:J7} {σ σ':St} {H H':Hp} {s s':Sh} {a:Ad} {md:Jh}
def Inv.hideD (I:Inv X l8 σ H s) (e:H a=some (.dK md)):∃ (ob:Obj) (es:Array DictEntry) (ep:Nat) (vs:List (Key×Vl)),KV md vs/\(ob.ExactDict/\ob.data=.dict es ep/\PySem.KeysOf (zM X.prog X.w) es/\PySem.Pairs (zM X.prog X.w) es.toList vs/\(vs.map (λx=>x.fst)).Nodup)/\s.heap.get? a=some ob/\(a == sysModules)=false/\md.length<=sizeLine/\Inv X ((a,ob)::l8) σ (but H [a]) s:=by
 obtain ⟨hz,hS,vs,r,ob,es,ep,ea,c1,c2,c3⟩:=I.hok a _ e
 have ne:∀ {b:Ad} {o:HO},H b=some o->o≠.dK md->b ∉ [a]:=λ{b o} z y m=>by
  cases List.mem_singleton.mp m;rw [e] at z;injection z with z;exact y z.symm
 have nn:∀ {b:Ad},H b=none->but H [a] b=none:=λ{b} z=>by
  unfold but;split
  ·rfl
  ·exact z
 refine ⟨ob,es,ep,vs,r,⟨c1,c2,c3⟩,ea,hS,hz,I.ok,I.os,I.bare,⟨I.base.keep,I.base.slot,λb o q m x=>nn (I.base.free b o q m x),I.base.there,λb ys q=>Ye (I.base.tups b ys q) (ne (I.base.tups b ys q) (λz=>by cases z)),λb o u q=>Ye (I.base.frzs b o u q) (ne (I.base.frzs b o u q) (λz=>by cases z)),λb ps q=>let ⟨more,z⟩:=I.base.tbls b ps q;⟨more,Ye z (ne z (λz=>by cases z))⟩⟩,I.loc,I.cell,nn I.free,λx c q=>nn (I.freeC x c q),λp m=>?_,λb u q=>?_,I.len⟩
 ·rcases List.mem_append.mp m with m | m
  ·have q:=I.pin p (List.mem_append_left _ m)
   exact ⟨q.1,nn q.2.1,q.2.2⟩
  ·rcases List.mem_cons.mp m with rfl | m
   ·refine ⟨ea,za8 (List.mem_singleton_self a),λz=>?_,λz=>?_,λv z=>by rw [c2] at z;cases z⟩
    ·have:=I.free
     rw [← z] at this;have e':H a=some (.dK md):=e;rw [e'] at this;cases this
    ·obtain ⟨_,o,q,_⟩:=I.ok.funs.mem z
     have:=I.base.free a o q (I.ok.frf a z) (λy=>I.ok.exfs a y z);rw [e] at this;cases this
   ·have q:=I.pin p (q7y _ m)
    exact ⟨q.1,nn q.2.1,q.2.2⟩
 ·obtain ⟨nb,q⟩:=but_inv q
  exact (I.hok b u q).stay (λ_ _ _ z=>z) (λc z=>Ye z (ne z (λy=>by cases y))) (λc ys z=>Ye z (ne z (λy=>by cases y)))
def Inv.backD {ob:Obj} {es:Array DictEntry} {ep:Nat} {vs:List (Key×Vl)} (I:Inv X l8 σ H s) (e:H a=some (.dK md)) (r:KV md vs) (c:ob.ExactDict/\ob.data=.dict es ep/\PySem.KeysOf (zM X.prog X.w) es/\PySem.Pairs (zM X.prog X.w) es.toList vs/\(vs.map (λx=>x.fst)).Nodup) (hS:(a == sysModules)=false) (hz:md.length<=sizeLine) (J:Inv X ((a,ob)::l8) σ' H' s'):H' a=none/\Inv X l8 σ' (upd H' a (.dK md)) s':=by
 have ea:=J.pin (a,ob) (q7y _ q6z);have na:∀ {b:Ad},H b=none->b≠a:=λ{b} z y=>by subst y;rw [e] at z;cases z
 have st:∀ {b:Ad} {o:HO},H' b=some o->upd H' a (.dK md) b=some o:=λ{b o} z=>by rw [zj (zq z ea.2.1)];exact z
 refine ⟨ea.2.1,J.ok,J.os,J.bare,⟨J.base.keep,J.base.slot,λb o q m x=>?_,J.base.there,λb ys q=>st (J.base.tups b ys q),λb o u q=>st (J.base.frzs b o u q),λb ps q=>let ⟨more,z⟩:=J.base.tbls b ps q;⟨more,st z⟩⟩,J.loc,J.cell,?_,λx c q=>?_,λp m=>?_,λb u q=>?_,J.len⟩
 ·rw [zj (na (I.base.free b o q m x))];exact J.base.free b o q m x
 ·rw [zj (na I.free)];exact J.free
 ·rw [zj (na (I.freeC x c q))];exact J.freeC x c q
 ·have q:=J.pin p (by
   rcases List.mem_append.mp m with m | m
   ·exact List.mem_append_left _ m
   ·exact q7y _ (q6y _ m))
  exact ⟨q.1,by rw [zj (na (I.pin p m).2.1)];exact q.2.1,q.2.2⟩
 ·by_cases hb:b=a
  ·subst hb
   rw [zi] at q;cases q;exact ⟨hz,hS,vs,r,ob,es,ep,ea.1,c⟩
  ·rw [zj hb] at q
   exact (J.hok b u q).stay (λ_ _ _ z=>z) (λc z=>st z) (λc ys z=>st z)
end
def kV_rel {P:Program} {w:World} {k:Key} {u:Vl} (h:(zM P w).is k u=true):RelV (kV k) u:=by
 rcases yg h with ⟨i,t,rfl,rfl⟩ | ⟨x,t,rfl,rfl⟩
 ·exact ⟨t,rfl⟩
 ·exact ⟨t,rfl⟩
def Itk (md:Jh):It:=⟨λi _=>i<md.length,λi H x H'=>H'=H/\∃ p,md[i]?=some p/\x=kV p.1,λi _=>md.length<=i⟩
inductive tCompD_S (g:TG) (tt:TT) (te:TE) (σ0:St->Hp->St->Prop) (σ:St) (Q:VK) (x:V) (H1:Hp):Prop
 | mk (d md:_) (_:x=.ref d) (_:H1 d=some (.dK md)) (σY:_) (_:σ0 σ (but H1 [d]) σY) (_:∀ D,but H1 [d] D=none->D≠d->CompWF (Itk md) g tt te σY (upd (but H1 [d]) D (.lst [])) D λv H'=>H' d=none->Q v (upd H' d (.dK md)))
def tCompD (td:TE) (g:TG) (tt:TT) (te:TE) (σ0:St->Hp->St->Prop):TE:=λσ H Q=>td σ H λx H1=>tCompD_S g tt te σ0 σ Q x H1
section
variable {X:Cx} {tg:Expr}
def zfj {iter elt:Expr} {ifs:Jd} {scope:Scope} {pos pos':Pos} {cl:List (Str×Ad)} {NY:Jb} {td:TE} {g:TG} {tt:TT} {te:TE} {σ0:St->Hp->St->Prop} (hc:X.calm=true) (S:Sees X scope cl) (hi:PE X iter td)
  (hY:∀ (s3:Sh) (H3:Hp) (fp:Jc),PG (X.comp scope cl NY s3 H3 fp) tg g/\Ifs (X.comp scope cl NY s3 H3 fp) ifs tt/\PE (X.comp scope cl NY s3 H3 fp) elt te)
  (h0:∀ (l8:J7) (σ:St) (H:Hp) (s3:Sh) (σY:St),Inv X l8 σ H s3->σ0 σ H σY->σY.length=NY.length/\∀ (i:Nat) (x:Str) (v:V),NY[i]?=some x->σY[i]?=some (some v) ->
   ∃ c u,(((compEnvC scope cl 0 X.env).kindOf x=some .cell∨(compEnvC scope cl 0 X.env).kindOf x=some .free))/\cl.lookup x=some c/\RelV v u/\s3.heap.IsCell c (some u))
  (hs:∀ x,foldedSetIterable iter X.env x=pure x) {use:Option (Vl->Sem Unit)} {R:J5} {l8:J7} {s:Sh} {σ:St} {H:Hp} {Q:VK} (I:Inv X l8 σ H s) (h:tCompD td g tt te σ0 σ H Q)
  (fin:∀ (C D:Ad) (H5:Hp) (s6:Sh),CompEnd X l8 σ H5 s6 C->Q (.ref D) H5->compPost (model X.prog X.w) X.A X.xe use R (.ref D) C (.ok .next) s6) :
  wpAny (model X.prog X.w) X.A (comprehension (.ListComp elt [⟨tg,iter,ifs,0⟩] scope pos) scope X.env pos' (newList []) (firstAsync [⟨tg,iter,ifs,0⟩]) (firstIter [⟨tg,iter,ifs,0⟩] X.env) use) R X.xe s:=by
 refine wpAny_comprehension_free rfl hs S.clos S.kind S.names (thn (hi l8 s σ H _ I h) λv s1 h1=>?_);obtain ⟨x,H1,I1,r1,d,md,ex,ed,σY,hσ,hW⟩:=h1;subst ex;cases r1;obtain ⟨ob,es,ep,vs,rk,cc,eob,hS,hz,J1⟩:=I1.hideD ed;have lk:md.length=vs.length:=rk.length;have DA:∀ {h:Heap},h.get? d=some ob->Heap.DictAt (zM X.prog X.w) h d vs ep:=λ{h} q=>⟨ob,es,q,cc⟩;refine wpAny_pyIter_dict hS (DA eob) ?_;generalize hH2:but H1 [d]=H2 at *;have nd2:H2 d=none:=by rw [← hH2];exact za8 (List.mem_singleton_self d)
 let it:Ad:=s1.heap.objs.size;generalize hs2:({ s1 with heap:=s1.heap.push { cls:=.type "dict_keyiterator",data:=.fields #[.ref d,.int 0 0,.int (vs.length:Nat) 0,.int (ep:Nat) 0] } }:Sh)=s2;have k12:∀ b o,s1.heap.get? b=some o->s2.heap.get? b=some o:=λb o q=>by rw [← hs2];exact Heap.get?_push_of_some _ q
 have I2:Inv X ((d,ob)::l8) σ H2 s2:=by rw [← hs2];exact J1.kept (t':=s1.toks) λb o e=>Heap.get?_push_of_some _ e
 let fp:Jc:=[it];let tn:Nat->Heap->Prop:=λi h=>h.IsKeyIter it d i vs.length ep;have st2:tn 0 s2.heap:=by rw [← hs2];exact ⟨_,Heap.get?_push_size _ rfl,rfl,rfl⟩
 have f2:∀ b∈fp,Yf X ((d,ob)::l8) H2 b:=λb hb=>by
  have e:b=it:=List.mem_singleton.mp hb;subst e;exact J1.fpOk (Nat.le_refl _) (J1.hok.fresh (Nat.le_refl _))
 have Tobj:∀ i h,tn i h->∀ b∈fp,∃ o,h.get? b=some o/\∀ v,o.data≠.cell v:=λi h st b hb=>by
  have e:b=it:=List.mem_singleton.mp hb;subst e;obtain ⟨o,e,c,d⟩:=st;exact ⟨o,e,λv z=>by rw [d] at z;cases z⟩
 have Tkeep:∀ i h h',tn i h->(∀ b∈fp,∀ o,h.get? b=some o->h'.get? b=some o)->tn i h':=λi h h' st k=>st.at λo e=>k it (List.mem_singleton.mpr rfl) o e;refine wpAny_newObj_type ?_;have I3:Inv X ((d,ob)::l8) σ (upd H2 s2.heap.objs.size (.lst [])) (pz s2):=I2.lnew (t':=s2.toks) (its:=[]) .nil (Nat.zero_le _);have eob2:s2.heap.get? d=some ob:=k12 _ _ eob;have dlt:d≠s2.heap.objs.size:=Nat.ne_of_lt (Heap.lt_size eob2);obtain ⟨W,⟨m0,w0⟩,turn⟩:=hW s2.heap.objs.size (I2.hok.fresh (Nat.le_refl _)) (Ne.symm dlt);have ob2:=Tobj _ _ st2
 have hfp:∀ b∈fp,Yf X ((d,ob)::l8) (upd H2 s2.heap.objs.size (.lst [])) b:=λb hb=>by
  obtain ⟨o,q,_⟩:=ob2 b hb;exact ⟨by rw [zj (Nat.ne_of_lt (Heap.lt_size q))];exact (f2 b hb).1,(f2 b hb).2⟩
 have hob:∀ b∈fp,∃ o,(s2.heap.push Lz).get? b=some o:=λb hb=>by
  obtain ⟨o,q,_⟩:=ob2 b hb;exact ⟨o,Heap.get?_push_of_some _ q⟩
 refine wpAny_newFunctionEnv S.nocell (λy hy=>absurd hy (by simp)) (λh1 hn1 hs1=>?_) S.kind;obtain ⟨hl,hY0⟩:=h0 _ σ H2 s2 σY I2 hσ;have k23:∀ b o,s2.heap.get? b=some o->(s2.heap.push Lz).get? b=some o:=λb o q=>Heap.get?_push_of_some _ q;have k34:∀ b o,(s2.heap.push Lz).get? b=some o->h1.get? b=some o:=λb o q=>(hs1.2 b (Nat.ne_of_lt (Heap.lt_size q))).trans (Heap.get?_push_of_some _ q)
 have I4:=zei (scope:=scope) (cl:=cl) (NY:=NY) (fp:=fp) (h1:=h1) (t:=s2.toks) (σY:=σY) I3 S hfp hob hn1 k34 hl λi x v e1 e2=>by
  obtain ⟨c,u,k,q,r,o,z1,z2⟩:=hY0 i x v e1 e2;exact ⟨c,u,k,q,r,o,k23 _ _ z1,z2⟩
 have st4:tn 0 h1:=Tkeep _ _ _ st2 λb hb o q=>k34 _ _ (k23 _ _ q);have fr4:∀ b∈fp,(upd H2 s2.heap.objs.size (.lst [])) b=none:=λb hb=>(hfp b hb).1;obtain ⟨hg,ht,he⟩:=hY (pz s2) (upd H2 s2.heap.objs.size (.lst [])) fp;have okY:=I4.ok
 have statY:∀ {H':Hp},(∀ b∈fp,H' b=none)->∀ b∈fp,Yf (Xz X scope cl NY s2 H2 fp) [] H' b :=
  λhn b hb=>⟨hn b hb,(okY.exf b hb).1,okY.exfs b hb,.inl hb,(okY.exf b hb).2,λp hp=>absurd hp (by simp)⟩
 have pinD:=I3.pin (d,ob) (q7y _ q6z)
 have dfs:d ∉ (Xz X scope cl NY s2 H2 fp).fs:=λz=>by
  rcases List.mem_cons.mp (I3.stkSub d z) with y | y
  ·exact pinD.2.2.1 y
  ·exact pinD.2.2.2.1 y
 have dex:d ∉ fp:=λz=>by
  have e:d=it:=List.mem_singleton.mp z;exact absurd (Heap.lt_size eob) (by rw [e];exact Nat.lt_irrefl _)
 have stay:∀ {pp:J7} {σ':St} {H':Hp} {s':Sh},Inv (Xz X scope cl NY s2 H2 fp) pp σ' H' s'->s'.heap.get? d=some ob:=λI' =>
  I'.base.keep d ob (k23 _ _ eob2) (show upd H2 s2.heap.objs.size (.lst []) d=none by rw [zj dlt];exact nd2) dfs dex
 have loop:codeAny (model X.prog X.w) X.A (.compLoop (.ListComp elt [⟨tg,iter,ifs,0⟩] scope pos) 0 (.ref it) (.ref s2.heap.objs.size) (compEnvC scope cl (s2.heap.push Lz).objs.size X.env))
   (compPost (model X.prog X.w) X.A X.xe use R (.ref s2.heap.objs.size) (s2.heap.push Lz).objs.size) { s2 with heap:=h1,toks:=s2.toks }:=by
  refine za4 ht.len (λn s'=>∃ i σ' H',Inv (Xz X scope cl NY s2 H2 fp) [] σ' H' s'/\tn i s'.heap/\(∀ b∈fp,H' b=none)/\W i n σ' H') ?_ m0 ⟨0,σY,_,I4,st4,fr4,w0⟩;rintro n s5 ⟨i,σ5,H5,I5,st5,fr5,w5⟩;obtain ⟨g0,g1,g2,g3,g4,g5⟩:=statY fr5 it (List.mem_singleton.mpr rfl);rcases turn i n σ5 H5 w5 with ⟨stop,q⟩ | ⟨go,N,hN,step⟩
  ·have stop:md.length<=i:=stop
   refine wpAny_pyNext_dict_end (I5.ok.hd hc) st5 (DA (stay I5)) (List.getElem?_eq_none (by omega)) λh' eb=>?_;have I6:Inv (Xz X scope cl NY s2 H2 fp) [] σ5 H5 { s5 with heap:=h' }:=I5.turned (t':=s5.toks) (λb o hb e=>eb b o hb e) g0 g1 g3 g4 g5;obtain ⟨m,hm,_⟩:=I6.loc;have back:=λ(h2:Heap) (hs':Heap.SameBut (s2.heap.push Lz).objs.size h' h2)=>I1.backD ed rk cc hS hz (zbz I3 hfp I6 hs');have nd5:=(back h' ⟨rfl,λ_ _=>rfl⟩).1;have dC:(s2.heap.push Lz).objs.size≠d:=Ne.symm (Nat.ne_of_lt (Heap.lt_size (k23 _ _ eob2)));refine fin _ _ (upd H5 d (.dK md)) _ ⟨⟨m,hm⟩,by rw [zj dC];exact I6.free,Ne.symm (Nat.ne_of_lt I3.lt),I3.sz,λx c z=>?_,λp hp=>?_,λh2 hs'=>(back h2 hs').2⟩ (q nd5)
   ·obtain ⟨_,o,z1,_⟩:=I3.cell x c z
    exact Nat.ne_of_lt (Heap.lt_size z1)
   ·exact Nat.ne_of_lt (Heap.lt_size (I3.pin p (by
     rcases List.mem_append.mp hp with hp | hp
     ·exact List.mem_append_left _ hp
     ·exact q7y _ (q6y _ hp))).1)
  ·have go:i<md.length:=go
   obtain ⟨pv,hpv⟩:∃ p,vs[i]?=some p:=⟨vs[i]'(by omega),List.getElem?_eq_getElem _⟩;obtain ⟨pk',hpk⟩:∃ p,md[i]?=some p:=⟨md[i],List.getElem?_eq_getElem go⟩
   have ek:pk'.1=pv.1:=by
    have:=rk.keys;have e1:(md.map (·.1))[i]?=some pk'.1:=by rw [List.getElem?_map,hpk];rfl
    rw [this,List.getElem?_map,hpv] at e1;exact (Option.some.inj e1).symm
   refine wpAny_pyNext_dict_item st5 (DA (stay I5)) (k:=pv.1) (v:=pv.2) hpv λkey h' hkey st' sb=>?_;have I6:Inv (Xz X scope cl NY s2 H2 fp) [] σ5 H5 { s5 with heap:=h' }:=I5.turned (t':=s5.toks) (λb o hb e=>(sb.2 b hb).trans e) g0 g1 g3 g4 g5;obtain ⟨oi,ei,ci,di⟩:=id st'
   have rkey:RelV (kV pk'.1) key:=by
    rw [ek];exact kV_rel hkey
   show wpAny (model X.prog X.w) X.A (letOwnedTupleGo tg (.ref it) key) _ _ { s5 with heap:=h' };refine go_of (s:={ s5 with heap:=h' }) ei ci di (by decide) ?_;have I7':=I6.pinned (statY fr5) (Tobj _ _ st');refine thn (hg _ _ σ5 H5 (kV pk'.1) key _ I7' rkey (step (kV pk'.1) H5 ⟨rfl,pk',hpk,rfl⟩)) λ_ s8 ⟨σ8,H8,I8,q8⟩=>?_
   have pk:∀ {H':Hp} {s':Sh} {σ':St},Inv (Xz X scope cl NY s2 H2 fp) ([]++Xr fp h') σ' H' s'->tn (i+1) s'.heap/\∀ b∈fp,H' b=none:=λI'=>by
    refine ⟨Tkeep _ _ _ st' λb hb o q=>(I'.pin (b,o) (q7y _ (q7y _ (xG hb q)))).1,λb hb=>?_⟩;obtain ⟨o,q,d⟩:=Tobj _ _ st' b hb;exact (I'.pin (b,o) (q7y _ (q7y _ (xG hb q)))).2.1
   refine ifs_ok ht I8 q8 λbb H8' s8' I8' q8'=>?_
   cases bb with
   | false =>
    have q8':=(show N σ8 H8' by simpa using q8');obtain ⟨m',hm,w10⟩:=hN _ _ q8';exact ⟨m',hm,i+1,σ8,_,I8'.unpinned,(pk I8').1,(pk I8').2,w10⟩
   | true =>
    have q8':=(show te σ8 H8' _ by simpa using q8');refine thn (he _ s8' σ8 H8' _ I8' q8') λz s9 ⟨v9,H9,I9,r9,xs,hx9,hz9,n9⟩=>?_;refine thn (yr _ s9 σ8 H9 (.ref s2.heap.objs.size) [v9] (.ref s2.heap.objs.size) [z] (λ_ H'=>H'=upd H9 s2.heap.objs.size (.lst (xs++[v9]))) I9 rfl (.cons r9 .nil) ⟨s2.heap.objs.size,xs,v9,rfl,rfl,hx9,hz9,rfl⟩) λy s10 ⟨v10,H10,I10,_,e10⟩=>?_;subst e10;obtain ⟨m',hm,w10⟩:=hN _ _ n9;exact ⟨m',hm,i+1,σ8,_,I10.unpinned,(pk I10).1,(pk I10).2,w10⟩
 exact codeAny_compStart_list loop (wpAny_pyIter_keyiter st4 loop)
def ps_compD {iter elt tst:Expr} {scope:Scope} {pos pos' spos:Pos} {td:TE} {g:TG} {tt:TT} {te:TE} {i:Nat} {y:Str} (NY:Jb) (cap:List (Option Nat)) (hc:X.calm=true) (hk:X4 X scope=true) (hcap:za7 X scope NY cap=true) (hi:PE X iter td)
  (hY:∀ (s3:Sh) (H3:Hp) (fp:Jc),PG (X.comp scope (Ym X.env scope) NY s3 H3 fp) tg g/\PT (X.comp scope (Ym X.env scope) NY s3 H3 fp) tst tt/\PE (X.comp scope (Ym X.env scope) NY s3 H3 fp) elt te) (hN:X.N.Nodup) (hi':X.N[i]?=some y) (hx:Loc X.env.scope y)
  (hf:X.fn y=true∨X.env.scope.names.lookup y=some .local:=by first | exact .inl rfl | exact .inr rfl) (hw:swapsWith (.ListComp elt [⟨tg,iter,[tst],0⟩] scope pos) (some (.Name y pos')) spos.line X.env=pure true:=by rfl)
  (hs:∀ x,foldedSetIterable iter X.env x=pure x:=by intro _;rfl):PS X (.Assign [.Name y pos'] (.ListComp elt [⟨tg,iter,[tst],0⟩] scope pos) spos) (tAsg (tCompD td g tt te λσ _ σY=>σY=capt cap σ) (gName i)):=by
 intro l8 s σ H D I h;rw [exec_Assign_Name_used _ _ _ _ hw,arm_evalThenUse_ListComp]
 refine q0x (wpAny_standAt (q0x (q0x (wpAny_mono (zfj (NY:=NY) (use:=some (assign (.Name y pos') X.env)) (R:=λ_ s'=>SP X l8 D .next s') hc (YZ I.ok hk) hi (λs3 H3 fp=>⟨(hY s3 H3 fp).1,.inr ⟨_,rfl,(hY s3 H3 fp).2.1⟩,(hY s3 H3 fp).2.2⟩) (λl8 σ H s3 σY I3 e=>by
  subst e;exact Xk I3 (YZ I3.ok hk) hcap) hs I h λC L H5 s6 e q=>?_) (λ_ s' z=>q0y (q0y z)) λ_ _ z=>z))))
 obtain ⟨m,hm⟩:=e.ns;have I6:Inv X l8 σ H5 s6:=e.inv s6.heap ⟨rfl,λ_ _=>rfl⟩;refine wpAny_assign_Name (zbn I6 hN hi' hx (v:=.ref L) rfl (λs' I' ⟨a,sb,ha⟩=>?_) hf)
 have ne:C≠a:=by
  rintro rfl;rcases ha with z | z
  ·exact e.hL z
  ·exact e.h2 _ _ z rfl
 refine ⟨m,?_,λh' hs'=>?_⟩
 ·obtain ⟨o,es,ep,z,r⟩:=hm
  exact ⟨o,es,ep,(sb.2 _ ne).trans z,r⟩
 ·exact ⟨_,H5,I'.turned (t':=s'.toks) (it:=C) (λb o nb z=>(hs'.2 b nb).trans z) e.hn e.hL (.inr e.h1) e.h2 e.h3,q⟩
def zfk {md:Jh} {D:Ad} {g:TG} {tt:TT} {te:TE} {σY:St} {H1:Hp} {Q:VK} (Pv:Nat->St->Hp->Prop) (h0:Pv 0 σY H1)
  (hs:∀ i p σ H,md[i]?=some p->Pv i σ H->g (kV p.1) σ H λσ3 H3=>tt σ3 H3 λb H4=>if b=true then te σ3 H4 λv H5=>∃ ys,H5 D=some (.lst ys)/\ys.length<sizeLine/\Pv (i+1) σ3 (upd H5 D (.lst (ys++[v]))) else Pv (i+1) σ3 H4) (hd:∀ σ H,Pv md.length σ H->Q (.ref D) H) :
  CompWF (Itk md) g tt te σY H1 D Q:=by
 refine ⟨λi m σ H=>m=md.length-i/\i<=md.length/\Pv i σ H,⟨md.length,by simp,Nat.zero_le _,h0⟩,?_⟩;rintro i m σ H ⟨rfl,hi,p⟩;by_cases hlt:i<md.length
 ·refine .inr ⟨hlt,Pv (i+1),λσ' H' p'=>⟨md.length-(i+1),by omega,rfl,hlt,p'⟩,λx H' y=>?_⟩
  obtain ⟨e,q,hq,ex⟩:=y;subst e ex;exact hs i q σ _ hq p
 ·have e:i=md.length:=by omega
  subst e;exact .inl ⟨Nat.le_refl _,hd σ H p⟩
end
section
variable {X:Cx}
def call_minM (hc:X.calm=true):Yk X (.builtin "min") (λxs H Q=>∃ (p:Ad) (ns:J6),xs=[.ref p]/\SqL X.K H p (ns.map V.int)/\0<ns.length/\∀ m,m∈ns->(∀ v∈ns,m<=v)->Q (.int m) H):=by
 intro l8 s σ H xs us Q I r h;obtain ⟨p,ns,rfl,hp,h0,q⟩:=h;obtain ⟨u,rfl,ru⟩:=r.one;cases (show u=Value.ref p from ru);obtain ⟨its,rv,pl,_⟩:=I.list hp;obtain ⟨ys,hy⟩:=(zc0 rv).allInts.items;have hl:s.heap.IsList p (intItems ys):=hy ▸ pl.isList;have e1:=zc8 rv;rw [Je] at e1
 have hsz:ys.size=ns.length:=by
  have z:its.toArray.size=(intItems ys).size:=by rw [hy]
  simp [intItems] at z;omega
 have hne:0<ys.size:=by omega
 refine min_intList (I.ok.hd hc) hl hne λv h' tk hv hk=>?_
 have z:its[argBest (λi j=>decide (numAt ys i<numAt ys j)) (ys.size-1)]?=some v:=by
  rw [← hy] at hv;simpa using hv
 obtain ⟨n,t,en,rfl⟩:=ints_at rv _ v z
 have nu:∀ (j:Nat) (n':Int),ns[j]?=some n'->n'=numAt ys j:=λj n' e=>by
  obtain ⟨u,eu,ru⟩:=rv.get (show (ns.map V.int)[j]?=some (.int n') by rw [List.getElem?_map,e];rfl);obtain ⟨t',rfl⟩:=(show ∃ t',u=Value.int n' t' from ru);obtain ⟨t2,e2⟩:=intItems_at (xs:=ys) (i:=j) (v:=.int n' t') (by rw [← hy];simpa using eu);injection e2
 refine ⟨.int n,H,I.kept hk,⟨_,rfl⟩,q n (List.mem_of_getElem? en) λv' hv'=>?_⟩;obtain ⟨j,hj,ej⟩:=List.getElem_of_mem hv';have a1:=nu j v' (by rw [List.getElem?_eq_getElem hj,ej]);have a2:=nu _ n en;have a3:=(argBest_lt (numAt ys) (ys.size-1)).2 j (by omega);rw [a1,a2];exact a3
end
end L2
namespace L2
open PySem PySem.Spec PyProof.Rows
open Sem (wp)
@[reducible] def IsTrip (h:Heap) (T:Ad) (a b c:Vl):Prop:=h.get? T=some { cls:=.type "tuple",data:=.seq #[a,b,c] }
structure Apart3 (z TI TO i1 i2 i3 l1 l2 l3:Ad):Prop where
 TIz:TI≠z
 TOz:TO≠z
 TITO:TI≠TO
 i1z:i1≠z
 i2z:i2≠z
 i3z:i3≠z
 TIi1:TI≠i1
 TIi2:TI≠i2
 TIi3:TI≠i3
 TOi1:TO≠i1
 TOi2:TO≠i2
 TOi3:TO≠i3
 i12:i1≠i2
 i13:i1≠i3
 i23:i2≠i3
 l1z:l1≠z
 l2z:l2≠z
 l3z:l3≠z
 l2i1:l2≠i1
 l2TO:l2≠TO
 l3i1:l3≠i1
 l3i2:l3≠i2
 l3TO:l3≠TO
section
variable {prog:Program} {w:World} {A:Around} {E:J5} {s:Sh}
def XZ {T:Ad} {a b c x:Vl} {k:Nat} {Q:Unit->Sh->Prop} (h:IsTrip s.heap T a b c) (q:∀ h',h'.get? T=some { cls:=.type "tuple",data:=.seq (#[a,b,c].setIfInBounds k x) }->Heap.SameBut T s.heap h'->Q () { s with heap:=h' }) :
  wpAny (model prog w) A (updateSeq T λy=>y.setIfInBounds k x) Q E s:=by
 refine wpAny_updateSeq h rfl (q _ ?_ (Heap.SameBut.update ..)) (by show 3<=sizeLine;decide) (by rw [Array.size_setIfInBounds];show 3<=sizeLine+1;decide);rw [Heap.get?_update_self _ h (by simp [Obj.mapSeq,Obj.isFreed])];simp [Obj.mapSeq]
def z3_item {z TI TO j1 j2 j3 t1 t2 t3:Ad} {k:Nat} {us vs ws:Array Vl} {u v y a b c:Vl} {Q:J5} (D:Apart3 z TI TO j1 j2 j3 t1 t2 t3) (hz:IsZip s.heap z TI TO .none) (hI:IsTrip s.heap TI (.ref j1) (.ref j2) (.ref j3)) (hO:IsTrip s.heap TO a b c)
  (i1:s.heap.IsListIter j1 t1 k) (i2:s.heap.IsListIter j2 t2 k) (i3:s.heap.IsListIter j3 t3 k) (e1:s.heap.IsList t1 us) (e2:s.heap.IsList t2 vs) (e3:s.heap.IsList t3 ws) (hu:us[k]?=some u) (hv:vs[k]?=some v) (hy:ws[k]?=some y)
  (q:∀ g,IsZip g z TI TO (rawInt s.heap.objs.size)->IsTrip g TO u v y->g.IsListIter j1 t1 (k+1)->g.IsListIter j2 t2 (k+1)->g.IsListIter j3 t3 (k+1)->IsTrip g s.heap.objs.size u v y->g.objs.size=s.heap.objs.size+1->(∀ c o,c≠z->c≠TO->c≠j1->c≠j2->c≠j3->s.heap.get? c=some o->g.get? c=some o)->Q (.ref s.heap.objs.size) { s with heap:=g }) :
  wpAny (model prog w) A (Builtin.«zip.__next__» ⟨[.ref z],[]⟩) (λfin s'=>∃ v,fin=.done (.ret v)/\Q v s') E s:=by
 refine q0x (m:=field (.ref z) 2) (wpAny_field hz rfl (x:=.bool false) rfl ?_);refine q0x (m:=field (.ref z) 3) (wpAny_field hz rfl (x:=.ref TI) rfl (q0x (wpAny_seqItems hI rfl ?_)));refine q0x (m:=Builtin.SmallTypes.ownedTupleIsFree (.ref z)) ?_;unfold Builtin.SmallTypes.ownedTupleIsFree;refine q0x (wpAny_field hz rfl (x:=.none) rfl (q0y ?_));simp only [if_true];refine q0x (wpAny_rule (q0x (wpAny_field hz rfl (x:=.ref TO) rfl ?_)));refine q0x (wpAny_setField_rec hz (by simp) λg1 z1 c1=>q0x ?_);replace z1:IsZip g1 z TI TO .ellipsis:=z1;simp only [List.zipIdx_cons,List.zipIdx_nil,List.forIn_cons,List.forIn_nil];refine q0x (q0x (wpAny_onRaise ?_));refine q0x (m:=Builtin.SmallTypes.nextOf (.ref j1)) (wpAny_nextOf_list_item (i1.extBut c1.extBut D.i1z) (e1.extBut c1.extBut D.l1z) hu λg2 n1 c2=>q0y ?_);have o2:IsTrip g2 TO a b c:=c2.extBut _ _ D.TOi1 (c1.extBut _ _ D.TOz hO);refine q0x (wpAny_seqItems o2 rfl (q0x (XZ o2 λg3 o3 c3=>?_)));replace o3:IsTrip g3 TO u b c:=o3;refine q0x (wpAny_letGo (q0y (q0x (q0x (wpAny_onRaise ?_)))));have k13:∀ {x:Ad},x≠z->x≠j1->x≠TO->∀ o,s.heap.get? x=some o->g3.get? x=some o:=λd1 d2 d3 o e=>c3.extBut _ _ d3 (c2.extBut _ _ d2 (c1.extBut _ _ d1 e));refine q0x (m:=Builtin.SmallTypes.nextOf (.ref j2)) (wpAny_nextOf_list_item (((i2.extBut c1.extBut D.i2z).extBut c2.extBut D.i12.symm).extBut c3.extBut D.TOi2.symm) (((e2.extBut c1.extBut D.l2z).extBut c2.extBut D.l2i1).extBut c3.extBut D.l2TO) hv λg4 n2 c4=>q0y ?_);have o4:IsTrip g4 TO u b c:=c4.extBut _ _ D.TOi2 o3;refine q0x (wpAny_seqItems o4 rfl (q0x (XZ o4 λg5 o5 c5=>?_)));replace o5:IsTrip g5 TO u v c:=o5;refine q0x (wpAny_letGo (q0y (q0x (q0x (wpAny_onRaise ?_)))));refine q0x (m:=Builtin.SmallTypes.nextOf (.ref j3)) (wpAny_nextOf_list_item (((((i3.extBut c1.extBut D.i3z).extBut c2.extBut D.i13.symm).extBut c3.extBut D.TOi3.symm).extBut c4.extBut D.i23.symm).extBut c5.extBut D.TOi3.symm) (((((e3.extBut c1.extBut D.l3z).extBut c2.extBut D.l3i1).extBut c3.extBut D.l3TO).extBut c4.extBut D.l3i2).extBut c5.extBut D.l3TO) hy λg6 n3 c6=>q0y ?_);have o6:IsTrip g6 TO u v c:=c6.extBut _ _ D.TOi3 o5;refine q0x (wpAny_seqItems o6 rfl (q0x (XZ o6 λg7 o7 c7=>?_)));replace o7:IsTrip g7 TO u v y:=o7;refine q0x (wpAny_letGo (q0y (q0y (q0x (wpAny_seqItems o7 rfl (q0x (wpAny_newTuple ?_)))))));have sz:g7.objs.size=s.heap.objs.size:=by rw [c7.1,c6.1,c5.1,c4.1,c3.1,c2.1,c1.1]
 have z7:IsZip g7 z TI TO .ellipsis:=c7.extBut _ _ D.TOz.symm (c6.extBut _ _ D.i3z.symm (c5.extBut _ _ D.TOz.symm (c4.extBut _ _ D.i2z.symm (c3.extBut _ _ D.TOz.symm (c2.extBut _ _ D.i1z.symm z1)))));have k7:∀ c o,c≠z->c≠TO->c≠j1->c≠j2->c≠j3->s.heap.get? c=some o->g7.get? c=some o:=λc o d1 d2 d3 d4 d5 e=>c7.extBut _ _ d2 (c6.extBut _ _ d5 (c5.extBut _ _ d2 (c4.extBut _ _ d4 (c3.extBut _ _ d2 (c2.extBut _ _ d3 (c1.extBut _ _ d1 e))))));have m1:g7.IsListIter j1 t1 (k+1):=((((n1.extBut c3.extBut D.TOi1.symm).extBut c4.extBut D.i12).extBut c5.extBut D.TOi1.symm).extBut c6.extBut D.i13).extBut c7.extBut D.TOi1.symm;have m2:g7.IsListIter j2 t2 (k+1):=((n2.extBut c5.extBut D.TOi2.symm).extBut c6.extBut D.i23).extBut c7.extBut D.TOi2.symm;have m3:g7.IsListIter j3 t3 (k+1):=n3.extBut c7.extBut D.TOi3.symm;have zl:z<g7.objs.size:=Heap.lt_size z7;refine q0x (m:=Builtin.SmallTypes.ownedTupleHandOut (.ref z) (.ref g7.objs.size)) ?_;unfold Builtin.SmallTypes.ownedTupleHandOut;have z8:IsZip (g7.push { cls:=.type "tuple",data:=.seq #[u,v,y] }) z TI TO .ellipsis:=Heap.get?_push_of_some _ z7;refine q0x (wpAny_setField_rec z8 (by simp) λg9 z9 c9=>?_);replace z9:IsZip g9 z TI TO (rawInt g7.objs.size):=z9;refine wpAny_setField_rec z9 (by simp) λga za ca=>?_;replace za:IsZip ga z TI TO (rawInt g7.objs.size):=za;have up:∀ c o,c≠z->g7.get? c=some o->ga.get? c=some o:=λc o d e=>ca.extBut _ _ d (c9.extBut _ _ d (Heap.get?_push_of_some _ e));have T8:IsTrip ga g7.objs.size u v y:=ca.extBut _ _ (Nat.ne_of_gt zl) (c9.extBut _ _ (Nat.ne_of_gt zl) (Heap.get?_push_size _ rfl));have s8:ga.objs.size=g7.objs.size+1:=by rw [ca.1,c9.1,Heap.size_push]
 rw [sz] at za T8 s8;refine q0y ⟨_,rfl,?_⟩;show Q (.ref g7.objs.size) _;rw [sz];exact q ga za (up _ _ D.TOz o7) (m1.at λo e=>up _ o D.i1z e) (m2.at λo e=>up _ o D.i2z e) (m3.at λo e=>up _ o D.i3z e) T8 s8 λc o d1 d2 d3 d4 d5 e=>up c o d1 (k7 c o d1 d2 d3 d4 d5 e)
def z3_end {z TI TO j1 j2 j3 t1 t2 t3:Ad} {k:Nat} {us:Array Vl} {a b c:Vl} {Q:Fin->Sh->Prop} (hh:A.handled=none) (D:Apart3 z TI TO j1 j2 j3 t1 t2 t3) (hz:IsZip s.heap z TI TO .none) (hI:IsTrip s.heap TI (.ref j1) (.ref j2) (.ref j3)) (hO:IsTrip s.heap TO a b c)
  (i1:s.heap.IsListIter j1 t1 k) (e1:s.heap.IsList t1 us) (he:us[k]?=none)
  (q:∀ g e,(∀ c o,c≠z->c≠TO->c≠j1->c≠j2->c≠j3->s.heap.get? c=some o->g.get? c=some o)->(∃ o,g.get? e=some o/\o.cls=.type "StopIteration")->E (.ref e) { s with heap:=g }) :
  wpAny (model prog w) A (Builtin.«zip.__next__» ⟨[.ref z],[]⟩) Q E s:=by
 refine q0x (m:=field (.ref z) 2) (wpAny_field hz rfl (x:=.bool false) rfl ?_);refine q0x (m:=field (.ref z) 3) (wpAny_field hz rfl (x:=.ref TI) rfl (q0x (wpAny_seqItems hI rfl ?_)));refine q0x (m:=Builtin.SmallTypes.ownedTupleIsFree (.ref z)) ?_;unfold Builtin.SmallTypes.ownedTupleIsFree;refine q0x (wpAny_field hz rfl (x:=.none) rfl (q0y ?_));simp only [if_true];refine q0x (wpAny_rule (q0x (wpAny_field hz rfl (x:=.ref TO) rfl ?_)));refine q0x (wpAny_setField_rec hz (by simp) λg1 z1 c1=>q0x ?_);replace z1:IsZip g1 z TI TO .ellipsis:=z1;simp only [List.zipIdx_cons,List.zipIdx_nil,List.forIn_cons,List.forIn_nil];refine q0x (q0x (wpAny_onRaise ?_));refine q0x (m:=Builtin.SmallTypes.nextOf (.ref j1)) (wpAny_nextOf_list_end hh (i1.extBut c1.extBut D.i1z) (e1.extBut c1.extBut D.l1z) he λg2 e c2 ⟨oe,ho,hc⟩=>?_);have z2:IsZip g2 z TI TO .ellipsis:=c2 _ _ D.i1z.symm z1;have ne:e≠z:=λx=>by subst x;rw [z2] at ho;cases ho;simp at hc
 exact wpAny_setField_rec z2 (by simp) λg3 _ c3=>q g3 e (λc o d1 _ d3 _ _ x=>c3.extBut _ _ d1 (c2 _ _ d3 (c1.extBut _ _ d1 x))) ⟨oe,c3.extBut _ _ ne ho,hc⟩
def next_z3 {z TI TO j1 j2 j3 t1 t2 t3:Ad} {k:Nat} {us vs ws:Array Vl} {u v y a b c:Vl} {Q:Ja->Sh->Prop} (D:Apart3 z TI TO j1 j2 j3 t1 t2 t3) (hz:IsZip s.heap z TI TO .none) (hI:IsTrip s.heap TI (.ref j1) (.ref j2) (.ref j3)) (hO:IsTrip s.heap TO a b c)
  (i1:s.heap.IsListIter j1 t1 k) (i2:s.heap.IsListIter j2 t2 k) (i3:s.heap.IsListIter j3 t3 k) (e1:s.heap.IsList t1 us) (e2:s.heap.IsList t2 vs) (e3:s.heap.IsList t3 ws) (hu:us[k]?=some u) (hv:vs[k]?=some v) (hy:ws[k]?=some y)
  (q:∀ g,IsZip g z TI TO (rawInt s.heap.objs.size)->IsTrip g TO u v y->g.IsListIter j1 t1 (k+1)->g.IsListIter j2 t2 (k+1)->g.IsListIter j3 t3 (k+1)->IsTrip g s.heap.objs.size u v y->g.objs.size=s.heap.objs.size+1->(∀ c o,c≠z->c≠TO->c≠j1->c≠j2->c≠j3->s.heap.get? c=some o->g.get? c=some o)->Q (some (.ref s.heap.objs.size)) { s with heap:=g }) :
  wpAny (model prog w) A (pyNext (.ref z)) Q E s:=by
 have ty:s.TypeIs (.ref z) "zip":=⟨_,hz,rfl⟩;unfold pyNext;exact q0x (wpAny_attempt (wpAny_callSpecial?_slot (name:=Str.ofString "__next__") ty F.slot_zip_next (wpAny_call_entry F.slot_zip_next ty F.entry_zip_next (z3_item D hz hI hO i1 i2 i3 e1 e2 e3 hu hv hy λg a1 a2 a3 a4 a5 a6 a7 a8=>q0y (q g a1 a2 a3 a4 a5 a6 a7 a8)) (F.args_zip_next_1 _))))
def zd2 {z TI TO j1 j2 j3 t1 t2 t3:Ad} {k:Nat} {us:Array Vl} {a b c:Vl} {Q:Ja->Sh->Prop} (hh:A.handled=none) (D:Apart3 z TI TO j1 j2 j3 t1 t2 t3) (hz:IsZip s.heap z TI TO .none) (hI:IsTrip s.heap TI (.ref j1) (.ref j2) (.ref j3)) (hO:IsTrip s.heap TO a b c)
  (i1:s.heap.IsListIter j1 t1 k) (e1:s.heap.IsList t1 us) (he:us[k]?=none)
  (q:∀ g,(∀ c o,c≠z->c≠TO->c≠j1->c≠j2->c≠j3->s.heap.get? c=some o->g.get? c=some o)->Q none { s with heap:=g }):wpAny (model prog w) A (pyNext (.ref z)) Q E s:=by
 have ty:s.TypeIs (.ref z) "zip":=⟨_,hz,rfl⟩;unfold pyNext;refine q0x (wpAny_attempt (wpAny_callSpecial?_slot (name:=Str.ofString "__next__") ty F.slot_zip_next (wpAny_call_entry F.slot_zip_next ty F.entry_zip_next (z3_end hh D hz hI hO i1 e1 he λg e hk ⟨o,ho,hc⟩=>?_) (F.args_zip_next_1 _))));exact q0x (wpAny_isInstance (T:="StopIteration") (b:=true) ⟨o,ho,hc⟩ isSubtype_stop (q0y (q _ hk)))
abbrev z31 (h:Heap) (t1:Ad):Heap:=h.push { cls:=.type "list_iterator",data:=.fields #[.ref t1,.int 0 0] }
abbrev z32 (h:Heap) (t1 t2:Ad):Heap:=(z31 h t1).push { cls:=.type "list_iterator",data:=.fields #[.ref t2,.int 0 0] }
abbrev z33 (h:Heap) (t1 t2 t3:Ad):Heap:=(z32 h t1 t2).push { cls:=.type "list_iterator",data:=.fields #[.ref t3,.int 0 0] }
abbrev z34 (h:Heap) (t1 t2 t3:Ad):Heap:=(z33 h t1 t2 t3).push { cls:=.type "tuple",data:=.seq #[.ref h.objs.size,.ref (z31 h t1).objs.size,.ref (z32 h t1 t2).objs.size] }
abbrev z35 (h:Heap) (t1 t2 t3:Ad):Heap:=(z34 h t1 t2 t3).push { cls:=.type "tuple",data:=.seq #[.none,.none,.none] }
abbrev z36 (h:Heap) (t1 t2 t3:Ad):Heap:=(z35 h t1 t2 t3).push { cls:=.type "zip",data:=.fields #[.none,.bool false,.bool false,.ref (z33 h t1 t2 t3).objs.size,.ref (z34 h t1 t2 t3).objs.size] }
def meets_z3 (t1 t2 t3:Ad) (us vs ws:Array Vl):Meets (Builtin.«zip.__new__» ⟨[.type "zip",.ref t1,.ref t2,.ref t3],[]⟩) (λ_ R s=>s.heap.IsList t1 us/\s.heap.IsList t2 vs/\s.heap.IsList t3 ws/\R (.ok (.ret (.ref (z35 s.heap t1 t2 t3).objs.size))) { s with heap:=z36 s.heap t1 t2 t3 }) :=
 .of_wp λprog w A R s h=>by
  obtain ⟨hp,g,d,tk,os⟩:=s;obtain ⟨x1,x2,x3,h⟩:=h;have hsub:=sub_zip;have y1:Heap.IsList (Shared.heap ⟨hp,g,d,tk,os⟩) t1 us:=x1;have y2:Heap.IsList (Shared.heap ⟨hp.push { cls:=.type "list_iterator",data:=.fields #[.ref t1,.int 0 0] },g,d,tk,os⟩) t2 vs:=Heap.IsList.push x2 _;have y3:Heap.IsList (Shared.heap ⟨(hp.push { cls:=.type "list_iterator",data:=.fields #[.ref t1,.int 0 0] }).push { cls:=.type "list_iterator",data:=.fields #[.ref t2,.int 0 0] },g,d,tk,os⟩) t3 ws:=Heap.IsList.push (Heap.IsList.push x3 _) _
  wp_walk using wpAny_pyIter_list y1,wpAny_pyIter_list y2,wpAny_pyIter_list y3
  exact ⟨_,rfl,h⟩
def call_z3 {t1 t2 t3:Ad} {us vs ws:Array Vl} {Q:J5} (x1:s.heap.IsList t1 us) (x2:s.heap.IsList t2 vs) (x3:s.heap.IsList t3 ws)
  (q:∀ g,IsZip g (s.heap.objs.size+5) (s.heap.objs.size+3) (s.heap.objs.size+4) .none->IsTrip g (s.heap.objs.size+3) (.ref s.heap.objs.size) (.ref (s.heap.objs.size+1)) (.ref (s.heap.objs.size+2))->IsTrip g (s.heap.objs.size+4) .none .none .none->g.IsListIter s.heap.objs.size t1 0->g.IsListIter (s.heap.objs.size+1) t2 0->g.IsListIter (s.heap.objs.size+2) t3 0->(∀ c o,s.heap.get? c=some o->g.get? c=some o)->Q (.ref (s.heap.objs.size+5)) { s with heap:=g }) :
  wpAny (model prog w) A (call (.type "zip") [.ref t1,.ref t2,.ref t3]) Q E s:=by
 refine callType_new F.called_zip (by decide) (by rfl) (by with_unfolding_all rfl) (λobj=>by rfl) F.entry_zip_new (meets_z3 t1 t2 t3 us vs ws) ⟨x1,x2,x3,?_⟩;have z1:(z31 s.heap t1).objs.size=s.heap.objs.size+1:=Heap.size_push ..;have z2:(z32 s.heap t1 t2).objs.size=s.heap.objs.size+2:=by rw [Heap.size_push,z1]
 have z3:(z33 s.heap t1 t2 t3).objs.size=s.heap.objs.size+3:=by rw [Heap.size_push,z2]
 have z4:(z34 s.heap t1 t2 t3).objs.size=s.heap.objs.size+4:=by rw [Heap.size_push,z3]
 have z5:(z35 s.heap t1 t2 t3).objs.size=s.heap.objs.size+5:=by rw [Heap.size_push,z4]
 have up:∀ {h:Heap} {c:Ad} {o o':Obj},h.get? c=some o->(h.push o').get? c=some o:=λe=>Heap.get?_push_of_some _ e;have g6:(z36 s.heap t1 t2 t3).get? (z35 s.heap t1 t2 t3).objs.size=some _:=Heap.get?_push_size _ rfl;have g5:(z36 s.heap t1 t2 t3).get? (z34 s.heap t1 t2 t3).objs.size=some _:=up (Heap.get?_push_size _ rfl);have g4:(z36 s.heap t1 t2 t3).get? (z33 s.heap t1 t2 t3).objs.size=some _:=up (up (Heap.get?_push_size _ rfl));have g3:(z36 s.heap t1 t2 t3).get? (z32 s.heap t1 t2).objs.size=some _:=up (up (up (Heap.get?_push_size _ rfl)));have g2:(z36 s.heap t1 t2 t3).get? (z31 s.heap t1).objs.size=some _:=up (up (up (up (Heap.get?_push_size _ rfl))));have g1:(z36 s.heap t1 t2 t3).get? s.heap.objs.size=some _:=up (up (up (up (up (Heap.get?_push_size _ rfl)))));show _/\_;rw [z3,z4,z5] at g6;rw [z1,z2,z3] at g4;rw [z4] at g5;rw [z2] at g3;rw [z1] at g2;rw [z5];exact ⟨⟨_,g6,rfl⟩,q _ g6 g4 g5 ⟨_,g1,rfl,rfl⟩ ⟨_,g2,rfl,rfl⟩ ⟨_,g3,rfl,rfl⟩ λc o x=>up (up (up (up (up (up x)))))⟩
end
def Itz3 (K:Fg) (l1 l2 l3:Ad):It :=
  ⟨λi H=>∃ xs ys zs x y z,SqL K H l1 xs/\SqL K H l2 ys/\SqL K H l3 zs/\xs[i]?=some x/\ys[i]?=some y/\zs[i]?=some z,
   λi H x H'=>∃ T u v w,x=.ref T/\H T=none/\H'=upd H T (.tup [u,v,w])/\∀ xs ys zs,SqL K H l1 xs->SqL K H l2 ys->SqL K H l3 zs->xs[i]?=some u/\ys[i]?=some v/\zs[i]?=some w,
   λi H=>∃ xs,SqL K H l1 xs/\xs.length<=i⟩
def zfe {P:Program} {w:World} {A:Around} {E:J5} {s:Sh} {es:Jd} {kt:Nat} {pos:Pos} {z TI TO T:Ad} {Q:Unit->Sh->Prop} (hz:IsZip s.heap z TI TO (rawInt T)) (q:∀ h',IsZip h' z TI TO .none->Heap.SameBut z s.heap h'->Q () { s with heap:=h' }) :
  wpAny (model P w) A (letOwnedTupleGo (.Tuple es kt pos) (.ref z) (.ref T)) Q E s:=wpAny_letOwnedTupleGo_zip hz q
def turn_z3 {P:Program} {w:World} {K:Fg} {es:Jd} {kt:Nat} {pos:Pos} {z TI TO i1 i2 i3 l1 l2 l3:Ad} (D:Apart3 z TI TO i1 i2 i3 l1 l2 l3) :
  Turn P w K (.Tuple es kt pos) (Itz3 K l1 l2 l3) [z,TI,TO,i1,i2,i3] z (λi h=>IsZip h z TI TO .none/\IsTrip h TI (.ref i1) (.ref i2) (.ref i3)/\(∃ a b c,IsTrip h TO a b c)/\h.IsListIter i1 l1 i/\h.IsListIter i2 l2 i/\h.IsListIter i3 l3 i) where
 mem:=by simp
 obj:=λi h st b hb=>by
  obtain ⟨hz,hI,⟨a,b',c',hO⟩,⟨o1,e1,c1,d1⟩,⟨o2,e2,c2,d2⟩,⟨o3,e3,c3,d3⟩⟩:=st;simp at hb;rcases hb with rfl | rfl | rfl | rfl | rfl | rfl
  ·exact ⟨_,hz,λv q=>by cases q⟩
  ·exact ⟨_,hI,λv q=>by cases q⟩
  ·exact ⟨_,hO,λv q=>by cases q⟩
  ·exact ⟨_,e1,λv q=>by rw [d1] at q;cases q⟩
  ·exact ⟨_,e2,λv q=>by rw [d2] at q;cases q⟩
  ·exact ⟨_,e3,λv q=>by rw [d3] at q;cases q⟩
 keep:=λi h h' st k=>by
  obtain ⟨hz,hI,⟨a,b',c',hO⟩,h1,h2,h3⟩:=st;exact ⟨k z (by simp) _ hz,k TI (by simp) _ hI,⟨a,b',c',k TO (by simp) _ hO⟩,h1.at λo e=>k i1 (by simp) o e,h2.at λo e=>k i2 (by simp) o e,h3.at λo e=>k i3 (by simp) o e⟩
 item:=by
  intro X hP hw hK hc i l8 s σ H E I hf st hg;subst hP hw hK;obtain ⟨hz,hI,⟨a,b',c',hO⟩,h1,h2,h3⟩:=st;obtain ⟨xs,ys,zs,x,y,z',q1,q2,q3,ex,ey,ez⟩:=hg;obtain ⟨is1,r1,p1,_⟩:=I.list q1;obtain ⟨is2,r2,p2,_⟩:=I.list q2;obtain ⟨is3,r3,p3,_⟩:=I.list q3;obtain ⟨u,hu,ru⟩:=r1.get ex;obtain ⟨v,hv,rv⟩:=r2.get ey;obtain ⟨t,ht,rt⟩:=r3.get ez;refine next_z3 D hz hI hO h1 h2 h3 p1.isList p2.isList p3.isList (u:=u) (v:=v) (y:=t) (by simpa using hu) (by simpa using hv) (by simpa using ht) λh1' a1 a2 a3 a4 a4' a5 a6 hk=>?_;refine ⟨_,rfl,zfe (s:={ s with heap:=h1' }) a1 λh2' z'' sb=>?_⟩;have lt:∀ {c:Ad} {o:Obj},s.heap.get? c=some o->c≠s.heap.objs.size:=λe=>Nat.ne_of_lt (Heap.lt_size e);have Tz:s.heap.objs.size≠z:=(lt hz).symm;have fr:=I.hok.fresh (Nat.le_refl _);refine ⟨.ref s.heap.objs.size,upd H s.heap.objs.size (.tup [x,y,z']),I.turnedT (its:=[z,TI,TO,i1,i2,i3]) (t':=s.toks) (λb o nb e=>?_) hf (Nat.le_refl _) ⟨by show 3<=sizeLine;decide,[u,v,t],.cons ru (.cons rv (.cons rt .nil)),_,sb.extBut _ _ Tz a5,rfl,_,rfl⟩,rfl,⟨s.heap.objs.size,x,y,z',rfl,fr,rfl,λxs' ys' zs' q1' q2' q3'=>?_⟩,?_,λb hb=>?_⟩
  ·have nb':b≠z/\b≠TI/\b≠TO/\b≠i1/\b≠i2/\b≠i3:=by simpa using nb
   exact sb.extBut _ _ nb'.1 (hk b o nb'.1 nb'.2.2.1 nb'.2.2.2.1 nb'.2.2.2.2.1 nb'.2.2.2.2.2 e)
  ·rw [I.list_inj q1' q1,I.list_inj q2' q2,I.list_inj q3' q3];exact ⟨ex,ey,ez⟩
  ·exact ⟨z'',sb.extBut _ _ D.TIz (hk _ _ D.TIz D.TITO D.TIi1 D.TIi2 D.TIi3 hI),⟨_,_,_,sb.extBut _ _ D.TOz a2⟩,a3.extBut sb.extBut D.i1z,a4.extBut sb.extBut D.i2z,a4'.extBut sb.extBut D.i3z⟩
  ·have e:=(hf b hb).1
   have:∃ o,s.heap.get? b=some o:=by
    simp at hb;rcases hb with rfl | rfl | rfl | rfl | rfl | rfl
    ·exact ⟨_,hz⟩
    ·exact ⟨_,hI⟩
    ·exact ⟨_,hO⟩
    ·obtain ⟨o,e,_⟩:=h1;exact ⟨o,e⟩
    ·obtain ⟨o,e,_⟩:=h2;exact ⟨o,e⟩
    ·obtain ⟨o,e,_⟩:=h3;exact ⟨o,e⟩
   obtain ⟨o,eo⟩:=this;rw [zj (lt eo)];exact e
 done:=by
  intro X hP hw hK hc i l8 s σ H E I hf st hg;subst hP hw hK;obtain ⟨hz,hI,⟨a,b',c',hO⟩,h1,h2,h3⟩:=st;obtain ⟨xs,q1,le⟩:=hg;obtain ⟨is1,r1,p1,_⟩:=I.list q1;have g1:=r1.length;refine zd2 (I.ok.hd hc) D hz hI hO h1 p1.isList (by simp;omega) λh1' hk=>⟨rfl,I.turnedL (its:=[z,TI,TO,i1,i2,i3]) (t':=s.toks) (λb o nb e=>?_) hf⟩;have nb':b≠z/\b≠TI/\b≠TO/\b≠i1/\b≠i2/\b≠i3:=by simpa using nb
  exact hk b o nb'.1 nb'.2.2.1 nb'.2.2.2.1 nb'.2.2.2.2.1 nb'.2.2.2.2.2 e
 self:=λ_ _ _ _ _ st h=>wpAny_pyIter_zip st.1 h
section
variable {X:Cx} {es:Jd} {kt:Nat} {tp:Pos}
inductive iZip3_S (K:Fg) (R:(It->Hp->Prop)) (vs:Jj) (H1:Hp):Prop
 | mk (l1 l2 l3:_) (_:vs=[.ref l1,.ref l2,.ref l3]) (_:(∃ xs,SqL K H1 l1 xs)) (_:(∃ ys,SqL K H1 l2 ys)) (_:(∃ zs,SqL K H1 l3 zs)) (_:R (Itz3 K l1 l2 l3) H1)
def iZip3 (K:Fg) (ta:TA):TI:=λσ H R=>ta σ H λvs H1=>iZip3_S K R vs H1
def vals3 {x y z:V} {us:J8} (r:Vals [x,y,z] us):∃ u v t,us=[u,v,t]/\RelV x u/\RelV y v/\RelV z t:=by
 cases r with
 | cons ru r =>
  cases r with
  | cons rv r =>
   cases r with
   | cons rt r=>cases r;exact ⟨_,_,_,rfl,ru,rv,rt⟩
def zfp {n l1 l2 l3:Nat} (h1:l1<n) (h2:l2<n) (h3:l3<n):Apart3 (n+5) (n+3) (n+4) n (n+1) (n+2) l1 l2 l3 :=
 have lt:∀ {a b:Nat},a<b->n+a≠n+b:=λh=>Nat.ne_of_lt (Nat.add_lt_add_left h n);have gt:∀ {a b:Nat},b<a->n+a≠n+b:=λh=>Nat.ne_of_gt (Nat.add_lt_add_left h n);have l:∀ {a:Nat},a<n->∀ k,a≠n+k:=λh k=>Nat.ne_of_lt (q7z h (Nat.le_add_right _ _))
 ⟨lt (by decide),lt (by decide),lt (by decide),lt (a:=0) (by decide),lt (by decide),lt (by decide),gt (b:=0) (by decide),gt (by decide),gt (by decide),gt (b:=0) (by decide),gt (by decide),gt (by decide),lt (a:=0) (by decide),lt (a:=0) (by decide),lt (by decide),l h1 5,l h2 5,l h3 5,l h2 0,l h2 4,l h3 0,l h3 1,l h3 4⟩
def pi_zip3 {a b c:Expr} {ta:TA} {p pos:Pos} (hg:Gl X "zip") (hm:X.mg "zip"=none) (ha:PA X [a,b,c] ta) (hs:starEach [a,b,c] X.env=[(false,eval a X.env),(false,eval b X.env),(false,eval c X.env)]:=by rfl)
  (hs2:starEach [b,c] X.env=[(false,eval b X.env),(false,eval c X.env)]:=by rfl):PI X (.Tuple es kt tp) (.Call (.Name "zip" p) [a,b,c] [] pos) (iZip3 X.K ta):=by
 intro l8 s σ H R I h;refine Call_ (Yb I hg hm boot_zip (PyProof.Rows.callWith_type1 (thn (ha pos l8 s σ H _ I h) λus s1 ⟨vs,H1,I1,r1,q1⟩=>?_) (by rw [hs,hs2]) (by rw [hs2];rfl)));obtain ⟨l1,l2,l3,e,⟨xs,x1⟩,⟨ys,x2⟩,⟨zs,x3⟩,q⟩:=q1;subst e;obtain ⟨u,v,t,rfl,ru,rv,rt⟩:=vals3 r1;cases (show u=Value.ref l1 from ru);cases (show v=Value.ref l2 from rv);cases (show t=Value.ref l3 from rt);obtain ⟨is1,g1,p1,_⟩:=I1.list x1;obtain ⟨is2,g2,p2,_⟩:=I1.list x2;obtain ⟨is3,g3,p3,_⟩:=I1.list x3;have L1:l1<s1.heap.objs.size:=by obtain ⟨_,e,_⟩:=p1.isList;exact Heap.lt_size e
 have L2:l2<s1.heap.objs.size:=by obtain ⟨_,e,_⟩:=p2.isList;exact Heap.lt_size e
 have L3:l3<s1.heap.objs.size:=by obtain ⟨_,e,_⟩:=p3.isList;exact Heap.lt_size e
 refine call_z3 p1.isList p2.isList p3.isList λh' a1 a2 a3 a4 a5 a6 hk=>?_;refine wpAny_pyIter_zip (s:={ s1 with heap:=h' }) a1 ?_;have J:Inv X l8 σ H1 { s1 with heap:=h' }:=I1.kept (t':=s1.toks) λb o e=>hk b o e;have fp:∀ n,Yf X l8 H1 (s1.heap.objs.size+n):=λn=>I1.fpOk (Nat.le_add_right _ _) (I1.hok.fresh (Nat.le_add_right _ _));refine ⟨_,_,_,_,H1,rfl,J,turn_z3 (zfp L1 L2 L3),⟨a1,a2,⟨_,_,_,a3⟩,a4,a5,a6⟩,λb hb=>?_,q⟩;simp at hb;rcases hb with rfl | rfl | rfl | rfl | rfl | rfl
 ·exact fp 5
 ·exact fp 3
 ·exact fp 4
 ·exact fp 0
 ·exact fp 1
 ·exact fp 2
end
def comp_zip3 {K:Fg} {l1 l2 l3 D:Ad} {xs ys zs:Jj} {g:TG} {te:TE} {σY:St} {H1:Hp} {Q:VK} (Pv:Nat->St->Hp->Prop) (h0:Pv 0 σY H1) (hl:∀ i σ H,i<=xs.length->Pv i σ H->SqL K H l1 xs/\SqL K H l2 ys/\SqL K H l3 zs) (he:ys.length=xs.length) (he3:zs.length=xs.length)
  (hs:∀ i x y z σ H T,xs[i]?=some x->ys[i]?=some y->zs[i]?=some z->Pv i σ H->H T=none->g (.ref T) σ (upd H T (.tup [x,y,z])) λσ3 H3=>te σ3 H3 λv H4=>∃ ws,H4 D=some (.lst ws)/\ws.length<sizeLine/\Pv (i+1) σ3 (upd H4 D (.lst (ws++[v])))) (hd:∀ σ H,Pv xs.length σ H->Q (.ref D) H) :
  CompW (Itz3 K l1 l2 l3) g te σY H1 D Q:=by
 refine ⟨λi m σ H=>m=xs.length-i/\i<=xs.length/\Pv i σ H,⟨xs.length,by simp,Nat.zero_le _,h0⟩,?_⟩;rintro i m σ H ⟨rfl,hi,p⟩;obtain ⟨q1,q2,q3⟩:=hl i σ H hi p;by_cases hlt:i<xs.length
 ·refine .inr ⟨⟨xs,ys,zs,xs[i],ys[i],zs[i],q1,q2,q3,by simp [hlt],by simp [he,hlt],by simp [he3,hlt]⟩,Pv (i+1),λσ' H' p'=>⟨xs.length-(i+1),by omega,rfl,hlt,p'⟩,λx H' y=>?_⟩
  obtain ⟨T,u,v,w,e,nT,e',y⟩:=y;subst e e';obtain ⟨y1,y2,y3⟩:=y xs ys zs q1 q2 q3;exact hs i u v w σ H T y1 y2 y3 p nT
 ·have e:i=xs.length:=by omega
  subst e;exact .inl ⟨⟨xs,q1,Nat.le_refl _⟩,hd σ H p⟩
end L2
namespace L2
open PySem
namespace Hd
def over {B J J2:Hp} {L:Ji} (h:Hd B L J) (s:Same J J2):∃ B2,Same B B2/\Hd B2 L J2/\∀ a o,J2 a=some o->a ∉ L.map Prod.fst->B2 a=some o:=by
 classical
 refine ⟨λa=>if a∈L.map Prod.fst then none else J2 a,λa o e=>?_,⟨h.nd,λp q=>?_,λp q=>s _ _ (h.st p q),λa o e=>?_⟩,λa o e n=>?_⟩
 ·have na:a ∉ L.map Prod.fst:=λm=>by
   obtain ⟨p,hp,rfl⟩:=List.mem_map.mp m;rw [h.nw p hp] at e;cases e
  show (if _ then _ else _)=_;rw [if_neg na];exact s _ _ (h.sm _ _ e)
 ·show (if _ then _ else _)=_
  rw [if_pos (List.mem_map_of_mem q)]
 ·have e:(if a∈L.map Prod.fst then none else J2 a)=some o:=e
  split at e
  ·cases e
  ·exact e
 ·show (if _ then _ else _)=_
  rw [if_neg n];exact e
end Hd
def Z1 {H X:Hp} {t:Ad} {o:HO} (h:upd H t o=X) (n:H t=none):Same H X/\X t=some o:=by
 subst h;exact ⟨zt (Same.refl _) n,zi⟩
def hdN {H X:Hp} {l:Ad} {o:HO} (h:upd H l o=X) (n:H l=none):Hd H [(l,o)] X:=by
 subst h;exact Hd.base.new n
def hdG {B H X:Hp} {L:Ji} {t:Ad} {o:HO} (m:Hd B L H) (h:upd H t o=X) (n:H t=none):∃ B',Same B B'/\B' t=some o/\Hd B' L X:=by
 subst h;exact ⟨_,zt (Same.refl _) (m.free n),zi,m.grow n⟩
def hdM {B H H2:Hp} {L:Ji} {C x dx:Ad} {ox:HO} (h:Hd B L H) (nx:H x=none) (ndx:H dx=none) (ne:dx≠x) (k:∀ b u,b≠x->upd (upd H dx (.own x)) x (.ins C dx []) b=some u->H2 b=some u) (ex:H2 x=some ox):∃ B',Same B B'/\B' x=some ox/\Hd B' L H2:=by
 have h2:=h.made0 nx ndx ne k ex;exact ⟨_,h2.settled.trans h2.settle.settled,by rw [zj (Ne.symm ne)];exact zi,h2.settle.settle⟩
end L2
namespace L2
open PySem PySem.Spec PyProof.Rows
section
variable {P:Program} {w:World} {K:Fg} {mg:J0} {base:Heap}
def FunD.ok {x me:Str} {st:Stmt} {f:Ad} {fd:FuncData} {ds:Array Vl} {N ps:Jb} {k:Nat} {sp:Sp} (F:FunD K x me st f fd ds) (S:FnScope N ps (ze st)) (len:∀ vs H Q E,sp vs H Q E->vs.length=ps.length)
  (hbody:∀ (mh:Vl) (A:Around) (outer:List Env) (s:Sh) (H:Hp) (vs:Jj) (Q:VK) (E:XK),Room k (A.deeper (envOfC me (ze st) s.heap.objs.size f mh))->sp vs H Q E ->
   ∃ t,PSs (yd CX0 P w K mg base N me (ze st) f mh A outer s H E).nox (zR st) t/\t { nx:=λ_ H'=>Q .non H',rt:=Q } (start N vs) H):FnOk P w K mg base CX0 (k+1) f fd ps sp:=by
 obtain ⟨oc,od,kV,doc,pm,an,mh,ct,osl,T,o,n,rfl,lk,hcd,_,_⟩:=F.ex;refine fn_of lk hcd S len λA outer s H vs Q E hr hsp=>?_;obtain ⟨t,h,q⟩:=hbody mh A outer s H vs Q E hr hsp;exact ⟨t,h.nox,q⟩
def DefD (K:Fg) (mg:J0) (x:Str) (st:Stmt) (ps:Jb):Prop:=∃ (f:Ad) (fd:FuncData) (t:Tok),mg x=some (.ref f)/\FunD K x x st f fd #[.int 0 t]/\Binds K fd ps []/\Binds K fd ps [.int 0 t]
def OkD (P:Program) (w:World) (K:Fg) (mg:J0) (base:Heap) (CX:CXT) (k:Nat) (x:Str) (ps:Jb) (sp:Sp):Prop :=
 ∃ (f:Ad) (fd:FuncData) (t:Tok),mg x=some (.ref f)/\PySem.W.keepIn K (.ref f)=true/\Binds K fd ps []/\Binds K fd ps [.int 0 t]/\FnOk P w K mg base CX k f fd ps sp
def OkD.all {CX:CXT} {k:Nat} {x:Str} {ps:Jb} {sp:Sp} (h:OkD P w K mg base CX k x ps sp):Ok P w K mg base CX k x ps sp:=by
 obtain ⟨f,fd,t,a,b,c,_,e⟩:=h;exact ⟨f,fd,a,b,c,e⟩
end
def pe_okD {X:Cx} {CX:CXT} {k:Nat} {x:Str} {ps:Jb} {sp:Sp} {E:XK} {p pos:Pos} {e:Expr} {es:Jd} {t:TA} (o:OkD X.prog X.w X.K X.mg X.base CX k x ps sp) (hr:Room k X.A) (hg:Gl X x) (hx:xa CX X E) (ha:PA X (e::es) t)
  (hdb:(x == ("__debug__":Str))=false:=by decide) (he:starEach (e::es) X.env=(false,eval e X.env)::starEach es X.env:=by rfl) (hpl:(backTo pos (starEach es X.env)).any (·.1)=false:=by rfl) :
  PE X (.Call (.Name x p) (e::es) [] pos) (zbm sp [.int 0] E t):=by
 obtain ⟨f,fd,tk,a,b,_,c,d⟩:=o;exact pe_call d hr hg a b c (.cons ⟨tk,rfl⟩ .nil) hx ha hdb he hpl
end L2
namespace K44
open PySem L2 FM
abbrev rq (a:Ad):Jk:=some (.ref a)
abbrev iq (n:Int):Jk:=some (.int n)
def top (i:Nat):Stmt:=PySem.Challenge.pw_rowbreadth_k44_right_nests_made.main.body.getD i (.Pass ⟨0,0,0,0⟩)
abbrev zci:Stmt:=top 10
def sc_kept:FnScope ["number"] ["number"] (ze zci):=scK
abbrev zch:Stmt:=top 11
def sc_plus:FnScope qA qA (ze zch):=scK
abbrev XO:Stmt:=top 12
def sc_minus:FnScope qA qA (ze XO):=scK
abbrev XN:Stmt:=top 13
def sc_times:FnScope qA qA (ze XN):=scK
abbrev xb:Stmt:=top 14
def Xn:FnScope ["right"] ["right"] (ze xb):=scK
abbrev Z5:Stmt:=top 15
def zdi:FnScope qA qA (ze Z5):=scK
abbrev Zu:Stmt:=top 16
def zca:FnScope qA qA (ze Zu):=scK
abbrev Y4:Stmt:=top 17
def sc_lesser:FnScope qA qA (ze Y4):=scK
abbrev Yz:Stmt:=top 18
def ze0:FnScope qA qA (ze Yz):=scK
abbrev Yy:Stmt:=top 19
def zez:FnScope qA qA (ze Yy):=scK
abbrev Z6:Stmt:=top 20
def zdj:FnScope qA qA (ze Z6):=scK
abbrev xq:Stmt:=top 21
def XI:FnScope qA qA (ze xq):=scK
abbrev yV:Stmt:=top 22
def Y2:FnScope qA qA (ze yV):=scK
abbrev xN:Stmt:=top 23
def X8:FnScope qA qA (ze xN):=scK
abbrev zcj:Stmt:=top 29
def sc_done:FnScope Ui Ui (ze zcj):=scK
abbrev Z3:Stmt:=top 33
def zdh:FnScope Uw Uw (ze Z3):=scK
abbrev Z7:Stmt:=top 51
def sc_count_of:FnScope ["steps","count","step"] ["steps"] (ze Z7):=scK
abbrev yz:Stmt:=top 53
def sc_seats_for_two:FnScope qL qL (ze yz):=scK
abbrev yQ:Stmt:=top 54
def Zt:FnScope ["form","functions","parts","part"] qI (ze yQ):=scK
abbrev xV:Stmt:=top 55
def sc_seats_for:FnScope qI qI (ze xV):=scK
abbrev yP:Stmt:=top 56
def sc_seats_for_step:FnScope ["step","functions","seats"] ["step","functions"] (ze yP):=scK
abbrev ZH:Stmt:=top 61
def sc_cell_step:FnScope qB qB (ze ZH):=scK
abbrev ZC:Stmt:=top 62
def sc_leaf_step:FnScope qB qB (ze ZC):=scK
abbrev Zp:Stmt:=top 63
def sc_make_two:FnScope ["maker","first","first_aim","second","second_aim","seat","slot"] qG (ze Zp):=scK
abbrev Yw:Stmt:=top 64
def X7:FnScope qB qB (ze Yw):=scK
abbrev xW:Stmt:=top 65
def sc_make_pair:FnScope ["maker","form","aim","seats"] qB (ze xW):=scK
abbrev xM:Stmt:=top 66
def Yp:FnScope ["maker","form","aim","left","right","left_aim","right_aim","seats"] qB (ze xM):=scK
abbrev ZB:Stmt:=top 67
def Y1:FnScope ["maker","form","aim","first","own","handed","body"] qB (ze ZB):=scK
abbrev xX:Stmt:=top 68
def sc_make_form:FnScope qB qB (ze xX):=scK
abbrev yD:Stmt:=top 70
def YQ:FnScope qE qE (ze yD):=scK
abbrev yE:Stmt:=top 71
def sc_numbers_of_here:FnScope ["bench","step","active","lane"] qE (ze yE):=scK
abbrev yT:Stmt:=top 72
def sc_numbers_loaded:FnScope ["bench","step","active","lane"] qE (ze yT):=scK
abbrev yS:Stmt:=top 73
def Y0:FnScope qE qE (ze yS):=scK
abbrev xc:Stmt:=top 78
def Xo:FnScope qQ qQ (ze xc):=scK
abbrev yU:Stmt:=top 79
def sc_numbers_joined:FnScope ["bench","step","active","lefts","rights","left","right","lane"] qE (ze yU):=scK
abbrev yF:Stmt:=top 82
def sc_numbers_brought:FnScope ["bench","step","active","lane"] qE (ze yF):=scK
abbrev ZD:Stmt:=top 84
def zcb:FnScope ["word"] ["word"] (ze ZD):=scK
abbrev yR:Stmt:=top 85
def sc_play_seat_step:FnScope qE qC (ze yR):=scK
abbrev Zz:Stmt:=top 87
def sc_may_fault:FnScope ["step"] ["step"] (ze Zz):=scK
abbrev ZG:Stmt:=top 90
def sc_group_for:FnScope ["seats"] ["seats"] (ze ZG):=scK
abbrev ZA:Stmt:=top 91
def sc_make_test:FnScope ["maker","step"] ["maker","step"] (ze ZA):=scK
abbrev Zd:Stmt:=top 92
def sc_make_value:FnScope ["maker","step","mask","aim","seats"] Ur (ze Zd):=scK
abbrev Z4:Stmt:=top 93
def sc_round_of:FnScope ["program","step","number","group","maker","mask","effect","made_step"] Ub (ze Z4):=scK
abbrev YS:Stmt:=top 95
def zdg:FnScope ["program","till","number","group","inner","look"] ["program","till","number","group"] (ze YS):=scK
abbrev YA:Stmt:=top 96
def sc_code_of:FnScope ["program","steps","first","group","code","number","step"] Uc (ze YA):=scK
abbrev Xq:Stmt:=top 97
def sc_made:FnScope Uq Uq (ze Xq):=scK
abbrev Zv:Stmt:=top 110
def sc_play_trim:FnScope ["bench","step","faulted","lane"] qC (ze Zv):=scK
abbrev Zw:Stmt:=top 111
def sc_play_stop:FnScope qC qC (ze Zw):=scK
abbrev Ze:Stmt:=top 112
def sc_lay_chosen:FnScope ["bench","step","nought","active","numbers","lane","number"] Up (ze Ze):=scK
abbrev xL:Stmt:=top 113
def X6:FnScope qC qC (ze xL):=scK
abbrev Zx:Stmt:=top 115
def sc_play_save:FnScope ["bench","step","active","lane","number"] qC (ze Zx):=scK
abbrev Zb:Stmt:=top 116
def sc_play_store:FnScope ["bench","step","active","lane","number"] qC (ze Zb):=scK
abbrev Zg:Stmt:=top 125
def zbf:FnScope ["word"] ["word"] (ze Zg):=scK
abbrev xK:Stmt:=top 126
def X5:FnScope qC qC (ze xK):=scK
abbrev Zc:Stmt:=top 128
def zbe:FnScope qC qC (ze Zc):=scK
abbrev Zy:Stmt:=top 129
def sc_play_next:FnScope ["bench","step","base"] qC (ze Zy):=scK
abbrev xp:Stmt:=top 134
def XH:FnScope qC qC (ze xp):=scK
abbrev s_ran:Stmt:=top 135
def sc_ran:FnScope ["code","lengths","cells","lanes","dust","picks","bench"] qN (ze s_ran):=scK
abbrev Yx:Stmt:=top 137
def zey:FnScope ["_law_found"] ["_law_found"] (ze Yx):=scK
abbrev ZF:Stmt:=top 138
def zcc:FnScope Ug Ug (ze ZF):=scK
abbrev ZE:Stmt:=top 139
def sc_l_kept_by:FnScope ["_law_cell","_law_how","_law_edges"] qJ (ze ZE):=scK
abbrev Y7:Stmt:=top 140
def sc_l_some:FnScope ["_law_script","_law_at","_law_count","_law_out","_law_k","_law_cell"] qY (ze Y7):=scK
abbrev Y6:Stmt:=top 141
def sc_l_told:FnScope ["_law_found","_law_cells","_law_refusal","_law_number"] qU (ze Y6):=scK
abbrev Y5:Stmt:=top 142
def sc_l_wrap:FnScope ["_law_number"] ["_law_number"] (ze Y5):=scK
abbrev Xa:Stmt:=top 143
def sc_l_leaf:FnScope qJ qJ (ze Xa):=scK
abbrev Zf:Stmt:=top 144
def sc_l_leaf_due:FnScope qT qT (ze Zf):=scK
abbrev Y8:Stmt:=top 145
def sc_l_sign:FnScope qJ qJ (ze Y8):=scK
abbrev Y9:Stmt:=top 146
def sc_l_nest:FnScope ["_law_picked","_law_form","_law_k","_law_cell"] ["_law_picked"] (ze Y9):=scK
abbrev XQ:Stmt:=top 147
def sc_l_due:FnScope ["_law_picked","_law_place","_law_row","_law_run","_law_k","_law_cell","_law_left","_law_right"] qX (ze XQ):=scK
abbrev zac:Stmt:=top 148
def sc_law:FnScope ["_law_script","_law_count","_law_row","_law_picked","_law_program","_law_group","_law_code","_law_lanes","_law_dust","_law_found","_law_place"] ["_law_script"] (ze zac):=scK
abbrev Zj:Stmt:=zU (top 3) 0
def zbh:FnScope ["self","lanes"] ["self","lanes"] (ze Zj):=scK
abbrev xf:Stmt:=zU (top 3) 1
def Xp:FnScope qF qF (ze xf):=scK
abbrev ZL:Stmt:=zU (top 3) 2
def zcg:FnScope qP qP (ze ZL):=scK
abbrev yG:Stmt:=zU (top 3) 3
def YR:FnScope qF qF (ze yG):=scK
abbrev xO:Stmt:=zU (top 36) 0
def X9:FnScope Uo Uo (ze xO):=scK
abbrev ZK:Stmt:=zU (top 38) 0
def zcf:FnScope ["self","row"] ["self","row"] (ze ZK):=scK
abbrev ZI:Stmt:=zU (top 41) 0
def zcd:FnScope Ua Ua (ze ZI):=scK
abbrev xD:Stmt:=zU (top 46) 0
def zdk:FnScope qW qW (ze xD):=scK
abbrev xP:Stmt:=zU (top 46) 1
def zaa:FnScope Ut Ut (ze xP):=scK
abbrev xr:Stmt:=zU (top 50) 0
def XJ:FnScope qR qR (ze xr):=scK
abbrev Zh:Stmt:=zU (top 59) 0
def zbg:FnScope qS qS (ze Zh):=scK
abbrev xt:Stmt:=zU (top 59) 1
def sc_Maker_put_by:FnScope ["self","seat","mask","slot"] Uk (ze xt):=scK
abbrev Z8:Stmt:=zU (top 60) 0
def zdl:FnScope qH qH (ze Z8):=scK
abbrev ZJ:Stmt:=zU (top 99) 0
def zce:FnScope Uu Uu (ze ZJ):=scK
abbrev Zi:Stmt:=zU (top 99) 1
def sc_Feed_taken:FnScope Uo ["self"] (ze Zi):=scK
abbrev Zk:Stmt:=zU (top 103) 0
def sc_Bench_init:FnScope ["self","lengths","cells","lanes","dust","picks","row","mask"] qO (ze Zk):=scK
abbrev yv:Stmt:=zU (top 103) 1
def sc_Bench_open_round:FnScope Uj Uj (ze yv):=scK
abbrev yq:Stmt:=zU (top 103) 2
def sc_Bench_begin_strip:FnScope Uv Uv (ze yq):=scK
abbrev ym:Stmt:=zU (top 103) 3
def sc_Bench_active_under:FnScope ["self","mask","truths","lane"] Um (ze ym):=scK
abbrev yw:Stmt:=zU (top 103) 4
def sc_Bench_numbers_in:FnScope ["self","seat","active","lane"] qV (ze yw):=scK
abbrev yW:Stmt:=zU (top 103) 5
def sc_Bench_lay_seat:FnScope ["self","seat","active","numbers","told","lane","number"] Ud (ze yW):=scK
abbrev yX:Stmt:=zU (top 103) 6
def sc_Bench_lay_mask:FnScope ["self","mask","chosen","truths","lane"] Uh (ze yX):=scK
abbrev xQ:Stmt:=zU (top 103) 7
def zab:FnScope qM qM (ze xQ):=scK
abbrev yI:Stmt:=zU (top 103) 8
def sc_Bench_read_cell:FnScope ["self","row","place","address"] Ul (ze yI):=scK
abbrev yu:Stmt:=zU (top 103) 9
def sc_Bench_write_cell:FnScope ["self","row","place","number","address"] Ue (ze yu):=scK
abbrev ye:Stmt:=zU (top 103) 10
def ZT:FnScope qK qK (ze ye):=scK
abbrev yH:Stmt:=zU (top 103) 11
def sc_Bench_read_slot:FnScope ["self","slot","lane","address"] qK (ze yH):=scK
abbrev yt:Stmt:=zU (top 103) 12
def sc_Bench_write_slot:FnScope ["self","slot","lane","number","address"] Uf (ze yt):=scK
section
variable {P:Program} {w:World} {K:Fg} {mg:J0} {base:Heap}
def ok_kept {t:Tok} (d:zk K mg "kept" zci ["number"]) (hH:mg "HALF"=some (.int 9223372036854775808 t)):Ok P w K mg base (CXe P w base) 1 "kept" ["number"] (sp1 λn=>.int (kept n)):=by
 refine oDe (len:=len1) d sc_kept λf mh A _ s H vs Q E hr h=>?_;obtain ⟨n,rfl,k⟩:=h;refine ⟨_,zf (zm (zn y9 (zn yk (zn zP (pv 0) (xR hH)) (zn yC zg (xR hH))) (xR hH))),?_⟩;exact ⟨_,rfl,_,_,rfl,rfl,_,_,rfl,rfl,.inl ⟨by decide,by decide⟩,_,_,rfl,rfl,(by show (0:Int)<2*9223372036854775808;decide),_,_,rfl,rfl,k⟩
abbrev GK (P:Program) (w:World) (K:Fg) (mg:J0) (base:Heap):Prop:=Ok P w K mg base (CXe P w base) 1 "kept" ["number"] (sp1 λn=>.int (kept n))
def ok_plus (d:zk K mg "plus" zch qA) (G:GK P w K mg base):Ok P w K mg base (CXe P w base) 2 "plus" qA (sp2 (λ_ _=>True) λa b=>kept (a+b)):=by
 refine oDe (len:=len2) d sc_plus λf mh A _ s H vs Q E hr h=>?_;obtain ⟨x,y,rfl,_,k⟩:=h;refine ⟨_,zf (zm (zv G hr rfl zaj (zb (zn zP (pv 0) (pv 1)) zc))),?_⟩;exact ⟨_,rfl,_,rfl,_,_,rfl,rfl,_,rfl,k⟩
def ok_minus (d:zk K mg "minus" XO qA) (G:GK P w K mg base):Ok P w K mg base (CXe P w base) 2 "minus" qA (sp2 (λ_ _=>True) λa b=>kept (a-b)):=by
 refine oDe (len:=len2) d sc_minus λf mh A _ s H vs Q E hr h=>?_;obtain ⟨x,y,rfl,_,k⟩:=h;refine ⟨_,zf (zm (zv G hr rfl zaj (zb (zn y9 (pv 0) (pv 1)) zc))),?_⟩;exact ⟨_,rfl,_,rfl,_,_,rfl,rfl,_,rfl,k⟩
def ok_times (d:zk K mg "times" XN qA) (G:GK P w K mg base):Ok P w K mg base (CXe P w base) 2 "times" qA (sp2 (λa _=>Kin a) λa b=>kept (a*b)):=by
 refine oDe (len:=len2) d sc_times λf mh A _ s H vs Q E hr h=>?_;obtain ⟨x,y,rfl,c,k⟩:=h;refine ⟨_,zf (zm (zv G hr rfl zaj (zb (zn yC (pv 0) (pv 1)) zc))),?_⟩;exact ⟨_,rfl,_,rfl,_,_,rfl,rfl,.inl ⟨by omega,by omega⟩,_,rfl,k⟩
inductive spNo (CN:Ad) (vs:Jj) (H:Hp) (Q:VK) (E:XK):Prop
 | mk (b:_) (_:vs=[.int b]) (_:(b=0->E (.ref CN) none H)) (_:(b≠0->Q .non H))
def ok_refuse {CN:Ad} {bm:J8} {B newId initId:String} (d:zk K mg "refuse_nought" xb ["right"]) (O:PyProof.Rows.OwnCls "ByNought" CN bm newId mg base) (FB:ExcBaseFacts B newId initId bm) :
  Ok P w K mg base (CXe P w base) 1 "refuse_nought" ["right"] (spNo CN):=by
 refine oDe (len:=(by rintro vs H Q E ⟨b,e,_⟩;rw [e];rfl)) d Xn λf mh A _ s H vs Q E hr h=>?_;obtain ⟨y,rfl,k0,k1⟩:=h;refine ⟨_,zf (zL (zF y8 (pv 0) zg (zJ _)) (zf (ps_raise O FB rfl rfl throwE (zb zV zc))) zy),?_⟩;refine ⟨_,rfl,rfl,_,rfl,?_⟩;by_cases z:y=0
 ·rw [decide_eq_true (by rw [z])]
  exact ZY ⟨by show 1<=sizeLine;decide,k0 z⟩
 ·rw [decide_eq_false (by intro q;cases q;exact z rfl)]
  exact xl (k1 z)
inductive spQ (CN:Ad) (g:Int->Int->Int) (vs:Jj) (H:Hp) (Q:VK) (E:XK):Prop
 | mk (a b:_) (_:vs=[.int a,.int b]) (_:Kin b) (_:(b=0->E (.ref CN) none H)) (_:(b≠0->Q (.int (g a b)) H))
def zdw {CN:Ad} (d:zk K mg "quotient" Z5 qA) (G:GK P w K mg base) (GN:Ok P w K mg base (CXe P w base) 1 "refuse_nought" ["right"] (spNo CN)) :
  Ok P w K mg base (CXe P w base) 2 "quotient" qA (spQ CN λa b=>kept (a.fdiv b)):=by
 refine oDe (len:=(by rintro vs H Q E ⟨a,b,e,_⟩;rw [e];rfl)) d zdi λf mh A _ s H vs Q E hr h=>?_;obtain ⟨x,y,rfl,hb,k0,k1⟩:=h;refine ⟨_,zd (zG (zv GN hr rfl zaj (zb (pv 1) zc))) (zf (zm (zv G hr rfl zaj (zb (zn zal (pv 0) (pv 1)) zc)))),?_⟩;refine ⟨_,rfl,y,rfl,k0,λz=>?_⟩;exact ⟨_,rfl,_,rfl,_,_,rfl,rfl,⟨z,by omega,by omega⟩,_,rfl,k1 z⟩
def zcw {CN:Ad} (d:zk K mg "remainder" Zu qA) (GN:Ok P w K mg base (CXe P w base) 1 "refuse_nought" ["right"] (spNo CN)) :
  Ok P w K mg base (CXe P w base) 2 "remainder" qA (spQ CN λa b=>a.fmod b):=by
 refine oDe (len:=(by rintro vs H Q E ⟨a,b,e,_⟩;rw [e];rfl)) d zca λf mh A _ s H vs Q E hr h=>?_;obtain ⟨x,y,rfl,hb,k0,k1⟩:=h;refine ⟨_,zd (zG (zv GN hr rfl zaj (zb (pv 1) zc))) (zf (zm (zn op_modN (pv 0) (pv 1)))),?_⟩;refine ⟨_,rfl,y,rfl,k0,λz=>?_⟩;exact ⟨_,rfl,_,rfl,_,_,rfl,rfl,z,k1 z⟩
def ok_lesser (d:zk K mg "lesser" Y4 qA) (hm:mg "min"=none):Ok P w K mg base (CXe P w base) 2 "lesser" qA (sp2 (λ_ _=>True) λa b=>if b<a then b else a):=by
 refine oDe (len:=len2) d sc_lesser λf mh A _ s H vs Q E hr h=>?_;obtain ⟨x,y,rfl,_,k⟩:=h;refine ⟨_,zf (zm (zp (zb1 rfl) rfl hm PyProof.Rows.boot_min (zb (pv 0) (zb (pv 1) zc)))),?_⟩;exact ⟨_,rfl,_,rfl,_,_,rfl,k⟩
def ze7 (d:zk K mg "greater" Yz qA) (hm:mg "max"=none):Ok P w K mg base (CXe P w base) 2 "greater" qA (sp2 (λ_ _=>True) λa b=>if b > a then b else a):=by
 refine oDe (len:=len2) d ze0 λf mh A _ s H vs Q E hr h=>?_;obtain ⟨x,y,rfl,_,k⟩:=h;refine ⟨_,zf (zm (zp (YF rfl) rfl hm PyProof.Rows.boot_max (zb (pv 0) (zb (pv 1) zc)))),?_⟩;exact ⟨_,rfl,_,rfl,_,_,rfl,k⟩
def ze6 (d:zk K mg "is_less" Yy qA):Ok P w K mg base (CXe P w base) 2 "is_less" qA (sp2 (λ_ _=>True) λa b=>if a<b then 1 else 0):=by
 refine oDe (len:=len2) d zez λf mh A _ s H vs Q E hr h=>?_;obtain ⟨x,y,rfl,_,k⟩:=h;refine ⟨_,zf (zm (zds (zF op_lt (pv 0) (pv 1) (zJ _)) zg zg)),?_⟩;refine ⟨_,rfl,_,rfl,_,_,rfl,rfl,_,rfl,?_⟩;dsimp only at k ⊢;by_cases z:x<y
 ·rw [if_pos z] at k;rw [decide_eq_true z];exact ZY k
 ·rw [if_neg z] at k;rw [decide_eq_false z];exact xl k
def zdy (d:zk K mg "is_equal" Z6 qA):Ok P w K mg base (CXe P w base) 2 "is_equal" qA (sp2 (λ_ _=>True) λa b=>if a=b then 1 else 0):=by
 refine oDe (len:=len2) d zdj λf mh A _ s H vs Q E hr h=>?_;obtain ⟨x,y,rfl,_,k⟩:=h;refine ⟨_,zf (zm (zds (zF y8 (pv 0) (pv 1) (zJ _)) zg zg)),?_⟩;refine ⟨_,rfl,_,rfl,rfl,_,rfl,?_⟩;dsimp only at k ⊢;by_cases z:x=y
 ·rw [if_pos z] at k;rw [decide_eq_true (by rw [z])];exact ZY k
 ·rw [if_neg z] at k;rw [decide_eq_false (by intro q;cases q;exact z rfl)];exact xl k
def ok_both (d:zk K mg "bits_of_both" xq qA):Ok P w K mg base (CXe P w base) 2 "bits_of_both" qA (sp2 (λ_ _=>True) Builtin.bitAnd):=by
 refine oDe (len:=len2) d XI λf mh A _ s H vs Q E hr h=>?_;obtain ⟨x,y,rfl,_,k⟩:=h;exact ⟨_,zf (zm (zn op_and (pv 0) (pv 1))),_,rfl,_,rfl,_,_,rfl,rfl,k⟩
def ok_either (d:zk K mg "bits_of_either" yV qA):Ok P w K mg base (CXe P w base) 2 "bits_of_either" qA (sp2 (λ_ _=>True) Builtin.bitOr):=by
 refine oDe (len:=len2) d Y2 λf mh A _ s H vs Q E hr h=>?_;obtain ⟨x,y,rfl,_,k⟩:=h;exact ⟨_,zf (zm (zn op_or (pv 0) (pv 1))),_,rfl,_,rfl,_,_,rfl,rfl,k⟩
def ok_one (d:zk K mg "bits_of_one" xN qA):Ok P w K mg base (CXe P w base) 2 "bits_of_one" qA (sp2 (λ_ _=>True) Builtin.bitXor):=by
 refine oDe (len:=len2) d X8 λf mh A _ s H vs Q E hr h=>?_;obtain ⟨x,y,rfl,_,k⟩:=h;exact ⟨_,zf (zm (zn op_xor (pv 0) (pv 1))),_,rfl,_,rfl,_,_,rfl,rfl,k⟩
inductive spDone (CN:Ad) (vs:Jj) (H:Hp) (Q:VK) (E:XK):Prop
 | mk (sg a b:_) (_:vs=[.str sg,.int a,.int b]) (_:sg∈signs) (_:Kin a) (_:Kin b) (_:(∀ r,doneR sg a b=some r->Q (.int r) H)) (_:(doneR sg a b=none->E (.ref CN) none H))
def zK (K:Fg) (mg:J0) (aS:Ad) (sg nm:Str):Prop:=∃ f,PySem.W.nsIn K aS sg=some (some (.ref f))/\mg nm=some (.ref f)
structure Signs (K:Fg) (mg:J0) (aS:Ad):Prop where
 s1:zK K mg aS "+" "plus"
 s2:zK K mg aS "-" "minus"
 s3:zK K mg aS "*" "times"
 s4:zK K mg aS "/" "quotient"
 s5:zK K mg aS "rest" "remainder"
 s6:zK K mg aS "least" "lesser"
 s7:zK K mg aS "most" "greater"
 s8:zK K mg aS "<" "is_less"
 s9:zK K mg aS "=" "is_equal"
 s10:zK K mg aS "&" "bits_of_both"
 s11:zK K mg aS "|" "bits_of_either"
 s12:zK K mg aS "^" "bits_of_one"
abbrev O2 (P:Program) (w:World) (K:Fg) (mg:J0) (base:Heap) (nm:Str) (sp:Sp):Prop:=Ok P w K mg base (CXe P w base) 2 nm qA sp
structure Fns (P:Program) (w:World) (K:Fg) (mg:J0) (base:Heap) (CN:Ad):Prop where
 f1:O2 P w K mg base "plus" (sp2 (λ_ _=>True) λa b=>kept (a+b))
 f2:O2 P w K mg base "minus" (sp2 (λ_ _=>True) λa b=>kept (a-b))
 f3:O2 P w K mg base "times" (sp2 (λa _=>Kin a) λa b=>kept (a*b))
 f4:O2 P w K mg base "quotient" (spQ CN λa b=>kept (a.fdiv b))
 f5:O2 P w K mg base "remainder" (spQ CN λa b=>a.fmod b)
 f6:O2 P w K mg base "lesser" (sp2 (λ_ _=>True) λa b=>if b<a then b else a)
 f7:O2 P w K mg base "greater" (sp2 (λ_ _=>True) λa b=>if b > a then b else a)
 f8:O2 P w K mg base "is_less" (sp2 (λ_ _=>True) λa b=>if a<b then 1 else 0)
 f9:O2 P w K mg base "is_equal" (sp2 (λ_ _=>True) λa b=>if a=b then 1 else 0)
 f10:O2 P w K mg base "bits_of_both" (sp2 (λ_ _=>True) Builtin.bitAnd)
 f11:O2 P w K mg base "bits_of_either" (sp2 (λ_ _=>True) Builtin.bitOr)
 f12:O2 P w K mg base "bits_of_one" (sp2 (λ_ _=>True) Builtin.bitXor)
def ok_done {CN aS:Ad} (d:zk K mg "done" zcj Ui) (hS:mg "SIGNS"=some (.ref aS)) (T:xT w K aS) (S:Signs K mg aS) (f:Fns P w K mg base CN) :
  Ok P w K mg base (CXe P w base) 3 "done" Ui (spDone CN):=by
 refine oDe d sc_done λg mh A _ s H vs Q E hr h=>?_;obtain ⟨sg,x,y,rfl,hs,hx,hy,k1,k2⟩:=h;refine ⟨_,zf (zm (Xd (CX:=CXe P w base) (k:=2) (zB zcz (zZ hS) (pv 0) (λ_ _=>rfl)) hr zaj (zb (pv 1) (zb (pv 2) zc)))),?_⟩
 have use:∀ (nm:Str) (sp:Sp),zK K mg aS sg nm->O2 P w K mg base nm sp->sp [.int x,.int y] H Q E ->
   ∃ (a:Ad) (k:Str) (u:Vl) (v:V),V.ref aS=.ref a/\V.str sg=.str k/\xT w K a/\PySem.W.nsIn K a k=some (some u)/\RelV v u /\
    ∃ (f:Ad) (fd:FuncData) (ps:Jb) (sp:Sp),v=.ref f/\FnOk P w K mg base (CXe P w base) 2 f fd ps sp/\PySem.W.keepIn K (.ref f)=true/\Binds K fd ps []/\sp [.int x,.int y] H Q E:=by
  intro nm sp ⟨f1,e1,m1⟩ ⟨f2,fd2,m2,kp,bb,ok⟩ q;have e:=m1.symm.trans m2;cases e;exact ⟨aS,sg,.ref f1,.ref f1,rfl,rfl,T,e1,rfl,f1,fd2,_,sp,rfl,ok,kp,bb,q⟩
 suffices h:∃ (nm:Str) (sp:Sp),zK K mg aS sg nm/\O2 P w K mg base nm sp/\sp [.int x,.int y] H Q E by
  obtain ⟨nm,sp,a1,a2,a3⟩:=h;obtain ⟨a,k,u,v,e1,e2,t,e3,r,f,fd,ps,sp',e4,ok,kp,bb,q⟩:=use nm sp a1 a2 a3;exact ⟨_,rfl,a,k,u,v,e1,e2,t,e3,r,f,fd,ps,sp',e4,ok,kp,bb,_,rfl,_,rfl,q⟩
 simp only [signs,List.mem_cons,List.not_mem_nil,or_false] at hs;rcases hs with rfl | rfl | rfl | rfl | rfl | rfl | rfl | rfl | rfl | rfl | rfl | rfl
 ·exact ⟨_,_,S.s1,f.f1,x,y,rfl,trivial,k1 _ rfl⟩
 ·exact ⟨_,_,S.s2,f.f2,x,y,rfl,trivial,k1 _ rfl⟩
 ·exact ⟨_,_,S.s3,f.f3,x,y,rfl,hx,k1 _ rfl⟩
 ·exact ⟨_,_,S.s4,f.f4,x,y,rfl,hy,λz=>k2 (by show (if y=0 then none else some _)=none;rw [if_pos z]),λz=>k1 _ (by show (if y=0 then none else some _)=some _;rw [if_neg z])⟩
 ·exact ⟨_,_,S.s5,f.f5,x,y,rfl,hy,λz=>k2 (by show (if y=0 then none else some _)=none;rw [if_pos z]),λz=>k1 _ (by show (if y=0 then none else some _)=some _;rw [if_neg z])⟩
 ·exact ⟨_,_,S.s6,f.f6,x,y,rfl,trivial,k1 _ rfl⟩
 ·exact ⟨_,_,S.s7,f.f7,x,y,rfl,trivial,k1 _ rfl⟩
 ·exact ⟨_,_,S.s8,f.f8,x,y,rfl,trivial,k1 _ rfl⟩
 ·exact ⟨_,_,S.s9,f.f9,x,y,rfl,trivial,k1 _ rfl⟩
 ·exact ⟨_,_,S.s10,f.f10,x,y,rfl,trivial,k1 _ rfl⟩
 ·exact ⟨_,_,S.s11,f.f11,x,y,rfl,trivial,k1 _ rfl⟩
 ·exact ⟨_,_,S.s12,f.f12,x,y,rfl,trivial,k1 _ rfl⟩
inductive spKB (vs:Jj) (H:Hp) (Q:VK) (_:XK):Prop
 | mk (c:_) (_:vs=[.int c]) (_:∀ H',Same H H'->Q (.int (yM c)) H')
def ze5 (d:zk K mg "_law_kept_by" ZE qJ):Ok P w K mg base (CXe P w base) 1 "_law_kept_by" qJ spKB:=by
 refine oDe d sc_l_kept_by λf mh A _ s H vs Q E hr h=>?_;obtain ⟨c,rfl,k⟩:=h;have nd:=sc_l_kept_by.nd;refine ⟨_,zd (oRz 1 nd (zn yk (pv 0) zg))
  (zd (zL (zF y8 (pv 1) zg (zJ _)) (zf (zm (zn y9 (zn yk (zn xx (pv 0) zg) zg) zg))) zy)
  (zd (zL (zF y8 (pv 1) zg (zJ _)) (zd (oRz 2 nd (yh (zb (pe_un zb7 zg) (zb zg (zb (pe_un zb7 zg) (zb zg (zb (pe_un zb7 zg) (zb zg zc))))))))
   (zf (zm (zB z6 (pv 2) (zn yk (zn xx (pv 0) zg) zg) (λ_ _=>rfl))))) zy)
  (zd (zL (zF y8 (pv 1) zg (zJ _)) (zf (zm (zn y9 (zn yk (zn yC (zn xx (pv 0) zg) zg) zg) zg))) zy)
  (zf (zm (zn y9 (zn yk (zn yC (zn xx (pv 0) zg) zg) zg) zg)))))),?_⟩
 refine ⟨_,rfl,_,_,rfl,rfl,(by show (0:Int)<4;decide),?_⟩;refine ⟨_,rfl,rfl,_,rfl,?_⟩;refine yo (λz=>?_) (λz=>?_)
 ·have z:c % 4=0:=by simpa using z
  have e:yM c=c / 4 % 7-3:=by unfold yM;rw [if_pos z]
  rw [e] at k;exact ⟨_,rfl,_,_,rfl,rfl,⟨by decide,by decide⟩,_,_,rfl,rfl,(by show (0:Int)<7;decide),_,_,rfl,rfl,k H (Same.refl H)⟩
 have z0:¬ c % 4=0:=by simpa using z
 refine ⟨_,rfl,rfl,_,rfl,?_⟩;refine yo (λz=>?_) (λz=>?_)
 ·have z1:c % 4=1:=by simpa using z
  have e:yM c=edges.getD (c / 4 % 6).toNat 0:=by unfold yM;rw [if_neg z0,if_pos z1]
  rw [e] at k;refine ⟨_,rfl,_,rfl,_,rfl,(by show 6<=sizeLine;decide),λl hl=>?_⟩;refine ⟨_,rfl,_,rfl,_,_,rfl,rfl,⟨by decide,by decide⟩,_,_,rfl,rfl,(by show (0:Int)<6;decide),l,edges.map V.int,_,V.int (edges.getD (c / 4 % 6).toNat 0),rfl,rfl,SqL.of zi,?_,k _ λb o q=>by rw [zj (zq q hl)];exact q⟩;have hz:(((c / 4 % 6).toNat:Nat):Int)=c / 4 % 6:=by omega
  rw [← hz];exact zH (edge_at _ (by omega)).1
 have z1:¬ c % 4=1:=by simpa using z
 refine ⟨_,rfl,rfl,_,rfl,?_⟩;refine yo (λz=>?_) (λz=>?_)
 ·have z2:c % 4=2:=by simpa using z
  have e:yM c=c / 4*48271 % 2001-1000:=by unfold yM;rw [if_neg z0,if_neg z1,if_pos z2]
  rw [e] at k;exact ⟨_,rfl,_,_,rfl,rfl,⟨by decide,by decide⟩,_,_,rfl,rfl,.inr ⟨by decide,by decide⟩,_,_,rfl,rfl,(by show (0:Int)<2001;decide),_,_,rfl,rfl,k H (Same.refl H)⟩
 have z2:¬ c % 4=2:=by simpa using z
 have e:yM c=c / 4*2862933555777941757 % 18446744073709551616-9223372036854775808:=by unfold yM;rw [if_neg z0,if_neg z1,if_neg z2]
 rw [e] at k;exact ⟨_,rfl,_,_,rfl,rfl,⟨by decide,by decide⟩,_,_,rfl,rfl,.inr ⟨by decide,by decide⟩,_,_,rfl,rfl,(by show (0:Int)<18446744073709551616;decide),_,_,rfl,rfl,k H (Same.refl H)⟩
structure Ints (K:Fg) (mg:J0):Prop where
 isi:mg "isinstance"=none
 int:mg "int"=none
 bool:mg "bool"=none
 ii:PySem.W.kitOne K (.type "int") (.type "int")=some true
 ib:PySem.W.kitOne K (.type "int") (.type "bool")=some false
def ok_whole (d:zk K mg "_law_whole" Yx ["_law_found"]) (N:Ints K mg):Ok P w K mg base (CXe P w base) 1 "_law_whole" ["_law_found"] (sp1 λ_=>.bl true):=by
 refine oDe (len:=len1) d zey λf mh A _ s H vs Q E hr h=>?_;obtain ⟨n,rfl,k⟩:=h;refine ⟨_,zf (zm (zcq (zp zC rfl N.isi PyProof.Rows.boot_isinstance (zb (pv 0) (zb (Xs N.int PyProof.Rows.boot_int) zc)))
  (zcp (pe_not (zp zC rfl N.isi PyProof.Rows.boot_isinstance (zb (pv 0) (zb (Xs N.bool PyProof.Rows.boot_bool) zc))))))),?_⟩
 refine ⟨_,rfl,_,_,.type "int",.type "int",true,rfl,rfl,(λu r=>r),.inl (.int n),N.ii,true,rfl,?_⟩;exact ZY ⟨_,rfl,_,_,.type "bool",.type "int",false,rfl,rfl,(λu r=>r),.inl (.int n),N.ib,false,rfl,k⟩
def yZ {H H':Hp} {x dx:Ad} {o1 o2:HO} (nx:H x=none) (ndx:H dx=none) (k:∀ b o,b≠x->upd (upd H dx o1) x o2 b=some o->H' b=some o):Same H H':=λc o z=>k c o (zq z nx) (by rw [zj (zq z nx),zj (zq z ndx)];exact z)
inductive spI_Number (C:Ad) (vs:Jj) (H:Hp) (Q:VK) (_:XK):Prop
 | mk (x dx:Ad) (u0:V) (_:vs=[.ref x,u0]) (_:H x=some (.ins C dx [])) (_:∀ H',(∀ b o,b≠x->H b=some o->H' b=some o)->H' x=some (.ins C dx [("number",u0)])->Q .non H')
def ze9 {C:Ad} (d:yp K C "Number.__init__" xO Uo) (cl:Cls K C) (n0:NoAttr K C "number"):OkI P w K mg base (CXe P w base) 1 C Uo (spI_Number C):=by
 refine oIe d X9 λf mh A _ s H vs Q E hr h=>?_;obtain ⟨x,dx,u0,rfl,hx,k⟩:=h;refine ⟨_,(zf (zu (pv 0) (pv 1) rfl)),?_⟩;refine ⟨_,rfl,_,rfl,x,C,dx,[],rfl,hx,cl,n0,(by show 0<1000;decide),?_⟩
 exact k _ (λb o nb z=>by
  rw [zj nb];exact z) zi
inductive spI_Cell (C:Ad) (vs:Jj) (H:Hp) (Q:VK) (_:XK):Prop
 | mk (x dx:Ad) (u0:V) (_:vs=[.ref x,u0]) (_:H x=some (.ins C dx [])) (_:∀ H',(∀ b o,b≠x->H b=some o->H' b=some o)->H' x=some (.ins C dx [("row",u0)])->Q .non H')
def okI_Cell {C:Ad} (d:yp K C "Cell.__init__" ZK ["self","row"]) (cl:Cls K C) (n0:NoAttr K C "row"):OkI P w K mg base (CXe P w base) 1 C ["self","row"] (spI_Cell C):=by
 refine oIe d zcf λf mh A _ s H vs Q E hr h=>?_;obtain ⟨x,dx,u0,rfl,hx,k⟩:=h;refine ⟨_,(zf (zu (pv 0) (pv 1) rfl)),?_⟩;refine ⟨_,rfl,_,rfl,x,C,dx,[],rfl,hx,cl,n0,(by show 0<1000;decide),?_⟩
 exact k _ (λb o nb z=>by
  rw [zj nb];exact z) zi
inductive spI_Pair (C:Ad) (vs:Jj) (H:Hp) (Q:VK) (_:XK):Prop
 | mk (x dx:Ad) (u0 u1 u2:V) (_:vs=[.ref x,u0,u1,u2]) (_:H x=some (.ins C dx [])) (_:∀ H',(∀ b o,b≠x->H b=some o->H' b=some o)->H' x=some (.ins C dx [("sign",u0),("left",u1),("right",u2)])->Q .non H')
def okI_Pair {C:Ad} (d:yp K C "Pair.__init__" ZI Ua) (cl:Cls K C) (n0:NoAttr K C "sign") (n1:NoAttr K C "left") (n2:NoAttr K C "right"):OkI P w K mg base (CXe P w base) 1 C Ua (spI_Pair C):=by
 refine oIe d zcd λf mh A _ s H vs Q E hr h=>?_;obtain ⟨x,dx,u0,u1,u2,rfl,hx,k⟩:=h;refine ⟨_,(zd (zu (pv 0) (pv 1) rfl) (zd (zu (pv 0) (pv 2) rfl) (zf (zu (pv 0) (pv 3) rfl)))),?_⟩;refine ⟨_,rfl,_,rfl,x,C,dx,[],rfl,hx,cl,n0,(by show 0<1000;decide),?_⟩;refine ⟨_,rfl,_,rfl,x,C,dx,[("sign",u0)],rfl,zi,cl,n1,(by show 1<1000;decide),?_⟩;refine ⟨_,rfl,_,rfl,x,C,dx,[("sign",u0),("left",u1)],rfl,zi,cl,n2,(by show 2<1000;decide),?_⟩
 exact k _ (λb o nb z=>by
  rw [zj nb,zj nb,zj nb];exact z) zi
inductive spI_Aim (C:Ad) (vs:Jj) (H:Hp) (Q:VK) (_:XK):Prop
 | mk (x dx:Ad) (u0 u1 u2 u3:V) (_:vs=[.ref x,u0,u1,u2,u3]) (_:H x=some (.ins C dx [])) (_:∀ H',(∀ b o,b≠x->H b=some o->H' b=some o)->H' x=some (.ins C dx [("seat",u0),("mask",u1),("level",u2),("own",u3)])->Q .non H')
def okI_Aim {C:Ad} (d:yp K C "Aim.__init__" Z8 qH) (cl:Cls K C) (n0:NoAttr K C "seat") (n1:NoAttr K C "mask") (n2:NoAttr K C "level") (n3:NoAttr K C "own"):OkI P w K mg base (CXe P w base) 1 C qH (spI_Aim C):=by
 refine oIe d zdl λf mh A _ s H vs Q E hr h=>?_;obtain ⟨x,dx,u0,u1,u2,u3,rfl,hx,k⟩:=h;refine ⟨_,(zd (zu (pv 0) (pv 1) rfl) (zd (zu (pv 0) (pv 2) rfl) (zd (zu (pv 0) (pv 3) rfl) (zf (zu (pv 0) (pv 4) rfl))))),?_⟩;refine ⟨_,rfl,_,rfl,x,C,dx,[],rfl,hx,cl,n0,(by show 0<1000;decide),?_⟩;refine ⟨_,rfl,_,rfl,x,C,dx,[("seat",u0)],rfl,zi,cl,n1,(by show 1<1000;decide),?_⟩;refine ⟨_,rfl,_,rfl,x,C,dx,[("seat",u0),("mask",u1)],rfl,zi,cl,n2,(by show 2<1000;decide),?_⟩;refine ⟨_,rfl,_,rfl,x,C,dx,[("seat",u0),("mask",u1),("level",u2)],rfl,zi,cl,n3,(by show 3<1000;decide),?_⟩
 exact k _ (λb o nb z=>by
  rw [zj nb,zj nb,zj nb,zj nb];exact z) zi
inductive spI_Let (C:Ad) (vs:Jj) (H:Hp) (Q:VK) (_:XK):Prop
 | mk (x dx:Ad) (u0 u1 u2:V) (_:vs=[.ref x,u0,u1,u2]) (_:H x=some (.ins C dx [])) (_:∀ H',(∀ b o,b≠x->H b=some o->H' b=some o)->H' x=some (.ins C dx [("target",u0),("value",u1),("test",u2)])->Q .non H')
def okN_Let {C:Ad} (d:InitN K C "Let.__init__" xD qW) (cl:Cls K C) (n0:NoAttr K C "target") (n1:NoAttr K C "value") (n2:NoAttr K C "test"):OkN P w K mg base (CXe P w base) 1 C qW (spI_Let C):=by
 obtain ⟨f,fd,m,F,bd,bn⟩:=d;refine ⟨f,fd,m,bd,bn,F.okE zdk (by rintro vs H Q E ⟨_,_,_,_,_,e,_⟩;rw [e];rfl) λmh A outer s H vs Q E hr h=>?_⟩;obtain ⟨x,dx,u0,u1,u2,rfl,hx,k⟩:=h;refine ⟨_,(zd (zu (pv 0) (pv 1) rfl) (zd (zu (pv 0) (pv 2) rfl) (zf (zu (pv 0) (pv 3) rfl)))),?_⟩;refine ⟨_,rfl,_,rfl,x,C,dx,[],rfl,hx,cl,n0,(by show 0<1000;decide),?_⟩;refine ⟨_,rfl,_,rfl,x,C,dx,[("target",u0)],rfl,zi,cl,n1,(by show 1<1000;decide),?_⟩;refine ⟨_,rfl,_,rfl,x,C,dx,[("target",u0),("value",u1)],rfl,zi,cl,n2,(by show 2<1000;decide),?_⟩
 exact k _ (λb o nb z=>by
  rw [zj nb,zj nb,zj nb];exact z) zi
structure FCls (K:Fg) (C:Ad):Prop where
 c:Cls K C
 n1:NoAttr K C "numbers"
 n2:NoAttr K C "at"
abbrev YM (C dx:Ad) (l:Ad) (p:Int):HO:=.ins C dx [("numbers",.ref l),("at",.int p)]
def fAt (ns:J6) (q:Nat):Int:=if ns.length=0 then 0 else ((q % ns.length:Nat):Int)
def fVal (ns:J6) (q:Nat):Int:=ns.getD (q % ns.length) 0
inductive spInitF (K:Fg) (C:Ad) (vs:Jj) (H:Hp) (Q:VK) (_:XK):Prop
 | mk (x dx a:Ad) (ns:J6) (_:vs=[.ref x,.ref a]) (_:H x=some (.ins C dx [])) (_:SqL K H a (ns.map V.int)) (_:∀ (H':Hp) (l:Ad),(∀ b o,b≠x->H b=some o->H' b=some o)->H l=none->H' x=some (YM C dx l 0)->H' l=some (.lst (ns.map V.int))->Q .non H')
def ok_initF {C:Ad} (d:yp K C "Feed.__init__" ZJ Uu) (b:FCls K C) (hlist:mg "list"=none):OkI P w K mg base CX0 1 C Uu (spInitF K C):=by
 refine oIf d zce λf mh A _ s H vs Q E hr h=>?_;obtain ⟨x,dx,a,ns,rfl,hx,hS,k⟩:=h;refine ⟨_,(zd (zu (pv 0) (xh y6 (by rfl) hlist PyProof.Rows.boot_list (zb (pv 1) zc)) rfl)
   (zf (zu (pv 0) zg rfl))),?_⟩
 dsimp only [yd,Cx.nox,Cx.wish];refine ⟨_,rfl,a,_,rfl,.inl hS,λl nl=>?_⟩;have nx:x≠l:=zq hx nl;refine ⟨_,rfl,x,C,dx,[],rfl,by rw [zj nx];exact hx,b.c,b.n1,by decide,?_⟩;refine ⟨_,rfl,x,C,dx,[("numbers",.ref l)],rfl,zi,b.c,b.n2,(by show 1<1000;decide),?_⟩;refine k _ l (λc o nc z=>?_) nl zi ?_
 ·rw [zj nc,zj nc,zj (zq z nl)]
  exact z
 ·rw [zj (Ne.symm nx),zj (Ne.symm nx),zi]
inductive spTaken (C:Ad) (vs:Jj) (H:Hp) (Q:VK) (_:XK):Prop
 | mk (x dx l:Ad) (ns:J6) (q:Nat) (_:vs=[.ref x]) (_:H x=some (YM C dx l (fAt ns q))) (_:H l=some (.lst (ns.map V.int))) (_:∀ H',(∀ b o,b≠x->H b=some o->H' b=some o)->H' x=some (YM C dx l (fAt ns (q+1)))->Q (.int (fVal ns q)) H')
def ok_taken {C:Ad} (d:zN K C "taken" "Feed.taken" Zi ["self"]) (b:FCls K C) (hlen:mg "len"=none):OkM P w K mg base CX0 1 C "taken" ["self"] (spTaken C):=by
 refine oMf d sc_Feed_taken λf mh A _ s H vs Q E hr h=>?_;obtain ⟨x,dx,l,ns,q,rfl,hx,hl,k⟩:=h;have nd:=sc_Feed_taken.nd;refine ⟨_,(zd (zL (zF y8 (zp zD (by rfl) hlen PySem.boot_len (zb (zh (pv 0) rfl) zc)) zg (zJ _)) (zf (zm zg)) zy)
   (zd (oRz 1 nd (zB z6 (zh (pv 0) rfl) (zh (pv 0) rfl) (λ_ _=>rfl)))
   (zd (zu (pv 0) (zn yk (zn zP (zh (pv 0) rfl) zg) (zp zD (by rfl) hlen PySem.boot_len (zb (zh (pv 0) rfl) zc))) rfl)
   (zf (zm (pv 1)))))),?_⟩
 dsimp only [yd,Cx.nox,Cx.wish];refine ⟨_,rfl,x,C,dx,_,.ref l,rfl,hx,b.c,b.n1,rfl,l,_,rfl,.inl (SqL.of hl),rfl,_,rfl,?_⟩;rw [Je];refine yo (λz=>?_) (λz=>?_)
 ·have z:(ns.length:Int)=0:=by simpa using z
  have e:ns=[]:=List.length_eq_zero_iff.mp (by omega);subst e;exact k H (λb o _ z=>z) hx
 ·have z:ns.length≠0:=by simpa using z
  have lt:q % ns.length<ns.length:=Nat.mod_lt _ (by omega);have e1:fAt ns q=((q % ns.length:Nat):Int):=if_neg z;have e2:fAt ns (q+1)=(((q+1) % ns.length:Nat):Int):=if_neg z;have nx:x≠l:=ne_of hx hl (by intro y;cases y);refine ⟨_,rfl,x,C,dx,_,.ref l,rfl,hx,b.c,b.n1,rfl,_,rfl,x,C,dx,_,.int (fAt ns q),rfl,hx,b.c,b.n2,rfl,l,_,_,_,rfl,rfl,SqL.of hl,xA (q % ns.length) lt e1,?_⟩;refine ⟨_,rfl,x,C,dx,_,.int (fAt ns q),rfl,hx,b.c,b.n2,rfl,_,_,rfl,rfl,_,rfl,x,C,dx,_,.ref l,rfl,hx,b.c,b.n1,rfl,l,_,rfl,.inl (SqL.of hl),_,_,rfl,rfl,(by rw [Je];omega),?_⟩;refine ⟨_,rfl,x,C,dx,_,rfl,hx,b.c,b.n2,(by show 2<1000;decide),?_⟩;refine ⟨_,rfl,k _ (λc o nc z=>by rw [zj nc];exact z) ?_⟩
  have e3:(fAt ns q+1) % ((ns.map V.int).length:Int)=fAt ns (q+1):=by
   rw [e1,e2,Je];have h1:(((q % ns.length:Nat):Int)+1)=((q % ns.length+1:Nat):Int):=by omega
   rw [h1,← Int.natCast_emod,Nat.mod_add_mod]
  rw [zi,← e3];rfl
structure BCls (K:Fg) (C:Ad):Prop where
 c:Cls K C
 n1:NoAttr K C "lanes"
 n2:NoAttr K C "numbers"
abbrev boxO (C dx:Ad) (L:Int) (l:Ad):HO:=.ins C dx [("lanes",.int L),("numbers",.ref l)]
inductive spInitB (C:Ad) (vs:Jj) (H:Hp) (Q:VK) (_:XK):Prop
 | mk (x dx:Ad) (L:Int) (_:vs=[.ref x,.int L]) (_:H x=some (.ins C dx [])) (_:1<=L) (_:L<=64) (_:∀ (H':Hp) (l:Ad),(∀ b o,b≠x->H b=some o->H' b=some o)->H l=none->H' x=some (boxO C dx L l)->H' l=some (.lst ((List.replicate (8*L).toNat (0:Int)).map V.int))->Q .non H')
def ok_initB {C:Ad} {t:Tok} (d:yp K C "Boxes.__init__" Zj ["self","lanes"]) (b:BCls K C) (hMB:mg "MANY_BOXES"=some (.int 8 t)):OkI P w K mg base CX0 1 C ["self","lanes"] (spInitB C):=by
 refine oIf d zbh λf mh A _ s H vs Q E hr h=>?_;obtain ⟨x,dx,L,rfl,hx,h1,h2,k⟩:=h;refine ⟨_,zd (zu (pv 0) (pv 1) rfl) (zf (zu (pv 0) (zn zct (yh (zb zg zc)) (zn yC (xR hMB) (pv 1))) rfl)),?_⟩;refine ⟨_,rfl,_,rfl,x,C,dx,[],rfl,hx,b.c,b.n1,by decide,?_⟩;refine ⟨(by show 1<=sizeLine;decide),λt nt=>⟨_,rfl,_,_,rfl,rfl,.inl ⟨by decide,by decide⟩,t,_,_,rfl,rfl,zi,by omega,by omega,?_,λl nl=>?_⟩⟩
 ·show 1*(8*L).toNat<=sizeLine
  have:(600:Nat)<=sizeLine:=by decide
  omega
 have nx:x≠t:=zq (o:=.ins C dx [("lanes",.int L)]) zi nt;have nl':x≠l:=zq (o:=.ins C dx [("lanes",.int L)]) (by rw [zj nx,zi];rfl) nl;refine ⟨_,rfl,x,C,dx,[("lanes",.int L)],rfl,?_,b.c,b.n2,(by show 1<1000;decide),?_⟩
 ·rw [zj nl',zj nx,zi];rfl
 rw [rep_ints];have lt:l≠t:=Ne.symm (zq (o:=.lst [.int 0]) zi nl)
 have hl:H l=none:=by
  have z:=nl;rw [zj lt,zj (Ne.symm nl')] at z;exact z
 have ht:H t=none:=by
  have z:=nt;rw [zj (Ne.symm nx)] at z;exact z
 refine k _ l (λc o nc z=>?_) hl zi ?_
 ·rw [zj nc,zj (zq z hl),zj (zq z ht),zj nc]
  exact z
 ·rw [zj (Ne.symm nl'),zi]
inductive spSpot (C:Ad) (vs:Jj) (H:Hp) (Q:VK) (_:XK):Prop
 | mk (x dx l:Ad) (L g p j:Int) (_:vs=[.ref x,.int g,.int p,.int j]) (_:H x=some (boxO C dx L l)) (_:1<=L) (_:L<=64) (_:1<=g) (_:g<=4) (_:Q (.int (p*g*L+j)) H)
def ok_spot {C:Ad} (d:zN K C "spot_of" "Boxes.spot_of" xf qF) (b:BCls K C):OkM P w K mg base CX0 1 C "spot_of" qF (spSpot C):=by
 refine oMf d Xp λf mh A _ s H vs Q E hr h=>?_;obtain ⟨x,dx,l,L,g,p,j,rfl,hx,h1,h2,h3,h4,k⟩:=h;refine ⟨_,(zf (zm (zn zP (zn yC (zn yC (pv 2) (pv 1)) (zh (pv 0) rfl)) (pv 3)))),?_⟩;dsimp only [yd,Cx.nox,Cx.wish];exact ⟨_,rfl,_,rfl,_,_,rfl,rfl,.inr ⟨by omega,by omega⟩,_,rfl,x,C,dx,_,.int L,rfl,hx,b.c,b.n1,rfl,_,_,rfl,rfl,.inr ⟨by omega,by omega⟩,_,rfl,_,_,rfl,rfl,k⟩
inductive spLay (C:Ad) (vs:Jj) (H:Hp) (Q:VK) (_:XK):Prop
 | mk (x dx l:Ad) (L g p j n:Int) (nums:J6) (_:vs=[.ref x,.int g,.int p,.int j,.int n]) (_:H x=some (boxO C dx L l)) (_:H l=some (.lst (nums.map V.int))) (_:1<=L) (_:L<=64) (_:1<=g) (_:g<=4) (_:0<=p*g*L+j) (_:p*g*L+j<nums.length) (_:Q .non (upd H l (.lst ((nums.set (p*g*L+j).toNat n).map V.int))))
def ok_lay {C:Ad} (d:zN K C "lay" "Boxes.lay" ZL qP) (b:BCls K C) (SO:OkM P w K mg base CX0 1 C "spot_of" qF (spSpot C)):OkM P w K mg base CX0 2 C "lay" qP (spLay C):=by
 refine oMf d zcg λf mh A _ s H vs Q E hr h=>?_;obtain ⟨x,dx,l,L,g,p,j,n,nums,rfl,hx,hl,h1,h2,h3,h4,h5,h6,k⟩:=h;have hr1:=hr;have cC:=b.c;refine ⟨_,(zf (zag (pv 4) (zah (zh (pv 0) rfl) (zW SO cC hr1 zo (pv 0) (zb (pv 1) (zb (pv 2) (zb (pv 3) zc)))) Yo))),?_⟩;dsimp only [yd,Cx.nox,Cx.wish];refine ⟨_,rfl,_,rfl,x,C,dx,_,.ref l,rfl,hx,b.c,b.n2,rfl,_,rfl,x,dx,_,rfl,hx,rfl,_,rfl,_,rfl,_,rfl,x,dx,l,L,g,p,j,rfl,hx,h1,h2,h3,h4,?_⟩;refine ⟨l,_,_,_,rfl,rfl,hl,ixN_nat h5 (by rw [Je];exact h6),?_⟩;rw [set_ints];exact k
inductive spNum (C:Ad) (vs:Jj) (H:Hp) (Q:VK) (_:XK):Prop
 | mk (x dx l:Ad) (L g p j:Int) (nums:J6) (_:vs=[.ref x,.int g,.int p,.int j]) (_:H x=some (boxO C dx L l)) (_:H l=some (.lst (nums.map V.int))) (_:1<=L) (_:L<=64) (_:1<=g) (_:g<=4) (_:0<=p*g*L+j) (_:p*g*L+j<nums.length) (_:Q (.int (nums.getD (p*g*L+j).toNat 0)) H)
def ok_num {C:Ad} (d:zN K C "number_at" "Boxes.number_at" yG qF) (b:BCls K C) (SO:OkM P w K mg base CX0 1 C "spot_of" qF (spSpot C)):OkM P w K mg base CX0 2 C "number_at" qF (spNum C):=by
 refine oMf d YR λf mh A _ s H vs Q E hr h=>?_;obtain ⟨x,dx,l,L,g,p,j,nums,rfl,hx,hl,h1,h2,h3,h4,h5,h6,k⟩:=h;have hr1:=hr;have cC:=b.c;refine ⟨_,(zf (zm (zB z6 (zh (pv 0) rfl) (zW SO cC hr1 zo (pv 0) (zb (pv 1) (zb (pv 2) (zb (pv 3) zc)))) (λ_ _=>rfl)))),?_⟩;dsimp only [yd,Cx.nox,Cx.wish];exact ⟨_,rfl,x,C,dx,_,.ref l,rfl,hx,b.c,b.n2,rfl,_,rfl,x,dx,_,rfl,hx,rfl,_,rfl,_,rfl,_,rfl,x,dx,l,L,g,p,j,rfl,hx,h1,h2,h3,h4,l,_,_,_,rfl,rfl,SqL.of hl,xA (p*g*L+j).toNat (by omega) (by omega),k⟩
end
end K44
namespace L2
open PySem
def YB {X:Cx} {K:Fg} {e:Expr} {f:Str} {pos:Pos} {ta:TE} (h:X.K=K) (he:PE X e ta) (hb:attributeBase e f X.env (eval e X.env)=eval e X.env):PE X (.Attribute e f pos) (tFld K ta f):=h ▸ zh he hb
end L2
namespace K44
open PySem L2 FM
variable {P:Program} {w:World} {K:Fg} {mg:J0} {base:Heap}
structure MCs where
 bx:Ad
 fe:Ad
 bn:Ad
structure Mc where
 lens:J6
 starts:J6
 cells:J6
 lq:Nat
 nums:J6
 mq:List (List Bool)
 slots:Jh
 dust:J6
 dq:Nat
 picks:J6
 pq:Nat
 tq:List (Int×Str×Int)
 pc:Int
 oq:Int
 mn_:Int
 group:Int
 base:Int
 bq:Int
 wq:Int
 fq:Jh
 cut:Option Int
 cq:Option Int
 raised:Bool
 turns:List (Int×Int)
 rq_:Option (Int×Int×Str)
structure Ma where
 b:Ad
 db:Ad
 aL:Ad
 aS:Ad
 aC:Ad
 bx:Ad
 dbx:Ad
 aN:Ad
 aM:Ad
 aSl:Ad
 fd:Ad
 dfd:Ad
 aD:Ad
 fp:Ad
 dfp:Ad
 aP:Ad
 aT:Ad
 aF:Ad
 aU:Ad
 ms:Jc
 ts:Jc
 us:Jc
 rf:V
def oV:Option Int->V
 | none=>.non
 | some n=>.int n
def xn (A:Ma) (M:Mc):List (Str×V):=[("lengths",.ref A.aL),("starts",.ref A.aS),("cells",.ref A.aC),("lanes",.int M.lq),("boxes",.ref A.bx),("masks",.ref A.aM),("slots",.ref A.aSl),("dust",.ref A.fd),("picks",.ref A.fp),("touches",.ref A.aT),("at",.int M.pc),("opened",.int M.oq),("many",.int M.mn_),("group",.int M.group),("base",.int M.base),("begun",.int M.bq),("width",.int M.wq),("faults",.ref A.aF),("cut",oV M.cut),("carried",oV M.cq),("raised",.bl M.raised),("turns",.ref A.aU),("refusal",A.rf)]
def ZX (A:Ma) (M:Mc):Ji:=(A.ms.zip M.mq).map λp=>(p.1,.lst (p.2.map V.bl))
def objs (c:MCs) (A:Ma) (M:Mc) (R:Ji):Ji :=
 (A.b,.ins c.bn A.db (xn A M))::(A.aC,.lst (M.cells.map V.int))::(A.aN,.lst (M.nums.map V.int))::(A.aSl,.dK M.slots)::(A.fd,YM c.fe A.dfd A.aD (fAt M.dust M.dq))::(A.fp,YM c.fe A.dfp A.aP (fAt M.picks M.pq))::(A.aT,.lst (A.ts.map V.ref))::(A.aF,.dK M.fq)::(A.aU,.lst (A.us.map V.ref))::(ZX A M++R)
structure BenchB (c:MCs) (B:Hp) (A:Ma) (M:Mc):Prop where
 lens:B A.aL=some (.lst (M.lens.map V.int))
 starts:B A.aS=some (.lst (M.starts.map V.int))
 bx:B A.bx=some (boxO c.bx A.dbx M.lq A.aN)
 msk:B A.aM=some (.lst (A.ms.map V.ref))
 ml:A.ms.length=M.mq.length
 dl:B A.aD=some (.lst (M.dust.map V.int))
 pl:B A.aP=some (.lst (M.picks.map V.int))
 tl:A.ts.length=M.tq.length
 tt:∀ (i:Nat) (t:Ad) (p:Int×Str×Int),A.ts[i]?=some t->M.tq[i]?=some p->B t=some (.tup [.int p.1,.str p.2.1,.int p.2.2])
 ul:A.us.length=M.turns.length
 uu:∀ (i:Nat) (t:Ad) (p:Int×Int),A.us[i]?=some t->M.turns[i]?=some p->B t=some (.tup [.int p.1,.int p.2])
 rf:match M.rq_ with
  | none=>A.rf=.non
  | some r=>∃ t,A.rf=.ref t/\B t=some (.tup [.int r.1,.int r.2.1,.str r.2.2])
def BenchB.same {c:MCs} {B B':Hp} {A:Ma} {M:Mc} (h:BenchB c B A M) (s:Same B B'):BenchB c B' A M:=by
 refine ⟨s _ _ h.lens,s _ _ h.starts,s _ _ h.bx,s _ _ h.msk,h.ml,s _ _ h.dl,s _ _ h.pl,h.tl,λi t p a b=>s _ _ (h.tt i t p a b),h.ul,λi t p a b=>s _ _ (h.uu i t p a b),?_⟩;have:=h.rf;revert this
 cases M.rq_ with
 | none=>exact λz=>z
 | some r=>exact λ⟨t,a,b⟩=>⟨t,a,s _ _ b⟩
structure NCls (K:Fg) (C:Ad):Prop where
 c:Cls K C
 lengths:NoAttr K C "lengths"
 starts:NoAttr K C "starts"
 cells:NoAttr K C "cells"
 lq:NoAttr K C "lanes"
 boxes:NoAttr K C "boxes"
 mq:NoAttr K C "masks"
 slots:NoAttr K C "slots"
 dust:NoAttr K C "dust"
 picks:NoAttr K C "picks"
 tq:NoAttr K C "touches"
 pc:NoAttr K C "at"
 oq:NoAttr K C "opened"
 mn_:NoAttr K C "many"
 group:NoAttr K C "group"
 base:NoAttr K C "base"
 bq:NoAttr K C "begun"
 wq:NoAttr K C "width"
 fq:NoAttr K C "faults"
 cut:NoAttr K C "cut"
 cq:NoAttr K C "carried"
 raised:NoAttr K C "raised"
 turns:NoAttr K C "turns"
 rq_:NoAttr K C "refusal"
structure MCls (K:Fg) (c:MCs):Prop where
 b:BCls K c.bx
 f:FCls K c.fe
 n:NCls K c.bn
structure MAt (c:MCs) (B:Hp) (A:Ma) (M:Mc) (R:Ji) (H:Hp):Prop where
 bb:BenchB c B A M
 h:Hd B (objs c A M R) H
def MAt.b {c:MCs} {B:Hp} {A:Ma} {M:Mc} {R:Ji} {H:Hp} (m:MAt c B A M R H):H A.b=some (.ins c.bn A.db (xn A M)):=m.h.get 0 rfl
def MAt.grow {c:MCs} {B:Hp} {A:Ma} {M:Mc} {R:Ji} {H:Hp} {t:Ad} {o:HO} (m:MAt c B A M R H) (n:H t=none):MAt c (upd B t o) A M R (upd H t o):=by
 have sB:Same B (upd B t o):=zt (Same.refl _) (m.h.free n);refine ⟨m.bb.same sB,m.h.nd,λp q=>?_,λp q=>?_,λb u z=>?_⟩
 ·rw [zj (zq (m.h.st p q) n)];exact m.h.nw p q
 ·rw [zj (zq (m.h.st p q) n)];exact m.h.st p q
 ·by_cases e:b=t
  ·subst e;rw [zi] at z ⊢;exact z
  ·rw [zj e] at z ⊢;exact m.h.sm _ _ z
def Mc.touched (M:Mc) (kind:Str) (a:Int):Mc:={ M with tq:=M.tq++[(M.pc,kind,a)] }
inductive spTouch (c:MCs) (vs:Jj) (H:Hp) (Q:VK) (_:XK):Prop
 | mk (B:Hp) (A:Ma) (M:Mc) (R:Ji) (kind:Str) (a:Int) (_:vs=[.ref A.b,.str kind,.int a]) (_:MAt c B A M R H) (_:M.tq.length<100000) (_:∀ B' A' H',Same B B'->A'.b=A.b->MAt c B' A' (M.touched kind a) R H'->Q .non H')
def ok_touch {c:MCs} (d:zN K c.bn "touch" "Bench.touch" xQ qM) (CN:NCls K c.bn):OkM P w K mg base CX0 1 c.bn "touch" qM (spTouch c):=by
 refine oMf d zab λf mh A _ s H vs Q E hr h=>?_;obtain ⟨B,A,M,R,kind,a,rfl,m,hl,k⟩:=h;refine ⟨_,(zf (zG (Ys PySem.F.plainAttrs_list PySem.F.slot_list_append PySem.F.type_list_append yr (zh (pv 0) rfl) (zb (yc (zb (zh (pv 0) rfl) (zb (pv 1) (zb (pv 2) zc)))) zc)))),?_⟩;dsimp only [yd,Cx.nox,Cx.wish];refine ⟨_,rfl,A.b,_,_,_,.ref A.aT,rfl,m.b,CN.c,CN.tq,rfl,.inl ⟨rfl,_,m.h.lst 6 rfl⟩,_,rfl,A.b,_,_,_,.int M.pc,rfl,m.b,CN.c,CN.pc,rfl,_,rfl,_,rfl,(by show 3<=sizeLine;decide),λt nt=>?_⟩;have sB:Same B (upd B t (.tup [.int M.pc,.str kind,.int a])):=zt (Same.refl _) (m.h.free nt);have m1:=m.grow (o:=.tup [.int M.pc,.str kind,.int a]) nt;have e1:upd B t (.tup [.int M.pc,.str kind,.int a]) t=some (.tup [.int M.pc,.str kind,.int a]):=zi;generalize upd B t (.tup [.int M.pc,.str kind,.int a])=B1 at sB m1 e1;have tl:=m.bb.tl;refine ⟨A.aT,_,_,rfl,rfl,m1.h.get 6 rfl,(by rw [Je];exact Nat.lt_of_le_of_lt (show A.ts.length<=100000 by omega) (by decide)),?_⟩;have h2:=m1.h.put (o':=.lst ((A.ts++[t]).map V.ref)) 6 rfl;rw [Jg] at h2;refine k B1 { A with ts:=A.ts++[t] } _ sB rfl ⟨⟨m1.bb.lens,m1.bb.starts,m1.bb.bx,m1.bb.msk,m1.bb.ml,m1.bb.dl,m1.bb.pl,?_,λi t' p a1 a2=>?_,m1.bb.ul,m1.bb.uu,m1.bb.rf⟩,?_⟩
 ·show (A.ts++[t]).length=(M.tq++[_]).length
  rw [Jf,Jf,tl];rfl
 ·have a1:(A.ts++[t])[i]?=some t':=a1
  have a2:(M.tq++[(M.pc,kind,a)])[i]?=some p:=a2;by_cases z:i<A.ts.length
  ·rw [q9x z] at a1
   rw [q9x (by omega)] at a2;exact m1.bb.tt i t' p a1 a2
  ·rw [List.getElem?_append_right (by omega)] at a1 a2
   rw [tl] at a1
   cases e:i-M.tq.length with
   | zero=>rw [e] at a1 a2;cases a1;cases a2;exact e1
   | succ j=>rw [e] at a1;cases a1
 ·show Hd B1 (objs c { A with ts:=A.ts++[t] } (M.touched kind a) R) _
  have e:(A.ts++[t]).map V.ref=A.ts.map V.ref++[V.ref t]:=by rw [Jg];rfl
  unfold objs;rw [e];exact h2
section
variable {c:MCs} {B:Hp} {A:Ma} {M:Mc} {R:Ji} {H J:Hp} {a:Ad} {o o':HO}
def MAt.adopt (m:MAt c B A M R H) (h:Hd H [(a,o)] J):MAt c (upd B a o) A M R J:=by
 have na:H a=none:=h.nw _ (List.mem_singleton.mpr rfl);have nb:B a=none:=m.h.free na;have sB:Same B (upd B a o):=zt (Same.refl _) nb;refine ⟨m.bb.same sB,m.h.nd,λp q=>?_,λp q=>h.sm _ _ (m.h.st p q),λb u z=>?_⟩
 ·rw [zj (zq (m.h.st p q) na)];exact m.h.nw p q
 ·by_cases e:b=a
  ·subst e;rw [zi] at z;cases z;exact h.get 0 rfl
  ·rw [zj e] at z;exact h.sm _ _ (m.h.sm _ _ z)
def MAt.newR (m:MAt c B A M R H) (n:H a=none):MAt c B A M ((a,o)::R) (upd H a o):=by
 refine ⟨m.bb,(m.h.new (o:=o) n).perm ?_⟩;unfold objs;rw [← List.cons_append,← List.cons_append,← List.cons_append,← List.cons_append,← List.cons_append,← List.cons_append,← List.cons_append,← List.cons_append,← List.cons_append];rw [← List.cons_append,← List.cons_append,← List.cons_append,← List.cons_append,← List.cons_append,← List.cons_append,← List.cons_append,← List.cons_append,← List.cons_append];exact (List.perm_middle (a:=(a,o)) (l₁:=_::_::_::_::_::_::_::_::_::ZX A M) (l₂:=R)).symm
def atR:(objs c A M ((a,o)::R))[9+(ZX A M).length]?=some (a,o):=by
 unfold objs;rw [show 9+(ZX A M).length=(ZX A M).length+1+1+1+1+1+1+1+1+1 by omega];simp only [List.getElem?_cons_succ];rw [List.getElem?_append_right (Nat.le_refl _),Nat.sub_self];rfl
def setR:(objs c A M ((a,o)::R)).set (9+(ZX A M).length) (a,o')=objs c A M ((a,o')::R):=by
 unfold objs;rw [show 9+(ZX A M).length=(ZX A M).length+1+1+1+1+1+1+1+1+1 by omega];simp only [List.set_cons_succ];rw [List.set_append_right _ _ (Nat.le_refl _),Nat.sub_self];rfl
def MAt.getR (m:MAt c B A M ((a,o)::R) H):H a=some o:=m.h.get _ atR
def MAt.putR (m:MAt c B A M ((a,o)::R) H):MAt c B A M ((a,o')::R) (upd H a o'):=by
 have h:=m.h.put (o':=o') _ atR;rw [setR] at h;exact ⟨m.bb,h⟩
def MAt.settle (m:MAt c B A M ((a,o)::R) H):MAt c (upd B a o) A M R H:=by
 have nb:B a=none:=m.h.nw (a,o) (List.mem_of_getElem? atR);have sB:Same B (upd B a o):=zt (Same.refl _) nb
 have sub:List.Sublist (objs c A M R) (objs c A M ((a,o)::R)):=by
  unfold objs;exact .cons₂ _ (.cons₂ _ (.cons₂ _ (.cons₂ _ (.cons₂ _ (.cons₂ _ (.cons₂ _ (.cons₂ _ (.cons₂ _ (List.Sublist.append (List.Sublist.refl _) (List.sublist_cons_self _ _))))))))))
 have h:=m.h.sub sub;refine ⟨m.bb.same sB,h.nd,λp q=>?_,h.st,λb u z=>?_⟩
 ·rw [zj ?_]
  ·exact h.nw p q
  ·intro e
   have nd:=m.h.nd;have p1:p∈objs c A M ((a,o)::R):=sub.subset q
   have:((a,o)::objs c A M R).Perm (objs c A M ((a,o)::R)):=by
    unfold objs;exact (List.perm_middle (a:=(a,o)) (l₁:=_::_::_::_::_::_::_::_::_::ZX A M) (l₂:=R)).symm
   have nd2:=(this.map Prod.fst).symm.nodup nd;exact (List.nodup_cons.mp nd2).1 (by have:=List.mem_map_of_mem (f:=Prod.fst) q;rw [e] at this;exact this)
 ·by_cases e:b=a
  ·subst e;rw [zi] at z;cases z;exact m.getR
  ·rw [zj e] at z;exact m.h.sm _ _ z
def MAt.mask (m:MAt c B A M R H) {k:Nat} (hk:k<M.mq.length):∃ x,A.ms[k]?=some x/\H x=some (.lst ((M.mq.getD k []).map V.bl)):=by
 have ml:=m.bb.ml;refine ⟨A.ms[k],by rw [List.getElem?_eq_getElem (by omega)],?_⟩;refine m.h.get (9+k) ?_;unfold objs;rw [show 9+k=k+1+1+1+1+1+1+1+1+1 by omega];simp only [List.getElem?_cons_succ];have lm:(ZX A M).length=A.ms.length:=by unfold ZX;rw [Je,List.length_zip];omega
 rw [q9x (by omega)];unfold ZX;have e:(A.ms.zip M.mq)[k]?=some (A.ms[k],M.mq[k]):=by rw [List.getElem?_zip_eq_some];exact ⟨by rw [List.getElem?_eq_getElem (by omega)],by rw [List.getElem?_eq_getElem hk]⟩
 rw [List.getElem?_map,e];show some _=some _;rw [q6x,List.getElem?_eq_getElem hk];rfl
end
def Mc.adr (M:Mc) (row:Nat) (place:Int):Int:=M.starts.getD row 0+place
inductive spRead (c:MCs) (vs:Jj) (H:Hp) (Q:VK) (_:XK):Prop
 | mk (B:Hp) (A:Ma) (M:Mc) (R:Ji) (row:Nat) (place:Int) (_:vs=[.ref A.b,.int row,.int place]) (_:MAt c B A M R H) (_:M.tq.length<100000) (_:row<M.starts.length) (_:0<=M.adr row place) (_:(M.adr row place).toNat<M.cells.length) (_:∀ B' A' H',Same B B'->A'.b=A.b->MAt c B' A' (M.touched "read" (M.adr row place)) R H'->Q (.int (M.cells.getD (M.adr row place).toNat 0)) H')
def ok_read {c:MCs} (d:zN K c.bn "read_cell" "Bench.read_cell" yI Ul) (CN:NCls K c.bn) (TO:OkM P w K mg base CX0 1 c.bn "touch" qM (spTouch c)):OkM P w K mg base CX0 2 c.bn "read_cell" Ul (spRead c):=by
 refine oMf d sc_Bench_read_cell λf mh A _ s H vs Q E hr h=>?_;obtain ⟨B,A,M,R,row,place,rfl,m,hl,h0,h1,h2,k⟩:=h;have nd:=sc_Bench_read_cell.nd;have hr1:=hr;refine ⟨_,(zd (oRz 3 nd (zn zP (zB z6 (zh (pv 0) rfl) (pv 1) (λ_ _=>rfl)) (pv 2)))
   (zd (zG (zW TO CN.c hr1 zo (pv 0) (zb zV (zb (pv 3) zc))))
   (zf (zm (zB z6 (zh (pv 0) rfl) (pv 3) (λ_ _=>rfl)))))),?_⟩
 dsimp only [yd,Cx.nox,Cx.wish];refine ⟨_,rfl,A.b,_,_,_,.ref A.aS,rfl,m.b,CN.c,CN.starts,rfl,_,rfl,A.aS,_,_,_,rfl,rfl,SqL.of (m.h.sm _ _ m.bb.starts),xA row h0 rfl,_,rfl,_,_,rfl,rfl,?_⟩;refine ⟨_,rfl,A.b,_,_,rfl,m.b,rfl,_,rfl,B,A,M,R,"read",M.adr row place,rfl,m,hl,λB1 A1 H1 s1 eb m1=>?_⟩;refine ⟨_,rfl,A1.b,_,_,_,.ref A1.aC,by rw [eb],m1.b,CN.c,CN.cells,rfl,_,rfl,A1.aC,_,_,_,rfl,rfl,m1.h.lst 1 rfl,xA (M.adr row place).toNat h2 (show M.adr row place=_ by omega),?_⟩;exact k B1 A1 H1 s1 eb m1
def Mc.wrote (M:Mc) (row:Nat) (place n:Int):Mc:={ M.touched "write" (M.adr row place) with cells:=M.cells.set (M.adr row place).toNat n }
inductive spWrite (c:MCs) (vs:Jj) (H:Hp) (Q:VK) (_:XK):Prop
 | mk (B:Hp) (A:Ma) (M:Mc) (R:Ji) (row:Nat) (place n:Int) (_:vs=[.ref A.b,.int row,.int place,.int n]) (_:MAt c B A M R H) (_:M.tq.length<100000) (_:row<M.starts.length) (_:0<=M.adr row place) (_:(M.adr row place).toNat<M.cells.length) (_:∀ B' A' H',Same B B'->A'.b=A.b->MAt c B' A' (M.wrote row place n) R H'->Q .non H')
def ok_write {c:MCs} (d:zN K c.bn "write_cell" "Bench.write_cell" yu Ue) (CN:NCls K c.bn) (TO:OkM P w K mg base CX0 1 c.bn "touch" qM (spTouch c)):OkM P w K mg base CX0 2 c.bn "write_cell" Ue (spWrite c):=by
 refine oMf d sc_Bench_write_cell λf mh A _ s H vs Q E hr h=>?_;obtain ⟨B,A,M,R,row,place,n,rfl,m,hl,h0,h1,h2,k⟩:=h;have nd:=sc_Bench_write_cell.nd;have hr1:=hr;refine ⟨_,(zd (oRz 4 nd (zn zP (zB z6 (zh (pv 0) rfl) (pv 1) (λ_ _=>rfl)) (pv 2)))
   (zd (zG (zW TO CN.c hr1 zo (pv 0) (zb zV (zb (pv 4) zc))))
   (zf (zag (pv 3) (zah (zh (pv 0) rfl) (pv 4) Yo))))),?_⟩
 dsimp only [yd,Cx.nox,Cx.wish];refine ⟨_,rfl,A.b,_,_,_,.ref A.aS,rfl,m.b,CN.c,CN.starts,rfl,_,rfl,A.aS,_,_,_,rfl,rfl,SqL.of (m.h.sm _ _ m.bb.starts),xA row h0 rfl,_,rfl,_,_,rfl,rfl,?_⟩;refine ⟨_,rfl,A.b,_,_,rfl,m.b,rfl,_,rfl,B,A,M,R,"write",M.adr row place,rfl,m,hl,λB1 A1 H1 s1 eb m1=>?_⟩;refine ⟨_,rfl,_,rfl,A1.b,_,_,_,.ref A1.aC,by rw [eb],m1.b,CN.c,CN.cells,rfl,_,rfl,A1.aC,_,_,(M.adr row place).toNat,rfl,rfl,m1.h.get 1 rfl,?_,?_⟩
 ·show ixN (M.cells.map V.int).length (M.adr row place)=_
  unfold ixN;rw [if_pos h1,if_pos (by rw [Je];omega)]
 ·have h:=m1.h.put (o':=.lst ((M.cells.set (M.adr row place).toNat n).map V.int)) 1 rfl
  rw [List.map_set] at h;refine k B1 A1 _ s1 eb ⟨{m1.bb with},?_⟩;show Hd B1 (objs c A1 (M.wrote row place n) R) _;unfold objs;rw [show ((M.wrote row place n).cells.map V.int)=(M.cells.map V.int).set (M.adr row place).toNat (.int n) from List.map_set ..];exact h
def at_bl {bs:List Bool} {j:Int} (i:Nat) (h:i<bs.length) (e:j=i):atI (bs.map V.bl) j=some (.bl (bs.getD i false)):=by
 subst e;refine zH ?_;rw [List.getElem?_map,List.getElem?_eq_getElem h,q6x,List.getElem?_eq_getElem h];rfl
def Mc.isAct (M:Mc) (k j:Nat):Bool:=(M.mq.getD k []).getD j false && !(zO M.fq (.inl (j:Int))).isSome
def Mc.actTo (M:Mc) (k n:Nat):J6:=((List.range n).filter (M.isAct k)).map λj:Nat=>(j:Int)
def Mc.act (M:Mc) (k:Nat):J6:=M.actTo k M.wq.toNat
def Mc.actTo_succ (M:Mc) (k n:Nat):M.actTo k (n+1)=M.actTo k n++if M.isAct k n then [(n:Int)] else []:=by
 unfold Mc.actTo;rw [List.range_succ,List.filter_append,Jg];congr 1;by_cases z:M.isAct k n=true
 ·rw [List.filter_cons_of_pos z,if_pos z];rfl
 ·rw [List.filter_cons_of_neg z,if_neg z];rfl
def Mc.actTo_len (M:Mc) (k n:Nat):(M.actTo k n).length<=n:=by
 unfold Mc.actTo;rw [Je];have:=List.length_filter_le (M.isAct k) (List.range n);rw [List.length_range] at this;exact this
def Mc.act_mem {M:Mc} {k:Nat} {j:Int} (h:j∈M.act k):0<=j/\j.toNat<M.wq.toNat/\M.isAct k j.toNat=true:=by
 obtain ⟨i,hi,rfl⟩:=List.mem_map.mp h;obtain ⟨a,b⟩:=List.mem_filter.mp hi;have:=List.mem_range.mp a;exact ⟨by omega,by omega,b⟩
inductive spAct (c:MCs) (vs:Jj) (H:Hp) (Q:VK) (_:XK):Prop
 | mk (B:Hp) (A:Ma) (M:Mc) (R:Ji) (k:Nat) (_:vs=[.ref A.b,.int k]) (_:MAt c B A M R H) (_:k<M.mq.length) (_:0<=M.wq) (_:M.wq.toNat<=(M.mq.getD k []).length) (_:M.wq.toNat<=1000) (_:∀ B' H' l,Same B B'->MAt c B' A M R H'->B' l=some (.lst ((M.act k).map V.int))->Q (.ref l) H')
def ok_act {c:MCs} (d:zN K c.bn "active_under" "Bench.active_under" ym Um) (hrg:mg "range"=none) (CN:NCls K c.bn):OkM P w K mg base CX0 1 c.bn "active_under" Um (spAct c):=by
 refine oMf d sc_Bench_active_under λf mh A _ s H vs Q E hr h=>?_;obtain ⟨B,A,M,R,k,rfl,m,hk,w0,w1,w2,q⟩:=h;have nd:=sc_Bench_active_under.nd;have hu:=Nat.lt_of_le_of_lt (Nat.add_le_add_left (show 1<=64 by decide) _) hr.units;obtain ⟨x,ex,hx⟩:=m.mask hk;have SL:(3000:Nat)<sizeLine:=by decide
 refine ⟨_,(zd (zr (i:=2) nd rfl (Or.inr rfl) (zB z6 (zh (pv 0) rfl) (pv 1) (λ_ _=>rfl)))
   (zf (zm (zdu ["lane","truths","self"] [none,some 2,some 0] rfl rfl rfl (yY rfl hrg (zb (zh (pv 0) rfl) zc)) (λs3 H3 fp=>⟨oQz 0 (Jl ["lane","truths","self"]),(PW.pt (pw_and (yb (zB (ix_listK (K:=K) rfl) (pv 1) (pv 0) (λ_ _=>rfl))) (pw_and1 (pt_cmp (pc_dnotin hu (pv 0) (YB (K:=K) rfl (pv 2) rfl)) rfl)))),(pv 0)⟩))))),?_⟩
 dsimp only [yd,Cx.nox,Cx.wish];refine ⟨_,rfl,A.b,_,_,_,.ref A.aM,rfl,m.b,CN.c,CN.mq,rfl,_,rfl,A.aM,_,_,.ref x,rfl,rfl,SqL.of (m.h.sm _ _ m.bb.msk),zH (by rw [List.getElem?_map,ex];rfl),?_⟩;refine ⟨_,rfl,A.b,_,_,_,.int M.wq,rfl,m.b,CN.c,CN.wq,rfl,_,rfl,(by show -(2 ^ 62)<=M.wq;omega),(by show M.wq<2 ^ 62;omega),_,rfl,λD nD=>?_⟩;have h0:Hd H [(D,.lst ((M.actTo k 0).map V.int))] (upd H D (.lst [])):=Hd.base.new nD;generalize upd H D (.lst [])=H1 at h0 ⊢;refine zej (n:=M.wq.toNat) (λi σ J=>∃ u,σ=[u,rq x,rq A.b]/\Hd H [(D,.lst ((M.actTo k i).map V.int))] J) ⟨none,rfl,h0⟩ ?_ ?_
 ·clear h0
  rintro i σ J hi ⟨u,rfl,h⟩;have la:=M.actTo_len k i;rw [M.actTo_succ k i];have fin:M.isAct k i=false->∃ u,[some (V.int (0+(i:Int))),some (.ref x),some (.ref A.b)]=[u,rq x,rq A.b]/\Hd H [(D,.lst ((M.actTo k i++if M.isAct k i=true then [(i:Int)] else []).map V.int))] J:=λe=>⟨_,rfl,by rw [e,if_neg (by decide),q8y];exact h⟩;refine ⟨_,rfl,_,rfl,x,_,_,_,rfl,rfl,SqL.of (h.sm _ _ hx),at_bl i (by omega) (by omega),_,rfl,?_⟩;refine yo (λz1=>?_) (λz1=>xl (fin (by unfold Mc.isAct;rw [Bool.eq_false_iff.mpr z1,Bool.false_and])));refine ⟨_,rfl,_,rfl,A.b,_,_,_,.ref A.aF,rfl,h.sm _ _ m.b,CN.c,CN.fq,rfl,A.aF,_,rfl,DGet.k (k:=.inl (0+(i:Int))) (h.sm _ _ (m.h.get 7 rfl)),_,rfl,?_⟩;rw [Int.zero_add] at *;refine yo (λz2=>?_) (λz2=>fin (by unfold Mc.isAct;rw [z1,Bool.eq_false_iff.mpr z2];rfl));refine ⟨_,rfl,_,h.get 0 rfl,(by rw [Je];omega),_,rfl,?_⟩;have e:M.isAct k i=true:=by unfold Mc.isAct;rw [z1,z2];rfl
  rw [e,if_pos rfl,Jg];exact h.put 0 rfl
 ·rintro σ J ⟨u,rfl,h⟩
  exact q _ J D (zt (Same.refl _) (m.h.free (h.nw _ (List.mem_singleton.mpr rfl)))) (m.adopt h) zi
def Mc.nq (M:Mc) (p:Nat) (j:Int):Int:=M.nums.getD ((p:Int)*M.group*M.lq+j).toNat 0
structure MOk (M:Mc):Prop where
 l1:1<=M.lq
 l64:M.lq<=64
 g:M.group=1∨M.group=2∨M.group=4
 nl:M.nums.length=8*M.lq
 ml:M.mq.length=16
 mm:∀ m∈M.mq,m.length=4*M.lq
 w0:0<=M.wq
 w1:M.wq<=M.group*M.lq
inductive spNums (c:MCs) (K:Fg) (vs:Jj) (H:Hp) (Q:VK) (_:XK):Prop
 | mk (B:Hp) (A:Ma) (M:Mc) (R:Ji) (p:Nat) (aa:Ad) (js:J6) (_:vs=[.ref A.b,.int p,.ref aa]) (_:MAt c B A M R H) (_:MOk M) (_:((p:Int)+1)*M.group<=8) (_:B aa=some (.lst (js.map V.int))) (_:(∀ j∈js,0<=j/\j<M.group*M.lq)) (_:js.length<=1000) (_:∀ B' H' l,Same B B'->MAt c B' A M R H'->B' l=some (.lst ((js.map (M.nq p)).map V.int))->Q (.ref l) H')
def zb9 {g L p j:Int} (hg:g=1∨g=2∨g=4) (h1:1<=L) (hp:0<=p) (h8:(p+1)*g<=8) (j0:0<=j) (j1:j<g*L):0<=p*g*L+j/\p*g*L+j<8*L:=by
 have e:(p+1)*g*L<=8*L:=Int.mul_le_mul_of_nonneg_right h8 (by omega);have e2:(p+1)*g*L=p*g*L+g*L:=by rw [Int.add_mul,Int.add_mul,Int.one_mul]
 have e3:0<=p*g*L:=Int.mul_nonneg (Int.mul_nonneg hp (by omega)) (by omega);omega
def ok_nums {c:MCs} (d:zN K c.bn "numbers_in" "Bench.numbers_in" yw qV) (CC:MCls K c) (NA:OkM P w K mg base CX0 2 c.bx "number_at" qF (spNum c.bx)):OkM P w K mg base CX0 3 c.bn "numbers_in" qV (spNums c K):=by
 refine oMf d sc_Bench_numbers_in λf mh A _ s H vs Q E hr h=>?_;obtain ⟨B,A,M,R,p,aa,js,rfl,m,ok,h8,ea,hj,hl,q⟩:=h;have nd:=sc_Bench_numbers_in.nd;have hr2:=hr;have CN:=CC.n;have SL:(3000:Nat)<sizeLine:=by decide
 have l1:=ok.l1;have l64:=ok.l64;have hg:=ok.g;refine ⟨_,(zf (zm (xw ["lane","seat","self"] [none,some 1,some 0] rfl rfl rfl (Zl (pv 2)) (λs3 H3 fp=>⟨oQz 0 (Jl ["lane","seat","self"]),(zW NA CC.b.c hr2 zo (YB (K:=K) rfl (pv 2) rfl) (zb (YB (K:=K) rfl (pv 2) rfl) (zb (pv 1) (zb (pv 0) zc))))⟩)))),?_⟩;dsimp only [yd,Cx.nox,Cx.wish];refine ⟨_,rfl,aa,rfl,⟨_,SqL.of (m.h.sm _ _ ea)⟩,_,rfl,λD nD=>?_⟩;have h0:Hd H [(D,.lst (((js.take 0).map (M.nq p)).map V.int))] (upd H D (.lst [])):=Hd.base.new nD;generalize upd H D (.lst [])=H1 at h0 ⊢;refine ZZ (K:=K) (a:=aa) (D:=D) (xs:=js.map V.int) (λi σ J=>∃ u,σ=[u,iq p,rq A.b]/\Hd H [(D,.lst (((js.take i).map (M.nq p)).map V.int))] J) ⟨none,rfl,h0⟩ (λi σ J _ ⟨_,_,h⟩=>SqL.of (h.sm _ _ (m.h.sm _ _ ea))) ?_ ?_
 ·clear h0
  rintro i y σ J hy ⟨u,rfl,h⟩;obtain ⟨hlt,rfl⟩:=Z9 hy;have mj:=L2.getD_mem hlt;have e9:js[i]?=some (js.getD i 0):=by rw [q6x,List.getElem?_eq_getElem hlt];rfl
  generalize js.getD i 0=j at mj e9;obtain ⟨j0,j1⟩:=hj j mj;obtain ⟨s0,s1⟩:=zb9 hg (show (1:Int)<=M.lq by omega) (show (0:Int)<=p by omega) h8 j0 j1;refine ⟨_,rfl,A.b,_,_,_,.ref A.bx,rfl,h.sm _ _ m.b,CN.c,CN.boxes,rfl,A.bx,_,_,rfl,h.sm _ _ (m.h.sm _ _ m.bb.bx),rfl,_,rfl,A.b,_,_,_,.int M.group,rfl,h.sm _ _ m.b,CN.c,CN.group,rfl,_,rfl,_,rfl,A.bx,A.dbx,A.aN,M.lq,M.group,p,j,M.nums,rfl,h.sm _ _ (m.h.sm _ _ m.bb.bx),h.sm _ _ (m.h.get 2 rfl),by omega,by omega,by omega,by omega,s0,by rw [ok.nl];omega,?_⟩;refine ⟨_,h.get 0 rfl,(by rw [Je,Je,List.length_take];omega),_,rfl,?_⟩;have h3:=h.put (o':=.lst (((js.take (i+1)).map (M.nq p)).map V.int)) 0 rfl
  have e:(((js.take (i+1)).map (M.nq p)).map V.int)=(((js.take i).map (M.nq p)).map V.int)++[V.int (M.nq p j)]:=by
   rw [List.take_add_one,e9,Jg,Jg];rfl
  rw [e] at h3 ⊢;exact h3
 ·rintro σ J ⟨u,rfl,h⟩
  rw [Je,List.take_length] at h;exact q _ J D (zt (Same.refl _) (m.h.free (h.nw _ (List.mem_singleton.mpr rfl)))) (m.adopt h) zi
section
variable {c:MCs} {B:Hp} {A:Ma} {M:Mc} {R:Ji} {H H':Hp}
def mskO_len (m:MAt c B A M R H):(ZX A M).length=A.ms.length:=by
 unfold ZX;rw [Je,List.length_zip,m.bb.ml];omega
def MAt.putMask (m:MAt c B A M R H) {k:Nat} {x:Ad} (ex:A.ms[k]?=some x) (hk:k<M.mq.length) (b:List Bool):MAt c B A { M with mq:=M.mq.set k b } R (upd H x (.lst (b.map V.bl))):=by
 have lm:=mskO_len m;have ml:=m.bb.ml;have lk:k<A.ms.length:=(List.getElem?_eq_some_iff.mp ex).1;have e0:(A.ms.zip M.mq)[k]?=some (x,M.mq[k]):=by rw [List.getElem?_zip_eq_some];exact ⟨ex,by rw [List.getElem?_eq_getElem hk]⟩
 have e:(objs c A M R)[9+k]?=some (x,.lst ((M.mq[k]).map V.bl)):=by
  unfold objs;rw [show 9+k=k+1+1+1+1+1+1+1+1+1 by omega];simp only [List.getElem?_cons_succ];rw [q9x (by omega)];unfold ZX;rw [List.getElem?_map,e0];rfl
 have h:=m.h.put (o':=.lst (b.map V.bl)) _ e;refine ⟨⟨m.bb.lens,m.bb.starts,m.bb.bx,m.bb.msk,by show A.ms.length=(M.mq.set k b).length;rw [List.length_set,ml],m.bb.dl,m.bb.pl,m.bb.tl,m.bb.tt,m.bb.ul,m.bb.uu,m.bb.rf⟩,?_⟩
 have es:(objs c A M R).set (9+k) (x,.lst (b.map V.bl))=objs c A { M with mq:=M.mq.set k b } R:=by
  unfold objs;rw [show 9+k=k+1+1+1+1+1+1+1+1+1 by omega];simp only [List.set_cons_succ];rw [List.set_append_left _ _ (by omega)]
  have:(ZX A M).set k (x,.lst (b.map V.bl))=ZX A { M with mq:=M.mq.set k b }:=by
   unfold ZX;show ((A.ms.zip M.mq).map _).set k _=(A.ms.zip (M.mq.set k b)).map _
   have ez:A.ms.zip (M.mq.set k b)=(A.ms.zip M.mq).set k (x,b):=by
    apply List.ext_getElem?;intro j;rw [List.getElem?_set]
    split
    ·rename_i e
     subst e;rw [if_pos (by rw [List.length_zip];omega),List.getElem?_zip_eq_some];exact ⟨ex,by rw [q8z hk]⟩
    ·rename_i ne
     cases hz:(A.ms.zip M.mq)[j]? with
     | none =>
      rw [List.getElem?_eq_none_iff] at hz ⊢;rw [List.length_zip] at hz ⊢;rw [List.length_set];exact hz
     | some q =>
      rw [List.getElem?_zip_eq_some] at hz ⊢;exact ⟨hz.1,by rw [List.getElem?_set_ne ne];exact hz.2⟩
   rw [ez,List.map_set]
  rw [this];rfl
 rw [es] at h;exact h
def MAt.mask' (m:MAt c B A M R H) {k:Nat} {x:Ad} (ex:A.ms[k]?=some x) (hk:k<M.mq.length):H x=some (.lst ((M.mq.getD k []).map V.bl)):=by
 obtain ⟨y,ey,hy⟩:=m.mask hk;rw [ex] at ey;cases ey;exact hy
def MAt.took (m:MAt c B A M R H) (k:∀ b o,b≠A.fd->H b=some o->H' b=some o) (e:H' A.fd=some (YM c.fe A.dfd A.aD (fAt M.dust (M.dq+1)))):MAt c B A { M with dq:=M.dq+1 } R H' :=
 ⟨{m.bb with},m.h.chg 4 rfl k e⟩
end
def clr (m:List Bool) (n:Nat):List Bool:=(List.range n).foldl (λm j=>m.set j false) m
def sel (m:List Bool) (js:J6):List Bool:=js.foldl (λm j=>m.set j.toNat true) m
def dst (d:J6) (q:Nat) (m:List Bool) (lo k:Nat):List Bool:=(List.range k).foldl (λm t=>m.set (lo+t) (decide (fVal d (q+t) % 2=1))) m
theorem ZR (m:List Bool):∀ n,(clr m n).length=m.length
 | 0=>rfl
 | n+1=>by unfold clr;rw [List.range_succ,List.foldl_append];show (List.set _ _ _).length=_;rw [List.length_set];exact ZR m n
theorem YY:∀ (js:J6) (m:List Bool),(sel m js).length=m.length
 | [],_=>rfl
 | j::js,m=>by show (sel (m.set j.toNat true) js).length=_;rw [YY js,List.length_set]
theorem XV (d:J6) (q:Nat) (m:List Bool) (lo:Nat):∀ k,(dst d q m lo k).length=m.length
 | 0=>rfl
 | n+1=>by unfold dst;rw [List.range_succ,List.foldl_append];show (List.set _ _ _).length=_;rw [List.length_set];exact XV d q m lo n
def zek (m:List Bool) (n:Nat):clr m (n+1)=(clr m n).set n false:=by unfold clr;rw [List.range_succ,List.foldl_append];rfl
def zed (d:J6) (q:Nat) (m:List Bool) (lo n:Nat):dst d q m lo (n+1)=(dst d q m lo n).set (lo+n) (decide (fVal d (q+n) % 2=1)):=by unfold dst;rw [List.range_succ,List.foldl_append];rfl
def sel_snoc (m:List Bool) (js:J6) (j:Int):sel m (js++[j])=(sel m js).set j.toNat true:=by unfold sel;rw [List.foldl_append];rfl
def Mc.room (M:Mc):Nat:=(M.group*M.lq).toNat
def Mc.maskOf (M:Mc) (k:Nat) (js:J6):List Bool:=dst M.dust M.dq (sel (clr (M.mq.getD k []) M.wq.toNat) js) M.wq.toNat (M.room-M.wq.toNat)
def Mc.laidMask (M:Mc) (k:Nat) (js:J6):Mc:={ M with mq:=M.mq.set k (M.maskOf k js),dq:=M.dq+(M.room-M.wq.toNat) }
inductive spMask (c:MCs) (K:Fg) (vs:Jj) (H:Hp) (Q:VK) (_:XK):Prop
 | mk (B:Hp) (A:Ma) (M:Mc) (R:Ji) (k:Nat) (aa:Ad) (js:J6) (_:vs=[.ref A.b,.int k,.ref aa]) (_:MAt c B A M R H) (_:MOk M) (_:k<16) (_:B aa=some (.lst (js.map V.int))) (_:(∀ j∈js,0<=j/\j<M.group*M.lq)) (_:∀ H',MAt c B A (M.laidMask k js) R H'->Q .non H')
def ok_mask {c:MCs} (d:zN K c.bn "lay_mask" "Bench.lay_mask" yX Uh) (hrg:mg "range"=none) (CC:MCls K c) (TK:OkM P w K mg base CX0 1 c.fe "taken" ["self"] (spTaken c.fe)):OkM P w K mg base CX0 2 c.bn "lay_mask" Uh (spMask c K):=by
 refine oMf d sc_Bench_lay_mask λf mh A _ s H vs Q E hr h=>?_;obtain ⟨B,A,M,R,k,aa,js,rfl,m,ok,hk,ea,hj,q⟩:=h;have nd:=sc_Bench_lay_mask.nd;have hr1:=hr;have CN:=CC.n;have ml:=ok.ml;have hk':k<M.mq.length:=by omega
 have l1:=ok.l1;have l64:=ok.l64;have hg:=ok.g;have w0:=ok.w0;have w1:=ok.w1;have rb:M.group*M.lq<=4*M.lq/\1<=M.group*M.lq:=by rcases hg with e | e | e <;> rw [e] <;> omega
 have lm:(M.mq.getD k []).length=4*M.lq:=by
  rw [q6x,List.getElem?_eq_getElem hk'];exact ok.mm _ (List.getElem_mem hk')
 obtain ⟨x,ex,hx⟩:=m.mask hk';refine ⟨_,(zd (oRz 3 nd (zB z6 (zh (pv 0) rfl) (pv 1) (λ_ _=>rfl)))
   (zd (x6 PassesOwn.never rfl (yY rfl hrg (zb (zh (pv 0) rfl) zc)) (oQz 4 nd) (zf (zag Xe (zah (pv 3) (pv 4) Yo))))
   (zd (x6 PassesOwn.never rfl (Zl (pv 2)) (oQz 4 nd) (zf (zag Xe (zah (pv 3) (pv 4) Yo))))
   (zf (x6 PassesOwn.never rfl (pi_range2 rfl hrg (zb (zh (pv 0) rfl) (zb (zn yC (zh (pv 0) rfl) (zh (pv 0) rfl)) zc))) (oQz 4 nd) (zf (zag (Zm y8 (zn yk (pe_okM0 TK CC.f.c hr1 zo (zh (pv 0) rfl)) zg) zg (zJ _)) (zah (pv 3) (pv 4) Yo)))))))),?_⟩
 dsimp only [yd,Cx.nox,Cx.wish];show (let s1:L2.TS:=_;let s2:L2.TS:=L2.tSeq _ s1;let s3:L2.TS:=L2.tSeq _ s2;L2.tSeq _ s3 _ _ _);intro s1 s2 s3;refine ⟨_,rfl,A.b,_,_,_,.ref A.aM,rfl,m.b,CN.c,CN.mq,rfl,_,rfl,A.aM,_,_,.ref x,rfl,rfl,SqL.of (m.h.sm _ _ m.bb.msk),zH (by rw [List.getElem?_map,ex];rfl),?_⟩
 have set_one:∀ {n:Nat} {bs:List Bool} {i:Int},i=(n:Int)->n<bs.length->ixN (bs.map V.bl).length i=some n:=λ{n bs i} e h=>by
  subst e;unfold ixN;rw [if_pos (by omega),if_pos (by rw [Je];omega)];congr 1
 have st:∀ (b:List Bool),({ M with mq:=M.mq.set k b }:Mc).mq.getD k []=b:=λb=>by
  show (M.mq.set k b).getD k []=b;rw [q6x,q8z hk'];rfl
 have ss:∀ (b b':List Bool),({ ({ M with mq:=M.mq.set k b }:Mc) with mq:=(M.mq.set k b).set k b' }:Mc)={ M with mq:=M.mq.set k b' }:=λb b'=>by rw [List.set_set]
 refine ⟨_,rfl,A.b,_,_,_,.int M.wq,rfl,m.b,CN.c,CN.wq,rfl,_,rfl,(by show -(2 ^ 62)<=M.wq;omega),(by show M.wq<2 ^ 62;omega),?_⟩
 have m0:MAt c B A { M with mq:=M.mq.set k (clr (M.mq.getD k []) 0) } R H:=by
  have e:M.mq.set k (clr (M.mq.getD k []) 0)=M.mq:=by
   show M.mq.set k (M.mq.getD k [])=M.mq;rw [q6x,List.getElem?_eq_getElem hk'];exact List.set_getElem_self hk'
  rw [e];exact m
 show tFor_S _ _ _ _ _ _;let Pv1:Nat->St->Hp->Prop:=(λi σ J=>∃ u,σ=[rq A.b,iq k,rq aa,rq x,u]/\MAt c B A { M with mq:=M.mq.set k (clr (M.mq.getD k []) i) } R J);refine Zo (n:=M.wq.toNat) Pv1 ⟨none,rfl,m0⟩ ?_ ?_
 ·rintro i σ J hi ⟨u,rfl,m1⟩
  have hx1:=m1.mask' ex (by show k<(M.mq.set k _).length;rw [List.length_set];exact hk');rw [st] at hx1;refine ⟨_,rfl,_,rfl,x,_,_,i,rfl,rfl,hx1,set_one (by omega) (by rw [ZR,lm];omega),_,rfl,?_⟩;have m2:=m1.putMask ex (by show k<(M.mq.set k _).length;rw [List.length_set];exact hk') (clr (M.mq.getD k []) (i+1));rw [ss] at m2;have e:((clr (M.mq.getD k []) (i+1)).map V.bl)=((clr (M.mq.getD k []) i).map V.bl).set i (.bl false):=by rw [zek,List.map_set]
  rw [e] at m2;exact m2
 clear m0 hx;rintro σ J ⟨u,rfl,m1⟩;refine ⟨_,rfl,aa,rfl,⟨_,SqL.of (m1.h.sm _ _ ea)⟩,?_⟩;let Pv2:Nat->St->Hp->Prop:=(λi σ J=>∃ u,σ=[rq A.b,iq k,rq aa,rq x,u]/\MAt c B A { M with mq:=M.mq.set k (sel (clr (M.mq.getD k []) M.wq.toNat) (js.take i)) } R J);refine Xj (K:=K) (a:=aa) (xs:=js.map V.int) Pv2 ⟨u,rfl,m1⟩ (λi σ J _ ⟨_,_,m⟩=>SqL.of (m.h.sm _ _ ea)) ?_ ?_
 ·rintro i y σ J hy ⟨u,rfl,m1⟩
  obtain ⟨hlt,rfl⟩:=Z9 hy;have mj:=L2.getD_mem hlt;have e9:js[i]?=some (js.getD i 0):=by rw [q6x,List.getElem?_eq_getElem hlt];rfl
  generalize js.getD i 0=j at mj e9;obtain ⟨j0,j1⟩:=hj j mj;have hx1:=m1.mask' ex (by show k<(M.mq.set k _).length;rw [List.length_set];exact hk');rw [st] at hx1;refine ⟨_,rfl,_,rfl,x,_,_,j.toNat,rfl,rfl,hx1,set_one (by omega) (by rw [YY,ZR,lm];omega),_,rfl,?_⟩;have m2:=m1.putMask ex (by show k<(M.mq.set k _).length;rw [List.length_set];exact hk') (sel (clr (M.mq.getD k []) M.wq.toNat) (js.take (i+1)));rw [ss] at m2
  have e:((sel (clr (M.mq.getD k []) M.wq.toNat) (js.take (i+1))).map V.bl)=((sel (clr (M.mq.getD k []) M.wq.toNat) (js.take i)).map V.bl).set j.toNat (.bl true):=by
   rw [List.take_add_one,e9];show ((sel _ (js.take i++[j])).map V.bl)=_;rw [sel_snoc,List.map_set]
  rw [e] at m2;exact m2
 rintro σ J1 ⟨u,rfl,m1⟩;rw [Je,List.take_length] at m1;generalize hb:sel (clr (M.mq.getD k []) M.wq.toNat) js=b1 at m1;have lb1:b1.length=4*M.lq:=by rw [← hb,YY,ZR,lm]
 obtain ⟨wn,ew⟩:∃ n:Nat,M.wq=n:=⟨M.wq.toNat,by omega⟩;obtain ⟨rn,er⟩:∃ n:Nat,M.group*M.lq=n:=⟨(M.group*M.lq).toNat,by omega⟩;refine ⟨_,rfl,A.b,_,_,_,.int M.wq,rfl,m1.b,CN.c,CN.wq,rfl,_,rfl,A.b,_,_,_,.int M.group,rfl,m1.b,CN.c,CN.group,rfl,_,rfl,A.b,_,_,_,.int M.lq,rfl,m1.b,CN.c,CN.lq,rfl,_,_,rfl,rfl,.inl ⟨by omega,by omega⟩,_,_,rfl,?_,?_⟩
 ·exact ⟨by omega,by omega,by show -(2 ^ 62)<=M.group*M.lq;omega,by show M.group*M.lq<2 ^ 62;omega⟩
 have en:(M.group*M.lq-M.wq).toNat=M.room-M.wq.toNat:=by unfold Mc.room;omega
 show tFor_S _ _ _ _ _ _;let Pv3:Nat->St->Hp->Prop:=(λi σ J=>∃ u,σ=[rq A.b,iq k,rq aa,rq x,u]/\MAt c B A { M with mq:=M.mq.set k (dst M.dust M.dq b1 M.wq.toNat i),dq:=M.dq+i } R J);refine Zo (lo:=M.wq) (n:=(M.group*M.lq-M.wq).toNat) Pv3 ⟨u,rfl,m1⟩ ?_ ?_
 ·rintro i σ J hi ⟨u,rfl,m2⟩
  refine ⟨_,rfl,A.b,_,_,_,.ref A.fd,rfl,m2.b,CN.c,CN.dust,rfl,A.fd,_,_,rfl,m2.h.get 4 rfl,rfl,A.fd,A.dfd,A.aD,M.dust,M.dq+i,rfl,m2.h.get 4 rfl,m2.h.sm _ _ m2.bb.dl,λJ3 k3 e3=>?_⟩;have m3:=m2.took k3 e3;refine ⟨_,_,rfl,rfl,(by show (0:Int)<2;decide),rfl,_,rfl,_,rfl,?_⟩;have hx1:=m3.mask' ex (by show k<(M.mq.set k _).length;rw [List.length_set];exact hk');have e0:(M.mq.set k (dst M.dust M.dq b1 M.wq.toNat i)).getD k []=dst M.dust M.dq b1 M.wq.toNat i:=by rw [q6x,q8z hk'];rfl
  have hx1:J3 x=some (.lst ((dst M.dust M.dq b1 M.wq.toNat i).map V.bl)):=by rw [← e0];exact hx1
  refine ⟨x,_,_,M.wq.toNat+i,rfl,rfl,hx1,set_one (by omega) (by rw [XV,lb1];omega),_,rfl,?_⟩;have m4:=m3.putMask ex (by show k<(M.mq.set k _).length;rw [List.length_set];exact hk') (dst M.dust M.dq b1 M.wq.toNat (i+1))
  have e:((dst M.dust M.dq b1 M.wq.toNat (i+1)).map V.bl)=((dst M.dust M.dq b1 M.wq.toNat i).map V.bl).set (M.wq.toNat+i) (.bl (decide (V.int (fVal M.dust (M.dq+i) % 2)=V.int 1))):=by
   rw [zed,List.map_set];congr 2;by_cases z:fVal M.dust (M.dq+i) % 2=1
   ·rw [z];rfl
   ·rw [decide_eq_false z,decide_eq_false (λq=>z (V.int.inj q))]
  rw [e] at m4;have e2:({ ({ ({ M with mq:=M.mq.set k (dst M.dust M.dq b1 M.wq.toNat i),dq:=M.dq+i }:Mc) with dq:=M.dq+i+1 }:Mc) with mq:=(M.mq.set k (dst M.dust M.dq b1 M.wq.toNat i)).set k (dst M.dust M.dq b1 M.wq.toNat (i+1)) }:Mc)={ M with mq:=M.mq.set k (dst M.dust M.dq b1 M.wq.toNat (i+1)),dq:=M.dq+(i+1) }:=by rw [List.set_set];rfl
  have m4:MAt c B A { M with mq:=M.mq.set k (dst M.dust M.dq b1 M.wq.toNat (i+1)),dq:=M.dq+(i+1) } R _:=e2 ▸ m4;exact m4
 ·rintro σ J2 ⟨u,rfl,m2⟩
  refine q J2 ?_;rw [en] at m2;unfold Mc.laidMask Mc.maskOf;rw [hb];exact m2
def Mc.layOne (told:Jh) (p:Nat) (M:Mc) (t:Nat):Mc:=match zO told (.inl (t:Int)) with
 | some (.int n)=>{ M with nums:=M.nums.set ((p:Int)*M.group*M.lq+t).toNat n }
 | _=>{ M with nums:=M.nums.set ((p:Int)*M.group*M.lq+t).toNat (fVal M.dust M.dq),dq:=M.dq+1 }
def Mc.layTo (told:Jh) (p:Nat) (M:Mc) (n:Nat):Mc:=(List.range n).foldl (λM t=>M.layOne told p t) M
def Mc.laidSeat (M:Mc) (told:Jh) (p:Nat):Mc:=M.layTo told p M.room
def Mc.layTo_succ (told:Jh) (p:Nat) (M:Mc) (n:Nat):M.layTo told p (n+1)=(M.layTo told p n).layOne told p n:=by unfold Mc.layTo;rw [List.range_succ,List.foldl_append];rfl
structure SeatSame (M N:Mc):Prop where
 g:N.group=M.group
 l:N.lq=M.lq
 n:N.nums.length=M.nums.length
 d:N.dust=M.dust
def Mc.layOne_same (told:Jh) (p:Nat) (M:Mc) (t:Nat):SeatSame M (M.layOne told p t):=by
 unfold Mc.layOne
 split
 ·exact ⟨rfl,rfl,List.length_set ..,rfl⟩
 ·exact ⟨rfl,rfl,List.length_set ..,rfl⟩
theorem Mc.layTo_same (told:Jh) (p:Nat) (M:Mc):∀ n,SeatSame M (M.layTo told p n)
 | 0=>⟨rfl,rfl,rfl,rfl⟩
 | n+1=>by
  have a:=Mc.layTo_same told p M n;have b:=Mc.layOne_same told p (M.layTo told p n) n;rw [M.layTo_succ];exact ⟨b.g.trans a.g,b.l.trans a.l,b.n.trans a.n,b.d.trans a.d⟩
section
variable {c:MCs} {B:Hp} {A:Ma} {M:Mc} {R:Ji} {H H':Hp}
def MAt.putNums (m:MAt c B A M R H) (ns:J6):MAt c B A { M with nums:=ns } R (upd H A.aN (.lst (ns.map V.int))) :=
 ⟨{m.bb with},m.h.put (o':=.lst (ns.map V.int)) 2 rfl⟩
end
def xo (js:J6) (vs:List (Option Int)):Jh:=putAll [] ((js.map Sum.inl).zip (vs.map oV))
theorem zad:∀ (ps:Jh) (md:Jh) (P:V->Prop),(∀ p∈ps,P p.2)->(∀ k v,zO md k=some v->P v)->∀ k v,zO (putAll md ps) k=some v->P v
 | [],_,_,_,h,k,v,e=>h k v e
 | p::ps,md,P,hp,h,k,v,e=>by
  refine zad ps (yL md p.1 p.2) P (λq hq=>hp q (q6y _ hq)) (λk' v' e'=>?_) k v e;rw [xU] at e'
  split at e'
  ·cases e';exact hp p q6z
  ·exact h k' v' e'
def told_val {js:J6} {vs:List (Option Int)} {k:Key} {v:V} (e:zO (xo js vs) k=some v):v=.non∨∃ n,v=.int n:=by
 refine zad _ [] (λv=>v=.non∨∃ n,v=.int n) (λp hp=>?_) (λk v e=>by cases e) k v e;obtain ⟨o,_,eo⟩:=List.mem_map.mp (List.of_mem_zip hp).2
 cases o with
 | none=>exact .inl eo.symm
 | some n=>exact .inr ⟨n,eo.symm⟩
inductive spSeat (c:MCs) (K:Fg) (vs:Jj) (H:Hp) (Q:VK) (_:XK):Prop
 | mk (B:Hp) (A:Ma) (M:Mc) (R:Ji) (p:Nat) (aa an:Ad) (js:J6) (ns:List (Option Int)) (_:vs=[.ref A.b,.int p,.ref aa,.ref an]) (_:MAt c B A M R H) (_:MOk M) (_:((p:Int)+1)*M.group<=8) (_:B aa=some (.lst (js.map V.int))) (_:B an=some (.lst (ns.map oV))) (_:js.length=ns.length) (_:∀ B' H',Same B B'->MAt c B' A (M.laidSeat (xo js ns) p) R H'->Q .non H')
def ok_seat {c:MCs} (d:zN K c.bn "lay_seat" "Bench.lay_seat" yW Ud) (hrg:mg "range"=none) (hdict:mg "dict"=none) (hzip:mg "zip"=none) (CC:MCls K c) (TK:OkM P w K mg base CX0 1 c.fe "taken" ["self"] (spTaken c.fe)) (LA:OkM P w K mg base CX0 2 c.bx "lay" qP (spLay c.bx)):OkM P w K mg base CX0 3 c.bn "lay_seat" Ud (spSeat c K):=by
 refine oMf d sc_Bench_lay_seat λf mh A _ s H vs Q E hr h=>?_;obtain ⟨B,A,M,R,p,aa,an,js,ns,rfl,m,ok,h8,ea,en,le,q⟩:=h;have nd:=sc_Bench_lay_seat.nd;have hr2:=hr;have hr1:=hr.mono (show 1<=2 by decide);have hu:=Nat.lt_of_le_of_lt (Nat.add_le_add_left (show 1<=64 by decide) _) hr.units;have CN:=CC.n;have l1:=ok.l1;have l64:=ok.l64;have hg:=ok.g;have rb:M.group*M.lq<=4*M.lq/\1<=M.group*M.lq:=by rcases hg with e | e | e <;> rw [e] <;> omega
 refine ⟨_,(zd (oRz 4 nd (ze3 rfl (by rfl) hdict (by rfl) hzip (zb (pv 2) (zb (pv 3) zc))))
   (zf (x6 PassesOwn.never rfl (yY rfl hrg (zb (zn yC (zh (pv 0) rfl) (zh (pv 0) rfl)) zc)) (oQz 5 nd) (zd (oRz 6 nd (pe_dget1 hu (pv 4) (pv 5) ⟨rfl,rfl,rfl,rfl⟩))
   (zd (Yr (zL (zF zak (pv 6) xv (zJ _)) (zf (oRz 6 nd (pe_okM0 TK CC.f.c hr1 zo (zh (pv 0) rfl)))) zy))
   (zf (zG (zW LA CC.b.c hr2 zo (zh (pv 0) rfl) (zb (zh (pv 0) rfl) (zb (pv 1) (zb (pv 5) (zb (pv 6) zc)))))))))))),?_⟩
 dsimp only [yd,Cx.nox,Cx.wish];have ek:(js.map (Sum.inl:Int->Key)).map kV=js.map V.int:=by rw [List.map_map];rfl
 refine ⟨_,rfl,_,rfl,aa,an,js.map Sum.inl,ns.map oV,rfl,(by rw [ek];exact SqL.of (m.h.sm _ _ ea)),SqL.of (m.h.sm _ _ en),(by rw [Je,Je,le]),λdt ndt=>?_⟩;show gName 4 (.ref dt) _ (upd H dt (.dK (xo js ns))) _;generalize et:xo js ns=told at q;have tv:∀ k v,zO told k=some v->v=.non∨∃ n,v=.int n:=λk v e=>by rw [← et] at e;exact told_val e
 have sB:Same B (upd B dt (.dK told)):=zt (Same.refl _) (m.h.free ndt);have m1:=m.grow (o:=.dK told) ndt;have ed:upd B dt (.dK told) dt=some (.dK told):=zi;generalize upd B dt (.dK told)=B1 at sB m1 ed;generalize upd H dt (.dK told)=H1 at m1;refine ⟨_,rfl,A.b,_,_,_,.int M.group,rfl,m1.b,CN.c,CN.group,rfl,_,rfl,A.b,_,_,_,.int M.lq,rfl,m1.b,CN.c,CN.lq,rfl,_,_,rfl,rfl,.inl ⟨by omega,by omega⟩,_,rfl,(by show -(2 ^ 62)<=M.group*M.lq;omega),(by show M.group*M.lq<2 ^ 62;omega),?_⟩;show tFor_S _ _ _ _ _ _;refine Zo (n:=M.room) (λi σ J=>∃ u5 u6,σ=[rq A.b,iq p,rq aa,rq an,rq dt,u5,u6]/\MAt c B1 A (M.layTo told p i) R J) ⟨none,none,rfl,m1⟩ ?_ ?_
 ·rintro i σ J hi ⟨u5,u6,rfl,m2⟩
  have ss:=M.layTo_same told p i;have edJ:=m2.h.sm _ _ ed;have hi':(i:Int)<M.group*M.lq:=by unfold Mc.room at hi;omega
  obtain ⟨s0,s1⟩:=zb9 hg (show (1:Int)<=M.lq by omega) (show (0:Int)<=p by omega) h8 (show (0:Int)<=i by omega) hi';refine ⟨_,rfl,dt,rfl,.inl ⟨told,.inl edJ⟩,_,rfl,_,DGet.k (k:=.inl (0+(i:Int))) edJ,?_⟩;rw [Int.zero_add];rw [M.layTo_succ];generalize hM:M.layTo told p i=N at m2 ss ⊢;refine ⟨λσ' H'=>∃ (n:Int) (N':Mc),σ'=[rq A.b,iq p,rq aa,rq an,rq dt,iq i,iq n]/\MAt c B1 A N' R H'/\SeatSame M N'/\N.layOne told p i={ N' with nums:=N'.nums.set ((p:Int)*M.group*M.lq+i).toNat n },?_,?_⟩
  ·cases ev:zO told (.inl (i:Int)) with
   | none =>
    refine ⟨_,rfl,rfl,_,rfl,yo (λz=>?_) (λz=>absurd (show decide (V.non=V.non)=true by decide) z)⟩;refine ⟨_,rfl,A.b,_,_,_,.ref A.fd,rfl,m2.b,CN.c,CN.dust,rfl,A.fd,_,_,rfl,m2.h.get 4 rfl,rfl,A.fd,A.dfd,A.aD,N.dust,N.dq,rfl,m2.h.get 4 rfl,m2.h.sm _ _ m2.bb.dl,λJ3 k3 e3=>?_⟩;refine ⟨_,_,rfl,m2.took k3 e3,⟨ss.g,ss.l,ss.n,ss.d⟩,?_⟩;unfold Mc.layOne;rw [ev,ss.g,ss.l]
   | some v =>
    rcases tv _ _ ev with rfl | ⟨n,rfl⟩
    ·refine ⟨_,rfl,rfl,_,rfl,yo (λz=>?_) (λz=>absurd (show decide (V.non=V.non)=true by decide) z)⟩
     refine ⟨_,rfl,A.b,_,_,_,.ref A.fd,rfl,m2.b,CN.c,CN.dust,rfl,A.fd,_,_,rfl,m2.h.get 4 rfl,rfl,A.fd,A.dfd,A.aD,N.dust,N.dq,rfl,m2.h.get 4 rfl,m2.h.sm _ _ m2.bb.dl,λJ3 k3 e3=>?_⟩;refine ⟨_,_,rfl,m2.took k3 e3,⟨ss.g,ss.l,ss.n,ss.d⟩,?_⟩;unfold Mc.layOne;rw [ev,ss.g,ss.l]
    ·refine ⟨_,rfl,rfl,_,rfl,yo (λz=>absurd z (λy=>by cases of_decide_eq_true y)) (λz=>?_)⟩
     refine ⟨n,N,rfl,m2,ss,?_⟩;unfold Mc.layOne;rw [ev,ss.g,ss.l]
  rintro σ' H' ⟨n,N',rfl,m3,ss',e⟩;rw [e];have eg:=ss'.g;have el:=ss'.l;refine ⟨_,rfl,A.b,_,_,_,.ref A.bx,rfl,m3.b,CN.c,CN.boxes,rfl,A.bx,_,_,rfl,m3.h.sm _ _ m3.bb.bx,rfl,_,rfl,A.b,_,_,_,.int N'.group,rfl,m3.b,CN.c,CN.group,rfl,_,rfl,_,rfl,_,rfl,A.bx,A.dbx,A.aN,N'.lq,N'.group,p,(i:Int),n,N'.nums,rfl,m3.h.sm _ _ m3.bb.bx,m3.h.get 2 rfl,by rw [el];omega,by rw [el];omega,by rw [eg];omega,by rw [eg];omega,?_,?_,?_⟩
  ·rw [eg,el];exact s0
  ·rw [eg,el,ss'.n,ok.nl];omega
  ·refine ⟨_,_,rfl,?_⟩
   have:=m3.putNums (N'.nums.set ((p:Int)*N'.group*N'.lq+i).toNat n);rw [← eg,← el];exact this
 ·rintro σ J ⟨u5,u6,rfl,m2⟩
  exact q B1 J sB m2
section
variable {c:MCs} {B:Hp} {A:Ma} {M:Mc} {R:Ji} {H H':Hp}
def MAt.s_pc (m:MAt c B A M R H) (v:Int):MAt c B A { M with pc:=v } R (upd H A.b (.ins c.bn A.db (zS "at" (.int v) (xn A M)))) :=
 ⟨{m.bb with},m.h.put (o':=.ins c.bn A.db (zS "at" (.int v) (xn A M))) 0 rfl⟩
def MAt.s_opened (m:MAt c B A M R H) (v:Int):MAt c B A { M with oq:=v } R (upd H A.b (.ins c.bn A.db (zS "opened" (.int v) (xn A M)))) :=
 ⟨{m.bb with},m.h.put (o':=.ins c.bn A.db (zS "opened" (.int v) (xn A M))) 0 rfl⟩
def MAt.s_many (m:MAt c B A M R H) (v:Int):MAt c B A { M with mn_:=v } R (upd H A.b (.ins c.bn A.db (zS "many" (.int v) (xn A M)))) :=
 ⟨{m.bb with},m.h.put (o':=.ins c.bn A.db (zS "many" (.int v) (xn A M))) 0 rfl⟩
def MAt.s_group (m:MAt c B A M R H) (v:Int):MAt c B A { M with group:=v } R (upd H A.b (.ins c.bn A.db (zS "group" (.int v) (xn A M)))) :=
 ⟨{m.bb with},m.h.put (o':=.ins c.bn A.db (zS "group" (.int v) (xn A M))) 0 rfl⟩
def MAt.s_base (m:MAt c B A M R H) (v:Int):MAt c B A { M with base:=v } R (upd H A.b (.ins c.bn A.db (zS "base" (.int v) (xn A M)))) :=
 ⟨{m.bb with},m.h.put (o':=.ins c.bn A.db (zS "base" (.int v) (xn A M))) 0 rfl⟩
def MAt.s_begun (m:MAt c B A M R H) (v:Int):MAt c B A { M with bq:=v } R (upd H A.b (.ins c.bn A.db (zS "begun" (.int v) (xn A M)))) :=
 ⟨{m.bb with},m.h.put (o':=.ins c.bn A.db (zS "begun" (.int v) (xn A M))) 0 rfl⟩
def MAt.s_width (m:MAt c B A M R H) (v:Int):MAt c B A { M with wq:=v } R (upd H A.b (.ins c.bn A.db (zS "width" (.int v) (xn A M)))) :=
 ⟨{m.bb with},m.h.put (o':=.ins c.bn A.db (zS "width" (.int v) (xn A M))) 0 rfl⟩
def MAt.s_cut (m:MAt c B A M R H) (v:Option Int):MAt c B A { M with cut:=v } R (upd H A.b (.ins c.bn A.db (zS "cut" (oV v) (xn A M)))) :=
 ⟨{m.bb with},m.h.put (o':=.ins c.bn A.db (zS "cut" (oV v) (xn A M))) 0 rfl⟩
def MAt.s_carried (m:MAt c B A M R H) (v:Option Int):MAt c B A { M with cq:=v } R (upd H A.b (.ins c.bn A.db (zS "carried" (oV v) (xn A M)))) :=
 ⟨{m.bb with},m.h.put (o':=.ins c.bn A.db (zS "carried" (oV v) (xn A M))) 0 rfl⟩
def MAt.s_faults (m:MAt c B A M R H) {n:Ad} (nn:H n=none):MAt c B { A with aF:=n } { M with fq:=[] } R (upd (upd H n (.dK [])) A.b (.ins c.bn A.db (zS "faults" (.ref n) (xn A M)))):=by
 have h:=(m.h.new (o:=.dK []) nn).put (o':=.ins c.bn A.db (zS "faults" (.ref n) (xn A M))) 1 rfl;refine ⟨{m.bb with},?_⟩;have h2:=h.sub (L':=(n,.dK [])::(A.b,.ins c.bn A.db (zS "faults" (.ref n) (xn A M)))::(A.aC,.lst (M.cells.map V.int))::(A.aN,.lst (M.nums.map V.int))::(A.aSl,.dK M.slots)::(A.fd,YM c.fe A.dfd A.aD (fAt M.dust M.dq))::(A.fp,YM c.fe A.dfp A.aP (fAt M.picks M.pq))::(A.aT,.lst (A.ts.map V.ref))::(A.aU,.lst (A.us.map V.ref))::(ZX A M++R)) (.cons₂ _ (.cons₂ _ (.cons₂ _ (.cons₂ _ (.cons₂ _ (.cons₂ _ (.cons₂ _ (.cons₂ _ (.cons _ (List.Sublist.refl _))))))))));refine h2.perm ?_;exact (List.perm_middle (a:=(n,HO.dK [])) (l₁:=[_,_,_,_,_,_,_]) (l₂:=_::_)).symm
end
structure MOk0 (M:Mc):Prop where
 l1:1<=M.lq
 l64:M.lq<=64
 nl:M.nums.length=8*M.lq
 ml:M.mq.length=16
 mm:∀ m∈M.mq,m.length=4*M.lq
def MOk.zero {M:Mc} (ok:MOk M):MOk0 M:=⟨ok.l1,ok.l64,ok.nl,ok.ml,ok.mm⟩
def MOk0.strip {M:Mc} (ok:MOk0 M) (hg:M.group=1∨M.group=2∨M.group=4) {w b:Int} (h0:0<=w) (h1:w<=M.group*M.lq):MOk { M with base:=b,wq:=w,bq:=w,fq:=[],cut:=none }:=⟨ok.l1,ok.l64,hg,ok.nl,ok.ml,ok.mm,h0,h1⟩
def Mc.wide (M:Mc) (b:Int):Int:=if M.group*M.lq<M.mn_-b then M.group*M.lq else M.mn_-b
def Mc.strip (M:Mc) (b:Int):Mc:=({ M with base:=b,wq:=M.wide b,bq:=M.wide b,fq:=[],cut:=none }:Mc).laidMask 0 (Zr (M.wide b).toNat)
inductive spStrip (c:MCs) (vs:Jj) (H:Hp) (Q:VK) (_:XK):Prop
 | mk (B:Hp) (A:Ma) (M:Mc) (R:Ji) (b:Int) (_:vs=[.ref A.b,.int b]) (_:MAt c B A M R H) (_:MOk0 M) (_:(M.group=1∨M.group=2∨M.group=4)) (_:b<=M.mn_) (_:∀ B' A' H',Same B B'->A'.b=A.b->MAt c B' A' (M.strip b) R H'->Q .non H')
def ok_strip {c:MCs} (d:zN K c.bn "begin_strip" "Bench.begin_strip" yq Uv) (hrg:mg "range"=none) (hlist:mg "list"=none) (hmin:mg "min"=none) (CC:MCls K c) (LM:OkM P w K mg base CX0 2 c.bn "lay_mask" Uh (spMask c K)):OkM P w K mg base CX0 3 c.bn "begin_strip" Uv (spStrip c):=by
 refine oMf d sc_Bench_begin_strip λf mh A _ s H vs Q E hr h=>?_;obtain ⟨B,A,M,R,b,rfl,m,ok,hg,hb,q⟩:=h;have nd:=sc_Bench_begin_strip.nd;have hr2:=hr;have CN:=CC.n;have l1:=ok.l1;have l64:=ok.l64;have rb:M.group*M.lq<=4*M.lq/\1<=M.group*M.lq:=by rcases hg with e | e | e <;> rw [e] <;> omega
 have w01:0<=M.wide b/\M.wide b<=M.group*M.lq:=by unfold Mc.wide;split <;> omega
 refine ⟨_,(zd (zu (pv 0) (pv 1) rfl)
   (zd (zu (pv 0) (zp (zb1 rfl) (by rfl) hmin PyProof.Rows.boot_min (zb (zn y9 (zh (pv 0) rfl) (pv 1)) (zb (zn yC (zh (pv 0) rfl) (zh (pv 0) rfl)) zc))) rfl)
   (zd (zu (pv 0) (zh (pv 0) rfl) rfl)
   (zd (zu (pv 0) zai rfl)
   (zd (zu (pv 0) xv rfl)
   (zf (zG (zW LM CC.n.c hr2 zo (pv 0) (zb zg (zb (xh (zbj rfl) (by rfl) hlist PyProof.Rows.boot_list (zb (xh zen (by rfl) hrg PyProof.Rows.boot_range (zb (zh (pv 0) rfl) zc)) zc)) zc)))))))))),?_⟩
 dsimp only [yd,Cx.nox,Cx.wish];show (let s1:L2.TS:=_;let s2:L2.TS:=L2.tSeq _ s1;let s3:L2.TS:=L2.tSeq _ s2;let s4:L2.TS:=L2.tSeq _ s3;let s5:L2.TS:=L2.tSeq _ s4;L2.tSeq _ s5 _ _ _);intro s1 s2 s3 s4 s5;refine ⟨_,rfl,_,rfl,A.b,_,_,_,rfl,m.b,CN.c,CN.base,(by show 23<1000;decide),?_⟩;have m:=m.s_base b;refine ⟨_,rfl,A.b,_,_,_,.int M.mn_,rfl,m.b,CN.c,CN.mn_,rfl,_,rfl,_,_,rfl,rfl,_,rfl,A.b,_,_,_,.int M.group,rfl,m.b,CN.c,CN.group,rfl,_,rfl,A.b,_,_,_,.int M.lq,rfl,m.b,CN.c,CN.lq,rfl,_,_,rfl,rfl,.inl ⟨by omega,by omega⟩,_,_,rfl,_,rfl,A.b,_,_,_,rfl,m.b,CN.c,CN.wq,(by show 23<1000;decide),?_⟩;have m:=m.s_width (M.wide b);refine ⟨_,rfl,A.b,_,_,_,.int (M.wide b),rfl,m.b,CN.c,CN.wq,rfl,_,rfl,A.b,_,_,_,rfl,m.b,CN.c,CN.bq,(by show 23<1000;decide),?_⟩;have m:=m.s_begun (M.wide b);refine λn nn=>?_;have mf:=m.s_faults nn;refine ⟨_,rfl,A.b,_,_,_,rfl,(by rw [zj (zq m.b nn)];exact m.b),CN.c,CN.fq,(by show 23<1000;decide),?_⟩;have m:=mf;refine ⟨_,rfl,A.b,_,_,_,rfl,m.b,CN.c,CN.cut,(by show 23<1000;decide),?_⟩;have m:=m.s_cut none;obtain ⟨wn,ew⟩:∃ wn:Nat,M.wide b=wn:=⟨(M.wide b).toNat,by omega⟩;have ok2:MOk { M with base:=b,wq:=M.wide b,bq:=M.wide b,fq:=[],cut:=none }:=ok.strip hg w01.1 w01.2;refine ⟨_,rfl,A.b,_,_,rfl,m.b,rfl,_,rfl,A.b,_,_,_,.int (M.wide b),rfl,m.b,CN.c,CN.wq,rfl,_,rfl,λrg nrg=>?_⟩;have m1:=m.grow (o:=.rng 0 (M.wide b)) nrg;have s1:Same B (upd B rg (.rng 0 (M.wide b))):=zt (Same.refl _) (m.h.free nrg);have e1:upd B rg (.rng 0 (M.wide b)) rg=some (.rng 0 (M.wide b)):=zi;generalize upd B rg (.rng 0 (M.wide b))=B1 at m1 s1 e1;refine ⟨rg,wn,rfl,(by rw [← ew];exact m1.h.sm _ _ e1),by omega,λl nl=>?_⟩;have m2:=m1.grow (o:=.lst ((Zr wn).map V.int)) nl;have s2:Same B1 (upd B1 l (.lst ((Zr wn).map V.int))):=zt (Same.refl _) (m1.h.free nl);have e2:upd B1 l (.lst ((Zr wn).map V.int)) l=some (.lst ((Zr wn).map V.int)):=zi;generalize upd B1 l (.lst ((Zr wn).map V.int))=B2 at m2 s2 e2;refine ⟨B2,{ A with aF:=n },{ M with base:=b,wq:=M.wide b,bq:=M.wide b,fq:=[],cut:=none },R,0,l,Zr wn,rfl,m2,ok2,by decide,e2,(λj hj=>?_),λH9 m9=>?_⟩
 ·obtain ⟨i,hi,rfl⟩:=List.mem_map.mp hj
  have:=List.mem_range.mp hi;show 0<=(i:Int)/\(i:Int)<M.group*M.lq;omega
 ·refine q B2 { A with aF:=n } H9 (s1.trans s2) rfl ?_
  unfold Mc.strip;rw [ew,q0z];rw [ew] at m9;exact m9
def Mc.round (M:Mc) (mn_ mi:Int):Mc:=({ M with oq:=M.pc,mn_:=mn_,group:=mi,cq:=none }:Mc).strip 0
inductive spRound (c:MCs) (vs:Jj) (H:Hp) (Q:VK) (_:XK):Prop
 | mk (B:Hp) (A:Ma) (M:Mc) (R:Ji) (mn_ mi:Int) (_:vs=[.ref A.b,.int mn_,.int mi]) (_:MAt c B A M R H) (_:MOk0 M) (_:(mi=1∨mi=2∨mi=4)) (_:0<=mn_) (_:∀ B' A' H',Same B B'->A'.b=A.b->MAt c B' A' (M.round mn_ mi) R H'->Q .non H')
def ok_round {c:MCs} (d:zN K c.bn "open_round" "Bench.open_round" yv Uj) (CC:MCls K c) (BS:OkM P w K mg base CX0 3 c.bn "begin_strip" Uv (spStrip c)):OkM P w K mg base CX0 4 c.bn "open_round" Uj (spRound c):=by
 refine oMf d sc_Bench_open_round λf mh A _ s H vs Q E hr h=>?_;obtain ⟨B,A,M,R,mn_,mi,rfl,m,ok,hg,hm,q⟩:=h;have nd:=sc_Bench_open_round.nd;have hr3:=hr;have CN:=CC.n;refine ⟨_,(zd (zu (pv 0) (zh (pv 0) rfl) rfl)
   (zd (zu (pv 0) (pv 1) rfl)
   (zd (zu (pv 0) (pv 2) rfl)
   (zd (zu (pv 0) xv rfl)
   (zf (zG (zW BS CC.n.c hr3 zo (pv 0) (zb zg zc)))))))),?_⟩
 dsimp only [yd,Cx.nox,Cx.wish];show (let s1:L2.TS:=_;let s2:L2.TS:=L2.tSeq _ s1;let s3:L2.TS:=L2.tSeq _ s2;let s4:L2.TS:=L2.tSeq _ s3;L2.tSeq _ s4 _ _ _);intro s1 s2 s3 s4;refine ⟨_,rfl,A.b,_,_,_,.int M.pc,rfl,m.b,CN.c,CN.pc,rfl,_,rfl,A.b,_,_,_,rfl,m.b,CN.c,CN.oq,(by show 23<1000;decide),?_⟩;have m:=m.s_opened M.pc;refine ⟨_,rfl,_,rfl,A.b,_,_,_,rfl,m.b,CN.c,CN.mn_,(by show 23<1000;decide),?_⟩;have m:=m.s_many mn_;refine ⟨_,rfl,_,rfl,A.b,_,_,_,rfl,m.b,CN.c,CN.group,(by show 23<1000;decide),?_⟩;have m:=m.s_group mi;refine ⟨_,rfl,A.b,_,_,_,rfl,m.b,CN.c,CN.cq,(by show 23<1000;decide),?_⟩;have m:=m.s_carried none;exact ⟨_,rfl,A.b,_,_,rfl,m.b,rfl,B,A,{ M with oq:=M.pc,mn_:=mn_,group:=mi,cq:=none },R,0,rfl,m,⟨ok.l1,ok.l64,ok.nl,ok.ml,ok.mm⟩,hg,hm,λB' A' H' s eb m'=>q B' A' H' s eb m'⟩
end K44
namespace L2
open PySem
def zcy {X:Cx} {K:Fg} (e:X.K=K):IxR X (rIxT K):=by subst e;exact zI
end L2
namespace K44
open PySem L2 FM
variable {P:Program} {w:World} {K:Fg} {mg:J0} {base:Heap}
structure TabA where
 s:Ad
 e:Ad
 w:Ad
structure Tabs (w:World) (K:Fg) (mg:J0) (t:TabA):Prop where
 Ts:xT w K t.s
 Te:xT w K t.e
 Tw:xT w K t.w
 ls:(t.s == sysModules)=false
 le:(t.e == sysModules)=false
 hs:mg "SEAT_STEPS"=some (.ref t.s)
 he:mg "EFFECTS"=some (.ref t.e)
 hw:mg "WAYS"=some (.ref t.w)
 s_number:zK K mg t.s "number" "numbers_written"
 s_here:zK K mg t.s "here" "numbers_of_here"
 s_load:zK K mg t.s "load" "numbers_loaded"
 s_spread:zK K mg t.s "spread" "numbers_spread"
 s_shift:zK K mg t.s "shift" "numbers_shifted"
 s_gather:zK K mg t.s "gather" "numbers_gathered"
 s_op:zK K mg t.s "op" "numbers_joined"
 s_pick:zK K mg t.s "pick" "numbers_picked"
 s_copy:zK K mg t.s "copy" "numbers_copied"
 s_bring:zK K mg t.s "bring" "numbers_brought"
 e_reach:zK K mg t.e "reach" "play_reach"
 es_reach:PySem.W.nsIn K t.s "reach"=some none
 e_trim:zK K mg t.e "trim" "play_trim"
 es_trim:PySem.W.nsIn K t.s "trim"=some none
 e_stop:zK K mg t.e "stop" "play_stop"
 es_stop:PySem.W.nsIn K t.s "stop"=some none
 e_choose:zK K mg t.e "choose" "play_choose"
 es_choose:PySem.W.nsIn K t.s "choose"=some none
 e_other:zK K mg t.e "other" "play_other"
 es_other:PySem.W.nsIn K t.s "other"=some none
 e_save:zK K mg t.e "save" "play_save"
 es_save:PySem.W.nsIn K t.s "save"=some none
 e_store:zK K mg t.e "store" "play_store"
 es_store:PySem.W.nsIn K t.s "store"=some none
 e_put:zK K mg t.e "put" "play_put"
 es_put:PySem.W.nsIn K t.s "put"=some none
 e_fold:zK K mg t.e "fold" "play_fold"
 es_fold:PySem.W.nsIn K t.s "fold"=some none
 e_running:zK K mg t.e "running" "play_running"
 es_running:PySem.W.nsIn K t.s "running"=some none
 e_any:zK K mg t.e "any" "play_any"
 es_any:PySem.W.nsIn K t.s "any"=some none
 w_begin:zK K mg t.w "begin" "play_begin"
 ws_begin:PySem.W.nsIn K t.s "begin"=some none
 we_begin:PySem.W.nsIn K t.e "begin"=some none
 w_next:zK K mg t.w "next" "play_next"
 ws_next:PySem.W.nsIn K t.s "next"=some none
 we_next:PySem.W.nsIn K t.e "next"=some none
 w_turns:zK K mg t.w "turns" "play_turns"
 ws_turns:PySem.W.nsIn K t.s "turns"=some none
 we_turns:PySem.W.nsIn K t.e "turns"=some none
 w_quiet:zK K mg t.w "quiet" "play_quiet"
 ws_quiet:PySem.W.nsIn K t.s "quiet"=some none
 we_quiet:PySem.W.nsIn K t.e "quiet"=some none
 w_till:zK K mg t.w "till" "play_till"
 ws_till:PySem.W.nsIn K t.s "till"=some none
 we_till:PySem.W.nsIn K t.e "till"=some none
abbrev FnM:=Jj->Mc->J6->Option (Mc×List (Option Int))
structure FnMOk (f:FnM):Prop where
 ok:∀ {tv M js M' ns},f tv M js=some (M',ns)->MOk M->MOk M'
 g:∀ {tv M js M' ns},f tv M js=some (M',ns)->M'.group=M.group
 n:∀ {tv M js M' ns},f tv M js=some (M',ns)->ns.length=js.length
inductive spFn (c:MCs) (f:FnM) (vs:Jj) (H:Hp) (Q:VK) (_:XK):Prop
 | mk (B:Hp) (A:Ma) (M:Mc) (R:Ji) (st aa:Ad) (tv:Jj) (js:J6) (M':Mc) (ns:List (Option Int)) (_:vs=[.ref A.b,.ref st,.ref aa]) (_:MAt c B A M R H) (_:B st=some (.tup tv)) (_:B aa=some (.lst (js.map V.int))) (_:f tv M js=some (M',ns)) (_:MOk M) (_:(∀ j∈js,0<=j/\j<M.group*M.lq)) (_:js.length<=1000) (_:∀ B' A' H' l,Same B B'->A'.b=A.b->MAt c B' A' M' R H'->B' l=some (.lst (ns.map oV))->Q (.ref l) H')
def seatM (f:FnM) (tv:Jj) (M:Mc):Option Mc:=match (tv[1]?:Jk),tv.getLast? with
 | some (V.int p),some (V.int k)=>if 0<=p/\(p+1)*M.group<=8/\0<=k/\k<16 then (f tv M (M.act k.toNat)).map λr=>r.1.laidSeat (xo (M.act k.toNat) r.2) p.toNat else none
 | _,_=>none
inductive spPSS (c:MCs) (S:Str->FnM->Prop) (vs:Jj) (H:Hp) (Q:VK) (_:XK):Prop
 | mk (word:Str) (f:FnM) (B:Hp) (A:Ma) (M:Mc) (R:Ji) (st:Ad) (tv:Jj) (M':Mc) (_:S word f) (_:vs=[.ref A.b,.ref st]) (_:MAt c B A M R H) (_:B st=some (.tup tv)) (_:tv[0]?=some (.str word)) (_:seatM f tv M=some M') (_:MOk M) (_:∀ B' A' H',Same B B'->A'.b=A.b->MAt c B' A' M' R H'->Q .non H')
def YC {M:Mc} (ok:MOk M) {k:Nat} (hk:k<16):M.wq.toNat<=(M.mq.getD k []).length/\M.wq.toNat<=1000:=by
 have ml:=ok.ml;have hk':k<M.mq.length:=by omega
 have l1:=ok.l1;have l64:=ok.l64;have w0:=ok.w0;have w1:=ok.w1
 have lm:(M.mq.getD k []).length=4*M.lq:=by
  rw [q6x,List.getElem?_eq_getElem hk'];exact ok.mm _ (List.getElem_mem hk')
 have rb:M.group*M.lq<=4*M.lq:=by rcases ok.g with e | e | e <;> rw [e] <;> omega
 rw [lm];omega
def zc7 {M:Mc} (ok:MOk M) (k:Nat):(∀ j∈M.act k,0<=j/\j<M.group*M.lq)/\(M.act k).length<=1000:=by
 have w0:=ok.w0;have w1:=ok.w1;refine ⟨λj hj=>?_,?_⟩
 ·obtain ⟨a,b,_⟩:=Mc.act_mem hj
  omega
 ·have:=M.actTo_len k M.wq.toNat
  have rb:M.group*M.lq<=4*M.lq:=by rcases ok.g with e | e | e <;> rw [e] <;> omega
  have:=ok.l64;unfold Mc.act;omega
def atI_lst {tv:Jj} {v:V} (h:tv.getLast?=some v):atI tv (-1)=some v:=by
 obtain ⟨l,rfl⟩:∃ l,tv=l++[v]:=by
  rw [List.getLast?_eq_some_iff] at h;exact h
 exact atI_last _ _
def XB (P:Program) (w:World) (K:Fg) (mg:J0) (base:Heap) (c:MCs) (t:TabA) (S:Str->FnM->Prop) (rm:Nat):Prop:=∀ word f,S word f->∃ (nm:Str) (ps:Jb),zK K mg t.s word nm/\Ok P w K mg base CX0 rm nm ps (spFn c f)/\FnMOk f
def ok_pss {c:MCs} {t:TabA} {S:Str->FnM->Prop} {rm:Nat} (d:zk K mg "play_seat_step" yR qC) (CC:MCls K c) (TT:Tabs w K mg t) (hrm:rm<=6) (AU:OkM P w K mg base CX0 1 c.bn "active_under" Um (spAct c)) (LS:OkM P w K mg base CX0 3 c.bn "lay_seat" Ud (spSeat c K))
  (SW:XB P w K mg base c t S rm):Ok P w K mg base CX0 7 "play_seat_step" qC (spPSS c S):=by
 refine oDf d sc_play_seat_step λg mh A _ s H vs Q E hr h=>?_;obtain ⟨word,f,B,A,M,R,st,tv,M',hS,rfl,m,es,e0,eM,ok,q⟩:=h;obtain ⟨nm,ps,sg,FN,fo⟩:=SW word f hS;have nd:=sc_play_seat_step.nd;have hr3:=hr.mono (show 3<=6 by decide);have hr1:=hr.mono (show 1<=6 by decide);have hrF:Room rm _:=hr.mono hrm;have CN:=CC.n;unfold seatM at eM
 split at eM
 case h_2=>cases eM
 rename_i p k e1 el
 split at eM
 case isFalse=>cases eM
 rename_i hc;obtain ⟨p0,p8,k0,k16⟩:=hc;obtain ⟨⟨M1,ns⟩,ef,rfl⟩:=Option.map_eq_some_iff.mp eM;obtain ⟨pn,rfl⟩:∃ n:Nat,p=n:=⟨p.toNat,by omega⟩;obtain ⟨kn,rfl⟩:∃ n:Nat,k=n:=⟨k.toNat,by omega⟩;rw [q0z] at ef;have kn16:kn<16:=by omega
 obtain ⟨mr1,mr2⟩:=YC ok kn16;obtain ⟨ai,al⟩:=zc7 ok kn;have ml:=ok.ml;refine ⟨_,(zd (oRz 2 nd (zW AU CC.n.c hr1 zo (pv 0) (zb (zB zI (pv 1) (pe_un zb7 zg) (λ_ _=>rfl)) zc)))
   (zf (zG (zW LS CC.n.c hr3 zo (pv 0) (zb (zB zI (pv 1) zg (λ_ _=>rfl)) (zb (pv 2) (zb (Xd (CX:=CX0) (k:=rm) (zB zcz (zZ TT.hs) (zB zI (pv 1) zg (λ_ _=>rfl)) (λ_ _=>rfl)) hrF zo (zb (pv 0) (zb (pv 1) (zb (pv 2) zc)))) zc))))))),?_⟩
 dsimp only [yd,Cx.nox,Cx.wish];refine ⟨_,rfl,A.b,_,_,rfl,m.b,rfl,_,rfl,_,rfl,st,_,_,_,rfl,rfl,SqT.of (m.h.sm _ _ es),atI_lst el,B,A,M,R,kn,rfl,m,by omega,ok.w0,mr1,mr2,λB1 H1 l s1 m1 ea=>?_⟩;obtain ⟨fn,efn,mfn⟩:=sg;obtain ⟨f2,fd2,mf2,kp,bb,FO⟩:=FN;cases mfn.symm.trans mf2;refine ⟨_,rfl,A.b,_,_,rfl,m1.b,rfl,_,rfl,st,_,_,_,rfl,rfl,SqT.of (m1.h.sm _ _ (s1 _ _ es)),zH e1,_,rfl,_,rfl,st,_,_,_,rfl,rfl,SqT.of (m1.h.sm _ _ (s1 _ _ es)),zH (j:=0) e0,t.s,word,.ref fn,.ref fn,rfl,rfl,TT.Ts,efn,rfl,?_⟩;refine ⟨fn,fd2,ps,spFn c f,rfl,FO,kp,bb,_,rfl,_,rfl,_,rfl,B1,A,M,R,st,l,tv,M.act kn,M1,ns,rfl,m1,s1 _ _ es,ea,ef,ok,ai,al,λB2 A2 H2 l2 s2 eb m2 en=>?_⟩;refine ⟨B2,A2,M1,R,pn,l,l2,M.act kn,ns,by rw [eb];rfl,m2,fo.ok ef ok,by rw [fo.g ef];exact p8,s2 _ _ ea,en,(fo.n ef).symm,λB3 H3 s3 m3=>?_⟩;rw [q0z,q0z] at q;exact q B3 A2 H3 ((s1.trans s2).trans s3) eb m3
def Mc.reads (M:Mc) (row:Nat) (js:J6):Mc:={ M with tq:=M.tq++js.map λj=>(M.pc,("read":Str),M.adr row (M.base+j)) }
def Mc.valAt (M:Mc) (row:Nat) (j:Int):Int:=M.cells.getD (M.adr row (M.base+j)).toNat 0
def Mc.reads_snoc (M:Mc) (row:Nat) (js:J6) (j:Int):M.reads row (js++[j])=(M.reads row js).touched "read" (M.adr row (M.base+j)):=by
 unfold Mc.reads Mc.touched;rw [Jg,← List.append_assoc];rfl
def rowIn (M:Mc) (row:Nat) (js:J6):Prop:=row<M.starts.length/\∀ j∈js,0<=M.adr row (M.base+j)/\(M.adr row (M.base+j)).toNat<M.cells.length
open Classical in
noncomputable def YK:FnM:=λtv M js=>match (tv[2]?:Jk) with
 | some (V.int r)=>if 0<=r/\rowIn M r.toNat js/\M.tq.length+js.length<100000 then some (M.reads r.toNat js,js.map λj=>some (M.valAt r.toNat j)) else none
 | _=>none
def Xg {tv:Jj} {M M':Mc} {js:J6} {ns:List (Option Int)} (h:YK tv M js=some (M',ns)):∃ r:Nat,tv[2]?=some (.int r)/\rowIn M r js/\M.tq.length+js.length<100000/\M'=M.reads r js/\ns=js.map λj=>some (M.valAt r j):=by
 unfold YK at h
 split at h
 ·rename_i r e
  split at h
  ·rename_i hc
   obtain ⟨r0,h1,h2⟩:=hc;cases h;exact ⟨r.toNat,by rw [e];congr 2;omega,h1,h2,rfl,rfl⟩
  ·cases h
 ·cases h
def loadM_ok:FnMOk YK where
 ok:=λh ok=>by
  obtain ⟨r,_,_,_,rfl,_⟩:=Xg h;exact {ok with}
 g:=λh=>by
  obtain ⟨r,_,_,_,rfl,_⟩:=Xg h;rfl
 n:=λh=>by
  obtain ⟨r,_,_,_,_,rfl⟩:=Xg h;rw [Je]
def ok_loaded {c:MCs} (d:zk K mg "numbers_loaded" yT qE) (CC:MCls K c) (RC:OkM P w K mg base CX0 2 c.bn "read_cell" Ul (spRead c)):Ok P w K mg base CX0 3 "numbers_loaded" qE (spFn c YK):=by
 refine oDf d sc_numbers_loaded λg mh A _ s H vs Q E hr h=>?_;obtain ⟨B,A,M,R,st,aa,tv,js,M',ns,rfl,m,es,ea,ef,ok,hj,hl,q⟩:=h;obtain ⟨r,e2,⟨hr0,hin⟩,ht,rfl,rfl⟩:=Xg ef;have nd:=sc_numbers_loaded.nd;have hr2:=hr;have CN:=CC.n;have SL:(3000:Nat)<sizeLine:=by decide
 refine ⟨_,(zf (zm (xw Us [none,some 0,some 1] rfl rfl rfl (Zl (pv 2)) (λs3 H3 fp=>⟨oQz 0 (Jl Us),(zW RC CC.n.c hr2 zo (pv 1) (zb (zB (zcy (K:=K) rfl) (pv 2) zg (λ_ _=>rfl)) (zb (zn zP (YB (K:=K) rfl (pv 1) rfl) (pv 0)) zc)))⟩)))),?_⟩;dsimp only [yd,Cx.nox,Cx.wish];refine ⟨_,rfl,aa,rfl,⟨_,SqL.of (m.h.sm _ _ ea)⟩,_,rfl,λD nD=>?_⟩
 have m0:MAt c B A (M.reads r (js.take 0)) ((D,.lst (((js.take 0).map λj=>some (M.valAt r j)).map oV))::R) (upd H D (.lst [])):=by
  have e:M.reads r (js.take 0)=M:=by unfold Mc.reads;rw [List.take_zero];show { M with tq:=M.tq++[] }=M;rw [q8y]
  rw [e];exact m.newR nD
 generalize upd H D (.lst [])=H1 at m0 ⊢;let Pv1:Nat->St->Hp->Prop:=(λi σ J=>∃ (u:Jk) (B1:Hp) (A1:Ma),σ=[u,rq A.b,rq st]/\Same B B1/\A1.b=A.b/\MAt c B1 A1 (M.reads r (js.take i)) ((D,.lst (((js.take i).map λj=>some (M.valAt r j)).map oV))::R) J);refine ZZ (K:=K) (a:=aa) (D:=D) (xs:=js.map V.int) Pv1 ⟨none,B,A,rfl,Same.refl _,rfl,m0⟩ (λi σ J _ ⟨_,B1,A1,_,s1,_,m1⟩=>SqL.of (m1.h.sm _ _ (s1 _ _ ea))) ?_ ?_
 ·clear m0
  rintro i y σ J hy ⟨u,B1,A1,rfl,s1,eb,m1⟩;obtain ⟨hlt,rfl⟩:=Z9 hy;have mj:=L2.getD_mem hlt;have e9:js[i]?=some (js.getD i 0):=by rw [q6x,List.getElem?_eq_getElem hlt];rfl
  generalize js.getD i 0=j at mj e9;obtain ⟨j0,j1⟩:=hin j mj;refine ⟨_,rfl,A1.b,_,_,by rw [eb],m1.b,rfl,_,rfl,st,_,_,_,rfl,rfl,SqT.of (m1.h.sm _ _ (s1 _ _ es)),zH (j:=2) e2,_,rfl,A1.b,_,_,_,.int M.base,by rw [eb],m1.b,CN.c,CN.base,rfl,_,rfl,_,_,rfl,rfl,B1,A1,M.reads r (js.take i),_,r,M.base+j,by rw [eb];rfl,m1,?_,hr0,j0,j1,λB2 A2 H2 s2 eb2 m2=>?_⟩
  ·show (M.tq++_).length<_
   rw [Jf,Je,List.length_take];omega
  refine ⟨_,m2.getR,(by rw [Je,Je,List.length_take];omega),_,B2,A2,rfl,s1.trans s2,eb2.trans eb,?_⟩;have m3:=m2.putR (o':=.lst (((js.take (i+1)).map λj=>some (M.valAt r j)).map oV));have et:js.take (i+1)=js.take i++[j]:=by rw [List.take_add_one,e9];rfl
  rw [et,M.reads_snoc];rw [et,Jg,Jg] at m3;rw [Jg,Jg];exact m3
 ·rintro σ J ⟨u,B1,A1,rfl,s1,eb,m1⟩
  rw [Je,List.take_length] at m1;have nb:B1 D=none:=m1.h.nw (D,_) (List.mem_of_getElem? atR);exact q _ A1 J D (s1.trans (zt (Same.refl _) nb)) eb m1.settle zi
abbrev EfM:=Jj->Mc->Option Mc
inductive spEf (c:MCs) (f:EfM) (vs:Jj) (H:Hp) (Q:VK) (_:XK):Prop
 | mk (B:Hp) (A:Ma) (M:Mc) (R:Ji) (st:Ad) (tv:Jj) (M':Mc) (_:vs=[.ref A.b,.ref st]) (_:MAt c B A M R H) (_:B st=some (.tup tv)) (_:f tv M=some M') (_:MOk M) (_:∀ B' A' H',Same B B'->A'.b=A.b->MAt c B' A' M' R H'->Q .non H')
inductive spPE (c:MCs) (S:Str->EfM->Prop) (vs:Jj) (H:Hp) (Q:VK) (_:XK):Prop
 | mk (word:Str) (f:EfM) (B:Hp) (A:Ma) (M:Mc) (R:Ji) (st:Ad) (tv:Jj) (M':Mc) (_:S word f) (_:vs=[.ref A.b,.ref st]) (_:MAt c B A M R H) (_:B st=some (.tup tv)) (_:tv[0]?=some (.str word)) (_:f tv M=some M') (_:MOk M) (_:∀ B' A' H',Same B B'->A'.b=A.b->MAt c B' A' M' R H'->Q .non H')
def zba (P:Program) (w:World) (K:Fg) (mg:J0) (base:Heap) (c:MCs) (t:TabA) (S:Str->EfM->Prop) (rm:Nat):Prop:=∀ word f,S word f->PySem.W.nsIn K t.s word=some none/\∃ (nm:Str) (ps:Jb),zK K mg t.e word nm/\Ok P w K mg base CX0 rm nm ps (spEf c f)
def ok_pe {c:MCs} {t:TabA} {S:Str->EfM->Prop} {rm:Nat} (hrm:rm<=7) (d:zk K mg "play_effect" xK qC) (TT:Tabs w K mg t) (EW:zba P w K mg base c t S rm):Ok P w K mg base CX0 8 "play_effect" qC (spPE c S):=by
 refine oDf d X5 λg mh A _ s H vs Q E hr h=>?_;obtain ⟨word,f,B,A,M,R,st,tv,M',hS,rfl,m,es,e0,eM,ok,q⟩:=h;obtain ⟨_,nm,ps,sg,FN⟩:=EW word f hS;have hr4:=hr.mono (show 4<=7 by decide);have hrF:Room rm _:=hr.mono hrm;obtain ⟨fn,efn,mfn⟩:=sg;obtain ⟨f2,fd2,mf2,kp,bb,FO⟩:=FN;cases mfn.symm.trans mf2;refine ⟨_,(zf (zG (Xd (CX:=CX0) (k:=rm) (zB zcz (zZ TT.he) (zB zI (pv 1) zg (λ_ _=>rfl)) (λ_ _=>rfl)) hrF zo (zb (pv 0) (zb (pv 1) zc))))),?_⟩;dsimp only [yd,Cx.nox,Cx.wish];exact ⟨_,rfl,st,_,_,_,rfl,rfl,SqT.of (m.h.sm _ _ es),zH (j:=0) e0,t.e,word,.ref fn,.ref fn,rfl,rfl,TT.Te,efn,rfl,fn,fd2,ps,spEf c f,rfl,FO,kp,bb,_,rfl,_,rfl,B,A,M,R,st,tv,M',rfl,m,es,eM,ok,q⟩
inductive spIn (aD:Ad) (K:Fg) (vs:Jj) (H:Hp) (Q:VK) (_:XK):Prop
 | mk (word:Str) (r:Ja) (_:vs=[.str word]) (_:PySem.W.nsIn K aD word=some r) (_:Q (.bl r.isSome) H)
def ok_lsw {t:TabA} (d:zk K mg "lays_seat" ZD ["word"]) (TT:Tabs w K mg t):Ok P w K mg base CX0 1 "lays_seat" ["word"] (spIn t.s K):=by
 refine oDf d zcb λg mh A _ s H vs Q E hr h=>?_;obtain ⟨word,r,rfl,e,q⟩:=h;refine ⟨_,(zf (zm (Zm zbp (pv 0) (zZ TT.hs) rfl))),?_⟩;dsimp only [yd,Cx.nox,Cx.wish];exact ⟨_,rfl,word,t.s,r,rfl,rfl,TT.Ts,TT.ls,e,q⟩
def ok_hew {t:TabA} (d:zk K mg "has_effect" Zg ["word"]) (TT:Tabs w K mg t):Ok P w K mg base CX0 1 "has_effect" ["word"] (spIn t.e K):=by
 refine oDf d zbf λg mh A _ s H vs Q E hr h=>?_;obtain ⟨word,r,rfl,e,q⟩:=h;refine ⟨_,(zf (zm (Zm zbp (pv 0) (zZ TT.he) rfl))),?_⟩;dsimp only [yd,Cx.nox,Cx.wish];exact ⟨_,rfl,word,t.e,r,rfl,rfl,TT.Te,TT.le,e,q⟩
def Mc.puts (M:Mc) (row:Nat) (ps:List (Int×Int)):Mc:=ps.foldl (λM p=>M.wrote row p.1 p.2) M
def Mc.puts_snoc (M:Mc) (row:Nat) (ps:List (Int×Int)) (p:Int×Int):M.puts row (ps++[p])=(M.puts row ps).wrote row p.1 p.2:=by
 unfold Mc.puts;rw [List.foldl_append];rfl
def Mc.puts_is (M:Mc) (row:Nat) (ps:List (Int×Int)):M.puts row ps={ M with cells:=(M.puts row ps).cells,tq:=M.tq++ps.map λp=>(M.pc,("write":Str),M.adr row p.1) }/\(M.puts row ps).cells.length=M.cells.length:=by
 induction ps generalizing M with
 | nil=>exact ⟨by show M={ M with tq:=M.tq++[] };rw [q8y],rfl⟩
 | cons p ps ih =>
  obtain ⟨a,b⟩:=ih (M.wrote row p.1 p.2);have e:M.puts row (p::ps)=(M.wrote row p.1 p.2).puts row ps:=rfl;rw [e];refine ⟨?_,b.trans (by show (M.cells.set _ _).length=_;rw [List.length_set])⟩;rw [a];show ({ M with cells:=_,tq:=(M.tq++[_])++ps.map _ }:Mc)={ M with cells:=_,tq:=_ };rw [List.append_assoc];rfl
open Classical in
noncomputable def xC:EfM:=λtv M=>match (tv[1]?:Jk),(tv[2]?:Jk),(tv[3]?:Jk) with
 | some (V.int r),some (V.int p),some (V.int k)=>if 0<=r/\0<=p/\(p+1)*M.group<=8/\0<=k/\k<16/\rowIn M r.toNat (M.act k.toNat)/\M.tq.length+(M.act k.toNat).length<100000 then some (M.puts r.toNat ((M.act k.toNat).map λj=>(M.base+j,M.nq p.toNat j))) else none
 | _,_,_=>none
def storeM_is {tv:Jj} {M M':Mc} (h:xC tv M=some M'):∃ r p k:Nat,tv[1]?=some (.int r)/\tv[2]?=some (.int p)/\tv[3]?=some (.int k)/\((p:Int)+1)*M.group<=8/\k<16/\rowIn M r (M.act k)/\M.tq.length+(M.act k).length<100000/\M'=M.puts r ((M.act k).map λj=>(M.base+j,M.nq p j)):=by
 unfold xC at h
 split at h
 ·rename_i r p k e1 e2 e3
  split at h
  ·rename_i hc
   obtain ⟨r0,p0,p8,k0,k1,hin,ht⟩:=hc;cases h;refine ⟨r.toNat,p.toNat,k.toNat,?_,?_,?_,?_,by omega,hin,ht,rfl⟩
   ·rw [e1];congr 2;omega
   ·rw [e2];congr 2;omega
   ·rw [e3];congr 2;omega
   ·rw [Int.toNat_of_nonneg p0];exact p8
  ·cases h
 ·cases h
def xI {α:Type} {f:α->V} {l:List α} {i:Nat} {x:V} (h:(l.map f)[i]?=some x):∃ a,l[i]?=some a/\x=f a:=by
 rw [List.getElem?_map] at h;obtain ⟨a,e,z⟩:=Option.map_eq_some_iff.mp h;exact ⟨a,e,z.symm⟩
def ok_store {c:MCs} (d:zk K mg "play_store" Zb qC) (hzip:mg "zip"=none) (CC:MCls K c) (AU:OkM P w K mg base CX0 1 c.bn "active_under" Um (spAct c)) (NI:OkM P w K mg base CX0 3 c.bn "numbers_in" qV (spNums c K))
  (WC:OkM P w K mg base CX0 2 c.bn "write_cell" Ue (spWrite c)):Ok P w K mg base CX0 4 "play_store" qC (spEf c xC):=by
 refine oDf d sc_play_store λg mh A _ s H vs Q E hr h=>?_;obtain ⟨B,A,M,R,st,tv,M',rfl,m,es,ef,ok,q⟩:=h;have nd:=sc_play_store.nd;have hr3:=hr;have hr2:=hr.mono (show 2<=3 by decide);have hr1:=hr.mono (show 1<=3 by decide);have CN:=CC.n;have ml:=ok.ml;obtain ⟨r,p,k,e1,e2,e3,p8,k16,⟨hr0,hin⟩,ht,rfl⟩:=storeM_is ef;obtain ⟨mr1,mr2⟩:=YC ok k16;obtain ⟨ai,al⟩:=zc7 ok k;refine ⟨_,(zd (oRz 2 nd (zW AU CC.n.c hr1 zo (pv 0) (zb (zB zI (pv 1) zg (λ_ _=>rfl)) zc)))
   (zf (x6 PassesOwn.never rfl (pi_zip rfl hzip (zb (pv 2) (zb (zW NI CC.n.c hr3 zo (pv 0) (zb (zB zI (pv 1) zg (λ_ _=>rfl)) (zb (pv 2) zc))) zc))) (pg_tup rfl (xu (oQz 3 nd) (xu (oQz 4 nd) XR))) (zf (zG (zW WC CC.n.c hr2 zo (pv 0) (zb (zB zI (pv 1) zg (λ_ _=>rfl)) (zb (zn zP (zh (pv 0) rfl) (pv 3)) (zb (pv 4) zc))))))))),?_⟩
 dsimp only [yd,Cx.nox,Cx.wish];refine ⟨_,rfl,A.b,_,_,rfl,m.b,rfl,_,rfl,st,_,_,_,rfl,rfl,SqT.of (m.h.sm _ _ es),zH (j:=3) e3,B,A,M,R,k,rfl,m,by omega,ok.w0,mr1,mr2,λB1 H1 l s1 m1 ea=>?_⟩;refine ⟨_,rfl,_,rfl,A.b,_,_,rfl,m1.b,rfl,_,rfl,st,_,_,_,rfl,rfl,SqT.of (m1.h.sm _ _ (s1 _ _ es)),zH (j:=2) e2,_,rfl,B1,A,M,R,p,l,M.act k,rfl,m1,ok,p8,ea,ai,al,λB2 H2 l2 s2 m2 en=>?_⟩;refine ⟨l,l2,rfl,⟨_,SqL.of (m2.h.sm _ _ (s2 _ _ ea))⟩,⟨_,SqL.of (m2.h.sm _ _ en)⟩,?_⟩;generalize M.act k=js at *;let pr:Int->Int×Int:=λj=>(M.base+j,M.nq p j);let Pv1:Nat->St->Hp->Prop:=(λi σ J=>∃ u3 u4 B3 A3,σ=[rq A.b,rq st,rq l,u3,u4]/\Same B2 B3/\A3.b=A.b/\MAt c B3 A3 (M.puts r ((js.take i).map pr)) R J);refine for_zip (xs:=js.map V.int) (ys:=(js.map (M.nq p)).map V.int) Pv1 ⟨none,none,B2,A,rfl,Same.refl _,rfl,m2⟩ (λi σ J _ ⟨_,_,B3,A3,_,s3,_,m3⟩=>⟨SqL.of (m3.h.sm _ _ (s3 _ _ (s2 _ _ ea))),SqL.of (m3.h.sm _ _ (s3 _ _ en))⟩) (by rw [Je,Je,Je]) ?_ ?_
 ·rintro i x y σ J T hx hy ⟨u3,u4,B3,A3,rfl,s3,eb,m3⟩ nT
  obtain ⟨j,e9,rfl⟩:=xI hx;obtain ⟨z,e10,rfl⟩:=xI hy;rw [List.getElem?_map,e9] at e10;cases e10;have mj:j∈js:=List.mem_of_getElem? e9;obtain ⟨j0,j1⟩:=hin j mj;have m4:=m3.grow (o:=.tup [.int j,.int (M.nq p j)]) nT;have s4:Same B3 (upd B3 T (.tup [.int j,.int (M.nq p j)])):=zt (Same.refl _) (m3.h.free nT);have e4:upd B3 T (.tup [.int j,.int (M.nq p j)]) T=some (.tup [.int j,.int (M.nq p j)]):=zi;generalize upd J T (.tup [.int j,.int (M.nq p j)])=J4 at m4 ⊢;generalize upd B3 T (.tup [.int j,.int (M.nq p j)])=B4 at m4 s4 e4;obtain ⟨pi1,pi2⟩:=M.puts_is r ((js.take i).map pr);have hb:(M.puts r ((js.take i).map pr)).base=M.base:=by rw [pi1]
  have hs:(M.puts r ((js.take i).map pr)).starts=M.starts:=by rw [pi1]
  have hT:(M.puts r ((js.take i).map pr)).tq.length<100000:=by
   rw [pi1];show (M.tq++_).length<_;rw [Jf,Je,Je,List.length_take];have:i<js.length:=(List.getElem?_eq_some_iff.mp e9).1;omega
  refine ⟨T,_,rfl,SqT.of (m4.h.sm _ _ e4),rfl,_,_,rfl,_,_,rfl,rfl,?_⟩;refine ⟨_,rfl,A3.b,_,_,by rw [eb],m4.b,rfl,_,rfl,st,_,_,_,rfl,rfl,SqT.of (m4.h.sm _ _ (s4 _ _ (s3 _ _ (s2 _ _ (s1 _ _ es))))),zH (j:=1) e1,_,rfl,A3.b,_,_,_,.int M.base,by rw [eb],m4.b,CN.c,CN.base,(by show some (V.int _)=_;rw [hb]),_,rfl,_,_,rfl,rfl,_,rfl,B4,A3,_,R,r,M.base+j,M.nq p j,by rw [eb];rfl,m4,hT,?_,?_,?_,λB5 A5 H5 s5 eb5 m5=>?_⟩
  ·rw [hs];exact hr0
  ·unfold Mc.adr;rw [hs];exact j0
  ·unfold Mc.adr;rw [hs,pi2];exact j1
  ·refine ⟨_,_,B5,A5,rfl,(s3.trans s4).trans s5,eb5.trans eb,?_⟩
   have et:(js.take (i+1)).map pr=(js.take i).map pr++[pr j]:=by rw [List.take_add_one,e9,Jg];rfl
   rw [et,M.puts_snoc];exact m5
 ·rintro σ J ⟨u3,u4,B3,A3,rfl,s3,eb,m3⟩
  rw [Je,List.take_length] at m3;exact q B3 A3 J ((s1.trans s2).trans s3) eb m3
abbrev WyM:=Jj->Mc->Mc->Int->Prop
inductive spWy (c:MCs) (f:WyM) (vs:Jj) (H:Hp) (Q:VK) (_:XK):Prop
 | mk (B:Hp) (A:Ma) (M:Mc) (R:Ji) (st:Ad) (tv:Jj) (M':Mc) (n:Int) (_:vs=[.ref A.b,.ref st]) (_:MAt c B A M R H) (_:B st=some (.tup tv)) (_:f tv M M' n) (_:∀ B' A' H',Same B B'->A'.b=A.b->MAt c B' A' M' R H'->Q (.int n) H')
def zc4:WyM:=λtv M M' n=>∃ mn_ mi:Int,tv[1]?=some (.int mn_)/\tv[2]?=some (.int mi)/\MOk0 M/\(mi=1∨mi=2∨mi=4)/\0<=mn_/\M'=M.round mn_ mi/\n=M.pc+1
def nextW:WyM:=λtv M M' n=>MOk0 M/\(M.group=1∨M.group=2∨M.group=4)/\(if M.base+M.bq<M.mn_ then M'=M.strip (M.base+M.bq)/\n=M.oq+1 else M'=M/\n=M.pc+1)
def ok_begin {c:MCs} (d:zk K mg "play_begin" Zc qC) (CC:MCls K c) (OR:OkM P w K mg base CX0 4 c.bn "open_round" Uj (spRound c)):Ok P w K mg base CX0 5 "play_begin" qC (spWy c zc4):=by
 refine oDf d zbe λg mh A _ s H vs Q E hr h=>?_;obtain ⟨B,A,M,R,st,tv,M',n,rfl,m,es,⟨mn_,mi,e1,e2,ok,hg,hm,rfl,rfl⟩,q⟩:=h;have hr4:=hr;have CN:=CC.n;refine ⟨_,(zd (zG (zW OR CC.n.c hr4 zo (pv 0) (zb (zB zI (pv 1) zg (λ_ _=>rfl)) (zb (zB zI (pv 1) zg (λ_ _=>rfl)) zc))))
   (zf (zm (zn zP (zh (pv 0) rfl) zg)))),?_⟩
 dsimp only [yd,Cx.nox,Cx.wish];refine ⟨_,rfl,A.b,_,_,rfl,m.b,rfl,_,rfl,st,_,_,_,rfl,rfl,SqT.of (m.h.sm _ _ es),zH (j:=1) e1,_,rfl,st,_,_,_,rfl,rfl,SqT.of (m.h.sm _ _ es),zH (j:=2) e2,B,A,M,R,mn_,mi,rfl,m,ok,hg,hm,λB1 A1 H1 s1 eb m1=>?_⟩;exact ⟨_,rfl,A1.b,_,_,_,.int M.pc,by rw [eb],m1.b,CN.c,CN.pc,rfl,_,_,rfl,rfl,q B1 A1 H1 s1 eb m1⟩
def ok_next {c:MCs} (d:zk K mg "play_next" Zy qC) (CC:MCls K c) (BS:OkM P w K mg base CX0 3 c.bn "begin_strip" Uv (spStrip c)):Ok P w K mg base CX0 5 "play_next" qC (spWy c nextW):=by
 refine oDf d sc_play_next λg mh A _ s H vs Q E hr h=>?_;obtain ⟨B,A,M,R,st,tv,M',n,rfl,m,es,⟨ok,hg,hx⟩,q⟩:=h;have nd:=sc_play_next.nd;have hr3:=hr.mono (show 3<=4 by decide);have CN:=CC.n;refine ⟨_,(zd (oRz 2 nd (zn zP (zh (pv 0) rfl) (zh (pv 0) rfl)))
   (zd (zL (zF op_lt (pv 2) (zh (pv 0) rfl) (zJ _)) (zd (zG (zW BS CC.n.c hr3 zo (pv 0) (zb (pv 2) zc)))
   (zf (zm (zn zP (zh (pv 0) rfl) zg)))) zy)
   (zf (zm (zn zP (zh (pv 0) rfl) zg))))),?_⟩
 dsimp only [yd,Cx.nox,Cx.wish];refine ⟨_,rfl,A.b,_,_,_,.int M.base,rfl,m.b,CN.c,CN.base,rfl,_,rfl,A.b,_,_,_,.int M.bq,rfl,m.b,CN.c,CN.bq,rfl,_,_,rfl,rfl,?_⟩;refine ⟨_,rfl,_,rfl,A.b,_,_,_,.int M.mn_,rfl,m.b,CN.c,CN.mn_,rfl,_,_,rfl,rfl,_,rfl,?_⟩;refine yo (λz=>?_) (λz=>?_)
 ·have z:=of_decide_eq_true z
  rw [if_pos z] at hx;obtain ⟨rfl,rfl⟩:=hx;refine ⟨_,rfl,A.b,_,_,rfl,m.b,rfl,_,rfl,B,A,M,R,M.base+M.bq,rfl,m,ok,hg,by omega,λB1 A1 H1 s1 eb m1=>?_⟩;exact ⟨_,rfl,A1.b,_,_,_,.int M.oq,by rw [eb],m1.b,CN.c,CN.oq,rfl,_,_,rfl,rfl,q B1 A1 H1 s1 eb m1⟩
 ·rw [if_neg (λy=>z (decide_eq_true y))] at hx
  obtain ⟨rfl,rfl⟩:=hx;exact ⟨_,rfl,A.b,_,_,_,.int M'.pc,rfl,m.b,CN.c,CN.pc,rfl,_,_,rfl,rfl,q B A H (Same.refl _) rfl m⟩
structure Lex where
 S:Str->FnM->Prop
 E:Str->EfM->Prop
 W:Str->WyM->Prop
inductive Step (L:Lex) (tv:Jj) (M:Mc):Mc->Prop
 | seat {word f M'}:L.S word f->tv[0]?=some (.str word)->seatM f tv M=some M'->MOk M->Step L tv M { M' with pc:=M'.pc+1 }
 | eff {word f M'}:L.E word f->tv[0]?=some (.str word)->f tv M=some M'->MOk M->Step L tv M { M' with pc:=M'.pc+1 }
 | way {word f M' n}:L.W word f->tv[0]?=some (.str word)->f tv M M' n->Step L tv M { M' with pc:=n }
def zep (P:Program) (w:World) (K:Fg) (mg:J0) (base:Heap) (c:MCs) (t:TabA) (S:Str->WyM->Prop) (rm:Nat):Prop:=∀ word f,S word f->PySem.W.nsIn K t.s word=some none/\PySem.W.nsIn K t.e word=some none/\∃ (nm:Str) (ps:Jb),zK K mg t.w word nm/\Ok P w K mg base CX0 rm nm ps (spWy c f)
inductive spPB (c:MCs) (L:Lex) (vs:Jj) (H:Hp) (Q:VK) (_:XK):Prop
 | mk (B:Hp) (A:Ma) (M:Mc) (R:Ji) (st:Ad) (tv:Jj) (M':Mc) (_:vs=[.ref A.b,.ref st]) (_:MAt c B A M R H) (_:B st=some (.tup tv)) (_:Step L tv M M') (_:∀ B' A' H' M1,Same B B'->A'.b=A.b->MAt c B' A' M1 R H'->M'={ M1 with pc:=M'.pc }->Q (.int M'.pc) H')
def ok_pb {c:MCs} {t:TabA} {L:Lex} {rm rs re:Nat} (d:zk K mg "place_behind" xp qC) (CC:MCls K c) (TT:Tabs w K mg t) (hrm:rm<=8) (SW:XB P w K mg base c t L.S rs) (EW:zba P w K mg base c t L.E re) (WW:zep P w K mg base c t L.W rm)
  (LSW:Ok P w K mg base CX0 1 "lays_seat" ["word"] (spIn t.s K)) (HEW:Ok P w K mg base CX0 1 "has_effect" ["word"] (spIn t.e K)) (PSS:Ok P w K mg base CX0 7 "play_seat_step" qC (spPSS c L.S)) (PE:Ok P w K mg base CX0 8 "play_effect" qC (spPE c L.E)) :
  Ok P w K mg base CX0 9 "place_behind" qC (spPB c L):=by
 refine oDf d XH λg mh A _ s H vs Q E hr h=>?_;obtain ⟨B,A,M,R,st,tv,M',rfl,m,es,hS,q⟩:=h;have hr5:=hr;have hr4:=hr.mono (show 7<=8 by decide);have hr1:=hr.mono (show 1<=8 by decide);have hrF:Room rm _:=hr.mono hrm;have CN:=CC.n;refine ⟨_,(zd (zL (yb (zv LSW hr1 (by rfl) zo (zb (zB zI (pv 1) zg (λ_ _=>rfl)) zc))) (zd (zG (zv PSS hr4 (by rfl) zo (zb (pv 0) (zb (pv 1) zc))))
   (zf (zm (zn zP (zh (pv 0) rfl) zg)))) zy)
   (zd (zL (yb (zv HEW hr1 (by rfl) zo (zb (zB zI (pv 1) zg (λ_ _=>rfl)) zc))) (zd (zG (zv PE hr5 (by rfl) zo (zb (pv 0) (zb (pv 1) zc))))
   (zf (zm (zn zP (zh (pv 0) rfl) zg)))) zy)
   (zf (zm (Xd (CX:=CX0) (k:=rm) (zB zcz (zZ TT.hw) (zB zI (pv 1) zg (λ_ _=>rfl)) (λ_ _=>rfl)) hrF zo (zb (pv 0) (zb (pv 1) zc))))))),?_⟩
 dsimp only [yd,Cx.nox,Cx.wish];show (let s1:L2.TS:=_;let s2:L2.TS:=L2.tSeq _ s1;L2.tSeq _ s2 _ _ _);intro s1 s2;have sqt:SqT K H st tv:=SqT.of (m.h.sm _ _ es)
 cases hS with
 | seat hs e0 eM ok =>
  rename_i word f M1;obtain ⟨nm,ps,⟨fn,efn,mfn⟩,FN,fo⟩:=SW word f hs;refine ⟨_,rfl,st,_,_,_,rfl,rfl,sqt,zH (j:=0) e0,word,_,rfl,efn,_,rfl,?_⟩;refine ZY ?_;refine ⟨_,rfl,_,rfl,word,f,B,A,M,R,st,tv,M1,hs,rfl,m,es,e0,eM,ok,λB1 A1 H1 s1 eb m1=>?_⟩;exact ⟨_,rfl,A1.b,_,_,_,.int M1.pc,by rw [eb],m1.b,CN.c,CN.pc,rfl,_,_,rfl,rfl,q B1 A1 H1 M1 s1 eb m1 rfl⟩
 | eff hs e0 eM ok =>
  rename_i word f M1;obtain ⟨n1,nm,ps,⟨fn,efn,mfn⟩,FN⟩:=EW word f hs;refine ⟨_,rfl,st,_,_,_,rfl,rfl,sqt,zH (j:=0) e0,word,_,rfl,n1,_,rfl,?_⟩;refine xl ?_;refine ⟨_,rfl,st,_,_,_,rfl,rfl,sqt,zH (j:=0) e0,word,_,rfl,efn,_,rfl,?_⟩;refine ZY ?_;refine ⟨_,rfl,_,rfl,word,f,B,A,M,R,st,tv,M1,hs,rfl,m,es,e0,eM,ok,λB1 A1 H1 s1 eb m1=>?_⟩;exact ⟨_,rfl,A1.b,_,_,_,.int M1.pc,by rw [eb],m1.b,CN.c,CN.pc,rfl,_,_,rfl,rfl,q B1 A1 H1 M1 s1 eb m1 rfl⟩
 | way hs e0 eM =>
  rename_i word f M1 n;obtain ⟨n1,n2,nm,ps,⟨fn,efn,mfn⟩,FN⟩:=WW word f hs;obtain ⟨f2,fd2,mf2,kp,bb,FO⟩:=FN;cases mfn.symm.trans mf2;refine ⟨_,rfl,st,_,_,_,rfl,rfl,sqt,zH (j:=0) e0,word,_,rfl,n1,_,rfl,?_⟩;refine xl ?_;refine ⟨_,rfl,st,_,_,_,rfl,rfl,sqt,zH (j:=0) e0,word,_,rfl,n2,_,rfl,?_⟩;refine xl ?_;exact ⟨_,rfl,st,_,_,_,rfl,rfl,sqt,zH (j:=0) e0,t.w,word,.ref fn,.ref fn,rfl,rfl,TT.Tw,efn,rfl,fn,fd2,ps,spWy c f,rfl,FO,kp,bb,_,rfl,_,rfl,B,A,M,R,st,tv,M1,n,rfl,m,es,eM,λB1 A1 H1 s1 eb m1=>q B1 A1 H1 M1 s1 eb m1 rfl⟩
def yO {F:List (Str×V)} {n:Nat} (h:F.length+n<1000):F.length<1000:=by omega
def yN {F:List (Str×V)} {n:Nat} (f:Str) (v:V) (h:F.length+(n+1)<1000):∃ g,zS f v F=g/\g.length+n<1000:=by
 have l:∀ F:List (Str×V),(zS f v F).length<=F.length+1:=by
  intro F
  induction F with
  | nil=>exact Nat.le_refl _
  | cons p F ih =>
   obtain ⟨g,x⟩:=p;show (if g=f then (g,v)::F else (g,x)::zS f v F).length<=_
   split
   ·exact Nat.le_succ _
   ·exact Nat.succ_le_succ ih
 exact ⟨_,rfl,by have:=l F;omega⟩
theorem zay {α:Type}:∀ (L:List α) (i:Nat) (p:α),L[i]?=some p->(p::L.eraseIdx i).Perm L
 | a::L,0,p,e=>by cases e;exact .refl _
 | a::L,i+1,p,e=>(List.Perm.swap a p _).trans (.cons a (zay L i p e))
def ya {B H:Hp} {L:Ji} {p:Ad×HO} (h:Hd B L H) (i:Nat) (e:L[i]?=some p):Hd B (p::L.eraseIdx i) H:=h.perm (zay L i p e).symm
theorem zdq {f:Str} {v:V}:∀ {F:List (Str×V)},f ∉ F.map Prod.fst->zS f v F=F++[(f,v)]
 | [],_=>rfl
 | (g,x)::F,h=>by
  show (if g=f then (g,v)::F else (g,x)::zS f v F)=_;rw [if_neg λe=>h (by rw [← e];exact q6z),zdq λm=>h (q6y _ m)];rfl
theorem foldF:∀ (ps acc:List (Str×V)),((acc++ps).map Prod.fst).Nodup->ps.foldl (λF p=>zS p.1 p.2 F) acc=acc++ps
 | [],acc,_=>(q8y _).symm
 | p::ps,acc,h=>by
  have e:acc++p::ps=(acc++[p])++ps:=by rw [List.append_assoc];rfl
  have n:p.1 ∉ acc.map Prod.fst:=λm=>by
   rw [Jg,List.map_cons] at h;exact (List.nodup_append.mp h).2.2 _ m _ q6z rfl
  show ps.foldl _ (zS p.1 p.2 acc)=_;rw [zdq n,foldF ps (acc++[p]) (by rw [← e];exact h),e]
def foldF0 (ps:List (Str×V)) (h:(ps.map Prod.fst).Nodup):ps.foldl (λF p=>zS p.1 p.2 F) []=ps:=(foldF ps [] h).trans (List.nil_append _)
inductive spStart (K:Fg) (vs:Jj) (H:Hp) (Q:VK) (_:XK):Prop
 | mk (p:Ad) (ns:J6) (r:Int) (_:vs=[.ref p,.int r]) (_:SqL K H p (ns.map V.int)) (_:0<=r) (_:∀ H',Same H H'->Q (.int (ns.take r.toNat).sum) H')
def ok_start (d:zk K mg "start_of" Z3 Uw) (hsum:mg "sum"=none):Ok P w K mg base CX0 1 "start_of" Uw (spStart K):=by
 refine oDf d zdh λg mh A _ s H vs Q E hr h=>?_;obtain ⟨p,ns,r,rfl,hS,h0,k⟩:=h;refine ⟨_,(zf (zm (zp (call_sum rfl) (by rfl) hsum PyProof.Rows.boot_sum (zb (zdr sl_list (pv 0) po_none (zco (pv 1))) zc)))),?_⟩;dsimp only [yd,Cx.nox,Cx.wish];refine ⟨_,rfl,_,rfl,r,rfl,p,_,rfl,hS,λl hl=>?_⟩;rw [cutV_take h0];exact ⟨l,_,rfl,SqL.of zi,k _ (zt (Same.refl H) hl)⟩
def zE (lens:J6):J6:=(List.range lens.length).map λr=>(lens.take r).sum
def Mc.fresh (lens cells:J6) (L:Nat) (dust picks:J6):Mc where
 lens:=lens
 starts:=zE lens
 cells:=cells
 lq:=L
 nums:=List.replicate (8*L) 0
 mq:=List.replicate 16 (List.replicate (4*L) false)
 slots:=[]
 dust:=dust
 dq:=0
 picks:=picks
 pq:=0
 tq:=[]
 pc:=0
 oq:=0
 mn_:=0
 group:=1
 base:=0
 bq:=0
 wq:=0
 fq:=[]
 cut:=none
 cq:=none
 raised:=false
 turns:=[]
 rq_:=none
def msk_fresh (ms:Jc) (r:List Bool):((ms.zip (List.replicate ms.length r)).map λp=>(p.1,HO.lst (p.2.map V.bl)))=ms.map λa=>(a,HO.lst (r.map V.bl)):=by
 induction ms with
 | nil=>rfl
 | cons a ms ih =>
  rw [q8x,List.replicate_succ,List.zip_cons_cons,List.map_cons,List.map_cons,ih]
inductive spInitN (c:MCs) (K:Fg) (vs:Jj) (H:Hp) (Q:VK) (_:XK):Prop
 | mk (B:Hp) (x dx l1 l2 l3 l4:Ad) (lens cells dust picks:J6) (L:Nat) (_:vs=[.ref x,.ref l1,.ref l2,.int L,.ref l3,.ref l4]) (_:Hd B [(x,.ins c.bn dx [])] H) (_:SqL K B l1 (lens.map V.int)) (_:SqL K B l2 (cells.map V.int)) (_:SqL K B l3 (dust.map V.int)) (_:SqL K B l4 (picks.map V.int)) (_:1<=L) (_:L<=64) (_:lens.length<=1000) (_:∀ B' A' H',Same B B'->A'.b=x->MAt c B' A' (Mc.fresh lens cells L dust picks) [] H'->Q .non H')
def ok_initN {c:MCs} {t1 t2:Tok} (d:yp K c.bn "Bench.__init__" Zk qO) (CC:MCls K c) (hlist:mg "list"=none) (hlen:mg "len"=none) (hrg:mg "range"=none) (hMT:mg "MOST_TOGETHER"=some (.int 4 t1)) (hMM:mg "MANY_MASKS"=some (.int 16 t2))
  (hCb:mg "Boxes"=some (.ref c.bx)) (hCf:mg "Feed"=some (.ref c.fe)) (SO:Ok P w K mg base CX0 1 "start_of" Uw (spStart K)) (IB:OkI P w K mg base CX0 1 c.bx ["self","lanes"] (spInitB c.bx)) (IF:OkI P w K mg base CX0 1 c.fe Uu (spInitF K c.fe)) :
  OkI P w K mg base CX0 3 c.bn qO (spInitN c K):=by
 refine oIf d sc_Bench_init λf mh A _ s H vs Q E hr h=>?_;obtain ⟨B,x,dx,l1,l2,l3,l4,lens,cells,dust,picks,L,rfl,h,q1,q2,q3,q4,L1,L64,hl,q⟩:=h;have nd:=sc_Bench_init.nd;have hr2:=hr;have hr1:=hr.mono (show 1<=2 by decide);have CN:=CC.n;refine ⟨_,(zd (zu (pv 0) (xh y6 (by rfl) hlist PyProof.Rows.boot_list (zb (pv 1) zc)) rfl)
   (zd (zu (pv 0) (xw ["row","lengths"] [none,some 1] rfl rfl rfl (yY rfl hrg (zb (zp zD (by rfl) hlen PySem.boot_len (zb (pv 1) zc)) zc)) (λs3 H3 fp=>⟨oQz 0 (Jl ["row","lengths"]),(zv SO hr1 (by rfl) zo (zb (pv 1) (zb (pv 0) zc)))⟩)) rfl)
   (zd (zu (pv 0) (xh y6 (by rfl) hlist PyProof.Rows.boot_list (zb (pv 2) zc)) rfl)
   (zd (zu (pv 0) (pv 3) rfl)
   (zd (zu (pv 0) (xF IB hCb hr2 (by rfl) zo (zb (pv 3) zc)) rfl)
   (zd (zu (pv 0) (xw ["mask","lanes"] [none,some 3] rfl rfl rfl (yY rfl hrg (zb (xR hMM) zc)) (λs3 H3 fp=>⟨oQz 0 (Jl ["mask","lanes"]),(zn zct (yh (zb Xe zc)) (zn yC (xR hMT) (pv 1)))⟩)) rfl)
   (zd (zu (pv 0) zai rfl)
   (zd (zu (pv 0) (xF IF hCf hr2 (by rfl) zo (zb (pv 4) zc)) rfl)
   (zd (zu (pv 0) (xF IF hCf hr2 (by rfl) zo (zb (pv 5) zc)) rfl)
   (zd (zu (pv 0) (yh zc) rfl)
   (zd (zu (pv 0) zg rfl)
   (zd (zu (pv 0) zg rfl)
   (zd (zu (pv 0) zg rfl)
   (zd (zu (pv 0) zg rfl)
   (zd (zu (pv 0) zg rfl)
   (zd (zu (pv 0) zg rfl)
   (zd (zu (pv 0) zg rfl)
   (zd (zu (pv 0) zai rfl)
   (zd (zu (pv 0) xv rfl)
   (zd (zu (pv 0) xv rfl)
   (zd (zu (pv 0) Xe rfl)
   (zd (zu (pv 0) (yh zc) rfl)
   (zf (zu (pv 0) xv rfl)))))))))))))))))))))))),?_⟩
 dsimp only [yd,Cx.nox,Cx.wish];show (let s1:L2.TS:=_;let s2:L2.TS:=L2.tSeq _ s1;let s3:L2.TS:=L2.tSeq _ s2;let s4:L2.TS:=L2.tSeq _ s3;let s5:L2.TS:=L2.tSeq _ s4;let s6:L2.TS:=L2.tSeq _ s5;let s7:L2.TS:=L2.tSeq _ s6;let s8:L2.TS:=L2.tSeq _ s7;let s9:L2.TS:=L2.tSeq _ s8;let s10:L2.TS:=L2.tSeq _ s9;let s11:L2.TS:=L2.tSeq _ s10;let s12:L2.TS:=L2.tSeq _ s11;let s13:L2.TS:=L2.tSeq _ s12;let s14:L2.TS:=L2.tSeq _ s13;let s15:L2.TS:=L2.tSeq _ s14;let s16:L2.TS:=L2.tSeq _ s15;let s17:L2.TS:=L2.tSeq _ s16;let s18:L2.TS:=L2.tSeq _ s17;let s19:L2.TS:=L2.tSeq _ s18;let s20:L2.TS:=L2.tSeq _ s19;let s21:L2.TS:=L2.tSeq _ s20;let s22:L2.TS:=L2.tSeq _ s21;L2.tSeq _ s22 _ _ _);intro s1 s2 s3 s4 s5 s6 s7 s8 s9 s10 s11 s12 s13 s14 s15 s16 s17 s18 s19 s20 s21 s22;have SL:(3000:Nat)<sizeLine:=by decide
 have q1:SqL K B l1 (lens.map V.int):=q1;obtain ⟨F0,e0F,nF⟩:∃ F0:List (Str×V),[]=F0/\F0.length+30<1000:=⟨[],rfl,by decide⟩;rw [e0F] at h;refine ⟨_,rfl,l1,_,rfl,.inl (h.sql q1),λaL nL=>?_⟩;replace h:=h.fnew (o:=.lst (lens.map V.int)) nL;generalize upd H aL _=H at h ⊢;refine ⟨_,rfl,x,_,_,_,rfl,h.get 0 rfl,CN.c,CN.lengths,yO nF,?_⟩;obtain ⟨F1,f1,nF⟩:=yN "lengths" (.ref aL) nF;replace h:=h.fput (o':=.ins c.bn dx (zS "lengths" (.ref aL) F0));rw [f1] at h ⊢;generalize upd H x _=H at h ⊢;refine ⟨_,rfl,l1,_,rfl,.inl (h.sql q1),_,rfl,(by rw [Je];omega),(by rw [Je];omega),_,rfl,λD nD=>?_⟩;rw [Je];have q1':SqL K H l1 (lens.map V.int):=h.sql q1;have h0:Hd H [(D,.lst ((((List.range 0).map λr=>(lens.take r).sum)).map V.int))] (upd H D (.lst [])):=Hd.base.new nD;generalize upd H D (.lst [])=H3 at h0 ⊢;refine YW (n:=lens.length) (λi σ J=>∃ u,σ=[u,rq l1]/\Hd H [(D,.lst ((((List.range i).map λr=>(lens.take r).sum)).map V.int))] J) ⟨none,rfl,h0⟩ ?_ ?_
 ·clear h0
  rintro i σ J hi ⟨u,rfl,h⟩;refine ⟨_,rfl,_,rfl,l1,lens,0+(i:Int),rfl,h.sql q1',by omega,λJ1 s1=>?_⟩;have h:=h.same s1;refine ⟨_,h.get 0 rfl,(by rw [Je,Je,List.length_range];omega),_,rfl,?_⟩;have h:=h.put (o':=.lst ((((List.range (i+1)).map λr=>(lens.take r).sum)).map V.int)) 0 rfl
  have e:((List.range (i+1)).map λr=>(lens.take r).sum).map V.int=((List.range i).map λr=>(lens.take r).sum).map V.int++[V.int (lens.take (0+(i:Int)).toNat).sum]:=by
   rw [List.range_succ,Jg,Jg,show (0+(i:Int)).toNat=i by omega];rfl
  rw [e] at h ⊢;exact h
 rintro σ H ⟨u,rfl,hD⟩;replace h:=h.join hD;clear hD h0 nD q1';refine ⟨_,rfl,x,_,_,_,rfl,h.get 0 rfl,CN.c,CN.starts,yO nF,?_⟩;obtain ⟨F2,f2,nF⟩:=yN "starts" (.ref D) nF;replace h:=h.fput (o':=.ins c.bn dx (zS "starts" (.ref D) F1));rw [f2] at h ⊢;generalize upd H x _=H at h ⊢;refine ⟨_,rfl,l2,_,rfl,.inl (h.sql q2),λaC nC=>?_⟩;replace h:=h.fnew (o:=.lst (cells.map V.int)) nC;generalize upd H aC _=H at h ⊢;refine ⟨_,rfl,x,_,_,_,rfl,h.get 0 rfl,CN.c,CN.cells,yO nF,?_⟩;obtain ⟨F3,f3,nF⟩:=yN "cells" (.ref aC) nF;replace h:=h.fput (o':=.ins c.bn dx (zS "cells" (.ref aC) F2));rw [f3] at h ⊢;generalize upd H x _=H at h ⊢;refine ⟨_,rfl,_,rfl,x,_,_,_,rfl,h.get 0 rfl,CN.c,CN.lq,yO nF,?_⟩;obtain ⟨F4,f4,nF⟩:=yN "lanes" (.int L) nF;replace h:=h.fput (o':=.ins c.bn dx (zS "lanes" (.int L) F3));rw [f4] at h ⊢;generalize upd H x _=H at h ⊢;refine ⟨_,rfl,λbx dbx nbx ndbx nebx=>?_⟩;refine ⟨bx,dbx,L,rfl,zi,by omega,by omega,λH1 aN k nN ebx eN=>⟨rfl,?_⟩⟩;have h:=(h.made nbx ndbx nebx k nN ebx eN).sub (.cons₂ _ (.cons₂ _ (.cons _ (List.Sublist.refl _))));have e8:(8*(L:Int)).toNat=8*L:=by omega
 rw [e8] at h;clear k nN ebx eN;generalize H1=H at h ⊢;replace h:=ya h 2 rfl;refine ⟨_,rfl,x,_,_,_,rfl,h.get 0 rfl,CN.c,CN.boxes,yO nF,?_⟩;obtain ⟨F5,f5,nF⟩:=yN "boxes" (.ref bx) nF;replace h:=h.fput (o':=.ins c.bn dx (zS "boxes" (.ref bx) F4));rw [f5] at h ⊢;generalize upd H x _=H at h ⊢;have e4:(4*(L:Int)).toNat=4*L:=by omega
 refine ⟨_,rfl,(by decide),(by decide),_,rfl,λaM nM=>?_⟩;have h0:Hd H ((aM,.lst (([]:Jc).map V.ref))::([]:Jc).map λa=>(a,HO.lst ((List.replicate (4*L) false).map V.bl))) (upd H aM (.lst [])):=Hd.base.new nM;generalize upd H aM (.lst [])=H3 at h0 ⊢;refine YW (n:=16) (λi σ J=>∃ u ms,ms.length=i/\σ=[u,iq L]/\Hd H ((aM,.lst (ms.map V.ref))::ms.map λa=>(a,HO.lst ((List.replicate (4*L) false).map V.bl))) J) ⟨none,[],rfl,rfl,h0⟩ ?_ ?_
 ·clear h0
  rintro i σ J hi ⟨u,ms,lm,rfl,h⟩;refine ⟨(by show 1<=sizeLine;decide),λt nt=>⟨_,rfl,_,_,rfl,rfl,.inl ⟨by decide,by decide⟩,t,_,_,rfl,rfl,zi,by omega,by omega,?_,λl nl=>?_⟩⟩
  ·show 1*(4*(L:Int)).toNat<=sizeLine
   omega
  have h:=((h.waste (o:=.lst [.bl false]) nt).fnew (o:=.lst (List.replicate (4*(L:Int)).toNat [V.bl false]).flatten) nl);generalize upd _ l _=J2 at h ⊢;refine ⟨_,h.get 0 rfl,(by rw [Je];omega),_,ms++[l],(by rw [Jf,lm];rfl),rfl,?_⟩;have h:=h.fput (o':=.lst ((ms++[l]).map V.ref))
  have e:(List.replicate (4*(L:Int)).toNat [V.bl false]).flatten=(List.replicate (4*L) false).map V.bl:=by
   rw [e4];generalize 4*L=n
   induction n with
   | zero=>rfl
   | succ n ih=>rw [List.replicate_succ,List.flatten_cons,ih,List.replicate_succ];rfl
  rw [e] at h;rw [Jg] at h ⊢;rw [Jg];exact h.perm (List.Perm.cons _ (List.perm_append_comm (l₁:=[_])))
 rintro σ H ⟨u,ms,lm,rfl,hD⟩;have hM:=hD.tl;replace h:=h.join hD;clear hD h0 nM;generalize hMS:(ms.map λa=>(a,HO.lst ((List.replicate (4*L) false).map V.bl)))=MS at h;refine ⟨_,rfl,x,_,_,_,rfl,h.get 0 rfl,CN.c,CN.mq,yO nF,?_⟩;obtain ⟨F6,f6,nF⟩:=yN "masks" (.ref aM) nF;replace h:=h.fput (o':=.ins c.bn dx (zS "masks" (.ref aM) F5));rw [f6] at h ⊢;generalize upd H x _=H at h ⊢;refine λaSl nSl=>?_;replace h:=h.fnew (o:=.dK []) nSl;generalize upd H aSl _=H at h ⊢;refine ⟨_,rfl,x,_,_,_,rfl,h.get 0 rfl,CN.c,CN.slots,yO nF,?_⟩;obtain ⟨F7,f7,nF⟩:=yN "slots" (.ref aSl) nF;replace h:=h.fput (o':=.ins c.bn dx (zS "slots" (.ref aSl) F6));rw [f7] at h ⊢;generalize upd H x _=H at h ⊢;refine ⟨_,rfl,λfd dfd n1 n2 n3=>?_⟩;refine ⟨fd,dfd,l3,dust,rfl,zi,zw (h.sql q3) (((zt (Same.refl _) n2)).trans (zt (Same.refl _) (by rw [zj (Ne.symm n3)];exact n1))),λH1 aD k n4 e1 e2=>⟨rfl,?_⟩⟩;have h:=(h.made n1 n2 n3 k n4 e1 e2).sub (.cons₂ _ (.cons₂ _ (.cons _ (List.Sublist.refl _))));clear k n4 e1 e2;generalize H1=H at h ⊢;replace h:=ya h 2 rfl;refine ⟨_,rfl,x,_,_,_,rfl,h.get 0 rfl,CN.c,CN.dust,yO nF,?_⟩;obtain ⟨F8,f8,nF⟩:=yN "dust" (.ref fd) nF;replace h:=h.fput (o':=.ins c.bn dx (zS "dust" (.ref fd) F7));rw [f8] at h ⊢;generalize upd H x _=H at h ⊢;refine ⟨_,rfl,λfp dfp n1 n2 n3=>?_⟩;refine ⟨fp,dfp,l4,picks,rfl,zi,zw (h.sql q4) (((zt (Same.refl _) n2)).trans (zt (Same.refl _) (by rw [zj (Ne.symm n3)];exact n1))),λH1 aP k n4 e1 e2=>⟨rfl,?_⟩⟩;have h:=(h.made n1 n2 n3 k n4 e1 e2).sub (.cons₂ _ (.cons₂ _ (.cons _ (List.Sublist.refl _))));clear k n4 e1 e2;generalize H1=H at h ⊢;replace h:=ya h 2 rfl;refine ⟨_,rfl,x,_,_,_,rfl,h.get 0 rfl,CN.c,CN.picks,yO nF,?_⟩;obtain ⟨F9,f9,nF⟩:=yN "picks" (.ref fp) nF;replace h:=h.fput (o':=.ins c.bn dx (zS "picks" (.ref fp) F8));rw [f9] at h ⊢;generalize upd H x _=H at h ⊢;refine ⟨(by show 0<=sizeLine;exact Nat.zero_le _),λaT nT=>?_⟩;replace h:=h.fnew (o:=.lst []) nT;generalize upd H aT _=H at h ⊢;refine ⟨_,rfl,x,_,_,_,rfl,h.get 0 rfl,CN.c,CN.tq,yO nF,?_⟩;obtain ⟨F10,f10,nF⟩:=yN "touches" (.ref aT) nF;replace h:=h.fput (o':=.ins c.bn dx (zS "touches" (.ref aT) F9));rw [f10] at h ⊢;generalize upd H x _=H at h ⊢;refine ⟨_,rfl,x,_,_,_,rfl,h.get 0 rfl,CN.c,CN.pc,yO nF,?_⟩;obtain ⟨F11,f11,nF⟩:=yN "at" (.int 0) nF;replace h:=h.fput (o':=.ins c.bn dx (zS "at" (.int 0) F10));rw [f11] at h ⊢;generalize upd H x _=H at h ⊢;refine ⟨_,rfl,x,_,_,_,rfl,h.get 0 rfl,CN.c,CN.oq,yO nF,?_⟩;obtain ⟨F12,f12,nF⟩:=yN "opened" (.int 0) nF;replace h:=h.fput (o':=.ins c.bn dx (zS "opened" (.int 0) F11));rw [f12] at h ⊢;generalize upd H x _=H at h ⊢;refine ⟨_,rfl,x,_,_,_,rfl,h.get 0 rfl,CN.c,CN.mn_,yO nF,?_⟩;obtain ⟨F13,f13,nF⟩:=yN "many" (.int 0) nF;replace h:=h.fput (o':=.ins c.bn dx (zS "many" (.int 0) F12));rw [f13] at h ⊢;generalize upd H x _=H at h ⊢;refine ⟨_,rfl,x,_,_,_,rfl,h.get 0 rfl,CN.c,CN.group,yO nF,?_⟩;obtain ⟨F14,f14,nF⟩:=yN "group" (.int 1) nF;replace h:=h.fput (o':=.ins c.bn dx (zS "group" (.int 1) F13));rw [f14] at h ⊢;generalize upd H x _=H at h ⊢;refine ⟨_,rfl,x,_,_,_,rfl,h.get 0 rfl,CN.c,CN.base,yO nF,?_⟩;obtain ⟨F15,f15,nF⟩:=yN "base" (.int 0) nF;replace h:=h.fput (o':=.ins c.bn dx (zS "base" (.int 0) F14));rw [f15] at h ⊢;generalize upd H x _=H at h ⊢;refine ⟨_,rfl,x,_,_,_,rfl,h.get 0 rfl,CN.c,CN.bq,yO nF,?_⟩;obtain ⟨F16,f16,nF⟩:=yN "begun" (.int 0) nF;replace h:=h.fput (o':=.ins c.bn dx (zS "begun" (.int 0) F15));rw [f16] at h ⊢;generalize upd H x _=H at h ⊢;refine ⟨_,rfl,x,_,_,_,rfl,h.get 0 rfl,CN.c,CN.wq,yO nF,?_⟩;obtain ⟨F17,f17,nF⟩:=yN "width" (.int 0) nF;replace h:=h.fput (o':=.ins c.bn dx (zS "width" (.int 0) F16));rw [f17] at h ⊢;generalize upd H x _=H at h ⊢;refine λaF nF'=>?_;replace h:=h.fnew (o:=.dK []) nF';generalize upd H aF _=H at h ⊢;refine ⟨_,rfl,x,_,_,_,rfl,h.get 0 rfl,CN.c,CN.fq,yO nF,?_⟩;obtain ⟨F18,f18,nF⟩:=yN "faults" (.ref aF) nF;replace h:=h.fput (o':=.ins c.bn dx (zS "faults" (.ref aF) F17));rw [f18] at h ⊢;generalize upd H x _=H at h ⊢;refine ⟨_,rfl,x,_,_,_,rfl,h.get 0 rfl,CN.c,CN.cut,yO nF,?_⟩;obtain ⟨F19,f19,nF⟩:=yN "cut" (.non) nF;replace h:=h.fput (o':=.ins c.bn dx (zS "cut" (.non) F18));rw [f19] at h ⊢;generalize upd H x _=H at h ⊢;refine ⟨_,rfl,x,_,_,_,rfl,h.get 0 rfl,CN.c,CN.cq,yO nF,?_⟩;obtain ⟨F20,f20,nF⟩:=yN "carried" (.non) nF;replace h:=h.fput (o':=.ins c.bn dx (zS "carried" (.non) F19));rw [f20] at h ⊢;generalize upd H x _=H at h ⊢;refine ⟨_,rfl,x,_,_,_,rfl,h.get 0 rfl,CN.c,CN.raised,yO nF,?_⟩;obtain ⟨F21,f21,nF⟩:=yN "raised" (.bl false) nF;replace h:=h.fput (o':=.ins c.bn dx (zS "raised" (.bl false) F20));rw [f21] at h ⊢;generalize upd H x _=H at h ⊢;refine ⟨(by show 0<=sizeLine;exact Nat.zero_le _),λaU nU=>?_⟩;replace h:=h.fnew (o:=.lst []) nU;generalize upd H aU _=H at h ⊢;refine ⟨_,rfl,x,_,_,_,rfl,h.get 0 rfl,CN.c,CN.turns,yO nF,?_⟩;obtain ⟨F22,f22,nF⟩:=yN "turns" (.ref aU) nF;replace h:=h.fput (o':=.ins c.bn dx (zS "turns" (.ref aU) F21));rw [f22] at h ⊢;generalize upd H x _=H at h ⊢;refine ⟨_,rfl,x,_,_,_,rfl,h.get 0 rfl,CN.c,CN.rq_,yO nF,?_⟩;obtain ⟨F23,f23,nF⟩:=yN "refusal" (.non) nF;replace h:=h.fput (o':=.ins c.bn dx (zS "refusal" (.non) F22));rw [f23] at h ⊢;generalize upd H x _=H at h ⊢;replace h:=ya h 1 rfl;replace h:=ya h 2 rfl;replace h:=ya h 3 rfl;replace h:=ya h 5 rfl;replace h:=ya h 7 rfl;replace h:=ya h 8 rfl;replace h:=ya h 9 rfl;replace h:=ya h 11 rfl;replace h:=ya h 8 rfl;replace h:=ya h 9 rfl;replace h:=ya h 10 rfl;replace h:=ya h 11 rfl;replace h:=ya h 14 rfl;replace h:=ya h 14 rfl;replace h:=ya h 14 rfl
 have ef:F23=xn ⟨x,dx,aL,D,aC,bx,dbx,aN,aM,aSl,fd,dfd,aD,fp,dfp,aP,aT,aF,aU,ms,[],[],.non⟩ (Mc.fresh lens cells L dust picks):=by
  rw [← f23,← f22,← f21,← f20,← f19,← f18,← f17,← f16,← f15,← f14,← f13,← f12,← f11,← f10,← f9,← f8,← f7,← f6,← f5,← f4,← f3,← f2,← f1,← e0F];have z:=foldF0 (xn ⟨x,dx,aL,D,aC,bx,dbx,aN,aM,aSl,fd,dfd,aD,fp,dfp,aP,aT,aF,aU,ms,[],[],.non⟩ (Mc.fresh lens cells L dust picks)) (show (["lengths","starts","cells","lanes","boxes","masks","slots","dust","picks","touches","at","opened","many","group","base","begun","width","faults","cut","carried","raised","turns","refusal"]:Jb).Nodup by decide +kernel);unfold xn at z ⊢;dsimp only [List.foldl] at z;exact z
 rw [ef] at h;obtain ⟨B',sB,eB,h⟩:=Hd.settles (S:=[_,_,_,_,_,_]) h;refine q B' ⟨x,dx,aL,D,aC,bx,dbx,aN,aM,aSl,fd,dfd,aD,fp,dfp,aP,aT,aF,aU,ms,[],[],.non⟩ H sB rfl ⟨⟨eB _ (.head _),eB _ (.tail _ (.head _)),eB _ (.tail _ (.tail _ (.tail _ (.head _)))),eB _ (.tail _ (.tail _ (.head _))),?_,eB _ (.tail _ (.tail _ (.tail _ (.tail _ (.head _))))),eB _ (.tail _ (.tail _ (.tail _ (.tail _ (.tail _ (.head _)))))),rfl,(λi t p a=>nomatch a),rfl,(λi t p a=>nomatch a),rfl⟩,?_⟩
 ·show ms.length=(List.replicate 16 _).length
  rw [lm,List.length_replicate]
 ·unfold objs
  have e0:∀ ns:J6,fAt ns 0=0:=λns=>by unfold fAt;rw [Nat.zero_mod];split <;> rfl
  have em:ZX ⟨x,dx,aL,D,aC,bx,dbx,aN,aM,aSl,fd,dfd,aD,fp,dfp,aP,aT,aF,aU,ms,[],[],.non⟩ (Mc.fresh lens cells L dust picks)=MS:=by
   rw [← hMS];show (ms.zip (List.replicate 16 _)).map _=_;rw [← lm];exact msk_fresh ms _
  rw [em,q8y];show Hd B' (_::_::_::_::(fd,YM c.fe dfd aD (fAt dust 0))::(fp,YM c.fe dfp aP (fAt picks 0))::_::_::_::MS) H;rw [e0,e0];exact h
inductive Run (L:Lex) (code:List (Jj)):Nat->Mc->Mc->Prop
 | done {M}:(code.length:Int)<=M.pc∨M.rq_.isSome=true->Run L code 0 M M
 | step {n M M1 Mf tv}:0<=M.pc->M.rq_=none->code[M.pc.toNat]?=some tv->Step L tv M M1->Run L code n M1 Mf->Run L code (n+1) M Mf
structure CodeAt (B:Hp) (cs:Jc) (code:List (Jj)):Prop where
 n:cs.length=code.length
 t:∀ (i:Nat) a tv,cs[i]?=some a->code[i]?=some tv->B a=some (.tup tv)
inductive spRan (c:MCs) (K:Fg) (Lx:Lex) (vs:Jj) (H:Hp) (Q:VK) (_:XK):Prop
 | mk (a l1 l2 l3 l4:Ad) (cs:Jc) (code:List (Jj)) (lens cells dust picks:J6) (L n:Nat) (Mf:Mc) (_:vs=[.ref a,.ref l1,.ref l2,.int L,.ref l3,.ref l4]) (_:SqL K H a (cs.map V.ref)) (_:CodeAt H cs code) (_:SqL K H l1 (lens.map V.int)) (_:SqL K H l2 (cells.map V.int)) (_:SqL K H l3 (dust.map V.int)) (_:SqL K H l4 (picks.map V.int)) (_:1<=L) (_:L<=64) (_:lens.length<=1000) (_:code.length<=1000) (_:Run Lx code n (Mc.fresh lens cells L dust picks) Mf) (_:∀ B' A' H' t,Same H B'->MAt c B' A' Mf [] H'->B' t=some (.tup [.ref A'.aC,A'.rf,.ref A'.aT])->Q (.ref t) H')
def ok_ran {c:MCs} {Lx:Lex} (d:zk K mg "ran" s_ran qN) (CC:MCls K c) (hlen:mg "len"=none) (hCn:mg "Bench"=some (.ref c.bn)) (IN:OkI P w K mg base CX0 3 c.bn qO (spInitN c K)) (PB:Ok P w K mg base CX0 9 "place_behind" qC (spPB c Lx)) :
  Ok P w K mg base CX0 10 "ran" qN (spRan c K Lx):=by
 refine oDf d sc_ran λg mh A _ s H vs Q E hr h=>?_;obtain ⟨a,l1,l2,l3,l4,cs,code,lens,cells,dust,picks,L,n,Mf,rfl,qa,CA,q1,q2,q3,q4,L1,L64,hl,hcl,run,q⟩:=h;have nd:=sc_ran.nd;have hr6:=hr;have hr4:=hr.mono (show 4<=9 by decide);have CN:=CC.n;refine ⟨_,(zd (oRz 6 nd (xF IN hCn hr4 (by rfl) zo (zb (pv 1) (zb (pv 2) (zb (pv 3) (zb (pv 4) (zb (pv 5) zc)))))))
   (zd (ps_while PassesOwn.never (pw_and (zF op_lt (zh (pv 6) rfl) (zp zD (by rfl) hlen PySem.boot_len (zb (pv 0) zc)) (zJ _)) (pw_and1 (zF zak (zh (pv 6) rfl) xv (zJ _)))).pt (zf (zu (pv 6) (zv PB hr6 (by rfl) zo (zb (pv 6) (zb (zB z6 (pv 0) (zh (pv 6) rfl) (λ_ _=>rfl)) zc))) rfl)))
   (zf (zm (yc (zb (zh (pv 6) rfl) (zb (zh (pv 6) rfl) (zb (zh (pv 6) rfl) zc)))))))),?_⟩
 dsimp only [yd,Cx.nox,Cx.wish];show (let s1:L2.TS:=_;let s2:L2.TS:=L2.tSeq _ s1;L2.tSeq _ s2 _ _ _);intro s1 s2;refine ⟨_,rfl,_,rfl,_,rfl,_,rfl,_,rfl,λx dx nx ndx ne=>?_⟩;have s0:Same H (upd H dx (.own x)):=zt (Same.refl _) ndx;have h0:Hd (upd H dx (.own x)) [(x,.ins c.bn dx [])] (upd (upd H dx (.own x)) x (.ins c.bn dx [])):=Hd.base.new (by rw [zj (Ne.symm ne)];exact nx);refine ⟨upd H dx (.own x),x,dx,l1,l2,l3,l4,lens,cells,dust,picks,L,rfl,h0,zw q1 s0,zw q2 s0,zw q3 s0,zw q4 s0,L1,L64,hl,λB1 A1 H1 s1 eb m1=>⟨rfl,?_⟩⟩;have sH:Same H B1:=s0.trans s1;have SQ:∀ {B2:Hp} {A2:Ma} {M:Mc} {H2:Hp},Same H B2->MAt c B2 A2 M [] H2->SqL K H2 a (cs.map V.ref):=λs2 m2=>zw (zw qa s2) m2.h.sm;refine ⟨λk σ J=>∃ B2 A2 M,σ=[rq a,rq l1,rq l2,iq L,rq l3,rq l4,rq x]/\Same H B2/\A2.b=x/\MAt c B2 A2 M [] J/\Run Lx code k M Mf,⟨n,B1,A1,_,rfl,sH,eb,m1,run⟩,?_⟩;rintro k σ J ⟨B2,A2,M,rfl,s2,eb2,m2,run⟩;have lcs:(cs.map V.ref).length=code.length:=by rw [Je];exact CA.n
 have rfn:M.rq_=none->A2.rf=.non:=λz=>by have:=m2.bb.rf;rw [z] at this;exact this
 have rfs:M.rq_.isSome=true->∃ t,A2.rf=.ref t:=λz=>by
  have:=m2.bb.rf
  cases e:M.rq_ with
  | none=>rw [e] at z;cases z
  | some r=>rw [e] at this;obtain ⟨t,y,_⟩:=this;exact ⟨t,y⟩
 refine ⟨_,rfl,A2.b,_,_,_,.int M.pc,by rw [eb2],m2.b,CN.c,CN.pc,rfl,_,rfl,a,_,rfl,.inl (SQ s2 m2),_,_,rfl,rfl,_,rfl,?_⟩;rw [lcs];have fin:Run Lx code 0 M Mf->Mf=M:=λz=>by cases z;rfl
 cases run with
 | done hd =>
  have ret:∀ J',J'=J->tRet (tTup (X2 (tFld K (tVar 6) "cells") (X2 (tFld K (tVar 6) "refusal") (X2 (tFld K (tVar 6) "touches") tNil)))) ⟨λ_ H'=>Q V.non H',Q,λ_ _=>False,λ_ _=>False⟩ [rq a,rq l1,rq l2,iq L,rq l3,rq l4,rq x] J':=by
   rintro J' rfl;refine ⟨_,rfl,A2.b,_,_,_,.ref A2.aC,by rw [eb2],m2.b,CN.c,CN.cells,rfl,_,rfl,A2.b,_,_,_,A2.rf,by rw [eb2],m2.b,CN.c,CN.rq_,rfl,_,rfl,A2.b,_,_,_,.ref A2.aT,by rw [eb2],m2.b,CN.c,CN.tq,rfl,(by show 3<=sizeLine;decide),λt nt=>?_⟩;exact q _ A2 _ t (s2.trans (zt (Same.refl _) (m2.h.free nt))) (m2.grow nt) zi
  by_cases z:Mf.pc<(code.length:Int)
  ·rcases hd with y | y
   ·omega
   obtain ⟨t,et⟩:=rfs y;rw [decide_eq_true z];refine ZY ⟨_,rfl,A2.b,_,_,_,A2.rf,by rw [eb2],m2.b,CN.c,CN.rq_,rfl,rfl,_,rfl,?_⟩;rw [et];exact xl (ret _ rfl)
  ·rw [decide_eq_false z]
   exact xl (xl (ret _ rfl))
 | step p0 hn ec st run =>
  rename_i k M1 tv;have hlt:M.pc.toNat<code.length:=(List.getElem?_eq_some_iff.mp ec).1;have z:M.pc<(code.length:Int):=by omega
  rw [decide_eq_true z];refine ZY ⟨_,rfl,A2.b,_,_,_,A2.rf,by rw [eb2],m2.b,CN.c,CN.rq_,rfl,rfl,_,rfl,?_⟩;rw [rfn hn];refine ZY ⟨λσ' J'=>∃ B2 A2,σ'=[rq a,rq l1,rq l2,iq L,rq l3,rq l4,rq x]/\Same H B2/\A2.b=x/\MAt c B2 A2 M1 [] J',λσ' J' ⟨B3,A3,e3,s3,eb3,m3⟩=>⟨k,by omega,B3,A3,M1,e3,s3,eb3,m3,run⟩,?_⟩;obtain ⟨st',es'⟩:∃ y,cs[M.pc.toNat]?=some y:=⟨cs[M.pc.toNat]'(by rw [CA.n];exact hlt),List.getElem?_eq_getElem _⟩;have eT:=CA.t _ _ _ es' ec;refine ⟨_,rfl,_,rfl,_,rfl,A2.b,_,_,_,.int M.pc,by rw [eb2],m2.b,CN.c,CN.pc,rfl,a,_,_,.ref st',rfl,rfl,SQ s2 m2,?_,B2,A2,M,[],st',tv,M1,by rw [eb2];rfl,m2,s2 _ _ eT,st,λB3 A3 J3 M2 s3 eb3 m3 em=>?_⟩
  ·rw [show M.pc=((M.pc.toNat:Nat):Int) by omega]
   exact zH (by rw [List.getElem?_map,es'];rfl)
  refine ⟨_,rfl,A3.b,_,_,_,by rw [eb3,eb2],m3.b,CN.c,CN.pc,(by show 23<1000;decide),?_⟩;have m4:=m3.s_pc M1.pc;rw [← em] at m4;exact ⟨B3,A3,rfl,s2.trans s3,eb3.trans eb2,m4⟩
theorem zcn (v:V):∀ (js:J6),(List.replicate js.length [v]).flatten=js.map λ_=>v
 | []=>rfl
 | j::js=>by rw [q8x,List.replicate_succ,List.flatten_cons,zcn v js];rfl
def numM:FnM:=λtv M js=>match (tv[2]?:Jk) with
 | some (V.int n)=>some (M,js.map λ_=>some n)
 | _=>none
def hereM:FnM:=λ_ M js=>some (M,js.map λj=>some (M.base+j))
def numM_ok:FnMOk numM where
 ok:=λh o=>by unfold numM at h;split at h <;> cases h;exact o
 g:=λh=>by unfold numM at h;split at h <;> cases h;rfl
 n:=λh=>by unfold numM at h;split at h <;> cases h;rw [Je]
def hereM_ok:FnMOk hereM where
 ok:=λh o=>by cases h;exact o
 g:=λh=>by cases h;rfl
 n:=λh=>by cases h;rw [Je]
def ze4 {c:MCs} (d:zk K mg "numbers_written" yD qE) (hlen:mg "len"=none):Ok P w K mg base CX0 1 "numbers_written" qE (spFn c numM):=by
 refine oDf d YQ λg mh A _ s H vs Q E hr h=>?_;obtain ⟨B,A,M,R,st,aa,tv,js,M',ns,rfl,m,es,ea,ef,ok,hj,hl,q⟩:=h;have SL:(3000:Nat)<sizeLine:=by decide
 unfold numM at ef
 split at ef
 case h_2=>cases ef
 rename_i n e2;cases ef;refine ⟨_,(zf (zm (zn zct (yh (zb (zB zI (pv 1) zg (λ_ _=>rfl)) zc)) (zp zD (by rfl) hlen PySem.boot_len (zb (pv 2) zc))))),?_⟩;dsimp only [yd,Cx.nox,Cx.wish];refine ⟨_,rfl,st,_,_,_,rfl,rfl,SqT.of (m.h.sm _ _ es),zH (j:=2) e2,(by show 1<=sizeLine;omega),λt nt=>?_⟩;have m1:=m.grow (o:=.lst [.int n]) nt;have s1:Same B (upd B t (.lst [.int n])):=zt (Same.refl _) (m.h.free nt);have et:upd B t (.lst [.int n]) t=some (.lst [.int n]):=zi;generalize upd B t (.lst [.int n])=B1 at m1 s1 et;refine ⟨_,rfl,aa,_,rfl,.inl (SqL.of (m1.h.sm _ _ (s1 _ _ ea))),t,_,_,rfl,rfl,m1.h.sm _ _ et,by rw [Je];omega,by rw [Je];omega,(by rw [Je,q0z];show 1*js.length<=_;omega),λl nl=>?_⟩;rw [Je,q0z,zcn];have m2:=m1.grow (o:=.lst (js.map λ_=>V.int n)) nl;have s2:Same B1 (upd B1 l (.lst (js.map λ_=>V.int n))):=zt (Same.refl _) (m1.h.free nl);refine q _ A _ l (s1.trans s2) rfl m2 ?_;rw [zi,List.map_map];rfl
def ok_here {c:MCs} (d:zk K mg "numbers_of_here" yE qE) (CC:MCls K c):Ok P w K mg base CX0 1 "numbers_of_here" qE (spFn c hereM):=by
 refine oDf d sc_numbers_of_here λg mh A _ s H vs Q E hr h=>?_;obtain ⟨B,A,M,R,st,aa,tv,js,M',ns,rfl,m,es,ea,ef,ok,hj,hl,q⟩:=h;cases ef;have nd:=sc_numbers_of_here.nd;have CN:=CC.n;have SL:(3000:Nat)<sizeLine:=by decide
 refine ⟨_,(zf (zm (xw ["lane","bench"] [none,some 0] rfl rfl rfl (Zl (pv 2)) (λs3 H3 fp=>⟨oQz 0 (Jl ["lane","bench"]),(zn zP (YB (K:=K) rfl (pv 1) rfl) (pv 0))⟩)))),?_⟩;dsimp only [yd,Cx.nox,Cx.wish];refine ⟨_,rfl,aa,rfl,⟨_,SqL.of (m.h.sm _ _ ea)⟩,_,rfl,λD nD=>?_⟩;have h0:Hd H [(D,.lst (((js.take 0).map λj=>some (M.base+j)).map oV))] (upd H D (.lst [])):=Hd.base.new nD;generalize upd H D (.lst [])=H1 at h0 ⊢;refine ZZ (K:=K) (a:=aa) (D:=D) (xs:=js.map V.int) (λi σ J=>∃ u,σ=[u,rq A.b]/\Hd H [(D,.lst (((js.take i).map λj=>some (M.base+j)).map oV))] J) ⟨none,rfl,h0⟩ (λi σ J _ ⟨_,_,h⟩=>SqL.of (h.sm _ _ (m.h.sm _ _ ea))) ?_ ?_
 ·clear h0
  rintro i y σ J hy ⟨u,rfl,h⟩;obtain ⟨j,e9,rfl⟩:=xI hy;have hlt:i<js.length:=(List.getElem?_eq_some_iff.mp e9).1;refine ⟨_,rfl,A.b,_,_,_,.int M.base,rfl,h.sm _ _ m.b,CN.c,CN.base,rfl,_,rfl,_,_,rfl,rfl,_,h.get 0 rfl,(by rw [Je,Je,List.length_take];omega),_,rfl,?_⟩;have h3:=h.put (o':=.lst (((js.take (i+1)).map λj=>some (M.base+j)).map oV)) 0 rfl
  have e:((js.take (i+1)).map λj=>some (M.base+j)).map oV=((js.take i).map λj=>some (M.base+j)).map oV++[V.int (M.base+j)]:=by
   rw [List.take_add_one,e9,Jg,Jg];rfl
  rw [e] at h3 ⊢;exact h3
 ·rintro σ J ⟨u,rfl,h⟩
  rw [Je,List.take_length] at h;exact q _ A J D (zt (Same.refl _) (m.h.free (h.nw _ (List.mem_singleton.mpr rfl)))) rfl (m.adopt h) zi
def Mc.touched_ok {M:Mc} {kind:Str} {a:Int} (ok:MOk M):MOk (M.touched kind a):={ok with}
open Classical in
noncomputable def Za:FnM:=λtv M js=>match (tv[2]?:Jk) with
 | some (V.int r)=>if js.length=0 then some (M,[]) else if 0<=r/\r.toNat<M.starts.length/\0<=M.adr r.toNat 0/\(M.adr r.toNat 0).toNat<M.cells.length/\M.tq.length<100000 then some (M.touched "read" (M.adr r.toNat 0),js.map λ_=>some (M.cells.getD (M.adr r.toNat 0).toNat 0)) else none
 | _=>none
def Z2 {tv:Jj} {M M':Mc} {js:J6} {ns:List (Option Int)} (h:Za tv M js=some (M',ns)):∃ r:Int,tv[2]?=some (.int r)/\((js=[]/\M'=M/\ns=[])∨(js≠[]/\∃ n:Nat,r=n/\n<M.starts.length/\0<=M.adr n 0/\(M.adr n 0).toNat<M.cells.length/\M.tq.length<100000/\M'=M.touched "read" (M.adr n 0)/\ns=js.map λ_=>some (M.cells.getD (M.adr n 0).toNat 0))):=by
 unfold Za at h
 split at h
 ·rename_i r e
  split at h
  ·rename_i z
   cases h;exact ⟨r,e,.inl ⟨List.length_eq_zero_iff.mp z,rfl,rfl⟩⟩
  ·rename_i z
   split at h
   ·rename_i hc
    cases h;exact ⟨r,e,.inr ⟨λy=>z (by rw [y];rfl),r.toNat,by omega,hc.2.1,hc.2.2.1,hc.2.2.2.1,hc.2.2.2.2,rfl,rfl⟩⟩
   ·cases h
 ·cases h
def zeu:FnMOk Za where
 ok:=λh o=>by
  obtain ⟨_,_,⟨_,rfl,_⟩ | ⟨_,_,_,_,_,_,_,rfl,_⟩⟩:=Z2 h
  ·exact o
  ·exact Mc.touched_ok o
 g:=λh=>by
  obtain ⟨_,_,⟨_,rfl,_⟩ | ⟨_,_,_,_,_,_,_,rfl,_⟩⟩:=Z2 h
  ·rfl
  ·rfl
 n:=λh=>by
  obtain ⟨_,_,⟨rfl,_,rfl⟩ | ⟨_,_,_,_,_,_,_,_,rfl⟩⟩:=Z2 h
  ·rfl
  ·rw [Je]
def ok_spread {c:MCs} (d:zk K mg "numbers_spread" yS qE) (hlen:mg "len"=none) (CC:MCls K c) (RC:OkM P w K mg base CX0 2 c.bn "read_cell" Ul (spRead c)):Ok P w K mg base CX0 3 "numbers_spread" qE (spFn c Za):=by
 refine oDf d Y0 λg mh A _ s H vs Q E hr h=>?_;obtain ⟨B,A,M,R,st,aa,tv,js,M',ns,rfl,m,es,ea,ef,ok,hj,hl,q⟩:=h;obtain ⟨r,e2,hc⟩:=Z2 ef;have hr2:=hr;have SL:(3000:Nat)<sizeLine:=by decide
 refine ⟨_,(zd (zL (zF y8 (zp zD (by rfl) hlen PySem.boot_len (zb (pv 2) zc)) zg (zJ _)) (zf (zm (yh zc))) zy)
   (zf (zm (zn zct (yh (zb (zW RC CC.n.c hr2 zo (pv 0) (zb (zB zI (pv 1) zg (λ_ _=>rfl)) (zb zg zc))) zc)) (zp zD (by rfl) hlen PySem.boot_len (zb (pv 2) zc)))))),?_⟩
 dsimp only [yd,Cx.nox,Cx.wish];refine ⟨_,rfl,aa,_,rfl,.inl (SqL.of (m.h.sm _ _ ea)),rfl,_,rfl,?_⟩;rw [Je];rcases hc with ⟨rfl,rfl,rfl⟩ | ⟨hne,n,rfl,hn,a0,a1,ht,rfl,rfl⟩
 ·refine ZY ⟨(by show 0<=sizeLine;omega),λl nl=>?_⟩
  exact q _ A _ l (zt (Same.refl _) (m.h.free nl)) rfl (m.grow nl) zi
 ·have hp:js.length≠0:=λz=>hne (List.length_eq_zero_iff.mp z)
  rw [decide_eq_false (λz=>hp (by injection z with z;omega))];refine xl ⟨_,rfl,A.b,_,_,rfl,m.b,rfl,_,rfl,st,_,_,_,rfl,rfl,SqT.of (m.h.sm _ _ es),zH (j:=2) e2,B,A,M,R,n,0,rfl,m,ht,hn,a0,a1,λB1 A1 H1 s1 eb m1=>?_⟩;refine ⟨(by show 1<=sizeLine;omega),λt nt=>?_⟩;have m2:=m1.grow (o:=.lst [.int (M.cells.getD (M.adr n 0).toNat 0)]) nt;have s2:Same B1 (upd B1 t (.lst [.int (M.cells.getD (M.adr n 0).toNat 0)])):=zt (Same.refl _) (m1.h.free nt);have et:upd B1 t (.lst [.int (M.cells.getD (M.adr n 0).toNat 0)]) t=some (.lst [.int (M.cells.getD (M.adr n 0).toNat 0)]):=zi;generalize upd B1 t (.lst [.int (M.cells.getD (M.adr n 0).toNat 0)])=B2 at m2 s2 et;refine ⟨_,rfl,aa,_,rfl,.inl (SqL.of (m2.h.sm _ _ (s2 _ _ (s1 _ _ ea)))),t,_,_,rfl,rfl,m2.h.sm _ _ et,by rw [Je];omega,by rw [Je];omega,(by rw [Je,q0z];show 1*js.length<=_;omega),λl nl=>?_⟩;rw [Je,q0z,zcn];have m3:=m2.grow (o:=.lst (js.map λ_=>V.int (M.cells.getD (M.adr n 0).toNat 0))) nl;have s3:Same B2 (upd B2 l (.lst (js.map λ_=>V.int (M.cells.getD (M.adr n 0).toNat 0)))):=zt (Same.refl _) (m2.h.free nl);refine q _ A1 _ l ((s1.trans s2).trans s3) eb m3 ?_;rw [zi,List.map_map];rfl
def Mc.chosen (M:Mc) (p k:Nat) (nought:Bool):J6:=(M.act k).filter λj=>decide (decide (M.nq p j=0)=nought)
def xS (nought:Bool):EfM:=λtv M=>match (tv[1]?:Jk),(tv[2]?:Jk),(tv[3]?:Jk) with
 | some (V.int m),some (V.int p),some (V.int k)=>if 0<=m/\m<16/\0<=p/\(p+1)*M.group<=8/\0<=k/\k<16 then some (M.laidMask m.toNat (M.chosen p.toNat k.toNat nought)) else none
 | _,_,_=>none
def zfn {nought:Bool} {tv:Jj} {M M':Mc} (h:xS nought tv M=some M'):∃ m p k:Nat,tv[1]?=some (.int m)/\tv[2]?=some (.int p)/\tv[3]?=some (.int k)/\m<16/\((p:Int)+1)*M.group<=8/\k<16/\M'=M.laidMask m (M.chosen p k nought):=by
 unfold xS at h
 split at h
 ·rename_i m p k e1 e2 e3
  split at h
  ·rename_i hc
   obtain ⟨m0,m1,p0,p8,k0,k1⟩:=hc;cases h;refine ⟨m.toNat,p.toNat,k.toNat,?_,?_,?_,by omega,?_,by omega,rfl⟩
   ·rw [e1];congr 2;omega
   ·rw [e2];congr 2;omega
   ·rw [e3];congr 2;omega
   ·rw [Int.toNat_of_nonneg p0];exact p8
  ·cases h
 ·cases h
inductive spLC (c:MCs) (vs:Jj) (H:Hp) (Q:VK) (_:XK):Prop
 | mk (nought:Bool) (B:Hp) (A:Ma) (M:Mc) (R:Ji) (st:Ad) (tv:Jj) (M':Mc) (_:vs=[.ref A.b,.ref st,.bl nought]) (_:MAt c B A M R H) (_:B st=some (.tup tv)) (_:xS nought tv M=some M') (_:MOk M) (_:∀ B' A' H',Same B B'->A'.b=A.b->MAt c B' A' M' R H'->Q .non H')
def ok_chosen {c:MCs} (d:zk K mg "lay_chosen" Ze Up) (hzip:mg "zip"=none) (CC:MCls K c) (AU:OkM P w K mg base CX0 1 c.bn "active_under" Um (spAct c)) (NI:OkM P w K mg base CX0 3 c.bn "numbers_in" qV (spNums c K)) (LM:OkM P w K mg base CX0 2 c.bn "lay_mask" Uh (spMask c K)):Ok P w K mg base CX0 4 "lay_chosen" Up (spLC c):=by
 refine oDf d sc_lay_chosen λg mh A _ s H vs Q E hr h=>?_;obtain ⟨nought,B,A,M,R,st,tv,M',rfl,m,es,ef,ok,q⟩:=h;have nd:=sc_lay_chosen.nd;have hr3:=hr;have hr2:=hr.mono (show 2<=3 by decide);have hr1:=hr.mono (show 1<=3 by decide);have CN:=CC.n;have ml:=ok.ml;have SL:(3000:Nat)<sizeLine:=by decide
 obtain ⟨mk,p,k,e1,e2,e3,mk16,p8,k16,rfl⟩:=zfn ef;obtain ⟨mr1,mr2⟩:=YC ok k16;obtain ⟨ai,al⟩:=zc7 ok k;refine ⟨_,(zd (oRz 3 nd (zW AU CC.n.c hr1 zo (pv 0) (zb (zB zI (pv 1) zg (λ_ _=>rfl)) zc)))
   (zd (oRz 4 nd (zW NI CC.n.c hr3 zo (pv 0) (zb (zB zI (pv 1) zg (λ_ _=>rfl)) (zb (pv 3) zc))))
   (zf (zG (zW LM CC.n.c hr2 zo (pv 0) (zb (zB zI (pv 1) zg (λ_ _=>rfl)) (zb (zdu ["lane","number","nought"] [none,none,some 2] rfl rfl rfl (pi_zip rfl hzip (zb (pv 3) (zb (pv 4) zc))) (λs3 H3 fp=>⟨pg_tupK (K:=K) (n:=2) rfl rfl (xu (oQz 0 (Jl ["lane","number","nought"])) (xu (oQz 1 (Jl ["lane","number","nought"])) XR)),(zF y8 (Zm y8 (pv 1) zg (zJ _)) (pv 2) (zJ _)),(pv 0)⟩)) zc))))))),?_⟩
 refine ⟨_,rfl,A.b,_,_,rfl,m.b,rfl,_,rfl,st,_,_,_,rfl,rfl,SqT.of (m.h.sm _ _ es),zH (j:=3) e3,B,A,M,R,k,rfl,m,by omega,ok.w0,mr1,mr2,λB1 H1 l s1 m1 ea=>?_⟩;refine ⟨_,rfl,A.b,_,_,rfl,m1.b,rfl,_,rfl,st,_,_,_,rfl,rfl,SqT.of (m1.h.sm _ _ (s1 _ _ es)),zH (j:=2) e2,_,rfl,B1,A,M,R,p,l,M.act k,rfl,m1,ok,p8,ea,ai,al,λB2 H2 l2 s2 m2 en=>?_⟩;refine ⟨_,rfl,A.b,_,_,rfl,m2.b,rfl,_,rfl,st,_,_,_,rfl,rfl,SqT.of (m2.h.sm _ _ (s2 _ _ (s1 _ _ es))),zH (j:=1) e1,_,rfl,_,rfl,l,l2,rfl,⟨_,SqL.of (m2.h.sm _ _ (s2 _ _ ea))⟩,⟨_,SqL.of (m2.h.sm _ _ en)⟩,_,rfl,λD nD=>?_⟩;unfold Mc.chosen at q;generalize M.act k=js at *;let f:Int->Bool:=λj=>decide (decide (M.nq p j=0)=nought);have h0:Hd H2 [(D,.lst (((js.take 0).filter f).map V.int))] (upd H2 D (.lst [])):=Hd.base.new nD;generalize upd H2 D (.lst [])=H3 at h0 ⊢;refine compF_zip (K:=K) (xs:=js.map V.int) (ys:=(js.map (M.nq p)).map V.int) (λi σ J=>∃ u0 u1,σ=[u0,u1,some (.bl nought)]/\Hd H2 [(D,.lst (((js.take i).filter f).map V.int))] J) ⟨none,none,rfl,h0⟩ (λi σ J _ ⟨_,_,_,h⟩=>⟨SqL.of (h.sm _ _ (m2.h.sm _ _ (s2 _ _ ea))),SqL.of (h.sm _ _ (m2.h.sm _ _ en))⟩) (by rw [Je,Je,Je]) ?_ ?_
 ·clear h0
  rintro i x y σ J T hx hy ⟨u0,u1,rfl,h⟩ nT;obtain ⟨j,e9,rfl⟩:=xI hx;obtain ⟨z,e10,rfl⟩:=xI hy;rw [List.getElem?_map,e9] at e10;cases e10;have hlt:i<js.length:=(List.getElem?_eq_some_iff.mp e9).1;have h:=h.waste (o:=.tup [.int j,.int (M.nq p j)]) nT;refine ⟨T,_,rfl,SqT.of zi,rfl,_,_,rfl,_,_,rfl,rfl,?_⟩;generalize upd J T (.tup [.int j,.int (M.nq p j)])=J1 at h ⊢
  have et:(js.take (i+1)).filter f=(js.take i).filter f++if f j=true then [j] else []:=by
   rw [List.take_add_one,e9,List.filter_append];congr 1;show List.filter f [j]=_;by_cases z:f j=true
   ·rw [List.filter_cons_of_pos z,if_pos z];rfl
   ·rw [List.filter_cons_of_neg z,if_neg z];rfl
  have lf:=List.length_filter_le f (js.take i);rw [List.length_take] at lf;rw [et];refine ⟨_,rfl,rfl,_,rfl,rfl,_,rfl,?_⟩
  have ef:decide (V.bl (decide (V.int (M.nq p j)=V.int 0))=V.bl nought)=f j:=by
   show _=decide (decide (M.nq p j=0)=nought);rw [zc3,dec_bl];by_cases z:M.nq p j=0 <;> cases nought <;> simp [z]
  rw [ef];refine yo (λz=>?_) (λz=>?_)
  ·rw [if_pos z]
   refine ⟨_,rfl,_,h.get 0 rfl,(by rw [Je];omega),_,_,rfl,?_⟩;rw [Jg];exact h.put 0 rfl
  ·rw [if_neg z,q8y]
   exact ⟨_,_,rfl,h⟩
 ·rintro σ J ⟨u0,u1,rfl,h⟩
  rw [Je,List.take_length] at h;have m3:=m2.adopt h;have s3:Same B2 (upd B2 D (.lst ((js.filter f).map V.int))):=zt (Same.refl _) (m2.h.free nD);refine ⟨_,A,M,R,mk,D,js.filter f,rfl,m3,ok,mk16,zi,(λj hj=>ai j (List.mem_filter.mp hj).1),λH9 m9=>?_⟩;exact q _ A H9 ((s1.trans s2).trans s3) rfl m9
def ok_choose {c:MCs} (d:zk K mg "play_choose" xL qC) (LC:Ok P w K mg base CX0 4 "lay_chosen" Up (spLC c)):Ok P w K mg base CX0 5 "play_choose" qC (spEf c (xS false)):=by
 refine oDf d X6 λg mh A _ s H vs Q E hr h=>?_;obtain ⟨B,A,M,R,st,tv,M',rfl,m,es,ef,ok,q⟩:=h;have hr4:=hr;refine ⟨_,(zf (zG (zv LC hr4 (by rfl) zo (zb (pv 0) (zb (pv 1) (zb Xe zc)))))),?_⟩;exact ⟨_,rfl,_,rfl,false,B,A,M,R,st,tv,M',rfl,m,es,ef,ok,q⟩
def MAt.putFault {c:MCs} {B:Hp} {A:Ma} {M:Mc} {R:Ji} {H:Hp} (m:MAt c B A M R H) (f:Jh):MAt c B A { M with fq:=f } R (upd H A.aF (.dK f)) :=
 ⟨{m.bb with},m.h.put (o':=.dK f) 7 rfl⟩
def Mc.sad (M:Mc) (slot lane:Int):Int:=M.cells.length+slot*4*M.lq+lane
def Mc.slotN (M:Mc) (a:Int):Int:=match zO M.slots (.inl a) with
 | some (.int n)=>n
 | _=>0
def SlotsOk (M:Mc):Prop:=∀ k v,zO M.slots k=some v->∃ n,v=.int n
def SlotsOk.at {M:Mc} (h:SlotsOk M) (a:Int):(zO M.slots (.inl a)).getD (.int 0)=.int (M.slotN a):=by
 unfold Mc.slotN
 cases e:zO M.slots (.inl a) with
 | none=>rfl
 | some v=>obtain ⟨n,rfl⟩:=h _ _ e;rfl
def Mc.wroteSlot (M:Mc) (slot lane n:Int):Mc:={ M.touched "write" (M.sad slot lane) with slots:=yL M.slots (.inl (M.sad slot lane)) (.int n) }
def MAt.putSlots {c:MCs} {B:Hp} {A:Ma} {M:Mc} {R:Ji} {H:Hp} (m:MAt c B A M R H) (f:Jh):MAt c B A { M with slots:=f } R (upd H A.aSl (.dK f)) :=
 ⟨{m.bb with},m.h.put (o':=.dK f) 3 rfl⟩
inductive spAdr (c:MCs) (vs:Jj) (H:Hp) (Q:VK) (_:XK):Prop
 | mk (B:Hp) (A:Ma) (M:Mc) (R:Ji) (slot lane:Int) (_:vs=[.ref A.b,.int slot,.int lane]) (_:MAt c B A M R H) (_:M.lq<=64) (_:Q (.int (M.sad slot lane)) H)
def ok_adr {c:MCs} {t1:Tok} (d:zN K c.bn "address_in_slot" "Bench.address_in_slot" ye qK) (CN:NCls K c.bn) (hlen:mg "len"=none) (hMT:mg "MOST_TOGETHER"=some (.int 4 t1)):OkM P w K mg base CX0 1 c.bn "address_in_slot" qK (spAdr c):=by
 refine oMf d ZT λf mh A _ s H vs Q E hr h=>?_;obtain ⟨B,A,M,R,slot,lane,rfl,m,l64,q⟩:=h;refine ⟨_,(zf (zm (zn zP (zn zP (zp zD (by rfl) hlen PySem.boot_len (zb (zh (pv 0) rfl) zc)) (zn yC (zn yC (pv 1) (xR hMT)) (zh (pv 0) rfl))) (pv 2)))),?_⟩;dsimp only [yd,Cx.nox,Cx.wish];refine ⟨_,rfl,A.b,_,_,_,.ref A.aC,rfl,m.b,CN.c,CN.cells,rfl,A.aC,_,rfl,.inl (m.h.lst 1 rfl),?_⟩;rw [Je];exact ⟨_,rfl,_,_,rfl,rfl,.inr ⟨by decide,by decide⟩,_,rfl,A.b,_,_,_,.int M.lq,rfl,m.b,CN.c,CN.lq,rfl,_,_,rfl,rfl,.inr ⟨by omega,by omega⟩,_,_,rfl,rfl,_,rfl,_,_,rfl,rfl,q⟩
inductive spWS (c:MCs) (vs:Jj) (H:Hp) (Q:VK) (_:XK):Prop
 | mk (B:Hp) (A:Ma) (M:Mc) (R:Ji) (slot lane n:Int) (_:vs=[.ref A.b,.int slot,.int lane,.int n]) (_:MAt c B A M R H) (_:M.lq<=64) (_:M.tq.length<100000) (_:M.slots.length<100000) (_:∀ B' A' H',Same B B'->A'.b=A.b->MAt c B' A' (M.wroteSlot slot lane n) R H'->Q .non H')
def ok_ws {c:MCs} (d:zN K c.bn "write_slot" "Bench.write_slot" yt Uf) (CN:NCls K c.bn) (AD:OkM P w K mg base CX0 1 c.bn "address_in_slot" qK (spAdr c)) (TO:OkM P w K mg base CX0 1 c.bn "touch" qM (spTouch c)):OkM P w K mg base CX0 2 c.bn "write_slot" Uf (spWS c):=by
 refine oMf d sc_Bench_write_slot λf mh A _ s H vs Q E hr h=>?_;obtain ⟨B,A,M,R,slot,lane,n,rfl,m,l64,ht,hs,q⟩:=h;have nd:=sc_Bench_write_slot.nd;have hu:=Nat.lt_of_le_of_lt (Nat.add_le_add_left (show 1<=64 by decide) _) hr.units;have hr1:=hr;have SL:(200000:Nat)<sizeLine:=by decide
 refine ⟨_,(zd (oRz 4 nd (zW AD CN.c hr1 zo (pv 0) (zb (pv 1) (zb (pv 2) zc))))
   (zd (zG (zW TO CN.c hr1 zo (pv 0) (zb zV (zb (pv 4) zc))))
   (zf (ps_dput hu (zh (pv 0) rfl) (pv 4) (pv 3) rfl)))),?_⟩
 dsimp only [yd,Cx.nox,Cx.wish];refine ⟨_,rfl,A.b,_,_,rfl,m.b,rfl,_,rfl,_,rfl,B,A,M,R,slot,lane,rfl,m,l64,?_⟩;refine ⟨_,rfl,A.b,_,_,rfl,m.b,rfl,_,rfl,B,A,M,R,"write",M.sad slot lane,rfl,m,ht,λB1 A1 H1 s1 eb m1=>?_⟩;refine ⟨_,rfl,_,rfl,A1.b,_,_,_,.ref A1.aSl,by rw [eb],m1.b,CN.c,CN.slots,rfl,_,rfl,A1.aSl,_,rfl,DPut.k (k:=.inl (M.sad slot lane)) (m1.h.get 3 rfl) (by show M.slots.length<_;omega),?_⟩;exact q B1 A1 _ s1 eb (m1.putSlots _)
inductive spRS (c:MCs) (vs:Jj) (H:Hp) (Q:VK) (_:XK):Prop
 | mk (B:Hp) (A:Ma) (M:Mc) (R:Ji) (slot lane:Int) (_:vs=[.ref A.b,.int slot,.int lane]) (_:MAt c B A M R H) (_:M.lq<=64) (_:M.tq.length<100000) (_:SlotsOk M) (_:∀ B' A' H',Same B B'->A'.b=A.b->MAt c B' A' (M.touched "read" (M.sad slot lane)) R H'->Q (.int (M.slotN (M.sad slot lane))) H')
def ok_rs {c:MCs} (d:zN K c.bn "read_slot" "Bench.read_slot" yH qK) (CN:NCls K c.bn) (AD:OkM P w K mg base CX0 1 c.bn "address_in_slot" qK (spAdr c)) (TO:OkM P w K mg base CX0 1 c.bn "touch" qM (spTouch c)):OkM P w K mg base CX0 2 c.bn "read_slot" qK (spRS c):=by
 refine oMf d sc_Bench_read_slot λf mh A _ s H vs Q E hr h=>?_;obtain ⟨B,A,M,R,slot,lane,rfl,m,l64,ht,hs,q⟩:=h;have nd:=sc_Bench_read_slot.nd;have hu:=Nat.lt_of_le_of_lt (Nat.add_le_add_left (show 1<=64 by decide) _) hr.units;have hr1:=hr;refine ⟨_,(zd (oRz 3 nd (zW AD CN.c hr1 zo (pv 0) (zb (pv 1) (zb (pv 2) zc))))
   (zd (zG (zW TO CN.c hr1 zo (pv 0) (zb zV (zb (pv 3) zc))))
   (zf (zm (pe_dget2 hu (zh (pv 0) rfl) (pv 3) zg ⟨rfl,rfl,rfl,rfl⟩))))),?_⟩
 dsimp only [yd,Cx.nox,Cx.wish];refine ⟨_,rfl,A.b,_,_,rfl,m.b,rfl,_,rfl,_,rfl,B,A,M,R,slot,lane,rfl,m,l64,?_⟩;refine ⟨_,rfl,A.b,_,_,rfl,m.b,rfl,_,rfl,B,A,M,R,"read",M.sad slot lane,rfl,m,ht,λB1 A1 H1 s1 eb m1=>?_⟩;refine ⟨_,rfl,A1.b,_,_,_,.ref A1.aSl,by rw [eb],m1.b,CN.c,CN.slots,rfl,A1.aSl,rfl,.inl ⟨_,.inl (m1.h.get 3 rfl)⟩,_,rfl,_,DGet.k (k:=.inl (M.sad slot lane)) (m1.h.get 3 rfl),?_⟩;show Q ((zO M.slots (.inl (M.sad slot lane))).getD (.int 0)) H1;rw [hs.at];exact q B1 A1 H1 s1 eb m1
def Mc.saves (M:Mc) (slot:Int) (ps:List (Int×Int)):Mc:=ps.foldl (λM p=>M.wroteSlot slot p.1 p.2) M
def Mc.saves_snoc (M:Mc) (slot:Int) (ps:List (Int×Int)) (p:Int×Int):M.saves slot (ps++[p])=(M.saves slot ps).wroteSlot slot p.1 p.2:=by unfold Mc.saves;rw [List.foldl_append];rfl
def Mc.saves_is (M:Mc) (slot:Int) (ps:List (Int×Int)):M.saves slot ps={ M with slots:=(M.saves slot ps).slots,tq:=M.tq++ps.map λp=>(M.pc,("write":Str),M.sad slot p.1) }/\(M.saves slot ps).slots.length<=M.slots.length+ps.length:=by
 induction ps generalizing M with
 | nil=>exact ⟨by show M={ M with tq:=M.tq++[] };rw [q8y],Nat.le_refl _⟩
 | cons p ps ih =>
  obtain ⟨a,b⟩:=ih (M.wroteSlot slot p.1 p.2);have e:M.saves slot (p::ps)=(M.wroteSlot slot p.1 p.2).saves slot ps:=rfl;rw [e];refine ⟨?_,?_⟩
  ·rw [a]
   show ({ M with slots:=_,tq:=(M.tq++[_])++ps.map _ }:Mc)={ M with slots:=_,tq:=_ };rw [List.append_assoc];rfl
  ·have:=xi M.slots (.inl (M.sad slot p.1):Key) (.int p.2)
   have b:_<=(yL M.slots (.inl (M.sad slot p.1)) (.int p.2)).length+ps.length:=b;rw [q8x];omega
def Y3:EfM:=λtv M=>match (tv[1]?:Jk),(tv[2]?:Jk),(tv[3]?:Jk) with
 | some (V.int r),some (V.int p),some (V.int k)=>if 0<=p/\(p+1)*M.group<=8/\0<=k/\k<16/\M.tq.length<90000/\M.slots.length<90000 then some (M.saves r ((M.act k.toNat).map λj=>(j,M.nq p.toNat j))) else none
 | _,_,_=>none
def saveM_is {tv:Jj} {M M':Mc} (h:Y3 tv M=some M'):∃ (r:Int) (p k:Nat),tv[1]?=some (.int r)/\tv[2]?=some (.int p)/\tv[3]?=some (.int k)/\((p:Int)+1)*M.group<=8/\k<16/\M.tq.length<90000/\M.slots.length<90000/\M'=M.saves r ((M.act k).map λj=>(j,M.nq p j)):=by
 unfold Y3 at h
 split at h
 ·rename_i r p k e1 e2 e3
  split at h
  ·rename_i hc
   obtain ⟨p0,p8,k0,k1,ht,hs⟩:=hc;cases h;refine ⟨r,p.toNat,k.toNat,e1,?_,?_,?_,by omega,ht,hs,rfl⟩
   ·rw [e2];congr 2;omega
   ·rw [e3];congr 2;omega
   ·rw [Int.toNat_of_nonneg p0];exact p8
  ·cases h
 ·cases h
def ok_save {c:MCs} (d:zk K mg "play_save" Zx qC) (hzip:mg "zip"=none) (CC:MCls K c) (AU:OkM P w K mg base CX0 1 c.bn "active_under" Um (spAct c)) (NI:OkM P w K mg base CX0 3 c.bn "numbers_in" qV (spNums c K))
  (WS:OkM P w K mg base CX0 2 c.bn "write_slot" Uf (spWS c)):Ok P w K mg base CX0 4 "play_save" qC (spEf c Y3):=by
 refine oDf d sc_play_save λg mh A _ s H vs Q E hr h=>?_;obtain ⟨B,A,M,R,st,tv,M',rfl,m,es,ef,ok,q⟩:=h;have nd:=sc_play_save.nd;have hr3:=hr;have hr2:=hr.mono (show 2<=3 by decide);have hr1:=hr.mono (show 1<=3 by decide);have CN:=CC.n;have ml:=ok.ml;obtain ⟨r,p,k,e1,e2,e3,p8,k16,ht,hsl,rfl⟩:=saveM_is ef;obtain ⟨mr1,mr2⟩:=YC ok k16;obtain ⟨ai,al⟩:=zc7 ok k;refine ⟨_,(zd (oRz 2 nd (zW AU CC.n.c hr1 zo (pv 0) (zb (zB zI (pv 1) zg (λ_ _=>rfl)) zc)))
   (zf (x6 PassesOwn.never rfl (pi_zip rfl hzip (zb (pv 2) (zb (zW NI CC.n.c hr3 zo (pv 0) (zb (zB zI (pv 1) zg (λ_ _=>rfl)) (zb (pv 2) zc))) zc))) (pg_tup rfl (xu (oQz 3 nd) (xu (oQz 4 nd) XR))) (zf (zG (zW WS CC.n.c hr2 zo (pv 0) (zb (zB zI (pv 1) zg (λ_ _=>rfl)) (zb (pv 3) (zb (pv 4) zc))))))))),?_⟩
 dsimp only [yd,Cx.nox,Cx.wish];refine ⟨_,rfl,A.b,_,_,rfl,m.b,rfl,_,rfl,st,_,_,_,rfl,rfl,SqT.of (m.h.sm _ _ es),zH (j:=3) e3,B,A,M,R,k,rfl,m,by omega,ok.w0,mr1,mr2,λB1 H1 l s1 m1 ea=>?_⟩;refine ⟨_,rfl,_,rfl,A.b,_,_,rfl,m1.b,rfl,_,rfl,st,_,_,_,rfl,rfl,SqT.of (m1.h.sm _ _ (s1 _ _ es)),zH (j:=2) e2,_,rfl,B1,A,M,R,p,l,M.act k,rfl,m1,ok,p8,ea,ai,al,λB2 H2 l2 s2 m2 en=>?_⟩;refine ⟨l,l2,rfl,⟨_,SqL.of (m2.h.sm _ _ (s2 _ _ ea))⟩,⟨_,SqL.of (m2.h.sm _ _ en)⟩,?_⟩;generalize M.act k=js at *;let pr:Int->Int×Int:=λj=>(j,M.nq p j);let Pv1:Nat->St->Hp->Prop:=(λi σ J=>∃ u3 u4 B3 A3,σ=[rq A.b,rq st,rq l,u3,u4]/\Same B2 B3/\A3.b=A.b/\MAt c B3 A3 (M.saves r ((js.take i).map pr)) R J);refine for_zip (xs:=js.map V.int) (ys:=(js.map (M.nq p)).map V.int) Pv1 ⟨none,none,B2,A,rfl,Same.refl _,rfl,m2⟩ (λi σ J _ ⟨_,_,B3,A3,_,s3,_,m3⟩=>⟨SqL.of (m3.h.sm _ _ (s3 _ _ (s2 _ _ ea))),SqL.of (m3.h.sm _ _ (s3 _ _ en))⟩) (by rw [Je,Je,Je]) ?_ ?_
 ·rintro i x y σ J T hx hy ⟨u3,u4,B3,A3,rfl,s3,eb,m3⟩ nT
  obtain ⟨j,e9,rfl⟩:=xI hx;obtain ⟨z,e10,rfl⟩:=xI hy;rw [List.getElem?_map,e9] at e10;cases e10;have hlt:i<js.length:=(List.getElem?_eq_some_iff.mp e9).1;have m4:=m3.grow (o:=.tup [.int j,.int (M.nq p j)]) nT;have s4:Same B3 (upd B3 T (.tup [.int j,.int (M.nq p j)])):=zt (Same.refl _) (m3.h.free nT);have e4:upd B3 T (.tup [.int j,.int (M.nq p j)]) T=some (.tup [.int j,.int (M.nq p j)]):=zi;generalize upd J T (.tup [.int j,.int (M.nq p j)])=J4 at m4 ⊢;generalize upd B3 T (.tup [.int j,.int (M.nq p j)])=B4 at m4 s4 e4;obtain ⟨pi1,pi2⟩:=M.saves_is r ((js.take i).map pr);rw [Je,List.length_take] at pi2;have hL:(M.saves r ((js.take i).map pr)).lq<=64:=by rw [pi1];exact ok.l64
  have hT:(M.saves r ((js.take i).map pr)).tq.length<100000:=by
   rw [pi1];show (M.tq++_).length<_;rw [Jf,Je,Je,List.length_take];omega
  refine ⟨T,_,rfl,SqT.of (m4.h.sm _ _ e4),rfl,_,_,rfl,_,_,rfl,rfl,?_⟩;refine ⟨_,rfl,A3.b,_,_,by rw [eb],m4.b,rfl,_,rfl,st,_,_,_,rfl,rfl,SqT.of (m4.h.sm _ _ (s4 _ _ (s3 _ _ (s2 _ _ (s1 _ _ es))))),zH (j:=1) e1,_,rfl,_,rfl,B4,A3,_,R,r,j,M.nq p j,by rw [eb];rfl,m4,hL,hT,by omega,λB5 A5 H5 s5 eb5 m5=>?_⟩;refine ⟨_,_,B5,A5,rfl,(s3.trans s4).trans s5,eb5.trans eb,?_⟩;have et:(js.take (i+1)).map pr=(js.take i).map pr++[pr j]:=by rw [List.take_add_one,e9,Jg];rfl
  rw [et,M.saves_snoc];exact m5
 ·rintro σ J ⟨u3,u4,B3,A3,rfl,s3,eb,m3⟩
  rw [Je,List.take_length] at m3;exact q B3 A3 J ((s1.trans s2).trans s3) eb m3
def Mc.brings (M:Mc) (slot:Int) (js:J6):Mc:={ M with tq:=M.tq++js.map λj=>(M.pc,("read":Str),M.sad slot j) }
def Mc.brings_snoc (M:Mc) (slot:Int) (js:J6) (j:Int):M.brings slot (js++[j])=(M.brings slot js).touched "read" (M.sad slot j):=by
 unfold Mc.brings Mc.touched;rw [Jg,← List.append_assoc];rfl
open Classical in
noncomputable def ZV:FnM:=λtv M js=>match (tv[2]?:Jk) with
 | some (V.int r)=>if SlotsOk M/\M.tq.length<90000 then some (M.brings r js,js.map λj=>some (M.slotN (M.sad r j))) else none
 | _=>none
def YG {tv:Jj} {M M':Mc} {js:J6} {ns:List (Option Int)} (h:ZV tv M js=some (M',ns)):∃ r:Int,tv[2]?=some (.int r)/\SlotsOk M/\M.tq.length<90000/\M'=M.brings r js/\ns=js.map λj=>some (M.slotN (M.sad r j)):=by
 unfold ZV at h
 split at h
 ·rename_i r e
  split at h
  ·rename_i hc
   cases h;exact ⟨r,e,hc.1,hc.2,rfl,rfl⟩
  ·cases h
 ·cases h
def bringM_ok:FnMOk ZV where
 ok:=λh ok=>by
  obtain ⟨r,_,_,_,rfl,_⟩:=YG h;exact {ok with}
 g:=λh=>by obtain ⟨r,_,_,_,rfl,_⟩:=YG h;rfl
 n:=λh=>by obtain ⟨r,_,_,_,_,rfl⟩:=YG h;rw [Je]
def ok_bring {c:MCs} (d:zk K mg "numbers_brought" yF qE) (CC:MCls K c) (RS:OkM P w K mg base CX0 2 c.bn "read_slot" qK (spRS c)):Ok P w K mg base CX0 3 "numbers_brought" qE (spFn c ZV):=by
 refine oDf d sc_numbers_brought λg mh A _ s H vs Q E hr h=>?_;obtain ⟨B,A,M,R,st,aa,tv,js,M',ns,rfl,m,es,ea,ef,ok,hj,hl,q⟩:=h;obtain ⟨r,e2,hs,ht,rfl,rfl⟩:=YG ef;have nd:=sc_numbers_brought.nd;have hr2:=hr;have SL:(3000:Nat)<sizeLine:=by decide
 let f:Int->Option Int:=λj=>some (M.slotN (M.sad r j));refine ⟨_,(zf (zm (xw Us [none,some 0,some 1] rfl rfl rfl (Zl (pv 2)) (λs3 H3 fp=>⟨oQz 0 (Jl Us),(zW RS CC.n.c hr2 zo (pv 1) (zb (zB (zcy (K:=K) rfl) (pv 2) zg (λ_ _=>rfl)) (zb (pv 0) zc)))⟩)))),?_⟩;dsimp only [yd,Cx.nox,Cx.wish];refine ⟨_,rfl,aa,rfl,⟨_,SqL.of (m.h.sm _ _ ea)⟩,_,rfl,λD nD=>?_⟩
 have m0:MAt c B A (M.brings r (js.take 0)) ((D,.lst (((js.take 0).map f).map oV))::R) (upd H D (.lst [])):=by
  have e:M.brings r (js.take 0)=M:=by unfold Mc.brings;rw [List.take_zero];show { M with tq:=M.tq++[] }=M;rw [q8y]
  rw [e];exact m.newR nD
 generalize upd H D (.lst [])=H1 at m0 ⊢;let Pv1:Nat->St->Hp->Prop:=(λi σ J=>∃ (u:Jk) (B1:Hp) (A1:Ma),σ=[u,rq A.b,rq st]/\Same B B1/\A1.b=A.b/\MAt c B1 A1 (M.brings r (js.take i)) ((D,.lst (((js.take i).map f).map oV))::R) J);refine ZZ (K:=K) (a:=aa) (D:=D) (xs:=js.map V.int) Pv1 ⟨none,B,A,rfl,Same.refl _,rfl,m0⟩ (λi σ J _ ⟨_,B1,A1,_,s1,_,m1⟩=>SqL.of (m1.h.sm _ _ (s1 _ _ ea))) ?_ ?_
 ·clear m0
  rintro i y σ J hy ⟨u,B1,A1,rfl,s1,eb,m1⟩;obtain ⟨j,e9,rfl⟩:=xI hy;have hlt:i<js.length:=(List.getElem?_eq_some_iff.mp e9).1;refine ⟨_,rfl,A1.b,_,_,by rw [eb],m1.b,rfl,_,rfl,st,_,_,_,rfl,rfl,SqT.of (m1.h.sm _ _ (s1 _ _ es)),zH (j:=2) e2,_,rfl,B1,A1,M.brings r (js.take i),_,r,j,by rw [eb];rfl,m1,ok.l64,?_,hs,λB2 A2 H2 s2 eb2 m2=>?_⟩
  ·show (M.tq++_).length<_
   rw [Jf,Je,List.length_take];omega
  refine ⟨_,m2.getR,(by rw [Je,Je,List.length_take];omega),_,B2,A2,rfl,s1.trans s2,eb2.trans eb,?_⟩;have et:js.take (i+1)=js.take i++[j]:=by rw [List.take_add_one,e9];rfl
  rw [et,M.brings_snoc,Jg,Jg];exact m2.putR
 ·rintro σ J ⟨u,B1,A1,rfl,s1,eb,m1⟩
  rw [Je,List.take_length] at m1;have nb:B1 D=none:=m1.h.nw (D,_) (List.mem_of_getElem? atR);exact q _ A1 J D (s1.trans (zt (Same.refl _) nb)) eb m1.settle zi
def Yi (f:Jh):J6:=f.filterMap λp=>match p.1 with
 | .inl j=>some j
 | .inr _=>none
def ZP (f:Jh):Prop:=∀ p∈f,∃ j,p.1=.inl j
def Yl:J6->Int
 | []=>0
 | [x]=>x
 | x::xs=>min x (Yl xs)
theorem zcx:∀ (xs:J6),∀ v∈xs,Yl xs<=v
 | [],v,h=>by cases h
 | [x],v,h=>by cases List.mem_singleton.mp h;exact Int.le_refl _
 | x::y::xs,v,h=>by
  have ih:=zcx (y::xs);show min x (Yl (y::xs))<=v;rcases List.mem_cons.mp h with rfl | h
  ·omega
  ·have:=ih v h;omega
theorem Xf:∀ (xs:J6),xs≠[]->Yl xs∈xs
 | [],h=>absurd rfl h
 | [x],_=>List.mem_singleton.mpr rfl
 | x::y::xs,_=>by
  have ih:=Xf (y::xs) (by simp);show min x (Yl (y::xs))∈_;by_cases c:x<=Yl (y::xs)
  ·rw [Int.min_eq_left c];exact q6z
  ·rw [Int.min_eq_right (by omega)];exact q6y _ ih
def minI_is {xs:J6} {m:Int} (h1:m∈xs) (h2:∀ v∈xs,m<=v):m=Yl xs:=by
 have a:=zcx xs m h1;have b:=h2 _ (Xf xs (λz=>by rw [z] at h1;cases h1));omega
def Mc.faulted (M:Mc):J6:=(Yi M.fq).filter λj=>decide (j<M.wq)
def Mc.trimmed (M:Mc):Mc:=if M.faulted=[] then M else { M with cut:=some (Yl M.faulted),wq:=Yl M.faulted }
open Classical in
noncomputable def X0:EfM:=λ_ M=>if ZP M.fq/\M.fq.length<100000 then some M.trimmed else none
def YJ:EfM:=λtv M=>match (tv[1]?:Jk),M.cut with
 | some (V.int n),some c=>(match zO M.fq (.inl c) with
  | some (V.str z)=>some { M with rq_:=some (n,M.base+c,z) }
  | _=>none)
 | some (V.int _),none=>some M
 | _,_=>none
def keysI_at {f:Jh} (h:ZP f):∀ i p,f[i]?=some p->∃ j,p.1=.inl j/\Yi (f.take (i+1))=Yi (f.take i)++[j]:=λi p e=>by
 obtain ⟨j,hj⟩:=h p (List.mem_of_getElem? e);refine ⟨j,hj,?_⟩;unfold Yi;rw [List.take_add_one,e,List.filterMap_append];congr 1;obtain ⟨k,v⟩:=p;have hj:k=.inl j:=hj;subst hj;rfl
def keysI_len (f:Jh):(Yi f).length<=f.length:=List.length_filterMap_le _ _
def MAt.s_refusal {c:MCs} {B:Hp} {A:Ma} {M:Mc} {R:Ji} {H:Hp} (m:MAt c B A M R H) {t:Ad} {r:Int×Int×Str} (e:B t=some (.tup [.int r.1,.int r.2.1,.str r.2.2])):MAt c B { A with rf:=.ref t } { M with rq_:=some r } R (upd H A.b (.ins c.bn A.db (zS "refusal" (.ref t) (xn A M)))) :=
 ⟨⟨m.bb.lens,m.bb.starts,m.bb.bx,m.bb.msk,m.bb.ml,m.bb.dl,m.bb.pl,m.bb.tl,m.bb.tt,m.bb.ul,m.bb.uu,⟨t,rfl,e⟩⟩,m.h.put (o':=.ins c.bn A.db (zS "refusal" (.ref t) (xn A M))) 0 rfl⟩
def ok_trim {c:MCs} (d:zk K mg "play_trim" Zv qC) (hlen:mg "len"=none) (hmin:mg "min"=none) (CC:MCls K c):Ok P w K mg base CX0 1 "play_trim" qC (spEf c X0):=by
 refine oDf d sc_play_trim λg mh A _ s H vs Q E hr h=>?_;obtain ⟨B,A,M,R,st,tv,M',rfl,m,es,ef,ok,q⟩:=h;have nd:=sc_play_trim.nd;have CN:=CC.n;have SL:(200000:Nat)<sizeLine:=by decide
 unfold X0 at ef
 split at ef
 case isFalse=>cases ef
 rename_i hc;cases ef;obtain ⟨ik,fl⟩:=hc;refine ⟨_,(zd (ps_compD (i:=2) ["lane","bench"] [none,some 0] rfl rfl rfl (zh (pv 0) rfl) (λs3 H3 fp=>⟨oQz 0 (Jl ["lane","bench"]),(zF op_lt (pv 0) (YB (K:=K) rfl (pv 1) rfl) (zJ _)),(pv 0)⟩) nd rfl (Or.inl rfl))
   (zf (zL (zF op_gt (zp zD (by rfl) hlen PySem.boot_len (zb (pv 2) zc)) zg (zJ _)) (zd (zu (pv 0) (zp (call_minM rfl) (by rfl) hmin PyProof.Rows.boot_min (zb (pv 2) zc)) rfl)
   (zf (zu (pv 0) (zh (pv 0) rfl) rfl))) zy))),?_⟩
 dsimp only [yd,Cx.nox,Cx.wish];have eF:H A.aF=some (.dK M.fq):=m.h.get 7 rfl;have nbF:A.b≠A.aF:=λz=>by have:=m.b;rw [z,eF] at this;cases this
 have eb0:but H [A.aF] A.b=some (.ins c.bn A.db (xn A M)):=Ye m.b (λz=>nbF (List.mem_singleton.mp z));refine ⟨_,rfl,A.b,_,_,_,.ref A.aF,rfl,m.b,CN.c,CN.fq,rfl,A.aF,M.fq,rfl,eF,_,rfl,λD nD neD=>?_⟩;have nDH:H D=none:=but_free nD neD;have nbD:A.b≠D:=λz=>by have:=m.b;rw [z,nDH] at this;cases this
 let ks:Nat->J6:=λi=>(Yi (M.fq.take i)).filter λj=>decide (j<M.wq);have kl:∀ i,(ks i).length<=M.fq.length:=λi=>Nat.le_trans (List.length_filter_le _ _) (Nat.le_trans (keysI_len _) (by rw [List.length_take];omega));refine zfk (md:=M.fq) (λi σ J=>∃ u,σ=[u,rq A.b]/\J=upd (but H [A.aF]) D (.lst ((ks i).map V.int))) ⟨none,rfl,rfl⟩ ?_ ?_
 ·rintro i p σ J hp ⟨u,rfl,rfl⟩
  obtain ⟨j,hj,ek⟩:=keysI_at ik i p hp
  have eks:ks (i+1)=ks i++if j<M.wq then [j] else []:=by
   show List.filter _ (Yi (M.fq.take (i+1)))=List.filter _ (Yi (M.fq.take i))++_;rw [ek,List.filter_append];congr 1;by_cases z:j<M.wq
   ·rw [List.filter_cons_of_pos (by simpa using z),if_pos z];rfl
   ·rw [List.filter_cons_of_neg (by simpa using z),if_neg z];rfl
  have ekV:kV p.1=.int j:=by rw [hj];rfl
  rw [ekV];have eb1:upd (but H [A.aF]) D (.lst ((ks i).map V.int)) A.b=some (.ins c.bn A.db (xn A M)):=by rw [zj nbD];exact eb0
  refine ⟨_,rfl,_,rfl,A.b,_,_,_,.int M.wq,rfl,eb1,CN.c,CN.wq,rfl,_,_,rfl,rfl,_,rfl,?_⟩;rw [eks];refine yo (λz=>?_) (λz=>?_)
  ·have z:j<M.wq:=by simpa using z
   rw [if_pos z];refine ⟨_,rfl,_,zi,(by rw [Je];have:=kl i;omega),_,rfl,?_⟩;rw [upd_upd,Jg];rfl
  ·have z:¬ j<M.wq:=by simpa using z
   rw [if_neg z,q8y];exact ⟨_,rfl,rfl⟩
 rintro σ J ⟨u,rfl,rfl⟩ nd';have ek:ks M.fq.length=M.faulted:=by show List.filter _ (Yi (M.fq.take _))=_;rw [List.take_length];rfl
 rw [ek]
 have eH:upd (upd (but H [A.aF]) D (.lst (M.faulted.map V.int))) A.aF (.dK M.fq)=upd H D (.lst (M.faulted.map V.int)):=by
  funext x;by_cases z:x=A.aF
  ·subst z;rw [zi,zj (Ne.symm neD)];exact eF.symm
  ·rw [zj z]
   by_cases y:x=D
   ·subst y;rw [zi,zi]
   ·rw [zj y,zj y]
    unfold but;rw [if_neg (λq=>z (List.mem_singleton.mp q))]
 rw [eH];have m1:=m.grow (o:=.lst (M.faulted.map V.int)) nDH;have s1:Same B (upd B D (.lst (M.faulted.map V.int))):=zt (Same.refl _) (m.h.free nDH);have eD:upd B D (.lst (M.faulted.map V.int)) D=_:=zi;generalize upd B D (.lst (M.faulted.map V.int))=B1 at m1 s1 eD;generalize upd H D (.lst (M.faulted.map V.int))=H1 at m1 ⊢;have qD:SqL K H1 D (M.faulted.map V.int):=SqL.of (m1.h.sm _ _ eD);refine ⟨_,rfl,D,_,rfl,.inl qD,_,_,rfl,rfl,_,rfl,?_⟩;rw [Je];unfold Mc.trimmed at q;refine yo (λz=>?_) (λz=>?_)
 ·have z:(0:Int)<(M.faulted.length:Int):=by simpa using z
  have ne:M.faulted≠[]:=λy=>by rw [y] at z;exact absurd z (by decide)
  rw [if_neg ne] at q;refine ⟨_,rfl,D,M.faulted,rfl,qD,by omega,λmn h1 h2=>?_⟩;cases minI_is h1 h2;refine ⟨_,rfl,A.b,_,_,_,rfl,m1.b,CN.c,CN.cut,(by show 23<1000;decide),?_⟩;have m2:=m1.s_cut (some (Yl M.faulted));refine ⟨_,rfl,A.b,_,_,_,.int (Yl M.faulted),rfl,m2.b,CN.c,CN.cut,rfl,_,rfl,A.b,_,_,_,rfl,m2.b,CN.c,CN.wq,(by show 23<1000;decide),?_⟩;exact q B1 A _ s1 rfl (m2.s_width (Yl M.faulted))
 ·have z:¬ (0:Int)<(M.faulted.length:Int):=by simpa using z
  have ne:M.faulted=[]:=List.length_eq_zero_iff.mp (by omega);rw [if_pos ne] at q;exact q B1 A _ s1 rfl m1
def ok_stop {c:MCs} (d:zk K mg "play_stop" Zw qC) (CC:MCls K c):Ok P w K mg base CX0 1 "play_stop" qC (spEf c YJ):=by
 refine oDf d sc_play_stop λg mh A _ s H vs Q E hr h=>?_;obtain ⟨B,A,M,R,st,tv,M',rfl,m,es,ef,ok,q⟩:=h;have nd:=sc_play_stop.nd;have hu:=Nat.lt_of_le_of_lt (Nat.add_le_add_left (show 1<=64 by decide) _) hr.units;have CN:=CC.n;have SL:(200000:Nat)<sizeLine:=by decide
 refine ⟨_,(zf (zL (zF op_notN (zh (pv 0) rfl) xv (zJ _)) (zf (zu (pv 0) (yc (zb (zB zI (pv 1) zg (λ_ _=>rfl)) (zb (zn zP (zh (pv 0) rfl) (zh (pv 0) rfl)) (zb (pe_dget hu (zh (pv 0) rfl) (zh (pv 0) rfl) (λ_ _=>rfl)) zc)))) rfl)) zy)),?_⟩;dsimp only [yd,Cx.nox,Cx.wish];have eF:H A.aF=some (.dK M.fq):=m.h.get 7 rfl;refine ⟨_,rfl,A.b,_,_,_,oV M.cut,rfl,m.b,CN.c,CN.cut,rfl,rfl,_,rfl,?_⟩;unfold YJ at ef
 split at ef
 ·rename_i n cc e1 ec
  split at ef
  case h_2=>cases ef
  rename_i z ez;cases ef;rw [ec];have e2:(!decide (oV (some cc)=V.non))=true:=by rw [decide_eq_false (λy=>by cases y)];rfl
  rw [e2];refine ZY ⟨_,rfl,st,_,_,_,rfl,rfl,SqT.of (m.h.sm _ _ es),zH (j:=1) e1,_,rfl,A.b,_,_,_,.int M.base,rfl,m.b,CN.c,CN.base,rfl,_,rfl,A.b,_,_,_,.int cc,rfl,m.b,CN.c,CN.cut,(by show some (oV M.cut)=_;rw [ec];rfl),_,_,rfl,rfl,_,rfl,A.b,_,_,_,.ref A.aF,rfl,m.b,CN.c,CN.fq,rfl,_,rfl,A.b,_,_,_,.int cc,rfl,m.b,CN.c,CN.cut,(by show some (oV M.cut)=_;rw [ec];rfl),A.aF,.str z,rfl,(by rw [← ez];exact DGet.k (k:=.inl cc) eF),(by show 3<=sizeLine;omega),λt nt=>?_⟩;have m1:=m.grow (o:=.tup [.int n,.int (M.base+cc),.str z]) nt;have s1:Same B (upd B t (.tup [.int n,.int (M.base+cc),.str z])):=zt (Same.refl _) (m.h.free nt);have et:upd B t (.tup [.int n,.int (M.base+cc),.str z]) t=_:=zi;generalize upd B t (.tup [.int n,.int (M.base+cc),.str z])=B1 at m1 s1 et;refine ⟨_,rfl,A.b,_,_,_,rfl,m1.b,CN.c,CN.rq_,(by show 23<1000;decide),?_⟩;exact q B1 { A with rf:=.ref t } _ s1 rfl (m1.s_refusal (r:=(n,M.base+cc,z)) et)
 ·rename_i n e1 ec
  cases ef;rw [ec];have e2:(!decide (oV none=V.non))=false:=by rw [decide_eq_true (show oV none=V.non from rfl)];rfl
  rw [e2];exact xl (q B A H (Same.refl _) rfl m)
 ·cases ef
def sel_in (js:J6) (m:List Bool) (j:Nat) (hj:j<m.length) (h:(j:Int)∈js∨m.getD j false=true):(sel m js).getD j false=true:=by
 induction js generalizing m with
 | nil =>
  rcases h with h | h
  ·cases h
  ·exact h
 | cons i js ih =>
  show (sel (m.set i.toNat true) js).getD j false=true;refine ih _ (by rw [List.length_set];exact hj) ?_;by_cases e:i.toNat=j
  ·right
   rw [q6x,e,q8z hj];rfl
  ·rcases h with h | h
   ·rcases List.mem_cons.mp h with h | h
    ·exact absurd (by rw [← h];rfl) e
    ·exact .inl h
   ·right
    rw [q6x,List.getElem?_set_ne e,← q6x];exact h
def dst_lt (d:J6) (q:Nat) (m:List Bool) (lo k j:Nat) (h:j<lo):(dst d q m lo k).getD j false=m.getD j false:=by
 induction k with
 | zero=>rfl
 | succ k ih=>rw [zed,q6x,List.getElem?_set_ne (by omega),← q6x];exact ih
def mem_upto {n j:Nat} (h:j<n):(j:Int)∈Zr n:=List.mem_map.mpr ⟨j,List.mem_range.mpr h,rfl⟩
def actTo_all (M:Mc) (k n:Nat) (h:∀ j,j<n->M.isAct k j=true):M.actTo k n=Zr n:=by
 unfold Mc.actTo Zr;rw [List.filter_eq_self.mpr λj hj=>h j (List.mem_range.mp hj)];rfl
def strip_act {M:Mc} (ok:MOk0 M) (hg:M.group=1∨M.group=2∨M.group=4) {b:Int} (hb:b<=M.mn_):(M.strip b).act 0=Zr (M.wide b).toNat/\MOk (M.strip b):=by
 have l1:=ok.l1;have rb:M.group*M.lq<=4*M.lq/\1<=M.group*M.lq:=by rcases hg with e | e | e <;> rw [e] <;> omega
 have w01:0<=M.wide b/\M.wide b<=M.group*M.lq:=by unfold Mc.wide;split <;> omega
 have ml:0<M.mq.length:=by rw [ok.ml];decide
 have lm:(M.mq.getD 0 []).length=4*M.lq:=by
  rw [q6x,List.getElem?_eq_getElem ml];exact ok.mm _ (List.getElem_mem ml)
 refine ⟨?_,?_⟩
 ·refine actTo_all _ _ _ λj hj=>?_
  have hj:j<(M.wide b).toNat:=hj;unfold Mc.isAct
  have e1:((M.strip b).mq.getD 0 []).getD j false=true:=by
   show ((M.mq.set 0 _).getD 0 []).getD j false=true;rw [q6x (l:=M.mq.set 0 _),q8z ml];show (dst _ _ (sel (clr (M.mq.getD 0 []) (M.wide b).toNat) (Zr (M.wide b).toNat)) (M.wide b).toNat _).getD j false=true;rw [dst_lt _ _ _ _ _ _ hj];exact sel_in _ _ _ (by rw [ZR,lm];omega) (.inl (mem_upto hj))
  rw [e1];rfl
 ·refine ⟨ok.l1,ok.l64,hg,ok.nl,?_,λm hm=>?_,w01.1,w01.2⟩
  ·show (M.mq.set 0 _).length=16
   rw [List.length_set];exact ok.ml
  ·rcases List.mem_or_eq_of_mem_set hm with hm | rfl
   ·exact ok.mm m hm
   ·show (dst _ _ (sel (clr (M.mq.getD 0 []) _) _) _ _).length=_
    rw [XV,YY,ZR,lm];rfl
def layOne_is (told:Jh) (p:Nat) (M:Mc) (t:Nat):M.layOne told p t={ M with nums:=(M.layOne told p t).nums,dq:=(M.layOne told p t).dq }:=by
 unfold Mc.layOne;split <;> rfl
def layTo_is (told:Jh) (p:Nat) (M:Mc) (n:Nat):M.layTo told p n={ M with nums:=(M.layTo told p n).nums,dq:=(M.layTo told p n).dq }:=by
 induction n with
 | zero=>rfl
 | succ n ih =>
  rw [M.layTo_succ];have e:=layOne_is told p (M.layTo told p n) n;rw [e];rw [ih]
def layTo_at (told:Jh) (p:Nat) (M:Mc) (n j:Nat) (v:Int) (hj:j<n) (hin:∀ t:Nat,t<n->0<=(p:Int)*M.group*M.lq+t/\((p:Int)*M.group*M.lq+t).toNat<M.nums.length) (hv:zO told (.inl (j:Int))=some (.int v)):(M.layTo told p n).nq p j=v:=by
 induction n with
 | zero=>omega
 | succ n ih =>
  have s:=M.layTo_same told p n;have hn:=hin n (by omega);have hjj:=hin j hj;rw [M.layTo_succ];by_cases e:j=n
  ·subst e
   unfold Mc.layOne;rw [hv];show (List.set _ _ _).getD _ 0=v;rw [s.g,s.l,q6x,q8z (by rw [s.n];exact hn.2)];rfl
  ·have e2:((M.layTo told p n).layOne told p n).nq p j=(M.layTo told p n).nq p j:=by
    unfold Mc.layOne
    split
    ·show (List.set _ _ _).getD _ 0=_
     rw [q6x,List.getElem?_set_ne (by rw [s.g,s.l];omega),← q6x];rfl
    ·show (List.set _ _ _).getD _ 0=_
     rw [q6x,List.getElem?_set_ne (by rw [s.g,s.l];omega),← q6x];rfl
   rw [e2];exact ih (by omega) λt ht=>hin t (by omega)
inductive Steps (L:Lex) (code:List (Jj)):Nat->Mc->Mc->Prop
 | refl {M}:Steps L code 0 M M
 | cons {n M M1 Mf tv}:0<=M.pc->M.rq_=none->code[M.pc.toNat]?=some tv->Step L tv M M1->Steps L code n M1 Mf->Steps L code (n+1) M Mf
def Steps.trans {L:Lex} {code:List (Jj)} {n k:Nat} {M M1 M2:Mc} (h:Steps L code n M M1) (h2:Steps L code k M1 M2):Steps L code (n+k) M M2:=by
 induction h with
 | refl=>rw [Nat.zero_add];exact h2
 | cons a b c d _ ih=>rw [Nat.add_right_comm];exact .cons a b c d (ih h2)
def Steps.run {L:Lex} {code:List (Jj)} {n:Nat} {M M1:Mc} (h:Steps L code n M M1) (e:(code.length:Int)<=M1.pc∨M1.rq_.isSome=true):Run L code n M M1:=by
 induction h with
 | refl=>exact .done e
 | cons a b c d _ ih=>exact .step a b c d (ih e)
abbrev Tch:=Int×Str×Int
abbrev DT:=J6×List Tch
def zY (ds:J6) (ps:List (Int×Int)):J6:=ps.foldl (λd pr=>d.set pr.1.toNat pr.2) ds
def zew (ps:List (Int×Int)) (ds:J6):(zY ds ps).length=ds.length:=by
 induction ps generalizing ds with
 | nil=>rfl
 | cons p ps ih=>show (zY (ds.set _ _) ps).length=_;rw [ih,List.length_set]
def ze2 (M:Mc) (q:Nat) (ps:List (Int×Int)):(M.puts q ps).cells=zY M.cells (ps.map λp=>(M.adr q p.1,p.2)):=by
 induction ps generalizing M with
 | nil=>rfl
 | cons p ps ih=>exact ih (M.wrote q p.1 p.2)
def wid (mn_ side b:Int):Nat:=(min mn_ (b+side)-b).toNat
structure InS (S LN:J6) (L pl:Nat) (mn_ mi b:Int) (k:Nat) (s:DT) (M:Mc):Prop where
 ok:MOk M
 wle:M.wq<=(wid mn_ (mi*L) b:Nat)
 bq:M.bq=(wid mn_ (mi*L) b:Nat)
 base:M.base=b
 pc:M.pc=((pl+k:Nat):Int)
 oq:M.oq=(pl:Nat)
 mn_:M.mn_=mn_
 group:M.group=mi
 lq:M.lq=L
 rf:M.rq_=none
 starts:M.starts=S
 lens:M.lens=LN
 cells:M.cells=s.1
 tq:M.tq=s.2
structure StripAt (S LN:J6) (L pl:Nat) (mn_ mi b:Int) (s:DT) (M:Mc):Prop where
 i:InS S LN L pl mn_ mi b 1 s M
 act:M.act 0=Zr (wid mn_ (mi*L) b)
 flt:M.fq=[]
 cut:M.cut=none
structure RestAt (S LN:J6) (L:Nat) (pc:Nat) (s:DT) (M:Mc):Prop where
 ok:MOk0 M
 lq:M.lq=L
 rf:M.rq_=none
 starts:M.starts=S
 lens:M.lens=LN
 pc:M.pc=pc
 cells:M.cells=s.1
 tq:M.tq=s.2
def layTo_off (told:Jh) (p:Nat) (M:Mc) (n i:Nat) (h:∀ t:Nat,t<n->((p:Int)*M.group*M.lq+t).toNat≠i):(M.layTo told p n).nums.getD i 0=M.nums.getD i 0:=by
 induction n with
 | zero=>rfl
 | succ n ih =>
  have s:=M.layTo_same told p n;have hn:=h n (by omega);rw [M.layTo_succ]
  have e2:((M.layTo told p n).layOne told p n).nums.getD i 0=(M.layTo told p n).nums.getD i 0:=by
   unfold Mc.layOne
   split
   ·show (List.set _ _ _).getD _ 0=_
    rw [q6x,List.getElem?_set_ne (by rw [s.g,s.l];exact hn),← q6x]
   ·show (List.set _ _ _).getD _ 0=_
    rw [q6x,List.getElem?_set_ne (by rw [s.g,s.l];exact hn),← q6x]
  rw [e2];exact ih λt ht=>h t (by omega)
def zdf {g L p q j t:Int} (g0:1<=g) (l1:1<=L) (ne:p≠q) (j0:0<=j) (j1:j<g*L) (t0:0<=t) (t1:t<g*L):p*g*L+t≠q*g*L+j:=by
 intro z;rw [Int.mul_assoc,Int.mul_assoc] at z;generalize g*L=x at *;rcases Int.lt_or_gt_of_ne ne with h | h
 ·have a:(p+1)*x<=q*x:=Int.mul_le_mul_of_nonneg_right (by omega) (by omega)
  rw [Int.add_mul] at a;omega
 ·have a:(q+1)*x<=p*x:=Int.mul_le_mul_of_nonneg_right (by omega) (by omega)
  rw [Int.add_mul] at a;omega
section
variable {Lx:Lex} {S LN:J6} {L pl k:Nat} {mn_ mi b:Int} {s:DT} {M:Mc}
def InS.one {code:List (Jj)} {tv:Jj} {M':Mc} (h:InS S LN L pl mn_ mi b k s M) (c:code[pl+k]?=some tv) (st:Step Lx tv M M'):Steps Lx code 1 M M' :=
 .cons (by rw [h.pc];exact Int.natCast_nonneg _) h.rf (by rw [h.pc,q0z];exact c) st .refl
def InS.mem (h:InS S LN L pl mn_ mi b k s M) {m:Nat} {j:Int} (hj:j∈M.act m):0<=j/\j<mi*L/\b+j<mn_:=by
 have a:=Mc.act_mem hj;have w:=h.wle;have w0:=h.ok.w0;unfold wid at w;omega
def InS.len (h:InS S LN L pl mn_ mi b k s M) (m:Nat):(M.act m).length<=wid mn_ (mi*L) b:=by
 have a:=M.actTo_len m M.wq.toNat;have w:=h.wle;have w0:=h.ok.w0;unfold Mc.act;omega
def sel_out (js:J6) (m:List Bool) (j:Nat) (h:∀ i∈js,i.toNat≠j):(sel m js).getD j false=m.getD j false:=by
 induction js generalizing m with
 | nil=>rfl
 | cons i js ih =>
  show (sel (m.set i.toNat true) js).getD j false=_;rw [ih _ λi hi=>h i (q6y _ hi),q6x,List.getElem?_set_ne (h i q6z),← q6x]
def clr_lt (m:List Bool) (n j:Nat) (h:j<n):(clr m n).getD j false=false:=by
 induction n with
 | zero=>omega
 | succ n ih =>
  rw [zek,q6x];by_cases e:n=j
  ·subst e
   by_cases hl:n<(clr m n).length
   ·rw [q8z hl];rfl
   ·rw [List.getElem?_eq_none (by rw [List.length_set];omega)];rfl
  ·rw [List.getElem?_set_ne e,← q6x];exact ih (by omega)
def laid_act {M:Mc} (ok:MOk M) {m k:Nat} (m16:m<16) (q:Int->Bool):(M.laidMask m ((M.act k).filter q)).act m=(M.act k).filter q/\MOk (M.laidMask m ((M.act k).filter q)):=by
 have w0:=ok.w0;have w1:=ok.w1;have l1:=ok.l1;have rb:M.group*M.lq<=4*M.lq:=by rcases ok.g with e | e | e <;> rw [e] <;> omega
 have ml:m<M.mq.length:=by rw [ok.ml];exact m16
 have lm:(M.mq.getD m []).length=4*M.lq:=by
  rw [q6x,List.getElem?_eq_getElem ml];exact ok.mm _ (List.getElem_mem ml)
 refine ⟨?_,⟨ok.l1,ok.l64,ok.g,ok.nl,?_,λx hx=>?_,ok.w0,ok.w1⟩⟩
 ·have hm:(M.laidMask m ((M.act k).filter q)).mq.getD m []=M.maskOf m ((M.act k).filter q):=by
   show (M.mq.set m _).getD m []=_;rw [q6x,q8z ml];rfl
  have hW:(M.laidMask m ((M.act k).filter q)).wq=M.wq:=rfl;have hF:(M.laidMask m ((M.act k).filter q)).fq=M.fq:=rfl
  have key:∀ j:Nat,j<M.wq.toNat->(M.laidMask m ((M.act k).filter q)).isAct m j=(M.isAct k j && q (j:Int)):=λj hj=>by
   unfold Mc.isAct;rw [hm,hF]
   have e1:(M.maskOf m ((M.act k).filter q)).getD j false=(sel (clr (M.mq.getD m []) M.wq.toNat) ((M.act k).filter q)).getD j false:=by
    unfold Mc.maskOf;exact dst_lt _ _ _ _ _ _ hj
   rw [e1];by_cases hin:(j:Int)∈(M.act k).filter q
   ·have hp:=List.mem_filter.mp hin
    have ha:=(Mc.act_mem hp.1).2.2;rw [q0z] at ha;rw [sel_in _ _ _ (by rw [ZR,lm];omega) (.inl hin),hp.2];unfold Mc.isAct at ha;rw [Bool.and_eq_true] at ha;rw [ha.1,ha.2];rfl
   ·rw [sel_out _ _ _ λi hi z=>hin (by
     have:=(Mc.act_mem (List.mem_filter.mp hi).1).1;have e:(j:Int)=i:=by omega
     rw [e];exact hi),clr_lt _ _ _ hj]
    rw [Bool.false_and];by_cases ha:M.isAct k j=true
    ·by_cases hq:q (j:Int)=true
     ·exact absurd (List.mem_filter.mpr ⟨List.mem_map.mpr ⟨j,List.mem_filter.mpr ⟨List.mem_range.mpr hj,ha⟩,rfl⟩,hq⟩) hin
     ·rw [Bool.not_eq_true] at hq;rw [hq,Bool.and_false]
    ·rw [Bool.not_eq_true] at ha
     unfold Mc.isAct at ha;rw [ha,Bool.false_and]
  generalize hN:M.laidMask m ((M.act k).filter q)=N at key hW ⊢;unfold Mc.act Mc.actTo;rw [hW,List.filter_map,List.filter_filter];congr 1;refine List.filter_congr λj hj=>?_;rw [key j (List.mem_range.mp hj),Bool.and_comm];rfl
 ·show (M.mq.set m _).length=16
  rw [List.length_set];exact ok.ml
 ·rcases List.mem_or_eq_of_mem_set hx with hx | rfl
  ·exact ok.mm x hx
  ·show (dst _ _ (sel (clr (M.mq.getD m []) _) _) _ _).length=_
   rw [XV,YY,ZR,lm];rfl
end
def wide_wid {M:Mc} {b:Int} (hb:b<=M.mn_) (hg:0<=M.group*M.lq):M.wide b=(wid M.mn_ (M.group*M.lq) b:Nat):=by
 unfold Mc.wide wid
 split <;> omega
def X3 {S LN:J6} {L pl:Nat} {mn_ mi b:Int} {s:DT} {M:Mc} (ok:MOk0 M) (hg:mi=1∨mi=2∨mi=4) (e1:M.group=mi) (e2:M.mn_=mn_) (e3:M.lq=L) (e4:M.oq=pl) (hb:b<=mn_) (rf:M.rq_=none) (st:M.starts=S) (ln:M.lens=LN) (ce:M.cells=s.1) (to:M.tq=s.2) :
  StripAt S LN L pl mn_ mi b s { M.strip b with pc:=pl+1 }:=by
 subst e1 e2 e3;obtain ⟨a,o⟩:=strip_act ok hg hb;have l1:=ok.l1;have gp:0<=M.group*M.lq:=by rcases hg with e | e | e <;> rw [e] <;> omega
 have ww:=wide_wid hb gp;refine ⟨⟨{o with},by show M.wide b<=_;rw [ww];exact Int.le_refl _,ww,rfl,by show (pl:Int)+1=_;omega,e4,rfl,rfl,rfl,rf,st,ln,ce,to⟩,?_,rfl,rfl⟩;show (M.strip b).act 0=_;rw [a,ww,q0z]
section
variable {Lx:Lex} {S LN:J6} {L pl k:Nat} {mn_ mi b:Int} {s:DT} {M:Mc}
def InS.stopAt {n c:Int} {z:Str} (h:InS S LN L pl mn_ mi b k s M) (hS:Lx.E "stop" YJ) (hc:M.cut=some c) (hz:zO M.fq (.inl c)=some (.str z)):∃ M',Step Lx [.str "stop",.int n] M M'/\M'.rq_=some (n,b+c,z)/\M'.cells=s.1/\M'.tq=s.2:=by
 have e:YJ [.str "stop",.int n] M=some { M with rq_:=some (n,M.base+c,z) }:=by
  unfold YJ;rw [hc];show (match zO M.fq (.inl c) with | some (V.str z)=>_ | _=>_)=_;rw [hz]
 exact ⟨_,Step.eff (word:="stop") hS rfl e h.ok,by show some (n,M.base+c,z)=_;rw [h.base],h.cells,h.tq⟩
end
structure TAt (B:Hp) (ts:Jc) (T:List Tch):Prop where
 n:ts.length=T.length
 t:∀ (i:Nat) a p,ts[i]?=some a->T[i]?=some p->B a=some (.tup [.int p.1,.str p.2.1,.int p.2.2])
def size_iff {mn_ side:Int} (h1:1<=mn_) (h2:1<=side):∃ N:Nat,Builtin.Range.rangeSize 0 mn_ side=N/\∀ i:Nat,i<N↔(i:Int)*side<mn_:=by
 have e:Builtin.Range.rangeSize 0 mn_ side=(mn_-0-1) / side+1:=by
  unfold Builtin.Range.rangeSize;rw [if_pos (show side > 0 by omega),if_pos (by omega)]
 have nn:0<=(mn_-0-1) / side:=Int.ediv_nonneg (by omega) (by omega);refine ⟨((mn_-0-1) / side+1).toNat,by rw [e];omega,λi=>?_⟩;have k:=Int.le_ediv_iff_mul_le (a:=(i:Int)) (b:=mn_-0-1) (show 0<side by omega);constructor
 ·intro z
  have:=k.mp (by omega);omega
 ·intro z
  have:=k.mpr (by omega);omega
theorem yK:∀ (ns:J6) (r:Nat),(∀ v∈ns,0<=v)->0<=(ns.take r).sum/\(ns.take r).sum<=ns.sum
 | [],r,_=>by rw [List.take_nil];exact ⟨Int.le_refl _,Int.le_refl _⟩
 | n::ns,0,h=>by
  have:=(yK ns 0 λv hv=>h v (q6y _ hv));have h0:=h n q6z;rw [List.take_zero,List.sum_nil] at this ⊢;rw [List.sum_cons];omega
 | n::ns,r+1,h=>by
  have:=(yK ns r λv hv=>h v (q6y _ hv));have h0:=h n q6z;rw [List.take_succ_cons,List.sum_cons,List.sum_cons];omega
def YI (ns:J6) (r:Nat) (h:r<ns.length):(ns.take (r+1)).sum=(ns.take r).sum+ns.getD r 0:=by
 rw [List.take_add_one,q6x,List.getElem?_eq_getElem h,List.sum_append];show _+(ns[r]+0)=_+ns[r];omega
def zdo {ns:J6} {r:Nat} {m:Int} (hv:∀ v∈ns,0<=v) (h:r<ns.length) (hm:m<=ns.getD r 0):0<=(ns.take r).sum/\(ns.take r).sum+m<=ns.sum:=by
 have a:=yK ns r hv;have b:=yK ns (r+1) hv;rw [YI ns r h] at b;omega
def Yv {ns:J6} {r:Nat} (h:r<ns.length):(zE ns).getD r 0=(ns.take r).sum:=by
 unfold zE;rw [q6x,List.getElem?_map,List.getElem?_range h];rfl
def YO (ns:J6):(zE ns).length=ns.length:=by unfold zE;rw [Je,List.length_range]
def yi {B:Hp} {cs os:Jc} {code one:List (Jj)} (h:CodeAt B cs code) (h2:CodeAt B os one):CodeAt B (cs++os) (code++one):=by
 refine ⟨by rw [Jf,Jf,h.n,h2.n],λt b tv hx hy=>?_⟩;by_cases z:t<cs.length
 ·rw [q9x z] at hx
  rw [q9x (by rw [← h.n];exact z)] at hy;exact h.t t b tv hx hy
 ·rw [List.getElem?_append_right (by omega)] at hx
  rw [List.getElem?_append_right (by rw [← h.n];omega),← h.n] at hy;exact h2.t _ b tv hx hy
theorem zdb (g:Int->V) {j:Int}:∀ (js:J6) (md:Jh),(j∈js∨zO md (.inl j)=some (g j))->zO (putAll md (js.map λj=>((.inl j:Key),g j))) (.inl j)=some (g j)
 | [],md,h=>by
  rcases h with h | h
  ·cases h
  ·exact h
 | i::js,md,h=>by
  show zO (putAll (yL md (.inl i) (g i)) _) _=_;refine zdb g js _ ?_;by_cases e:j=i
  ·right;rw [xU,e,if_pos rfl]
  ·rcases h with h | h
   ·rcases List.mem_cons.mp h with h | h
    ·exact absurd h e
    ·exact .inl h
   ·right
    rw [xU,if_neg (λz=>e (Sum.inl.inj z))];exact h
def told_memO (g:Int->Option Int) {js:J6} {j:Int} (h:j∈js):zO (xo js (js.map g)) (.inl j)=some (oV (g j)):=by
 have e:(js.map Sum.inl).zip ((js.map g).map oV)=js.map λj=>((.inl j:Key),oV (g j)):=by
  rw [List.map_map,List.zip_map'];rfl
 unfold xo;rw [e];exact zdb (λj=>oV (g j)) js [] (.inl h)
structure Kp (M N:Mc):Prop where
 w:N.wq=M.wq
 cut:N.cut=M.cut
 mq:N.mq=M.mq
 slots:N.slots=M.slots
 cq:N.cq=M.cq
 raised:N.raised=M.raised
 turns:N.turns=M.turns
 pq:N.pq=M.pq
 picks:N.picks=M.picks
section
variable {Lx:Lex} {S LN:J6} {L pl k:Nat} {mn_ mi b:Int} {s:DT} {M:Mc}
def InS.seatO {word:Str} {f:FnM} {tv:Jj} {p m:Nat} {T':List Tch} {F':Jh} {g:Int->Option Int} (h:InS S LN L pl mn_ mi b k s M) (hS:Lx.S word f) (h0:tv[0]?=some (.str word)) (h1:tv[1]?=some (.int p)) (hl:tv.getLast?=some (.int m)) (p8:((p:Int)+1)*mi<=8) (m16:m<16)
  (ef:f tv M (M.act m)=some ({ M with tq:=M.tq++T',fq:=F' },(M.act m).map g)) :
  ∃ M',Step Lx tv M M'/\InS S LN L pl mn_ mi b (k+1) (s.1,s.2++T') M'/\(Kp M M'/\M'.fq=F')/\(∀ j∈M.act m,∀ v,g j=some v->M'.nq p j=v)/\(∀ (p':Nat) (j:Int),p'≠p->0<=j->j<mi*L->M'.nq p' j=M.nq p' j):=by
 have l1:=h.ok.l1;have hg:=h.ok.g;have w0:=h.ok.w0;have w1:=h.ok.w1;have hL:=h.lq;have hG:=h.group;have g1:1<=mi:=by rw [← hG];omega
 generalize hN0:({ M with tq:=M.tq++T',fq:=F' }:Mc)=N0 at ef
 have ese:seatM f tv M=some (N0.laidSeat (xo (M.act m) ((M.act m).map g)) p):=by
  unfold seatM;rw [h1,hl];show (if _ then _ else _)=_;rw [if_pos ⟨by omega,by rw [hG];exact p8,by omega,by omega⟩,q0z,q0z,ef];rfl
 have st1:=Step.seat hS h0 ese h.ok;unfold Mc.laidSeat at st1;have gN0:N0.group=M.group:=by rw [← hN0]
 have lN0:N0.lq=M.lq:=by rw [← hN0]
 have rm:N0.room=(mi*(L:Int)).toNat:=by unfold Mc.room;rw [gN0,lN0,hG,hL]
 have hin:∀ t:Nat,t<N0.room->0<=(p:Int)*N0.group*N0.lq+t/\((p:Int)*N0.group*N0.lq+t).toNat<N0.nums.length:=λt ht=>by
  rw [gN0,lN0];rw [rm] at ht;have:=zb9 hg (show (1:Int)<=M.lq by omega) (show (0:Int)<=p by omega) (by rw [hG];exact p8) (show (0:Int)<=t by omega) (by rw [hG,hL];omega);have e:N0.nums.length=8*M.lq:=by rw [← hN0];exact h.ok.nl
  rw [e];omega
 have eN:=layTo_is (xo (M.act m) ((M.act m).map g)) p N0 N0.room;have hlen:=(N0.layTo_same (xo (M.act m) ((M.act m).map g)) p N0.room).n
 have hat:∀ j∈M.act m,∀ v,g j=some v->(N0.layTo (xo (M.act m) ((M.act m).map g)) p N0.room).nq p j=v:=λj hj v hv=>by
  have a:=h.mem hj;obtain ⟨jn,rfl⟩:∃ n:Nat,j=n:=⟨j.toNat,by omega⟩;exact layTo_at _ p _ _ jn _ (by rw [rm];omega) hin (by rw [told_memO g hj,hv];rfl)
 have hoff:∀ (p':Nat) (j:Int),p'≠p->0<=j->j<mi*L->(N0.layTo (xo (M.act m) ((M.act m).map g)) p N0.room).nums.getD ((p':Int)*mi*L+j).toNat 0=M.nums.getD ((p':Int)*mi*L+j).toNat 0:=λp' j ne j0 j1=>by
  have:=layTo_off (xo (M.act m) ((M.act m).map g)) p N0 N0.room ((p':Int)*mi*L+j).toNat λt ht z=>by
   have t2:=hin t ht;rw [rm] at ht;rw [gN0,lN0,hG,hL] at z t2;have ap:=zdf (p:=(p:Int)) (q:=(p':Int)) (L:=(L:Int)) g1 (by omega) (λy=>ne (by omega)) j0 j1 (show (0:Int)<=t by omega) (by omega);have pos:0<=(p':Int)*mi*L:=Int.mul_nonneg (Int.mul_nonneg (by omega) (by omega)) (by omega);omega
  rw [this,← hN0]
 generalize N0.layTo (xo (M.act m) ((M.act m).map g)) p N0.room=N at *
 have eN1:({ N with pc:=N.pc+1 }:Mc)={ M with nums:=N.nums,dq:=N.dq,tq:=M.tq++T',fq:=F',pc:=((pl+(k+1):Nat):Int) }:=by
  have e2:N.pc+1=((pl+(k+1):Nat):Int):=by rw [eN,← hN0];show M.pc+1=_;rw [h.pc];omega
  rw [e2,eN,← hN0]
 have gN:N.group=M.group:=by rw [eN];exact gN0
 have lN:N.lq=M.lq:=by rw [eN];exact lN0
 rw [eN1] at st1;refine ⟨_,st1,⟨⟨h.ok.l1,h.ok.l64,h.ok.g,?_,h.ok.ml,h.ok.mm,w0,w1⟩,h.wle,h.bq,h.base,rfl,h.oq,h.mn_,hG,hL,h.rf,h.starts,h.lens,h.cells,?_⟩,⟨⟨rfl,rfl,rfl,rfl,rfl,rfl,rfl,rfl,rfl⟩,rfl⟩,λj hj v hv=>?_,λp' j ne j0 j1=>?_⟩
 ·show N.nums.length=_
  rw [hlen,← hN0];exact h.ok.nl
 ·show M.tq++T'=_
  rw [h.tq]
 ·have:=hat j hj v hv
  unfold Mc.nq at this ⊢;rw [gN,lN] at this;exact this
 ·have:=hoff p' j ne j0 j1
  unfold Mc.nq;show N.nums.getD ((p':Int)*M.group*M.lq+j).toNat 0=M.nums.getD ((p':Int)*M.group*M.lq+j).toNat 0;rw [hG,hL];exact this
def InS.loadO {r p m:Nat} (h:InS S LN L pl mn_ mi b k s M) (hS:Lx.S "load" YK) (p8:((p:Int)+1)*mi<=8) (m16:m<16) (hr:r<S.length) (b0:0<=b) (ir:0<=S.getD r 0/\S.getD r 0+mn_<=s.1.length) (ht:s.2.length+(M.act m).length<100000) :
  ∃ M',Step Lx [.str "load",.int p,.int r,.int m] M M'/\InS S LN L pl mn_ mi b (k+1) (s.1,s.2++((M.act m).map (b+·)).map λe=>(((pl+k:Nat):Int),("read":Str),S.getD r 0+e)) M'/\(Kp M M'/\M'.fq=M.fq)/\(∀ j∈M.act m,M'.nq p j=s.1.getD (S.getD r 0+(b+j)).toNat 0)/\(∀ (p':Nat) (j:Int),p'≠p->0<=j->j<mi*L->M'.nq p' j=M.nq p' j):=by
 have et:M.tq++(M.act m).map (λj=>(M.pc,("read":Str),M.adr r (M.base+j)))=M.tq++((M.act m).map (b+·)).map λe=>(((pl+k:Nat):Int),("read":Str),S.getD r 0+e):=by
  congr 1;rw [List.map_map];refine List.map_congr_left λj hj=>?_;show (M.pc,("read":Str),M.starts.getD r 0+(M.base+j))=(_,_,S.getD r 0+(b+j));rw [h.starts,h.base,h.pc]
 have ef:YK [.str "load",.int p,.int r,.int m] M (M.act m)=some ({ M with tq:=M.tq++((M.act m).map (b+·)).map λe=>(((pl+k:Nat):Int),("read":Str),S.getD r 0+e),fq:=M.fq },(M.act m).map λj=>some (s.1.getD (S.getD r 0+(b+j)).toNat 0)):=by
  unfold YK;refine (if_pos ?_).trans ?_
  ·rw [q0z,h.tq]
   refine ⟨by omega,⟨by rw [h.starts];exact hr,λj hj=>?_⟩,ht⟩;have:=h.mem hj;unfold Mc.adr;rw [h.starts,h.cells,h.base];omega
  ·rw [q0z]
   unfold Mc.reads;rw [et];congr 2;refine List.map_congr_left λj hj=>?_;unfold Mc.valAt Mc.adr;rw [h.starts,h.cells,h.base]
 obtain ⟨M',st,i,w,n,o⟩:=h.seatO (tv:=[.str "load",.int p,.int r,.int m]) hS rfl rfl rfl p8 m16 ef;exact ⟨M',st,i,w,λj hj=>n j hj _ rfl,o⟩
def InS.storeO {q p m:Nat} {F:Int->Int} (h:InS S LN L pl mn_ mi b k s M) (hS:Lx.E "store" xC) (p8:((p:Int)+1)*mi<=8) (m16:m<16) (hq:q<S.length) (b0:0<=b) (iq:0<=S.getD q 0/\S.getD q 0+mn_<=s.1.length) (ht:s.2.length+(M.act m).length<100000) (hn:∀ j∈M.act m,M.nq p j=F (b+j)) :
  ∃ M',Step Lx [.str "store",.int q,.int p,.int m] M M'/\InS S LN L pl mn_ mi b (k+1) (zY s.1 (((M.act m).map (b+·)).map λe=>(S.getD q 0+e,F e)),s.2++((M.act m).map (b+·)).map λe=>(((pl+k:Nat):Int),("write":Str),S.getD q 0+e)) M'/\(Kp M M'/\M'.fq=M.fq)/\(∀ (p':Nat) (j:Int),M'.nq p' j=M.nq p' j):=by
 have est:xC [.str "store",.int q,.int p,.int m] M=some (M.puts q ((M.act m).map λj=>(M.base+j,M.nq p j))):=by
  unfold xC;refine (if_pos ?_).trans ?_
  rotate_left
  ·rw [q0z,q0z];rfl
  ·show _/\_/\_/\_/\_/\rowIn M (Int.toNat q) (M.act (Int.toNat m))/\_+(M.act (Int.toNat m)).length<_
   rw [q0z,q0z,h.group,h.tq];refine ⟨by omega,by omega,p8,by omega,by omega,⟨by rw [h.starts];exact hq,λj hj=>?_⟩,ht⟩;have:=h.mem hj;unfold Mc.adr;rw [h.starts,h.cells,h.base];omega
 have st:=Step.eff (word:="store") hS rfl est h.ok;obtain ⟨pi1,pi2⟩:=M.puts_is q ((M.act m).map λj=>(M.base+j,M.nq p j))
 have ec:(M.puts q ((M.act m).map λj=>(M.base+j,M.nq p j))).cells=zY s.1 (((M.act m).map (b+·)).map λe=>(S.getD q 0+e,F e)):=by
  rw [ze2,h.cells];congr 1;rw [List.map_map,List.map_map];refine List.map_congr_left λj hj=>?_;show (M.starts.getD q 0+(M.base+j),M.nq p j)=(S.getD q 0+(b+j),F (b+j));rw [h.starts,h.base,hn j hj]
 have et:M.tq++((M.act m).map λj=>(M.base+j,M.nq p j)).map (λp=>(M.pc,("write":Str),M.adr q p.1))=s.2++((M.act m).map (b+·)).map λe=>(((pl+k:Nat):Int),("write":Str),S.getD q 0+e):=by
  rw [h.tq];congr 1;rw [List.map_map,List.map_map];refine List.map_congr_left λj hj=>?_;show (M.pc,("write":Str),M.starts.getD q 0+(M.base+j))=(_,_,S.getD q 0+(b+j));rw [h.starts,h.base,h.pc]
 rw [ec,et] at pi1;generalize M.puts q ((M.act m).map λj=>(M.base+j,M.nq p j))=N at *;subst pi1;refine ⟨_,st,⟨{h.ok with},h.wle,h.bq,h.base,?_,h.oq,h.mn_,h.group,h.lq,h.rf,h.starts,h.lens,rfl,rfl⟩,⟨⟨rfl,rfl,rfl,rfl,rfl,rfl,rfl,rfl,rfl⟩,rfl⟩,λ_ _=>rfl⟩;show M.pc+1=_;rw [h.pc];omega
end
def zbs (f:Jh) (j:Int):j∈Yi f↔(zO f (.inl j)).isSome=true:=by
 induction f with
 | nil=>exact ⟨(λh=>by cases h),(λh=>by cases h)⟩
 | cons p f ih =>
  obtain ⟨k,v⟩:=p;by_cases e:k=.inl j
  ·rw [yx (p:=(k,v)) e]
   subst e;exact ⟨λ_=>rfl,λ_=>q6z⟩
  ·rw [yy (p:=(k,v)) e,← ih]
   cases k with
   | inl i =>
    show j∈i::Yi f↔_;refine ⟨λh=>?_,λh=>q6y _ h⟩;rcases List.mem_cons.mp h with h | h
    ·exact absurd (by rw [h]) e
    ·exact h
   | inr _=>exact Iff.rfl
def zea {f:Jh} (h:ZP f) (j:Int) (v:V):ZP (yL f (.inl j) v):=by
 unfold yL
 split
 ·intro p hp
  obtain ⟨q,hq,rfl⟩:=List.mem_map.mp hp;obtain ⟨i,hi⟩:=h q hq;refine ⟨i,?_⟩
  split
  ·exact hi
  ·exact hi
 ·intro p hp
  rcases List.mem_append.mp hp with hp | hp
  ·exact h p hp
  ·cases List.mem_singleton.mp hp;exact ⟨j,rfl⟩
def Mc.opOne (M:Mc) (sg:Str) (a b lane:Int):Mc×Option Int:=match doneR sg a b with
 | some r=>(M,some r)
 | none=>({ M with fq:=yL M.fq (.inl lane) (.str "nought") },none)
def Mc.opOne_is (M:Mc) (sg:Str) (a b lane:Int):(M.opOne sg a b lane).1={ M with fq:=(M.opOne sg a b lane).1.fq }/\(M.opOne sg a b lane).1.fq.length<=M.fq.length+1:=by
 unfold Mc.opOne
 split
 ·exact ⟨rfl,Nat.le_succ _⟩
 ·exact ⟨rfl,xi _ _ _⟩
def Mc.opAll (sg:Str):List (Int×Int×Int)->Mc->Mc×List (Option Int)
 | [],M=>(M,[])
 | p::ps,M=>let x:=M.opOne sg p.1 p.2.1 p.2.2;let y:=Mc.opAll sg ps x.1;(y.1,x.2::y.2)
theorem Mc.opAll_snoc (sg:Str) (p:Int×Int×Int):∀ (ps:List (Int×Int×Int)) (M:Mc),Mc.opAll sg (ps++[p]) M=(((Mc.opAll sg ps M).1.opOne sg p.1 p.2.1 p.2.2).1,(Mc.opAll sg ps M).2++[((Mc.opAll sg ps M).1.opOne sg p.1 p.2.1 p.2.2).2])
 | [],M=>rfl
 | q::ps,M=>by
  show ((Mc.opAll sg (ps++[p]) _).1,_::(Mc.opAll sg (ps++[p]) _).2)=_;rw [Mc.opAll_snoc sg p ps];rfl
theorem Mc.opAll_is (sg:Str):∀ (ps:List (Int×Int×Int)) (M:Mc),(Mc.opAll sg ps M).1={ M with fq:=(Mc.opAll sg ps M).1.fq }/\(Mc.opAll sg ps M).1.fq.length<=M.fq.length+ps.length/\(Mc.opAll sg ps M).2.length=ps.length
 | [],M=>⟨rfl,Nat.le_refl _,rfl⟩
 | p::ps,M=>by
  obtain ⟨a1,a3⟩:=M.opOne_is sg p.1 p.2.1 p.2.2;obtain ⟨b1,b3,b4⟩:=Mc.opAll_is sg ps (M.opOne sg p.1 p.2.1 p.2.2).1;refine ⟨?_,?_,?_⟩
  ·show (Mc.opAll sg ps (M.opOne sg p.1 p.2.1 p.2.2).1).1={ M with fq:=(Mc.opAll sg ps (M.opOne sg p.1 p.2.1 p.2.2).1).1.fq }
   rw [b1];rw [a1]
  ·show (Mc.opAll sg ps (M.opOne sg p.1 p.2.1 p.2.2).1).1.fq.length<=_
   rw [q8x];omega
  ·show (_::(Mc.opAll sg ps _).2).length=_
   rw [q8x,b4];rfl
open Classical in
noncomputable def opM:FnM:=λtv M js=>match (tv[2]?:Jk),(tv[3]?:Jk),(tv[4]?:Jk) with
 | some (V.str sg),some (V.int p),some (V.int p')=>if sg∈signs/\0<=p/\(p+1)*M.group<=8/\0<=p'/\(p'+1)*M.group<=8/\M.fq.length<90000/\∀ j∈js,Kin (M.nq p.toNat j)/\Kin (M.nq p'.toNat j) then some (Mc.opAll sg (js.map λj=>(M.nq p.toNat j,M.nq p'.toNat j,j)) M) else none
 | _,_,_=>none
def zcv {tv:Jj} {M M':Mc} {js:J6} {ns:List (Option Int)} (h:opM tv M js=some (M',ns)):∃ (sg:Str) (p p':Nat),tv[2]?=some (.str sg)/\tv[3]?=some (.int p)/\tv[4]?=some (.int p')/\sg∈signs/\((p:Int)+1)*M.group<=8/\((p':Int)+1)*M.group<=8/\M.fq.length<90000/\(∀ j∈js,Kin (M.nq p j)/\Kin (M.nq p' j))/\M'=(Mc.opAll sg (js.map λj=>(M.nq p j,M.nq p' j,j)) M).1/\ns=(Mc.opAll sg (js.map λj=>(M.nq p j,M.nq p' j,j)) M).2:=by
 unfold opM at h
 split at h
 ·rename_i sg p p' e1 e2 e3
  split at h
  ·rename_i hc
   obtain ⟨hs,p0,p8,q0,q8,hf,hk⟩:=hc;have h:=Option.some.inj h;exact ⟨sg,p.toNat,p'.toNat,e1,by rw [e2];congr 2;omega,by rw [e3];congr 2;omega,hs,by rw [Int.toNat_of_nonneg p0];exact p8,by rw [Int.toNat_of_nonneg q0];exact q8,hf,hk,by rw [h],by rw [h]⟩
  ·cases h
 ·cases h
def opM_ok:FnMOk opM where
 ok:=λ{tv M js M' ns} h ok=>by
  obtain ⟨sg,p,p',_,_,_,_,_,_,_,_,rfl,_⟩:=zcv h;rw [(Mc.opAll_is sg (js.map λj=>(M.nq p j,M.nq p' j,j)) M).1];exact {ok with}
 g:=λ{tv M js M' ns} h=>by
  obtain ⟨sg,p,p',_,_,_,_,_,_,_,_,rfl,_⟩:=zcv h;rw [(Mc.opAll_is sg (js.map λj=>(M.nq p j,M.nq p' j,j)) M).1]
 n:=λ{tv M js M' ns} h=>by
  obtain ⟨sg,p,p',_,_,_,_,_,_,_,_,_,rfl⟩:=zcv h;rw [(Mc.opAll_is sg (js.map λj=>(M.nq p j,M.nq p' j,j)) M).2.2,Je]
inductive spOp (c:MCs) (vs:Jj) (H:Hp) (Q:VK) (_:XK):Prop
 | mk (B:Hp) (A:Ma) (M:Mc) (R:Ji) (sg:Str) (a b lane:Int) (_:vs=[.ref A.b,.str sg,.int a,.int b,.int lane]) (_:MAt c B A M R H) (_:sg∈signs) (_:Kin a) (_:Kin b) (_:M.fq.length<100000) (_:∀ B' A' H',Same B B'->A'.b=A.b->MAt c B' A' (M.opOne sg a b lane).1 R H'->Q (oV (M.opOne sg a b lane).2) H')
def ok_opOne {c:MCs} {CN:Ad} (d:zk K mg "number_joined" xc qQ) (CC:MCls K c) (hN:mg "ByNought"=some (.ref CN)) (xm:PySem.W.exmOne K (.ref CN) (.ref CN)=some true) (DN:Ok P w K mg base (CXe P w base) 3 "done" Ui (spDone CN)):Ok P w K mg base CX0 4 "number_joined" qQ (spOp c):=by
 refine oDf d Xo λg mh A _ s H vs Q E hr h=>?_;obtain ⟨B,A,M,R,sg,a,b',lane,rfl,m,hs,ka,kb,hf,q⟩:=h;have hu:=Nat.lt_of_le_of_lt (Nat.add_le_add_left (show 1<=64 by decide) _) hr.units;have hr3:=hr;have CN':=CC.n;have SL:(200000:Nat)<sizeLine:=by decide
 refine ⟨_,(zd (ps_try (t:=λR=>tRet (zbm (spDone CN) [] (XE R) (X2 (tVar 1) (X2 (tVar 2) (X2 (tVar 3) tNil))))) rfl rfl (by intro l8 σ₀ R ok;exact ps1_ret (pe1_ok (E:=XE R) DN hr3 rfl (pass_tr (l8:=l8) (σ₀:=σ₀) ok) (zb (pv 1) (zb (pv 2) (zb (pv 3) zc))))) (ph_no rfl rfl hN (λe=>(zf (ps_dput hu (zh (pv 0) rfl) (pv 4) zV rfl))) ph_nil))
   (zf (zm xv))),?_⟩
 refine ⟨λC H'=>C=CN/\doneR sg a b'=none/\H'=H,?_,?_⟩
 ·refine ⟨_,rfl,_,rfl,_,rfl,sg,a,b',rfl,hs,ka,kb,λr er=>?_,λer=>⟨CN,rfl,rfl,er,rfl⟩⟩
  have e:M.opOne sg a b' lane=(M,some r):=by unfold Mc.opOne;rw [er]
  rw [e] at q;exact q B A H (Same.refl _) rfl m
 ·rintro e C H' ne ⟨rfl,er,rfl⟩
  have e':M.opOne sg a b' lane=({ M with fq:=yL M.fq (.inl lane) (.str "nought") },none):=by unfold Mc.opOne;rw [er]
  rw [e'] at q;refine ⟨true,xm,?_⟩;rw [if_pos rfl];have m2:=m.grow (o:=excO e C) ne;have s2:Same B (upd B e (excO e C)):=zt (Same.refl _) (m.h.free ne);exact ⟨_,rfl,A.b,_,_,_,.ref A.aF,rfl,m2.b,CN'.c,CN'.fq,rfl,_,rfl,A.aF,_,rfl,DPut.k (k:=.inl lane) (m2.h.get 7 rfl) (by omega),q _ A _ s2 rfl (m2.putFault _)⟩
def ok_op {c:MCs} (d:zk K mg "numbers_joined" yU qE) (hzip:mg "zip"=none) (CC:MCls K c) (NI:OkM P w K mg base CX0 3 c.bn "numbers_in" qV (spNums c K)) (NJ:Ok P w K mg base CX0 4 "number_joined" qQ (spOp c)):Ok P w K mg base CX0 5 "numbers_joined" qE (spFn c opM):=by
 refine oDf d sc_numbers_joined λg mh A _ s H vs Q E hr h=>?_;obtain ⟨B,A,M,R,st,aa,tv,js,M',ns,rfl,m,es,ea,ef,ok,hj,hl,q⟩:=h;obtain ⟨sg,p,p',e2,e3,e4,hs,p8,p8',hf,hk,rfl,rfl⟩:=zcv ef;have nd:=sc_numbers_joined.nd;have hr4:=hr;have hr3:Room 3 _:=hr.mono (by decide);have CN:=CC.n;have SL:(3000:Nat)<sizeLine:=by decide
 let pr:Int->Int×Int×Int:=λj=>(M.nq p j,M.nq p' j,j);refine ⟨_,(zd (oRz 3 nd (zW NI CC.n.c hr3 zo (pv 0) (zb (zB zI (pv 1) zg (λ_ _=>rfl)) (zb (pv 2) zc))))
   (zd (oRz 4 nd (zW NI CC.n.c hr3 zo (pv 0) (zb (zB zI (pv 1) zg (λ_ _=>rfl)) (zb (pv 2) zc))))
   (zf (zm (xw qZ [none,none,none,some 0,some 1] rfl rfl rfl (pi_zip3 rfl hzip (zb (pv 3) (zb (pv 4) (zb (pv 2) zc)))) (λs3 H3 fp=>⟨pg_tupK (K:=K) (n:=3) rfl rfl (xu (oQz 0 (Jl qZ)) (xu (oQz 1 (Jl qZ)) (xu (oQz 2 (Jl qZ)) XR))),(zv NJ hr4 (by rfl) zo (zb (pv 3) (zb (zB (zcy (K:=K) rfl) (pv 4) zg (λ_ _=>rfl)) (zb (pv 0) (zb (pv 1) (zb (pv 2) zc))))))⟩)))))),?_⟩
 refine ⟨_,rfl,A.b,_,_,rfl,m.b,rfl,_,rfl,st,_,_,_,rfl,rfl,SqT.of (m.h.sm _ _ es),zH (j:=3) e3,_,rfl,B,A,M,R,p,aa,js,rfl,m,ok,p8,ea,hj,hl,λB1 H1 x1 s1 m1 ex1=>?_⟩;refine ⟨_,rfl,A.b,_,_,rfl,m1.b,rfl,_,rfl,st,_,_,_,rfl,rfl,SqT.of (m1.h.sm _ _ (s1 _ _ es)),zH (j:=4) e4,_,rfl,B1,A,M,R,p',aa,js,rfl,m1,ok,p8',s1 _ _ ea,hj,hl,λB2 H2 x2 s2 m2 ex2=>?_⟩;have s12:=s1.trans s2;have ex1':=s2 _ _ ex1;have ea2:=s12 _ _ ea;refine ⟨_,rfl,_,rfl,_,rfl,x1,x2,aa,rfl,⟨_,SqL.of (m2.h.sm _ _ ex1')⟩,⟨_,SqL.of (m2.h.sm _ _ ex2)⟩,⟨_,SqL.of (m2.h.sm _ _ ea2)⟩,_,rfl,λD nD=>?_⟩;have m0:MAt c B2 A (Mc.opAll sg ((js.take 0).map pr) M).1 ((D,.lst ((Mc.opAll sg ((js.take 0).map pr) M).2.map oV))::R) (upd H2 D (.lst [])):=m2.newR nD;generalize upd H2 D (.lst [])=H3 at m0 ⊢;refine comp_zip3 (K:=K) (xs:=(js.map (M.nq p)).map V.int) (ys:=(js.map (M.nq p')).map V.int) (zs:=js.map V.int) (λi σ J=>∃ (u0 u1 u2:Jk) (B3:Hp) (A3:Ma),σ=[u0,u1,u2,rq A.b,rq st]/\Same B2 B3/\A3.b=A.b/\MAt c B3 A3 (Mc.opAll sg ((js.take i).map pr) M).1 ((D,.lst ((Mc.opAll sg ((js.take i).map pr) M).2.map oV))::R) J) ⟨none,none,none,B2,A,rfl,Same.refl _,rfl,m0⟩ (λi σ J _ ⟨_,_,_,B3,A3,_,s3,_,m3⟩=>⟨SqL.of (m3.h.sm _ _ (s3 _ _ ex1')),SqL.of (m3.h.sm _ _ (s3 _ _ ex2)),SqL.of (m3.h.sm _ _ (s3 _ _ ea2))⟩) (by rw [Je,Je,Je,Je]) (by rw [Je,Je,Je]) ?_ ?_
 ·clear m0
  rintro i x y z σ J T hx hy hz ⟨u0,u1,u2,B3,A3,rfl,s3,eb,m3⟩ nT;obtain ⟨j,e9,rfl⟩:=xI hz;have hlt:i<js.length:=(List.getElem?_eq_some_iff.mp e9).1;obtain ⟨a1,e10,rfl⟩:=xI hx;obtain ⟨a2,e11,rfl⟩:=xI hy;rw [List.getElem?_map,e9] at e10 e11;cases e10;cases e11;have hkj:=hk j (List.mem_of_getElem? e9);have m4:=m3.grow (o:=.tup [.int (M.nq p j),.int (M.nq p' j),.int j]) nT;have s4:Same B3 (upd B3 T (.tup [.int (M.nq p j),.int (M.nq p' j),.int j])):=zt (Same.refl _) (m3.h.free nT);have e5:upd B3 T (.tup [.int (M.nq p j),.int (M.nq p' j),.int j]) T=some (.tup [.int (M.nq p j),.int (M.nq p' j),.int j]):=zi;generalize upd J T (.tup [.int (M.nq p j),.int (M.nq p' j),.int j])=J4 at m4 ⊢;generalize upd B3 T (.tup [.int (M.nq p j),.int (M.nq p' j),.int j])=B4 at m4 s4 e5;obtain ⟨i1,i3,i4⟩:=Mc.opAll_is sg ((js.take i).map pr) M;have et:(js.take (i+1)).map pr=(js.take i).map pr++[pr j]:=by rw [List.take_add_one,e9,Jg];rfl
  rw [et,Mc.opAll_snoc];rw [Je,List.length_take] at i3 i4;have sq:SqT K J4 st tv:=SqT.of (m4.h.sm _ _ (s4 _ _ (s3 _ _ (s12 _ _ es))));generalize Mc.opAll sg ((js.take i).map pr) M=X at *;obtain ⟨MX,nX⟩:=X;have i3:MX.fq.length<=M.fq.length+min i js.length:=i3;have i4:nX.length=min i js.length:=i4;refine ⟨T,_,rfl,SqT.of (m4.h.sm _ _ e5),rfl,_,_,rfl,_,_,rfl,_,_,rfl,rfl,?_⟩;refine ⟨_,rfl,_,rfl,st,_,_,_,rfl,rfl,sq,zH (j:=2) e2,_,rfl,_,rfl,_,rfl,B4,A3,MX,_,sg,M.nq p j,M.nq p' j,j,by rw [eb];rfl,m4,hs,hkj.1,hkj.2,by omega,λB5 A5 H5 s5 eb5 m5=>?_⟩;refine ⟨_,m5.getR,(by rw [Je];omega),_,_,_,B5,A5,rfl,(s3.trans s4).trans s5,eb5.trans eb,?_⟩;rw [Jg];exact m5.putR
 ·rintro σ J ⟨u0,u1,u2,B3,A3,rfl,s3,eb,m3⟩
  rw [Je,Je,List.take_length] at m3;have nb:B3 D=none:=m3.h.nw (D,_) (List.mem_of_getElem? atR);exact q _ A3 J D ((s12.trans s3).trans (zt (Same.refl _) nb)) eb m3.settle zi
def Xh (z:Str) (fs:Jh) (js:J6):Jh:=js.foldl (λf j=>yL f (.inl j) (.str z)) fs
theorem zdv (sg:Str) (F G:Int->Int):∀ (js:J6) (M:Mc),Mc.opAll sg (js.map λj=>(F j,G j,j)) M=({ M with fq:=Xh "nought" M.fq (js.filter λj=>(doneR sg (F j) (G j)).isNone) },js.map λj=>doneR sg (F j) (G j))
 | [],M=>rfl
 | j::js,M=>by
  show ((Mc.opAll sg (js.map λj=>(F j,G j,j)) (M.opOne sg (F j) (G j) j).1).1,(M.opOne sg (F j) (G j) j).2::(Mc.opAll sg (js.map λj=>(F j,G j,j)) (M.opOne sg (F j) (G j) j).1).2)=_;rw [zdv sg F G js]
  cases e:doneR sg (F j) (G j) with
  | some r =>
   have e1:M.opOne sg (F j) (G j) j=(M,some r):=by unfold Mc.opOne;rw [e]
   rw [e1,List.filter_cons_of_neg (by rw [e];exact λz=>by cases z),List.map_cons,e]
  | none =>
   have e1:M.opOne sg (F j) (G j) j=({ M with fq:=yL M.fq (.inl j) (.str "nought") },none):=by unfold Mc.opOne;rw [e]
   rw [e1,List.filter_cons_of_pos (by rw [e];rfl),List.map_cons,e];rfl
theorem zbu (z:Str):∀ (js:J6) (fs:Jh),(Xh z fs js).length<=fs.length+js.length
 | [],fs=>Nat.le_refl _
 | j::js,fs=>by
  have a:=zbu z js (yL fs (.inl j) (.str z));have b:=xi fs (.inl j:Key) (.str z);show (Xh z (yL fs (.inl j) (.str z)) js).length<=_;rw [q8x];omega
section
variable {Lx:Lex} {S LN:J6} {L pl k:Nat} {mn_ mi b:Int} {s:DT} {M:Mc}
def InS.op {p q r m:Nat} {sg:Str} {F G:Int->Int} (h:InS S LN L pl mn_ mi b k s M) (hS:Lx.S "op" opM) (p8:((p:Int)+1)*mi<=8) (q8:((q:Int)+1)*mi<=8) (r8:((r:Int)+1)*mi<=8) (m16:m<16) (sgn:sg∈signs) (hf:M.fq.length<90000) (hq:∀ j∈M.act m,M.nq q j=F (b+j)/\M.nq r j=G (b+j)) (hk:∀ j∈M.act m,Kin (F (b+j))/\Kin (G (b+j))) :
  ∃ M',Step Lx [.str "op",.int p,.str sg,.int q,.int r,.int m] M M'/\InS S LN L pl mn_ mi b (k+1) s M'/\(Kp M M'/\M'.fq=Xh "nought" M.fq ((M.act m).filter λj=>(doneR sg (F (b+j)) (G (b+j))).isNone))/\(∀ j∈M.act m,∀ v,doneR sg (F (b+j)) (G (b+j))=some v->M'.nq p j=v)/\(∀ (p':Nat) (j:Int),p'≠p->0<=j->j<mi*L->M'.nq p' j=M.nq p' j):=by
 have ef:opM [.str "op",.int p,.str sg,.int q,.int r,.int m] M (M.act m)=some ({ M with tq:=M.tq++[],fq:=Xh "nought" M.fq ((M.act m).filter λj=>(doneR sg (F (b+j)) (G (b+j))).isNone) },(M.act m).map λj=>doneR sg (F (b+j)) (G (b+j))):=by
  have e1:opM [.str "op",.int p,.str sg,.int q,.int r,.int m] M (M.act m)=some (Mc.opAll sg ((M.act m).map λj=>(M.nq q j,M.nq r j,j)) M):=by
   unfold opM;refine (if_pos ?_).trans ?_
   ·rw [q0z,q0z,h.group]
    exact ⟨sgn,by omega,q8,by omega,r8,hf,λj hj=>by rw [(hq j hj).1,(hq j hj).2];exact hk j hj⟩
   ·rw [q0z,q0z]
  rw [e1];have e2:(M.act m).map (λj=>(M.nq q j,M.nq r j,j))=(M.act m).map λj=>(F (b+j),G (b+j),j):=List.map_congr_left λj hj=>by rw [(hq j hj).1,(hq j hj).2]
  rw [e2,zdv sg (λj=>F (b+j)) (λj=>G (b+j)),q8y]
 obtain ⟨M',st,i,kp,n1,n2⟩:=h.seatO (word:="op") (p:=p) (m:=m) hS rfl rfl rfl p8 m16 ef;rw [q8y] at i;exact ⟨M',st,i,kp,n1,n2⟩
end
def mem_act {M:Mc} {m:Nat} {j:Int}:j∈M.act m↔0<=j/\j<M.wq/\(M.mq.getD m []).getD j.toNat false=true/\zO M.fq (.inl j)=none:=by
 unfold Mc.act Mc.actTo;rw [List.mem_map];constructor
 ·rintro ⟨n,hn,rfl⟩
  obtain ⟨h1,h2⟩:=List.mem_filter.mp hn;have h1:=List.mem_range.mp h1;unfold Mc.isAct at h2;rw [Bool.and_eq_true] at h2;refine ⟨by omega,by omega,by rw [q0z];exact h2.1,?_⟩
  cases e:zO M.fq (.inl (n:Int)) with
  | none=>rfl
  | some v=>rw [e] at h2;exact absurd h2.2 Bool.noConfusion
 ·rintro ⟨h0,h1,h2,h3⟩
  refine ⟨j.toNat,List.mem_filter.mpr ⟨List.mem_range.mpr (by omega),?_⟩,by omega⟩;unfold Mc.isAct;rw [h2,Int.toNat_of_nonneg h0,h3];rfl
def RowsAt (code:List (Jj)) (pl:Nat) (rs:List (Jj)):Prop:=∀ (i:Nat) tv,rs[i]?=some tv->code[pl+i]?=some tv
def RowsAt.left {code:List (Jj)} {pl:Nat} {a b:List (Jj)} (h:RowsAt code pl (a++b)):RowsAt code pl a:=λi tv e=>h i tv (by rw [q9x (List.getElem?_eq_some_iff.mp e).1];exact e)
def RowsAt.right {code:List (Jj)} {pl:Nat} {a b:List (Jj)} (h:RowsAt code pl (a++b)):RowsAt code (pl+a.length) b:=λi tv e=>by
 rw [Nat.add_assoc];exact h _ tv (by rw [List.getElem?_append_right (by omega),Nat.add_sub_cancel_left];exact e)
def kd:Res->Option Str
 | .ok _=>none
 | .nought=>some "nought"
 | .outside=>some "outside"
def Xi {r:Res} (h:kd r=none):∃ v,r=.ok v:=by
 cases r with
 | ok v=>exact ⟨v,rfl⟩
 | nought=>cases h
 | outside=>cases h
open Classical in
noncomputable def ZQ (a:Prop) (r:Res) (old:Jk):Jk:=if a then (match kd r with
 | some z=>some (.str z)
 | none=>old) else old
structure Kq (M M':Mc):Prop where
 w:M'.wq=M.wq
 cut:M'.cut=M.cut
 car:M'.cq=M.cq
 rs:M'.raised=M.raised
 tu:M'.turns=M.turns
 pq:M'.pq=M.pq
 pk:M'.picks=M.picks
def Kq.trans {M N O:Mc} (a:Kq M N) (b:Kq N O):Kq M O:=⟨b.w.trans a.w,b.cut.trans a.cut,b.car.trans a.car,b.rs.trans a.rs,b.tu.trans a.tu,b.pq.trans a.pq,b.pk.trans a.pk⟩
def Kp.q {M N:Mc} (a:Kp M N):Kq M N:=⟨a.w,a.cut,a.cq,a.raised,a.turns,a.pq,a.picks⟩
structure Wf (N:Nat) (T:List Tch) (M:Mc):Prop where
 t:T.length<=N
 f:M.fq.length<=N
 s:M.slots.length<=N
 ik:ZP M.fq
 i0:∀ j:Int,(zO M.fq (.inl j)).isSome=true->0<=j
 so:SlotsOk M
def Wf.mono {N N':Nat} {T:List Tch} {M:Mc} (h:Wf N T M) (l:N<=N'):Wf N' T M:=⟨Nat.le_trans h.t l,Nat.le_trans h.f l,Nat.le_trans h.s l,h.ik,h.i0,h.so⟩
structure Out (side:Int) (p mk lv s:Nat) (R:Int->Res) (M M':Mc):Prop where
 q:Kq M M'
 m:∀ m,m<2+2*lv->M'.mq.getD m []=M.mq.getD m []
 f:∀ j:Int,zO M'.fq (.inl j)=ZQ (j∈M.act mk) (R j) (zO M.fq (.inl j))
 n:∀ j∈M.act mk,∀ v,R j=.ok v->M'.nq p j=v
 l:∀ q,q<p->∀ j:Int,0<=j->j<side->M'.nq q j=M.nq q j
 s:∀ t:Nat,t<s->∀ j:Int,0<=j->j<side->M'.slotN (M'.sad t j)=M.slotN (M.sad t j)
def Yc {a:Prop} {r:Res} {old:Jk} (h:kd r=none):ZQ a r old=old:=by
 unfold ZQ
 split
 ·rw [h]
 ·rfl
def xJ {a:Prop} {r:Res} {old:Jk} (h:¬ a):ZQ a r old=old:=if_neg h
def XU {a:Prop} {r:Res} {old:Jk} {z:Str} (ha:a) (h:kd r=some z):ZQ a r old=some (.str z):=by
 unfold ZQ;rw [if_pos ha,h]
def Out.act {side:Int} {p mk lv s:Nat} {R:Int->Res} {M M':Mc} (h:Out side p mk lv s R M M') {m:Nat} (hm:m<2+2*lv) {j:Int}:j∈M'.act m↔j∈M.act m/\¬ (j∈M.act mk/\kd (R j)≠none):=by
 rw [mem_act,mem_act (M:=M) (m:=m),h.q.w,h.m m hm,h.f];constructor
 ·rintro ⟨h0,h1,h2,h3⟩
  by_cases z:j∈M.act mk/\kd (R j)≠none
  ·obtain ⟨z1,z2⟩:=z
   cases e:kd (R j) with
   | none=>exact absurd e z2
   | some x=>rw [XU z1 e] at h3;cases h3
  ·refine ⟨⟨h0,h1,h2,?_⟩,z⟩
   by_cases y:j∈M.act mk
   ·rw [Yc (Classical.byContradiction λw=>z ⟨y,w⟩)] at h3;exact h3
   ·rw [xJ y] at h3;exact h3
 ·rintro ⟨⟨h0,h1,h2,h3⟩,z⟩
  refine ⟨h0,h1,h2,?_⟩;by_cases y:j∈M.act mk
  ·rw [Yc (Classical.byContradiction λw=>z ⟨y,w⟩)];exact h3
  ·rw [xJ y];exact h3
def Out.actS {side:Int} {p mk lv s:Nat} {R:Int->Res} {M M':Mc} (h:Out side p mk lv s R M M') (hm:mk<2+2*lv) {j:Int}:j∈M'.act mk↔j∈M.act mk/\kd (R j)=none:=by
 rw [h.act hm];constructor
 ·rintro ⟨a,b⟩
  exact ⟨a,Classical.byContradiction λw=>b ⟨a,w⟩⟩
 ·rintro ⟨a,b⟩
  exact ⟨a,λw=>w.2 b⟩
def Out.seat {side:Int} {p mk lv s:Nat} {R:Int->Res} {M M':Mc} (kp:Kp M M') (hf:M'.fq=M.fq) (hc:M'.cells=M.cells/\M'.lq=M.lq) (hr:∀ j∈M.act mk,∃ v,R j=.ok v/\M'.nq p j=v) (ho:∀ (p':Nat) (j:Int),p'≠p->0<=j->j<side->M'.nq p' j=M.nq p' j):Out side p mk lv s R M M':=by
 refine ⟨kp.q,λm _=>by rw [kp.mq],λj=>?_,λj hj v e=>?_,λq hq j j0 j1=>ho q j (by omega) j0 j1,λt _ j _ _=>?_⟩
 ·rw [hf]
  by_cases y:j∈M.act mk
  ·obtain ⟨v,e,_⟩:=hr j y
   rw [Yc (by rw [e];rfl)]
  ·rw [xJ y]
 ·obtain ⟨v',e',n⟩:=hr j hj
  rw [e] at e';cases e';exact n
 ·unfold Mc.slotN Mc.sad
  rw [kp.slots,hc.1,hc.2]
structure Own (side:Int) (mk s:Nat) (ow:List Nat) (O:Int->J6) (M:Mc):Prop where
 lo:∀ t∈ow,t<s
 at':∀ j∈M.act mk,∀ (i t:Nat),ow[i]?=some t->M.slotN (M.sad t j)=(O j).getD i 0
def Own.next {side:Int} {p mk mk' lv s:Nat} {R:Int->Res} {M M':Mc} {ow:List Nat} {O:Int->J6} (h:Own side mk s ow O M) (o:Out side p mk' lv s R M M') (hs:∀ j∈M'.act mk,j∈M.act mk/\0<=j/\j<side):Own side mk s ow O M' :=
 ⟨h.lo,λj hj i t e=>by
  have a:=hs j hj;rw [o.s t (h.lo t (List.mem_of_getElem? e)) j a.2.1 a.2.2];exact h.at' j a.1 i t e⟩
section
variable (Lx:Lex) (S LN:J6) (L pl:Nat) (mn_ mi b:Int) (code:List (Jj)) (cs:J6)
def Zs (c:List (Jj)) (p mk lv s:Nat) (ow:List Nat) (O:Int->J6) (R:Int->Res):Prop:=∀ (k:Nat) (T:List Tch) (M:Mc) (N:Nat),InS S LN L pl mn_ mi b k (cs,T) M->Wf N T M->N+c.length*wid mn_ (mi*L) b<=80000->RowsAt code (pl+k) c->Own (mi*L) mk s ow O M->∃ n M' T',Steps Lx code n M M'/\InS S LN L pl mn_ mi b (k+c.length) (cs,T') M'/\Wf (N+c.length*wid mn_ (mi*L) b) T' M'/\Out (mi*L) p mk lv s R M M'
end
section
variable {Lx:Lex} {S LN:J6} {L pl:Nat} {mn_ mi b:Int} {code:List (Jj)} {cs:J6}
def InS.low {k:Nat} {s:DT} {M:Mc} (h:InS S LN L pl mn_ mi b k s M) {m:Nat} {j:Int} (hj:j∈M.act m):0<=j/\j<mi*L:=by have:=h.mem hj;exact ⟨this.1,this.2.1⟩
def zef {tv:Jj} {p mk lv s:Nat} {ow:List Nat} {O:Int->J6} {R:Int->Res} (h:∀ (k:Nat) (T:List Tch) (M:Mc) (N:Nat),InS S LN L pl mn_ mi b k (cs,T) M->Wf N T M->N+wid mn_ (mi*L) b<=80000->Own (mi*L) mk s ow O M->∃ M' T',Step Lx tv M M'/\InS S LN L pl mn_ mi b (k+1) (cs,T') M'/\Wf (N+wid mn_ (mi*L) b) T' M'/\Out (mi*L) p mk lv s R M M'):Zs Lx S LN L pl mn_ mi b code cs [tv] p mk lv s ow O R:=by
 intro k T M N i wf hN rw' own;have e1:([tv].length:Nat)*wid mn_ (mi*L) b=wid mn_ (mi*L) b:=Nat.one_mul _;rw [e1] at hN ⊢;obtain ⟨M',T',st,i',wf',o⟩:=h k T M N i wf hN own;exact ⟨1,M',T',i.one (rw' 0 _ rfl) st,i',wf',o⟩
def Xy {word:Str} {f:FnM} {tv:Jj} {p mk lv s:Nat} {ow:List Nat} {O:Int->J6} {R:Int->Res} (hS:Lx.S word f) (h0:tv[0]?=some (.str word)) (h1:tv[1]?=some (.int p)) (hl:tv.getLast?=some (.int mk)) (p8:((p:Int)+1)*mi<=8) (m16:mk<16)
  (ef:∀ (k:Nat) (T:List Tch) (M:Mc),InS S LN L pl mn_ mi b k (cs,T) M->SlotsOk M->T.length+wid mn_ (mi*L) b<=80000->Own (mi*L) mk s ow O M->∃ (T1:List Tch) (v:Int->Int),T1.length<=(M.act mk).length/\f tv M (M.act mk)=some ({ M with tq:=M.tq++T1,fq:=M.fq },(M.act mk).map λj=>some (v j))/\∀ j∈M.act mk,R j=.ok (v j)):Zs Lx S LN L pl mn_ mi b code cs [tv] p mk lv s ow O R:=by
 refine zef λk T M N i wf hN own=>?_;obtain ⟨T1,v,tl,e,hr⟩:=ef k T M i wf.so (by have:=wf.t;omega) own;obtain ⟨M',st,i',⟨kp,hf⟩,n1,n2⟩:=i.seatO (g:=λj=>some (v j)) hS h0 h1 hl p8 m16 e;have al:=i.len mk;refine ⟨M',T++T1,st,i',⟨?_,?_,?_,by rw [hf];exact wf.ik,λj hj=>wf.i0 j (by rw [hf] at hj;exact hj),λk' v' e'=>wf.so k' v' (by rw [kp.slots] at e';exact e')⟩,Out.seat kp hf ⟨i'.cells.trans i.cells.symm,i'.lq.trans i.lq.symm⟩ (λj hj=>⟨v j,hr j hj,n1 j hj _ rfl⟩) n2⟩
 ·have:=wf.t;rw [Jf];omega
 ·have:=wf.f;rw [hf];omega
 ·have:=wf.s;rw [kp.slots];omega
def does_num {p mk lv s:Nat} {ow:List Nat} {O:Int->J6} {n:Int} (hS:Lx.S "number" numM) (p8:((p:Int)+1)*mi<=8) (m16:mk<16):Zs Lx S LN L pl mn_ mi b code cs [[.str "number",.int p,.int n,.int mk]] p mk lv s ow O (λ_=>.ok n) :=
 Xy hS rfl rfl rfl p8 m16 λk T M i _ _ _=>⟨[],λ_=>n,Nat.zero_le _,by rw [q8y];rfl,λ_ _=>rfl⟩
def does_here {p mk lv s:Nat} {ow:List Nat} {O:Int->J6} (hS:Lx.S "here" hereM) (p8:((p:Int)+1)*mi<=8) (m16:mk<16):Zs Lx S LN L pl mn_ mi b code cs [[.str "here",.int p,.int mk]] p mk lv s ow O (λj=>.ok (b+j)) :=
 Xy hS rfl rfl rfl p8 m16 λk T M i _ _ _=>⟨[],λj=>b+j,Nat.zero_le _,by rw [q8y,← i.base];rfl,λ_ _=>rfl⟩
def does_load {p mk lv s r:Nat} {ow:List Nat} {O:Int->J6} (hS:Lx.S "load" YK) (p8:((p:Int)+1)*mi<=8) (m16:mk<16) (hr:r<S.length) (b0:0<=b) (ir:0<=S.getD r 0/\S.getD r 0+mn_<=cs.length):Zs Lx S LN L pl mn_ mi b code cs [[.str "load",.int p,.int r,.int mk]] p mk lv s ow O (λj=>.ok (cs.getD (S.getD r 0+(b+j)).toNat 0)):=by
 refine zef λk T M N i wf hN own=>?_;have al:=i.len mk;have wt:=wf.t;obtain ⟨M',st,i',⟨kp,hf⟩,n1,n2⟩:=i.loadO (r:=r) (p:=p) (m:=mk) hS p8 m16 hr b0 ir (by show T.length+_<_;omega);refine ⟨M',_,st,i',⟨?_,?_,?_,by rw [hf];exact wf.ik,λj hj=>wf.i0 j (by rw [hf] at hj;exact hj),λk' v' e'=>wf.so k' v' (by rw [kp.slots] at e';exact e')⟩,Out.seat kp hf ⟨i'.cells.trans i.cells.symm,i'.lq.trans i.lq.symm⟩ (λj hj=>⟨_,rfl,n1 j hj⟩) n2⟩
 ·show (T++_).length<=_
  rw [Jf,Je,Je];omega
 ·have:=wf.f;rw [hf];omega
 ·have:=wf.s;rw [kp.slots];omega
def zee {p mk lv s r:Nat} {ow:List Nat} {O:Int->J6} (hS:Lx.S "spread" Za) (p8:((p:Int)+1)*mi<=8) (m16:mk<16) (hr:r<S.length) (ir:0<=S.getD r 0/\S.getD r 0<cs.length):Zs Lx S LN L pl mn_ mi b code cs [[.str "spread",.int p,.int r,.int mk]] p mk lv s ow O (λ_=>.ok (cs.getD (S.getD r 0).toNat 0)) :=
 Xy hS rfl rfl rfl p8 m16 λk T M i _ tl _=>by
  have ea:M.adr r 0=S.getD r 0:=by unfold Mc.adr;rw [i.starts,Int.add_zero]
  by_cases z:M.act mk=[]
  ·refine ⟨[],λ_=>cs.getD (S.getD r 0).toNat 0,Nat.zero_le _,?_,λ_ _=>rfl⟩
   rw [q8y,z];unfold Za;show (if _ then _ else _)=_;exact if_pos rfl
  ·refine ⟨[(M.pc,"read",M.adr r 0)],λ_=>M.cells.getD (M.adr r 0).toNat 0,?_,?_,λ_ _=>by rw [ea,i.cells]⟩
   ·cases e:M.act mk with
    | nil=>exact absurd e z
    | cons a l=>exact Nat.succ_le_succ (Nat.zero_le _)
   ·unfold Za
    show (if _ then _ else if _ then _ else _)=_;rw [if_neg (λy=>z (List.eq_nil_of_length_eq_zero y))];have tt:=i.tq;refine (if_pos ?_).trans ?_
    ·rw [q0z,ea,i.starts,i.cells,tt]
     exact ⟨by omega,hr,ir.1,by show (S.getD r 0).toNat<cs.length;omega,by show T.length<_;omega⟩
    ·rw [q0z];rfl
theorem zbo (slot:Int) (a:Int):∀ (ps:List (Int×Int)) (M:Mc),(∀ p∈ps,M.sad slot p.1≠a)->zO (M.saves slot ps).slots (.inl a)=zO M.slots (.inl a)
 | [],_,_=>rfl
 | p::ps,M,h=>by
  show zO ((M.wroteSlot slot p.1 p.2).saves slot ps).slots (.inl a)=_;rw [zbo slot a ps (M.wroteSlot slot p.1 p.2) λq hq=>h q (q6y _ hq)];show zO (yL M.slots (.inl (M.sad slot p.1)) (.int p.2)) (.inl a)=_;rw [xU,if_neg λz=>h p q6z (Sum.inl.inj z).symm]
theorem zdn (slot:Int) (g:Int->Int) {j:Int}:∀ (js:J6) (M:Mc),(j∈js∨zO M.slots (.inl (M.sad slot j))=some (.int (g j)))->zO (M.saves slot (js.map λj=>(j,g j))).slots (.inl (M.sad slot j))=some (.int (g j))
 | [],_,h=>h.elim (λz=>nomatch z) id
 | i::js,M,h=>by
  show zO ((M.wroteSlot slot i (g i)).saves slot (js.map λj=>(j,g j))).slots (.inl ((M.wroteSlot slot i (g i)).sad slot j))=_;refine zdn slot g js _ ?_;by_cases e:j=i
  ·right
   show zO (yL M.slots (.inl (M.sad slot i)) (.int (g i))) (.inl (M.sad slot j))=_;rw [e,xU,if_pos rfl]
  ·rcases h with h | h
   ·rcases List.mem_cons.mp h with h | h
    ·exact absurd h e
    ·exact .inl h
   ·right
    show zO (yL M.slots (.inl (M.sad slot i)) (.int (g i))) (.inl (M.sad slot j))=_
    rw [xU,if_neg λz=>by
     have:M.sad slot j=M.sad slot i:=Sum.inl.inj z;unfold Mc.sad at this;omega]
    exact h
theorem zdm (slot:Int):∀ (ps:List (Int×Int)) (M:Mc),SlotsOk M->SlotsOk (M.saves slot ps)
 | [],_,h=>h
 | p::ps,M,h=>zdm slot ps (M.wroteSlot slot p.1 p.2) λk v e=>by
  have e:zO (yL M.slots (.inl (M.sad slot p.1)) (.int p.2)) k=some v:=e;rw [xU] at e
  split at e
  ·cases e;exact ⟨_,rfl⟩
  ·exact h k v e
def sad_ne {M:Mc} {s t:Nat} {j i:Int} (ne:s≠t) (j0:0<=j) (j1:j<4*M.lq) (i0:0<=i) (i1:i<4*M.lq):M.sad s j≠M.sad t i:=by
 unfold Mc.sad;intro e;have e1:(s:Int)*4*M.lq+j=(t:Int)*4*M.lq+i:=by omega
 rw [Int.mul_assoc,Int.mul_assoc] at e1;generalize (4:Int)*M.lq=w at *;rcases Nat.lt_or_gt_of_ne ne with z | z
 ·have:((s:Int)+1)*w<=t*w:=Int.mul_le_mul_of_nonneg_right (by omega) (by omega)
  rw [Int.add_mul,Int.one_mul] at this;omega
 ·have:((t:Int)+1)*w<=s*w:=Int.mul_le_mul_of_nonneg_right (by omega) (by omega)
  rw [Int.add_mul,Int.one_mul] at this;omega
def InS.side4 {k:Nat} {s:DT} {M:Mc} (h:InS S LN L pl mn_ mi b k s M):mi*L<=4*M.lq:=by
 have g:=h.ok.g;rw [h.group] at g;have:=h.lq;rcases g with e | e | e <;> rw [e,this] <;> omega
def InS.save {k s p mk N:Nat} {T:List Tch} {M:Mc} (h:InS S LN L pl mn_ mi b k (cs,T) M) (wf:Wf N T M) (hN:N+wid mn_ (mi*L) b<=80000) (hS:Lx.E "save" Y3) (p8:((p:Int)+1)*mi<=8) (m16:mk<16) :
  ∃ M' T',Step Lx [.str "save",.int s,.int p,.int mk] M M'/\InS S LN L pl mn_ mi b (k+1) (cs,T') M'/\Wf (N+wid mn_ (mi*L) b) T' M'/\Kq M M'/\M'.mq=M.mq/\M'.fq=M.fq/\(∀ q j,M'.nq q j=M.nq q j)/\(∀ j∈M.act mk,M'.slotN (M'.sad s j)=M.nq p j)/\(∀ t:Nat,t≠s->∀ j:Int,0<=j->j<mi*L->M'.slotN (M'.sad t j)=M.slotN (M.sad t j)):=by
 have wt:=wf.t;have ws:=wf.s;have w0:=h.ok.w0;have al:=h.len mk
 have e:Y3 [.str "save",.int s,.int p,.int mk] M=some (M.saves s ((M.act mk).map λj=>(j,M.nq p j))):=by
  unfold Y3;show (if _ then _ else _)=_;refine (if_pos ?_).trans ?_
  ·rw [h.group,h.tq]
   exact ⟨by omega,p8,by omega,by omega,by show T.length<_;omega,by omega⟩
  ·rw [q0z,q0z]
 have st:=Step.eff (word:="save") hS rfl e h.ok;obtain ⟨s1,s2⟩:=M.saves_is s ((M.act mk).map λj=>(j,M.nq p j));have so:=zdm s ((M.act mk).map λj=>(j,M.nq p j)) M wf.so;have s4:=h.side4;have hin:∀ j∈M.act mk,zO (M.saves s ((M.act mk).map λj=>(j,M.nq p j))).slots (.inl (M.sad s j))=some (.int (M.nq p j)):=λj hj=>zdn s (M.nq p) (M.act mk) M (.inl hj)
 have hoff:∀ t:Nat,t≠s->∀ j:Int,0<=j->j<mi*L->zO (M.saves s ((M.act mk).map λj=>(j,M.nq p j))).slots (.inl (M.sad t j))=zO M.slots (.inl (M.sad t j)):=λt ne j j0 j1=>zbo s _ _ M λq hq=>by
  obtain ⟨i,hi,rfl⟩:=List.mem_map.mp hq;have:=h.low hi;exact sad_ne (M:=M) (Ne.symm ne) this.1 (by omega) j0 (by omega)
 have ml:((M.act mk).map λj=>(j,M.nq p j)).length=(M.act mk).length:=List.length_map _;generalize hmp:((M.act mk).map λj=>(j,M.nq p j))=ps at *;generalize M.saves s ps=X at *;refine ⟨_,T++ps.map (λp=>(M.pc,("write":Str),M.sad s p.1)),st,⟨⟨?_,?_,?_,?_,?_,?_,?_,?_⟩,?_,?_,?_,?_,?_,?_,?_,?_,?_,?_,?_,?_,?_⟩,⟨?_,?_,?_,?_,?_,so⟩,⟨?_,?_,?_,?_,?_,?_,?_⟩,?_,?_,?_,?_,?_⟩
 ·rw [s1];exact h.ok.l1
 ·rw [s1];exact h.ok.l64
 ·rw [s1];exact h.ok.g
 ·rw [s1];exact h.ok.nl
 ·rw [s1];exact h.ok.ml
 ·rw [s1];exact h.ok.mm
 ·rw [s1];exact h.ok.w0
 ·rw [s1];exact h.ok.w1
 ·rw [s1];exact h.wle
 ·rw [s1];exact h.bq
 ·rw [s1];exact h.base
 ·rw [s1];show M.pc+1=_;rw [h.pc];omega
 ·rw [s1];exact h.oq
 ·rw [s1];exact h.mn_
 ·rw [s1];exact h.group
 ·rw [s1];exact h.lq
 ·rw [s1];exact h.rf
 ·rw [s1];exact h.starts
 ·rw [s1];exact h.lens
 ·rw [s1];exact h.cells
 ·rw [s1];show M.tq++_=_;rw [h.tq]
 ·rw [Jf,Je,ml];omega
 ·rw [s1];have:=wf.f;show M.fq.length<=_;omega
 ·show X.slots.length<=_;omega
 ·rw [s1];exact wf.ik
 ·rw [s1];exact wf.i0
 ·rw [s1]
 ·rw [s1]
 ·rw [s1]
 ·rw [s1]
 ·rw [s1]
 ·rw [s1]
 ·rw [s1]
 ·rw [s1]
 ·rw [s1]
 ·intro q j;rw [s1];rfl
 ·intro j hj
  have ex:X.sad s j=M.sad s j:=by rw [s1];rfl
  show X.slotN (X.sad s j)=_;rw [ex];unfold Mc.slotN;rw [hin j hj]
 ·intro t ne j j0 j1
  have ex:X.sad t j=M.sad t j:=by rw [s1];rfl
  show X.slotN (X.sad t j)=_;rw [ex];unfold Mc.slotN;rw [hoff t ne j j0 j1]
def InS.bring {k s p mk N:Nat} {T:List Tch} {M:Mc} (h:InS S LN L pl mn_ mi b k (cs,T) M) (wf:Wf N T M) (hN:N+wid mn_ (mi*L) b<=80000) (hS:Lx.S "bring" ZV) (p8:((p:Int)+1)*mi<=8) (m16:mk<16) :
  ∃ M' T',Step Lx [.str "bring",.int p,.int s,.int mk] M M'/\InS S LN L pl mn_ mi b (k+1) (cs,T') M'/\Wf (N+wid mn_ (mi*L) b) T' M'/\Kp M M'/\M'.fq=M.fq/\(∀ j∈M.act mk,M'.nq p j=M.slotN (M.sad s j))/\(∀ (p':Nat) (j:Int),p'≠p->0<=j->j<mi*L->M'.nq p' j=M.nq p' j):=by
 have wt:=wf.t;have al:=h.len mk
 have ef:ZV [.str "bring",.int p,.int s,.int mk] M (M.act mk)=some ({ M with tq:=M.tq++(M.act mk).map (λj=>(M.pc,("read":Str),M.sad s j)),fq:=M.fq },(M.act mk).map λj=>some (M.slotN (M.sad s j))):=by
  unfold ZV;refine (if_pos ⟨wf.so,?_⟩).trans rfl;rw [h.tq];show T.length<_;omega
 obtain ⟨M',st,i',⟨kp,hf⟩,n1,n2⟩:=h.seatO (word:="bring") (p:=p) (m:=mk) hS rfl rfl rfl p8 m16 ef;refine ⟨M',_,st,i',⟨?_,?_,?_,by rw [hf];exact wf.ik,λj hj=>wf.i0 j (by rw [hf] at hj;exact hj),λk' v' e'=>wf.so k' v' (by rw [kp.slots] at e';exact e')⟩,kp,hf,λj hj=>n1 j hj _ rfl,n2⟩
 ·show (T++_).length<=_
  rw [Jf,Je];omega
 ·have:=wf.f;rw [hf];omega
 ·have:=wf.s;rw [kp.slots];omega
end
structure Two (side:Int) (p mk1 mk2 lv s a c:Nat) (Rl Rr:Int->Res) (M M':Mc):Prop where
 q:Kq M M'
 m:∀ m,m<2+2*lv->M'.mq.getD m []=M.mq.getD m []
 f:∀ j:Int,zO M'.fq (.inl j)=ZQ (j∈M.act mk2/\¬ (j∈M.act mk1/\kd (Rl j)≠none)) (Rr j) (ZQ (j∈M.act mk1) (Rl j) (zO M.fq (.inl j)))
 n1:∀ j∈M'.act mk1,∀ v,Rl j=.ok v->M'.nq a j=v
 n2:∀ j∈M'.act mk2,∀ v,Rr j=.ok v->M'.nq c j=v
 l:∀ q,q<p->∀ j:Int,0<=j->j<side->M'.nq q j=M.nq q j
 s:∀ t:Nat,t<s->∀ j:Int,0<=j->j<side->M'.slotN (M'.sad t j)=M.slotN (M.sad t j)
def act_iff {M M':Mc} {m:Nat} (hw:M'.wq=M.wq) (hm:M'.mq.getD m []=M.mq.getD m []) (hf:M'.fq=M.fq) {j:Int}:j∈M'.act m↔j∈M.act m:=by rw [mem_act,mem_act (M:=M),hw,hm,hf]
def zc2 {a a':Prop} {r:Res} {old:Jk} (h:a↔a'):ZQ a r old=ZQ a' r old:=by rw [propext h]
section
variable {Lx:Lex} {S LN:J6} {L pl:Nat} {mn_ mi b:Int} {code:List (Jj)} {cs:J6}
def XX (Lx:Lex) (S LN:J6) (L pl:Nat) (mn_ mi b:Int) (code:List (Jj)) (cs:J6) (c:List (Jj)) (p mk1 mk2 lv s a c':Nat) (ow:List Nat) (O:Int->J6) (Rl Rr:Int->Res):Prop:=∀ (k:Nat) (T:List Tch) (M:Mc) (N:Nat),InS S LN L pl mn_ mi b k (cs,T) M->Wf N T M->N+c.length*wid mn_ (mi*L) b<=80000->RowsAt code (pl+k) c->Own (mi*L) mk1 s ow O M->Own (mi*L) mk2 s ow O M->∃ n M' T',Steps Lx code n M M'/\InS S LN L pl mn_ mi b (k+c.length) (cs,T') M'/\Wf (N+c.length*wid mn_ (mi*L) b) T' M'/\Two (mi*L) p mk1 mk2 lv s a c' Rl Rr M M'
def two_a {c1 c2:List (Jj)} {p mk1 mk2 lv s:Nat} {ow:List Nat} {O:Int->J6} {Rl Rr:Int->Res} (d1:Zs Lx S LN L pl mn_ mi b code cs c1 p mk1 lv s ow O Rl) (d2:Zs Lx S LN L pl mn_ mi b code cs c2 (p+1) mk2 lv s ow O Rr) (h1:mk1<2+2*lv) (h2:mk2<2+2*lv) :
  XX Lx S LN L pl mn_ mi b code cs (c1++c2) p mk1 mk2 lv s p (p+1) ow O Rl Rr:=by
 intro k T M N i wf hN rw' o1 o2;rw [Jf,Nat.add_mul] at hN ⊢;obtain ⟨n1,M1,T1,st1,i1,wf1,x1⟩:=d1 k T M N i wf (by omega) rw'.left o1;have r2:=rw'.right;rw [Nat.add_assoc] at r2;have o2':Own (mi*L) mk2 s ow O M1:=o2.next x1 λj hj=>⟨((x1.act h2).mp hj).1,i1.low hj⟩;obtain ⟨n2,M2,T2,st2,i2,wf2,x2⟩:=d2 (k+c1.length) T1 M1 _ i1 wf1 (by omega) r2 o2';rw [Nat.add_assoc] at i2;refine ⟨n1+n2,M2,T2,st1.trans st2,i2,wf2.mono (by omega),⟨x1.q.trans x2.q,λm hm=>(x2.m m hm).trans (x1.m m hm),λj=>?_,λj hj v e=>?_,λj hj v e=>?_,λq hq j j0 j1=>(x2.l q (by omega) j j0 j1).trans (x1.l q hq j j0 j1),λt ht j j0 j1=>(x2.s t ht j j0 j1).trans (x1.s t ht j j0 j1)⟩⟩
 ·rw [x2.f,x1.f]
  exact zc2 (x1.act h2)
 ·have a:=i2.low hj
  have b1:=((x2.act h1).mp hj).1;have b0:=((x1.act h1).mp b1).1;rw [x2.l p (by omega) j a.1 a.2];exact x1.n j b0 v e
 ·exact x2.n j ((x2.act h2).mp hj).1 v e
def two_b {c1 c2:List (Jj)} {p mk1 mk2 lv s:Nat} {ow:List Nat} {O:Int->J6} {Rl Rr:Int->Res} (hS:Lx.E "save" Y3) (hB:Lx.S "bring" ZV) (p8:((p:Int)+1)*mi<=8) (p9:((p+1:Nat)+1:Int)*mi<=8) (m16:mk1<16) (d1:Zs Lx S LN L pl mn_ mi b code cs c1 p mk1 lv s ow O Rl) (d2:Zs Lx S LN L pl mn_ mi b code cs c2 p mk2 lv (s+1) ow O Rr) (h1:mk1<2+2*lv) (h2:mk2<2+2*lv) :
  XX Lx S LN L pl mn_ mi b code cs (c1++[[.str "save",.int s,.int p,.int mk1]]++c2++[[.str "bring",.int (p+1:Nat),.int s,.int mk1]]) p mk1 mk2 lv s (p+1) p ow O Rl Rr:=by
 intro k T M N i wf hN rw' o1 o2
 have el:(c1++[[V.str "save",V.int s,V.int p,V.int mk1]]++c2++[[V.str "bring",V.int (p+1:Nat),V.int s,V.int mk1]]).length=c1.length+1+c2.length+1:=by
  rw [Jf,Jf,Jf];rfl
 rw [el,Nat.add_mul,Nat.add_mul,Nat.add_mul,Nat.one_mul] at hN ⊢;generalize hW:wid mn_ (mi*L) b=W at hN ⊢;obtain ⟨n1,M1,T1,st1,i1,wf1,x1⟩:=d1 k T M N i wf (by rw [hW];omega) rw'.left.left.left o1;rw [hW] at wf1;obtain ⟨M2,T2,st2,i2,wf2,q2,m2,f2,nn2,si2,so2⟩:=i1.save (s:=s) (p:=p) (mk:=mk1) wf1 (by rw [hW];omega) hS p8 m16;rw [hW] at wf2;have r1:=rw'.left.left.right 0 _ rfl;have r2:=rw'.left.right;have r3:=rw'.right 0 _ rfl;rw [Nat.add_zero,Nat.add_assoc] at r1;rw [Jf] at r2;rw [Jf,Jf] at r3;have a2:∀ {m:Nat} {j:Int},j∈M2.act m↔j∈M1.act m:=λ{m j}=>act_iff q2.w (by rw [m2]) f2
 have o2':Own (mi*L) mk2 (s+1) ow O M2:=⟨λt ht=>by have:=o2.lo t ht;omega,λj hj i t e=>by
  have lt:=o2.lo t (List.mem_of_getElem? e);have a:=i2.low hj;rw [so2 t (by omega) j a.1 a.2,x1.s t lt j a.1 a.2];exact o2.at' j ((x1.act h2).mp (a2.mp hj)).1 i t e⟩
 have r2':RowsAt code (pl+(k+c1.length+1)) c2:=by
  rw [show pl+(k+c1.length+1)=pl+k+(c1.length+1) by omega];exact r2
 obtain ⟨n3,M3,T3,st3,i3,wf3,x3⟩:=d2 (k+c1.length+1) T2 M2 _ i2 wf2 (by rw [hW];omega) r2' o2';rw [hW] at wf3;obtain ⟨M4,T4,st4,i4,wf4,kp4,f4,n4,l4⟩:=i3.bring (s:=s) (p:=p+1) (mk:=mk1) wf3 (by rw [hW];omega) hB p9 m16;rw [hW] at wf4;have a4:∀ {m:Nat} {j:Int},j∈M4.act m↔j∈M3.act m:=λ{m j}=>act_iff kp4.w (by rw [kp4.mq]) f4;rw [show k+c1.length+1+c2.length+1=k+(c1.length+1+c2.length+1) by omega] at i4
 have r3':code[pl+(k+c1.length+1+c2.length)]?=some [.str "bring",.int (p+1:Nat),.int s,.int mk1]:=by
  rw [show pl+(k+c1.length+1+c2.length)=pl+k+(c1.length+1+c2.length)+0 by omega];exact r3
 have c4:M4.cells=M3.cells/\M4.lq=M3.lq:=⟨i4.cells.trans i3.cells.symm,i4.lq.trans i3.lq.symm⟩
 have s4:∀ t:Nat,∀ j:Int,M4.slotN (M4.sad t j)=M3.slotN (M3.sad t j):=λt j=>by
  unfold Mc.slotN Mc.sad;rw [kp4.slots,c4.1,c4.2]
 refine ⟨_,M4,T4,((st1.trans (i1.one r1 st2)).trans st3).trans (i3.one r3' st4),i4,wf4.mono (by omega),⟨((x1.q.trans q2).trans x3.q).trans kp4.q,λm hm=>?_,λj=>?_,λj hj v e=>?_,λj hj v e=>?_,λq hq j j0 j1=>?_,λt ht j j0 j1=>?_⟩⟩
 ·rw [kp4.mq,x3.m m hm,m2,x1.m m hm]
 ·rw [f4,x3.f,f2,x1.f]
  exact zc2 (a2.trans (x1.act h2))
 ·have a:=i4.low hj
  have b3:=a4.mp hj;have b2:=((x3.act h1).mp b3).1;have b1:=a2.mp b2;rw [n4 j b3,x3.s s (by omega) j a.1 a.2,si2 j b1];exact x1.n j ((x1.act h1).mp b1).1 v e
 ·have a:=i4.low hj
  rw [l4 p j (by omega) a.1 a.2];exact x3.n j ((x3.act h2).mp (a4.mp hj)).1 v e
 ·rw [l4 q j (by omega) j0 j1,x3.l q hq j j0 j1,nn2,x1.l q hq j j0 j1]
 ·rw [s4,x3.s t (by omega) j j0 j1,so2 t (by omega) j j0 j1,x1.s t ht j j0 j1]
def Two.act {side:Int} {p mk1 mk2 lv s a c:Nat} {Rl Rr:Int->Res} {M M':Mc} (h:Two side p mk1 mk2 lv s a c Rl Rr M M') {m:Nat} (hm:m<2+2*lv) {j:Int}:j∈M'.act m↔j∈M.act m/\¬ (j∈M.act mk1/\kd (Rl j)≠none)/\¬ (j∈M.act mk2/\kd (Rr j)≠none):=by
 rw [mem_act,mem_act (M:=M) (m:=m),h.q.w,h.m m hm,h.f];by_cases z1:j∈M.act mk1/\kd (Rl j)≠none
 ·obtain ⟨z,y⟩:=z1
  cases e:kd (Rl j) with
  | none=>exact absurd e y
  | some x =>
   rw [xJ (λw=>w.2 ⟨z,by simp⟩),XU z e];exact ⟨λw=>(by cases w.2.2.2),λw=>absurd ⟨z,by simp⟩ w.2.1⟩
 ·have e1:ZQ (j∈M.act mk1) (Rl j) (zO M.fq (.inl j))=zO M.fq (.inl j):=by
   by_cases y:j∈M.act mk1
   ·exact Yc (Classical.byContradiction λw=>z1 ⟨y,w⟩)
   ·exact xJ y
  rw [e1];by_cases z2:j∈M.act mk2/\kd (Rr j)≠none
  ·obtain ⟨z,y⟩:=z2
   cases e:kd (Rr j) with
   | none=>exact absurd e y
   | some x =>
    rw [XU ⟨z,z1⟩ e];exact ⟨λw=>(by cases w.2.2.2),λw=>absurd ⟨z,by simp⟩ w.2.2⟩
  ·have e2:ZQ (j∈M.act mk2/\¬ (j∈M.act mk1/\kd (Rl j)≠none)) (Rr j) (zO M.fq (.inl j))=zO M.fq (.inl j):=by
    by_cases y:j∈M.act mk2
    ·exact Yc (Classical.byContradiction λw=>z2 ⟨y,w⟩)
    ·exact xJ λw=>y w.1
   rw [e2];exact ⟨λw=>⟨w,z1,z2⟩,λw=>w.1⟩
theorem Xu (z:Str):∀ (js:J6) (fs:Jh) (j:Int),zO (Xh z fs js) (.inl j)=if j∈js then some (.str z) else zO fs (.inl j)
 | [],fs,j=>(if_neg (by simp)).symm
 | i::js,fs,j=>by
  show zO (Xh z (yL fs (.inl i) (.str z)) js) (.inl j)=_;rw [Xu z js,xU];by_cases h:j∈js
  ·rw [if_pos h,if_pos (q6y _ h)]
  ·rw [if_neg h]
   by_cases e:j=i
   ·rw [e,if_pos rfl,if_pos q6z]
   ·rw [if_neg (λy=>e (Sum.inl.inj y)),if_neg (λy=>(List.mem_cons.mp y).elim e h)]
theorem zd9 (z:Str):∀ (js:J6) {fs:Jh},ZP fs->ZP (Xh z fs js)
 | [],_,h=>h
 | j::js,_,h=>zd9 z js (zea h j _)
def Two.out {p mk lv s a c:Nat} {Rl Rr R:Int->Res} {z:Str} {bad:J6} {M M1 M2:Mc} (x:Two (mi*L) p mk mk lv s a c Rl Rr M M1) (hm:mk<2+2*lv) (kp:Kp M1 M2) (hc:M2.cells=M1.cells/\M2.lq=M1.lq) (hf:M2.fq=Xh z M1.fq bad) (hb:∀ j,j∈bad↔j∈M1.act mk/\kd (R j)≠none) (hz:∀ j∈M1.act mk,kd (R j)≠none->kd (R j)=some z)
  (hR1:∀ j,kd (Rl j)≠none->R j=Rl j) (hR2:∀ j,kd (Rl j)=none->kd (Rr j)≠none->R j=Rr j) (hn:∀ j∈M1.act mk,∀ v,R j=.ok v->M2.nq p j=v) (ho:∀ (p':Nat) (j:Int),p'≠p->0<=j->j<mi*L->M2.nq p' j=M1.nq p' j):Out (mi*L) p mk lv s R M M2:=by
 have act1:∀ j,j∈M1.act mk↔j∈M.act mk/\kd (Rl j)=none/\kd (Rr j)=none:=λj=>by
  rw [x.act hm];exact ⟨λ⟨a,b,c⟩=>⟨a,Classical.byContradiction λw=>b ⟨a,w⟩,Classical.byContradiction λw=>c ⟨a,w⟩⟩,λ⟨a,b,c⟩=>⟨a,λw=>w.2 b,λw=>w.2 c⟩⟩
 refine ⟨x.q.trans kp.q,λm hm=>by rw [kp.mq,x.m m hm],λj=>?_,λj hj v e=>?_,λq hq j j0 j1=>(ho q j (by omega) j0 j1).trans (x.l q hq j j0 j1),λt ht j j0 j1=>?_⟩
 ·rw [hf,Xu]
  by_cases hj:j∈M.act mk
  ·by_cases z1:kd (Rl j)=none
   ·by_cases z2:kd (Rr j)=none
    ·have a1:=(act1 j).mpr ⟨hj,z1,z2⟩
     by_cases z3:kd (R j)=none
     ·rw [if_neg (λw=>((hb j).mp w).2 z3),x.f,Yc z2,Yc z1,Yc z3]
     ·rw [if_pos ((hb j).mpr ⟨a1,z3⟩),XU hj (hz j a1 z3)]
    ·rw [if_neg (λw=>z2 ((act1 j).mp ((hb j).mp w).1).2.2),x.f,hR2 j z1 z2,Yc z1]
     exact zc2 ⟨λ_=>hj,λ_=>⟨hj,λw=>w.2 z1⟩⟩
   ·rw [if_neg (λw=>z1 ((act1 j).mp ((hb j).mp w).1).2.1),x.f,hR1 j z1,xJ (λw=>w.2 ⟨hj,z1⟩)]
  ·rw [if_neg (λw=>hj ((act1 j).mp ((hb j).mp w).1).1),x.f,xJ hj,xJ (λw=>hj w.1),xJ hj]
 ·refine hn j ((act1 j).mpr ⟨hj,?_,?_⟩) v e
  ·exact Classical.byContradiction λw=>by rw [hR1 j w] at e;rw [e] at w;exact w rfl
  ·refine Classical.byContradiction λw=>?_
   by_cases z1:kd (Rl j)=none
   ·rw [hR2 j z1 w] at e;rw [e] at w;exact w rfl
   ·rw [hR1 j z1] at e;rw [e] at z1;exact z1 rfl
 ·have e:M2.slotN (M2.sad t j)=M1.slotN (M1.sad t j):=by
   unfold Mc.slotN Mc.sad;rw [kp.slots,hc.1,hc.2]
  rw [e];exact x.s t ht j j0 j1
def ZW (sg:Str) (l r:Res):Res:=match l with
 | .ok a=>(match r with
  | .ok b=>(match doneR sg a b with
   | some n=>.ok n
   | none=>.nought)
  | e=>e)
 | e=>e
def does_pair {c:List (Jj)} {p mk lv s a c':Nat} {ow:List Nat} {O:Int->J6} {sg:Str} {Rl Rr:Int->Res} (hO:Lx.S "op" opM) (sgn:sg∈signs) (p8:((p:Int)+1)*mi<=8) (a8:((a:Int)+1)*mi<=8) (c8:((c':Int)+1)*mi<=8) (m16:mk<16) (hm:mk<2+2*lv) (d:XX Lx S LN L pl mn_ mi b code cs c p mk mk lv s a c' ow O Rl Rr)
  (kl:∀ j v,0<=j->b+j<mn_->Rl j=.ok v->Kin v) (kr:∀ j v,0<=j->b+j<mn_->Rr j=.ok v->Kin v) :
  Zs Lx S LN L pl mn_ mi b code cs (c++[[.str "op",.int p,.str sg,.int a,.int c',.int mk]]) p mk lv s ow O (λj=>ZW sg (Rl j) (Rr j)):=by
 intro k T M N i wf hN rw' own;rw [Jf,Nat.add_mul] at hN ⊢;have e1:([[V.str "op",.int p,.str sg,.int a,.int c',.int mk]].length:Nat)*wid mn_ (mi*L) b=wid mn_ (mi*L) b:=Nat.one_mul _;rw [e1] at hN ⊢;obtain ⟨n1,M1,T1,st1,i1,wf1,x⟩:=d k T M N i wf (by omega) rw'.left own own;have r2:=rw'.right 0 _ rfl;rw [Nat.add_zero,Nat.add_assoc] at r2
 have act1:∀ j∈M1.act mk,∃ v u,Rl j=.ok v/\Rr j=.ok u/\M1.nq a j=v/\M1.nq c' j=u/\Kin v/\Kin u:=λj hj=>by
  have w:=(x.act hm).mp hj;obtain ⟨v,ev⟩:=Xi (Classical.byContradiction λy=>w.2.1 ⟨w.1,y⟩);obtain ⟨u,eu⟩:=Xi (Classical.byContradiction λy=>w.2.2 ⟨w.1,y⟩);have mj:=i1.mem hj;exact ⟨v,u,ev,eu,x.n1 j hj v ev,x.n2 j hj u eu,kl j v mj.1 mj.2.2 ev,kr j u mj.1 mj.2.2 eu⟩
 obtain ⟨M2,st2,i2,⟨kp2,f2⟩,n2,o2⟩:=i1.op (p:=p) (q:=a) (r:=c') (m:=mk) (sg:=sg) (F:=λe=>M1.nq a (e-b)) (G:=λe=>M1.nq c' (e-b)) hO p8 a8 c8 m16 sgn (by have:=wf1.f;omega) (λj hj=>⟨by rw [show b+j-b=j by omega],by rw [show b+j-b=j by omega]⟩) (λj hj=>by
  obtain ⟨v,u,_,_,h1,h2,h3,h4⟩:=act1 j hj;rw [show b+j-b=j by omega,h1,h2];exact ⟨h3,h4⟩)
 have eb:∀ j:Int,b+j-b=j:=λj=>by omega
 simp only [eb] at f2 n2;have al:=i1.len mk;have bl:((M1.act mk).filter λj=>(doneR sg (M1.nq a j) (M1.nq c' j)).isNone).length<=(M1.act mk).length:=List.length_filter_le _ _
 have pr:∀ j∈M1.act mk,ZW sg (Rl j) (Rr j)=match doneR sg (M1.nq a j) (M1.nq c' j) with
   | some n=>.ok n
   | none=>.nought:=λj hj=>by
  obtain ⟨v,u,ev,eu,h1,h2,_,_⟩:=act1 j hj;rw [ev,eu,h1,h2];rfl
 refine ⟨_,M2,T1,st1.trans (i1.one r2 st2),by rw [← Nat.add_assoc];exact i2,⟨by have:=wf1.t;omega,?_,by have:=wf1.s;rw [kp2.slots];omega,by rw [f2];exact zd9 _ _ wf1.ik,λj hj=>?_,λk' v' e'=>wf1.so k' v' (by rw [kp2.slots] at e';exact e')⟩,?_⟩
 ·have:=zbu "nought" ((M1.act mk).filter λj=>(doneR sg (M1.nq a j) (M1.nq c' j)).isNone) M1.fq
  have:=wf1.f;rw [f2];omega
 ·rw [f2,Xu] at hj
  split at hj
  ·rename_i y
   exact (i1.low (List.mem_filter.mp y).1).1
  ·exact wf1.i0 j hj
 ·refine x.out (R:=λj=>ZW sg (Rl j) (Rr j)) hm kp2 ⟨i2.cells.trans i1.cells.symm,i2.lq.trans i1.lq.symm⟩ f2 (λj=>?_) (λj hj hk=>?_) (λj hk=>?_) (λj h1 h2=>?_) (λj hj v e=>?_) o2
  ·rw [List.mem_filter]
   constructor
   ·rintro ⟨h1,h2⟩
    refine ⟨h1,?_⟩;rw [pr j h1]
    cases e:doneR sg (M1.nq a j) (M1.nq c' j) with
    | none=>intro w;cases w
    | some v=>rw [e] at h2;cases h2
   ·rintro ⟨h1,h2⟩
    refine ⟨h1,?_⟩;rw [pr j h1] at h2
    cases e:doneR sg (M1.nq a j) (M1.nq c' j) with
    | none=>rfl
    | some v=>rw [e] at h2;exact absurd rfl h2
  ·have hk:kd (ZW sg (Rl j) (Rr j))≠none:=hk
   show kd (ZW sg (Rl j) (Rr j))=_;rw [pr j hj] at hk ⊢
   cases e:doneR sg (M1.nq a j) (M1.nq c' j) with
   | none=>rfl
   | some v=>rw [e] at hk;exact absurd rfl hk
  ·show ZW sg (Rl j) (Rr j)=_
   cases e:Rl j with
   | ok v=>rw [e] at hk;exact absurd rfl hk
   | nought=>rfl
   | outside=>rfl
  ·show ZW sg (Rl j) (Rr j)=_
   obtain ⟨v,ev⟩:=Xi h1;rw [ev]
   cases e:Rr j with
   | ok u=>rw [e] at h2;exact absurd rfl h2
   | nought=>rfl
   | outside=>rfl
  ·have e:ZW sg (Rl j) (Rr j)=.ok v:=e
   rw [pr j hj] at e
   cases ed:doneR sg (M1.nq a j) (M1.nq c' j) with
   | none=>rw [ed] at e;cases e
   | some u=>rw [ed] at e;cases e;exact n2 j hj _ ed
end
def sN:F2.Fm->Nat
 | .at' _ p=>sN p
 | .pair _ l r=>max (sN l) (1+sN r)
 | .cho t l r=>max (sN t) (max (sN l) (1+sN r))
 | _=>1
def hF:F2.Fm->Nat
 | .at' _ p=>hF p+1
 | .pair _ l r=>max (hF l) (hF r)+1
 | .cho t l r=>max (hF t) (max (hF l) (hF r))+1
 | _=>0
def cD:F2.Fm->Nat
 | .at' _ p=>cD p
 | .pair _ l r=>max (cD l) (cD r)
 | .cho t l r=>max (cD t) (max (cD l) (cD r)+1)
 | _=>0
def saveT (s p mk:Nat):Jj:=[.str "save",.int s,.int p,.int mk]
def bringT (p s mk:Nat):Jj:=[.str "bring",.int p,.int s,.int mk]
def opT (p:Nat) (sg:Str) (a c mk:Nat):Jj:=[.str "op",.int p,.str sg,.int a,.int c,.int mk]
def pickT (p a c m mk:Nat):Jj:=[.str "pick",.int p,.int a,.int c,.int m,.int mk]
def Yn (fits:Prop) [Decidable fits] (c1 c2 c2':List (Jj)) (p s mk:Nat):List (Jj):=if fits then c1++c2 else c1++[saveT s p mk]++c2'++[bringT (p+1) s mk]
def mkF (lens:J6) (se:Nat):F2.Fm->Nat->Nat->Nat->Nat->List (Jj)
 | .num n,p,mk,_,_=>[[.str "number",.int p,.int n,.int mk]]
 | .here,p,mk,_,_=>[[.str "here",.int p,.int mk]]
 | .cell r,p,mk,_,_=>[if lens.getD r.toNat 0=1 then [.str "spread",.int p,.int r,.int mk] else [.str "load",.int p,.int r,.int mk]]
 | .shi r d o,p,mk,_,_=>[[.str "shift",.int p,.int r,.int d,.int o,.int mk]]
 | .at' r f,p,mk,lv,s=>mkF lens se f p mk lv s++[[.str "gather",.int p,.int p,.int r,.int mk]]
 | .pair sg l r,p,mk,lv,s=>Yn (p+1+sN r<=se) (mkF lens se l p mk lv s) (mkF lens se r (p+1) mk lv s) (mkF lens se r p mk lv (s+1)) p s mk++[if p+1+sN r<=se then opT p sg p (p+1) mk else opT p sg (p+1) p mk]
 | .cho t l r,p,mk,lv,s=>mkF lens se t p mk lv s++[[.str "choose",.int (2+2*lv:Nat),.int p,.int mk],[.str "other",.int (3+2*lv:Nat),.int p,.int mk]]++Yn (p+1+sN r<=se) (mkF lens se l p (2+2*lv) (lv+1) s) (mkF lens se r (p+1) (3+2*lv) (lv+1) s) (mkF lens se r p (3+2*lv) (lv+1) (s+1)) p s (2+2*lv)++[if p+1+sN r<=se then pickT p p (p+1) (2+2*lv) mk else pickT p (p+1) p (2+2*lv) mk]
 | _,_,_,_,_=>[]
def Fit:F2.Fm->Prop
 | .num _=>True
 | .cell _=>True
 | .here=>True
 | .pair _ l r=>Fit l/\Fit r
 | _=>False
theorem Yq:∀ F:F2.Fm,1<=sN F
 | .num _=>Nat.le_refl _
 | .here=>Nat.le_refl _
 | .cell _=>Nat.le_refl _
 | .shi _ _ _=>Nat.le_refl _
 | .loc _=>Nat.le_refl _
 | .call _ _=>Nat.le_refl _
 | .at' _ p=>Yq p
 | .pair _ l r=>by have:=Yq l;show 1<=max (sN l) (1+sN r);omega
 | .cho t l r=>by have:=Yq t;show 1<=max (sN t) (max (sN l) (1+sN r));omega
abbrev Yh (LN cs:J6) (O:Int->J6) (b j:Int):SpotD:=⟨LN,cs,b+j,O j⟩
structure LxF (Lx:Lex):Prop where
 num:Lx.S "number" numM
 here:Lx.S "here" hereM
 load:Lx.S "load" YK
 spr:Lx.S "spread" Za
 op:Lx.S "op" opM
 save:Lx.E "save" Y3
 bring:Lx.S "bring" ZV
structure RowsOk (LN cs:J6) (mn_ mi b:Int) (L se:Nat):Prop where
 b0:0<=b
 m1:1<=mn_
 g:mi=1∨mi=2∨mi=4
 se:(se:Int)*mi=8
 bm:b<mn_
section
variable {Lx:Lex} {LN:J6} {L pl se:Nat} {mn_ mi b:Int} {code:List (Jj)} {cs:J6}
def RowsOk.p8 (h:RowsOk LN cs mn_ mi b L se) {p:Nat} (hp:p+1<=se):((p:Int)+1)*mi<=8:=by
 have g:0<=mi:=by have:=h.g;omega
 rw [← h.se];exact Int.mul_le_mul_of_nonneg_right (by omega) g
def cell_room {r:Int} {O:Int->J6} {fs:List F2.Fn} {kk:Nat} (h:RowsOk LN cs mn_ mi b L se) (hw:∀ j,0<=b+j->b+j<mn_->F2.WF fs kk (Yh LN cs O b j) (.cell r)/\FM.SpotOk (Yh LN cs O b j)):∃ n:Nat,r=n/\n<LN.length/\0<=(zE LN).getD n 0/\(zE LN).getD n 0<cs.length/\(LN.getD n 0≠1->(zE LN).getD n 0+mn_<=cs.length):=by
 have m1:=h.m1;obtain ⟨w,o⟩:=hw (mn_-1-b) (by omega) (by omega);obtain ⟨⟨r0,r1⟩,l1,pl'⟩:=w;have r1:r.toNat<LN.length:=r1;have l1:1<=LN.getD r.toNat 0:=l1;refine ⟨r.toNat,by omega,r1,?_⟩;rw [Yv r1];have tot:(cs.length:Int)=LN.sum:=o.tot;have rr:=zdo (ns:=LN) (r:=r.toNat) (m:=LN.getD r.toNat 0) o.ln r1 (Int.le_refl _);refine ⟨rr.1,by omega,λz=>?_⟩;have:=(pl' z).2;have:b+(mn_-1-b)<LN.getD r.toNat 0:=this;omega
def exec_cell {O:Int->J6} {r:Int} {fs:List F2.Fn} {kk:Nat} {cl:Int->Int->J6->Res} {p mk lv s:Nat} {ow:List Nat} (lx:LxF Lx) (h:RowsOk LN cs mn_ mi b L se) (hw:∀ j,0<=b+j->b+j<mn_->F2.WF fs kk (Yh LN cs O b j) (.cell r)/\FM.SpotOk (Yh LN cs O b j)) (p8:((p:Int)+1)*mi<=8) (m16:mk<16):Zs Lx (zE LN) LN L pl mn_ mi b code cs (mkF LN se (.cell r) p mk lv s) p mk lv s ow O (λj=>F2.ev (cl j) (Yh LN cs O b j) (.cell r)):=by
 obtain ⟨n,rfl,r1,s0,s1,sm⟩:=cell_room h hw;have es:=Yv r1;show Zs Lx (zE LN) LN L pl mn_ mi b code cs [if LN.getD (n:Int).toNat 0=1 then _ else _] _ _ _ _ _ _ (λj=>if LN.getD (n:Int).toNat 0=1 then .ok (cs.getD ((LN.take (n:Int).toNat).sum+0).toNat 0) else .ok (cs.getD ((LN.take (n:Int).toNat).sum+(b+j)).toNat 0));rw [q0z,← es];by_cases z:LN.getD n 0=1
 ·rw [if_pos z]
  simp only [if_pos z,Int.add_zero];exact zee lx.spr p8 m16 (by rw [YO];exact r1) ⟨s0,s1⟩
 ·rw [if_neg z]
  simp only [if_neg z];exact does_load lx.load p8 m16 (by rw [YO];exact r1) h.b0 ⟨s0,sm z⟩
def exec_two {fl fr:F2.Fm} {O:Int->J6} {p mk1 mk2 lv s:Nat} {ow:List Nat} {Rl Rr:Int->Res} (lx:LxF Lx) (h:RowsOk LN cs mn_ mi b L se) (p2:p+2<=se) (m1:mk1<2+2*lv) (m2:mk2<2+2*lv) (l7:lv<=7) (d1:Zs Lx (zE LN) LN L pl mn_ mi b code cs (mkF LN se fl p mk1 lv s) p mk1 lv s ow O Rl) (d2:∀ p' s',p'+min 2 (sN fr)<=se->Zs Lx (zE LN) LN L pl mn_ mi b code cs (mkF LN se fr p' mk2 lv s') p' mk2 lv s' ow O Rr) :
  ∃ a c,(a+1<=se/\c+1<=se)/\(a,c)=(if p+1+sN fr<=se then (p,p+1) else (p+1,p))/\XX Lx (zE LN) LN L pl mn_ mi b code cs (Yn (p+1+sN fr<=se) (mkF LN se fl p mk1 lv s) (mkF LN se fr (p+1) mk2 lv s) (mkF LN se fr p mk2 lv (s+1)) p s mk1) p mk1 mk2 lv s a c ow O Rl Rr:=by
 unfold Yn;by_cases z:p+1+sN fr<=se
 ·rw [if_pos z,if_pos z]
  exact ⟨p,p+1,⟨by omega,by omega⟩,rfl,two_a d1 (d2 (p+1) s (by omega)) m1 m2⟩
 ·rw [if_neg z,if_neg z]
  exact ⟨p+1,p,⟨by omega,by omega⟩,rfl,two_b lx.save lx.bring (h.p8 (by omega)) (h.p8 (by omega)) (by omega) d1 (d2 p (s+1) (by omega)) m1 m2⟩
theorem exec {O:Int->J6} {fs:List F2.Fn} {kk:Nat} {cl:Int->Int->J6->Res} (lx:LxF Lx) (h:RowsOk LN cs mn_ mi b L se) (hk:∀ j,0<=b+j->b+j<mn_->∀ (a:Int) l n,0<=a->a.toNat<kk->a.toNat<fs.length->l.length=F2.handsOf fs a->(∀ v∈l,Kin v)->cl j a l=.ok n->Kin n):∀ (F:F2.Fm) (p mk lv s:Nat) (ow:List Nat),Fit F->mk<2+2*lv->lv+cD F<=7->p+min 2 (sN F)<=se->(∀ j,0<=b+j->b+j<mn_->F2.WF fs kk (Yh LN cs O b j) F/\FM.SpotOk (Yh LN cs O b j))->Zs Lx (zE LN) LN L pl mn_ mi b code cs (mkF LN se F p mk lv s) p mk lv s ow O (λj=>F2.ev (cl j) (Yh LN cs O b j) F)
 | .num n,p,mk,lv,s,ow,_,hm,hl,hp,_=>does_num lx.num (h.p8 (by have:=Yq (.num n);omega)) (by omega)
 | .here,p,mk,lv,s,ow,_,hm,hl,hp,_=>does_here lx.here (h.p8 (by have:=Yq .here;omega)) (by omega)
 | .cell r,p,mk,lv,s,ow,_,hm,hl,hp,hw=>exec_cell lx h hw (h.p8 (by have:=Yq (.cell r);omega)) (by omega)
 | .pair sg l r,p,mk,lv,s,ow,hf,hm,hl,hp,hw=>by
  have e1:cD (.pair sg l r)=max (cD l) (cD r):=rfl;have e2:sN (.pair sg l r)=max (sN l) (1+sN r):=rfl;rw [e1] at hl;rw [e2] at hp;have l1:=Yq l;have r1:=Yq r;have b0:=h.b0;have hwl:∀ j,0<=b+j->b+j<mn_->F2.WF fs kk (Yh LN cs O b j) l/\FM.SpotOk (Yh LN cs O b j):=λj a c=>⟨(hw j a c).1.2.1,(hw j a c).2⟩;have hwr:∀ j,0<=b+j->b+j<mn_->F2.WF fs kk (Yh LN cs O b j) r/\FM.SpotOk (Yh LN cs O b j):=λj a c=>⟨(hw j a c).1.2.2,(hw j a c).2⟩;have d1:=exec lx h hk l p mk lv s ow hf.1 hm (by omega) (by omega) hwl;obtain ⟨a,c,⟨a1,c1⟩,eac,d⟩:=exec_two (fl:=l) (fr:=r) (mk1:=mk) (mk2:=mk) lx h (by omega) hm hm (by omega) d1 (λp' s' hp'=>exec lx h hk r p' mk lv s' ow hf.2 hm (by omega) hp' hwr);have bm:=h.bm;have dp:=does_pair (sg:=sg) lx.op (hw 0 (by omega) (by omega)).1.1 (h.p8 (p:=p) (by omega)) (h.p8 a1) (h.p8 c1) (by omega) hm d (λj v j0 jm e=>F2.ev_kin (hwl j (by omega) jm).2 (hk j (by omega) jm) (hwl j (by omega) jm).1 e) (λj v j0 jm e=>F2.ev_kin (hwr j (by omega) jm).2 (hk j (by omega) jm) (hwr j (by omega) jm).1 e);show Zs _ _ _ _ _ _ _ _ _ _ (Yn _ _ _ _ _ _ _++[if p+1+sN r<=se then opT p sg p (p+1) mk else opT p sg (p+1) p mk]) _ _ _ _ _ _ _
  have eo:(if p+1+sN r<=se then opT p sg p (p+1) mk else opT p sg (p+1) p mk)=opT p sg a c mk:=by
   by_cases z:p+1+sN r<=se
   ·rw [if_pos z] at eac ⊢;cases eac;rfl
   ·rw [if_neg z] at eac ⊢;cases eac;rfl
  rw [eo];exact dp
end
inductive ERes
 | pass
 | val (v:Int)
 | bad (z:Str)
def ERes.of:Res->ERes
 | .ok v=>.val v
 | .nought=>.bad "nought"
 | .outside=>.bad "outside"
def eOut (t:Option Res) (v:Res):ERes:=match t with
 | none=>.of v
 | some (.ok a)=>if a=0 then .pass else .of v
 | some e=>.of e
def ERes.flt:ERes->Jk
 | .bad z=>some (.str z)
 | _=>none
def ERes.isBad:ERes->Bool
 | .bad _=>true
 | _=>false
structure Laid (S LN:J6) (L pl:Nat) (mn_ mi b:Int) (mk k N:Nat) (E:Int->ERes) (cs:J6) (T:List Tch) (M0 M:Mc):Prop where
 i:InS S LN L pl mn_ mi b k (cs,T) M
 wf:Wf N T M
 q:Kq M0 M
 f:∀ j:Int,zO M.fq (.inl j)=if 0<=j/\j<wid mn_ (mi*L) b then (E j).flt else none
 a:∀ j:Int,j∈M.act mk↔(0<=j/\j<wid mn_ (mi*L) b)/\∃ v,E j=.val v
 n:∀ j∈M.act mk,∀ v,E j=.val v->M.nq 0 j=v
theorem of_flt (r:Res) (old:Jk):(match kd r with
 | some z=>some (V.str z)
 | none=>none)=(ERes.of r).flt:=by cases r <;> rfl
def zcr {side:Int} {mk s:Nat} {O:Int->J6} {M:Mc}:Own side mk s [] O M:=⟨λt ht=>absurd ht List.not_mem_nil,λj _ i t e=>by cases e⟩
def mem_upto_iff {n:Nat} {j:Int}:j∈Zr n↔0<=j/\j<n:=by
 unfold Zr;rw [List.mem_map];constructor
 ·rintro ⟨i,hi,rfl⟩
  have:=List.mem_range.mp hi;show 0<=(i:Int)/\(i:Int)<n;omega
 ·rintro ⟨h0,h1⟩
  exact ⟨j.toNat,List.mem_range.mpr (by omega),by show (j.toNat:Int)=j;omega⟩
def InS.choose2 {S LN:J6} {L pl k:Nat} {mn_ mi b:Int} {s:DT} {M:Mc} {Lx:Lex} {word:Str} {nought:Bool} {m p k':Nat} (h:InS S LN L pl mn_ mi b k s M) (hS:Lx.E word (xS nought)) (p8:((p:Int)+1)*mi<=8) (m16:m<16) (k16:k'<16) :
  ∃ M',Step Lx [.str word,.int m,.int p,.int k'] M M'/\InS S LN L pl mn_ mi b (k+1) s M'/\Kq M M'/\M'.fq=M.fq/\M'.slots=M.slots/\(∀ m',m'≠m->M'.mq.getD m' []=M.mq.getD m' [])/\M'.act m=M.chosen p k' nought/\(∀ (p':Nat) (j:Int),M'.nq p' j=M.nq p' j):=by
 have e:xS nought [.str word,.int m,.int p,.int k'] M=some (M.laidMask m (M.chosen p k' nought)):=by
  unfold xS;show (if _ then _ else _)=_;rw [if_pos ⟨by omega,by omega,by omega,by rw [h.group];exact p8,by omega,by omega⟩];rfl
 obtain ⟨a,o⟩:=laid_act (k:=k') h.ok m16 λj=>decide (decide (M.nq p j=0)=nought);refine ⟨_,Step.eff hS rfl e h.ok,⟨{o with},h.wle,h.bq,h.base,?_,h.oq,h.mn_,h.group,h.lq,h.rf,h.starts,h.lens,h.cells,h.tq⟩,⟨rfl,rfl,rfl,rfl,rfl,rfl,rfl⟩,rfl,rfl,λm' ne=>?_,a,λ_ _=>rfl⟩
 ·show M.pc+1=_
  rw [h.pc];omega
 ·show (M.mq.set m _).getD m' []=_
  rw [q6x,List.getElem?_set_ne (Ne.symm ne),← q6x]
section
variable {Lx:Lex} {S LN:J6} {L pl:Nat} {mn_ mi b:Int} {code:List (Jj)} {cs:J6}
def zff {c:List (Jj)} {Rv:Int->Res} {T:List Tch} {M:Mc} {N:Nat} (h:StripAt S LN L pl mn_ mi b (cs,T) M) (wf:Wf N T M) (hN:N+c.length*wid mn_ (mi*L) b<=80000) (hc:RowsAt code (pl+1) c) (d:Zs Lx S LN L pl mn_ mi b code cs c 0 0 0 0 [] (λ_=>[]) Rv) :
  ∃ n M' T',Steps Lx code n M M'/\Laid S LN L pl mn_ mi b 0 (1+c.length) (N+c.length*wid mn_ (mi*L) b) (λj=>eOut none (Rv j)) cs T' M M':=by
 obtain ⟨n,M',T',st,i',wf',x⟩:=d 1 T M N h.i wf hN hc zcr;refine ⟨n,M',T',st,i',wf',x.q,λj=>?_,λj=>?_,λj hj v e=>?_⟩
 ·rw [x.f,h.flt,h.act]
  by_cases z:0<=j/\j<wid mn_ (mi*L) b
  ·rw [if_pos z]
   unfold ZQ;rw [if_pos (mem_upto_iff.mpr z)];exact of_flt (Rv j) none
  ·rw [if_neg z,xJ (λw=>z (mem_upto_iff.mp w))];rfl
 ·rw [x.actS (by decide),h.act,mem_upto_iff]
  refine and_congr_right λ_=>?_;show _↔∃ v,ERes.of (Rv j)=_
  cases Rv j with
  | ok v=>exact ⟨λ_=>⟨v,rfl⟩,λ_=>rfl⟩
  | nought=>exact ⟨λw=>(by cases w),λ⟨v,w⟩=>(by cases w)⟩
  | outside=>exact ⟨λw=>(by cases w),λ⟨v,w⟩=>(by cases w)⟩
 ·have a0:=((x.actS (by decide)).mp hj).1
  have e:ERes.of (Rv j)=.val v:=e;refine x.n j a0 v ?_
  cases er:Rv j with
  | ok u=>rw [er] at e;cases e;rfl
  | nought=>rw [er] at e;cases e
  | outside=>rw [er] at e;cases e
def laid_test {ct cv:List (Jj)} {Rt Rv:Int->Res} {T:List Tch} {M:Mc} {N:Nat} (hC:Lx.E "choose" (xS false)) (p8:((0:Nat)+1:Int)*mi<=8) (h:StripAt S LN L pl mn_ mi b (cs,T) M) (wf:Wf N T M) (hN:N+(ct.length+1+cv.length)*wid mn_ (mi*L) b<=80000) (hc:RowsAt code (pl+1) (ct++[[.str "choose",.int 1,.int 0,.int 0]]++cv)) (dt:Zs Lx S LN L pl mn_ mi b code cs ct 0 0 0 0 [] (λ_=>[]) Rt) (dv:Zs Lx S LN L pl mn_ mi b code cs cv 0 1 0 0 [] (λ_=>[]) Rv) :
  ∃ n M' T',Steps Lx code n M M'/\Laid S LN L pl mn_ mi b 1 (1+(ct.length+1+cv.length)) (N+(ct.length+1+cv.length)*wid mn_ (mi*L) b) (λj=>eOut (some (Rt j)) (Rv j)) cs T' M M':=by
 rw [Nat.add_mul,Nat.add_mul,Nat.one_mul] at hN ⊢;obtain ⟨n1,M1,T1,st1,i1,wf1,x1⟩:=dt 1 T M N h.i wf (by omega) hc.left.left zcr;have r2:=hc.left.right 0 _ rfl;rw [Nat.add_zero,Nat.add_assoc] at r2;obtain ⟨M2,st2,i2,q2,f2,s2,m2,a2,n2⟩:=i1.choose2 (m:=1) (p:=0) (k':=0) hC p8 (by decide) (by decide);have r3:=hc.right;rw [Jf] at r3
 have r3':RowsAt code (pl+(1+ct.length+1)) cv:=by
  rw [show pl+(1+ct.length+1)=pl+1+(ct.length+1) by omega];exact r3
 have wf2:Wf (N+ct.length*wid mn_ (mi*L) b) T1 M2:=⟨wf1.t,by rw [f2];exact wf1.f,by rw [s2];exact wf1.s,by rw [f2];exact wf1.ik,λj hj=>wf1.i0 j (by rw [f2] at hj;exact hj),λk' v' e'=>wf1.so k' v' (by rw [s2] at e';exact e')⟩;obtain ⟨n3,M3,T3,st3,i3,wf3,x3⟩:=dv (1+ct.length+1) T1 M2 _ i2 wf2 (by omega) r3' zcr
 have act2:∀ j,j∈M2.act 1↔(0<=j/\j<wid mn_ (mi*L) b)/\∃ v,Rt j=.ok v/\v≠0:=λj=>by
  rw [a2];unfold Mc.chosen;rw [List.mem_filter,x1.actS (by decide),h.act,mem_upto_iff];constructor
  ·rintro ⟨⟨hj,hk⟩,hz⟩
   obtain ⟨v,ev⟩:=Xi hk;have:=x1.n j (by rw [h.act];exact mem_upto_iff.mpr hj) v ev;rw [this] at hz;exact ⟨hj,v,ev,λy=>by rw [y] at hz;exact absurd hz (by decide)⟩
  ·rintro ⟨hj,v,ev,hz⟩
   have:=x1.n j (by rw [h.act];exact mem_upto_iff.mpr hj) v ev;rw [this];exact ⟨⟨hj,by rw [ev];rfl⟩,by rw [decide_eq_false hz];rfl⟩
 refine ⟨_,M3,T3,(st1.trans (i1.one r2 st2)).trans st3,by rw [show 1+(ct.length+1+cv.length)=1+ct.length+1+cv.length by omega];exact i3,wf3.mono (by omega),(x1.q.trans q2).trans x3.q,λj=>?_,λj=>?_,λj hj v e=>?_⟩
 ·rw [x3.f,f2,x1.f,h.flt,h.act]
  by_cases z:0<=j/\j<wid mn_ (mi*L) b
  ·rw [if_pos z]
   unfold ZQ;rw [if_pos (mem_upto_iff.mpr z)]
   cases et:Rt j with
   | ok v =>
    by_cases y:v=0
    ·rw [if_neg (λw=>by obtain ⟨_,u,eu,nu⟩:=(act2 j).mp w;rw [et] at eu;cases eu;exact nu y)]
     show none=(if v=0 then ERes.pass else ERes.of (Rv j)).flt;rw [if_pos y];rfl
    ·rw [if_pos ((act2 j).mpr ⟨z,v,et,y⟩)]
     show _=(if v=0 then ERes.pass else ERes.of (Rv j)).flt;rw [if_neg y];exact of_flt (Rv j) none
   | nought=>rw [if_neg (λw=>by obtain ⟨_,u,eu,nu⟩:=(act2 j).mp w;rw [et] at eu;cases eu)];rfl
   | outside=>rw [if_neg (λw=>by obtain ⟨_,u,eu,nu⟩:=(act2 j).mp w;rw [et] at eu;cases eu)];rfl
  ·rw [if_neg z,xJ (λw=>z ((act2 j).mp w).1),xJ (λw=>z (mem_upto_iff.mp w))];rfl
 ·rw [x3.actS (by decide),act2]
  constructor
  ·rintro ⟨⟨hj,u,eu,nu⟩,hk⟩
   obtain ⟨v,ev⟩:=Xi hk;refine ⟨hj,v,?_⟩;show eOut (some (Rt j)) (Rv j)=_;rw [eu,ev];show (if u=0 then ERes.pass else _)=_;rw [if_neg nu];rfl
  ·rintro ⟨hj,v,e⟩
   have e:eOut (some (Rt j)) (Rv j)=.val v:=e
   cases et:Rt j with
   | ok u =>
    rw [et] at e;have e:(if u=0 then ERes.pass else ERes.of (Rv j))=.val v:=e;by_cases y:u=0
    ·rw [if_pos y] at e;cases e
    ·rw [if_neg y] at e
     refine ⟨⟨hj,u,rfl,y⟩,?_⟩
     cases er:Rv j with
     | ok w=>rfl
     | nought=>rw [er] at e;cases e
     | outside=>rw [er] at e;cases e
   | nought=>rw [et] at e;cases e
   | outside=>rw [et] at e;cases e
 ·have a0:=((x3.actS (by decide)).mp hj).1
  have e:eOut (some (Rt j)) (Rv j)=.val v:=e;obtain ⟨_,u,eu,nu⟩:=(act2 j).mp a0;rw [eu] at e;have e:(if u=0 then ERes.pass else ERes.of (Rv j))=.val v:=e;rw [if_neg nu] at e;refine x3.n j a0 v ?_
  cases er:Rv j with
  | ok w=>rw [er] at e;cases e;rfl
  | nought=>rw [er] at e;cases e
  | outside=>rw [er] at e;cases e
end
structure Rs (us:List (Int×Int)) (rs:Bool) (pk:J6) (N:Nat) (T:List Tch) (M:Mc):Prop where
 t:T.length<=N
 s:M.slots.length<=N
 so:SlotsOk M
 r:M.raised=rs
 u:M.turns=us
 p:M.picks=pk
def round_run {Lx:Lex} (hB:Lx.W "begin" zc4) (hX:Lx.W "next" nextW) {code:List (Jj)} {S LN:J6} {L pl n NS N0 D:Nat} {mn_ mi:Int} {us:List (Int×Int)} {rs:Bool} {pk:J6} {U:Nat->J6} {C:Nat->Option Int} {Z:Nat->Prop} {Fin:Mc->Prop} {T:List Tch} {M:Mc} (h:RestAt S LN L pl (U 0,T) M) (hx:Rs us rs pk N0 T M) (C0:C 0=none) (Z0:Z 0) (hg:mi=1∨mi=2∨mi=4) (h1:1<=mn_)
  (c0:code[pl]?=some [.str "begin",.int mn_,.int mi]) (c3:code[pl+(n+1)]?=some [.str "next"]) (hN:∀ i:Nat,i<NS↔(i:Int)*(mi*L)<mn_)
  (go:∀ (i:Nat) (T:List Tch) (M:Mc),i<NS->StripAt S LN L pl mn_ mi (i*(mi*L)) (U i,T) M->Rs us rs pk (N0+i*D) T M->M.cq=C i->Z i->(∃ k M' T',Steps Lx code k M M'/\InS S LN L pl mn_ mi (i*(mi*L)) (n+1) (U (i+1),T') M'/\Rs us rs pk (N0+(i+1)*D) T' M'/\M'.cq=C (i+1)/\Z (i+1))∨(∃ k M',Steps Lx code k M M'/\Fin M')) :
  (∃ k M' T',Steps Lx code k M M'/\RestAt S LN L (pl+(n+2)) (U NS,T') M'/\Rs us rs pk (N0+NS*D) T' M'/\Z NS)∨(∃ k M',Steps Lx code k M M'/\Fin M'):=by
 have l1:=h.ok.l1;have hL:=h.lq;have sd:1<=mi*(L:Int):=by rcases hg with e | e | e <;> rw [e] <;> omega
 have N1:0<NS:=(hN 0).mpr (by omega);have low:∀ i:Nat,(0:Int)<=i*(mi*L):=λi=>Int.mul_nonneg (by omega) (by omega);have sc:∀ i:Nat,((i+1:Nat):Int)*(mi*L)=i*(mi*L)+mi*L:=λi=>by rw [Int.natCast_add,Int.add_mul];show _+1*(mi*(L:Int))=_;rw [Int.one_mul]
 have at_i:∀ i:Nat,i<NS->(∃ k M' T',Steps Lx code k M M'/\StripAt S LN L pl mn_ mi (i*(mi*L)) (U i,T') M'/\Rs us rs pk (N0+i*D) T' M'/\M'.cq=C i/\Z i)∨(∃ k M',Steps Lx code k M M'/\Fin M'):=by
  intro i
  induction i with
  | zero =>
   intro _;left;have st:Step Lx [.str "begin",.int mn_,.int mi] M { M.round mn_ mi with pc:=M.pc+1 }:=Step.way (L:=Lx) (word:="begin") hB rfl ⟨mn_,mi,rfl,rfl,h.ok,hg,by omega,rfl,rfl⟩;have sa:StripAt S LN L pl mn_ mi 0 (U 0,T) { ({ M with oq:=M.pc,mn_:=mn_,group:=mi,cq:=none }:Mc).strip 0 with pc:=pl+1 }:=X3 ⟨h.ok.l1,h.ok.l64,h.ok.nl,h.ok.ml,h.ok.mm⟩ hg rfl rfl h.lq h.pc (by omega) h.rf h.starts h.lens h.cells h.tq;rw [h.pc] at st;refine ⟨1,_,T,.cons (by rw [h.pc];omega) h.rf (by rw [h.pc,q0z];exact c0) st .refl,?_,⟨by have:=hx.t;omega,by have:=hx.s;show M.slots.length<=_;omega,hx.so,hx.r,hx.u,hx.p⟩,C0.symm,Z0⟩;have e:((0:Nat):Int)*(mi*L)=0:=by omega
   rw [e];unfold Mc.round;rw [h.pc] at sa ⊢;exact sa
  | succ i ih =>
   intro hi;rcases ih (by omega) with ⟨k,M1,T1,st,sa,ii,cc,zz⟩ | w
   rotate_left
   ·exact .inr w
   have hi1:=(hN (i+1)).mp hi;rw [sc] at hi1;have hl:=low i;have hw:wid mn_ (mi*L) (i*(mi*L))=(mi*(L:Int)).toNat:=by unfold wid;omega
   rcases go i T1 M1 (by omega) sa ii cc zz with ⟨k2,M2,T2,st2,e2,i2,c2,z2⟩ | ⟨k2,M2,st2,fi⟩
   rotate_left
   ·exact .inr ⟨_,M2,st.trans st2,fi⟩
   left;have bb:M2.base+M2.bq=((i+1:Nat):Int)*(mi*L):=by rw [sc,e2.base,e2.bq,hw];omega
   have st3:Step Lx [.str "next"] M2 { M2.strip (((i+1:Nat):Int)*(mi*L)) with pc:=(pl:Int)+1 }:=Step.way (L:=Lx) (word:="next") hX rfl (by
    refine ⟨e2.ok.zero,by rw [e2.group];exact hg,?_⟩;rw [bb,if_pos (by rw [e2.mn_,sc];exact hi1),e2.oq];exact ⟨rfl,rfl⟩)
   refine ⟨k+k2+1,_,T2,(st.trans st2).trans (e2.one c3 st3),?_,⟨i2.t,i2.s,i2.so,i2.r,i2.u,i2.p⟩,c2,z2⟩;exact X3 e2.ok.zero hg e2.group e2.mn_ e2.lq e2.oq (by rw [sc];omega) e2.rf e2.starts e2.lens e2.cells e2.tq
 rcases at_i (NS-1) (by omega) with ⟨k,M1,T1,st,sa,ii,cc,zz⟩ | w
 rotate_left
 ·exact .inr w
 have hi0:=(hN (NS-1)).mp (by omega);have hi1:¬ ((NS-1+1:Nat):Int)*(mi*L)<mn_:=λz=>by have:=(hN (NS-1+1)).mpr z;omega
 rw [sc] at hi1;have hl:=low (NS-1);have hw:(wid mn_ (mi*L) ((NS-1:Nat)*(mi*L)):Int)=mn_-(NS-1:Nat)*(mi*L):=by unfold wid;omega
 rcases go (NS-1) T1 M1 (by omega) sa ii cc zz with ⟨k2,M2,T2,st2,e2,i2,_,z2⟩ | ⟨k2,M2,st2,fi⟩
 rotate_left
 ·exact .inr ⟨_,M2,st.trans st2,fi⟩
 left
 have st3:Step Lx [.str "next"] M2 { M2 with pc:=((pl+(n+2):Nat):Int) }:=by
  refine Step.way (L:=Lx) (word:="next") hX rfl ?_;refine ⟨e2.ok.zero,by rw [e2.group];exact hg,?_⟩;rw [if_neg (by rw [e2.base,e2.bq,e2.mn_];omega),e2.pc];exact ⟨rfl,by omega⟩
 have eN:NS=NS-1+1:=by omega
 refine ⟨k+k2+1,_,T2,(st.trans st2).trans (e2.one c3 st3),?_,by rw [eN];exact ⟨i2.t,i2.s,i2.so,i2.r,i2.u,i2.p⟩,by rw [eN];exact z2⟩;rw [eN];exact ⟨⟨e2.ok.l1,e2.ok.l64,e2.ok.nl,e2.ok.ml,e2.ok.mm⟩,e2.lq,e2.rf,e2.starts,e2.lens,rfl,e2.cells,e2.tq⟩
def ERes.isVal:ERes->Bool
 | .val _=>true
 | _=>false
def ERes.num:ERes->Int
 | .val v=>v
 | _=>0
def yj (st:Int) (g:Nat->ERes) (m:Nat):List (Int×Int):=((List.range m).filter λe=>(g e).isVal).map λe:Nat=>(st+(e:Int),(g e).num)
def zeq (st:Int) (g:Nat->ERes) (m c:Nat):yj st g (m+c)=yj st g m++(((List.range c).filter λi=>(g (m+i)).isVal).map λi:Nat=>(st+((m+i:Nat):Int),(g (m+i)).num)):=by
 unfold yj;rw [List.range_add,List.filter_append,Jg,List.filter_map,List.map_map];rfl
theorem Xc (q:Nat->Bool):∀ {n c:Nat},c<=n->(List.range n).filter (λi=>decide (i<c) && q i)=(List.range c).filter q
 | 0,c,h=>by rw [show c=0 by omega];rfl
 | n+1,c,h=>by
  rw [List.range_succ,List.filter_append];by_cases z:c<=n
  ·rw [Xc q z,List.filter_cons_of_neg (by rw [decide_eq_false (by omega),Bool.false_and];exact Bool.noConfusion)]
   exact q8y _
  ·have e:c=n+1:=by omega
   subst e;rw [List.range_succ,List.filter_append];congr 1
   ·exact List.filter_congr λi hi=>by rw [decide_eq_true (show i<n+1 by have:=List.mem_range.mp hi;omega),Bool.true_and]
   ·rw [List.filter_cons,List.filter_cons,decide_eq_true (show n<n+1 by omega),Bool.true_and];rfl
def act_list {M:Mc} {m c:Nat} {q:Nat->Bool} (h:∀ i:Nat,(i:Int)∈M.act m↔i<c/\q i=true) (hc:(c:Int)<=M.wq):M.act m=((List.range c).filter q).map λi:Nat=>(i:Int):=by
 unfold Mc.act Mc.actTo;rw [← Xc q (show c<=M.wq.toNat by omega)];congr 1;refine List.filter_congr λi hi=>?_;have hi:=List.mem_range.mp hi
 have a:(i:Int)∈M.act m↔M.isAct m i=true:=by
  rw [mem_act];unfold Mc.isAct;rw [Bool.and_eq_true,q0z];constructor
  ·rintro ⟨_,_,h2,h3⟩
   exact ⟨h2,by rw [h3];rfl⟩
  ·rintro ⟨h2,h3⟩
   refine ⟨by omega,by omega,h2,?_⟩
   cases e:zO M.fq (.inl (i:Int)) with
   | none=>rfl
   | some v=>rw [e] at h3;exact absurd h3 Bool.noConfusion
 rw [Bool.eq_iff_iff,← a,h,Bool.and_eq_true,decide_eq_true_eq]
def StripAt.wide {S LN:J6} {L pl:Nat} {mn_ mi b:Int} {s:DT} {M:Mc} (h:StripAt S LN L pl mn_ mi b s M):M.wq=wid mn_ (mi*L) b:=by
 have a:=h.i.wle;have w0:=h.i.ok.w0;by_cases z:M.wq=wid mn_ (mi*L) b
 ·exact z
 ·have lt:M.wq<wid mn_ (mi*L) b:=by omega
  have:M.wq∈M.act 0:=by rw [h.act];exact mem_upto_iff.mpr ⟨w0,lt⟩
  have:=(mem_act.mp this).2.1;omega
structure Ks (M M':Mc):Prop where
 f:M'.fq=M.fq
 s:M'.slots=M.slots
 m:M'.mq=M.mq
 r:M'.raised=M.raised
 u:M'.turns=M.turns
 p:M'.picks=M.picks
 c:M'.cq=M.cq
section
variable {Lx:Lex} {S LN:J6} {L pl k:Nat} {mn_ mi b:Int} {s:DT} {M:Mc}
def InS.trim2 (h:InS S LN L pl mn_ mi b k s M) (hS:Lx.E "trim" X0) (ik:ZP M.fq) (hf:M.fq.length<100000) (h0:∀ j∈Yi M.fq,0<=j) :
  ∃ M',Step Lx [.str "trim"] M M'/\InS S LN L pl mn_ mi b (k+1) s M'/\Ks M M'/\(∀ (p':Nat) (j:Int),M'.nq p' j=M.nq p' j)/\((M.faulted=[]/\M'.wq=M.wq/\M'.cut=M.cut)∨(M.faulted≠[]/\M'.wq=Yl M.faulted/\M'.cut=some (Yl M.faulted))):=by
 have e:X0 [.str "trim"] M=some M.trimmed:=by
  unfold X0;exact if_pos ⟨ik,hf⟩
 have st:=Step.eff (word:="trim") hS rfl e h.ok;have hpc:M.pc+1=((pl+(k+1):Nat):Int):=by rw [h.pc];omega
 unfold Mc.trimmed at st;by_cases z:M.faulted=[]
 ·rw [if_pos z] at st
  exact ⟨_,st,⟨{h.ok with},h.wle,h.bq,h.base,hpc,h.oq,h.mn_,h.group,h.lq,h.rf,h.starts,h.lens,h.cells,h.tq⟩,⟨rfl,rfl,rfl,rfl,rfl,rfl,rfl⟩,λ_ _=>rfl,.inl ⟨z,rfl,rfl⟩⟩
 ·rw [if_neg z] at st
  have mem:=Xf _ z;have mp:=List.mem_filter.mp mem;have m0:=h0 _ mp.1;have mw:Yl M.faulted<M.wq:=of_decide_eq_true mp.2;have w1:=h.ok.w1;exact ⟨_,st,⟨⟨h.ok.l1,h.ok.l64,h.ok.g,h.ok.nl,h.ok.ml,h.ok.mm,m0,Int.le_trans (Int.le_of_lt mw) w1⟩,Int.le_trans (Int.le_of_lt mw) h.wle,h.bq,h.base,hpc,h.oq,h.mn_,h.group,h.lq,h.rf,h.starts,h.lens,h.cells,h.tq⟩,⟨rfl,rfl,rfl,rfl,rfl,rfl,rfl⟩,λ_ _=>rfl,.inr ⟨z,rfl,rfl⟩⟩
def InS.stop2 {n:Int} (h:InS S LN L pl mn_ mi b k s M) (hS:Lx.E "stop" YJ) (hc:M.cut=none):∃ M',Step Lx [.str "stop",.int n] M M'/\InS S LN L pl mn_ mi b (k+1) s M'/\Ks M M':=by
 have e:YJ [.str "stop",.int n] M=some M:=by
  unfold YJ;rw [hc];rfl
 have st:=Step.eff (word:="stop") hS rfl e h.ok;exact ⟨_,st,⟨{h.ok with},h.wle,h.bq,h.base,by show M.pc+1=_;rw [h.pc];omega,h.oq,h.mn_,h.group,h.lq,h.rf,h.starts,h.lens,h.cells,h.tq⟩,⟨rfl,rfl,rfl,rfl,rfl,rfl,rfl⟩⟩
end
def Yg (may:Bool) (eff:Jj) (n:Int):List (Jj):=if may=true then [[.str "trim"],eff,[.str "stop",.int n]] else [eff]
def tail_len (may:Bool) (eff:Jj) (n:Int):(Yg may eff n).length<=3:=by cases may <;> exact Nat.le_of_ble_eq_true rfl
structure LxT (Lx:Lex):Prop where
 trim:Lx.E "trim" X0
 stop:Lx.E "stop" YJ
structure Cut (S LN:J6) (L pl:Nat) (mn_ mi b:Int) (mk k N c:Nat) (E:Int->ERes) (cs:J6) (T:List Tch) (M0 M:Mc):Prop where
 i:InS S LN L pl mn_ mi b k (cs,T) M
 t:T.length<=N
 s:M.slots.length<=N
 so:SlotsOk M
 r:M.raised=M0.raised
 u:M.turns=M0.turns
 p:M.picks=M0.picks
 ca:M.cq=M0.cq
 w:M.wq=c
 a:M.act mk=((List.range c).filter λi:Nat=>(E i).isVal).map λi:Nat=>(i:Int)
 n:∀ j∈M.act mk,M.nq 0 j=(E j).num
section
variable {Lx:Lex} {S LN:J6} {L pl:Nat} {mn_ mi b:Int} {code:List (Jj)} {cs:J6}
def Laid.keys {mk k N:Nat} {E:Int->ERes} {T:List Tch} {M0 M:Mc} (h:Laid S LN L pl mn_ mi b mk k N E cs T M0 M) (w:M0.wq=wid mn_ (mi*L) b) (j:Int):j∈M.faulted↔(0<=j/\j<wid mn_ (mi*L) b)/\(E j).isBad=true:=by
 unfold Mc.faulted;rw [List.mem_filter,zbs,h.f,h.q.w,w];constructor
 ·rintro ⟨h1,h2⟩
  by_cases z:0<=j/\j<wid mn_ (mi*L) b
  ·rw [if_pos z] at h1
   refine ⟨z,?_⟩
   cases e:E j with
   | pass=>rw [e] at h1;cases h1
   | val v=>rw [e] at h1;cases h1
   | bad z=>rfl
  ·rw [if_neg z] at h1;cases h1
 ·rintro ⟨z,h1⟩
  rw [if_pos z];refine ⟨?_,decide_eq_true z.2⟩
  cases e:E j with
  | pass=>rw [e] at h1;cases h1
  | val v=>rw [e] at h1;cases h1
  | bad z=>rfl
def Laid.cut {mk k N c:Nat} {E:Int->ERes} {T:List Tch} {M0 M:Mc} (h:Laid S LN L pl mn_ mi b mk k N E cs T M0 M) (hc:c<=wid mn_ (mi*L) b) {k':Nat} {M':Mc} (i:InS S LN L pl mn_ mi b k' (cs,T) M') (ks:Ks M M') (hn:∀ (p':Nat) (j:Int),M'.nq p' j=M.nq p' j) (hw:M'.wq=c) (w:M.wq=wid mn_ (mi*L) b):Cut S LN L pl mn_ mi b mk k' N c E cs T M0 M':=by
 have mem:∀ j:Int,j∈M'.act mk↔j∈M.act mk/\j<c:=λj=>by
  rw [mem_act,mem_act (M:=M),hw,w,ks.m,ks.f];constructor
  ·rintro ⟨a,b',c',d⟩;exact ⟨⟨a,by omega,c',d⟩,b'⟩
  ·rintro ⟨⟨a,_,c',d⟩,b'⟩;exact ⟨a,b',c',d⟩
 refine ⟨i,h.wf.t,by rw [ks.s];exact h.wf.s,λk v e=>h.wf.so k v (by rw [ks.s] at e;exact e),ks.r.trans h.q.rs,ks.u.trans h.q.tu,ks.p.trans h.q.pk,ks.c.trans h.q.car,hw,act_list (λn=>?_) (by rw [hw];exact Int.le_refl _),λj hj=>?_⟩
 ·rw [mem,h.a]
  constructor
  ·rintro ⟨⟨_,v,e⟩,hc'⟩
   exact ⟨by omega,by rw [e];rfl⟩
  ·rintro ⟨hc',e⟩
   refine ⟨⟨⟨by omega,by omega⟩,?_⟩,by omega⟩
   cases ev:E (n:Int) with
   | val v=>exact ⟨v,rfl⟩
   | pass=>rw [ev] at e;cases e
   | bad z=>rw [ev] at e;cases e
 ·have hj':=((mem j).mp hj).1
  obtain ⟨_,v,e⟩:=(h.a j).mp hj';rw [hn,h.n j hj' v e,e];rfl
def Laid.trim {mk k N:Nat} {E:Int->ERes} {T:List Tch} {M0 M:Mc} (lx:LxT Lx) (h:Laid S LN L pl mn_ mi b mk k N E cs T M0 M) (w:M0.wq=wid mn_ (mi*L) b) (c0:M0.cut=none) (hN:N<=80000) (r:code[pl+k]?=some [.str "trim"]) :
  ∃ (c:Nat) (M':Mc),Steps Lx code 1 M M'/\Cut S LN L pl mn_ mi b mk (k+1) N c E cs T M0 M'/\c<=wid mn_ (mi*L) b/\(∀ i:Nat,i<c->(E i).isBad=false)/\((c=wid mn_ (mi*L) b/\M'.cut=none)∨(c<wid mn_ (mi*L) b/\∃ z,E c=.bad z/\M'.cut=some (c:Int)/\zO M'.fq (.inl (c:Int))=some (.str z))):=by
 have mw:M.wq=wid mn_ (mi*L) b:=h.q.w.trans w;obtain ⟨M',st,i',ks,hn,hw⟩:=h.i.trim2 lx.trim h.wf.ik (by have:=h.wf.f;omega) (λj hj=>h.wf.i0 j ((zbs _ _).mp hj));rcases hw with ⟨z,w1,c1⟩ | ⟨z,w1,c1⟩
 ·refine ⟨wid mn_ (mi*L) b,M',h.i.one r st,h.cut (Nat.le_refl _) i' ks hn (w1.trans mw) mw,Nat.le_refl _,λi hi=>?_,.inl ⟨rfl,c1.trans (h.q.cut.trans c0)⟩⟩
  cases e:(E (i:Int)).isBad with
  | false=>rfl
  | true =>
   have:(i:Int)∈M.faulted:=(h.keys w i).mpr ⟨⟨by omega,by omega⟩,e⟩;rw [z] at this;cases this
 ·have mm:=Xf _ z
  obtain ⟨⟨m0,m1⟩,mb⟩:=(h.keys w _).mp mm;have lt:∀ j∈M.faulted,Yl M.faulted<=j:=zcx _;obtain ⟨c,ec⟩:∃ c:Nat,Yl M.faulted=c:=⟨(Yl M.faulted).toNat,by omega⟩;rw [ec] at m0 m1 mb lt w1 c1
  obtain ⟨y,ey⟩:∃ y,E (c:Int)=.bad y:=by
   cases e:E (c:Int) with
   | pass=>rw [e] at mb;cases mb
   | val v=>rw [e] at mb;cases mb
   | bad y=>exact ⟨y,rfl⟩
  refine ⟨c,M',h.i.one r st,h.cut (by omega) i' ks hn w1 mw,by omega,λi hi=>?_,.inr ⟨by omega,y,ey,c1,?_⟩⟩
  ·cases e:(E (i:Int)).isBad with
   | false=>rfl
   | true =>
    have:=lt _ ((h.keys w i).mpr ⟨⟨by omega,by omega⟩,e⟩);omega
  ·rw [ks.f,h.f,if_pos ⟨m0,m1⟩,ey];rfl
def Laid.all {mk k N:Nat} {E:Int->ERes} {T:List Tch} {M0 M:Mc} (h:Laid S LN L pl mn_ mi b mk k N E cs T M0 M) (w:M0.wq=wid mn_ (mi*L) b):Cut S LN L pl mn_ mi b mk k N (wid mn_ (mi*L) b) E cs T M0 M :=
 h.cut (Nat.le_refl _) h.i ⟨rfl,rfl,rfl,rfl,rfl,rfl,rfl⟩ (λ_ _=>rfl) (h.q.w.trans w) (h.q.w.trans w)
def Cut.store {mk k N c tg B:Nat} {E:Int->ERes} {g:Nat->ERes} {cs0:J6} {T:List Tch} {M0 M:Mc} (hS:Lx.E "store" xC) (p8:((0:Nat)+1:Int)*mi<=8) (m16:mk<16) (h:Cut S LN L pl mn_ mi b mk k N c E cs T M0 M) (hc:c<=wid mn_ (mi*L) b) (hb:b=(B:Int)) (hE:∀ i:Nat,i<wid mn_ (mi*L) b->E i=g (B+i)) (ec:cs=zY cs0 (yj (S.getD tg 0) g B)) (hN:N+wid mn_ (mi*L) b<=80000) (ht:tg<S.length) (it:0<=S.getD tg 0/\S.getD tg 0+mn_<=cs.length) (r:code[pl+k]?=some [.str "store",.int tg,.int 0,.int mk]) :
  ∃ M' T',Steps Lx code 1 M M'/\InS S LN L pl mn_ mi b (k+1) (zY cs0 (yj (S.getD tg 0) g (B+c)),T') M'/\(T'.length<=N+wid mn_ (mi*L) b/\Kp M M'/\M'.fq=M.fq):=by
 have al:=h.i.len mk;have ht':=h.t;obtain ⟨M',st,i',⟨kp,hf⟩,_⟩:=h.i.storeO (q:=tg) (p:=0) (m:=mk) (F:=λe=>(E (e-b)).num) hS p8 m16 ht (by omega) it (by show T.length+_<_;omega) (λj hj=>by rw [h.n j hj,show b+j-b=j by omega])
 have e:zY cs ((((M.act mk).map (b+·)).map λe=>(S.getD tg 0+e,(E (e-b)).num)))=zY cs0 (yj (S.getD tg 0) g (B+c)):=by
  rw [zeq,ec];unfold zY;rw [List.foldl_append];congr 1;rw [h.a,List.map_map,List.map_map];have ef:(List.range c).filter (λi:Nat=>(E i).isVal)=(List.range c).filter λi=>(g (B+i)).isVal:=List.filter_congr λi hi=>by rw [hE i (by have:=List.mem_range.mp hi;omega)]
  rw [ef];refine List.map_congr_left λi hi=>?_;have hi:=List.mem_range.mp (List.mem_filter.mp hi).1;show (S.getD tg 0+(b+(i:Int)),(E (b+(i:Int)-b)).num)=_;rw [show b+(i:Int)-b=i by omega,hE i (by omega),hb,Int.natCast_add]
 have e':(zY (cs,T).1 ((((M.act mk).map (b+·)).map λe=>(S.getD tg 0+e,(E (e-b)).num))))=zY cs0 (yj (S.getD tg 0) g (B+c)):=e;rw [e'] at i';refine ⟨M',_,h.i.one r st,i',?_,kp,hf⟩;show (T++_).length<=_;rw [Jf,Je,Je];omega
def strip_let {mk k N tg B:Nat} {n:Int} {E:Int->ERes} {g:Nat->ERes} {may:Bool} {us:List (Int×Int)} {rs:Bool} {pk:J6} {cs0:J6} {T:List Tch} {M0 M:Mc} (lx:LxT Lx) (hS:Lx.E "store" xC) (p8:((0:Nat)+1:Int)*mi<=8) (m16:mk<16) (h:Laid S LN L pl mn_ mi b mk k N E cs T M0 M) (w:M0.wq=wid mn_ (mi*L) b) (c0:M0.cut=none) (hr:M0.raised=rs) (hu:M0.turns=us) (hp:M0.picks=pk) (hca:M0.cq=none) (hb:b=(B:Int)) (hE:∀ i:Nat,i<wid mn_ (mi*L) b->E i=g (B+i)) (hmay:may=false->∀ e,(g e).isBad=false) (ec:cs=zY cs0 (yj (S.getD tg 0) g B)) (hN:N+wid mn_ (mi*L) b<=80000) (ht:tg<S.length) (it:0<=S.getD tg 0/\S.getD tg 0+mn_<=cs.length) (r:RowsAt code (pl+k) (Yg may [.str "store",.int tg,.int 0,.int mk] n)) :
  (∃ m M' T',Steps Lx code m M M'/\InS S LN L pl mn_ mi b (k+(Yg may [.str "store",.int tg,.int 0,.int mk] n).length) (zY cs0 (yj (S.getD tg 0) g (B+wid mn_ (mi*L) b)),T') M'/\Rs us rs pk (N+wid mn_ (mi*L) b) T' M'/\M'.cq=none/\∀ i:Nat,i<wid mn_ (mi*L) b->(g (B+i)).isBad=false)∨(∃ m M' c z,Steps Lx code m M M'/\M'.rq_=some (n,((B+c:Nat):Int),z)/\M'.cells=zY cs0 (yj (S.getD tg 0) g (B+c))/\c<wid mn_ (mi*L) b/\g (B+c)=.bad z/\∀ i:Nat,i<c->(g (B+i)).isBad=false):=by
 have rsd:∀ {c k':Nat} {M1 M2:Mc} {T':List Tch},Cut S LN L pl mn_ mi b mk k' N c E cs T M0 M1->T'.length<=N+wid mn_ (mi*L) b->Kp M1 M2->Rs us rs pk (N+wid mn_ (mi*L) b) T' M2:=λhc tl kp=>⟨tl,by rw [kp.slots];have:=hc.s;omega,λk v e=>hc.so k v (by rw [kp.slots] at e;exact e),kp.raised.trans (hc.r.trans hr),kp.turns.trans (hc.u.trans hu),kp.picks.trans (hc.p.trans hp)⟩
 cases may with
 | false =>
  have hc:=h.all w;obtain ⟨M',T',st,i',tl,kp,_⟩:=hc.store hS p8 m16 (Nat.le_refl _) hb hE ec hN ht it (r 0 _ rfl);exact .inl ⟨1,M',T',st,i',rsd hc tl kp,kp.cq.trans (hc.ca.trans hca),λi _=>hmay rfl _⟩
 | true =>
  obtain ⟨c,M1,st1,hc,cw,hbad,fin⟩:=h.trim lx w c0 (by omega) (r 0 _ rfl);obtain ⟨M2,T2,st2,i2,tl,kp,hf2⟩:=hc.store hS p8 m16 cw hb hE ec hN ht it (r 1 _ rfl);rcases fin with ⟨e,cn⟩ | ⟨lt,z,ez,cc,fz⟩
  ·obtain ⟨M3,st3,i3,ks⟩:=i2.stop2 (n:=n) lx.stop (kp.cut.trans cn)
   have rs2:=rsd hc tl kp;rw [e] at i3;refine .inl ⟨_,M3,T2,(st1.trans st2).trans (i2.one (r 2 _ rfl) st3),i3,⟨rs2.t,by rw [ks.s];exact rs2.s,λk v e=>rs2.so k v (by rw [ks.s] at e;exact e),ks.r.trans rs2.r,ks.u.trans rs2.u,ks.p.trans rs2.p⟩,ks.c.trans (kp.cq.trans (hc.ca.trans hca)),λi hi=>?_⟩;rw [← hE i hi];exact hbad i (by omega)
  ·obtain ⟨M3,st3,rf,ce,_⟩:=i2.stopAt (n:=n) (c:=(c:Int)) (z:=z) lx.stop (kp.cut.trans cc) (by rw [hf2];exact fz)
   refine .inr ⟨_,M3,c,z,(st1.trans st2).trans (i2.one (r 2 _ rfl) st3),?_,ce,lt,by rw [← hE c lt];exact ez,λi hi=>?_⟩
   ·rw [rf,hb,Int.natCast_add]
   ·rw [← hE i (by omega)]
    exact hbad i hi
end
def xH (tv:Jj):Bool:=decide (tv[0]?=some (.str "gather")) || decide (tv[0]?=some (.str "reach")) || (decide (tv[0]?=some (.str "op")) && (decide (tv[2]?=some (.str "/")) || decide (tv[2]?=some (.str "rest"))))
def xy:F2.Fm->Bool
 | .at' _ _=>true
 | .pair sg l r=>xy l || xy r || (decide (sg="/") || decide (sg="rest"))
 | .cho t l r=>xy t || xy l || xy r
 | _=>false
def any_two {fits:Prop} [Decidable fits] {c1 c2 c2':List (Jj)} {p s mk:Nat} {x y:Bool} (h1:c1.any xH=x) (h2:c2.any xH=y) (h2':c2'.any xH=y):(Yn fits c1 c2 c2' p s mk).any xH=(x || y):=by
 unfold Yn
 split
 ·rw [List.any_append,h1,h2]
 ·rw [List.any_append,List.any_append,List.any_append,h1,h2']
  show (x || (xH (saveT s p mk) || false) || y || (xH (bringT (p+1) s mk) || false))=_;rw [show xH (saveT s p mk)=false by rfl,show xH (bringT (p+1) s mk)=false by rfl];simp
def may_op (p:Nat) (sg:Str) (a c mk:Nat):xH (opT p sg a c mk)=(decide (sg="/") || decide (sg="rest")):=by
 have e:∀ z:Str,decide ((opT p sg a c mk)[2]?=some (.str z))=decide (sg=z):=λz=>decide_eq_decide.mpr ⟨λh=>V.str.inj (Option.some.inj h),λh=>by rw [h];rfl⟩;unfold xH;rw [e,e];rfl
theorem XA (lens:J6) (se:Nat):∀ (F:F2.Fm) (p mk lv s:Nat),Fit F->(mkF lens se F p mk lv s).any xH=xy F
 | .num n,p,mk,lv,s,_=>rfl
 | .here,p,mk,lv,s,_=>rfl
 | .cell r,p,mk,lv,s,_=>by
  show ((xH (if lens.getD r.toNat 0=1 then _ else _)) || false)=false
  split <;> rfl
 | .pair sg l r,p,mk,lv,s,hf=>by
  show (Yn _ _ _ _ _ _ _++[if p+1+sN r<=se then _ else _]).any xH=_;rw [List.any_append,any_two (XA lens se l p mk lv s hf.1) (XA lens se r _ mk lv _ hf.2) (XA lens se r _ mk lv _ hf.2)];show (_ || (xH (if p+1+sN r<=se then opT p sg p (p+1) mk else opT p sg (p+1) p mk) || false))=(xy l || xy r || (decide (sg="/") || decide (sg="rest")));rw [Bool.or_false];congr 1
  split <;> exact may_op _ _ _ _ _
def done_some {sg:Str} (a c:Int) (h:(decide (sg="/") || decide (sg="rest"))=false):(doneR sg a c).isSome=true:=by
 obtain ⟨h1,h2⟩:=Bool.or_eq_false_iff.mp h;have h1:=of_decide_eq_false h1;have h2:=of_decide_eq_false h2;unfold doneR
 repeat' split
 all_goals first | rfl | contradiction
theorem sure {cl:Int->J6->Res} {S:SpotD}:∀ F:F2.Fm,Fit F->xy F=false->kd (F2.ev cl S F)=none
 | .num n,_,_=>rfl
 | .here,_,_=>rfl
 | .cell r,_,_=>by
  show kd (if S.len r=1 then _ else _)=none
  split <;> rfl
 | .pair sg l r,hf,h=>by
  obtain ⟨h12,h3⟩:=Bool.or_eq_false_iff.mp h;obtain ⟨h1,h2⟩:=Bool.or_eq_false_iff.mp h12;obtain ⟨v,ev⟩:=Xi (sure (cl:=cl) (S:=S) l hf.1 h1);obtain ⟨u,eu⟩:=Xi (sure (cl:=cl) (S:=S) r hf.2 h2);show kd (ZW sg (F2.ev cl S l) (F2.ev cl S r))=none;rw [ev,eu]
  show kd (match doneR sg v u with
   | some n=>.ok n
   | none=>.nought)=none
  have:=done_some (sg:=sg) v u h3
  cases e:doneR sg v u with
  | none=>rw [e] at this;cases this
  | some w=>rfl
def Zq (tg:Int):F2.Fm->Prop
 | .cell r=>r≠tg
 | .shi r _ _=>r≠tg
 | .at' r p=>r≠tg/\Zq tg p
 | .pair _ l r=>Zq tg l/\Zq tg r
 | .cho t l r=>Zq tg t/\Zq tg l/\Zq tg r
 | _=>True
theorem za0 {cl:Int->J6->Res} {fs:List F2.Fn} {kk:Nat} {tg:Int} {LN cs cs' own:J6} {e:Int} (hc:∀ r:Int,0<=r->r.toNat<LN.length->r≠tg->∀ q,0<=q->q<LN.getD r.toNat 0->(⟨LN,cs,e,own⟩:SpotD).cellAt r q=(⟨LN,cs',e,own⟩:SpotD).cellAt r q):∀ F:F2.Fm,Fit F->Zq tg F->F2.WF fs kk ⟨LN,cs,e,own⟩ F->F2.ev cl ⟨LN,cs,e,own⟩ F=F2.ev cl ⟨LN,cs',e,own⟩ F
 | .num n,_,_,_=>rfl
 | .here,_,_,_=>rfl
 | .cell r,_,hn,w=>by
  obtain ⟨⟨r0,r1⟩,l1,pl⟩:=w;have l1:1<=LN.getD r.toNat 0:=l1;show (if LN.getD r.toNat 0=1 then FM.Res.ok _ else FM.Res.ok _)=if LN.getD r.toNat 0=1 then FM.Res.ok _ else FM.Res.ok _;by_cases z:LN.getD r.toNat 0=1
  ·rw [if_pos z,if_pos z,hc r r0 r1 hn 0 (by omega) (by omega)]
  ·rw [if_neg z,if_neg z,hc r r0 r1 hn e (pl z).1 (pl z).2]
 | .pair sg l r,hf,hn,w=>by
  show ZW sg (F2.ev cl ⟨LN,cs,e,own⟩ l) (F2.ev cl ⟨LN,cs,e,own⟩ r)=ZW sg (F2.ev cl ⟨LN,cs',e,own⟩ l) (F2.ev cl ⟨LN,cs',e,own⟩ r);rw [za0 hc l hf.1 hn.1 w.2.1,za0 hc r hf.2 hn.2 w.2.2]
def zde {cs:J6} {ps:List (Int×Int)} {i:Nat} (h:∀ p∈ps,p.1.toNat≠i):(zY cs ps).getD i 0=cs.getD i 0:=by
 induction ps generalizing cs with
 | nil=>rfl
 | cons p ps ih =>
  show (zY (cs.set p.1.toNat p.2) ps).getD i 0=_;rw [ih λq hq=>h q (q6y _ hq),q6x,List.getElem?_set_ne (h p q6z),← q6x]
def zex {P:Int->Prop} {cs:J6} {ps:List (Int×Int)} (h:∀ v∈cs,P v) (hp:∀ p∈ps,P p.2):∀ v∈zY cs ps,P v:=by
 induction ps generalizing cs with
 | nil=>exact h
 | cons p ps ih =>
  refine ih (λv hv=>?_) λq hq=>hp q (q6y _ hq);rcases List.mem_or_eq_of_mem_set hv with hv | rfl
  ·exact h v hv
  ·exact hp p q6z
def X1 {ns:J6} (h:∀ v∈ns,0<=v) {r r':Nat} (hr:r<r') (hl:r<ns.length):(ns.take r).sum+ns.getD r 0<=(ns.take r').sum:=by
 rw [← YI ns r hl];have:=yK (ns.take r') (r+1) λv hv=>h v (List.mem_of_mem_take hv);rw [List.take_take,Nat.min_eq_left (by omega)] at this;exact this.2
def row_keep {LN cs0 own:J6} {e:Int} {tg m:Nat} {g:Nat->ERes} (hp:∀ v∈LN,0<=v) (ht:tg<LN.length) (hm:(m:Int)<=LN.getD tg 0):∀ r:Int,0<=r->r.toNat<LN.length->r≠tg->∀ q,0<=q->q<LN.getD r.toNat 0->(⟨LN,zY cs0 (yj ((zE LN).getD tg 0) g m),e,own⟩:SpotD).cellAt r q=(⟨LN,cs0,e,own⟩:SpotD).cellAt r q:=λr r0 r1 rn q q0 q1=>by
 refine zde λp hp'=>?_;obtain ⟨i,hi,rfl⟩:=List.mem_map.mp hp';have hi:=List.mem_range.mp (List.mem_filter.mp hi).1;show ((zE LN).getD tg 0+(i:Int)).toNat≠((LN.take r.toNat).sum+q).toNat;rw [Yv ht];have s1:=(yK LN tg hp).1;have s2:=(yK LN r.toNat hp).1;have ne:r.toNat≠tg:=λz=>rn (by omega);rcases Nat.lt_or_gt_of_ne ne with z | z
 ·have:=X1 hp z r1
  omega
 ·have:=X1 hp z ht
  omega
def maskOf:Option F2.Fm->Nat
 | none=>0
 | some _=>1
def yJ (lens:J6) (se:Nat) (t:Option F2.Fm) (v:F2.Fm):List (Jj):=match t with
 | none=>mkF lens se v 0 0 0 0
 | some t=>mkF lens se t 0 0 0 0++[[.str "choose",.int 1,.int 0,.int 0]]++mkF lens se v 0 1 0 0
def Yt:Option F2.Fm->Bool
 | none=>false
 | some t=>xy t
def FitT:Option F2.Fm->Prop
 | none=>True
 | some t=>Fit t/\cD t<=7
def ZU (mn_ g:Int) (body:List (Jj)) (may:Bool) (eff:Jj) (n:Int):List (Jj):=[[.str "begin",.int mn_,.int g]]++body++Yg may eff n++[[.str "next"]]
def YT (tg mk:Nat):Jj:=[.str "store",.int tg,.int 0,.int mk]
def any_body (lens:J6) (se:Nat) {t:Option F2.Fm} {v:F2.Fm} (ft:FitT t) (fv:Fit v):(yJ lens se t v).any xH=(Yt t || xy v):=by
 cases t with
 | none=>exact XA lens se v 0 0 0 0 fv
 | some t =>
  show (mkF lens se t 0 0 0 0++[_]++mkF lens se v 0 1 0 0).any xH=_;rw [List.any_append,List.any_append,XA lens se t 0 0 0 0 ft.1,XA lens se v 0 1 0 0 fv];show (xy t || (false || false) || xy v)=_;rw [Bool.or_false,Bool.or_false];rfl
def YU (fs:List F2.Fn) (kk:Nat) (LN cs:J6) (t:Option F2.Fm) (v:F2.Fm) (e:Nat):ERes:=eOut (t.map λt=>F2.worth fs kk ⟨LN,cs,(e:Int),[]⟩ t) (F2.worth fs kk ⟨LN,cs,(e:Int),[]⟩ v)
structure StepOk (fs:List F2.Fn) (kk:Nat) (LN:J6) (mn_:Int) (t:Option F2.Fm) (v:F2.Fm):Prop where
 fv:Fit v
 ft:FitT t
 dv:cD v<=7
 bo:F2.Bodies fs
 m1:1<=mn_
 m4:mn_<=400
 wv:∀ (cs:J6) (e:Int),0<=e->e<mn_->F2.WF fs kk ⟨LN,cs,e,[]⟩ v
 wt:∀ f,t=some f->∀ (cs:J6) (e:Int),0<=e->e<mn_->F2.WF fs kk ⟨LN,cs,e,[]⟩ f
 ln:∀ v∈LN,0<=v
 cal:∀ (cs cs':J6) (e:Int),F2.callK fs ⟨LN,cs,e,[]⟩ kk=F2.callK fs ⟨LN,cs',e,[]⟩ kk
structure LxR (Lx:Lex):Prop where
 f:LxF Lx
 t:LxT Lx
 bg:Lx.W "begin" zc4
 nx:Lx.W "next" nextW
 ch:Lx.E "choose" (xS false)
section
variable {Lx:Lex} {LN:J6} {L pl se:Nat} {mn_ mi b:Int} {code:List (Jj)} {cs:J6} {fs:List F2.Fn} {kk:Nat} {t:Option F2.Fm} {v:F2.Fm}
def XM (hs:StepOk fs kk LN mn_ t v) (hc:(cs.length:Int)=LN.sum) (ck:∀ x∈cs,Kin x) {e:Int} (e0:0<=e) (e1:e<mn_):FM.SpotOk ⟨LN,cs,e,[]⟩:=by
 have:=hs.m4;exact ⟨hs.ln,hc,ck,(λx hx=>nomatch hx),⟨by show -9223372036854775808<=e;omega,by show e<=9223372036854775807;omega⟩⟩
def zet {N:Nat} {T:List Tch} {M:Mc} (lx:LxR Lx) (hs:StepOk fs kk LN mn_ t v) (h:RowsOk LN cs mn_ mi b L se) (hc:(cs.length:Int)=LN.sum) (ck:∀ x∈cs,Kin x) (sa:StripAt (zE LN) LN L pl mn_ mi b (cs,T) M) (wf:Wf N T M) (hN:N+(yJ LN se t v).length*wid mn_ (mi*L) b<=80000) (r:RowsAt code (pl+1) (yJ LN se t v)) :
  ∃ n M' T',Steps Lx code n M M'/\Laid (zE LN) LN L pl mn_ mi b (maskOf t) (1+(yJ LN se t v).length) (N+(yJ LN se t v).length*wid mn_ (mi*L) b) (λj=>eOut (t.map λf=>F2.worth fs kk ⟨LN,cs,b+j,[]⟩ f) (F2.worth fs kk ⟨LN,cs,b+j,[]⟩ v)) cs T' M M':=by
 have b0:=h.b0;have g:=h.g
 have se2:2<=se:=by
  have:=h.se;rcases g with e | e | e <;> rw [e] at this <;> omega
 have hk:∀ j,0<=b+j->b+j<mn_->∀ (a:Int) l n,0<=a->a.toNat<kk->a.toNat<fs.length->l.length=F2.handsOf fs a->(∀ v∈l,Kin v)->F2.callK fs ⟨LN,cs,b+j,[]⟩ kk a l=.ok n->Kin n:=λj j0 j1 a l n a0 a1 a2 a3 a4 e=>F2.call_kin hs.bo (XM hs hc ck j0 j1) kk a l n a0 a1 a2 a3 a4 e;have dv:∀ mk,mk<2->Zs Lx (zE LN) LN L pl mn_ mi b code cs (mkF LN se v 0 mk 0 0) 0 mk 0 0 [] (λ_=>[]) (λj=>F2.worth fs kk ⟨LN,cs,b+j,[]⟩ v):=λmk hm=>exec (O:=λ_=>[]) (cl:=λj=>F2.callK fs ⟨LN,cs,b+j,[]⟩ kk) lx.f h hk v 0 mk 0 0 [] hs.fv (by omega) (by have:=hs.dv;omega) (by omega) (λj j0 j1=>⟨hs.wv cs _ j0 j1,XM hs hc ck j0 j1⟩)
 cases t with
 | none=>exact zff sa wf hN r (dv 0 (by decide))
 | some f =>
  have dt:Zs Lx (zE LN) LN L pl mn_ mi b code cs (mkF LN se f 0 0 0 0) 0 0 0 0 [] (λ_=>[]) (λj=>F2.worth fs kk ⟨LN,cs,b+j,[]⟩ f):=exec (O:=λ_=>[]) (cl:=λj=>F2.callK fs ⟨LN,cs,b+j,[]⟩ kk) lx.f h hk f 0 0 0 0 [] hs.ft.1 (by decide) (by have:=hs.ft.2;omega) (by omega) (λj j0 j1=>⟨hs.wt f rfl cs _ j0 j1,XM hs hc ck j0 j1⟩)
  have el:(yJ LN se (some f) v).length=(mkF LN se f 0 0 0 0).length+1+(mkF LN se v 0 1 0 0).length:=by
   show (mkF LN se f 0 0 0 0++[_]++mkF LN se v 0 1 0 0).length=_;rw [Jf,Jf];rfl
  rw [el] at hN ⊢;exact laid_test lx.ch (h.p8 (p:=0) (by omega)) sa wf hN r dt (dv 1 (by decide))
def eOut_kin {r:Option Res} {x:Res} {u:Int} (h:eOut r x=.val u) (hx:∀ u,x=.ok u->Kin u):Kin u:=by
 have of:∀ y:Res,ERes.of y=.val u->y=.ok u:=λy e=>by cases y <;> cases e;rfl
 cases r with
 | none=>exact hx u (of x h)
 | some y =>
  cases y with
  | ok a =>
   have h:(if a=0 then ERes.pass else ERes.of x)=.val u:=h
   split at h
   ·cases h
   ·exact hx u (of x h)
  | nought=>cases h
  | outside=>cases h
def gLet_kin (hs:StepOk fs kk LN mn_ t v) (hc:(cs.length:Int)=LN.sum) (ck:∀ x∈cs,Kin x) {e:Nat} (he:(e:Int)<mn_) {u:Int} (h:YU fs kk LN cs t v e=.val u):Kin u :=
 eOut_kin h λu e'=>F2.worth_kin hs.bo (XM hs hc ck (by omega) he) (hs.wv cs _ (by omega) he) e'
def bad_may (hs:StepOk fs kk LN mn_ t v) (h:(Yt t || xy v)=false) (e:Nat):(YU fs kk LN cs t v e).isBad=false:=by
 obtain ⟨h1,h2⟩:=Bool.or_eq_false_iff.mp h;obtain ⟨x,ex⟩:=Xi (sure (cl:=F2.callK fs ⟨LN,cs,(e:Int),[]⟩ kk) (S:=⟨LN,cs,(e:Int),[]⟩) v hs.fv h2)
 cases t with
 | none =>
  show (ERes.of (F2.ev _ _ v)).isBad=false;rw [ex];rfl
 | some f =>
  obtain ⟨y,ey⟩:=Xi (sure (cl:=F2.callK fs ⟨LN,cs,(e:Int),[]⟩ kk) (S:=⟨LN,cs,(e:Int),[]⟩) f hs.ft.1 h1);show (eOut (some (F2.ev _ _ f)) (F2.ev _ _ v)).isBad=false;rw [ex,ey];show (if y=0 then ERes.pass else ERes.val x).isBad=false
  split <;> rfl
def zes {mn_ side:Int} {NS:Nat} (h1:1<=mn_) (sd:1<=side) (hN:∀ i:Nat,i<NS↔(i:Int)*side<mn_):(NS:Int)*min side mn_<=2*mn_:=by
 by_cases z:NS=0
 ·subst z;omega
 ·have a:=(hN (NS-1)).mp (by omega)
  by_cases y:side<=mn_
  ·rw [Int.min_eq_left y]
   have e:(NS:Int)*side=((NS-1:Nat):Int)*side+side:=by
    rw [show (NS:Int)=((NS-1:Nat):Int)+1 by omega,Int.add_mul,Int.one_mul]
   omega
  ·have n1:NS=1:=by
    rcases Nat.lt_or_ge 1 NS with w | w
    ·have b:=(hN 1).mp w
     omega
    ·omega
   subst n1;omega
def round_let {N0 tg:Nat} {n:Int} {us:List (Int×Int)} {rs:Bool} {pk:J6} {T:List Tch} {M:Mc} (lx:LxR Lx) (hS:Lx.E "store" xC) (hs:StepOk fs kk LN mn_ t v) (hg:mi=1∨mi=2∨mi=4) (hse:(se:Int)*mi=8) (hc:(cs.length:Int)=LN.sum) (ck:∀ x∈cs,Kin x) (ht:tg<LN.length) (hm:mn_=LN.getD tg 0) (nv:Zq tg v) (nt:∀ f,t=some f->Zq tg f) (h:RestAt (zE LN) LN L pl (cs,T) M) (hx:Rs us rs pk N0 T M) (hN0:(N0:Int)+2*mn_*((yJ LN se t v).length+1)<=80000)
  (r:RowsAt code pl (ZU mn_ mi (yJ LN se t v) (Yt t || xy v) (YT tg (maskOf t)) n)) :
  (∃ k M' T',Steps Lx code k M M'/\RestAt (zE LN) LN L (pl+(ZU mn_ mi (yJ LN se t v) (Yt t || xy v) (YT tg (maskOf t)) n).length) (zY cs (yj ((zE LN).getD tg 0) (YU fs kk LN cs t v) mn_.toNat),T') M'/\Rs us rs pk (N0+(2*mn_*((yJ LN se t v).length+1)).toNat) T' M'/\∀ e:Nat,(e:Int)<mn_->(YU fs kk LN cs t v e).isBad=false) ∨
  (∃ k M',Steps Lx code k M M'/\∃ (e:Nat) (z:Str),(e:Int)<mn_/\YU fs kk LN cs t v e=.bad z/\(∀ i:Nat,i<e->(YU fs kk LN cs t v i).isBad=false)/\M'.rq_=some (n,(e:Int),z)/\M'.cells=zY cs (yj ((zE LN).getD tg 0) (YU fs kk LN cs t v) e)):=by
 have l1:=h.ok.l1;have hL:=h.lq;have m1:=hs.m1;have sd:1<=mi*(L:Int):=by rcases hg with e | e | e <;> rw [e] <;> omega
 obtain ⟨side,es⟩:∃ n:Nat,mi*(L:Int)=n:=⟨(mi*(L:Int)).toNat,by omega⟩;obtain ⟨NS,_,hN⟩:=size_iff m1 sd;have few:=zes m1 sd hN;have st0:=zdo (ns:=LN) (r:=tg) (m:=mn_) hs.ln ht (by omega);rw [← Yv ht,← hc] at st0;have hN':∀ i:Nat,i<NS↔(i:Int)*(side:Int)<mn_:=λi=>by rw [hN i,es]
 let g:=YU fs kk LN cs t v;let B:Nat->Nat:=λi=>min (i*side) mn_.toNat;let U:Nat->J6:=λi=>zY cs (yj ((zE LN).getD tg 0) g (B i));let W:Nat:=(min (mi*(L:Int)) mn_).toNat
 have Bi:∀ i,i<NS->(i:Int)*(mi*L)=(B i:Nat):=λi hi=>by
  have:=(hN' i).mp hi;have e:((i*side:Nat):Int)=(i:Int)*side:=Int.natCast_mul _ _;rw [es];show _=((min (i*side) mn_.toNat:Nat):Int);omega
 have BW:∀ i,i<NS->wid mn_ (mi*L) (i*(mi*L))<=W/\B (i+1)=B i+wid mn_ (mi*L) (i*(mi*L)):=λi hi=>by
  have b1:=Bi i hi;have lt:=(hN' i).mp hi;have e:((i*side:Nat):Int)=(i:Int)*side:=Int.natCast_mul _ _;have e2:(i+1)*side=i*side+side:=by rw [Nat.add_mul,Nat.one_mul]
  have hB:B i=i*side:=by
   rw [es] at b1;omega
  rw [b1,es];constructor
  ·show wid mn_ side _<=(min (mi*(L:Int)) mn_).toNat
   rw [es];unfold wid;omega
  ·show min ((i+1)*side) mn_.toNat=_
   rw [e2,hB];unfold wid;omega
 have kinG:∀ m:Nat,(m:Int)<=mn_->∀ p∈yj ((zE LN).getD tg 0) g m,Kin p.2:=λm hm' p hp=>by
  obtain ⟨i,hi,rfl⟩:=List.mem_map.mp hp;obtain ⟨hi,hv⟩:=List.mem_filter.mp hi;have hi:=List.mem_range.mp hi;show Kin (g i).num
  cases e:g i with
  | val u=>exact gLet_kin hs hc ck (by omega) e
  | pass=>rw [e] at hv;cases hv
  | bad z=>rw [e] at hv;cases hv
 have lb:∀ i,(B i:Int)<=mn_:=λi=>by show ((min (i*side) mn_.toNat:Nat):Int)<=_;omega
 have ul:∀ i,(U i).length=cs.length:=λi=>zew _ _;have uk:∀ i,∀ x∈U i,Kin x:=λi=>zex ck (kinG (B i) (lb i))
 have same:∀ (i:Nat) (e:Int),0<=e->e<mn_->F2.worth fs kk ⟨LN,U i,e,[]⟩ v=F2.worth fs kk ⟨LN,cs,e,[]⟩ v/\∀ f,t=some f->F2.worth fs kk ⟨LN,U i,e,[]⟩ f=F2.worth fs kk ⟨LN,cs,e,[]⟩ f:=λi e e0 e1=>by
  have rk:=row_keep (cs0:=cs) (own:=[]) (e:=e) (g:=g) hs.ln ht (m:=B i) (by rw [← hm];exact lb i)
  have one:∀ F:F2.Fm,Fit F->Zq tg F->(∀ cs:J6,F2.WF fs kk ⟨LN,cs,e,[]⟩ F)->F2.worth fs kk ⟨LN,U i,e,[]⟩ F=F2.worth fs kk ⟨LN,cs,e,[]⟩ F:=λF hf hn hw=>by
   show F2.ev (F2.callK fs ⟨LN,U i,e,[]⟩ kk) ⟨LN,U i,e,[]⟩ F=F2.ev (F2.callK fs ⟨LN,cs,e,[]⟩ kk) ⟨LN,cs,e,[]⟩ F;rw [hs.cal (U i) cs e];exact za0 rk F hf hn (hw _)
  refine ⟨one v hs.fv nv λcs=>hs.wv cs e e0 e1,λf ef=>one f ?_ (nt f ef) λcs=>hs.wt f ef cs e e0 e1⟩;have ft:=hs.ft;rw [ef] at ft
--@IF test
  exact ft.1
 have c0:=r.left.left.left 0 _ rfl;have cb:=r.left.left.right;have ct:=r.left.right;have cn:=r.right 0 _ rfl
 have el:(ZU mn_ mi (yJ LN se t v) (Yt t || xy v) (YT tg (maskOf t)) n).length=(yJ LN se t v).length+(Yg (Yt t || xy v) (YT tg (maskOf t)) n).length+2:=by
  unfold ZU;rw [Jf,Jf,Jf];show 1+_+_+1=_;omega
 rw [Jf,Jf] at cn;rw [Jf] at ct;have cb:RowsAt code (pl+1) (yJ LN se t v):=cb;have ct:RowsAt code (pl+(1+(yJ LN se t v).length)) (Yg (Yt t || xy v) (YT tg (maskOf t)) n):=ct
 have cn:code[pl+((yJ LN se t v).length+(Yg (Yt t || xy v) (YT tg (maskOf t)) n).length+1)]?=some [.str "next"]:=by
  rw [show pl+((yJ LN se t v).length+(Yg (Yt t || xy v) (YT tg (maskOf t)) n).length+1)=pl+(1+(yJ LN se t v).length+(Yg (Yt t || xy v) (YT tg (maskOf t)) n).length)+0 by omega];exact cn
 have WN:NS*W<=(2*mn_).toNat:=by
  have e:((NS*W:Nat):Int)=(NS:Int)*min (mi*(L:Int)) mn_:=by
   rw [Int.natCast_mul];show (NS:Int)*(((min (mi*(L:Int)) mn_).toNat:Nat):Int)=_;rw [Int.toNat_of_nonneg (by omega)]
  omega
 generalize hlen:(yJ LN se t v).length=len at *
 have DN:∀ i,i<=NS->N0+i*(W*(len+1))<=N0+(2*mn_*(len+1)).toNat:=λi hi=>by
  have a:i*W<=(2*mn_).toNat:=Nat.le_trans (Nat.mul_le_mul_right W hi) WN;have b':i*W*(len+1)<=(2*mn_).toNat*(len+1):=Nat.mul_le_mul_right _ a;rw [Nat.mul_assoc] at b'
  have c':(2*mn_*(len+1)).toNat=(2*mn_).toNat*(len+1):=by
   have:2*mn_*((len:Int)+1)=(((2*mn_).toNat*(len+1):Nat):Int):=by
    rw [Int.natCast_mul,Int.toNat_of_nonneg (by omega),Int.natCast_add];rfl
   rw [this,q0z]
  omega
 have tot:N0+(2*mn_*(len+1)).toNat<=80000:=by
  have:0<=2*mn_*((len:Int)+1):=Int.mul_nonneg (by omega) (by omega);omega
 have U0:U 0=cs:=by
  show zY cs (yj ((zE LN).getD tg 0) g (min (0*side) mn_.toNat))=cs;rw [Nat.zero_mul,Nat.zero_min];rfl
 have key:=round_run (Lx:=Lx) (n:=len+(Yg (Yt t || xy v) (YT tg (maskOf t)) n).length) (D:=W*(len+1)) (N0:=N0) (NS:=NS) (U:=U) (C:=λ_=>none) (Fin:=λM'=>∃ (e:Nat) (z:Str),(e:Int)<mn_/\g e=.bad z/\(∀ i:Nat,i<e->(g i).isBad=false)/\M'.rq_=some (n,(e:Int),z)/\M'.cells=zY cs (yj ((zE LN).getD tg 0) g e)) (Z:=λi=>∀ e:Nat,e<B i->(g e).isBad=false) (us:=us) (rs:=rs) (pk:=pk) lx.bg lx.nx (by rw [U0];exact h) hx rfl (λe he=>absurd he (by show ¬ e<min (0*side) mn_.toNat;omega)) hg m1 c0 cn hN ?_
 rotate_left
 ·intro i T1 M1 hi sa hr hca hz
  obtain ⟨w1,b1⟩:=BW i hi;have bi:=Bi i hi;have lt:=(hN i).mp hi;have d1:=DN (i+1) hi;have wl:wid mn_ (mi*L) (i*(mi*L))*(len+1)<=W*(len+1):=Nat.mul_le_mul_right _ w1;have e1:(i+1)*(W*(len+1))=i*(W*(len+1))+W*(len+1):=by rw [Nat.add_mul,Nat.one_mul]
  have e2:wid mn_ (mi*L) (i*(mi*L))*(len+1)=len*wid mn_ (mi*L) (i*(mi*L))+wid mn_ (mi*L) (i*(mi*L)):=by rw [Nat.mul_add,Nat.mul_one,Nat.mul_comm]
  rw [e1] at d1 ⊢;have wf:Wf (N0+i*(W*(len+1))) T1 M1:=⟨hr.t,by rw [sa.flt];exact Nat.zero_le _,hr.s,(by rw [sa.flt];exact λp hp=>nomatch hp),(λj hj=>by rw [sa.flt] at hj;cases hj),hr.so⟩;generalize hb:(i:Int)*(mi*L)=b at *;have ro:RowsOk LN (U i) mn_ mi b L se:=⟨by rw [bi];omega,m1,hg,hse,lt⟩;obtain ⟨k1,M2,T2,st1,ld⟩:=zet (code:=code) (t:=t) (v:=v) (fs:=fs) (kk:=kk) lx hs ro (by rw [ul];exact hc) (uk i) sa wf (by rw [hlen];omega) cb;rw [hlen] at ld
  have hE:∀ x:Nat,x<wid mn_ (mi*L) b->(λj:Int=>eOut (t.map λf=>F2.worth fs kk ⟨LN,U i,b+j,[]⟩ f) (F2.worth fs kk ⟨LN,U i,b+j,[]⟩ v)) (x:Int)=g (B i+x):=λx hx=>by
   have lx':b+(x:Int)<mn_:=by unfold wid at hx;omega
   obtain ⟨s1,s2⟩:=same i (b+x) (by omega) lx';show eOut (t.map λf=>F2.worth fs kk ⟨LN,U i,b+(x:Int),[]⟩ f) (F2.worth fs kk ⟨LN,U i,b+(x:Int),[]⟩ v)=eOut (t.map λf=>F2.worth fs kk ⟨LN,cs,((B i+x:Nat):Int),[]⟩ f) (F2.worth fs kk ⟨LN,cs,((B i+x:Nat):Int),[]⟩ v);rw [show ((B i+x:Nat):Int)=b+x by rw [bi,Int.natCast_add],s1];congr 1
   cases t with
   | none=>rfl
   | some f=>exact congrArg some (s2 f rfl)
  have sl:=strip_let (tg:=tg) (n:=n) (g:=g) (B:=B i) (cs0:=cs) (may:=(Yt t || xy v)) (us:=us) (rs:=rs) (pk:=pk) lx.t hS (ro.p8 (p:=0) (by have:=hse;rcases hg with e | e | e <;> rw [e] at this <;> omega)) (by cases t <;> exact Nat.le_of_ble_eq_true rfl) ld sa.wide sa.cut hr.r hr.u hr.p hca bi hE (λhm' e=>bad_may hs hm' e) rfl (by omega) (by rw [YO];exact ht) ⟨st0.1,by rw [ul];exact st0.2⟩ ct;rcases sl with ⟨m,M3,T3,st3,i3,r3,c3,z3⟩ | ⟨m,M3,c,z,st3,rf3,ce3,cw,gz,z3⟩
  ·refine .inl ⟨_,M3,T3,st1.trans st3,?_,⟨Nat.le_trans r3.t (by omega),Nat.le_trans r3.s (by omega),r3.so,r3.r,r3.u,r3.p⟩,c3,λe he=>?_⟩
   ·show InS _ _ _ _ _ _ _ _ (zY cs (yj ((zE LN).getD tg 0) g (B (i+1))),T3) M3
    rw [b1,show len+(Yg (Yt t || xy v) (YT tg (maskOf t)) n).length+1=1+len+(Yg (Yt t || xy v) (YT tg (maskOf t)) n).length by omega];exact i3
   ·by_cases y:e<B i
    ·exact hz e y
    ·have:=z3 (e-B i) (by omega)
     rw [show B i+(e-B i)=e by omega] at this;exact this
  ·refine .inr ⟨_,M3,st1.trans st3,B i+c,z,?_,gz,λe he=>?_,rf3,ce3⟩
   ·unfold wid at cw;omega
   ·by_cases y:e<B i
    ·exact hz e y
    ·have:=z3 (e-B i) (by omega)
     rw [show B i+(e-B i)=e by omega] at this;exact this
 have BN:B NS=mn_.toNat:=by
  have:¬ (NS:Int)*(side:Int)<mn_:=λz=>by have:=(hN' NS).mpr z;omega
  have e:((NS*side:Nat):Int)=(NS:Int)*side:=Int.natCast_mul _ _;show min (NS*side) mn_.toNat=_;omega
 rcases key with ⟨k,M',T',st,rs',hr',z'⟩ | w
 ·left
  have d:=DN NS (Nat.le_refl _);refine ⟨k,M',T',st,?_,⟨Nat.le_trans hr'.t d,Nat.le_trans hr'.s d,hr'.so,hr'.r,hr'.u,hr'.p⟩,λe he=>z' e (by rw [BN];omega)⟩;rw [el,← BN];exact rs'
 ·exact .inr w
--@FI
end
structure KF (K:Fg) (C:Ad):Prop where
 cl:Cls K C
 k1:PySem.W.findIn K (.ref C) "__class__"=some (some (.builtin "object.__class__"))
 k2:PySem.W.specialIn K (.builtin "object.__class__") "__get__"=some (some (.builtin "getset_descriptor.__get__"))
 k3:PySem.W.takesIn K (.builtin "object.__class__")=some true
 k4:PySem.W.mroIn K C (.type "object")=some true
def KF.ty {K:Fg} {C:Ad} (s:KF K C) {H:Hp} {x dx:Ad} {fl:List (Str×V)} (h:H x=some (.ins C dx fl)):TyX K H (.ref x) (.ref C):=.inl (.ins h s.cl s.k1 s.k2 s.k3 s.k4)
structure FormG (mg:J0) (c:F2.Cs):Prop where
 at':mg "At"=some (.ref c.at')
 pair:mg "Pair"=some (.ref c.pair)
 cho:mg "Choice"=some (.ref c.cho)
 call:mg "Call"=some (.ref c.call)
 num:mg "Number"=some (.ref c.num)
 here:mg "Here"=some (.ref c.here)
 cell:mg "Cell"=some (.ref c.cell)
 shi:mg "Shifted"=some (.ref c.shi)
abbrev isK (K:Fg) (C D:Ad) (b:Bool):Prop:=PySem.W.kitOne K (.ref C) (.ref D)=some b
structure ClsK (K:Fg) (c:F2.Cs) (C:Ad) (a p o u n h e s:Bool):Prop where
 k:KF K C
 a:isK K C c.at' a
 p:isK K C c.pair p
 o:isK K C c.cho o
 u:isK K C c.call u
 n:isK K C c.num n
 h:isK K C c.here h
 e:isK K C c.cell e
 s:isK K C c.shi s
def isA:F2.Fm->Bool
 | .at' _ _=>true
 | _=>false
def isP:F2.Fm->Bool
 | .pair _ _ _=>true
 | _=>false
def isO:F2.Fm->Bool
 | .cho _ _ _=>true
 | _=>false
def isU:F2.Fm->Bool
 | .call _ _=>true
 | _=>false
def isN:F2.Fm->Bool
 | .num _=>true
 | _=>false
def isH:F2.Fm->Bool
 | .here=>true
 | _=>false
def isE:F2.Fm->Bool
 | .cell _=>true
 | _=>false
def isS:F2.Fm->Bool
 | .shi _ _ _=>true
 | _=>false
def clsF (c:F2.Cs):F2.Fm->Ad
 | .num _=>c.num
 | .here=>c.here
 | .cell _=>c.cell
 | .shi _ _ _=>c.shi
 | .loc _=>c.loc
 | .at' _ _=>c.at'
 | .pair _ _ _=>c.pair
 | .cho _ _ _=>c.cho
 | .call _ _=>c.call
structure FormK (K:Fg) (c:F2.Cs):Prop where
 num:ClsK K c c.num false false false false true false false false
 n1:NoAttr K c.num "number"
 cell:ClsK K c c.cell false false false false false false true false
 c1:NoAttr K c.cell "row"
 here:ClsK K c c.here false false false false false true false false
 pair:ClsK K c c.pair false true false false false false false false
 p1:NoAttr K c.pair "sign"
 p2:NoAttr K c.pair "left"
 p3:NoAttr K c.pair "right"
theorem FormK.of {K:Fg} {c:F2.Cs} (L:FormK K c):∀ F:F2.Fm,Fit F->ClsK K c (clsF c F) (isA F) (isP F) (isO F) (isU F) (isN F) (isH F) (isE F) (isS F)
 | .num _,_=>L.num
 | .cell _,_=>L.cell
 | .here,_=>L.here
 | .pair _ _ _,_=>L.pair
theorem zaz {c:F2.Cs} {H:Hp} {x:Ad}:∀ {F:F2.Fm},Fit F->F2.FormAt c H F x->∃ dx fl,H x=some (.ins (clsF c F) dx fl)
 | .num _,_,⟨dx,h⟩=>⟨dx,_,h⟩
 | .cell _,_,⟨dx,h⟩=>⟨dx,_,h⟩
 | .here,_,⟨dx,h⟩=>⟨dx,_,h⟩
 | .pair _ _ _,_,⟨dx,_,_,h,_⟩=>⟨dx,_,h⟩
def szU (n:Nat) (h:n<=1000:=by decide):n<=sizeLine:=Nat.le_trans h (by decide)
def max_nat (a c:Nat):(if (c:Int) > (a:Int) then (c:Int) else a)=((max a c:Nat):Int):=by split <;> omega
def spNv:Sp:=λ_ _ _ _=>False
def ZN {x:Str} {st:Stmt} {N ps:Jb} (d:zk K mg x st ps) (S:FnScope N ps (ze st)):Ok P w K mg base CX0 1 x ps spNv:=by
 obtain ⟨g,fd,m,F,b⟩:=d;exact ⟨g,fd,m,F.kp,b,F.ok S (λ_ _ _ _ h=>h.elim) λ_ _ _ _ _ _ _ _ _ h=>h.elim⟩
inductive spSF (c:F2.Cs) (n:Nat) (vs:Jj) (H:Hp) (Q:VK) (_:XK):Prop
 | mk (x:Ad) (fu:V) (F:F2.Fm) (_:vs=[.ref x,fu]) (_:F2.FormAt c H F x) (_:Fit F) (_:hF F<=n) (_:∀ H',Same H H'->Q (.int (sN F)) H')
inductive spS2 (c:F2.Cs) (n:Nat) (vs:Jj) (H:Hp) (Q:VK) (_:XK):Prop
 | mk (x y:Ad) (fu:V) (F G:F2.Fm) (_:vs=[.ref x,.ref y,fu]) (_:F2.FormAt c H F x) (_:F2.FormAt c H G y) (_:Fit F) (_:Fit G) (_:hF F<=n) (_:hF G<=n) (_:∀ H',Same H H'->Q (.int (max (sN F) (1+sN G):Nat)) H')
def ok_s2 {c:F2.Cs} {n:Nat} (d:zk K mg "seats_for_two" yz qL) (hmax:mg "max"=none) (SF:Ok P w K mg base CX0 (2*n+2) "seats_for" qI (spSF c n)):Ok P w K mg base CX0 (2*n+3) "seats_for_two" qL (spS2 c n):=by
 refine oDf d sc_seats_for_two λg mh A _ s H vs Q E hr h=>?_;obtain ⟨x,y,fu,F,G,rfl,hx,hy,fF,fG,nF,nG,k⟩:=h;have nd:=sc_seats_for_two.nd;have hrS:=hr;refine ⟨_,(zf (zm (zp (YF rfl) (by rfl) hmax PyProof.Rows.boot_max (zb (zv SF hrS (by rfl) zo (zb (pv 0) (zb (pv 2) zc))) (zb (zn zP zg (zv SF hrS (by rfl) zo (zb (pv 1) (zb (pv 2) zc)))) zc))))),?_⟩;refine ⟨_,rfl,_,rfl,x,fu,F,rfl,hx,fF,nF,λH1 s1=>?_⟩;refine ⟨_,rfl,_,rfl,y,fu,G,rfl,hy.same s1,fG,nG,λH2 s2=>?_⟩;refine ⟨_,_,rfl,rfl,_,_,rfl,?_⟩;have e:(1:Int)+(sN G:Int)=((1+sN G:Nat):Int):=by omega
 show Q (.int (if (1:Int)+(sN G:Int) > (sN F:Int) then (1:Int)+(sN G:Int) else (sN F:Int))) H2;rw [e,max_nat];exact k H2 (s1.trans s2)
def ok_sf_s {c:F2.Cs} {n:Nat} {spS sp2:Sp} (h1:∀ n',n=n'+1->spS=spSF c n') (h2:∀ n',n=n'+1->sp2=spS2 c n') (d:zk K mg "seats_for" xV qI) (hisi:mg "isinstance"=none) (hmax:mg "max"=none) (G:FormG mg c) (L:FormK K c) (SF:Ok P w K mg base CX0 (2*n+1) "seats_for" qI spS) (S2:Ok P w K mg base CX0 (2*n+1) "seats_for_two" qL sp2) (SC:Ok P w K mg base CX0 1 "seats_for_call" qI spNv):Ok P w K mg base CX0 (2*n+2) "seats_for" qI (spSF c n):=by
 refine oDf d sc_seats_for λg mh A _ s H vs Q E hr h=>?_;obtain ⟨x,fu,F,rfl,hx,fF,nF,k⟩:=h;have nd:=sc_seats_for.nd;have hrS:=hr;have hr1:Room 1 _:=hr.mono (by omega);have s:=L.of F fF;obtain ⟨dx,fl,ex⟩:=zaz fF hx;refine ⟨_,(zd (zL (yb (zp zC (by rfl) hisi PyProof.Rows.boot_isinstance (zb (pv 0) (zb (zZ G.at') zc)))) (zf (zm (zv SF hrS (by rfl) zo (zb (zh (pv 0) rfl) (zb (pv 1) zc))))) zy)
   (zd (zL (yb (zp zC (by rfl) hisi PyProof.Rows.boot_isinstance (zb (pv 0) (zb (zZ G.pair) zc)))) (zf (zm (zv S2 hrS (by rfl) zo (zb (zh (pv 0) rfl) (zb (zh (pv 0) rfl) (zb (pv 1) zc)))))) zy)
   (zd (zL (yb (zp zC (by rfl) hisi PyProof.Rows.boot_isinstance (zb (pv 0) (zb (zZ G.cho) zc)))) (zf (zm (zp (YF rfl) (by rfl) hmax PyProof.Rows.boot_max (zb (zv SF hrS (by rfl) zo (zb (zh (pv 0) rfl) (zb (pv 1) zc))) (zb (zv S2 hrS (by rfl) zo (zb (zh (pv 0) rfl) (zb (zh (pv 0) rfl) (zb (pv 1) zc)))) zc))))) zy)
   (zd (zL (yb (zp zC (by rfl) hisi PyProof.Rows.boot_isinstance (zb (pv 0) (zb (zZ G.call) zc)))) (zf (zm (zv SC hr1 (by rfl) zo (zb (pv 0) (zb (pv 1) zc))))) zy)
   (zf (zm zg)))))),?_⟩
 show (let s1:L2.TS:=_;let s2:L2.TS:=L2.tSeq _ s1;let s3:L2.TS:=L2.tSeq _ s2;let s4:L2.TS:=L2.tSeq _ s3;L2.tSeq _ s4 _ _ _);intro s1 s2 s3 s4;refine ⟨_,rfl,_,_,.ref c.at',_,isA F,rfl,rfl,(λu r=>r),s.k.ty ex,s.a,_,rfl,?_⟩;refine yo (λz=>?_) (λz=>?_)
 ·cases F with
  | _=>first | exact absurd z Bool.noConfusion | exact fF.elim
 refine ⟨_,rfl,_,_,.ref c.pair,_,isP F,rfl,rfl,(λu r=>r),s.k.ty ex,s.p,_,rfl,?_⟩;refine yo (λz=>?_) (λz=>?_)
 ·cases F with
  | pair sg l r =>
   obtain ⟨dx,y,y2,ex,hy,hy2⟩:=hx;have nn:max (hF l) (hF r)+1<=n:=nF;have n1:n=n-1+1:=by omega
   have e2:=h2 _ n1;subst e2;exact ⟨_,rfl,x,_,dx,_,.ref y,rfl,ex,L.pair.k.cl,L.p2,rfl,_,rfl,x,_,dx,_,.ref y2,rfl,ex,L.pair.k.cl,L.p3,rfl,_,rfl,y,y2,fu,l,r,rfl,hy,hy2,fF.1,fF.2,by omega,by omega,k⟩
  | _=>first | exact absurd z Bool.noConfusion | exact fF.elim
 refine ⟨_,rfl,_,_,.ref c.cho,_,isO F,rfl,rfl,(λu r=>r),s.k.ty ex,s.o,_,rfl,?_⟩;refine yo (λz=>?_) (λz=>?_)
 ·cases F with
  | _=>first | exact absurd z Bool.noConfusion | exact fF.elim
 refine ⟨_,rfl,_,_,.ref c.call,_,isU F,rfl,rfl,(λu r=>r),s.k.ty ex,s.u,_,rfl,?_⟩;refine yo (λz=>?_) (λz=>?_)
 ·cases F with
  | call a hs=>exact fF.elim
  | _=>first | exact absurd z Bool.noConfusion | exact fF.elim
 have e:sN F=1:=by
  cases F with
  | at' r p=>exact absurd rfl ‹¬isA (.at' r p)=true›
  | pair sg l r=>exact absurd rfl ‹¬isP (.pair sg l r)=true›
  | cho t l r=>exact absurd rfl ‹¬isO (.cho t l r)=true›
  | _=>rfl
 rw [e] at k;exact k H (Same.refl _)
theorem ok_sf {c:F2.Cs} (d:zk K mg "seats_for" xV qI) (d2:zk K mg "seats_for_two" yz qL) (dc:zk K mg "seats_for_call" yQ qI) (hisi:mg "isinstance"=none) (hmax:mg "max"=none) (G:FormG mg c) (L:FormK K c):∀ n:Nat,Ok P w K mg base CX0 (2*n+2) "seats_for" qI (spSF c n)
 | 0=>ok_sf_s (λn' e=>by cases e) (λn' e=>by cases e) d hisi hmax G L (ZN d sc_seats_for) (ZN d2 sc_seats_for_two) (ZN dc Zt)
 | n+1=>by
  have h:=ok_sf d d2 dc hisi hmax G L n;exact ok_sf_s (λn' e=>by cases e;rfl) (λn' e=>by cases e;rfl) d hisi hmax G L (h.mono (by omega)) ((ok_s2 d2 hmax h).mono (by omega)) (ZN dc Zt)
structure QCs where
 ma:Ad
 ai:Ad
 let_:Ad
 put:Ad
 fold:Ad
 run:Ad
 till:Ad
 pr:Ad
structure MakerC (K:Fg) (C:Ad):Prop where
 c:Cls K C
 n0:NoAttr K C "lengths"
 n1:NoAttr K C "functions"
 n2:NoAttr K C "seats"
 n3:NoAttr K C "code"
 n4:NoAttr K C "free_slot"
structure AimC (K:Fg) (C:Ad):Prop where
 c:Cls K C
 n0:NoAttr K C "seat"
 n1:NoAttr K C "mask"
 n2:NoAttr K C "level"
 n3:NoAttr K C "own"
structure AimG (mg:J0) (q:QCs):Prop where
 ma:mg "Maker"=some (.ref q.ma)
 ai:mg "Aim"=some (.ref q.ai)
def mkFl (le fu:Ad) (se:Nat) (cd:Ad) (fs:Nat):List (Str×V):=[("lengths",.ref le),("functions",.ref fu),("seats",.int se),("code",.ref cd),("free_slot",.int fs)]
def aimFl (p mk lv:Nat) (ow:Ad):List (Str×V):=[("seat",.int p),("mask",.int mk),("level",.int lv),("own",.ref ow)]
abbrev MkAt (q:QCs) (B:Hp) (m dm le fu cd:Ad) (se fs:Nat) (cs:Jc) (H:Hp):Prop:=Hd B [(cd,.lst (cs.map V.ref)),(m,.ins q.ma dm (mkFl le fu se cd fs))] H
def AimAt (q:QCs) (B:Hp) (a:Ad) (p mk lv:Nat) (ow:Ad):Prop:=∃ da,B a=some (.ins q.ai da (aimFl p mk lv ow))
def InL (lens:J6):F2.Fm->Prop
 | .cell r=>0<=r/\r.toNat<lens.length
 | .pair _ l r=>InL lens l/\InL lens r
 | .cho t l r=>InL lens t/\InL lens l/\InL lens r
 | .at' _ p=>InL lens p
 | _=>True
def cN:F2.Fm->Nat
 | .pair _ l r=>cN l+cN r+3
 | .cho t l r=>cN t+cN l+cN r+5
 | .at' _ p=>cN p+1
 | _=>1
def two_len {fits:Prop} [Decidable fits] {c1 c2 c2':List (Jj)} {p s mk a b:Nat} (h1:c1.length<=a) (h2:c2.length<=b) (h3:c2'.length<=b):(Yn fits c1 c2 c2' p s mk).length<=a+b+2:=by
 unfold Yn
 split
 ·rw [Jf];omega
 ·rw [Jf,Jf,Jf]
  show c1.length+1+c2'.length+1<=_;omega
theorem xg (lens:J6) (se:Nat):∀ (F:F2.Fm) (p mk lv s:Nat),Fit F->(mkF lens se F p mk lv s).length<=cN F
 | .num n,p,mk,lv,s,_=>Nat.le_refl _
 | .cell n,p,mk,lv,s,_=>Nat.le_refl _
 | .here,p,mk,lv,s,_=>Nat.le_refl _
 | .pair sg l r,p,mk,lv,s,hf=>by
  show (Yn _ _ _ _ _ _ _++[_]).length<=cN l+cN r+3;rw [Jf];have:=two_len (fits:=p+1+sN r<=se) (p:=p) (s:=s) (mk:=mk) (xg lens se l p mk lv s hf.1) (xg lens se r (p+1) mk lv s hf.2) (xg lens se r p mk lv (s+1) hf.2);show _+1<=_;omega
def MkAt.row {q:QCs} {B:Hp} {m dm le fu cd t:Ad} {se fs:Nat} {cs:Jc} {H:Hp} (h:MkAt q B m dm le fu cd se fs cs H):MkAt q B m dm le fu cd se fs (cs++[t]) (upd H cd (.lst (cs.map V.ref++[.ref t]))):=by
 have:=Hd.put (o':=.lst (cs.map V.ref++[.ref t])) h 0 rfl;show Hd B [(cd,.lst ((cs++[t]).map V.ref)),_] _;rw [Jg];exact this
def MkAt.free' {q:QCs} {B:Hp} {m dm le fu cd:Ad} {se fs fs':Nat} {cs:Jc} {H:Hp} (h:MkAt q B m dm le fu cd se fs cs H):MkAt q B m dm le fu cd se fs' cs (upd H m (.ins q.ma dm (mkFl le fu se cd fs'))):=Hd.put h 1 rfl
theorem yA {B:Hp} {t:Ad} {tv:Jj} (e:B t=some (.tup tv)):CodeAt B [t] [tv]:=⟨rfl,λi b v hx hy=>by
 match i,hx,hy with
 | 0,hx,hy=>cases hx;cases hy;exact e
 | i+1,hx,hy=>cases hx⟩
def CodeAt.same {B B':Hp} {cs:Jc} {code:List (Jj)} (h:CodeAt B cs code) (s:Same B B'):CodeAt B' cs code:=⟨h.n,λi a tv x y=>s _ _ (h.t i a tv x y)⟩
def cellT (lens:J6) (p mk:Nat) (r:Int):Jj:=if lens.getD r.toNat 0=1 then [.str "spread",.int p,.int r,.int mk] else [.str "load",.int p,.int r,.int mk]
inductive spCellStep (c:F2.Cs) (q:QCs) (K:Fg) (vs:Jj) (H:Hp) (Q:VK) (_:XK):Prop
 | mk (m x a dm da dx le fu cd ow:Ad) (se fs p mk lv:Nat) (lens:J6) (r:Int) (_:vs=[.ref m,.ref x,.ref a]) (_:H m=some (.ins q.ma dm (mkFl le fu se cd fs))) (_:H a=some (.ins q.ai da (aimFl p mk lv ow))) (_:H x=some (.ins c.cell dx [("row",.int r)])) (_:SqL K H le (lens.map V.int)) (_:0<=r) (_:r.toNat<lens.length) (_:∀ t,H t=none->Q (.ref t) (upd H t (.tup (cellT lens p mk r))))
def zdz {c:F2.Cs} {q:QCs} (d:zk K mg "cell_step" ZH qB) (L:FormK K c) (MC:MakerC K q.ma) (AC:AimC K q.ai):Ok P w K mg base CX0 1 "cell_step" qB (spCellStep c q K):=by
 refine oDf d sc_cell_step λg mh A _ s H vs Q E hr h=>?_;obtain ⟨m,x,a,dm,da,dx,le,fu,cd,ow,se,fs,p,mk,lv,lens,r,rfl,hm,ha,hx,hl,r0,rl,k⟩:=h;have nd:=sc_cell_step.nd;refine ⟨_,(zd (zL (zF y8 (zB z6 (zh (pv 0) rfl) (zh (pv 1) rfl) (λ_ _=>rfl)) zg (zJ _)) (zf (zm (yc (zb zV (zb (zh (pv 2) rfl) (zb (zh (pv 1) rfl) (zb (zh (pv 2) rfl) zc))))))) zy)
   (zf (zm (yc (zb zV (zb (zh (pv 2) rfl) (zb (zh (pv 1) rfl) (zb (zh (pv 2) rfl) zc)))))))),?_⟩
 refine ⟨_,rfl,m,_,dm,_,.ref le,rfl,hm,MC.c,MC.n0,rfl,_,rfl,x,_,dx,_,.int r,rfl,hx,L.cell.k.cl,L.c1,rfl,le,_,_,_,rfl,rfl,hl,xA r.toNat rl (by omega),rfl,_,rfl,?_⟩;unfold cellT at k;refine yo (λz=>?_) (λz=>?_)
 ·rw [if_pos (V.int.inj (of_decide_eq_true z))] at k
  exact ⟨_,rfl,a,_,da,_,.int p,rfl,ha,AC.c,AC.n0,rfl,_,rfl,x,_,dx,_,.int r,rfl,hx,L.cell.k.cl,L.c1,rfl,_,rfl,a,_,da,_,.int mk,rfl,ha,AC.c,AC.n1,rfl,szU 4,λt nt=>k t nt⟩
 ·rw [if_neg (λy=>z (decide_eq_true (congrArg V.int y)))] at k
  exact ⟨_,rfl,a,_,da,_,.int p,rfl,ha,AC.c,AC.n0,rfl,_,rfl,x,_,dx,_,.int r,rfl,hx,L.cell.k.cl,L.c1,rfl,_,rfl,a,_,da,_,.int mk,rfl,ha,AC.c,AC.n1,rfl,szU 4,λt nt=>k t nt⟩
def isLeaf (F:F2.Fm):Bool:=!(isA F || isP F || isO F || isU F)
inductive spLeafStep (c:F2.Cs) (q:QCs) (K:Fg) (vs:Jj) (H:Hp) (Q:VK) (_:XK):Prop
 | mk (m x a dm da le fu cd ow:Ad) (se fs p mk lv:Nat) (lens:J6) (F:F2.Fm) (_:vs=[.ref m,.ref x,.ref a]) (_:H m=some (.ins q.ma dm (mkFl le fu se cd fs))) (_:H a=some (.ins q.ai da (aimFl p mk lv ow))) (_:F2.FormAt c H F x) (_:Fit F) (_:isLeaf F=true) (_:SqL K H le (lens.map V.int)) (_:InL lens F) (_:∀ t tv,H t=none->mkF lens se F p mk lv fs=[tv]->Q (.ref t) (upd H t (.tup tv)))
def zdx {c:F2.Cs} {q:QCs} (d:zk K mg "leaf_step" ZC qB) (hisi:mg "isinstance"=none) (G:FormG mg c) (L:FormK K c) (MC:MakerC K q.ma) (AC:AimC K q.ai) (CS:Ok P w K mg base CX0 1 "cell_step" qB (spCellStep c q K)):Ok P w K mg base CX0 2 "leaf_step" qB (spLeafStep c q K):=by
 refine oDf d sc_leaf_step λg mh A _ s H vs Q E hr h=>?_;obtain ⟨m,x,a,dm,da,le,fu,cd,ow,se,fs,p,mk,lv,lens,F,rfl,hm,ha,hx,fF,lF,hl,rl,k⟩:=h;have nd:=sc_leaf_step.nd;have hr1:=hr;have s:=L.of F fF;obtain ⟨dx',fl',ex'⟩:=zaz fF hx;refine ⟨_,(zd (zL (yb (zp zC (by rfl) hisi PyProof.Rows.boot_isinstance (zb (pv 1) (zb (zZ G.num) zc)))) (zf (zm (yc (zb zV (zb (zh (pv 2) rfl) (zb (zh (pv 1) rfl) (zb (zh (pv 2) rfl) zc))))))) zy)
   (zd (zL (yb (zp zC (by rfl) hisi PyProof.Rows.boot_isinstance (zb (pv 1) (zb (zZ G.here) zc)))) (zf (zm (yc (zb zV (zb (zh (pv 2) rfl) (zb (zh (pv 2) rfl) zc)))))) zy)
   (zd (zL (yb (zp zC (by rfl) hisi PyProof.Rows.boot_isinstance (zb (pv 1) (zb (zZ G.cell) zc)))) (zf (zm (zv CS hr1 (by rfl) zo (zb (pv 0) (zb (pv 1) (zb (pv 2) zc)))))) zy)
   (zd (zL (yb (zp zC (by rfl) hisi PyProof.Rows.boot_isinstance (zb (pv 1) (zb (zZ G.shi) zc)))) (zf (zm (yc (zb zV (zb (zh (pv 2) rfl) (zb (zh (pv 1) rfl) (zb (zh (pv 1) rfl) (zb (zh (pv 1) rfl) (zb (zh (pv 2) rfl) zc))))))))) zy)
   (zf (zm (yc (zb zV (zb (zh (pv 2) rfl) (zb (zB z6 (zh (pv 2) rfl) (zh (pv 1) rfl) (λ_ _=>rfl)) (zb (zh (pv 2) rfl) zc))))))))))),?_⟩
 show (let s1:L2.TS:=_;let s2:L2.TS:=L2.tSeq _ s1;let s3:L2.TS:=L2.tSeq _ s2;let s4:L2.TS:=L2.tSeq _ s3;L2.tSeq _ s4 _ _ _);intro s1 s2 s3 s4;refine ⟨_,rfl,_,_,.ref c.num,_,isN F,rfl,rfl,(λu r=>r),s.k.ty ex',s.n,_,rfl,?_⟩;refine yo (λz=>?_) (λz1=>?_)
 ·cases F with
  | num n =>
   obtain ⟨dx,ex⟩:=hx;exact ⟨_,rfl,a,_,da,_,.int p,rfl,ha,AC.c,AC.n0,rfl,_,rfl,x,_,dx,_,.int n,rfl,ex,L.num.k.cl,L.n1,rfl,_,rfl,a,_,da,_,.int mk,rfl,ha,AC.c,AC.n1,rfl,szU 4,λt nt=>k t _ nt rfl⟩
  | _=>exact absurd z Bool.noConfusion
 refine ⟨_,rfl,_,_,.ref c.here,_,isH F,rfl,rfl,(λu r=>r),s.k.ty ex',s.h,_,rfl,?_⟩;refine yo (λz=>?_) (λz2=>?_)
 ·cases F with
  | here=>exact ⟨_,rfl,a,_,da,_,.int p,rfl,ha,AC.c,AC.n0,rfl,_,rfl,a,_,da,_,.int mk,rfl,ha,AC.c,AC.n1,rfl,szU 3,λt nt=>k t _ nt rfl⟩
  | _=>first | exact absurd z Bool.noConfusion | exact fF.elim
 refine ⟨_,rfl,_,_,.ref c.cell,_,isE F,rfl,rfl,(λu r=>r),s.k.ty ex',s.e,_,rfl,?_⟩;refine yo (λz=>?_) (λz3=>?_)
 ·cases F with
  | cell r =>
   obtain ⟨dx,ex⟩:=hx;exact ⟨_,rfl,_,rfl,_,rfl,m,x,a,dm,da,dx,le,fu,cd,ow,se,fs,p,mk,lv,lens,r,rfl,hm,ha,ex,hl,rl.1,rl.2,λt nt=>k t _ nt rfl⟩
  | _=>exact absurd z Bool.noConfusion
 exfalso
 cases F with
 | num n=>exact z1 rfl
 | here=>exact z2 rfl
 | cell r=>exact z3 rfl
 | shi r b o=>exact fF.elim
 | loc a=>exact fF.elim
 | at' r p=>exact absurd lF Bool.noConfusion
 | pair sg l r=>exact absurd lF Bool.noConfusion
 | cho t l r=>exact absurd lF Bool.noConfusion
 | call a hs=>exact absurd lF Bool.noConfusion
def Hd.m {q:QCs} {B:Hp} {m dm le fu cd:Ad} {se fs:Nat} {cs:Jc} {H:Hp} (h:MkAt q B m dm le fu cd se fs cs H):H m=some (.ins q.ma dm (mkFl le fu se cd fs)):=Hd.get h 1 rfl
inductive spMk (c:F2.Cs) (q:QCs) (K:Fg) (n:Nat) (vs:Jj) (H:Hp) (Q:VK) (_:XK):Prop
 | mk (B:Hp) (m x a dm le fu cd ow:Ad) (se fs p mk lv:Nat) (cs:Jc) (lens:J6) (F:F2.Fm) (_:vs=[.ref m,.ref x,.ref a]) (_:MkAt q B m dm le fu cd se fs cs H) (_:AimAt q B a p mk lv ow) (_:F2.FormAt c B F x) (_:Fit F) (_:hF F<=n) (_:SqL K B le (lens.map V.int)) (_:InL lens F) (_:cs.length+cN F<=900) (_:∀ B' H' ts,Same B B'->MkAt q B' m dm le fu cd se fs (cs++ts) H'->CodeAt B' ts (mkF lens se F p mk lv fs)->Q .non H')
inductive spPutBy (q:QCs) (vs:Jj) (H:Hp) (Q:VK) (_:XK):Prop
 | mk (B:Hp) (m dm le fu cd:Ad) (se fs p mk:Nat) (cs:Jc) (_:vs=[.ref m,.int p,.int mk]) (_:MkAt q B m dm le fu cd se fs cs H) (_:cs.length<=900) (_:∀ B' H' t,Same B B'->MkAt q B' m dm le fu cd se (fs+1) (cs++[t]) H'->B' t=some (.tup (saveT fs p mk))->Q (.int fs) H')
def ok_putby {q:QCs} (d:zN K q.ma "put_by" "Maker.put_by" xt Uk) (MC:MakerC K q.ma):OkM P w K mg base CX0 1 q.ma "put_by" Uk (spPutBy q):=by
 refine oMf d sc_Maker_put_by λf mh A _ s H vs Q E hr h=>?_;obtain ⟨B,m,dm,le,fu,cd,se,fs,p,mk,cs,rfl,h,cl,k⟩:=h;have nd:=sc_Maker_put_by.nd;refine ⟨_,(zd (oRz 3 nd (zh (pv 0) rfl))
   (zd (zG (Ys PySem.F.plainAttrs_list PySem.F.slot_list_append PySem.F.type_list_append yr (zh (pv 0) rfl) (zb (yc (zb zV (zb (pv 3) (zb (pv 1) (zb (pv 2) zc))))) zc)))
   (zd (zu (pv 0) (zn zP (pv 3) zg) rfl)
   (zf (zm (pv 3)))))),?_⟩
 show (let s1:L2.TS:=_;let s2:L2.TS:=L2.tSeq _ s1;let s3:L2.TS:=L2.tSeq _ s2;L2.tSeq _ s3 _ _ _);intro s1 s2 s3;refine ⟨_,rfl,m,_,dm,_,.int fs,rfl,Hd.m h,MC.c,MC.n4,rfl,?_⟩;refine ⟨_,rfl,m,_,dm,_,.ref cd,rfl,Hd.m h,MC.c,MC.n3,rfl,.inl ⟨rfl,_,Hd.lst h 0 rfl⟩,_,rfl,_,rfl,_,rfl,szU 4,λt nt=>?_⟩;generalize hX:upd _ _ _=H1;obtain ⟨B1,s1,e1,h1⟩:=hdG h hX nt;clear hX;refine ⟨cd,_,_,rfl,rfl,Hd.get h1 0 rfl,(by rw [Je];exact Nat.lt_of_le_of_lt cl (by decide)),?_⟩;have h2:=MkAt.row (t:=t) h1;generalize hX:upd _ _ _=H2 at h2 ⊢;clear hX;refine ⟨_,rfl,_,_,rfl,rfl,_,rfl,m,_,dm,_,rfl,Hd.m h2,MC.c,MC.n4,(by show 5<1000;decide),?_⟩;have h3:=MkAt.free' (fs':=fs+1) h2;exact ⟨_,rfl,k B1 _ t s1 h3 e1⟩
inductive spTwo (c:F2.Cs) (q:QCs) (K:Fg) (n:Nat) (vs:Jj) (H:Hp) (Q:VK) (_:XK):Prop
 | mk (B:Hp) (m x a1 y a2 dm le fu cd ow:Ad) (se fs p mk1 mk2 lv:Nat) (cs:Jc) (lens:J6) (F G:F2.Fm) (_:vs=[.ref m,.ref x,.ref a1,.ref y,.ref a2]) (_:MkAt q B m dm le fu cd se fs cs H) (_:AimAt q B a1 p mk1 lv ow) (_:AimAt q B a2 p mk2 lv ow) (_:F2.FormAt c B F x) (_:F2.FormAt c B G y) (_:(Fit F/\Fit G)) (_:hF F<=n) (_:hF G<=n) (_:SqL K B le (lens.map V.int)) (_:InL lens F) (_:InL lens G) (_:cs.length+cN F+cN G+2<=900) (_:∀ B' H' ts t,Same B B'->MkAt q B' m dm le fu cd se fs (cs++ts) H'->CodeAt B' ts (Yn (p+1+sN G<=se) (mkF lens se F p mk1 lv fs) (mkF lens se G (p+1) mk2 lv fs) (mkF lens se G p mk2 lv (fs+1)) p fs mk1)->B' t=some (.tup (if p+1+sN G<=se then [.int (p:Nat),.int (p+1:Nat)] else [.int (p+1:Nat),.int (p:Nat)]))->Q (.ref t) H')
def ok_two {c:F2.Cs} {q:QCs} {n:Nat} (d:zk K mg "make_two" Zp qG) (MC:MakerC K q.ma) (AC:AimC K q.ai) (AG:AimG mg q) (IA:OkI P w K mg base (CXe P w base) 1 q.ai qH (spI_Aim q.ai)) (PB:OkM P w K mg base CX0 1 q.ma "put_by" Uk (spPutBy q)) (SF:Ok P w K mg base CX0 (2*n+2) "seats_for" qI (spSF c n)) (MF:Ok P w K mg base CX0 (3*n+4) "make_form" qB (spMk c q K n)) :
  Ok P w K mg base CX0 (3*n+5) "make_two" qG (spTwo c q K n):=by
 refine oDf d sc_make_two λg mh A _ s H vs Q E hr h=>?_;obtain ⟨B,m,x,a1,y,a2,dm,le,fu,cd,ow,se,fs,p,mk1,mk2,lv,cs,lens,F,G,rfl,h,ha1,ha2,hx,hy,fFG,nF,nG,hl,lF,lG,cl,k⟩:=h;have nd:=sc_make_two.nd;have hrM:=hr;have hrS:Room (2*n+2) _:=hr.mono (by omega);have hr1:Room 1 _:=hr.mono (by omega);have hr2:Room 2 _:=hr.mono (by omega);obtain ⟨da1,ea1⟩:=ha1;obtain ⟨da2,ea2⟩:=ha2;refine ⟨_,(zd (oRz 5 nd (zh (pv 2) rfl))
   (zd (zG (zv MF hrM (by rfl) zo (zb (pv 0) (zb (pv 1) (zb (pv 2) zc)))))
   (zd (zL (zF op_le (zn zP (zn zP (pv 5) zg) (zv SF hrS (by rfl) zo (zb (pv 3) (zb (zh (pv 0) rfl) zc)))) (zh (pv 0) rfl) (zJ _)) (zd (zG (zv MF hrM (by rfl) zo (zb (pv 0) (zb (pv 3) (zb (xF IA AG.ai hr2 (by rfl) ZM (zb (zn zP (pv 5) zg) (zb (zh (pv 4) rfl) (zb (zh (pv 4) rfl) (zb (zh (pv 4) rfl) zc))))) zc)))))
   (zf (zm (yc (zb (pv 5) (zb (zn zP (pv 5) zg) zc)))))) zy)
   (zd (oRz 6 nd (zW PB MC.c hr1 zo (pv 0) (zb (pv 5) (zb (zh (pv 2) rfl) zc))))
   (zd (zG (zv MF hrM (by rfl) zo (zb (pv 0) (zb (pv 3) (zb (pv 4) zc)))))
   (zd (zG (Ys PySem.F.plainAttrs_list PySem.F.slot_list_append PySem.F.type_list_append yr (zh (pv 0) rfl) (zb (yc (zb zV (zb (zn zP (pv 5) zg) (zb (pv 6) (zb (zh (pv 2) rfl) zc))))) zc)))
   (zd (zu (pv 0) (pv 6) rfl)
   (zf (zm (yc (zb (zn zP (pv 5) zg) (zb (pv 5) zc)))))))))))),?_⟩
 show (let s1:L2.TS:=_;let s2:L2.TS:=L2.tSeq _ s1;let s3:L2.TS:=L2.tSeq _ s2;let s4:L2.TS:=L2.tSeq _ s3;let s5:L2.TS:=L2.tSeq _ s4;let s6:L2.TS:=L2.tSeq _ s5;let s7:L2.TS:=L2.tSeq _ s6;L2.tSeq _ s7 _ _ _);intro s1 s2 s3 s4 s5 s6 s7;refine ⟨_,rfl,a1,_,da1,_,.int p,rfl,h.sm _ _ ea1,AC.c,AC.n0,rfl,?_⟩;refine ⟨_,rfl,_,rfl,_,rfl,B,m,x,a1,dm,le,fu,cd,ow,se,fs,p,mk1,lv,cs,lens,F,rfl,h,⟨da1,ea1⟩,hx,fFG.1,nF,hl,lF,by omega,λB1 H1 ts1 s1 h1 c1=>?_⟩;have l1:ts1.length<=cN F:=by rw [c1.n];exact xg lens se F p mk1 lv fs fFG.1
 clear h;replace ea1:=s1 _ _ ea1;replace ea2:=s1 _ _ ea2;replace hy:=hy.same s1;replace hl:=zw hl s1;refine ⟨_,rfl,_,_,rfl,rfl,_,rfl,_,rfl,m,_,dm,_,.ref fu,rfl,Hd.m h1,MC.c,MC.n1,rfl,y,.ref fu,G,rfl,hy.same h1.sm,fFG.2,nG,λH2 s2=>?_⟩;obtain ⟨B2,sB2,h2,_⟩:=h1.over s2;replace h2:MkAt q B2 m dm le fu cd se fs (cs++ts1) H2:=h2;clear h1 s2;replace ea1:=sB2 _ _ ea1;replace ea2:=sB2 _ _ ea2;replace hy:=hy.same sB2;replace hl:=zw hl sB2;replace c1:=c1.same sB2;replace s1:=s1.trans sB2;clear sB2;refine ⟨_,_,rfl,rfl,_,rfl,m,_,dm,_,.int se,rfl,Hd.m h2,MC.c,MC.n2,rfl,_,_,rfl,rfl,_,rfl,?_⟩;have cs1:(cs++ts1).length<=cs.length+cN F:=by rw [Jf];omega
 refine yo (λz=>?_) (λz=>?_)
 ·have z:p+1+sN G<=se:=by have:=of_decide_eq_true z;omega
  unfold Yn at k;rw [if_pos z,if_pos z] at k;refine ⟨_,rfl,_,rfl,_,rfl,_,_,rfl,rfl,_,rfl,a2,_,da2,_,.int mk2,rfl,h2.sm _ _ ea2,AC.c,AC.n1,rfl,_,rfl,a2,_,da2,_,.int lv,rfl,h2.sm _ _ ea2,AC.c,AC.n2,rfl,_,rfl,a2,_,da2,_,.ref ow,rfl,h2.sm _ _ ea2,AC.c,AC.n3,rfl,?_⟩;refine λai dai n1 n2 n3=>⟨ai,dai,.int ((p:Int)+1),.int mk2,.int lv,.ref ow,rfl,zi,λH3 k3 e3=>⟨rfl,?_⟩⟩;obtain ⟨B3,s3,e3',h3⟩:=hdM h2 n1 n2 n3 k3 e3;refine ⟨B3,m,y,ai,dm,le,fu,cd,ow,se,fs,p+1,mk2,lv,cs++ts1,lens,G,rfl,h3,⟨dai,e3'⟩,hy.same s3,fFG.2,nG,zw hl s3,lG,by omega,λB4 H4 ts2 s4 h4 c2=>?_⟩;refine ⟨_,rfl,_,rfl,_,_,rfl,rfl,szU 2,λt nt=>?_⟩;generalize hX:upd _ _ _=H5;obtain ⟨B5,s5,e5,h5⟩:=hdG h4 hX nt;refine k B5 H5 (ts1++ts2) t (((s1.trans s3).trans s4).trans s5) (by rw [← List.append_assoc];exact h5) (yi (c1.same ((s3.trans s4).trans s5)) (c2.same s5)) e5
 ·have z:¬ p+1+sN G<=se:=λy=>z (decide_eq_true (by omega))
  unfold Yn at k;rw [if_neg z,if_neg z] at k;refine ⟨_,rfl,m,dm,_,rfl,Hd.m h2,rfl,_,rfl,_,rfl,a1,_,da1,_,.int mk1,rfl,h2.sm _ _ ea1,AC.c,AC.n1,rfl,B2,m,dm,le,fu,cd,se,fs,p,mk1,cs++ts1,rfl,h2,by omega,λB3 H3 t3 s3 h3 e3=>?_⟩;refine ⟨_,rfl,_,rfl,_,rfl,B3,m,y,a2,dm,le,fu,cd,ow,se,fs+1,p,mk2,lv,cs++ts1++[t3],lens,G,rfl,h3,⟨da2,s3 _ _ ea2⟩,hy.same s3,fFG.2,nG,zw hl s3,lG,by rw [Jf];show (cs++ts1).length+1+cN G<=900;omega,λB4 H4 ts2 s4 h4 c2=>?_⟩;have l2:ts2.length<=cN G:=by rw [c2.n];exact xg lens se G p mk2 lv (fs+1) fFG.2
  refine ⟨_,rfl,m,_,dm,_,.ref cd,rfl,Hd.m h4,MC.c,MC.n3,rfl,.inl ⟨rfl,_,Hd.lst h4 0 rfl⟩,_,rfl,_,_,rfl,rfl,_,rfl,_,rfl,a1,_,da1,_,.int mk1,rfl,h4.sm _ _ (s4 _ _ (s3 _ _ ea1)),AC.c,AC.n1,rfl,szU 4,λt5 n5=>?_⟩;generalize hX:upd _ _ _=H5;obtain ⟨B5,s5,e5,h5⟩:=hdG h4 hX n5;clear hX;refine ⟨cd,_,_,rfl,rfl,Hd.get h5 0 rfl,(by rw [Je,Jf,Jf];exact Nat.lt_of_le_of_lt (show _<=900 by show (cs++ts1).length+1+ts2.length<=900;omega) (by decide)),?_⟩;have h6:=MkAt.row (t:=t5) h5;generalize hX:upd _ _ _=H6 at h6 ⊢;clear hX;refine ⟨_,rfl,_,rfl,m,_,dm,_,rfl,Hd.m h6,MC.c,MC.n4,(by show 5<1000;decide),?_⟩;have h7:MkAt q B5 m dm le fu cd se fs (cs++ts1++[t3]++ts2++[t5]) (upd H6 m (.ins q.ma dm (zS "free_slot" (.int fs) (mkFl le fu se cd (fs+1))))):=MkAt.free' (fs':=fs) h6;generalize hX:upd _ _ _=H7 at h7 ⊢;clear hX;refine ⟨_,rfl,_,_,rfl,rfl,_,rfl,szU 2,λt nt=>?_⟩;generalize hX:upd _ _ _=H8;obtain ⟨B8,s8,e8,h8⟩:=hdG h7 hX nt;have s38:=((s3.trans s4).trans s5).trans s8;refine k B8 H8 (ts1++[t3]++ts2++[t5]) t (s1.trans s38) (by rw [← List.append_assoc,← List.append_assoc,← List.append_assoc];exact h8) (yi (yi (yi (c1.same s38) (yA (((s4.trans s5).trans s8) _ _ e3))) (c2.same (s5.trans s8))) (yA (s8 _ _ e5))) e8
inductive spMP (c:F2.Cs) (q:QCs) (K:Fg) (n:Nat) (vs:Jj) (H:Hp) (Q:VK) (_:XK):Prop
 | mk (B:Hp) (m x a dm le fu cd ow:Ad) (se fs p mk lv:Nat) (cs:Jc) (lens:J6) (sg:Str) (l r:F2.Fm) (_:vs=[.ref m,.ref x,.ref a]) (_:MkAt q B m dm le fu cd se fs cs H) (_:AimAt q B a p mk lv ow) (_:F2.FormAt c B (.pair sg l r) x) (_:(Fit l/\Fit r)) (_:hF l<=n) (_:hF r<=n) (_:SqL K B le (lens.map V.int)) (_:InL lens l) (_:InL lens r) (_:cs.length+cN l+cN r+3<=900) (_:∀ B' H' ts,Same B B'->MkAt q B' m dm le fu cd se fs (cs++ts) H'->CodeAt B' ts (mkF lens se (.pair sg l r) p mk lv fs)->Q .non H')
def ok_mkpair {c:F2.Cs} {q:QCs} {n:Nat} (d:zk K mg "make_pair" xW qB) (L:FormK K c) (MC:MakerC K q.ma) (AC:AimC K q.ai) (MT:Ok P w K mg base CX0 (3*n+5) "make_two" qG (spTwo c q K n)):Ok P w K mg base CX0 (3*n+6) "make_pair" qB (spMP c q K n):=by
 refine oDf d sc_make_pair λg mh A _ s H vs Q E hr h=>?_;obtain ⟨B,m,x,a,dm,le,fu,cd,ow,se,fs,p,mk,lv,cs,lens,sg,l,r,rfl,h,⟨da,ea⟩,⟨dx,y1,y2,ex,hy1,hy2⟩,ff,nl,nr,hl,il,ir,cl,k⟩:=h;have nd:=sc_make_pair.nd;have hrT:=hr;refine ⟨_,(zd (oRz 3 nd (zv MT hrT (by rfl) zo (zb (pv 0) (zb (zh (pv 1) rfl) (zb (pv 2) (zb (zh (pv 1) rfl) (zb (pv 2) zc)))))))
   (zf (zG (Ys PySem.F.plainAttrs_list PySem.F.slot_list_append PySem.F.type_list_append yr (zh (pv 0) rfl) (zb (yc (zb zV (zb (zh (pv 2) rfl) (zb (zh (pv 1) rfl) (zb (zB zI (pv 3) zg (λ_ _=>rfl)) (zb (zB zI (pv 3) zg (λ_ _=>rfl)) (zb (zh (pv 2) rfl) zc))))))) zc))))),?_⟩
 refine ⟨_,rfl,_,rfl,x,_,dx,_,.ref y1,rfl,h.sm _ _ ex,L.pair.k.cl,L.p2,rfl,_,rfl,_,rfl,x,_,dx,_,.ref y2,rfl,h.sm _ _ ex,L.pair.k.cl,L.p3,rfl,_,rfl,?_⟩;refine ⟨B,m,y1,a,y2,a,dm,le,fu,cd,ow,se,fs,p,mk,mk,lv,cs,lens,l,r,rfl,h,⟨da,ea⟩,⟨da,ea⟩,hy1,hy2,ff,nl,nr,hl,il,ir,by omega,λB1 H1 ts t s1 h1 c1 e1=>?_⟩;have tl:ts.length<=cN l+cN r+2:=by rw [c1.n];exact two_len (xg lens se l p mk lv fs ff.1) (xg lens se r (p+1) mk lv fs ff.2) (xg lens se r p mk lv (fs+1) ff.2)
 obtain ⟨u,v,e1',eo⟩:∃ u v:Nat,B1 t=some (.tup [.int u,.int v])/\(if p+1+sN r<=se then opT p sg p (p+1) mk else opT p sg (p+1) p mk)=opT p sg u v mk:=by
  by_cases z:p+1+sN r<=se
  ·rw [if_pos z] at e1 ⊢;exact ⟨p,p+1,e1,rfl⟩
  ·rw [if_neg z] at e1 ⊢;exact ⟨p+1,p,e1,rfl⟩
 have ea1:=h1.sm _ _ (s1 _ _ ea);have ex1:=h1.sm _ _ (s1 _ _ ex);have et1:=h1.sm _ _ e1';refine ⟨_,rfl,m,_,dm,_,.ref cd,rfl,Hd.m h1,MC.c,MC.n3,rfl,.inl ⟨rfl,_,Hd.lst h1 0 rfl⟩,_,rfl,a,_,da,_,.int p,rfl,ea1,AC.c,AC.n0,rfl,_,rfl,x,_,dx,_,.str sg,rfl,ex1,L.pair.k.cl,L.p1,rfl,_,rfl,t,_,_,_,rfl,rfl,SqT.of et1,zH (j:=0) rfl,_,rfl,t,_,_,_,rfl,rfl,SqT.of et1,zH (j:=1) rfl,_,rfl,a,_,da,_,.int mk,rfl,ea1,AC.c,AC.n1,rfl,szU 6,λt5 n5=>?_⟩;generalize hX:upd _ _ _=H5;obtain ⟨B5,s5,e5,h5⟩:=hdG h1 hX n5;clear hX;refine ⟨cd,_,_,rfl,rfl,Hd.get h5 0 rfl,(by rw [Je,Jf];exact Nat.lt_of_le_of_lt (show _<=900 by omega) (by decide)),?_⟩;have h6:=MkAt.row (t:=t5) h5;refine k B5 _ (ts++[t5]) (s1.trans s5) (by rw [← List.append_assoc];exact h6) ?_;show CodeAt B5 _ (Yn _ _ _ _ _ _ _++[if p+1+sN r<=se then opT p sg p (p+1) mk else opT p sg (p+1) p mk]);rw [eo];exact yi (c1.same s5) (yA e5)
def ok_mk_s {c:F2.Cs} {q:QCs} {n:Nat} {spA spP spO:Sp}
  (hP:∀ n',n=n'+1->spP=spMP c q K n')
  (d:zk K mg "make_form" xX qB) (hisi:mg "isinstance"=none) (G:FormG mg c) (L:FormK K c) (MC:MakerC K q.ma) (MA:Ok P w K mg base CX0 (3*n+3) "make_at" qB spA) (MP:Ok P w K mg base CX0 (3*n+3) "make_pair" qB spP) (MO:Ok P w K mg base CX0 (3*n+3) "make_choice" qB spO) (MC0:Ok P w K mg base CX0 1 "make_call" qB spNv) (LS:Ok P w K mg base CX0 2 "leaf_step" qB (spLeafStep c q K)):Ok P w K mg base CX0 (3*n+4) "make_form" qB (spMk c q K n):=by
 refine oDf d sc_make_form λg mh A _ s H vs Q E hr h=>?_;obtain ⟨B,m,x,a,dm,le,fu,cd,ow,se,fs,p,mk,lv,cs,lens,F,rfl,h,ha,hx,fF,nF,hl,iF',cl,k⟩:=h;have nd:=sc_make_form.nd;have hrM:=hr;have hr1:Room 1 _:=hr.mono (by omega);have hr2:Room 2 _:=hr.mono (by omega);have s:=L.of F fF;obtain ⟨dx,fl,ex⟩:=zaz fF (hx.same h.sm);refine ⟨_,(zf (zL (yb (zp zC (by rfl) hisi PyProof.Rows.boot_isinstance (zb (pv 1) (zb (zZ G.at') zc)))) (zf (zG (zv MA hrM (by rfl) zo (zb (pv 0) (zb (pv 1) (zb (pv 2) zc)))))) (zf (zL (yb (zp zC (by rfl) hisi PyProof.Rows.boot_isinstance (zb (pv 1) (zb (zZ G.pair) zc)))) (zf (zG (zv MP hrM (by rfl) zo (zb (pv 0) (zb (pv 1) (zb (pv 2) zc)))))) (zf (zL (yb (zp zC (by rfl) hisi PyProof.Rows.boot_isinstance (zb (pv 1) (zb (zZ G.cho) zc)))) (zf (zG (zv MO hrM (by rfl) zo (zb (pv 0) (zb (pv 1) (zb (pv 2) zc)))))) (zf (zL (yb (zp zC (by rfl) hisi PyProof.Rows.boot_isinstance (zb (pv 1) (zb (zZ G.call) zc)))) (zf (zG (zv MC0 hr1 (by rfl) zo (zb (pv 0) (zb (pv 1) (zb (pv 2) zc)))))) (zf (zG (Ys PySem.F.plainAttrs_list PySem.F.slot_list_append PySem.F.type_list_append yr (zh (pv 0) rfl) (zb (zv LS hr2 (by rfl) zo (zb (pv 0) (zb (pv 1) (zb (pv 2) zc)))) zc)))))))))))),?_⟩;refine ⟨_,rfl,_,_,.ref c.at',_,isA F,rfl,rfl,(λu r=>r),s.k.ty ex,s.a,_,rfl,?_⟩;refine yo (λz=>?_) (λz1=>?_)
 ·cases F with
  | _=>first | exact absurd z Bool.noConfusion | exact fF.elim
 refine ⟨_,rfl,_,_,.ref c.pair,_,isP F,rfl,rfl,(λu r=>r),s.k.ty ex,s.p,_,rfl,?_⟩;refine yo (λz=>?_) (λz2=>?_)
 ·cases F with
  | pair sg l r =>
   have nn:max (hF l) (hF r)+1<=n:=nF;have e1:=hP (n-1) (by omega);subst e1;have cl:cs.length+(cN l+cN r+3)<=900:=cl;exact ⟨_,rfl,_,rfl,_,rfl,B,m,x,a,dm,le,fu,cd,ow,se,fs,p,mk,lv,cs,lens,sg,l,r,rfl,h,ha,hx,fF,by omega,by omega,hl,iF'.1,iF'.2,by omega,k⟩
  | _=>first | exact absurd z Bool.noConfusion | exact fF.elim
 refine ⟨_,rfl,_,_,.ref c.cho,_,isO F,rfl,rfl,(λu r=>r),s.k.ty ex,s.o,_,rfl,?_⟩;refine yo (λz=>?_) (λz3=>?_)
 ·cases F with
  | _=>first | exact absurd z Bool.noConfusion | exact fF.elim
 refine ⟨_,rfl,_,_,.ref c.call,_,isU F,rfl,rfl,(λu r=>r),s.k.ty ex,s.u,_,rfl,?_⟩;refine yo (λz=>?_) (λz4=>?_)
 ·cases F with
  | call a hs=>exact fF.elim
  | _=>exact absurd z Bool.noConfusion
 have lF:isLeaf F=true:=by
  unfold isLeaf;rw [Bool.eq_false_iff.mpr z1,Bool.eq_false_iff.mpr z2,Bool.eq_false_iff.mpr z3,Bool.eq_false_iff.mpr z4];rfl
 obtain ⟨da,ea⟩:=ha;refine ⟨_,rfl,m,_,dm,_,.ref cd,rfl,Hd.m h,MC.c,MC.n3,rfl,.inl ⟨rfl,_,Hd.lst h 0 rfl⟩,_,rfl,_,rfl,_,rfl,m,x,a,dm,da,le,fu,cd,ow,se,fs,p,mk,lv,lens,F,rfl,Hd.m h,h.sm _ _ ea,hx.same h.sm,fF,lF,h.sql hl,iF',λt tv nt etv=>?_⟩;generalize hX:upd _ _ _=H5;obtain ⟨B5,s5,e5,h5⟩:=hdG h hX nt;clear hX;refine ⟨cd,_,_,rfl,rfl,Hd.get h5 0 rfl,(by rw [Je];exact Nat.lt_of_le_of_lt (show _<=900 by omega) (by decide)),?_⟩;exact k B5 _ [t] s5 (MkAt.row (t:=t) h5) (by rw [etv];exact yA e5)
inductive Stp
 | let_ (tg:Nat) (v:F2.Fm) (t:Option F2.Fm)
def Stp.v:Stp->F2.Fm
 | .let_ _ v _=>v
def Stp.t:Stp->Option F2.Fm
 | .let_ _ _ t=>t
def Stp.tg:Stp->Nat
 | .let_ tg _ _=>tg
def Stp.mn_ (lens:J6):Stp->Int
 | .let_ tg _ _=>lens.getD tg 0
def Stp.valC (lens:J6) (se mk:Nat):Stp->List (Jj)
 | s=>mkF lens se s.v 0 mk 0 0
def Stp.eff (se mk:Nat):Stp->Jj
 | .let_ tg _ _=>YT tg mk
def Stp.seats (s:Stp):Nat:=
 let n:=match s with
  | s=>sN s.v
 match s.t with
  | none=>n
  | some t=>max n (sN t)
def testC (lens:J6) (se:Nat):Option F2.Fm->List (Jj)
 | none=>[]
 | some t=>mkF lens se t 0 0 0 0++[[.str "choose",.int 1,.int 0,.int 0]]
def Stp.body (lens:J6) (se:Nat) (s:Stp):List (Jj):=testC lens se s.t++s.valC lens se (maskOf s.t)
def body_let (lens:J6) (se:Nat) (t:Option F2.Fm) (v:F2.Fm):testC lens se t++mkF lens se v 0 (maskOf t) 0 0=yJ lens se t v:=by cases t <;> rfl
def grOf (n:Nat):Nat:=if n<=2 then 4 else if n<=4 then 2 else 1
def Stp.code (lens:J6) (g:Nat) (s:Stp) (n:Int):List (Jj):=ZU (s.mn_ lens) g (s.body lens (8 / g)) ((s.body lens (8 / g)).any xH) (s.eff (8 / g) (maskOf s.t)) n
def Stp.grp (mi:Nat) (s:Stp):Nat:=if mi=0 then grOf s.seats else mi
def TestAt (c:F2.Cs) (B:Hp) (tv:V):Option F2.Fm->Prop
 | none=>tv=.non
 | some f=>∃ y,tv=.ref y/\F2.FormAt c B f y
def TestAt.same {c:F2.Cs} {B B':Hp} {tv:V} {t:Option F2.Fm} (h:TestAt c B tv t) (s:Same B B'):TestAt c B' tv t:=by
 cases t with
 | none=>exact h
 | some f=>obtain ⟨y,e,q⟩:=h;exact ⟨y,e,q.same s⟩
def StepAt (c:F2.Cs) (q:QCs) (B:Hp) (s:Ad):Stp->Prop
 | .let_ tg v t=>∃ ds x tv,B s=some (.ins q.let_ ds [("target",.int tg),("value",.ref x),("test",tv)])/\F2.FormAt c B v x/\TestAt c B tv t
theorem StepAt.same {c:F2.Cs} {q:QCs} {B B':Hp} {s:Ad} (z:Same B B'):∀ {st:Stp},StepAt c q B s st->StepAt c q B' s st
 | .let_ _ _ _,⟨ds,x,tv,e,h1,h2⟩=>⟨ds,x,tv,z _ _ e,h1.same z,h2.same z⟩
def clsS (q:QCs):Stp->Ad
 | .let_ _ _ _=>q.let_
def sIsP:Stp->Bool
 | _=>false
def sIsL:Stp->Bool
 | .let_ _ _ _=>true
def sIsF:Stp->Bool
 | _=>false
structure StepG (mg:J0) (q:QCs):Prop where
 let_:mg "Let"=some (.ref q.let_)
 put:mg "Put"=some (.ref q.put)
 fold:mg "Fold"=some (.ref q.fold)
 till:mg "Till"=some (.ref q.till)
structure StpC (K:Fg) (q:QCs) (C:Ad) (p l f:Bool):Prop where
 k:KF K C
 p:isK K C q.put p
 l:isK K C q.let_ l
 f:isK K C q.fold f
 t:isK K C q.till false
 n0:NoAttr K C "target"
 n1:NoAttr K C "value"
 n2:NoAttr K C "test"
structure StepK (K:Fg) (q:QCs):Prop where
 let_:StpC K q q.let_ false true false
theorem StepK.of {K:Fg} {q:QCs} (L:StepK K q):∀ s:Stp,StpC K q (clsS q s) (sIsP s) (sIsL s) (sIsF s)
 | .let_ _ _ _=>L.let_
theorem StepAt.ins {c:F2.Cs} {q:QCs} {B:Hp} {s:Ad}:∀ {st:Stp},StepAt c q B s st->∃ ds fl x tv,B s=some (.ins (clsS q st) ds fl)/\fl.lookup ("target":Str)=some (V.int st.tg)/\fl.lookup ("value":Str)=some (V.ref x)/\fl.lookup ("test":Str)=some tv/\fl.lookup ("many_of":Str)=none/\F2.FormAt c B st.v x/\TestAt c B tv st.t
 | .let_ _ _ _,⟨ds,x,tv,e,h1,h2⟩=>⟨ds,_,x,tv,e,rfl,rfl,rfl,rfl,h1,h2⟩
structure MkDefs (K:Fg) (mg:J0):Prop where
 f:zk K mg "make_form" xX qB
 a:zk K mg "make_at" Yw qB
 p:zk K mg "make_pair" xW qB
 o:zk K mg "make_choice" xM qB
 u:zk K mg "make_call" ZB qB
 t:zk K mg "make_two" Zp qG
theorem ok_mk {c:F2.Cs} {q:QCs} {tF:Tok} (d:MkDefs K mg) (hisi:mg "isinstance"=none) (hFC:mg "FIRST_CHOICE_MASK"=some (.int 2 tF)) (G:FormG mg c) (L:FormK K c) (MC:MakerC K q.ma) (AC:AimC K q.ai) (AG:AimG mg q) (IA:OkI P w K mg base (CXe P w base) 1 q.ai qH (spI_Aim q.ai))
  (PB:OkM P w K mg base CX0 1 q.ma "put_by" Uk (spPutBy q))
  (LS:Ok P w K mg base CX0 2 "leaf_step" qB (spLeafStep c q K)) (SF:∀ n,Ok P w K mg base CX0 (2*n+2) "seats_for" qI (spSF c n)):∀ n:Nat,Ok P w K mg base CX0 (3*n+4) "make_form" qB (spMk c q K n)
 | 0=>ok_mk_s (spA:=spNv) (spP:=spNv) (spO:=spNv)
   (λn' e=>by cases e)
   d.f hisi G L MC ((ZN d.a X7).mono (by decide)) ((ZN d.p sc_make_pair).mono (by decide)) ((ZN d.o Yp).mono (by decide)) (ZN d.u Y1) LS
 | n+1=>by
  have h:=ok_mk d hisi hFC G L MC AC AG IA
   PB
   LS SF n
  have MT:=ok_two d.t MC AC AG IA PB (SF n) h;exact ok_mk_s
   (λn' e=>by cases e;rfl)
   d.f hisi G L MC
   ((ZN d.a X7).mono (show 1<=3*(n+1)+3 by omega))
   (ok_mkpair d.p L MC AC MT)
   ((ZN d.o Yp).mono (show 1<=3*(n+1)+3 by omega))
   (ZN d.u Y1) LS
structure FitS (n:Nat) (s:Stp):Prop where
 v:Fit s.v/\hF s.v<=n
 t:∀ f,s.t=some f->Fit f/\hF f<=n
def x8 (tv:Jj):Prop:=∃ z r,tv=.str z::r/\(z="op"->∃ a sg r',r=a::.str sg::r')
def xE {z:Str} {r:Jj} (h:z≠"op"):x8 (.str z::r):=⟨z,r,rfl,λe=>absurd e h⟩
def row_op (p:Nat) (sg:Str) (a c mk:Nat):x8 (opT p sg a c mk):=⟨"op",_,rfl,λ_=>⟨_,_,_,rfl⟩⟩
def xZ {a b:List (Jj)} (h1:∀ tv∈a,x8 tv) (h2:∀ tv∈b,x8 tv):∀ tv∈a++b,x8 tv:=λtv h=>(List.mem_append.mp h).elim (h1 tv) (h2 tv)
def xY {a:Jj} (h1:x8 a):∀ tv∈[a],x8 tv:=λtv h=>by rw [List.mem_singleton.mp h];exact h1
def rows_two {fits:Prop} [Decidable fits] {c1 c2 c2':List (Jj)} {p s mk:Nat} (h1:∀ tv∈c1,x8 tv) (h2:∀ tv∈c2,x8 tv) (h3:∀ tv∈c2',x8 tv):∀ tv∈Yn fits c1 c2 c2' p s mk,x8 tv:=by
 unfold Yn
 split
 ·exact xZ h1 h2
 ·exact xZ (xZ (xZ h1 (xY (xE (by decide)))) h3) (xY (xE (by decide)))
theorem Xb (lens:J6) (se:Nat):∀ (F:F2.Fm) (p mk lv s:Nat),Fit F->∀ tv∈mkF lens se F p mk lv s,x8 tv
 | .num n,p,mk,lv,s,_=>xY (xE (by decide))
 | .cell n,p,mk,lv,s,_=>xY (by split <;> exact xE (by decide))
 | .here,p,mk,lv,s,_=>xY (xE (by decide))
 | .pair sg l r,p,mk,lv,s,hf=>xZ (rows_two (Xb lens se l _ _ _ _ hf.1) (Xb lens se r _ _ _ _ hf.2) (Xb lens se r _ _ _ _ hf.2)) (xY (by split <;> exact row_op _ _ _ _ _))
inductive spMay (K:Fg) (vs:Jj) (H:Hp) (Q:VK) (_:XK):Prop
 | mk (t:Ad) (tv:Jj) (_:vs=[.ref t]) (_:SqT K H t tv) (_:x8 tv) (_:∀ H',Same H H'->Q (.bl (xH tv)) H')
def ok_may (d:zk K mg "may_fault" Zz ["step"]):Ok P w K mg base CX0 1 "may_fault" ["step"] (spMay K):=by
 refine oDf d sc_may_fault λg mh A _ s H vs Q E hr h=>?_;obtain ⟨t,tv,rfl,hT,⟨z,r,rfl,ho⟩,k⟩:=h;have nd:=sc_may_fault.nd
 have in2:∀ x y:Str,inV (V.str z) [V.str x,V.str y]=(decide (z=x) || decide (z=y)):=λx y=>by
  unfold inV;by_cases h1:z=x
  ·subst h1;simp [eqV]
  ·by_cases h2:z=y
   ·subst h2;simp [eqV]
   ·rw [decide_eq_false h1,decide_eq_false h2]
    simp [eqV];exact ⟨λe=>h1 e.symm,λe=>h2 e.symm⟩
 have e0:∀ x:Str,decide ((V.str z::r)[0]?=some (V.str x))=decide (z=x):=λx=>decide_eq_decide.mpr ⟨λh=>V.str.inj (Option.some.inj h),λh=>by rw [h];rfl⟩;unfold xH at k;rw [e0,e0,e0] at k;refine ⟨_,(zf (zm (pe_or (Zm zbq (zB zI (pv 0) zg (λ_ _=>rfl)) (yc (zb zV (zb zV zc))) rfl) (zcp (zcq (Zm y8 (zB zI (pv 0) zg (λ_ _=>rfl)) zV (zJ _)) (zcp (Zm zbq (zB zI (pv 0) zg (λ_ _=>rfl)) (yc (zb zV (zb zV zc))) rfl))))))),?_⟩;refine ⟨_,rfl,t,_,_,_,rfl,rfl,hT,zH (j:=0) rfl,?_⟩;refine ⟨szU 2,λp np=>⟨p,_,rfl,.inr (SqT.of zi),rfl,rfl,_,rfl,?_⟩⟩;generalize hX:upd _ _ _=H1;obtain ⟨s1,e1⟩:=Z1 hX np;clear hX;rw [in2]
 cases hb:(decide (z="gather") || decide (z="reach")) with
 | true =>
  rw [hb] at k;exact ZY (k H1 s1)
 | false =>
  rw [hb] at k;refine xl ⟨_,rfl,t,_,_,_,rfl,rfl,F2.sqt_same hT s1,zH (j:=0) rfl,rfl,_,rfl,?_⟩;have ez:decide (V.str z=V.str "op")=decide (z="op"):=decide_eq_decide.mpr ⟨V.str.inj,λh=>by rw [h]⟩;rw [ez]
  cases ho':decide (z="op") with
  | false =>
   rw [ho'] at k;exact xl (k H1 s1)
  | true =>
   rw [ho'] at k;obtain ⟨a,sg,r',rfl⟩:=ho (of_decide_eq_true ho');have e2:∀ x:Str,decide ((V.str z::a::V.str sg::r')[2]?=some (V.str x))=decide (sg=x):=λx=>decide_eq_decide.mpr ⟨λh=>V.str.inj (Option.some.inj h),λh=>by rw [h];rfl⟩;rw [e2,e2] at k;refine ZY ⟨_,rfl,t,_,_,_,rfl,rfl,F2.sqt_same hT s1,zH (j:=2) rfl,?_⟩;refine ⟨szU 2,λp2 np2=>⟨p2,_,rfl,.inr (SqT.of zi),rfl,rfl,?_⟩⟩
   have in3:inV (V.str sg) [V.str "/",V.str "rest"]=(decide (sg="/") || decide (sg="rest")):=by
    unfold inV;by_cases h1:sg="/"
    ·subst h1;simp [eqV]
    ·by_cases h2:sg="rest"
     ·subst h2;simp [eqV]
     ·rw [decide_eq_false h1,decide_eq_false h2]
      simp [eqV];exact ⟨λe=>h1 e.symm,λe=>h2 e.symm⟩
   rw [in3];exact k _ (s1.trans (zt (Same.refl _) np2))
inductive spSS (c:F2.Cs) (q:QCs) (n:Nat) (vs:Jj) (H:Hp) (Q:VK) (_:XK):Prop
 | mk (s:Ad) (fu:V) (st:Stp) (_:vs=[.ref s,fu]) (_:StepAt c q H s st) (_:FitS n st) (_:∀ H',Same H H'->Q (.int st.seats) H')
def ok_ss {c:F2.Cs} {q:QCs} {n:Nat} (d:zk K mg "seats_for_step" yP ["step","functions"]) (hisi:mg "isinstance"=none) (hmax:mg "max"=none) (SG:StepG mg q) (SK:StepK K q) (SF:Ok P w K mg base CX0 (2*n+2) "seats_for" qI (spSF c n)) (S2:Ok P w K mg base CX0 (2*n+3) "seats_for_two" qL (spS2 c n)):Ok P w K mg base CX0 (2*n+4) "seats_for_step" ["step","functions"] (spSS c q n):=by
 refine oDf d sc_seats_for_step λg mh A _ s H vs Q E hr h=>?_;obtain ⟨s,fu,st,rfl,hs,hf,k⟩:=h;have nd:=sc_seats_for_step.nd;have hrS2:=hr;have hrS:Room (2*n+2) _:=hr.mono (by omega);have kk:=SK.of st;obtain ⟨ds,fl,x,tv,es,f0,f1,f2,f3,hx,ht⟩:=hs.ins;refine ⟨_,(zd (oRz 2 nd (zv SF hrS (by rfl) zo (zb (zh (pv 0) rfl) (zb (pv 1) zc))))
   (zd (Yr (zL (yb (zp zC (by rfl) hisi PyProof.Rows.boot_isinstance (zb (pv 0) (zb (zZ SG.put) zc)))) (zf (oRz 2 nd (zv S2 hrS2 (by rfl) zo (zb (zh (pv 0) rfl) (zb (zh (pv 0) rfl) (zb (pv 1) zc)))))) zy))
   (zd (zL (zF op_notN (zh (pv 0) rfl) xv (zJ _)) (zf (oRz 2 nd (zp (YF rfl) (by rfl) hmax PyProof.Rows.boot_max (zb (pv 2) (zb (zv SF hrS (by rfl) zo (zb (zh (pv 0) rfl) (zb (pv 1) zc))) zc))))) zy)
   (zf (zm (pv 2)))))),?_⟩
 refine ⟨_,rfl,s,_,ds,_,_,rfl,es,kk.k.cl,kk.n1,f1,_,rfl,x,fu,st.v,rfl,hx,hf.v.1,hf.v.2,λH1 s1=>?_⟩
 let n0:Nat:=match st with
  | s=>sN s.v
 refine ⟨λσ J=>σ=[some (.ref s),some fu,some (.int n0)]/\Same H J,?_,?_⟩
 ·refine ⟨_,rfl,_,_,.ref q.put,_,sIsP st,rfl,rfl,(λu r=>r),kk.k.ty (s1 _ _ es),kk.p,_,rfl,?_⟩
  cases st with
  | _=>exact xl ⟨rfl,s1⟩
 rintro σ J ⟨rfl,sJ⟩;refine ⟨_,rfl,s,_,ds,_,tv,rfl,sJ _ _ es,kk.k.cl,kk.n2,f2,rfl,?_⟩
 have es':st.seats=match st.t with
  | none=>n0
  | some t=>max n0 (sN t):=rfl
 cases et:st.t with
 | none =>
  rw [et] at ht es';have ht:tv=.non:=ht;refine ⟨false,congrArg V.bl (by rw [ht,decide_eq_true rfl];rfl),xl ⟨_,rfl,?_⟩⟩;rw [es'] at k;exact k J sJ
 | some f =>
  rw [et] at ht es';obtain ⟨y,ey,hy⟩:=ht;have ft:=hf.t f et;refine ⟨true,congrArg V.bl (by rw [ey,decide_eq_false (by intro z;cases z)];rfl),ZY ?_⟩;refine ⟨_,rfl,_,rfl,s,_,ds,_,tv,rfl,sJ _ _ es,kk.k.cl,kk.n2,f2,_,rfl,y,fu,f,by rw [ey];rfl,hy.same sJ,ft.1,ft.2,λH2 s2=>?_⟩;refine ⟨_,_,rfl,?_⟩;rw [max_nat];rw [es'] at k;exact ⟨_,rfl,k H2 (sJ.trans s2)⟩
inductive spGroupF (vs:Jj) (H:Hp) (Q:VK) (_:XK):Prop
 | mk (n:Nat) (_:vs=[.int n]) (_:Q (.int (grOf n)) H)
def ok_groupF (d:zk K mg "group_for" ZG ["seats"]):Ok P w K mg base CX0 1 "group_for" ["seats"] spGroupF:=by
 refine oDf d sc_group_for λg mh A _ s H vs Q E hr h=>?_;obtain ⟨n,rfl,k⟩:=h;have nd:=sc_group_for.nd;unfold grOf at k;refine ⟨_,(zd (zL (zF op_le (pv 0) zg (zJ _)) (zf (zm zg)) zy)
   (zd (zL (zF op_le (pv 0) zg (zJ _)) (zf (zm zg)) zy)
   (zf (zm zg)))),?_⟩
 refine ⟨_,rfl,_,_,rfl,rfl,_,rfl,?_⟩;refine yo (λz=>?_) (λz=>?_)
 ·rw [if_pos (by have:=of_decide_eq_true z;omega)] at k;exact k
 have z1:¬ n<=2:=λy=>z (decide_eq_true (by omega));rw [if_neg z1] at k;refine ⟨_,rfl,_,_,rfl,rfl,_,rfl,?_⟩;refine yo (λz=>?_) (λz=>?_)
 ·rw [if_pos (by have:=of_decide_eq_true z;omega)] at k;exact k
 ·rw [if_neg (λy=>z (decide_eq_true (by omega)))] at k;exact k
structure PrC (K:Fg) (C:Ad):Prop where
 c:Cls K C
 n0:NoAttr K C "lengths"
 n1:NoAttr K C "functions"
 n2:NoAttr K C "steps"
def prFl (la lb lc:Ad):List (Str×V):=[("lengths",.ref la),("functions",.ref lb),("steps",.ref lc)]
structure InS2 (lens:J6) (s:Stp):Prop where
 v:InL lens s.v
 t:∀ f,s.t=some f->InL lens f
 g:s.tg<lens.length
def cT:Option F2.Fm->Nat
 | none=>0
 | some f=>cN f+1
def cS (s:Stp):Nat:=cN s.v+1+cT s.t
inductive spMT (c:F2.Cs) (q:QCs) (K:Fg) (n:Nat) (vs:Jj) (H:Hp) (Q:VK) (_:XK):Prop
 | mk (B:Hp) (m s dm le fu cd:Ad) (se:Nat) (cs:Jc) (lens:J6) (st:Stp) (_:vs=[.ref m,.ref s]) (_:MkAt q B m dm le fu cd se 0 cs H) (_:StepAt c q B s st) (_:FitS n st) (_:InS2 lens st) (_:SqL K B le (lens.map V.int)) (_:cs.length+cS st<=900) (_:∀ B' H' ts,Same B B'->MkAt q B' m dm le fu cd se 0 (cs++ts) H'->CodeAt B' ts (testC lens se st.t)->Q (.int (maskOf st.t)) H')
def ok_mt {c:F2.Cs} {q:QCs} {n:Nat} {t:Tok} (d:zk K mg "make_test" ZA ["maker","step"]) (hTM:mg "TEST_MASK"=some (.int 1 t)) (SK:StepK K q) (MC:MakerC K q.ma) (AG:AimG mg q) (IA:OkI P w K mg base (CXe P w base) 1 q.ai qH (spI_Aim q.ai)) (MF:Ok P w K mg base CX0 (3*n+4) "make_form" qB (spMk c q K n)):Ok P w K mg base CX0 (3*n+5) "make_test" ["maker","step"] (spMT c q K n):=by
 refine oDf d sc_make_test λg mh A _ s H vs Q E hr h=>?_;obtain ⟨B,m,s,dm,le,fu,cd,se,cs,lens,st,rfl,h,hs,hf,il,hl,cl,k⟩:=h;have nd:=sc_make_test.nd;have hrF:=hr;have hr2:Room 2 _:=hr.mono (by omega);have kk:=SK.of st;obtain ⟨ds,fl,x,tv,es,f0,f1,f2,f3,hx,ht⟩:=hs.ins;refine ⟨_,(zd (zL (zF zak (zh (pv 1) rfl) xv (zJ _)) (zf (zm zg)) zy)
   (zd (zG (zv MF hrF (by rfl) zo (zb (pv 0) (zb (zh (pv 1) rfl) (zb (xF IA AG.ai hr2 (by rfl) ZM (zb zg (zb zg (zb zg (zb (yh zc) zc))))) zc)))))
   (zd (zG (Ys PySem.F.plainAttrs_list PySem.F.slot_list_append PySem.F.type_list_append yr (zh (pv 0) rfl) (zb (yc (zb zV (zb (xR hTM) (zb zg (zb zg zc))))) zc)))
   (zf (zm (xR hTM)))))),?_⟩
 show (let s1:L2.TS:=_;let s2:L2.TS:=L2.tSeq _ s1;let s3:L2.TS:=L2.tSeq _ s2;L2.tSeq _ s3 _ _ _);intro s1 s2 s3;refine ⟨_,rfl,s,_,ds,_,tv,rfl,h.sm _ _ es,kk.k.cl,kk.n2,f2,rfl,?_⟩
 cases et:st.t with
 | none =>
  rw [et] at ht k;have ht:tv=.non:=ht;exact ⟨true,congrArg V.bl (by rw [ht,decide_eq_true rfl]),ZY (k B H [] (Same.refl _) (by rw [q8y];exact h) ⟨rfl,λi a tv x=>by cases x⟩)⟩
 | some f =>
  have ft:=hf.t f et;have fi:=il.t f et
  have cl':cs.length+cN f+1<=900:=by
   unfold cS at cl;rw [et] at cl;have e:cT (some f)=cN f+1:=rfl;omega
  rw [et] at ht k;obtain ⟨y,ey,hy⟩:=ht;refine ⟨false,congrArg V.bl (by rw [ey,decide_eq_false (by intro z;cases z)]),xl ?_⟩;refine ⟨_,rfl,_,rfl,s,_,ds,_,tv,rfl,h.sm _ _ es,kk.k.cl,kk.n2,f2,szU 0,λow now=>?_⟩;generalize hX:upd _ _ _=H1;obtain ⟨B1,s1,e1,h1⟩:=hdG h hX now;clear hX;refine λai dai n1 n2 n3=>⟨ai,dai,.int (0:Nat),.int (0:Nat),.int (0:Nat),.ref ow,rfl,zi,λH3 k3 e3=>⟨rfl,?_⟩⟩;obtain ⟨B3,s3,e3',h3⟩:=hdM h1 n1 n2 n3 k3 e3;have s13:=s1.trans s3;refine ⟨B3,m,y,ai,dm,le,fu,cd,ow,se,0,0,0,0,cs,lens,f,by rw [ey];rfl,h3,⟨dai,e3'⟩,hy.same s13,ft.1,ft.2,zw hl s13,fi,by omega,λB4 H4 ts s4 h4 c4=>?_⟩;have tl:ts.length<=cN f:=by rw [c4.n];exact xg lens se f 0 0 0 0 ft.1
  refine ⟨_,rfl,m,_,dm,_,.ref cd,rfl,Hd.m h4,MC.c,MC.n3,rfl,.inl ⟨rfl,_,Hd.lst h4 0 rfl⟩,szU 4,λt5 n5=>?_⟩;generalize hX:upd _ _ _=H5;obtain ⟨B5,s5,e5,h5⟩:=hdG h4 hX n5;clear hX;refine ⟨cd,_,_,rfl,rfl,Hd.get h5 0 rfl,(by rw [Je,Jf];exact Nat.lt_of_le_of_lt (show _<=900 by omega) (by decide)),?_⟩;exact k B5 _ (ts++[t5]) ((s13.trans s4).trans s5) (by rw [← List.append_assoc];exact MkAt.row (t:=t5) h5) (yi (c4.same s5) (yA e5))
inductive spMV (c:F2.Cs) (q:QCs) (K:Fg) (n:Nat) (vs:Jj) (H:Hp) (Q:VK) (_:XK):Prop
 | mk (B:Hp) (m s dm le fu cd:Ad) (se mk:Nat) (cs:Jc) (lens:J6) (st:Stp) (_:vs=[.ref m,.ref s,.int mk]) (_:MkAt q B m dm le fu cd se 0 cs H) (_:StepAt c q B s st) (_:FitS n st) (_:InS2 lens st) (_:SqL K B le (lens.map V.int)) (_:cs.length+cS st<=900) (_:∀ B' H' ts e,Same B B'->MkAt q B' m dm le fu cd se 0 (cs++ts) H'->CodeAt B' ts (st.valC lens se mk)->B' e=some (.tup (st.eff se mk))->Q (.ref e) H')
def ok_mv {c:F2.Cs} {q:QCs} {n:Nat} (d:zk K mg "make_value" Zd Ur) (hisi:mg "isinstance"=none) (SG:StepG mg q) (SK:StepK K q) (MC:MakerC K q.ma) (AG:AimG mg q) (IA:OkI P w K mg base (CXe P w base) 1 q.ai qH (spI_Aim q.ai)) (MF:Ok P w K mg base CX0 (3*n+4) "make_form" qB (spMk c q K n))
  (MT:Ok P w K mg base CX0 1 "make_two" qG spNv)
  : Ok P w K mg base CX0 (3*n+6) "make_value" Ur (spMV c q K n):=by
 refine oDf d sc_make_value λg mh A _ s H vs Q E hr h=>?_;obtain ⟨B,m,s,dm,le,fu,cd,se,mk,cs,lens,st,rfl,h,hs,hf,il,hl,cl,k⟩:=h;have nd:=sc_make_value.nd;have hrF:Room (3*n+4) _:=hr.mono (by omega);have hrT:Room 1 _:=hr.mono (by omega);have hr2:Room 2 _:=hr.mono (by omega);have kk:=SK.of st;obtain ⟨ds,fl,x,tv,es,f0,f1,f2,f3,hx,ht⟩:=hs.ins;have clv:cs.length+cN st.v<=900:=by unfold cS at cl;omega
 refine ⟨_,(zd (oRz 3 nd (xF IA AG.ai hr2 (by rfl) ZM (zb zg (zb (pv 2) (zb zg (zb (yh zc) zc))))))
   (zd (zL (yb (zp zC (by rfl) hisi PyProof.Rows.boot_isinstance (zb (pv 1) (zb (zZ SG.put) zc)))) (zd (oRz 4 nd (zv MT hrT (by rfl) zo (zb (pv 0) (zb (zh (pv 1) rfl) (zb (pv 3) (zb (zh (pv 1) rfl) (zb (pv 3) zc)))))))
   (zd (zG (Ys PySem.F.plainAttrs_list PySem.F.slot_list_append PySem.F.type_list_append yr (zh (pv 0) rfl) (zb (yc (zb zV (zb (zB zI (pv 4) zg (λ_ _=>rfl)) (zb (zB z6 (zh (pv 0) rfl) (zh (pv 1) rfl) (λ_ _=>rfl)) (zb (pv 2) zc))))) zc)))
   (zf (zm (yc (zb zV (zb (zh (pv 1) rfl) (zb (zB zI (pv 4) zg (λ_ _=>rfl)) (zb (zB zI (pv 4) zg (λ_ _=>rfl)) (zb (pv 2) zc)))))))))) zy)
   (zd (zG (zv MF hrF (by rfl) zo (zb (pv 0) (zb (zh (pv 1) rfl) (zb (pv 3) zc)))))
   (zd (zL (yb (zp zC (by rfl) hisi PyProof.Rows.boot_isinstance (zb (pv 1) (zb (zZ SG.let_) zc)))) (zf (zm (yc (zb zV (zb (zh (pv 1) rfl) (zb zg (zb (pv 2) zc))))))) zy)
   (zd (zL (yb (zp zC (by rfl) hisi PyProof.Rows.boot_isinstance (zb (pv 1) (zb (zZ SG.fold) zc)))) (zf (zm (yc (zb zV (zb (zh (pv 1) rfl) (zb (zh (pv 1) rfl) (zb zg (zb (pv 2) zc)))))))) zy)
   (zf (zm (yc (zb zV (zb (zh (pv 1) rfl) (zb (zh (pv 1) rfl) (zb zg (zb (pv 2) zc))))))))))))),?_⟩
 show (let s1:L2.TS:=_;let s2:L2.TS:=L2.tSeq _ s1;let s3:L2.TS:=L2.tSeq _ s2;let s4:L2.TS:=L2.tSeq _ s3;let s5:L2.TS:=L2.tSeq _ s4;L2.tSeq _ s5 _ _ _);intro s1 s2 s3 s4 s5;refine ⟨_,rfl,szU 0,λow now=>?_⟩;generalize hX:upd _ _ _=H1;obtain ⟨B1,s1,e1,h1⟩:=hdG h hX now;clear hX h;refine λai dai n1 n2 n3=>⟨ai,dai,.int (0:Nat),.int mk,.int (0:Nat),.ref ow,rfl,zi,λH3 k3 e3=>⟨rfl,?_⟩⟩;obtain ⟨B3,s3,e3',h3⟩:=hdM h1 n1 n2 n3 k3 e3;clear h1 k3 e3 n1 n2 n3;have s13:=s1.trans s3;replace hs:=hs.same s13;replace es:=s13 _ _ es;replace hx:=hx.same s13;replace hl:=zw hl s13;refine ⟨_,rfl,_,_,.ref q.put,_,sIsP st,rfl,rfl,(λu r=>r),kk.k.ty (h3.sm _ _ es),kk.p,_,rfl,?_⟩;refine yo (λz=>?_) (λz=>?_)
 ·cases st with
  | _=>exact absurd z Bool.noConfusion
 have ev:st.valC lens se mk=mkF lens se st.v 0 mk 0 0:=by
  cases st with
  | _=>rfl
 rw [ev] at k;refine ⟨_,rfl,_,rfl,s,_,ds,_,.ref x,rfl,h3.sm _ _ es,kk.k.cl,kk.n1,f1,_,rfl,B3,m,x,ai,dm,le,fu,cd,ow,se,0,0,mk,0,cs,lens,st.v,rfl,h3,⟨dai,e3'⟩,hx,hf.v.1,hf.v.2,hl,il.v,clv,λB4 H4 ts s4 h4 c4=>?_⟩;replace hs:=hs.same s4;replace es:=h4.sm _ _ (s4 _ _ es);refine ⟨_,rfl,_,_,.ref q.let_,_,sIsL st,rfl,rfl,(λu r=>r),kk.k.ty es,kk.l,_,rfl,?_⟩;refine yo (λz2=>?_) (λz2=>?_)
 ·cases st with
  | let_ tg v t =>
   refine ⟨_,rfl,s,_,ds,_,.int tg,rfl,es,kk.k.cl,kk.n0,f0,_,rfl,szU 4,λe ne=>?_⟩;generalize hX:upd _ _ _=H5;obtain ⟨B5,s5,e5,h5⟩:=hdG h4 hX ne;exact k B5 H5 ts e ((s13.trans s4).trans s5) h5 (c4.same s5) e5
 refine ⟨_,rfl,_,_,.ref q.fold,_,sIsF st,rfl,rfl,(λu r=>r),kk.k.ty es,kk.f,_,rfl,?_⟩;refine yo (λz3=>?_) (λz3=>?_)
 ·cases st with
  | _=>exact absurd z3 Bool.noConfusion
 cases st with
 | let_ tg v t=>exact absurd rfl z2
inductive spI_Mk (q:QCs) (vs:Jj) (H:Hp) (Q:VK) (_:XK):Prop
 | mk (B:Hp) (x dx le fu:Ad) (g:Nat) (_:vs=[.ref x,.ref le,.ref fu,.int g]) (_:Hd B [(x,.ins q.ma dx [])] H) (_:(g=1∨g=2∨g=4)) (_:∀ H' cd,MkAt q B x dx le fu cd (8 / g) 0 [] H'->Q .non H')
def okI_Mk {q:QCs} {t:Tok} (d:yp K q.ma "Maker.__init__" Zh qS) (hMB:mg "MANY_BOXES"=some (.int 8 t)) (MC:MakerC K q.ma):OkI P w K mg base CX0 1 q.ma qS (spI_Mk q):=by
 refine oIf d zbg λf mh A _ s H vs Q E hr h=>?_;obtain ⟨B,x,dx,le,fu,g,rfl,h,hg,k⟩:=h;refine ⟨_,(zd (zu (pv 0) (pv 1) rfl)
   (zd (zu (pv 0) (pv 2) rfl)
   (zd (zu (pv 0) (zn zal (xR hMB) (pv 3)) rfl)
   (zd (zu (pv 0) (yh zc) rfl)
   (zf (zu (pv 0) zg rfl)))))),?_⟩
 show (let s1:L2.TS:=_;let s2:L2.TS:=L2.tSeq _ s1;let s3:L2.TS:=L2.tSeq _ s2;let s4:L2.TS:=L2.tSeq _ s3;L2.tSeq _ s4 _ _ _);intro s1 s2 s3 s4;refine ⟨_,rfl,_,rfl,x,q.ma,dx,[],rfl,h.get 0 rfl,MC.c,MC.n0,(by show 0<1000;decide),?_⟩;replace h:=h.put (o':=.ins q.ma dx [("lengths",.ref le)]) 0 rfl;refine ⟨_,rfl,_,rfl,x,q.ma,dx,[("lengths",.ref le)],rfl,h.get 0 rfl,MC.c,MC.n1,(by show 1<1000;decide),?_⟩;replace h:=h.put (o':=.ins q.ma dx [("lengths",.ref le),("functions",.ref fu)]) 0 rfl;have eg:(8:Int).fdiv (g:Int)=((8 / g:Nat):Int):=by rcases hg with e | e | e <;> subst e <;> rfl
 refine ⟨_,rfl,_,_,rfl,rfl,⟨by omega,by omega,by omega⟩,_,rfl,x,q.ma,dx,[("lengths",.ref le),("functions",.ref fu)],rfl,h.get 0 rfl,MC.c,MC.n2,(by show 2<1000;decide),?_⟩;rw [eg];replace h:=h.put (o':=.ins q.ma dx [("lengths",.ref le),("functions",.ref fu),("seats",.int (8 / g:Nat))]) 0 rfl;refine ⟨szU 0,λcd ncd=>?_⟩;replace h:=h.new (o:=.lst []) ncd;refine ⟨_,rfl,x,q.ma,dx,[("lengths",.ref le),("functions",.ref fu),("seats",.int (8 / g:Nat))],rfl,h.get 1 rfl,MC.c,MC.n3,(by show 3<1000;decide),?_⟩;replace h:=h.put (o':=.ins q.ma dx [("lengths",.ref le),("functions",.ref fu),("seats",.int (8 / g:Nat)),("code",.ref cd)]) 1 rfl;refine ⟨_,rfl,x,q.ma,dx,[("lengths",.ref le),("functions",.ref fu),("seats",.int (8 / g:Nat)),("code",.ref cd)],rfl,h.get 1 rfl,MC.c,MC.n4,(by show 4<1000;decide),?_⟩;replace h:=h.put (o':=.ins q.ma dx (mkFl le fu (8 / g) cd 0)) 1 rfl;exact k _ cd h
inductive spMany (c:F2.Cs) (q:QCs) (K:Fg) (st:Stp) (vs:Jj) (H:Hp) (Q:VK) (_:XK):Prop
 | mk (s le:Ad) (lens:J6) (_:vs=[.ref s,.ref le]) (_:StepAt c q H s st) (_:SqL K H le (lens.map V.int)) (_:st.tg<lens.length) (_:Q (.int (st.mn_ lens)) H)
def ok_manyL {c:F2.Cs} {q:QCs} {tg:Nat} {v:F2.Fm} {t:Option F2.Fm} (d:zN K q.let_ "many_of" "Let.many_of" xP Ut) (SK:StepK K q):OkM P w K mg base CX0 1 q.let_ "many_of" Ut (spMany c q K (.let_ tg v t)):=by
 refine oMf d zaa λf mh A _ s H vs Q E hr h=>?_;obtain ⟨s,le,lens,rfl,⟨ds,x,tv,es,_,_⟩,hl,tl,k⟩:=h;refine ⟨_,(zf (zm (zB z6 (pv 1) (zh (pv 0) rfl) (λ_ _=>rfl)))),?_⟩;exact ⟨_,rfl,_,rfl,s,_,ds,_,.int tg,rfl,es,SK.let_.k.cl,SK.let_.n0,rfl,le,_,_,_,rfl,rfl,hl,xA tg tl rfl,k⟩
def Xm (lens:J6) (se:Nat) {n:Nat} {s:Stp} (hf:FitS n s):(∀ tv∈testC lens se s.t,x8 tv)/\(testC lens se s.t).length<=cT s.t:=by
 cases et:s.t with
 | none=>exact ⟨(λtv h=>nomatch h),Nat.le_refl _⟩
 | some f =>
  have ft:=hf.t f et;refine ⟨xZ (Xb lens se f 0 0 0 0 ft.1) (xY (xE (by decide))),?_⟩;show (mkF lens se f 0 0 0 0++[_]).length<=_;rw [Jf];have:=xg lens se f 0 0 0 0 ft.1;show _+1<=cN f+1;omega
theorem zc9 (lens:J6) (se mk:Nat) {n:Nat} {s:Stp} (hf:FitS n s):(∀ tv∈s.valC lens se mk,x8 tv)/\(s.valC lens se mk).length<=cN s.v
  := by
 cases s with
 | let_ tg v t=>exact ⟨Xb lens se v _ _ _ _ hf.v.1,xg lens se v 0 mk 0 0 hf.v.1⟩
def zeo (lens:J6) (se:Nat) {n:Nat} {s:Stp} (hf:FitS n s):(s.body lens se).length+1<=cS s:=by
 unfold Stp.body cS;rw [Jf];have a:=(Xm lens se hf).2;have b:=(zc9 lens se (maskOf s.t) hf).2;omega
def code_len (lens:J6) (g:Nat) {n:Nat} {s:Stp} (hf:FitS n s) (k:Int):(s.code lens g k).length<=cS s+4:=by
 unfold Stp.code ZU;rw [Jf,Jf,Jf];have a:=zeo lens (8 / g) hf;have b:=tail_len ((s.body lens (8 / g)).any xH) (s.eff (8 / g) (maskOf s.t)) k;show 1+_+_+1<=_;omega
inductive spRnd (c:F2.Cs) (q:QCs) (K:Fg) (n:Nat) (vs:Jj) (H:Hp) (Q:VK) (_:XK):Prop
 | mk (pr dp la lb lc s:Ad) (lens:J6) (st:Stp) (number:Int) (mi:Nat) (_:vs=[.ref pr,.ref s,.int number,.int mi]) (_:H pr=some (.ins q.pr dp (prFl la lb lc))) (_:StepAt c q H s st) (_:FitS n st) (_:InS2 lens st) (_:SqL K H la (lens.map V.int)) (_:cS st<=400) (_:(mi=0∨mi=1∨mi=2∨mi=4)) (_:∀ H' l cs,Same H H'->H l=none->H' l=some (.lst (cs.map V.ref))->CodeAt H' cs (st.code lens (st.grp mi) number)->Q (.ref l) H')
def ok_rnd {c:F2.Cs} {q:QCs} {n:Nat} (d:zk K mg "round_of" Z4 Ub) (hany:mg "any"=none) (SK:StepK K q) (PC:PrC K q.pr) (MC:MakerC K q.ma) (AG:AimG mg q)
  (SS:Ok P w K mg base CX0 (2*n+4) "seats_for_step" ["step","functions"] (spSS c q n)) (GF:Ok P w K mg base CX0 1 "group_for" ["seats"] spGroupF) (IM:OkI P w K mg base CX0 1 q.ma qS (spI_Mk q)) (MO:∀ st,OkM P w K mg base CX0 1 (clsS q st) "many_of" Ut (spMany c q K st))
  (MTe:Ok P w K mg base CX0 (3*n+5) "make_test" ["maker","step"] (spMT c q K n)) (MV:Ok P w K mg base CX0 (3*n+6) "make_value" Ur (spMV c q K n)) (MY:Ok P w K mg base CX0 1 "may_fault" ["step"] (spMay K)):Ok P w K mg base CX0 (3*n+7) "round_of" Ub (spRnd c q K n):=by
 refine oDf d sc_round_of λg mh A _ s H vs Q E hr h=>?_;obtain ⟨pr,dp,la,lb,lc,s,lens,st,number,mi,rfl,hp,hs,hf,il,hl,cl,hg,k⟩:=h;have nd:=sc_round_of.nd;have hrV:=hr;have hrE:Room (3*n+5) _:=hr.mono (by omega);have hrS:Room (2*n+4) _:=hr.mono (by omega);have hr2:Room 2 _:=hr.mono (by omega);have hr1:Room 1 _:=hr.mono (by omega);have kk:=SK.of st;obtain ⟨ds,fl,x,tv,es,f0,f1,f2,f3,hx,ht⟩:=hs.ins;refine ⟨_,(zd (Yr (zL (zF y8 (pv 3) zg (zJ _)) (zf (oRz 3 nd (zv GF hr1 (by rfl) zo (zb (zv SS hrS (by rfl) zo (zb (pv 1) (zb (zh (pv 0) rfl) zc))) zc)))) zy))
   (zd (oRz 4 nd (xF IM AG.ma hr2 (by rfl) zo (zb (zh (pv 0) rfl) (zb (zh (pv 0) rfl) (zb (pv 3) zc)))))
   (zd (zG (Ys PySem.F.plainAttrs_list PySem.F.slot_list_append PySem.F.type_list_append yr (zh (pv 4) rfl) (zb (yc (zb zV (zb (zW (MO st) kk.k.cl hr1 zo (pv 1) (zb (zh (pv 0) rfl) zc)) (zb (pv 3) zc)))) zc)))
   (zd (oRz 5 nd (zv MTe hrE (by rfl) zo (zb (pv 4) (zb (pv 1) zc))))
   (zd (oRz 6 nd (zv MV hrV (by rfl) zo (zb (pv 4) (zb (pv 1) (zb (pv 5) zc)))))
   (zd (zL (yb (zp (call_anyB rfl) (by rfl) hany PyProof.Rows.boot_any (zb (xw ["made_step"] [none] rfl rfl rfl (Zl (zh (pv 4) rfl)) (λs3 H3 fp=>⟨oQz 0 (Jl ["made_step"]),(zv MY hr1 (by rfl) zo (zb (pv 0) zc))⟩)) zc))) (zf (zm (zn zcu (zh (pv 4) rfl) (yh (zb (yc (zb zV zc)) (zb (pv 6) (zb (yc (zb zV (zb (pv 2) zc))) (zb (yc (zb zV zc)) zc)))))))) zy)
   (zf (zm (zn zcu (zh (pv 4) rfl) (yh (zb (pv 6) (zb (yc (zb zV zc)) zc)))))))))))),?_⟩
 show (let s1:L2.TS:=_;let s2:L2.TS:=L2.tSeq _ s1;let s3:L2.TS:=L2.tSeq _ s2;let s4:L2.TS:=L2.tSeq _ s3;let s5:L2.TS:=L2.tSeq _ s4;let s6:L2.TS:=L2.tSeq _ s5;L2.tSeq _ s6 _ _ _);intro s1 s2 s3 s4 s5 s6;refine ⟨λσ J=>σ=[rq pr,rq s,iq number,iq (st.grp mi),none,none,none,none]/\Same H J,?_,?_⟩
 ·refine ⟨_,rfl,rfl,_,rfl,?_⟩
  refine yo (λz=>?_) (λz=>?_)
  ·have z:(mi:Int)=0:=V.int.inj (of_decide_eq_true z)
   have z:mi=0:=by omega
   refine ⟨_,rfl,_,rfl,pr,_,dp,_,.ref lb,rfl,hp,PC.c,PC.n1,rfl,s,.ref lb,st,rfl,hs,hf,λH1 s1=>⟨st.seats,rfl,?_⟩⟩;have e:st.grp mi=grOf st.seats:=if_pos z;rw [e];exact ⟨rfl,s1⟩
  ·have z:¬ mi=0:=λy=>z (decide_eq_true (by rw [y];rfl))
   have e:st.grp mi=mi:=if_neg z;rw [e];exact ⟨rfl,Same.refl _⟩
 rintro σ J ⟨rfl,sJ⟩
 have gb:st.grp mi=1∨st.grp mi=2∨st.grp mi=4:=by
  unfold Stp.grp grOf
  split
  ·split
   ·omega
   ·split <;> omega
  ·omega
 generalize st.grp mi=gg at gb k ⊢;replace hp:=sJ _ _ hp;replace hs:=hs.same sJ;replace es:=sJ _ _ es;replace hl:=zw hl sJ;refine ⟨_,rfl,pr,_,dp,_,.ref la,rfl,hp,PC.c,PC.n0,rfl,_,rfl,pr,_,dp,_,.ref lb,rfl,hp,PC.c,PC.n1,rfl,_,rfl,λmk dmk n1 n2 n3=>?_⟩;have s0:Same J (upd J dmk (.own mk)):=zt (Same.refl _) n2;have h0:Hd (upd J dmk (.own mk)) [(mk,.ins q.ma dmk [])] (upd (upd J dmk (.own mk)) mk (.ins q.ma dmk [])):=Hd.base.new (by rw [zj (Ne.symm n3)];exact n1);generalize upd J dmk (.own mk)=B0 at s0 h0;refine ⟨B0,mk,dmk,la,lb,gg,rfl,h0,gb,λH1 cd h1=>⟨rfl,?_⟩⟩;clear h0 n1 n2 n3;have hp1:=h1.sm _ _ (s0 _ _ hp);refine ⟨_,rfl,mk,_,dmk,_,.ref cd,rfl,Hd.m h1,MC.c,MC.n3,rfl,.inl ⟨rfl,_,Hd.lst h1 0 rfl⟩,_,rfl,s,ds,_,rfl,h1.sm _ _ (s0 _ _ es),f3,_,rfl,pr,_,dp,_,.ref la,rfl,hp1,PC.c,PC.n0,rfl,s,la,lens,rfl,hs.same (s0.trans h1.sm),h1.sql (zw hl s0),il.g,_,rfl,szU 3,λt0 nt0=>?_⟩;generalize hX:upd _ _ _=H2;obtain ⟨B2,s2,e0,h2⟩:=hdG h1 hX nt0;clear hX h1 hp1;refine ⟨cd,_,_,rfl,rfl,Hd.get h2 0 rfl,(by show 0<sizeLine;decide),?_⟩;replace h2:=MkAt.row (t:=t0) h2;generalize hX:upd _ _ _=H2' at h2 ⊢;clear hX;replace s2:=s0.trans s2;have cl1:([]++[t0]:Jc).length+cS st<=900:=by show 1+cS st<=900;omega
 refine ⟨_,rfl,_,rfl,B2,mk,s,dmk,la,lb,cd,8 / gg,[]++[t0],lens,st,rfl,h2,hs.same s2,hf,il,zw hl s2,cl1,λB3 H3 ts1 s3 h3 c3=>?_⟩;clear h2;have l3:ts1.length<=cT st.t:=by rw [c3.n];exact (Xm lens (8 / gg) hf).2
 have lt:cT st.t<=cS st:=by unfold cS;omega
 have s23:=s2.trans s3;refine ⟨_,rfl,_,rfl,_,rfl,B3,mk,s,dmk,la,lb,cd,8 / gg,maskOf st.t,[]++[t0]++ts1,lens,st,rfl,h3,hs.same s23,hf,il,zw hl s23,by rw [Jf];show 1+ts1.length+cS st<=900;omega,λB4 H4 ts2 te s4 h4 c4 e4=>?_⟩;have em:=Hd.m h4
 have ecd:H4 cd=some (.lst ((t0::(ts1++ts2)).map V.ref)):=by
  have:=Hd.get h4 0 rfl;rw [show []++[t0]++ts1++ts2=t0::(ts1++ts2) by simp] at this;exact this
 have cc:CodeAt H4 (t0::(ts1++ts2)) ([.str "begin",.int (st.mn_ lens),.int gg]::st.body lens (8 / gg)):=(yi (yA (s4 _ _ (s3 _ _ e0))) (yi (c3.same s4) c4)).same h4.sm;have ete:=h4.sm _ _ e4;have sH4:Same H H4:=((sJ.trans s23).trans s4).trans h4.sm;have rows:∀ tv∈([.str "begin",.int (st.mn_ lens),.int gg]::st.body lens (8 / gg):List (Jj)),x8 tv:=xZ (a:=[[.str "begin",.int (st.mn_ lens),.int gg]]) (xY (xE (by decide))) (xZ (Xm lens (8 / gg) hf).1 (zc9 lens (8 / gg) (maskOf st.t) hf).1);have bl:=zeo lens (8 / gg) hf;have cn:=cc.n;have any1:([.str "begin",.int (st.mn_ lens),.int gg]::st.body lens (8 / gg):List (Jj)).any xH=(st.body lens (8 / gg)).any xH:=rfl;clear h4 h3 s3 s4 s23 s2 e0 c3 c4 e4 cl1 l3 lt;unfold Stp.code ZU at k;generalize hcs:t0::(ts1++ts2)=cs4 at *;generalize hrw:([.str "begin",.int (st.mn_ lens),.int gg]::st.body lens (8 / gg):List (Jj))=rw4 at *;have lcs:cs4.length<=401:=by rw [cn,← hrw];show (st.body lens (8 / gg)).length+1<=401;omega
 have ek:[[V.str "begin",.int (st.mn_ lens),.int gg]]++st.body lens (8 / gg)=rw4:=hrw;rw [ek] at k;refine ⟨_,rfl,mk,_,dmk,_,.ref cd,rfl,em,MC.c,MC.n3,rfl,cd,rfl,⟨_,SqL.of ecd⟩,_,rfl,λD nD=>?_⟩;refine ZZ (K:=K) (a:=cd) (D:=D) (xs:=cs4.map V.ref) (λi σ J2=>∃ u B4,σ=[u]/\Same H4 B4/\Hd B4 [(D,.lst (((rw4.take i).map xH).map V.bl))] J2) ⟨none,H4,rfl,Same.refl _,Hd.base.new nD⟩ (λi σ J2 _ ⟨_,B4,_,s4,h4⟩=>SqL.of (h4.sm _ _ (s4 _ _ ecd))) ?_ ?_
 ·rintro i y σ J2 hi ⟨u,B4,rfl,s4,h4⟩
  obtain ⟨t,et,rfl⟩:=xI hi;have il':i<cs4.length:=(List.getElem?_eq_some_iff.mp et).1;obtain ⟨tv',etv⟩:∃ tv',rw4[i]?=some tv':=⟨_,List.getElem?_eq_getElem (by rw [← cn];exact il')⟩;have eT:=cc.t i t tv' et etv;refine ⟨_,rfl,t,tv',rfl,SqT.of (h4.sm _ _ (s4 _ _ eT)),rows tv' (List.mem_of_getElem? etv),λJ3 s5=>?_⟩;obtain ⟨B5,sB5,h5,_⟩:=h4.over s5;refine ⟨_,h5.get 0 rfl,(by rw [Je,Je,List.length_take];exact Nat.lt_of_le_of_lt (show _<=401 by omega) (by decide)),some (.ref t),B5,rfl,s4.trans sB5,?_⟩;rw [List.take_add_one,etv,Jg,Jg];exact h5.put 0 rfl
 rintro σ J2 ⟨u,B4,rfl,s4,h4⟩;rw [Je,cn,List.take_length] at h4;refine ⟨D,rw4.map xH,rfl,h4.lst 0 rfl,_,rfl,?_⟩;have eb:(rw4.map xH).any id=(st.body lens (8 / gg)).any xH:=by rw [List.any_map];exact any1
 have sJ2:=s4.trans h4.sm;clear h4 nD;replace em:=sJ2 _ _ em;replace ecd:=sJ2 _ _ ecd;replace cc:=cc.same sJ2;replace ete:=sJ2 _ _ ete;have sA:=sH4.trans sJ2;clear sJ2 s4 sH4;have nl:∀ l,J2 l=none->H l=none:=λl e=>sA.free e;rw [eb];refine yo (λz=>?_) (λz=>?_)
 ·rw [z] at k
  refine ⟨_,rfl,mk,_,dmk,_,.ref cd,rfl,em,MC.c,MC.n3,rfl,szU 1,λt5 n5=>?_⟩;generalize hX:upd _ _ _=G1;obtain ⟨sX,e5⟩:=Z1 hX n5;replace sA:=sA.trans sX;replace ecd:=sX _ _ ecd;replace cc:=cc.same sX;replace ete:=sX _ _ ete;clear hX sX;refine ⟨_,rfl,_,rfl,szU 2,λt6 n6=>?_⟩;generalize hX:upd _ _ _=G2;obtain ⟨sX,e6⟩:=Z1 hX n6;replace sA:=sA.trans sX;replace ecd:=sX _ _ ecd;replace cc:=cc.same sX;replace ete:=sX _ _ ete;replace e5:=sX _ _ e5;clear hX sX;refine ⟨szU 1,λt7 n7=>?_⟩;generalize hX:upd _ _ _=G3;obtain ⟨sX,e7⟩:=Z1 hX n7;replace sA:=sA.trans sX;replace ecd:=sX _ _ ecd;replace cc:=cc.same sX;replace ete:=sX _ _ ete;replace e5:=sX _ _ e5;replace e6:=sX _ _ e6;clear hX sX;refine ⟨szU 4,λl1 nl1=>?_⟩;generalize hX:upd _ _ _=G4;obtain ⟨sX,el1⟩:=Z1 hX nl1;replace sA:=sA.trans sX;replace ecd:=sX _ _ ecd;replace cc:=cc.same sX;replace ete:=sX _ _ ete;replace e5:=sX _ _ e5;replace e6:=sX _ _ e6;replace e7:=sX _ _ e7;clear hX sX;refine ⟨cd,l1,_,_,rfl,rfl,ecd,el1,(by rw [Je];exact Nat.le_trans (show _<=1000 by show cs4.length+4<=1000;omega) (szU 1000)),λl2 nl2=>?_⟩;have nH:H l2=none:=sA.free nl2;generalize hX:upd _ _ _=G5;obtain ⟨sX,el2⟩:=Z1 hX nl2;replace sA:=sA.trans sX;replace cc:=cc.same sX;replace ete:=sX _ _ ete;replace e5:=sX _ _ e5;replace e6:=sX _ _ e6;replace e7:=sX _ _ e7;clear hX sX;refine k G5 l2 (cs4++[t5,te,t6]++[t7]) sA nH (by rw [el2,Jg,Jg,List.append_assoc];rfl) (yi (yi cc ?_) (yA e7));exact yi (yA e5) (yi (yA ete) (yA e6))
 ·have z:(st.body lens (8 / gg)).any xH=false:=Bool.eq_false_iff.mpr z
  rw [z] at k;refine ⟨_,rfl,mk,_,dmk,_,.ref cd,rfl,em,MC.c,MC.n3,rfl,_,rfl,szU 1,λt7 n7=>?_⟩;generalize hX:upd _ _ _=G3;obtain ⟨sX,e7⟩:=Z1 hX n7;replace sA:=sA.trans sX;replace ecd:=sX _ _ ecd;replace cc:=cc.same sX;replace ete:=sX _ _ ete;clear hX sX;refine ⟨szU 2,λl1 nl1=>?_⟩;generalize hX:upd _ _ _=G4;obtain ⟨sX,el1⟩:=Z1 hX nl1;replace sA:=sA.trans sX;replace ecd:=sX _ _ ecd;replace cc:=cc.same sX;replace ete:=sX _ _ ete;replace e7:=sX _ _ e7;clear hX sX;refine ⟨cd,l1,_,_,rfl,rfl,ecd,el1,(by rw [Je];exact Nat.le_trans (show _<=1000 by show cs4.length+2<=1000;omega) (szU 1000)),λl2 nl2=>?_⟩;have nH:H l2=none:=sA.free nl2;generalize hX:upd _ _ _=G5;obtain ⟨sX,el2⟩:=Z1 hX nl2;replace sA:=sA.trans sX;replace cc:=cc.same sX;replace ete:=sX _ _ ete;replace e7:=sX _ _ e7;clear hX sX;exact k G5 l2 (cs4++[te]++[t7]) sA nH (by rw [el2,Jg,Jg,List.append_assoc];rfl) (yi (yi cc (yA ete)) (yA e7))
def yB (lens:J6) (mi:Nat):List Stp->Int->List (Jj)
 | [],_=>[]
 | s::ss,n=>s.code lens (s.grp mi) n++yB lens mi ss (n+1)
theorem za5 (lens:J6) (mi:Nat) (s:Stp):∀ (ss:List Stp) (n:Int),yB lens mi (ss++[s]) n=yB lens mi ss n++s.code lens (s.grp mi) (n+ss.length)
 | [],n=>by
  show s.code lens (s.grp mi) n++[]=[]++s.code lens (s.grp mi) (n+((0:Nat):Int));rw [q8y,List.nil_append,show n+((0:Nat):Int)=n by omega]
 | u::ss,n=>by
  show u.code lens (u.grp mi) n++yB lens mi (ss++[s]) (n+1)=u.code lens (u.grp mi) n++yB lens mi ss (n+1)++s.code lens (s.grp mi) (n+((ss.length+1:Nat):Int));rw [za5 lens mi s ss,List.append_assoc,show n+1+(ss.length:Int)=n+((ss.length+1:Nat):Int) by omega]
structure StepsAt (c:F2.Cs) (q:QCs) (B:Hp) (ss:Jc) (sts:List Stp):Prop where
 n:ss.length=sts.length
 t:∀ (i:Nat) s st,ss[i]?=some s->sts[i]?=some st->StepAt c q B s st
structure FitAll (n:Nat) (lens:J6) (sts:List Stp):Prop where
 f:∀ st∈sts,FitS n st/\InS2 lens st/\cS st<=400
inductive spCnt (c:F2.Cs) (q:QCs) (K:Fg) (vs:Jj) (H:Hp) (Q:VK) (_:XK):Prop
 | mk (l s:Ad) (st:Stp) (_:vs=[.ref l]) (_:SqL K H l [.ref s]) (_:StepAt c q H s st) (_:Q (.int 1) H)
def ok_cnt {c:F2.Cs} {q:QCs} (d:zk K mg "count_of" Z7 ["steps"]) (hisi:mg "isinstance"=none) (SG:StepG mg q) (SK:StepK K q) (CO:Ok P w K mg base CX0 1 "count_of" ["steps"] spNv):Ok P w K mg base CX0 2 "count_of" ["steps"] (spCnt c q K):=by
 refine oDf d sc_count_of λg mh A _ s H vs Q E hr h=>?_;obtain ⟨l,s,st,rfl,hl,hs,k⟩:=h;have nd:=sc_count_of.nd;have hr1:=hr;have kk:=SK.of st;obtain ⟨ds,fl,x,tv,es,_⟩:=hs.ins;refine ⟨_,(zd (oRz 1 nd zg)
   (zd (x6 PassesOwn.never rfl (Zl (pv 0)) (oQz 2 nd) (zd (oRz 1 nd (zn zP (pv 1) zg))
   (zf (zL (yb (zp zC (by rfl) hisi PyProof.Rows.boot_isinstance (zb (pv 2) (zb (zZ SG.till) zc)))) (zf (oRz 1 nd (zn zP (pv 1) (zv CO hr1 (by rfl) zo (zb (zh (pv 2) rfl) zc))))) zy))))
   (zf (zm (pv 1))))),?_⟩
 refine ⟨_,rfl,l,rfl,⟨_,hl⟩,?_⟩;refine Xj (K:=K) (a:=l) (xs:=[.ref s]) (λi σ J=>∃ u,σ=[rq l,iq i,u]/\J=H) ⟨none,rfl,rfl⟩ (λi σ J _ ⟨_,_,e⟩=>by rw [e];exact hl) ?_ ?_
 ·rintro i y σ J hi ⟨u,rfl,rfl⟩
  have hi1:i<1:=(List.getElem?_eq_some_iff.mp hi).1;obtain rfl:i=0:=by omega
  cases hi;refine ⟨_,rfl,_,_,rfl,rfl,?_⟩;refine ⟨_,rfl,_,_,.ref q.till,_,false,rfl,rfl,(λu r=>r),kk.k.ty es,kk.t,false,rfl,xl ?_⟩;exact ⟨_,rfl,rfl⟩
 ·rintro σ J ⟨u,rfl,rfl⟩
  exact ⟨_,rfl,k⟩
inductive spCode (c:F2.Cs) (q:QCs) (K:Fg) (n:Nat) (vs:Jj) (H:Hp) (Q:VK) (_:XK):Prop
 | mk (pr dp la lb lc ls:Ad) (ss:Jc) (sts:List Stp) (lens:J6) (first:Int) (mi:Nat) (_:vs=[.ref pr,.ref ls,.int first,.int mi]) (_:H pr=some (.ins q.pr dp (prFl la lb lc))) (_:SqL K H la (lens.map V.int)) (_:SqL K H ls (ss.map V.ref)) (_:StepsAt c q H ss sts) (_:FitAll n lens sts) (_:(yB lens mi sts first).length<=900) (_:(mi=0∨mi=1∨mi=2∨mi=4)) (_:∀ H' l cs,Same H H'->H l=none->H' l=some (.lst (cs.map V.ref))->CodeAt H' cs (yB lens mi sts first)->Q (.ref l) H')
def ok_code {c:F2.Cs} {q:QCs} {n:Nat} (d:zk K mg "code_of" YA Uc) (hisi:mg "isinstance"=none) (SG:StepG mg q) (SK:StepK K q) (NU:Ok P w K mg base CX0 1 "turns_of" ["program","till","number","group"] spNv) (RO:Ok P w K mg base CX0 (3*n+7) "round_of" Ub (spRnd c q K n)) (CO:Ok P w K mg base CX0 2 "count_of" ["steps"] (spCnt c q K)):Ok P w K mg base CX0 (3*n+8) "code_of" Uc (spCode c q K n):=by
 refine oDf d sc_code_of λg mh A _ s H vs Q E hr h=>?_;obtain ⟨pr,dp,la,lb,lc,ls,ss,sts,lens,first,mi,rfl,hp,hl,hls,hSt,hF',l9,hg,k⟩:=h;have nd:=sc_code_of.nd;have hrR:=hr;have hr2:Room 2 _:=hr.mono (by omega);have hr1:Room 1 _:=hr.mono (by omega);refine ⟨_,(zd (oRz 4 nd (yh zc))
   (zd (oRz 5 nd (pv 2))
   (zd (x6 PassesOwn.never rfl (Zl (pv 1)) (oQz 6 nd) (zd (zL (yb (zp zC (by rfl) hisi PyProof.Rows.boot_isinstance (zb (pv 6) (zb (zZ SG.till) zc)))) (zf (zG (Ys PySem.F.plainAttrs_list PySem.F.slot_list_extend PySem.F.type_list_extend zbr (pv 4) (zb (zv NU hr1 (by rfl) zo (zb (pv 0) (zb (pv 6) (zb (pv 5) (zb (pv 3) zc))))) zc)))) (zf (zG (Ys PySem.F.plainAttrs_list PySem.F.slot_list_extend PySem.F.type_list_extend zbr (pv 4) (zb (zv RO hrR (by rfl) zo (zb (pv 0) (zb (pv 6) (zb (pv 5) (zb (pv 3) zc))))) zc)))))
   (zf (oRz 5 nd (zn zP (pv 5) (zv CO hr2 (by rfl) zo (zb (yh (zb (pv 6) zc)) zc)))))))
   (zf (zm (pv 4)))))),?_⟩
 refine ⟨szU 0,λcd ncd=>?_⟩;have ncd0:=ncd;have h0:Hd H [(cd,.lst (([]:Jc).map V.ref))] (upd H cd (.lst [])):=Hd.base.new ncd;generalize upd H cd (.lst [])=H1 at h0 ⊢;refine ⟨_,rfl,?_⟩;refine ⟨_,rfl,ls,rfl,⟨_,h0.sql hls⟩,?_⟩;refine Xj (K:=K) (a:=ls) (xs:=ss.map V.ref) (λi σ J=>∃ (u:Jk) (B:Hp) (cs:Jc),σ=[rq pr,rq ls,iq first,iq mi,rq cd,iq (first+(i:Int)),u]/\Same H B/\Hd B [(cd,.lst (cs.map V.ref))] J/\CodeAt B cs (yB lens mi (sts.take i) first)) ⟨none,H,[],by rw [show first+((0:Nat):Int)=first by omega];rfl,Same.refl _,h0,⟨rfl,λi b t x=>by cases x⟩⟩ (λi σ J _ ⟨_,B,_,_,sB,h,_⟩=>h.sql (zw hls sB)) ?_ ?_
 ·clear h0
  rintro i y σ J hi ⟨u,B,cs,rfl,sB,h,CB⟩;obtain ⟨s,es,rfl⟩:=xI hi;have il:i<ss.length:=(List.getElem?_eq_some_iff.mp es).1;obtain ⟨st,eF⟩:∃ F,sts[i]?=some F:=⟨_,List.getElem?_eq_getElem (by rw [← hSt.n];exact il)⟩;have hs:=hSt.t i s st es eF;obtain ⟨ff,fi,fc⟩:=hF'.f st (List.mem_of_getElem? eF);have kk:=SK.of st;obtain ⟨ds,fl,x,tv,eh,_⟩:=hs.ins;have sJ:=sB.trans h.sm;have et:sts.take (i+1)=sts.take i++[st]:=by rw [List.take_add_one,eF];rfl
  have tl:(sts.take i).length=i:=by rw [List.length_take,← hSt.n];omega
  have ec:yB lens mi (sts.take (i+1)) first=yB lens mi (sts.take i) first++st.code lens (st.grp mi) (first+(i:Int)):=by rw [et,za5,tl]
  have all:yB lens mi sts first=yB lens mi (sts.take (i+1)) first++yB lens mi (sts.drop (i+1)) (first+((i+1:Nat):Int)):=by
   have gen:∀ (a b:List Stp) (n:Int),yB lens mi (a++b) n=yB lens mi a n++yB lens mi b (n+(a.length:Int)):=by
    intro a
    induction a with
    | nil=>intro b n;show yB lens mi b n=[]++_;rw [List.nil_append,show n+(([]:List Stp).length:Int)=n by show n+0=n;omega]
    | cons z a ih =>
     intro b n;show z.code lens (z.grp mi) n++yB lens mi (a++b) (n+1)=z.code lens (z.grp mi) n++yB lens mi a (n+1)++_;rw [ih,List.append_assoc,show n+1+(a.length:Int)=n+((z::a).length:Int) by rw [q8x];omega]
   have tl2:(sts.take (i+1)).length=i+1:=by rw [List.length_take,← hSt.n];omega
   have:=gen (sts.take (i+1)) (sts.drop (i+1)) first
   rw [List.take_append_drop,tl2] at this;exact this
  refine ⟨_,rfl,_,_,.ref q.till,_,false,rfl,rfl,(λu r=>r),kk.k.ty (sJ _ _ eh),kk.t,false,rfl,xl ?_⟩;refine ⟨_,rfl,.inl ⟨rfl,_,h.lst 0 rfl⟩,_,rfl,_,rfl,_,rfl,_,rfl,pr,dp,la,lb,lc,s,lens,st,first+(i:Int),mi,rfl,sJ _ _ hp,hs.same sJ,ff,fi,zw hl sJ,fc,hg,λJ2 l cs2 s2 nl el CO2=>?_⟩;have ecd:=s2 _ _ (h.get 0 rfl);have ne:l≠cd:=λe=>by rw [e,h.get 0 rfl] at nl;cases nl
  obtain ⟨B2,sB2,h2,new2⟩:=h.over s2;have out:∀ a o,J2 a=some o->a≠cd->B2 a=some o:=λa o e n=>new2 a o e λm=>n (List.mem_singleton.mp m)
  have CO3:CodeAt B2 cs2 (st.code lens (st.grp mi) (first+(i:Int))):=⟨CO2.n,λi b tv x y=>out _ _ (CO2.t i b tv x y) λe=>by
   have:=CO2.t i b tv x y;rw [e,ecd] at this;cases this⟩
  have CA:=yi (CB.same sB2) CO3;rw [← ec] at CA
  have csl:(cs++cs2).length<=900:=by
   rw [CA.n];rw [all,Jf] at l9;omega
  refine ⟨cd,l,_,_,rfl,rfl,ecd,el,(by rw [Je,Je,← List.length_append];exact Nat.le_trans csl (szU 900)),?_⟩;rw [← List.map_append];have h3:=h2.put (o':=.lst ((cs++cs2).map V.ref)) 0 rfl;generalize upd J2 cd (.lst ((cs++cs2).map V.ref))=J3 at h3 ⊢;have s02:=sB.trans sB2;refine ⟨_,rfl,_,rfl,szU 1,λl3 nl3=>?_⟩;have h4:=h3.waste (o:=.lst [.ref s]) nl3;have e3:upd J3 l3 (.lst [.ref s]) l3=_:=zi;generalize upd J3 l3 (.lst [.ref s])=J4 at h4 e3 ⊢;refine ⟨l3,s,st,rfl,SqL.of e3,hs.same (s02.trans h4.sm),_,_,rfl,rfl,?_⟩;exact ⟨_,B2,cs++cs2,by rw [show first+(i:Int)+1=first+((i+1:Nat):Int) by omega];rfl,s02,h4,CA⟩
 ·clear h0
  rintro σ J ⟨u,B,cs,rfl,sB,h,CB⟩;rw [Je,hSt.n,List.take_length] at CB;exact ⟨_,rfl,k _ cd cs (sB.trans h.sm) ncd0 (h.get 0 rfl) (CB.same h.sm)⟩
inductive spMade (c:F2.Cs) (q:QCs) (K:Fg) (n:Nat) (vs:Jj) (H:Hp) (Q:VK) (_:XK):Prop
 | mk (pr dp la lb lc:Ad) (ss:Jc) (sts:List Stp) (lens:J6) (mi:Nat) (_:vs=[.ref pr,.int mi]) (_:H pr=some (.ins q.pr dp (prFl la lb lc))) (_:SqL K H la (lens.map V.int)) (_:SqL K H lc (ss.map V.ref)) (_:StepsAt c q H ss sts) (_:FitAll n lens sts) (_:(yB lens mi sts 0).length<=900) (_:(mi=0∨mi=1∨mi=2∨mi=4)) (_:∀ H' l cs,Same H H'->H' l=some (.lst (cs.map V.ref))->CodeAt H' cs (yB lens mi sts 0)->Q (.ref l) H')
def ok_made {c:F2.Cs} {q:QCs} {n:Nat} (d:DefD K mg "made" Xq Uq) (PC:PrC K q.pr) (CD:Ok P w K mg base CX0 (3*n+8) "code_of" Uc (spCode c q K n)):OkD P w K mg base CX0 (3*n+9) "made" Uq (spMade c q K n):=by
 obtain ⟨g,fd,t,m,F,b,b2⟩:=d;refine ⟨g,fd,t,m,F.kp,b,b2,F.ok sc_made (by rintro vs H Q E ⟨_,_,_,_,_,_,_,_,_,e,_⟩;rw [e];rfl) λmh A outer s H vs Q E hr h=>?_⟩;obtain ⟨pr,dp,la,lb,lc,ss,sts,lens,mi,rfl,hp,hl,hls,hSt,hF',l9,hg,k⟩:=h;have nd:=sc_made.nd;have hrC:=hr;refine ⟨_,(zf (zm (zv CD hrC (by rfl) zo (zb (pv 0) (zb (zh (pv 0) rfl) (zb zg (zb (pv 1) zc))))))),?_⟩;exact ⟨_,rfl,_,rfl,pr,_,dp,_,.ref lc,rfl,hp,PC.c,PC.n2,rfl,_,rfl,pr,dp,la,lb,lc,lc,ss,sts,lens,0,mi,rfl,hp,hl,hls,hSt,hF',l9,hg,λH' l cs s _=>k H' l cs s⟩
def kin_snoc {ls:J6} {v:Int} (h:∀ x∈ls,Kin x) (k:Kin v):∀ x∈ls++[v],Kin x:=λx hx=>by
 rcases List.mem_append.mp hx with z | z
 ·exact h x z
 ·rw [List.mem_singleton.mp z];exact k
def kin_kept (c:Int):Kin (yM c):=by
 unfold yM
 split
 ·exact ⟨by omega,by omega⟩
 split
 ·have:c / 4 % 6=0∨c / 4 % 6=1∨c / 4 % 6=2∨c / 4 % 6=3∨c / 4 % 6=4∨c / 4 % 6=5:=by omega
  rcases this with e | e | e | e | e | e <;> rw [e] <;> decide
 split
 ·exact ⟨by omega,by omega⟩
 ·exact ⟨by omega,by omega⟩
inductive spCA (K:Fg) (vs:Jj) (H:Hp) (Q:VK) (_:XK):Prop
 | mk (a:Ad) (ns:J6) (k:Int) (_:vs=[.ref a,.int k]) (_:SqL K H a (ns.map V.int)) (_:0<=k) (_:Q (.int (ns.getD k.toNat 0)) H)
def ze8 (d:zk K mg "_law_cell_at" ZF Ug) (hlen:mg "len"=none):Ok P w K mg base CX0 1 "_law_cell_at" Ug (spCA K):=by
 refine oDf d zcc λg mh A _ s H vs Q E hr h=>?_;obtain ⟨a,ns,i,rfl,hS,h0,k⟩:=h;refine ⟨_,(zd (zL (zF op_lt (pv 1) (zp zD (by rfl) hlen PySem.boot_len (zb (pv 0) zc)) (zJ _)) (zf (zm (zB z6 (pv 0) (pv 1) (λ_ _=>rfl)))) zy)
   (zf (zm zg))),?_⟩
 refine ⟨_,rfl,_,rfl,a,_,rfl,.inl hS,_,_,rfl,rfl,_,rfl,?_⟩;rw [Je];refine yo (λz=>?_) (λz=>?_)
 ·have z:i<(ns.length:Int):=by simpa using z
  exact ⟨_,rfl,_,rfl,a,_,_,_,rfl,rfl,hS,xA i.toNat (by omega) (by omega),k⟩
 ·have z:¬ i<(ns.length:Int):=by simpa using z
  have e:ns.getD i.toNat 0=0:=by rw [q6x,List.getElem?_eq_none (by omega)];rfl
  rw [e] at k;exact k
inductive spSomeL (K:Fg) (vs:Jj) (H:Hp) (Q:VK) (_:XK):Prop
 | mk (a:Ad) (ns:J6) (at':Int) (n:Nat) (_:vs=[.ref a,.int at',.int n]) (_:SqL K H a (ns.map V.int)) (_:ns.length<=63) (_:0<=at') (_:at'<=100) (_:n<=1000) (_:∀ H' l (xs:J6),xs.length=n->(∀ v∈xs,Kin v)->Same H H'->H l=none->H' l=some (.lst (xs.map V.int))->Q (.ref l) H')
def ok_someL (d:zk K mg "_law_some" Y7 qY) (hlen:mg "len"=none) (hrg:mg "range"=none) (KB:Ok P w K mg base (CXe P w base) 1 "_law_kept_by" qJ spKB):Ok P w K mg base CX0 2 "_law_some" qY (spSomeL K):=by
 refine oDf d sc_l_some λg mh A _ s H vs Q E hr h=>?_;obtain ⟨a,ns,at',n,rfl,hS,hn,a0,a1,n1,k⟩:=h;have nd:=sc_l_some.nd;have hr1:=hr;have SL:(200000:Nat)<sizeLine:=by decide
 refine ⟨_,(zd (oRz 3 nd (yh zc))
   (zd (x6 PassesOwn.never rfl (yY rfl hrg (zb (pv 2) zc)) (oQz 4 nd) (zd (oRz 5 nd zg)
   (zd (Yr (zL (zF op_gt (zp zD (by rfl) hlen PySem.boot_len (zb (pv 0) zc)) zg (zJ _)) (zf (oRz 5 nd (zB z6 (pv 0) (zn yk (zn zP (pv 1) (zn yC zg (pv 4))) (zp zD (by rfl) hlen PySem.boot_len (zb (pv 0) zc))) (λ_ _=>rfl)))) zy))
   (zf (zG (Ys PySem.F.plainAttrs_list PySem.F.slot_list_append PySem.F.type_list_append yr (pv 3) (zb (zv KB hr1 (by rfl) ZM (zb (zn zP (zn zP (zn zal (pv 5) (zn zP zg (zn yk (pv 4) zg))) (zn yC (zn yC zg (pv 4)) (pv 4))) (zn yC zg (pv 1))) zc)) zc)))))))
   (zf (zm (pv 3))))),?_⟩
 show (let s1:L2.TS:=_;let s2:L2.TS:=L2.tSeq _ s1;L2.tSeq _ s2 _ _ _);intro s1 s2;refine ⟨szU 0,λl nl=>?_⟩;have nl0:=nl;have h0:Hd H [(l,.lst (([]:J6).map V.int))] (upd H l (.lst [])):=Hd.base.new nl;generalize upd H l (.lst [])=H1 at h0 ⊢;refine ⟨_,rfl,_,rfl,by omega,by omega,?_⟩;rw [q0z];refine Zo (n:=n) (λi σ J=>∃ (u4 u5:Jk) (B:Hp) (xs:J6),σ=[rq a,iq at',iq n,rq l,u4,u5]/\xs.length=i/\(∀ v∈xs,Kin v)/\Same H B/\Hd B [(l,.lst (xs.map V.int))] J) ⟨none,none,H,[],rfl,rfl,(λv hv=>nomatch hv),Same.refl _,h0⟩ ?_ ?_
 ·clear h0
  rintro i σ J hi ⟨u4,u5,B,xs,rfl,lx,xk,sB,h⟩;have hSB:=zw hS sB;refine ⟨λσ J2=>∃ cell:Int,σ=[rq a,iq at',iq n,rq l,iq (0+(i:Int)),iq cell]/\J2=J,?_,?_⟩
  ·refine ⟨_,rfl,a,_,rfl,.inl (h.sql hSB),_,_,rfl,rfl,_,rfl,?_⟩
   rw [Je];refine yo (λz=>?_) (λz=>?_)
   ·have z:(0:Int)<(ns.length:Nat):=of_decide_eq_true z
    have m0:=Int.emod_nonneg (at'+5*(0+(i:Int))) (show ((ns.length:Nat):Int)≠0 by omega);have m1:=Int.emod_lt_of_pos (at'+5*(0+(i:Int))) z;refine ⟨_,rfl,_,rfl,_,rfl,_,_,rfl,rfl,.inl ⟨by decide,by decide⟩,_,_,rfl,rfl,_,rfl,a,_,rfl,.inl (h.sql hSB),?_⟩;rw [Je];refine ⟨_,_,rfl,rfl,z,a,_,_,_,rfl,rfl,h.sql hSB,xA ((at'+5*(0+(i:Int))) % (ns.length:Nat)).toNat (by omega) (by show (at'+5*(0+(i:Int))) % (ns.length:Nat)=_;omega),?_⟩;exact ⟨_,rfl,rfl⟩
   ·exact ⟨_,rfl,rfl⟩
  rintro σ J2 ⟨cell,rfl,rfl⟩;have k3:=Int.emod_nonneg (0+(i:Int)) (show (3:Int)≠0 by decide);have k4:=Int.emod_lt_of_pos (0+(i:Int)) (show (0:Int)<3 by decide);refine ⟨_,rfl,.inl ⟨rfl,_,h.lst 0 rfl⟩,_,rfl,_,rfl,_,_,rfl,rfl,(by show (0:Int)<3;decide),_,_,rfl,rfl,_,_,rfl,rfl,⟨by omega,by omega,by omega⟩,?_⟩;refine ⟨_,rfl,_,_,rfl,rfl,.inl ⟨by decide,by decide⟩,_,rfl,_,_,rfl,rfl,.inr ⟨by omega,by omega⟩,_,_,rfl,rfl,_,rfl,_,_,rfl,rfl,.inl ⟨by decide,by decide⟩,_,_,rfl,rfl,_,rfl,λJ3 s3=>?_⟩;obtain ⟨B2,sB2,h2,_⟩:=h.over s3;refine ⟨l,_,_,rfl,rfl,h2.get 0 rfl,(by rw [Je];omega),?_⟩;refine ⟨_,_,B2,xs++[yM (cell.fdiv (1+(0+(i:Int)) % 3)+7*(0+(i:Int))*(0+(i:Int))+3*at')],rfl,by rw [Jf,lx];rfl,kin_snoc xk (kin_kept _),sB.trans sB2,?_⟩;rw [Jg];exact h2.put 0 rfl
 ·clear h0
  rintro σ J ⟨u4,u5,B,xs,rfl,lx,xk,sB,h⟩;exact ⟨_,rfl,k _ l xs lx xk (sB.trans h.sm) nl0 (h.get 0 rfl)⟩
structure TysK (K:Fg) (mg:J0):Prop where
 tu:mg "tuple"=none
 li:mg "list"=none
 st:mg "str"=none
 ktt:PySem.W.kitOne K (.type "tuple") (.type "tuple")=some true
 kll:PySem.W.kitOne K (.type "list") (.type "list")=some true
 kss:PySem.W.kitOne K (.type "str") (.type "str")=some true
def RvAt (H:Hp) (v:V):Option (Int×Int×Str)->Prop
 | none=>v=.non
 | some (n,p,s)=>∃ u,v=.ref u/\H u=some (.tup [.int n,.int p,.str s])
def kinds3:Jb:=["nought","outside","endless"]
def dR (n p:Int) (s:Str):PyData:=.tuple [.int n,.int p,.str s]
def dr_dv {H:Hp} {t:Ad} {n p:Int} {s:Str} (h:H t=some (.tup [.int n,.int p,.str s])):DV K H (.ref t) (dR n p s):=.tup (SqT.of h) (.cons (.int _) (.cons (.int _) (.cons (.str _) .nil)))
def dr_lay {n p:Int} {s:Str} (h:s∈kinds3):(dR n p s).canLay0=true:=by
 simp only [kinds3,List.mem_cons,List.not_mem_nil,or_false] at h;rcases h with rfl | rfl | rfl <;> (simp [dR,PyData.canLay0,PyData.canLayAll0];try decide +kernel)
def dr_dep {n p:Int} {s:Str}:(dR n p s).depth<=64:=Nat.le_trans (dep_tup (n:=2) (za3 (by show PyData.depth (.int _)<=2;simp [PyData.depth]) (za3 (by show PyData.depth (.int _)<=2;simp [PyData.depth]) (za3 (by show PyData.depth (.str _)<=2;simp [PyData.depth]) dep_nil)))) (by decide)
inductive spTold3 (K:Fg) (vs:Jj) (H:Hp) (Q:VK) (_:XK):Prop
 | mk (t c1 c2:Ad) (v1 v2 v3:V) (cs:J6) (r:Option (Int×Int×Str)) (_:vs=[.ref t,.ref c2,v2]) (_:H t=some (.tup [.ref c1,v1,v3])) (_:H c1=some (.lst (cs.map V.int))) (_:SqL K H c2 (cs.map V.int)) (_:RvAt H v1 r) (_:RvAt H v2 r) (_:(∀ n p s,r=some (n,p,s)->s∈kinds3)) (_:Q (.bl true) H)
def ok_told3 (d:zk K mg "_law_told" Y6 qU) (hlen:mg "len"=none) (N:Ints K mg) (T:TysK K mg) (WH:Ok P w K mg base (CXe P w base) 1 "_law_whole" ["_law_found"] (sp1 λ_=>.bl true)) :
  Ok P w K mg base CX0 2 "_law_told" qU (spTold3 K):=by
 refine oDf d sc_l_told λg mh A _ s H vs Q E hr h=>?_;obtain ⟨t1,c1,c2,v1,v2,v3,cs,r,rfl,e1,hc1,hc2,rv1,rv2,hK,k⟩:=h;have nd:=sc_l_told.nd;have hr1:=hr;have hu:=hr.units;have htu:=T.tu;have hli:=T.li;have hst:=T.st;refine ⟨_,(zd (zL (pw_or (zaf (yb (zp zC (by rfl) N.isi PyProof.Rows.boot_isinstance (zb (pv 0) (zb (Xs htu PyProof.Rows.boot_tuple) zc))))) (pw_or (zF op_ne (zp zD (by rfl) hlen PySem.boot_len (zb (pv 0) zc)) zg (zJ _)) (pw_or1 (zaf (yb (zp zC (by rfl) N.isi PyProof.Rows.boot_isinstance (zb (zB zI (pv 0) zg (λ_ _=>rfl)) (zb (Xs hli PyProof.Rows.boot_list) zc)))))))).pt (zf (zm Xe)) zy)
   (zd (x6 PassesOwn.never rfl (Zl (zB zI (pv 0) zg (λ_ _=>rfl))) (oQz 3 nd) (zf (zL (zaf (yb (zv WH hr1 (by rfl) ZM (zb (pv 3) zc)))) (zf (zm Xe)) zy)))
   (zd (zL (zF (op_neD hu) (zB zI (pv 0) zg (λ_ _=>rfl)) (pv 1) (zJ _)) (zf (zm Xe)) zy)
   (zd (zL (zF zak (pv 2) xv (zJ _)) (zf (zm (Zm zak (zB zI (pv 0) zg (λ_ _=>rfl)) xv (zJ _)))) zy)
   (zd (zL (pw_or (zaf (yb (zp zC (by rfl) N.isi PyProof.Rows.boot_isinstance (zb (zB zI (pv 0) zg (λ_ _=>rfl)) (zb (Xs htu PyProof.Rows.boot_tuple) zc))))) (pw_or (zF op_ne (zp zD (by rfl) hlen PySem.boot_len (zb (zB zI (pv 0) zg (λ_ _=>rfl)) zc)) zg (zJ _)) (pw_or1 (zaf (yb (zp zC (by rfl) N.isi PyProof.Rows.boot_isinstance (zb (zB zI (zB zI (pv 0) zg (λ_ _=>rfl)) zg (λ_ _=>rfl)) (zb (Xs hst PyProof.Rows.boot_str) zc)))))))).pt (zf (zm Xe)) zy)
   (zf (zm (zcq (zv WH hr1 (by rfl) ZM (zb (zB zI (zB zI (pv 0) zg (λ_ _=>rfl)) zg (λ_ _=>rfl)) zc)) (zcq (zv WH hr1 (by rfl) ZM (zb (zB zI (zB zI (pv 0) zg (λ_ _=>rfl)) zg (λ_ _=>rfl)) zc)) (zcp (Zm (op_eqD hu) (zB zI (pv 0) zg (λ_ _=>rfl)) (pv 2) (zJ _)))))))))))),?_⟩
 show (let s1:L2.TS:=_;let s2:L2.TS:=L2.tSeq _ s1;let s3:L2.TS:=L2.tSeq _ s2;let s4:L2.TS:=L2.tSeq _ s3;let s5:L2.TS:=L2.tSeq _ s4;L2.tSeq _ s5 _ _ _);intro s1 s2 s3 s4 s5;refine ⟨_,rfl,_,_,.type "tuple",.type "tuple",true,rfl,rfl,(λu r=>r),.inl (.tup e1),T.ktt,true,rfl,xl ?_⟩;refine ⟨_,rfl,t1,_,rfl,.inr (SqT.of e1),rfl,_,rfl,iteNS rfl ?_⟩;refine ⟨_,rfl,t1,_,0,.ref c1,rfl,rfl,SqT.of e1,rfl,_,_,.type "list",.type "list",true,rfl,rfl,(λu r=>r),.inl (.lst hc1),T.kll,true,rfl,xl ?_⟩;refine ⟨_,rfl,t1,_,0,.ref c1,rfl,rfl,SqT.of e1,rfl,c1,rfl,⟨_,SqL.of hc1⟩,?_⟩;refine Xj (K:=K) (a:=c1) (xs:=cs.map V.int) (λi σ H2=>∃ u,σ=[some (.ref t1),some (.ref c2),some v2,u]/\H2=H) ⟨none,rfl,rfl⟩ (λi σ H2 _ ⟨_,_,e⟩=>by rw [e];exact SqL.of hc1) ?_ ?_
 ·rintro i x σ H2 hi ⟨u,rfl,rfl⟩
  obtain ⟨hlt,rfl⟩:=Z9 hi;exact ⟨_,rfl,_,rfl,true,rfl,xl ⟨_,rfl,rfl⟩⟩
 ·rintro σ H2 ⟨u,rfl,rfl⟩
  refine ⟨_,rfl,t1,_,0,.ref c1,rfl,rfl,SqT.of e1,rfl,_,rfl,dI cs,dI cs,dv_ints (SqL.of hc1),dv_ints hc2,zat,zat,Nat.le_trans dep_ints (by decide),?_⟩;rw [SeqAt.eqv_refl _ zat];refine ⟨false,rfl,xl ?_⟩
  cases r with
  | none =>
   cases (show v1=.non from rv1);cases (show v2=.non from rv2);refine ⟨_,rfl,rfl,true,congrArg V.bl (decide_eq_true rfl),ZY ?_⟩;refine ⟨_,rfl,t1,_,1,.non,rfl,rfl,SqT.of e1,rfl,rfl,?_⟩;rw [decide_eq_true rfl];exact k
  | some r =>
   obtain ⟨n,p,s3⟩:=r;obtain ⟨u1,rfl,f1⟩:=rv1;obtain ⟨u2,rfl,f2⟩:=rv2;have hs:=hK _ _ _ rfl;refine ⟨_,rfl,rfl,false,congrArg V.bl (decide_eq_false (λz=>by cases z)),xl ?_⟩;refine ⟨_,rfl,t1,_,1,.ref u1,rfl,rfl,SqT.of e1,rfl,_,_,.type "tuple",.type "tuple",true,rfl,rfl,(λu r=>r),.inl (.tup f1),T.ktt,true,rfl,xl ?_⟩;refine ⟨_,rfl,t1,_,1,.ref u1,rfl,rfl,SqT.of e1,rfl,u1,_,rfl,.inr (SqT.of f1),rfl,_,rfl,iteNS rfl ?_⟩;refine ⟨_,rfl,t1,_,1,.ref u1,rfl,rfl,SqT.of e1,rfl,u1,_,2,.str s3,rfl,rfl,SqT.of f1,rfl,_,_,.type "str",.type "str",true,rfl,rfl,(λu r=>r),.inl (.str _),T.kss,true,rfl,xl ?_⟩;refine ⟨_,rfl,t1,_,1,.ref u1,rfl,rfl,SqT.of e1,rfl,u1,_,0,.int n,rfl,rfl,SqT.of f1,rfl,n,rfl,true,rfl,ZY ?_⟩;refine ⟨_,rfl,t1,_,1,.ref u1,rfl,rfl,SqT.of e1,rfl,u1,_,1,.int p,rfl,rfl,SqT.of f1,rfl,p,rfl,true,rfl,ZY ?_⟩;refine ⟨_,rfl,t1,_,1,.ref u1,rfl,rfl,SqT.of e1,rfl,_,rfl,dR n p s3,dR n p s3,dr_dv f1,dr_dv f2,dr_lay hs,dr_lay hs,dr_dep,?_⟩;rw [SeqAt.eqv_refl _ (dr_lay hs)];exact k
def yn (c:Int):F2.Fm:=if c % 3=0 then .num (yM (c / 3)) else if c % 3=1 then .here else .cell 1
def ZO (row:J6) (p:Nat) (c:Int):Int:=if c % 3=0 then yM (c / 3) else if c % 3=1 then p else row.getD p 0
def sgF (c:Int):Str:=if c / 3 % 3=0 then "+" else if c / 3 % 3=1 then "-" else "*"
def stN (f:F2.Fm) (c:Int):F2.Fm:=if c / 9 % 3=0 then .pair (sgF c) f (yn c) else .pair (sgF c) (yn c) f
def jn (c l r:Int):Int:=if c / 3 % 3=0 then kept (l+r) else if c / 3 % 3=1 then kept (l-r) else kept (l*r)
def stV (row:J6) (p:Nat) (v c:Int):Int:=if c / 9 % 3=0 then jn c v (ZO row p c) else jn c (ZO row p c) v
def yl (xs:J6) (k:Nat):F2.Fm:=((xs.drop 1).take k).foldl stN (yn (xs.getD 0 0))
def xB (row:J6) (p:Nat) (xs:J6) (k:Nat):Int:=((xs.drop 1).take k).foldl (stV row p) (ZO row p (xs.getD 0 0))
def nest_succ {xs:J6} {k:Nat} (h:k+1<xs.length):yl xs (k+1)=stN (yl xs k) (xs.getD (k+1) 0):=by
 unfold yl;rw [List.take_add_one,List.getElem?_drop,Nat.add_comm 1 k,List.getElem?_eq_getElem h,List.foldl_append,q6x (l:=xs) (i:=k+1),List.getElem?_eq_getElem h];rfl
def due_succ {row:J6} {p:Nat} {xs:J6} {k:Nat} (h:k+1<xs.length):xB row p xs (k+1)=stV row p (xB row p xs k) (xs.getD (k+1) 0):=by
 unfold xB;rw [List.take_add_one,List.getElem?_drop,Nat.add_comm 1 k,List.getElem?_eq_getElem h,List.foldl_append,q6x (l:=xs) (i:=k+1),List.getElem?_eq_getElem h];rfl
def zao {P:F2.Fm->Prop} (h0:∀ c,P (yn c)) (h1:∀ f c,P f->P (stN f c)) (xs:J6) (k:Nat):P (yl xs k):=by
 unfold yl;generalize (xs.drop 1).take k=l
 have:∀ (l:J6) (f:F2.Fm),P f->P (l.foldl stN f):=by
  intro l
  induction l with
  | nil=>exact λf h=>h
  | cons c l ih=>exact λf h=>ih _ (h1 f c h)
 exact this l _ (h0 _)
def sg_in (c:Int):sgF c∈signs:=by
 unfold sgF
 split
 ·decide
 split <;> decide
def zas (c:Int):Fit (yn c):=by
 unfold yn
 split
 ·trivial
 split <;> trivial
def zan (xs:J6) (k:Nat):Fit (yl xs k):=zao zas (λf c h=>by unfold stN;split;exact ⟨h,zas c⟩;exact ⟨zas c,h⟩) xs k
def zd7 (c:Int):hF (yn c)=0/\cN (yn c)=1/\cD (yn c)=0:=by
 unfold yn
 split
 ·exact ⟨rfl,rfl,rfl⟩
 split <;> exact ⟨rfl,rfl,rfl⟩
def nest_size (xs:J6) (k:Nat):hF (yl xs k)<=k/\cN (yl xs k)<=1+4*k/\cD (yl xs k)=0:=by
 unfold yl
 have key:∀ (l:J6) (f:F2.Fm) (a:Nat),hF f<=a/\cN f<=1+4*a/\cD f=0->hF (l.foldl stN f)<=a+l.length/\cN (l.foldl stN f)<=1+4*(a+l.length)/\cD (l.foldl stN f)=0:=by
  intro l
  induction l with
  | nil=>exact λf a h=>h
  | cons c l ih =>
   intro f a h;have lc:=zd7 c
   have:=ih (stN f c) (a+1) (by
    unfold stN
    split
    ·show max (hF f) (hF (yn c))+1<=_/\cN f+cN (yn c)+3<=_/\max (cD f) (cD (yn c))=0
     omega
    ·show max (hF (yn c)) (hF f)+1<=_/\cN (yn c)+cN f+3<=_/\max (cD (yn c)) (cD f)=0
     omega)
   rw [q8x];show hF (l.foldl stN (stN f c))<=_/\cN (l.foldl stN (stN f c))<=_/\_;rw [show a+(l.length+1)=a+1+l.length by omega];exact this
 have l1:=zd7 (xs.getD 0 0);have:=key ((xs.drop 1).take k) (yn (xs.getD 0 0)) 0 (by omega);have tl:((xs.drop 1).take k).length<=k:=by rw [List.length_take];omega
 omega
def zd8 {n:Nat} (c:Int):InL [(n:Int),n] (yn c)/\Zq 0 (yn c):=by
 unfold yn
 split
 ·exact ⟨trivial,trivial⟩
 split
 ·exact ⟨trivial,trivial⟩
 ·exact ⟨⟨by decide,by show 1<2;decide⟩,by show (1:Int)≠0;decide⟩
def zd3 {n:Nat} (xs:J6) (k:Nat):InL [(n:Int),n] (yl xs k)/\Zq 0 (yl xs k):=zao (P:=λf=>InL [(n:Int),n] f/\Zq 0 f) zd8 (λf c h=>by
 have l:=zd8 (n:=n) c;unfold stN
 split
 ·exact ⟨⟨h.1,l.1⟩,h.2,l.2⟩
 ·exact ⟨⟨l.1,h.1⟩,l.2,h.2⟩) xs k
def leaf_wf {n:Nat} {fs:List F2.Fn} {kk:Nat} {cs:J6} {e:Int} (n1:1<=n) (e0:0<=e) (e1:e<n) (c:Int):F2.WF fs kk ⟨[(n:Int),n],cs,e,[]⟩ (yn c):=by
 unfold yn
 split
 ·exact zbw _
 split
 ·trivial
 ·refine ⟨⟨by decide,by show 1<2;decide⟩,?_,λ_=>⟨e0,?_⟩⟩
  ·show (1:Int)<=n;omega
  ·show e<(n:Int);omega
def nest_wf {n:Nat} {fs:List F2.Fn} {kk:Nat} {cs:J6} {e:Int} (n1:1<=n) (e0:0<=e) (e1:e<n) (xs:J6) (k:Nat):F2.WF fs kk ⟨[(n:Int),n],cs,e,[]⟩ (yl xs k):=zao (leaf_wf n1 e0 e1) (λf c h=>by
 have l:=leaf_wf (fs:=fs) (kk:=kk) (cs:=cs) n1 e0 e1 c;unfold stN
 split
 ·exact ⟨sg_in c,h,l⟩
 ·exact ⟨sg_in c,l,h⟩) xs k
def leaf_ev {n:Nat} {row t0:J6} {cl:Int->J6->Res} {p:Nat} (hr:row.length=n) (ht:t0.length=n) (hp:p<n) (c:Int):F2.ev cl ⟨[(n:Int),n],t0++row,(p:Int),[]⟩ (yn c)=.ok (ZO row p c):=by
 unfold yn ZO
 split
 ·rfl
 split
 ·rfl
 ·have e1:(t0++row).getD ((n:Int)+(p:Int)).toNat 0=row.getD p 0:=by
   rw [q6x,List.getElem?_append_right (by omega),← q6x];congr 1;omega
  show (if (n:Int)=1 then FM.Res.ok ((t0++row).getD (([(n:Int)]).sum+0).toNat 0) else FM.Res.ok ((t0++row).getD (([(n:Int)]).sum+(p:Int)).toNat 0))=_;have es:([(n:Int)]).sum=n:=by show (n:Int)+0=n;omega
  rw [es]
  split
  ·rename_i z
   have p0:p=0:=by omega
   rw [p0] at e1 ⊢;exact congrArg FM.Res.ok e1
  ·exact congrArg FM.Res.ok e1
def done_jn (c l r:Int):doneR (sgF c) l r=some (jn c l r):=by
 unfold sgF jn
 split
 ·rfl
 split <;> rfl
def nest_ev {n:Nat} {row t0:J6} {cl:Int->J6->Res} {p:Nat} (hr:row.length=n) (ht:t0.length=n) (hp:p<n) (xs:J6) (k:Nat):F2.ev cl ⟨[(n:Int),n],t0++row,(p:Int),[]⟩ (yl xs k)=.ok (xB row p xs k):=by
 unfold yl xB
 have key:∀ (l:J6) (f:F2.Fm) (v:Int),F2.ev cl ⟨[(n:Int),n],t0++row,(p:Int),[]⟩ f=.ok v->F2.ev cl ⟨[(n:Int),n],t0++row,(p:Int),[]⟩ (l.foldl stN f)=.ok (l.foldl (stV row p) v):=by
  intro l
  induction l with
  | nil=>exact λf v h=>h
  | cons c l ih =>
   intro f v h;refine ih (stN f c) (stV row p v c) ?_;have lc:=leaf_ev (cl:=cl) hr ht hp c;unfold stN stV
   split
   ·show ZW (sgF c) (F2.ev cl _ f) (F2.ev cl _ (yn c))=_
    rw [h,lc]
    show (match doneR (sgF c) v (ZO row p c) with
     | some n=>FM.Res.ok n
     | none=>.nought)=_
    rw [done_jn]
   ·show ZW (sgF c) (F2.ev cl _ (yn c)) (F2.ev cl _ f)=_
    rw [h,lc]
    show (match doneR (sgF c) (ZO row p c) v with
     | some n=>FM.Res.ok n
     | none=>.nought)=_
    rw [done_jn]
 exact key _ _ _ (leaf_ev hr ht hp _)
inductive spWrap (vs:Jj) (H:Hp) (Q:VK) (_:XK):Prop
 | mk (x:Int) (_:vs=[.int x]) (_:Q (.int (kept x)) H)
def ok_wrap (d:zk K mg "_law_wrap" Y5 ["_law_number"]):Ok P w K mg base CX0 1 "_law_wrap" ["_law_number"] spWrap:=by
 refine oDf d sc_l_wrap λg mh A _ s H vs Q E hr h=>?_;obtain ⟨x,rfl,k⟩:=h;refine ⟨_,(zf (zm (zn y9 (zn yk (zn zP (pv 0) zg) zg) zg))),?_⟩;exact ⟨_,rfl,_,_,rfl,rfl,_,_,rfl,rfl,(by show (0:Int)<18446744073709551616;decide),_,_,rfl,rfl,k⟩
inductive spSign (vs:Jj) (H:Hp) (Q:VK) (_:XK):Prop
 | mk (x:Int) (_:vs=[.int x]) (_:Q (.str (sgF x)) H)
def ok_sign (d:zk K mg "_law_sign" Y8 qJ):Ok P w K mg base CX0 1 "_law_sign" qJ spSign:=by
 refine oDf d sc_l_sign λg mh A _ s H vs Q E hr h=>?_;obtain ⟨x,rfl,k⟩:=h;have hx:x / 3 % 3=0∨x / 3 % 3=1∨x / 3 % 3=2:=by omega
 refine ⟨_,(zf (zm (zB ix_str zV (zn yk (zn xx (pv 0) zg) zg) (λ_ _=>rfl)))),?_⟩;refine ⟨_,rfl,_,_,rfl,rfl,⟨by decide,by decide⟩,_,_,rfl,rfl,(by show (0:Int)<3;decide),?_⟩;unfold sgF at k;rcases hx with e | e | e
 ·rw [if_pos e] at k
  exact ⟨"+-*",x / 3 % 3,43,rfl,rfl,by decide,by rw [e];rfl,k⟩
 ·rw [if_neg (by omega),if_pos e] at k
  exact ⟨"+-*",x / 3 % 3,45,rfl,rfl,by decide,by rw [e];rfl,k⟩
 ·rw [if_neg (by omega),if_neg (by omega)] at k
  exact ⟨"+-*",x / 3 % 3,42,rfl,rfl,by decide,by rw [e];rfl,k⟩
inductive spLeafN (c:F2.Cs) (vs:Jj) (H:Hp) (Q:VK) (_:XK):Prop
 | mk (cell:Int) (_:vs=[.int cell]) (_:∀ H' x,Same H H'->F2.FormAt c H' (yn cell) x->Q (.ref x) H')
def ok_leafN {c:F2.Cs} (d:zk K mg "_law_leaf" Xa qJ) (G:FormG mg c) (KB:Ok P w K mg base (CXe P w base) 1 "_law_kept_by" qJ spKB) (MH:MkN K c.here) (IN:OkI P w K mg base (CXe P w base) 1 c.num Uo (spI_Number c.num)) (IC:OkI P w K mg base (CXe P w base) 1 c.cell ["self","row"] (spI_Cell c.cell)):Ok P w K mg base CX0 3 "_law_leaf" qJ (spLeafN c):=by
 refine oDf d sc_l_leaf λg mh A _ s H vs Q E hr h=>?_;obtain ⟨cell,rfl,k⟩:=h;have nd:=sc_l_leaf.nd;have hr2:=hr;have hr1:Room 1 _:=hr.mono (by decide);unfold yn at k;refine ⟨_,(zd (zL (zF y8 (zn yk (pv 0) zg) zg (zJ _)) (zf (zm (xF IN G.num hr2 (by rfl) ZM (zb (zv KB hr1 (by rfl) ZM (zb (zn xx (pv 0) zg) zc)) zc)))) zy)
   (zd (zL (zF y8 (zn yk (pv 0) zg) zg (zJ _)) (zf (zm (pe_makeN MH (by rfl) G.here))) zy)
   (zf (zm (xF IC G.cell hr2 (by rfl) ZM (zb zg zc)))))),?_⟩
 refine ⟨_,rfl,_,_,rfl,rfl,(by show (0:Int)<3;decide),rfl,_,rfl,yo (λz=>?_) (λz0=>?_)⟩
 ·rw [if_pos (V.int.inj (of_decide_eq_true z))] at k
  refine ⟨_,rfl,_,_,rfl,rfl,⟨by decide,by decide⟩,_,rfl,λH1 s1=>?_⟩;exact λx dx n1 n2 n3=>⟨x,dx,.int (yM (cell / 3)),rfl,zi,λH2 k2 e2=>⟨rfl,k H2 x (s1.trans (yZ n1 n2 k2)) ⟨dx,e2⟩⟩⟩
 replace z0:¬ cell % 3=0:=λy=>z0 (decide_eq_true (congrArg V.int y));rw [if_neg z0] at k;refine ⟨_,rfl,_,_,rfl,rfl,(by show (0:Int)<3;decide),rfl,_,rfl,yo (λz=>?_) (λz1=>?_)⟩
 ·rw [if_pos (V.int.inj (of_decide_eq_true z))] at k
  exact λx dx n1 n2 n3=>k _ x ((zt (Same.refl _) n2).trans (zt (Same.refl _) (by rw [zj (Ne.symm n3)];exact n1))) ⟨dx,zi⟩
 replace z1:¬ cell % 3=1:=λy=>z1 (decide_eq_true (congrArg V.int y));rw [if_neg z1] at k;exact λx dx n1 n2 n3=>⟨x,dx,.int 1,rfl,zi,λH2 k2 e2=>⟨rfl,k H2 x (yZ n1 n2 k2) ⟨dx,e2⟩⟩⟩
inductive spLeafD (K:Fg) (vs:Jj) (H:Hp) (Q:VK) (_:XK):Prop
 | mk (cell:Int) (p:Nat) (r:Ad) (row:J6) (_:vs=[.int cell,.int p,.ref r]) (_:SqL K H r (row.map V.int)) (_:p<row.length) (_:∀ H',Same H H'->Q (.int (ZO row p cell)) H')
def ok_leafD (d:zk K mg "_law_leaf_due" Zf qT) (KB:Ok P w K mg base (CXe P w base) 1 "_law_kept_by" qJ spKB):Ok P w K mg base CX0 2 "_law_leaf_due" qT (spLeafD K):=by
 refine oDf d sc_l_leaf_due λg mh A _ s H vs Q E hr h=>?_;obtain ⟨cell,p,r,row,rfl,hR,hp,k⟩:=h;have nd:=sc_l_leaf_due.nd;have hr1:=hr;unfold ZO at k;refine ⟨_,(zd (zL (zF y8 (zn yk (pv 0) zg) zg (zJ _)) (zf (zm (zv KB hr1 (by rfl) ZM (zb (zn xx (pv 0) zg) zc)))) zy)
   (zd (zL (zF y8 (zn yk (pv 0) zg) zg (zJ _)) (zf (zm (pv 1))) zy)
   (zf (zm (zB z6 (pv 2) (pv 1) (λ_ _=>rfl)))))),?_⟩
 refine ⟨_,rfl,_,_,rfl,rfl,(by show (0:Int)<3;decide),rfl,_,rfl,yo (λz=>?_) (λz0=>?_)⟩
 ·rw [if_pos (V.int.inj (of_decide_eq_true z))] at k
  exact ⟨_,rfl,_,_,rfl,rfl,⟨by decide,by decide⟩,_,rfl,λH1 s1=>k H1 s1⟩
 replace z0:¬ cell % 3=0:=λy=>z0 (decide_eq_true (congrArg V.int y));rw [if_neg z0] at k;refine ⟨_,rfl,_,_,rfl,rfl,(by show (0:Int)<3;decide),rfl,_,rfl,yo (λz=>?_) (λz1=>?_)⟩
 ·rw [if_pos (V.int.inj (of_decide_eq_true z))] at k
  exact ⟨_,rfl,k H (Same.refl _)⟩
 replace z1:¬ cell % 3=1:=λy=>z1 (decide_eq_true (congrArg V.int y));rw [if_neg z1] at k;exact ⟨_,rfl,_,rfl,r,_,_,_,rfl,rfl,hR,xA p hp rfl,k H (Same.refl _)⟩
def zcm {xs:J6} {k:Nat} (h:k<xs.length):xs.reverse.getD k 0=xs.getD (xs.length-1-k) 0:=by
 rw [q6x,q6x,List.getElem?_reverse h]
inductive spNest (c:F2.Cs) (K:Fg) (vs:Jj) (H:Hp) (Q:VK) (_:XK):Prop
 | mk (a:Ad) (xs:J6) (_:vs=[.ref a]) (_:SqL K H a (xs.map V.int)) (_:1<=xs.length) (_:xs.length<=100) (_:∀ H' x,Same H H'->F2.FormAt c H' (yl xs.reverse (xs.length-1)) x->Q (.ref x) H')
def ok_nest {c:F2.Cs} (d:zk K mg "_law_nest" Y9 ["_law_picked"]) (hlen:mg "len"=none) (hrg:mg "range"=none) (G:FormG mg c) (SN:Ok P w K mg base CX0 1 "_law_sign" qJ spSign) (LF:Ok P w K mg base CX0 3 "_law_leaf" qJ (spLeafN c)) (IP:OkI P w K mg base (CXe P w base) 1 c.pair Ua (spI_Pair c.pair)):Ok P w K mg base CX0 4 "_law_nest" ["_law_picked"] (spNest c K):=by
 refine oDf d sc_l_nest λg mh A _ s H vs Q E hr h=>?_;obtain ⟨a,xs,rfl,hS,x1,x100,k⟩:=h;have nd:=sc_l_nest.nd;have hr3:=hr;have hr2:Room 2 _:=hr.mono (by decide);have hr1:Room 1 _:=hr.mono (by decide);refine ⟨_,(zd (oRz 1 nd (zv LF hr3 (by rfl) zo (zb (zB z6 (pv 0) (zn y9 (zp zD (by rfl) hlen PySem.boot_len (zb (pv 0) zc)) zg) (λ_ _=>rfl)) zc)))
   (zd (x6 PassesOwn.never rfl (yY rfl hrg (zb (zn y9 (zp zD (by rfl) hlen PySem.boot_len (zb (pv 0) zc)) zg) zc)) (oQz 2 nd) (zd (oRz 3 nd (zB z6 (pv 0) (zn y9 (zn y9 (zp zD (by rfl) hlen PySem.boot_len (zb (pv 0) zc)) zg) (pv 2)) (λ_ _=>rfl)))
   (zf (zL (zF y8 (zn yk (zn xx (pv 3) zg) zg) zg (zJ _)) (zf (oRz 1 nd (xF IP G.pair hr2 (by rfl) ZM (zb (zv SN hr1 (by rfl) zo (zb (pv 3) zc)) (zb (pv 1) (zb (zv LF hr3 (by rfl) zo (zb (pv 3) zc)) zc)))))) (zf (oRz 1 nd (xF IP G.pair hr2 (by rfl) ZM (zb (zv SN hr1 (by rfl) zo (zb (pv 3) zc)) (zb (zv LF hr3 (by rfl) zo (zb (pv 3) zc)) (zb (pv 1) zc))))))))))
   (zf (zm (pv 1))))),?_⟩
 refine ⟨_,rfl,_,rfl,a,_,rfl,.inl hS,_,_,rfl,rfl,?_⟩;rw [Je];refine ⟨a,_,_,_,rfl,rfl,hS,xA (xs.length-1) (by omega) (by omega),_,rfl,λH1 y0 s1 hy=>?_⟩;refine ⟨_,rfl,a,_,rfl,.inl (zw hS s1),_,_,rfl,rfl,?_⟩;rw [Je];refine ⟨_,rfl,by omega,by omega,?_⟩;refine Zo (n:=((xs.length:Int)-1).toNat) (λi σ J=>∃ (u2 u3:Jk) (y:Ad),σ=[rq a,rq y,u2,u3]/\Same H J/\F2.FormAt c J (yl xs.reverse i) y) ⟨none,none,y0,rfl,s1,?_⟩ ?_ ?_
 ·have e:yl xs.reverse 0=yn (xs.getD (xs.length-1) 0):=by
   unfold yl;rw [List.take_zero,zcm (by omega)];rfl
  rw [e];exact hy
 ·rintro i σ J hi ⟨u2,u3,y,rfl,sJ,hY⟩
  have hS1:=zw hS sJ
  have e2:yl xs.reverse (i+1)=stN (yl xs.reverse i) (xs.getD (xs.length-2-i) 0):=by
   rw [nest_succ (by rw [List.length_reverse];omega),zcm (by omega),show xs.length-1-(i+1)=xs.length-2-i by omega]
  refine ⟨_,rfl,_,rfl,a,_,rfl,.inl hS1,_,_,rfl,rfl,_,rfl,_,_,rfl,rfl,?_⟩;rw [Je];refine ⟨a,_,_,_,rfl,rfl,hS1,xA (xs.length-2-i) (by omega) (by omega),?_⟩;unfold stN at e2;generalize xs.getD (xs.length-2-i) 0=cell at e2 ⊢;refine ⟨_,rfl,_,_,rfl,rfl,⟨by decide,by decide⟩,_,_,rfl,rfl,(by show (0:Int)<3;decide),rfl,_,rfl,yo (λz=>?_) (λz=>?_)⟩
  ·rw [if_pos (V.int.inj (of_decide_eq_true z))] at e2
   rw [e2];refine ⟨_,rfl,_,rfl,_,rfl,_,rfl,_,rfl,λJ2 y2 s2 h2=>?_⟩;exact λx dx n1 n2 n3=>⟨x,dx,.str (sgF cell),.ref y,.ref y2,rfl,zi,λJ3 k3 e3=>⟨rfl,_,_,x,rfl,(sJ.trans s2).trans (yZ n1 n2 k3),dx,y,y2,e3,hY.same (s2.trans (yZ n1 n2 k3)),h2.same (yZ n1 n2 k3)⟩⟩
  ·rw [if_neg (λy=>z (decide_eq_true (congrArg V.int y)))] at e2
   rw [e2];refine ⟨_,rfl,_,rfl,_,rfl,_,rfl,λJ2 y2 s2 h2=>⟨_,rfl,?_⟩⟩;exact λx dx n1 n2 n3=>⟨x,dx,.str (sgF cell),.ref y2,.ref y,rfl,zi,λJ3 k3 e3=>⟨rfl,_,_,x,rfl,(sJ.trans s2).trans (yZ n1 n2 k3),dx,y2,y,e3,h2.same (yZ n1 n2 k3),hY.same (s2.trans (yZ n1 n2 k3))⟩⟩
 ·rintro σ J ⟨u2,u3,y,rfl,sJ,hY⟩
  rw [show ((xs.length:Int)-1).toNat=xs.length-1 by omega] at hY;exact ⟨_,rfl,k J y sJ hY⟩
inductive spDueN (K:Fg) (vs:Jj) (H:Hp) (Q:VK) (_:XK):Prop
 | mk (a r:Ad) (xs row:J6) (p:Nat) (_:vs=[.ref a,.int p,.ref r]) (_:SqL K H a (xs.map V.int)) (_:SqL K H r (row.map V.int)) (_:p<row.length) (_:1<=xs.length) (_:xs.length<=100) (_:(∀ v∈row,Kin v)) (_:row.length<=400) (_:∀ H',Same H H'->Q (.int (xB row p xs.reverse (xs.length-1))) H')
def zbt {row:J6} {p:Nat} (hk:∀ v∈row,Kin v) (hl:row.length<=400) (hp:p<row.length) (c:Int):Kin (ZO row p c):=by
 unfold ZO
 split
 ·exact zbw _
 split
 ·exact ⟨by omega,by omega⟩
 ·rw [q6x,List.getElem?_eq_getElem hp]
  exact hk _ (List.getElem_mem hp)
def zav (x:Int):Kin (kept x):=by
 unfold kept;exact ⟨by omega,by omega⟩
def jn_kin (c l r:Int):Kin (jn c l r):=by
 unfold jn
 split
 ·exact zav _
 split <;> exact zav _
def due_kin {row:J6} {p:Nat} (hk:∀ v∈row,Kin v) (hl:row.length<=400) (hp:p<row.length) (xs:J6) (k:Nat):Kin (xB row p xs k):=by
 unfold xB
 have key:∀ (l:J6) (v:Int),Kin v->Kin (l.foldl (stV row p) v):=by
  intro l
  induction l with
  | nil=>exact λv h=>h
  | cons c l ih=>exact λv h=>ih _ (by unfold stV;split <;> exact jn_kin _ _ _)
 exact key _ _ (zbt hk hl hp _)
def ok_dueN (d:zk K mg "_law_due" XQ qX) (hlen:mg "len"=none) (hrg:mg "range"=none) (SN:Ok P w K mg base CX0 1 "_law_sign" qJ spSign) (WR:Ok P w K mg base CX0 1 "_law_wrap" ["_law_number"] spWrap) (LD:Ok P w K mg base CX0 2 "_law_leaf_due" qT (spLeafD K)):Ok P w K mg base CX0 3 "_law_due" qX (spDueN K):=by
 refine oDf d sc_l_due λg mh A _ s H vs Q E hr h=>?_;obtain ⟨a,r,xs,row,p,rfl,hS,hR,hp,x1,x100,hk,hl,k⟩:=h;have nd:=sc_l_due.nd;have hr2:=hr;have hr1:Room 1 _:=hr.mono (by decide);refine ⟨_,(zd (oRz 3 nd (zv LD hr2 (by rfl) zo (zb (zB z6 (pv 0) (zn y9 (zp zD (by rfl) hlen PySem.boot_len (zb (pv 0) zc)) zg) (λ_ _=>rfl)) (zb (pv 1) (zb (pv 2) zc)))))
   (zd (x6 PassesOwn.never rfl (yY rfl hrg (zb (zn y9 (zp zD (by rfl) hlen PySem.boot_len (zb (pv 0) zc)) zg) zc)) (oQz 4 nd) (zd (oRz 5 nd (zB z6 (pv 0) (zn y9 (zn y9 (zp zD (by rfl) hlen PySem.boot_len (zb (pv 0) zc)) zg) (pv 4)) (λ_ _=>rfl)))
   (zd (oRz 6 nd (zv LD hr2 (by rfl) zo (zb (pv 5) (zb (pv 1) (zb (pv 2) zc)))))
   (zd (oRz 7 nd (pv 3))
   (zd (Yr (zL (zF y8 (zn yk (zn xx (pv 5) zg) zg) zg (zJ _)) (zd (oRz 6 nd (pv 3))
   (zf (oRz 7 nd (zv LD hr2 (by rfl) zo (zb (pv 5) (zb (pv 1) (zb (pv 2) zc))))))) zy))
   (zf (zL (zF y8 (zv SN hr1 (by rfl) zo (zb (pv 5) zc)) zV (zJ _)) (zf (oRz 3 nd (zv WR hr1 (by rfl) zo (zb (zn zP (pv 6) (pv 7)) zc)))) (zf (zL (zF y8 (zv SN hr1 (by rfl) zo (zb (pv 5) zc)) zV (zJ _)) (zf (oRz 3 nd (zv WR hr1 (by rfl) zo (zb (zn y9 (pv 6) (pv 7)) zc)))) (zf (oRz 3 nd (zv WR hr1 (by rfl) zo (zb (zn yC (pv 6) (pv 7)) zc)))))))))))))
   (zf (zm (pv 3))))),?_⟩
 refine ⟨_,rfl,_,rfl,a,_,rfl,.inl hS,_,_,rfl,rfl,?_⟩;rw [Je];refine ⟨a,_,_,_,rfl,rfl,hS,xA (xs.length-1) (by omega) (by omega),_,rfl,_,rfl,_,p,r,row,rfl,hR,hp,λH1 s1=>?_⟩;refine ⟨_,rfl,a,_,rfl,.inl (zw hS s1),_,_,rfl,rfl,?_⟩;rw [Je];refine ⟨_,rfl,by omega,by omega,?_⟩;refine Zo (n:=((xs.length:Int)-1).toNat) (λi σ J=>∃ (u4 u5 u6 u7:Jk),σ=[rq a,iq p,rq r,iq (xB row p xs.reverse i),u4,u5,u6,u7]/\Same H J) ⟨none,none,none,none,?_,s1⟩ ?_ ?_
 ·have e:xB row p xs.reverse 0=ZO row p (xs.getD (xs.length-1) 0):=by
   unfold xB;rw [List.take_zero,zcm (by omega)];rfl
  rw [e];rfl
 ·rintro i σ J hi ⟨u4,u5,u6,u7,rfl,sJ⟩
  have hS1:=zw hS sJ
  have e2:xB row p xs.reverse (i+1)=stV row p (xB row p xs.reverse i) (xs.getD (xs.length-2-i) 0):=by
   rw [due_succ (by rw [List.length_reverse];omega),zcm (by omega),show xs.length-1-(i+1)=xs.length-2-i by omega]
  have kr:=due_kin hk hl hp xs.reverse i;refine ⟨_,rfl,_,rfl,a,_,rfl,.inl hS1,_,_,rfl,rfl,_,rfl,_,_,rfl,rfl,?_⟩;rw [Je];refine ⟨a,_,_,_,rfl,rfl,hS1,xA (xs.length-2-i) (by omega) (by omega),?_⟩;rw [e2];unfold stV;generalize xs.getD (xs.length-2-i) 0=cell;generalize xB row p xs.reverse i=run at kr;have kl:=zbt hk hl hp cell;refine ⟨_,rfl,_,rfl,_,rfl,cell,p,r,row,rfl,zw hR sJ,hp,λJ2 s2=>?_⟩;replace s2:=sJ.trans s2;refine ⟨_,rfl,?_⟩;refine ⟨λσ J3=>∃ (l q:Int),σ=[rq a,iq p,rq r,iq run,iq (0+(i:Int)),iq cell,iq l,iq q]/\Same H J3/\Kin l/\(if cell / 9 % 3=0 then jn cell run (ZO row p cell) else jn cell (ZO row p cell) run)=jn cell l q,?_,?_⟩
  ·refine ⟨_,rfl,_,_,rfl,rfl,⟨by decide,by decide⟩,_,_,rfl,rfl,(by show (0:Int)<3;decide),rfl,_,rfl,yo (λz=>?_) (λz=>?_)⟩
   ·have z:cell / 9 % 3=0:=V.int.inj (of_decide_eq_true z)
    rw [if_pos z];exact ⟨_,rfl,_,rfl,_,rfl,_,rfl,cell,p,r,row,rfl,zw hR s2,hp,λJ4 s4=>⟨_,_,rfl,s2.trans s4,kr,rfl⟩⟩
   ·have z:¬ cell / 9 % 3=0:=λy=>z (decide_eq_true (congrArg V.int y))
    rw [if_neg z];exact ⟨_,_,rfl,s2,kl,rfl⟩
  rintro σ J3 ⟨l,q,rfl,s3,kl',ej⟩;rw [ej];unfold jn;have dv:∀ x:Str,decide (V.str (sgF cell)=V.str x)=decide (sgF cell=x):=λx=>decide_eq_decide.mpr ⟨V.str.inj,λh=>by rw [h]⟩;have hc:cell / 3 % 3=0∨cell / 3 % 3=1∨cell / 3 % 3=2:=by omega
  refine ⟨_,rfl,cell,rfl,rfl,_,rfl,?_⟩;rw [dv];rcases hc with e | e | e
  ·have es:sgF cell="+":=if_pos e
   rw [es,if_pos e];exact ZY ⟨_,rfl,_,rfl,_,_,rfl,rfl,_,rfl,_,_,_,_,rfl,s3⟩
  ·have es:sgF cell="-":=(if_neg (by omega)).trans (if_pos e)
   rw [es,if_neg (show ¬ cell / 3 % 3=0 by omega),if_pos e];refine xl ⟨_,rfl,cell,rfl,rfl,_,rfl,?_⟩;rw [dv,es];exact ZY ⟨_,rfl,_,rfl,_,_,rfl,rfl,_,rfl,_,_,_,_,rfl,s3⟩
  ·have es:sgF cell="*":=(if_neg (by omega)).trans (if_neg (by omega))
   rw [es,if_neg (show ¬ cell / 3 % 3=0 by omega),if_neg (show ¬ cell / 3 % 3=1 by omega)];refine xl ⟨_,rfl,cell,rfl,rfl,_,rfl,?_⟩;rw [dv,es];exact xl ⟨_,rfl,_,rfl,_,_,rfl,rfl,.inl ⟨by have:=kl'.1;omega,by have:=kl'.2;omega⟩,_,rfl,_,_,_,_,rfl,s3⟩
 ·rintro σ J ⟨u4,u5,u6,u7,rfl,sJ⟩
  rw [show ((xs.length:Int)-1).toNat=xs.length-1 by omega];exact ⟨_,rfl,k J sJ⟩
def code_let (lens:J6) (g:Nat) {tg:Nat} {v:F2.Fm} {t:Option F2.Fm} (ft:FitT t) (fv:Fit v) (n:Int):(Stp.let_ tg v t).code lens g n=ZU (lens.getD tg 0) g (yJ lens (8 / g) t v) (Yt t || xy v) (YT tg (maskOf t)) n:=by
 have e:(Stp.let_ tg v t).body lens (8 / g)=yJ lens (8 / g) t v:=body_let lens (8 / g) t v;unfold Stp.code;rw [e,any_body lens (8 / g) ft fv];rfl
def run_let {Lx:Lex} {fs:List F2.Fn} {kk L tg mi:Nat} {LN cs dus pk:J6} {t:Option F2.Fm} {v:F2.Fm} (lx:LxR Lx) (hS:Lx.E "store" xC) (hs:StepOk fs kk LN (LN.getD tg 0) t v) (hg:mi=0∨mi=1∨mi=2∨mi=4) (hc:(cs.length:Int)=LN.sum) (ck:∀ x∈cs,Kin x) (ht:tg<LN.length) (nv:Zq tg v) (nt:∀ f,t=some f->Zq tg f) (L1:1<=L) (L64:L<=64) (hb:∀ g,2*LN.getD tg 0*(((yJ LN (8 / g) t v).length:Int)+1)<=80000) :
  ∃ k M,Run Lx (yB LN mi [.let_ tg v t] 0) k (Mc.fresh LN cs L dus pk) M/\((M.rq_=none/\M.cells=zY cs (yj ((zE LN).getD tg 0) (YU fs kk LN cs t v) (LN.getD tg 0).toNat)/\∀ e:Nat,(e:Int)<LN.getD tg 0->(YU fs kk LN cs t v e).isBad=false)∨(∃ (e:Nat) (z:Str),(e:Int)<LN.getD tg 0/\YU fs kk LN cs t v e=.bad z/\(∀ i:Nat,i<e->(YU fs kk LN cs t v i).isBad=false)/\M.rq_=some (0,(e:Int),z)/\M.cells=zY cs (yj ((zE LN).getD tg 0) (YU fs kk LN cs t v) e))):=by
 obtain ⟨g,eg⟩:∃ g,(Stp.let_ tg v t).grp mi=g:=⟨_,rfl⟩
 have gb:g=1∨g=2∨g=4:=by
  rw [← eg];unfold Stp.grp grOf
  split
  ·split
   ·omega
   ·split <;> omega
  ·omega
 have ec:yB LN mi [.let_ tg v t] 0=ZU (LN.getD tg 0) (g:Int) (yJ LN (8 / g) t v) (Yt t || xy v) (YT tg (maskOf t)) 0:=by
  show (Stp.let_ tg v t).code LN ((Stp.let_ tg v t).grp mi) 0++[]=_;rw [q8y,eg,code_let LN g hs.ft hs.fv]
 rw [ec];have rest0:RestAt (zE LN) LN L 0 (cs,[]) (Mc.fresh LN cs L dus pk):=⟨⟨L1,L64,List.length_replicate,List.length_replicate,λm hm=>by rw [List.eq_of_mem_replicate hm];exact List.length_replicate⟩,rfl,rfl,rfl,rfl,rfl,rfl,rfl⟩;have rs0:Rs [] false pk 0 [] (Mc.fresh LN cs L dus pk):=⟨Nat.le_refl _,Nat.le_refl _,(λk v e=>by cases e),rfl,rfl,rfl⟩;have hgI:(g:Int)=1∨(g:Int)=2∨(g:Int)=4:=by omega
 have hse:((8 / g:Nat):Int)*(g:Int)=8:=by rcases gb with e | e | e <;> subst e <;> rfl
 have key:=round_let (code:=ZU (LN.getD tg 0) (g:Int) (yJ LN (8 / g) t v) (Yt t || xy v) (YT tg (maskOf t)) 0) (pl:=0) (n:=0) lx hS hs hgI hse hc ck ht rfl nv nt rest0 rs0 (by have:=hb g;rw [Int.natCast_zero,Int.zero_add];exact this) (λi tv e=>by rw [Nat.zero_add];exact e);rcases key with ⟨k,M',T',st,rs',_,nb⟩ | ⟨k,M',st,e,z,h1,h2,h3,h4,h5⟩
 ·exact ⟨k,M',st.run (.inl (by rw [rs'.pc,Nat.zero_add];exact Int.le_refl _)),.inl ⟨rs'.rf,rs'.cells,nb⟩⟩
 ·exact ⟨k,M',st.run (.inr (by rw [h4];rfl)),.inr ⟨e,z,h1,h2,h3,h4,h5⟩⟩
def zfo:F2.Bodies []:=λa S l h0 h1 _=>absurd h1 (Nat.not_lt_zero _)
def lay_row {t0 row:J6} {n:Nat} (h:t0.length=n) (d:Nat->Int):zY (t0++row) ((List.range n).map λe:Nat=>((0:Int)+(e:Int),d e))=(List.range n).map d++row:=by
 have key:∀ m,m<=n->zY (t0++row) ((List.range m).map λe:Nat=>((0:Int)+(e:Int),d e))=(List.range m).map d++(t0.drop m++row):=by
  intro m
  induction m with
  | zero=>intro _;rfl
  | succ m ih =>
   intro hm;rw [List.range_succ,Jg,Jg];unfold zY;rw [List.foldl_append];have:=ih (by omega);unfold zY at this;rw [this];show (List.map d (List.range m)++(List.drop m t0++row)).set ((0:Int)+(m:Int)).toNat (d m)=List.map d (List.range m)++[d m]++(List.drop (m+1) t0++row);rw [show ((0:Int)+(m:Int)).toNat=m by omega,List.set_append_right _ _ (by rw [Je,List.length_range];exact Nat.le_refl _),Je,List.length_range,Nat.sub_self,List.drop_eq_getElem_cons (by omega),List.append_assoc];rfl
 rw [key n (Nat.le_refl _),List.drop_eq_nil_of_le (by omega)];rfl
inductive spI_ProgU (K:Fg) (C:Ad) (vs:Jj) (H:Hp) (Q:VK) (_:XK):Prop
 | mk (B:Hp) (L:Ji) (x dx a b c:Ad) (xs ys zs:Jj) (_:vs=[.ref x,.ref a,.ref b,.ref c]) (_:Hd B ((x,.ins C dx [])::L) H) (_:SqL K B a xs) (_:SqL K B b ys) (_:SqL K B c zs) (_:∀ B' H' la lb lc,Same B B'->Hd B' L H'->B' la=some (.lst xs)->B' lb=some (.lst ys)->B' lc=some (.lst zs)->B' x=some (.ins C dx (prFl la lb lc))->Q .non H')
def okI_ProgU {C:Ad} (d:yp K C "Program.__init__" xr qR) (hlist:mg "list"=none) (pc:PrC K C):OkI P w K mg base CX0 1 C qR (spI_ProgU K C):=by
 refine oIf d XJ λf mh A _ s H vs Q E hr h=>?_;obtain ⟨B,L,x,dx,a,b,c,xs,ys,zs,rfl,h,ha,hb,hc,k⟩:=h;refine ⟨_,(zd (zu (pv 0) (xh y6 (by rfl) hlist PyProof.Rows.boot_list (zb (pv 1) zc)) rfl)
   (zd (zu (pv 0) (xh y6 (by rfl) hlist PyProof.Rows.boot_list (zb (pv 2) zc)) rfl)
   (zf (zu (pv 0) (xh y6 (by rfl) hlist PyProof.Rows.boot_list (zb (pv 3) zc)) rfl)))),?_⟩
 show (let s1:L2.TS:=_;let s2:L2.TS:=L2.tSeq _ s1;L2.tSeq _ s2 _ _ _);intro s1 s2;refine ⟨_,rfl,a,_,rfl,.inl (h.sql ha),λla nla=>?_⟩;replace h:=h.fnew (o:=.lst xs) nla;refine ⟨_,rfl,x,C,dx,[],rfl,h.get 0 rfl,pc.c,pc.n0,(by show 0<1000;decide),?_⟩;replace h:=h.fput (o':=.ins C dx [("lengths",.ref la)]);refine ⟨_,rfl,b,_,rfl,.inl (h.sql hb),λlb nlb=>?_⟩;replace h:=h.fnew (o:=.lst ys) nlb;refine ⟨_,rfl,x,C,dx,[("lengths",.ref la)],rfl,h.get 0 rfl,pc.c,pc.n1,(by show 1<1000;decide),?_⟩;replace h:=h.fput (o':=.ins C dx [("lengths",.ref la),("functions",.ref lb)]);refine ⟨_,rfl,c,_,rfl,.inl (h.sql hc),λlc nlc=>?_⟩;replace h:=h.fnew (o:=.lst zs) nlc;refine ⟨_,rfl,x,C,dx,[("lengths",.ref la),("functions",.ref lb)],rfl,h.get 0 rfl,pc.c,pc.n2,(by show 2<1000;decide),?_⟩;replace h:=h.fput (o':=.ins C dx (prFl la lb lc));obtain ⟨B',sB,hB,h2⟩:=Hd.settles (S:=[(x,.ins C dx (prFl la lb lc)),(lc,.lst zs),(lb,.lst ys),(la,.lst xs)]) (L:=L) h;exact k B' _ la lb lc sB h2 (hB (la,_) (by simp)) (hB (lb,_) (by simp)) (hB (lc,_) (by simp)) (hB (x,_) (by simp))
def spLaw (K:Fg):Sp:=λvs H Q _=>∃ (a:Ad) (ns:J6),vs=[.ref a]/\SqL K H a (ns.map V.int)/\ns.length<=63/\∀ H',Q (.bl true) H'
def ok_law {c:F2.Cs} {q:QCs} {mc:MCs} {Lx:Lex} {f:Ad} {fd:FuncData} (F:Fun K "law" "law" zac f fd) (hlen:mg "len"=none) (hrg:mg "range"=none) (SG:StepG mg q) (hPr:mg "Program"=some (.ref q.pr)) (PC:PrC K q.pr)
  (CA:Ok P w K mg base CX0 1 "_law_cell_at" Ug (spCA K)) (SM:Ok P w K mg base CX0 2 "_law_some" qY (spSomeL K)) (NS:Ok P w K mg base CX0 4 "_law_nest" ["_law_picked"] (spNest c K)) (DU:Ok P w K mg base CX0 3 "_law_due" qX (spDueN K)) (TO:Ok P w K mg base CX0 2 "_law_told" qU (spTold3 K))
  (IL:OkN P w K mg base (CXe P w base) 1 q.let_ qW (spI_Let q.let_)) (IPr:OkI P w K mg base CX0 1 q.pr qR (spI_ProgU K q.pr)) (MD:OkD P w K mg base CX0 66 "made" Uq (spMade c q K 19)) (RN:Ok P w K mg base CX0 10 "ran" qN (spRan mc K Lx)) (lx:LxR Lx) (hSt:Lx.E "store" xC) :
  FnOk P w K mg base CX0 67 f fd ["_law_script"] (spLaw K):=by
 refine F.ok sc_law (by rintro vs H Q E ⟨_,_,e,_⟩;rw [e];rfl) λmh A outer s H vs Q E hr h=>?_;obtain ⟨a,ns,rfl,hS,hn,k⟩:=h;have nd:=sc_law.nd;have MD2:=MD.all;have hr1:Room 1 _:=hr.mono (by decide);have hr2:Room 2 _:=hr.mono (by decide);have hr3:Room 3 _:=hr.mono (by decide);have hr4:Room 4 _:=hr.mono (by decide);have hr10:Room 10 _:=hr.mono (by decide);have hrM:=hr;refine ⟨_,(zd (oRz 1 nd (zn zP zg (zn yk (zv CA hr1 (by rfl) zo (zb (pv 0) (zb zg zc))) zg)))
   (zd (zr (i:=2) nd rfl (Or.inr rfl) (zv SM hr2 (by rfl) zo (zb (pv 0) (zb zg (zb (pv 1) zc)))))
   (zd (zr (i:=3) nd rfl (Or.inr rfl) (zdr sl_list (pv 0) (zco zg) (zco zg)))
   (zd (Yr (zL (zF y8 (zp zD (by rfl) hlen PySem.boot_len (zb (pv 3) zc)) zg (zJ _)) (zf (zr (i:=3) nd rfl (Or.inr rfl) (yh (zb (zv CA hr1 (by rfl) zo (zb (pv 0) (zb zg zc))) zc)))) zy))
   (zd (Yr (oRz 4 nd (xF IPr hPr hr2 (by rfl) zo (zb (yh (zb (pv 1) (zb (pv 1) zc))) (zb (yh zc) (zb (yh (zb (pe_okN IL SG.let_ hr2 (by rfl) ZM (zb zg (zb (zv NS hr4 (by rfl) zo (zb (pv 3) zc)) zc))) zc)) zc))))))
   (zd (oRz 5 nd (zB z6 (yh (zb zg (zb zg (zb zg (zb zg zc))))) (zn yk (zv CA hr1 (by rfl) zo (zb (pv 0) (zb zg zc))) zg) (λ_ _=>rfl)))
   (zd (oRz 6 nd (pe_okD MD hrM (by rfl) zo (zb (pv 4) zc)))
   (zd (Yr (zL (zF op_ne (pv 5) zg (zJ _)) (zf (oRz 6 nd (zv MD2 hrM (by rfl) zo (zb (pv 4) (zb (pv 5) zc))))) zy))
   (zd (oRz 7 nd (zn zP zg (zn yk (zn xx (zv CA hr1 (by rfl) zo (zb (pv 0) (zb zg zc))) zg) zg)))
   (zd (oRz 8 nd (zv SM hr2 (by rfl) zo (zb (pv 0) (zb zg (zb (zn yk (zn xx (zv CA hr1 (by rfl) zo (zb (pv 0) (zb zg zc))) zg) zg) zc)))))
   (zd (oRz 9 nd (zv RN hr10 (by rfl) zo (zb (pv 6) (zb (yh (zb (pv 1) (zb (pv 1) zc))) (zb (zn zcu (zv SM hr2 (by rfl) zo (zb (pv 0) (zb zg (zb (pv 1) zc)))) (pv 2)) (zb (pv 7) (zb (pv 8) (zb (yh zc) zc))))))))
   (zf (zm (zv TO hr2 (by rfl) zo (zb (pv 9) (zb (zn zcu (xw ["_law_place","_law_picked","_law_row"] [none,some 3,some 2] rfl rfl rfl (yY rfl hrg (zb (pv 1) zc)) (λs3 H3 fp=>⟨oQz 0 (Jl ["_law_place","_law_picked","_law_row"]),(zv DU hr3 (by rfl) zo (zb (pv 1) (zb (pv 0) (zb (pv 2) zc))))⟩)) (pv 2)) (zb xv zc))))))))))))))))),?_⟩
 dsimp only [yd,Cx.nox,Cx.wish];show (let s1:L2.TS:=_;let s2:L2.TS:=L2.tSeq _ s1;let s3:L2.TS:=L2.tSeq _ s2;let s4:L2.TS:=L2.tSeq _ s3;let s5:L2.TS:=L2.tSeq _ s4;let s6:L2.TS:=L2.tSeq _ s5;let s7:L2.TS:=L2.tSeq _ s6;let s8:L2.TS:=L2.tSeq _ s7;let s9:L2.TS:=L2.tSeq _ s8;let s10:L2.TS:=L2.tSeq _ s9;let s11:L2.TS:=L2.tSeq _ s10;L2.tSeq _ s11 _ _ _);intro s1 s2 s3 s4 s5 s6 s7 s8 s9 s10 s11;have sA:Same H H:=Same.refl _;refine ⟨_,rfl,a,ns,0,rfl,hS,by decide,_,_,rfl,rfl,(by show (0:Int)<9;decide),_,_,rfl,rfl,?_⟩;obtain ⟨n,en⟩:∃ n:Nat,1+ns.getD (0:Int).toNat 0 % 9=n:=⟨(1+ns.getD 0 0 % 9).toNat,by show 1+ns.getD 0 0 % 9=_;omega⟩;rw [en];have en':1+ns.getD 0 0 % 9=n:=en;have n9:1<=n/\n<=9:=by omega
 refine ⟨_,rfl,_,rfl,a,ns,1,n,rfl,hS,hn,by decide,by decide,by omega,λH1 r1 row lr kr s1 _ er=>?_⟩;replace hS:=zw hS s1;replace sA:=sA.trans s1;refine ⟨_,rfl,2,rfl,22,rfl,a,_,rfl,hS,λpk npk=>?_⟩;rw [cutV_int (by decide) (by decide)];generalize hX:upd _ _ _=H2;obtain ⟨sX,epk⟩:=Z1 hX npk;replace sA:=sA.trans sX;replace hS:=zw hS sX;replace er:=sX _ _ er;clear hX sX;have cl:(cutI ns 2 22).length<=20:=by unfold cutI;rw [List.length_take,List.length_drop];show min (min 22 ns.length-min 2 ns.length) _<=20;omega
 refine ⟨λσ J=>∃ (pk:Ad) (xs:J6),σ=[rq a,iq n,rq r1,rq pk,none,none,none,none,none,none,none]/\Same H2 J/\J pk=some (.lst (xs.map V.int))/\1<=xs.length/\xs.length<=20,?_,?_⟩
 ·refine ⟨_,rfl,pk,_,rfl,.inl (SqL.of epk),rfl,_,rfl,?_⟩
  rw [Je];refine yo (λz=>?_) (λz=>?_)
  ·refine ⟨_,rfl,a,ns,1,rfl,hS,by decide,szU 1,λp2 np2=>?_⟩
   generalize hX:upd _ _ _=H3;obtain ⟨s3,e3⟩:=Z1 hX np2;exact ⟨p2,[ns.getD (1:Int).toNat 0],rfl,s3,e3,Nat.le_refl _,Nat.le_of_ble_eq_true rfl⟩
  ·refine ⟨pk,cutI ns 2 22,rfl,Same.refl _,epk,?_,cl⟩
   have:¬ (cutI ns 2 22).length=0:=λy=>z (decide_eq_true (by rw [y];rfl));omega
 clear epk cl npk;rintro σ H3 ⟨pk,xs,rfl,s3,epk,x1,x20⟩;replace hS:=zw hS s3;replace er:=s3 _ _ er;replace sA:=sA.trans s3;clear s3;let F1:F2.Fm:=yl xs.reverse (xs.length-1);refine ⟨λσ J=>∃ (pr dp la lb lc st:Ad),σ=[rq a,iq n,rq r1,rq pk,rq pr,none,none,none,none,none,none]/\Same H3 J/\J pr=some (.ins q.pr dp (prFl la lb lc))/\J la=some (.lst ([(n:Int),n].map V.int))/\J lc=some (.lst (([st]:Jc).map V.ref))/\StepAt c q J st (.let_ 0 F1 none),?_,?_⟩
 ·clear sA
  have sA:Same H3 H3:=Same.refl _;refine ⟨_,rfl,_,rfl,szU 2,λl1 nl1=>?_⟩;generalize hX:upd _ _ _=G1;obtain ⟨sX,el1⟩:=Z1 hX nl1;replace sA:=sA.trans sX;replace epk:=sX _ _ epk;clear hX sX;refine ⟨szU 0,λl2 nl2=>?_⟩;generalize hX:upd _ _ _=G2;obtain ⟨sX,el2⟩:=Z1 hX nl2;replace sA:=sA.trans sX;replace epk:=sX _ _ epk;replace el1:=sX _ _ el1;clear hX sX;refine ⟨_,rfl,pk,xs,rfl,SqL.of epk,x1,by omega,λG3 y s3 hy=>?_⟩;replace sA:=sA.trans s3;replace el1:=s3 _ _ el1;replace el2:=s3 _ _ el2;refine λst dst n1 n2 n3=>⟨st,dst,.int (0:Nat),.ref y,.non,rfl,zi,λG4 k4 e4=>⟨rfl,?_⟩⟩;have s4:=yZ n1 n2 k4;replace sA:=sA.trans s4;replace el1:=s4 _ _ el1;replace el2:=s4 _ _ el2;have hst:StepAt c q G4 st (.let_ 0 F1 none):=⟨dst,y,.non,e4,hy.same s4,rfl⟩;clear s3 s4 e4 k4 n1 n2 n3;refine ⟨szU 1,λl3 nl3=>?_⟩;generalize hX:upd _ _ _=G5;obtain ⟨sX,el3⟩:=Z1 hX nl3;replace sA:=sA.trans sX;replace el1:=sX _ _ el1;replace el2:=sX _ _ el2;replace hst:=hst.same sX;clear hX sX;refine λpr dpr n1 n2 n3=>?_;have S4:Same G5 (upd G5 dpr (.own pr)):=zt (Same.refl _) n2;have h4:Hd (upd G5 dpr (.own pr)) [(pr,.ins q.pr dpr [])] (upd (upd G5 dpr (.own pr)) pr (.ins q.pr dpr [])):=Hd.base.new (by rw [zj (Ne.symm n3)];exact n1);refine ⟨_,[],pr,dpr,l1,l2,l3,_,_,_,rfl,h4,SqL.of (S4 _ _ el1),SqL.of (S4 _ _ el2),SqL.of (S4 _ _ el3),λB9 J9 la lb lc s9 h9 a1 a2 a3 a4=>⟨rfl,?_⟩⟩;exact ⟨pr,dpr,la,lb,lc,st,rfl,((sA.trans S4).trans s9).trans h9.sm,h9.sm _ _ a4,h9.sm _ _ a1,h9.sm _ _ a3,hst.same ((S4.trans s9).trans h9.sm)⟩
 rintro σ H4 ⟨pr,dp,la,lb,lc,st,rfl,s4,epr,ela,elc,hst⟩;replace hS:=zw hS s4;replace er:=s4 _ _ er;replace epk:=s4 _ _ epk;replace sA:=sA.trans s4;clear s4;refine ⟨szU 4,λlg nlg=>?_⟩;generalize hX:upd _ _ _=H5;obtain ⟨sX,elg⟩:=Z1 hX nlg;replace sA:=sA.trans sX;replace hS:=zw hS sX;replace er:=sX _ _ er;replace epk:=sX _ _ epk;replace epr:=sX _ _ epr;replace ela:=sX _ _ ela;replace elc:=sX _ _ elc;replace hst:=hst.same sX;clear hX sX
 obtain ⟨g,hg,hat⟩:∃ g:Nat,(g=0∨g=1∨g=2∨g=4)/\atI [V.int 0,V.int 1,V.int 2,V.int 4] (ns.getD (1:Int).toNat 0 % 4)=some (.int (g:Int)):=by
  have:ns.getD (1:Int).toNat 0 % 4=0∨ns.getD (1:Int).toNat 0 % 4=1∨ns.getD (1:Int).toNat 0 % 4=2∨ns.getD (1:Int).toNat 0 % 4=3:=by omega
  rcases this with e | e | e | e <;> rw [e]
  ·exact ⟨0,.inl rfl,rfl⟩
  ·exact ⟨1,.inr (.inl rfl),rfl⟩
  ·exact ⟨2,.inr (.inr (.inl rfl)),rfl⟩
  ·exact ⟨4,.inr (.inr (.inr rfl)),rfl⟩
 refine ⟨_,rfl,a,ns,1,rfl,hS,by decide,_,_,rfl,rfl,(by show (0:Int)<4;decide),lg,_,_,.int (g:Int),rfl,rfl,SqL.of elg,hat,?_⟩;clear elg;obtain ⟨sh,sc',sd⟩:hF F1<=xs.length-1/\cN F1<=1+4*(xs.length-1)/\cD F1=0:=nest_size xs.reverse (xs.length-1);have ff:FitS 19 (.let_ 0 F1 none):=⟨⟨zan _ _,by show hF F1<=19;omega⟩,λf e=>by cases e⟩
 have fa:FitAll 19 [(n:Int),n] [.let_ 0 F1 none]:=⟨λst' h=>by
  rw [List.mem_singleton.mp h];exact ⟨ff,⟨(zd3 _ _).1,(λf e=>by cases e),by show 0<2;decide⟩,by show cN F1+1+0<=400;omega⟩⟩
 have cs400:cS (.let_ 0 F1 none)<=100:=by show cN F1+1+0<=100;omega
 have c9:∀ gr,(yB [(n:Int),n] gr [.let_ 0 F1 none] 0).length<=900:=λgr=>by
  show (Stp.code _ _ _ _++[]).length<=900;rw [q8y];have:=code_len [(n:Int),n] ((Stp.let_ 0 F1 none).grp gr) ff 0;omega
 have hSt1:∀ {J:Hp},Same H5 J->StepsAt c q J [st] [.let_ 0 F1 none]:=λsJ=>⟨rfl,λi s' st' x y=>by
  match i,x,y with
  | 0,x,y=>cases x;cases y;exact hst.same sJ
  | i+1,x,y=>cases x⟩
 refine ⟨_,rfl,pr,dp,la,lb,lc,[st],[.let_ 0 F1 none],[(n:Int),n],0,rfl,epr,SqL.of ela,SqL.of elc,hSt1 (Same.refl _),fa,c9 0,.inl rfl,λH6 cd cs s6 ecd cC=>?_⟩;refine ⟨λσ J=>∃ (cd:Ad) (cs:Jc),σ=[rq a,iq n,rq r1,rq pk,rq pr,iq g,rq cd,none,none,none,none]/\Same H5 J/\J cd=some (.lst (cs.map V.ref))/\CodeAt J cs (yB [(n:Int),n] g [.let_ 0 F1 none] 0),?_,?_⟩
 ·refine ⟨_,rfl,rfl,_,rfl,yo (λz=>?_) (λz=>?_)⟩
  ·refine ⟨_,rfl,_,rfl,pr,dp,la,lb,lc,[st],[.let_ 0 F1 none],[(n:Int),n],g,rfl,s6 _ _ epr,SqL.of (s6 _ _ ela),SqL.of (s6 _ _ elc),hSt1 s6,fa,c9 g,hg,λH7 cd2 cs2 s7 ecd2 cC2=>?_⟩
   exact ⟨cd2,cs2,rfl,s6.trans s7,ecd2,cC2⟩
  ·have z:g=0:=by
    by_cases y:g=0
    ·exact y
    ·exfalso
     refine z ?_;rw [Bool.not_eq_true',decide_eq_false_iff_not];intro w;exact y (by have:=V.int.inj w;omega)
   subst z;exact ⟨cd,cs,rfl,s6,ecd,cC⟩
 clear s6 ecd cC cs cd H6;rintro σ H6 ⟨cd,cs,rfl,s6,ecd,cC⟩;replace hS:=zw hS s6;replace er:=s6 _ _ er;replace epk:=s6 _ _ epk;replace sA:=sA.trans s6;clear s6 epr ela elc hst hSt1 fa;refine ⟨_,rfl,a,ns,1,rfl,hS,by decide,_,_,rfl,rfl,⟨by decide,by decide⟩,_,_,rfl,rfl,(by show (0:Int)<9;decide),_,_,rfl,rfl,?_⟩;obtain ⟨L,eL⟩:∃ L:Nat,1+ns.getD (1:Int).toNat 0 / 4 % 9=L:=⟨(1+ns.getD (1:Int).toNat 0 / 4 % 9).toNat,by omega⟩;rw [eL];have L9:1<=L/\L<=9:=by omega
 obtain ⟨nd',ed⟩:∃ L:Nat,ns.getD (0:Int).toNat 0 / 9 % 5=L:=⟨(ns.getD (0:Int).toNat 0 / 9 % 5).toNat,by omega⟩;refine ⟨_,rfl,_,rfl,a,ns,0,rfl,hS,by decide,_,_,rfl,rfl,⟨by decide,by decide⟩,_,_,rfl,rfl,(by show (0:Int)<5;decide),?_⟩;rw [ed];refine ⟨a,ns,3,nd',rfl,hS,hn,by decide,by decide,by omega,λH7 du dus ld _ s7 _ edu=>?_⟩;replace hS:=zw hS s7;replace er:=s7 _ _ er;replace epk:=s7 _ _ epk;replace sA:=sA.trans s7;replace ecd:=s7 _ _ ecd;replace cC:=cC.same s7;clear s7;refine ⟨_,rfl,_,rfl,_,rfl,szU 2,λln nln=>?_⟩;generalize hX:upd _ _ _=H8;obtain ⟨sX,eln⟩:=Z1 hX nln;replace sA:=sA.trans sX;replace hS:=zw hS sX;replace er:=sX _ _ er;replace epk:=sX _ _ epk;replace ecd:=sX _ _ ecd;replace cC:=cC.same sX;replace edu:=sX _ _ edu;clear hX sX;refine ⟨_,rfl,_,rfl,a,ns,2,n,rfl,hS,hn,by decide,by decide,by omega,λH9 t1 t0 lt kt s9 _ et=>?_⟩;replace hS:=zw hS s9;replace er:=s9 _ _ er;replace epk:=s9 _ _ epk;replace sA:=sA.trans s9;replace ecd:=s9 _ _ ecd;replace cC:=cC.same s9;replace edu:=s9 _ _ edu;replace eln:=s9 _ _ eln;clear s9;refine ⟨_,rfl,t1,r1,_,_,rfl,rfl,et,er,(by rw [Je,Je];exact Nat.le_trans (show _<=1000 by omega) (szU 1000)),λce nce=>?_⟩;rw [← List.map_append];generalize hX:upd _ _ _=H10;obtain ⟨sX,ece⟩:=Z1 hX nce;replace sA:=sA.trans sX;replace hS:=zw hS sX;replace er:=sX _ _ er;replace epk:=sX _ _ epk;replace ecd:=sX _ _ ecd;replace cC:=cC.same sX;replace edu:=sX _ _ edu;replace eln:=sX _ _ eln;clear hX sX;refine ⟨_,rfl,_,rfl,szU 0,λpc npc=>?_⟩;generalize hX:upd _ _ _=H11;obtain ⟨sX,epc⟩:=Z1 hX npc;replace sA:=sA.trans sX;replace hS:=zw hS sX;replace er:=sX _ _ er;replace epk:=sX _ _ epk;replace ecd:=sX _ _ ecd;replace cC:=cC.same sX;replace edu:=sX _ _ edu;replace eln:=sX _ _ eln;replace ece:=sX _ _ ece;clear hX sX;have LN2:(([(n:Int),n]:J6).getD 0 0)=n:=rfl
 have hs:StepOk [] 0 [(n:Int),n] (([(n:Int),n]:J6).getD 0 0) none F1:=⟨zan _ _,trivial,by omega,zfo,by rw [LN2];omega,by rw [LN2];omega,λcs e e0 e1=>nest_wf n9.1 e0 (by rw [LN2] at e1;exact e1) _ _,λf e=>(by cases e),λv hv=>by
  rcases List.mem_cons.mp hv with rfl | hv
  ·omega
  ·rw [List.mem_singleton.mp hv];omega,λ_ _ _=>rfl⟩
 have csum:((t0++row).length:Int)=([(n:Int),n]:J6).sum:=by
  rw [Jf,lt,lr];show ((n+n:Nat):Int)=(n:Int)+((n:Int)+0);omega
 obtain ⟨kk,M,run,fin⟩:=run_let (Lx:=Lx) (L:=L) (mi:=g) (dus:=dus) (pk:=[]) (tg:=0) lx hSt hs hg csum (λx hx=>(List.mem_append.mp hx).elim (kt x) (kr x)) (by show 0<2;decide) (zd3 (n:=n) _ _).2 (λf e=>by cases e) L9.1 (by omega) (λg'=>by
  have b1:=xg [(n:Int),n] (8 / g') F1 0 0 0 0 (zan _ _);rw [LN2];show 2*(n:Int)*(((mkF [(n:Int),n] (8 / g') F1 0 0 0 0).length:Int)+1)<=80000
  have b2:((mkF [(n:Int),n] (8 / g') F1 0 0 0 0).length:Int)+1<=100:=by
   have:cN F1<=1+4*(xs.length-1):=sc';omega
  have b3:2*(n:Int)*(((mkF [(n:Int),n] (8 / g') F1 0 0 0 0).length:Int)+1)<=2*(n:Int)*100:=Int.mul_le_mul_of_nonneg_left b2 (by omega);omega)
 have gv:∀ e:Nat,e<n->YU [] 0 [(n:Int),n] (t0++row) none F1 e=.val (xB row e xs.reverse (xs.length-1)):=λe he=>by
  show ERes.of (F2.ev _ _ F1)=_;rw [nest_ev lr lt he];rfl
 obtain ⟨rf,ce'⟩:M.rq_=none/\M.cells=(List.range n).map (λe=>xB row e xs.reverse (xs.length-1))++row:=by
  rcases fin with ⟨h1,h2,_⟩ | ⟨e,z,h1,h2,_⟩
  ·refine ⟨h1,?_⟩
   rw [h2,LN2,q0z]
   have ev:yj ((zE [(n:Int),n]).getD 0 0) (YU [] 0 [(n:Int),n] (t0++row) none F1) n=(List.range n).map λe:Nat=>((0:Int)+(e:Int),xB row e xs.reverse (xs.length-1)):=by
    unfold yj;rw [List.filter_eq_self.mpr λe he=>by rw [gv e (List.mem_range.mp he)];rfl];refine List.map_congr_left λe he=>?_;rw [gv e (List.mem_range.mp he)];rfl
   rw [ev];exact lay_row lt _
  ·rw [gv e (by rw [LN2] at h1;omega)] at h2;cases h2
 refine ⟨cd,ln,ce,du,pc,cs,_,[(n:Int),n],t0++row,dus,[],L,kk,M,rfl,SqL.of ecd,cC,SqL.of eln,SqL.of ece,SqL.of edu,SqL.of epc,by omega,by omega,by show 2<=1000;decide,Nat.le_trans (c9 g) (by decide),run,λB12 A12 H12 t s12 m12 et'=>?_⟩;have sG:=s12.trans m12.h.sm;replace er:=sG _ _ er;replace epk:=sG _ _ epk;have et2:=m12.h.sm _ _ et';have eAC:H12 A12.aC=some (.lst (M.cells.map V.int)):=m12.h.get (i:=1) (a:=A12.aC) rfl;have rfz:A12.rf=.non:=by have:=m12.bb.rf;rw [rf] at this;exact this
 rw [rfz] at et2;clear sA;have sA:Same H12 H12:=Same.refl _;refine ⟨_,rfl,_,rfl,_,rfl,by omega,by omega,_,rfl,λD nD=>?_⟩;generalize hX:upd _ _ _=H13;have h13:=hdN hX nD;clear hX;rw [q0z];refine YW (n:=n) (λi σ J=>∃ (u:Jk) (B:Hp),σ=[u,rq pk,rq r1]/\Same H12 B/\Hd B [(D,.lst (((List.range i).map λe=>xB row e xs.reverse (xs.length-1)).map V.int))] J) ⟨none,H12,rfl,Same.refl _,h13⟩ ?_ ?_
 ·clear h13
  rintro i σ J hi ⟨u,B,rfl,sB,h⟩;refine ⟨_,rfl,_,rfl,_,rfl,pk,r1,xs,row,i,by rw [Int.zero_add];rfl,SqL.of (h.sm _ _ (sB _ _ epk)),SqL.of (h.sm _ _ (sB _ _ er)),by omega,x1,by omega,kr,by omega,λJ2 s2=>?_⟩;obtain ⟨B2,sB2,h2,_⟩:=h.over s2;refine ⟨_,h2.get 0 rfl,(by rw [Je,Je,List.length_range];exact Nat.lt_of_le_of_lt (show i<=900 by omega) (by decide)),_,B2,rfl,sB.trans sB2,?_⟩;rw [List.range_succ,Jg,Jg];exact h2.put 0 rfl
 clear h13;rintro σ J ⟨u,B,rfl,sB,h⟩;have sJ:=sB.trans h.sm;refine ⟨_,rfl,D,r1,_,_,rfl,rfl,h.get 0 rfl,sJ _ _ er,(by rw [Je,Je,Je,List.length_range];exact Nat.le_trans (show _<=1000 by omega) (szU 1000)),λdd ndd=>?_⟩;rw [← List.map_append,← ce'];generalize hX:upd _ _ _=H14;obtain ⟨s14,e14⟩:=Z1 hX ndd;have s15:=sJ.trans s14;exact ⟨t,A12.aC,dd,.non,.non,_,M.cells,none,rfl,s15 _ _ et2,s15 _ _ eAC,SqL.of e14,rfl,rfl,(λ_ _ _ e=>by cases e),k _⟩
def Lx:Lex:=⟨λw f=>(w="number"/\f=numM)∨(w="here"/\f=hereM)∨(w="load"/\f=YK)∨(w="spread"/\f=Za)∨(w="op"/\f=opM)∨(w="bring"/\f=ZV),λw f=>(w="save"/\f=Y3)∨(w="store"/\f=xC)∨(w="trim"/\f=X0)∨(w="stop"/\f=YJ)∨(w="choose"/\f=xS false),λw f=>(w="begin"/\f=zc4)∨(w="next"/\f=nextW)⟩
def lx_r:LxR Lx:=⟨⟨.inl ⟨rfl,rfl⟩,.inr (.inl ⟨rfl,rfl⟩),.inr (.inr (.inl ⟨rfl,rfl⟩)),.inr (.inr (.inr (.inl ⟨rfl,rfl⟩))),.inr (.inr (.inr (.inr (.inl ⟨rfl,rfl⟩)))),.inl ⟨rfl,rfl⟩,.inr (.inr (.inr (.inr (.inr ⟨rfl,rfl⟩))))⟩,⟨.inr (.inr (.inl ⟨rfl,rfl⟩)),.inr (.inr (.inr (.inl ⟨rfl,rfl⟩)))⟩,.inl ⟨rfl,rfl⟩,.inr ⟨rfl,rfl⟩,.inr (.inr (.inr (.inr ⟨rfl,rfl⟩)))⟩
def lx_store:Lx.E "store" xC:=.inr (.inl ⟨rfl,rfl⟩)
end K44
namespace K44
open PySem L2
def own_in {K:Fg} {h₀:Heap} {mg:J0} {x:Str} {C:Ad} {bmB:J8} {newId:String} (X:K.In h₀) (hm:mg x=some (.ref C)) (q:PySem.W.excIn K C bmB newId=true):PyProof.Rows.OwnCls x C bmB newId mg h₀:=by
 refine ⟨hm,?_⟩;unfold PySem.W.excIn at q
 split at q
 ·rename_i dd cd sl ho
  split at q
  ·rename_i C' bm k0 k1 k2 k3 n k5 hm hs
   simp only [Bool.and_eq_true,beq_iff_eq,Bool.not_eq_true'] at q;obtain ⟨⟨⟨⟨⟨rfl,rfl⟩,hdel⟩,ht⟩,hok⟩,hni⟩:=q;obtain ⟨nm,bs,mro,ns,qn,hd,sn,sub,ab,col,del⟩:=cd;dsimp only at hm hdel hok hni;subst hm hdel
   obtain rfl:sl=#[k0,k1,k2,k3,some (.builtin n),k5]:=by
    obtain ⟨l⟩:=sl;simp only at hs;rw [hs]
   exact ⟨bm,ns,nm,qn,bs,hd,sn,sub,ab,col,dd,k0,k1,k2,k3,k5,_,X _ _ ho,.of_isNs (PySem.W.isNs_of_in X hok),PySem.W.nsMap_none_of_in X hok hni,PySem.W.tail_of_in X ht⟩
  ·cases q
 ·cases q
theorem uc {n:Nat}:∀ {us:J8},us.length=n+1->∃ a r,us=a::r/\r.length=n
 | a::r,h=>⟨a,r,rfl,Nat.succ.inj h⟩
def us1 {p:J8->Prop} (h:∀ a0,p [a0]):∀ us:J8,us.length=1->p us:=by
 intro us e;obtain ⟨a0,u0,rfl,e0⟩:=uc e;cases List.eq_nil_of_length_eq_zero e0;exact h _
def us2 {p:J8->Prop} (h:∀ a0 a1,p [a0,a1]):∀ us:J8,us.length=2->p us:=by
 intro us e;obtain ⟨a0,u0,rfl,e0⟩:=uc e;obtain ⟨a1,u1,rfl,e1⟩:=uc e0;cases List.eq_nil_of_length_eq_zero e1;exact h _ _
def us3 {p:J8->Prop} (h:∀ a0 a1 a2,p [a0,a1,a2]):∀ us:J8,us.length=3->p us:=by
 intro us e;obtain ⟨a0,u0,rfl,e0⟩:=uc e;obtain ⟨a1,u1,rfl,e1⟩:=uc e0;obtain ⟨a2,u2,rfl,e2⟩:=uc e1;cases List.eq_nil_of_length_eq_zero e2;exact h _ _ _
def us4 {p:J8->Prop} (h:∀ a0 a1 a2 a3,p [a0,a1,a2,a3]):∀ us:J8,us.length=4->p us:=by
 intro us e;obtain ⟨a0,u0,rfl,e0⟩:=uc e;obtain ⟨a1,u1,rfl,e1⟩:=uc e0;obtain ⟨a2,u2,rfl,e2⟩:=uc e1;obtain ⟨a3,u3,rfl,e3⟩:=uc e2;cases List.eq_nil_of_length_eq_zero e3;exact h _ _ _ _
def us5 {p:J8->Prop} (h:∀ a0 a1 a2 a3 a4,p [a0,a1,a2,a3,a4]):∀ us:J8,us.length=5->p us:=by
 intro us e;obtain ⟨a0,u0,rfl,e0⟩:=uc e;obtain ⟨a1,u1,rfl,e1⟩:=uc e0;obtain ⟨a2,u2,rfl,e2⟩:=uc e1;obtain ⟨a3,u3,rfl,e3⟩:=uc e2;obtain ⟨a4,u4,rfl,e4⟩:=uc e3;cases List.eq_nil_of_length_eq_zero e4;exact h _ _ _ _ _
def us6 {p:J8->Prop} (h:∀ a0 a1 a2 a3 a4 a5,p [a0,a1,a2,a3,a4,a5]):∀ us:J8,us.length=6->p us:=by
 intro us e;obtain ⟨a0,u0,rfl,e0⟩:=uc e;obtain ⟨a1,u1,rfl,e1⟩:=uc e0;obtain ⟨a2,u2,rfl,e2⟩:=uc e1;obtain ⟨a3,u3,rfl,e3⟩:=uc e2;obtain ⟨a4,u4,rfl,e4⟩:=uc e3;obtain ⟨a5,u5,rfl,e5⟩:=uc e4;cases List.eq_nil_of_length_eq_zero e5;exact h _ _ _ _ _ _
theorem all_mk {l:PySem.W.OpenLaw} {w:World} {K:Fg} {h:Heap} {mg:J0} {fa j6 ix gC gD cG cH bU d9 dJ dL cI br aQ bz j7 gJ gK cJ cj fI cr fJ fK gL iy fL dU fM fN aA aE aR aV cK aW aG fO cu fP fQ fR eA gM gO iz jG bV bW eC bA bX bE eE dW bF bY dg kN iA fS fU i9 ja jb jc eG jd je jH kO iB aj ar ae ad ag ah af ak am aq bj:Ad} {TS TE TW aI az aX aY bG bH cL bZ bt cM bI bJ b5 dh ax bu au gP eI eJ:Ad} {tB tM tN tT tFC:Tok} {esS esE esW:Array DictEntry} {nS nE nW:Nat} {CN SG:Ad} {tH:Tok} {esG:Array DictEntry} {nG:Nat} {lw ly lA lB:Option Ad} {lC lD:Array (Ja)} {lH lI lJ lK j8 lL lM lO lP lQ j9 lR:Vl} {lp:Ad} {kP:Vl} {kQ:Option Ad} {kR:Array (Ja)} {lU:Nat} {lu:Ad} {kT:Vl} {kU:Option Ad} {kX:Array (Ja)} {lV:Nat} {gE:Tok} (X:K.In h) (G:h.Ns mainGlobals mg) (hfa:mg "law"=some (.ref fa))
  (kc:DH K "kept" zci j6)
  (iC:DH K "plus" zch ix)
  (gF:DH K "minus" XO gC)
  (gG:DH K "times" XN gD)
  (cO:DH K "refuse_nought" xb cG)
  (cP:DH K "quotient" Z5 cH)
  (b6:DH K "remainder" Zu bU)
  (eK:DH K "lesser" Y4 d9)
  (dM:DH K "greater" Yz dJ)
  (dN:DH K "is_less" Yy dL)
  (cQ:DH K "is_equal" Z6 cI)
  (bv:DH K "bits_of_both" xq br)
  (aZ:DH K "bits_of_either" yV aQ)
  (bB:DH K "bits_of_one" xN bz)
  (kf:DH K "done" zcj j7)
  (gQ:DH K "start_of" Z3 gJ)
  (gR:DH K "count_of" Z7 gK)
  (cR:DH K "seats_for_two" yz cJ)
  (cx:DH K "seats_for_call" yQ cj)
  (fV:DH K "seats_for" xV fI)
  (cy:DH K "seats_for_step" yP cr)
  (fW:DH K "cell_step" ZH fJ)
  (fX:DH K "leaf_step" ZC fK)
  (gS:DH K "make_two" Zp gL)
  (iD:DH K "make_at" Yw iy)
  (fY:DH K "make_pair" xW fL)
  (dX:DH K "make_choice" xM dU)
  (fZ:DH K "make_call" ZB fM)
  (gc:DH K "make_form" xX fN)
  (aJ:DH K "numbers_written" yD aA)
  (aK:DH K "numbers_of_here" yE aE)
  (a9:DH K "numbers_loaded" yT aR)
  (ba:DH K "numbers_spread" yS aV)
  (cU:DH K "number_joined" xc cK)
  (bc:DH K "numbers_joined" yU aW)
  (aO:DH K "numbers_brought" yF aG)
  (gd:DH K "lays_seat" ZD fO)
  (cz:DH K "play_seat_step" yR cu)
  (ge:DH K "may_fault" Zz fP)
  (gf:DH K "group_for" ZG fQ)
  (gh:DH K "make_test" ZA fR)
  (eO:DH K "make_value" Zd eA)
  (gT:DH K "round_of" Z4 gM)
  (gU:DH K "turns_of" YS gO)
  (iE:DH K "code_of" YA iz)
  (kg:PySem.W.nsIn K mainGlobals "made"=some (some (.ref jG))) (kh:K.lookup jG=some ⟨lH,lw,.func (PySem.W.fnOf "made" "made" (yf Xq) (zR Xq) (ze Xq) (.ref lu) lI lJ lK ly j8 lL),lC⟩) (ki:PySem.W.codeIn K j8 "made"=true) (kj:PySem.W.keepIn K (.ref jG)=true) (jf:K.lookup lu=some ⟨kT,kU,.seq #[.int 0 gE] lV,kX⟩)
  (b7:DH K "play_trim" Zv bV)
  (b8:DH K "play_stop" Zw bW)
  (eP:DH K "lay_chosen" Ze eC)
  (bC:DH K "play_choose" xL bA)
  (b9:DH K "play_save" Zx bX)
  (bK:DH K "play_store" Zb bE)
  (eQ:DH K "has_effect" Zg eE)
  (dY:DH K "play_effect" xK dW)
  (bL:DH K "play_begin" Zc bF)
  (cf:DH K "play_next" Zy bY)
  (dj:DH K "place_behind" xp dg)
  (kY:DH K "ran" s_ran kN)
  (iF:DH K "_law_whole" Yx iA)
  (gi:DH K "_law_cell_at" ZF fS)
  (gj:DH K "_law_kept_by" ZE fU)
  (jg:DH K "_law_some" Y7 i9)
  (jh:DH K "_law_told" Y6 ja)
  (ji:DH K "_law_wrap" Y5 jb)
  (jj:DH K "_law_leaf" Xa jc)
  (eR:DH K "_law_leaf_due" Zf eG)
  (jk:DH K "_law_sign" Y8 jd)
  (jl:DH K "_law_nest" Y9 je)
  (jI:DH K "_law_due" XQ jH)
  (kZ:DH K "law" zac kO)
  (iG:PySem.W.nsIn K mainGlobals "Boxes"=some (some (.ref aj))) (iH:CH K aj)
  (cV:FN K aj ["lanes","numbers"])
  (gW:PySem.W.makesIn K aj=true) (gX:PySem.W.keepIn K (.ref aj)=true)
  (eS:MH K aj "__init__" "Boxes.__init__" Zj)
  (cW:MH K aj "spot_of" "Boxes.spot_of" xf)
  (gk:MH K aj "lay" "Boxes.lay" ZL)
  (bQ:MH K aj "number_at" "Boxes.number_at" yG)
  (jo:PySem.W.nsIn K mainGlobals "Feed"=some (some (.ref ar))) (jp:CH K ar)
  (dP:FN K ar ["numbers","at"])
  (iI:PySem.W.makesIn K ar=true) (iJ:PySem.W.keepIn K (.ref ar)=true)
  (gl:MH K ar "__init__" "Feed.__init__" ZJ)
  (eU:MH K ar "taken" "Feed.taken" Zi)
  (iK:PySem.W.nsIn K mainGlobals "Bench"=some (some (.ref ae))) (iL:CH K ae)
  (ac:FN K ae ["lengths","starts","cells","lanes","boxes","masks","slots","dust","picks","touches","at","opened","many","group","base","begun","width","faults","cut","carried","raised","turns","refusal"])
  (gY:PySem.W.makesIn K ae=true) (gZ:PySem.W.keepIn K (.ref ae)=true)
  (eV:MH K ae "__init__" "Bench.__init__" Zk)
  (bM:MH K ae "open_round" "Bench.open_round" yv)
  (bD:MH K ae "begin_strip" "Bench.begin_strip" yq)
  (bw:MH K ae "active_under" "Bench.active_under" ym)
  (bN:MH K ae "numbers_in" "Bench.numbers_in" yw)
  (cA:MH K ae "lay_seat" "Bench.lay_seat" yW)
  (cB:MH K ae "lay_mask" "Bench.lay_mask" yX)
  (dZ:MH K ae "touch" "Bench.touch" xQ)
  (bR:MH K ae "read_cell" "Bench.read_cell" yI)
  (bO:MH K ae "write_cell" "Bench.write_cell" yu)
  (bh:MH K ae "address_in_slot" "Bench.address_in_slot" ye)
  (bS:MH K ae "read_slot" "Bench.read_slot" yH)
  (bP:MH K ae "write_slot" "Bench.write_slot" yt)
  (g8:PySem.W.nsIn K mainGlobals "Number"=some (some (.ref ad))) (hJ:CH K ad)
  (cg:FN K ad ["number"])
  (gm:PySem.W.makesIn K ad=true) (gn:PySem.W.keepIn K (.ref ad)=true)
  (d6:MH K ad "__init__" "Number.__init__" xO)
  (jq:PySem.W.nsIn K mainGlobals "Here"=some (some (.ref ag))) (jr:CH K ag)
  (iM:PySem.W.makesIn K ag=true) (iN:PySem.W.keepIn K (.ref ag)=true) (iO:PySem.W.findIn K (.ref ag) "__init__"=some (some (.builtin "object.__init__")))
  (jt:PySem.W.nsIn K mainGlobals "Cell"=some (some (.ref ah))) (ju:CH K ah)
  (dQ:FN K ah ["row"])
  (iP:PySem.W.makesIn K ah=true) (iQ:PySem.W.keepIn K (.ref ah)=true)
  (gq:MH K ah "__init__" "Cell.__init__" ZK)
  (jv:PySem.W.nsIn K mainGlobals "Pair"=some (some (.ref af))) (jw:CH K af)
  (av:FN K af ["sign","left","right"])
  (iR:PySem.W.makesIn K af=true) (iS:PySem.W.keepIn K (.ref af)=true)
  (gs:MH K af "__init__" "Pair.__init__" ZI)
  (jJ:PySem.W.nsIn K mainGlobals "Let"=some (some (.ref ak))) (jK:CH K ak)
  (ay:FN K ak ["target","value","test"])
  (jx:PySem.W.makesIn K ak=true) (jy:PySem.W.keepIn K (.ref ak)=true)
  (lX:PySem.W.findIn K (.ref ak) "__init__"=some (some (.ref iB))) (lY:PySem.W.isFn K (.ref iB)=true) (km:K.lookup iB=some ⟨lM,lA,.func (PySem.W.fnOf "__init__" "Let.__init__" (yf xD) (zR xD) (ze xD) (.ref lp) lO lP lQ lB j9 lR),lD⟩) (ko:PySem.W.codeIn K j9 "Let.__init__"=true) (kq:PySem.W.keepIn K (.ref iB)=true)
  (jz:K.lookup lp=some ⟨kP,kQ,.seq #[.none] lU,kR⟩)
  (d7:MH K ak "many_of" "Let.many_of" xP)
  (gu:PySem.W.nsIn K mainGlobals "Program"=some (some (.ref am))) (gw:CH K am)
  (bf:FN K am ["lengths","functions","steps"])
  (eW:PySem.W.makesIn K am=true) (eX:PySem.W.keepIn K (.ref am)=true)
  (dk:MH K am "__init__" "Program.__init__" xr)
  (iT:PySem.W.nsIn K mainGlobals "Maker"=some (some (.ref aq))) (iU:CH K aq)
  (aw:FN K aq ["lengths","functions","seats","code","free_slot"])
  (hU:PySem.W.makesIn K aq=true) (hZ:PySem.W.keepIn K (.ref aq)=true)
  (eY:MH K aq "__init__" "Maker.__init__" Zh)
  (dn:MH K aq "put_by" "Maker.put_by" xt)
  (jL:PySem.W.nsIn K mainGlobals "Aim"=some (some (.ref bj))) (jM:CH K bj)
  (ao:FN K bj ["seat","mask","level","own"])
  (jA:PySem.W.makesIn K bj=true) (jB:PySem.W.keepIn K (.ref bj)=true)
  (ia:MH K bj "__init__" "Aim.__init__" Z8)
  (tb1:TB K mainGlobals [("SEAT_STEPS",TS),("EFFECTS",TE),("WAYS",TW),("numbers_shifted",aI),("numbers_gathered",az),("numbers_picked",aX),("numbers_copied",aY),("play_reach",bG),("play_other",bH),("play_put",cL),("play_fold",bZ),("play_running",bt),("play_any",cM),("play_turns",bI),("play_quiet",bJ),("play_till",b5),("At",dh),("Choice",ax),("Call",bu),("Shifted",au),("Put",gP),("Fold",eI),("Till",eJ),("ByNought",CN),("SIGNS",SG)])
  (lS:K.lookup TS=some ⟨.type "dict",none,.dict esS nS,#[]⟩)
  (kS:PySem.W.KeysLit w.params esS.toList)
  (lE:K.lookup TE=some ⟨.type "dict",none,.dict esE nE,#[]⟩)
  (kE:PySem.W.KeysLit w.params esE.toList)
  (lW:K.lookup TW=some ⟨.type "dict",none,.dict esW nW,#[]⟩)
  (kW:PySem.W.KeysLit w.params esW.toList)
  (tb2:TB K TS [("number",aA),("here",aE),("load",aR),("spread",aV),("shift",aI),("gather",az),("op",aW),("pick",aX),("copy",aY),("bring",aG)])
  (tb3:TB K TE [("reach",bG),("trim",bV),("stop",bW),("choose",bA),("other",bH),("save",bX),("store",bE),("put",cL),("fold",bZ),("running",bt),("any",cM)])
  (tb4:TN K TS ["reach","trim","stop","choose","other","save","store","put","fold","running","any","begin","next","turns","quiet","till"])
  (tb5:TB K TW [("begin",bF),("next",bY),("turns",bI),("quiet",bJ),("till",b5)])
  (tb6:TN K TE ["begin","next","turns","quiet","till"])
  (loS:(TS == sysModules)=false)
  (loE:(TE == sysModules)=false)
  (iV:PySem.W.kitOne K (.type "int") (.type "int")=some true)
  (ie:PySem.W.kitOne K (.type "int") (.type "bool")=some false)
  (d8:PySem.W.kitOne K (.type "tuple") (.type "tuple")=some true)
  (gx:PySem.W.kitOne K (.type "list") (.type "list")=some true)
  (iW:PySem.W.kitOne K (.type "str") (.type "str")=some true)
  (tb7:TN K mainGlobals ["isinstance","int","bool","str","list","tuple","len","range","sum","min","max","any","zip","dict"])
  (aB:PySem.W.nsIn K mainGlobals "MANY_BOXES"=some (some (.int 8 tB)))
  (aM:PySem.W.nsIn K mainGlobals "MOST_TOGETHER"=some (some (.int 4 tM)))
  (aN:PySem.W.nsIn K mainGlobals "MANY_MASKS"=some (some (.int 16 tN)))
  (aT:PySem.W.nsIn K mainGlobals "TEST_MASK"=some (some (.int 1 tT)))
  (aFC:PySem.W.nsIn K mainGlobals "FIRST_CHOICE_MASK"=some (some (.int 2 tFC)))
  (iX:PySem.W.findIn K (.ref ad) "__class__"=some (some (.builtin "object.__class__")))
  (iY:PySem.W.specialIn K (.builtin "object.__class__") "__get__"=some (some (.builtin "getset_descriptor.__get__")))
  (iZ:PySem.W.takesIn K (.builtin "object.__class__")=some true)
  (i5:PySem.W.mroIn K ad (.type "object")=some true)
  (jN:PySem.W.findIn K (.ref ag) "__class__"=some (some (.builtin "object.__class__")))
  (jO:PySem.W.specialIn K (.builtin "object.__class__") "__get__"=some (some (.builtin "getset_descriptor.__get__")))
  (jP:PySem.W.takesIn K (.builtin "object.__class__")=some true)
  (jQ:PySem.W.mroIn K ag (.type "object")=some true)
  (jR:PySem.W.findIn K (.ref ah) "__class__"=some (some (.builtin "object.__class__")))
  (jS:PySem.W.specialIn K (.builtin "object.__class__") "__get__"=some (some (.builtin "getset_descriptor.__get__")))
  (jT:PySem.W.takesIn K (.builtin "object.__class__")=some true)
  (jU:PySem.W.mroIn K ah (.type "object")=some true)
  (jV:PySem.W.findIn K (.ref af) "__class__"=some (some (.builtin "object.__class__")))
  (jW:PySem.W.specialIn K (.builtin "object.__class__") "__get__"=some (some (.builtin "getset_descriptor.__get__")))
  (jX:PySem.W.takesIn K (.builtin "object.__class__")=some true)
  (jY:PySem.W.mroIn K af (.type "object")=some true)
  (kx:PySem.W.findIn K (.ref ak) "__class__"=some (some (.builtin "object.__class__")))
  (ky:PySem.W.specialIn K (.builtin "object.__class__") "__get__"=some (some (.builtin "getset_descriptor.__get__")))
  (kz:PySem.W.takesIn K (.builtin "object.__class__")=some true)
  (kA:PySem.W.mroIn K ak (.type "object")=some true)
  (eZ:PySem.W.kitOne K (.ref ad) (.ref dh)=some false)
  (dr:PySem.W.kitOne K (.ref ad) (.ref af)=some false)
  (cE:PySem.W.kitOne K (.ref ad) (.ref ax)=some false)
  (dw:PySem.W.kitOne K (.ref ad) (.ref bu)=some false)
  (cF:PySem.W.kitOne K (.ref ad) (.ref ad)=some true)
  (dy:PySem.W.kitOne K (.ref ad) (.ref ag)=some false)
  (dA:PySem.W.kitOne K (.ref ad) (.ref ah)=some false)
  (bT:PySem.W.kitOne K (.ref ad) (.ref au)=some false)
  (ig:PySem.W.kitOne K (.ref ag) (.ref dh)=some false)
  (fb:PySem.W.kitOne K (.ref ag) (.ref af)=some false)
  (dB:PySem.W.kitOne K (.ref ag) (.ref ax)=some false)
  (fg:PySem.W.kitOne K (.ref ag) (.ref bu)=some false)
  (dD:PySem.W.kitOne K (.ref ag) (.ref ad)=some false)
  (fh:PySem.W.kitOne K (.ref ag) (.ref ag)=some true)
  (fj:PySem.W.kitOne K (.ref ag) (.ref ah)=some false)
  (cX:PySem.W.kitOne K (.ref ag) (.ref au)=some false)
  (ij:PySem.W.kitOne K (.ref ah) (.ref dh)=some false)
  (fk:PySem.W.kitOne K (.ref ah) (.ref af)=some false)
  (dE:PySem.W.kitOne K (.ref ah) (.ref ax)=some false)
  (fm:PySem.W.kitOne K (.ref ah) (.ref bu)=some false)
  (dF:PySem.W.kitOne K (.ref ah) (.ref ad)=some false)
  (fA:PySem.W.kitOne K (.ref ah) (.ref ag)=some false)
  (fB:PySem.W.kitOne K (.ref ah) (.ref ah)=some true)
  (cY:PySem.W.kitOne K (.ref ah) (.ref au)=some false)
  (im:PySem.W.kitOne K (.ref af) (.ref dh)=some false)
  (fC:PySem.W.kitOne K (.ref af) (.ref af)=some true)
  (dG:PySem.W.kitOne K (.ref af) (.ref ax)=some false)
  (fD:PySem.W.kitOne K (.ref af) (.ref bu)=some false)
  (dH:PySem.W.kitOne K (.ref af) (.ref ad)=some false)
  (fE:PySem.W.kitOne K (.ref af) (.ref ag)=some false)
  (fH:PySem.W.kitOne K (.ref af) (.ref ah)=some false)
  (cZ:PySem.W.kitOne K (.ref af) (.ref au)=some false)
  (io:PySem.W.kitOne K (.ref ak) (.ref gP)=some false)
  (ip:PySem.W.kitOne K (.ref ak) (.ref ak)=some true)
  (gy:PySem.W.kitOne K (.ref ak) (.ref eI)=some false)
  (gA:PySem.W.kitOne K (.ref ak) (.ref eJ)=some false)
  (lZ:PySem.W.excIn K CN [.type "ValueError",.type "Exception",.type "BaseException",.type "object"] "ValueError.__new__"=true)
  (jZ:PySem.W.exmOne K (.ref CN) (.ref CN)=some true)
  (aH:PySem.W.nsIn K mainGlobals "HALF"=some (some (.int 9223372036854775808 tH)))
  (lG:K.lookup SG=some ⟨.type "dict",none,.dict esG nG,#[]⟩)
  (kG:PySem.W.KeysLit w.params esG.toList)
  (tb8:TB K SG [("+",ix),("-",gC),("*",gD),("/",cH),("rest",bU),("least",d9),("most",dJ),("<",dL),("=",cI),("&",br),("|",aQ),("^",bz)])
  : ∃ fd:FuncData,(∀ (s:Sh) (v:Vl),BindsTo s fd ⟨[v],[]⟩ [("_law_script",v)])/\∀ base:Heap,K.In base->base.Ns mainGlobals mg->FnOk l.prog w K mg base CX0 67 fa fd ["_law_script"] (spLaw K):=by
 obtain ⟨k6,l0,l5,kB,kD,kF,kH,kI,kJ,l6,k8,lh,lj⟩:=kZ;have e:=hfa.symm.trans (PySem.W.mg_of X G k6);cases e;have de:zk K mg "count_of" Z7 ["steps"]:=gR.d X G;have bp:zk K mg "seats_for_two" yz ["first","second","functions"]:=cR.d X G;have df:zk K mg "make_two" Zp ["maker","first","first_aim","second","second_aim"]:=gS.d X G;have i6:zk K mg "code_of" YA ["program","steps","first","group"]:=iE.d X G
 have kK:DefD K mg "made" Xq ["program","group"]:=⟨jG,_,gE,PySem.W.mg_of X G kg,(YE kh ki kj jf),(YE kh ki kj jf).binds (λ_ _ _ _ _ _ _ us hl=>by
  obtain ⟨a0,u0,rfl,e0⟩:=ucV (n:=1) (by simpa using hl);obtain ⟨a1,u1,rfl,e1⟩:=ucV e0;cases List.eq_nil_of_length_eq_zero e1
  exact ⟨_,rfl,rfl⟩),(YE kh ki kj jf).binds (λ_ _ _ _ _ _ _ us hl=>by
  obtain ⟨a0,u0,rfl,e0⟩:=ucV (n:=0) (by simpa using hl);cases List.eq_nil_of_length_eq_zero e0;exact ⟨_,rfl,rfl⟩)⟩
 have gB:yp K af "Pair.__init__" ZI ["self","sign","left","right"]:=gs.i iR iS
 have iu:InitN K ak "Let.__init__" xD ["self","target","value","test"]:=⟨iB,_,⟨jx,lX,lY,jy⟩,(YE km ko kq jz),(YE km ko kq jz).binds (λ_ _ _ _ _ _ _ us hl=>by
  obtain ⟨a0,u0,rfl,e0⟩:=ucV (n:=3) (by simpa using hl);obtain ⟨a1,u1,rfl,e1⟩:=ucV e0;obtain ⟨a2,u2,rfl,e2⟩:=ucV e1;obtain ⟨a3,u3,rfl,e3⟩:=ucV e2;cases List.eq_nil_of_length_eq_zero e3
  exact ⟨_,rfl,rfl⟩),(YE km ko kq jz).binds (λ_ _ _ _ _ _ _ us hl=>by
  obtain ⟨a0,u0,rfl,e0⟩:=ucV (n:=2) (by simpa using hl);obtain ⟨a1,u1,rfl,e1⟩:=ucV e0;obtain ⟨a2,u2,rfl,e2⟩:=ucV e1;cases List.eq_nil_of_length_eq_zero e2;exact ⟨_,rfl,rfl⟩)⟩
 have jC:Cls K aj:=iH.c;have j4:Cls K ar:=jp.c;have jD:Cls K ae:=iL.c;have dS:Cls K ad:=hJ.c;have j5:Cls K ag:=jr.c;have gH:Cls K ah:=ju.c;have gI:Cls K af:=jw.c;have i7:Cls K ak:=jK.c;have iw:Cls K am:=gw.c;have jE:Cls K aq:=iU.c;have i8:Cls K bj:=jM.c;have mm:=λ{x:Str} {v:Vl} (q:PySem.W.nsIn K mainGlobals x=some (some v))=>PySem.W.mg_of X G q;have mz:=λ{x:Str} (q:PySem.W.nsIn K mainGlobals x=some none)=>PySem.W.mg_none_of X G q;refine ⟨PySem.W.fnOf "law" "law" (yf zac) (zR zac) (ze zac) .none kB kD kF kH kI kJ,λs v=>.of_eq rfl,λbase kb nb=>?_⟩;let c:MCs:=⟨aj,ar,ae⟩;let t:TabA:=⟨TS,TE,TW⟩;have BC:BCls K aj:=⟨jC,(cV.g 0 rfl),(cV.g 1 rfl)⟩;have FC:FCls K ar:=⟨j4,(dP.g 0 rfl),(dP.g 1 rfl)⟩;have NC:NCls K ae:=⟨jD,(ac.g 0 rfl),(ac.g 1 rfl),(ac.g 2 rfl),(ac.g 3 rfl),(ac.g 4 rfl),(ac.g 5 rfl),(ac.g 6 rfl),(ac.g 7 rfl),(ac.g 8 rfl),(ac.g 9 rfl),(ac.g 10 rfl),(ac.g 11 rfl),(ac.g 12 rfl),(ac.g 13 rfl),(ac.g 14 rfl),(ac.g 15 rfl),(ac.g 16 rfl),(ac.g 17 rfl),(ac.g 18 rfl),(ac.g 19 rfl),(ac.g 20 rfl),(ac.g 21 rfl),(ac.g 22 rfl)⟩;have CC:MCls K c:=⟨BC,FC,NC⟩;have TT:Tabs w K mg t:=⟨⟨esS,nS,lS,kS⟩,⟨esE,nE,lE,kE⟩,⟨esW,nW,lW,kW⟩,loS,loE,mm (tb1.g 0 rfl),mm (tb1.g 1 rfl),mm (tb1.g 2 rfl),⟨_,(tb2.g 0 rfl),mm aJ.1⟩,⟨_,(tb2.g 1 rfl),mm aK.1⟩,⟨_,(tb2.g 2 rfl),mm a9.1⟩,⟨_,(tb2.g 3 rfl),mm ba.1⟩,⟨_,(tb2.g 4 rfl),mm (tb1.g 3 rfl)⟩,⟨_,(tb2.g 5 rfl),mm (tb1.g 4 rfl)⟩,⟨_,(tb2.g 6 rfl),mm bc.1⟩,⟨_,(tb2.g 7 rfl),mm (tb1.g 5 rfl)⟩,⟨_,(tb2.g 8 rfl),mm (tb1.g 6 rfl)⟩,⟨_,(tb2.g 9 rfl),mm aO.1⟩,⟨_,(tb3.g 0 rfl),mm (tb1.g 7 rfl)⟩,(tb4.g 0 rfl),⟨_,(tb3.g 1 rfl),mm b7.1⟩,(tb4.g 1 rfl),⟨_,(tb3.g 2 rfl),mm b8.1⟩,(tb4.g 2 rfl),⟨_,(tb3.g 3 rfl),mm bC.1⟩,(tb4.g 3 rfl),⟨_,(tb3.g 4 rfl),mm (tb1.g 8 rfl)⟩,(tb4.g 4 rfl),⟨_,(tb3.g 5 rfl),mm b9.1⟩,(tb4.g 5 rfl),⟨_,(tb3.g 6 rfl),mm bK.1⟩,(tb4.g 6 rfl),⟨_,(tb3.g 7 rfl),mm (tb1.g 9 rfl)⟩,(tb4.g 7 rfl),⟨_,(tb3.g 8 rfl),mm (tb1.g 10 rfl)⟩,(tb4.g 8 rfl),⟨_,(tb3.g 9 rfl),mm (tb1.g 11 rfl)⟩,(tb4.g 9 rfl),⟨_,(tb3.g 10 rfl),mm (tb1.g 12 rfl)⟩,(tb4.g 10 rfl),⟨_,(tb5.g 0 rfl),mm bL.1⟩,(tb4.g 11 rfl),(tb6.g 0 rfl),⟨_,(tb5.g 1 rfl),mm cf.1⟩,(tb4.g 12 rfl),(tb6.g 1 rfl),⟨_,(tb5.g 2 rfl),mm (tb1.g 13 rfl)⟩,(tb4.g 13 rfl),(tb6.g 2 rfl),⟨_,(tb5.g 3 rfl),mm (tb1.g 14 rfl)⟩,(tb4.g 14 rfl),(tb6.g 3 rfl),⟨_,(tb5.g 4 rfl),mm (tb1.g 15 rfl)⟩,(tb4.g 15 rfl),(tb6.g 4 rfl)⟩;have SPo:=ok_spot (P:=l.prog) (w:=w) (mg:=mg) (base:=base) cW.m BC;have LAy:=ok_lay gk.m BC SPo;have NUm:=ok_num bQ.m BC SPo;have TK:=ok_taken (P:=l.prog) (w:=w) (mg:=mg) (base:=base) eU.m FC (mz (tb7.g 6 rfl));have IFe:=ok_initF (P:=l.prog) (w:=w) (mg:=mg) (base:=base) (gl.i iI iJ) FC (mz (tb7.g 4 rfl));have IBo:=ok_initB (P:=l.prog) (w:=w) (mg:=mg) (base:=base) (eS.i gW gX) BC (mm aB);have TOu:=ok_touch (P:=l.prog) (w:=w) (mg:=mg) (base:=base) (c:=c) dZ.m NC;have RCe:=ok_read (c:=c) bR.m NC TOu;have WCe:=ok_write (c:=c) bO.m NC TOu;have AU:=ok_act (P:=l.prog) (w:=w) (mg:=mg) (base:=base) (c:=c) bw.m (mz (tb7.g 7 rfl)) NC;have NI:=ok_nums (c:=c) bN.m CC NUm;have LMa:=ok_mask (c:=c) cB.m (mz (tb7.g 7 rfl)) CC TK;have LSe:=ok_seat (c:=c) cA.m (mz (tb7.g 7 rfl)) (mz (tb7.g 13 rfl)) (mz (tb7.g 12 rfl)) CC TK LAy;have BSt:=ok_strip (c:=c) bD.m (mz (tb7.g 7 rfl)) (mz (tb7.g 4 rfl)) (mz (tb7.g 9 rfl)) CC LMa;have ORo:=ok_round (c:=c) bM.m CC BSt;have SOf:=ok_start (P:=l.prog) (w:=w) (base:=base) (gQ.d X G) (mz (tb7.g 8 rfl));have INi:=ok_initN (c:=c) (eV.i gY gZ) CC (mz (tb7.g 4 rfl)) (mz (tb7.g 6 rfl)) (mz (tb7.g 7 rfl)) (mm aM) (mm aN) (mm iG) (mm jo) SOf IBo IFe;have LSW:=ok_lsw (P:=l.prog) (base:=base) (t:=t) (gd.d X G) TT;have HEW:=ok_hew (P:=l.prog) (base:=base) (t:=t) (eQ.d X G) TT;have LO:=ok_loaded (c:=c) (a9.d X G) CC RCe;have STo:=ok_store (c:=c) (bK.d X G) (mz (tb7.g 12 rfl)) CC AU NI WCe;have BEg:=ok_begin (c:=c) (bL.d X G) CC ORo;have NEx:=ok_next (c:=c) (cf.d X G) CC BSt;have HE:=ok_here (P:=l.prog) (w:=w) (base:=base) (c:=c) (aK.d X G) CC;have NW:=ze4 (P:=l.prog) (w:=w) (base:=base) (c:=c) (aJ.d X G) (mz (tb7.g 6 rfl));have SPr:=ok_spread (c:=c) (ba.d X G) (mz (tb7.g 6 rfl)) CC RCe;have ADr:=ok_adr (P:=l.prog) (w:=w) (base:=base) (c:=c) bh.m NC (mz (tb7.g 6 rfl)) (mm aM);have WSl:=ok_ws (c:=c) bP.m NC ADr TOu;have RSl:=ok_rs (c:=c) bS.m NC ADr TOu;have SAv:=ok_save (c:=c) (b9.d X G) (mz (tb7.g 12 rfl)) CC AU NI WSl;have BRi:=ok_bring (c:=c) (aO.d X G) CC RSl;have TRi:=ok_trim (P:=l.prog) (w:=w) (base:=base) (c:=c) (b7.d X G) (mz (tb7.g 6 rfl)) (mz (tb7.g 9 rfl)) CC;have SPp:=ok_stop (P:=l.prog) (w:=w) (base:=base) (c:=c) (b8.d X G) CC;have LCh:=ok_chosen (c:=c) (eP.d X G) (mz (tb7.g 12 rfl)) CC AU NI LMa;have CHo:=ok_choose (c:=c) (bC.d X G) LCh;have TG:xT w K SG:=⟨esG,nG,lG,kG⟩;have Sg:Signs K mg SG:=⟨⟨_,(tb8.g 0 rfl),mm iC.1⟩,⟨_,(tb8.g 1 rfl),mm gF.1⟩,⟨_,(tb8.g 2 rfl),mm gG.1⟩,⟨_,(tb8.g 3 rfl),mm cP.1⟩,⟨_,(tb8.g 4 rfl),mm b6.1⟩,⟨_,(tb8.g 5 rfl),mm eK.1⟩,⟨_,(tb8.g 6 rfl),mm dM.1⟩,⟨_,(tb8.g 7 rfl),mm dN.1⟩,⟨_,(tb8.g 8 rfl),mm cQ.1⟩,⟨_,(tb8.g 9 rfl),mm bv.1⟩,⟨_,(tb8.g 10 rfl),mm aZ.1⟩,⟨_,(tb8.g 11 rfl),mm bB.1⟩⟩;have GK:=ok_kept (P:=l.prog) (w:=w) (base:=base) (kc.d X G) (mm aH);have GN:=ok_refuse (P:=l.prog) (w:=w) (base:=base) (cO.d X G) (own_in kb (mm (tb1.g 23 rfl)) lZ) PySem.F.excBase_ValueError;have Fs:Fns l.prog w K mg base CN:=⟨ok_plus (iC.d X G) GK,ok_minus (gF.d X G) GK,ok_times (gG.d X G) GK,zdw (cP.d X G) GK GN,zcw (b6.d X G) GN,ok_lesser (eK.d X G) (mz (tb7.g 9 rfl)),ze7 (dM.d X G) (mz (tb7.g 10 rfl)),ze6 (dN.d X G),zdy (cQ.d X G),ok_both (bv.d X G),ok_either (aZ.d X G),ok_one (bB.d X G)⟩;have DN:=ok_done (kf.d X G) (mm (tb1.g 24 rfl)) TG Sg Fs;have OP1:=ok_opOne (P:=l.prog) (w:=w) (base:=base) (c:=c) (cU.d X G) CC (mm (tb1.g 23 rfl)) jZ DN;have OPa:=ok_op (c:=c) (bc.d X G) (mz (tb7.g 12 rfl)) CC NI OP1
 have SW:XB l.prog w K mg base c t Lx.S 6:=λword f h=>by
  rcases h with ⟨rfl,rfl⟩ | ⟨rfl,rfl⟩ | ⟨rfl,rfl⟩ | ⟨rfl,rfl⟩ | ⟨rfl,rfl⟩ | ⟨rfl,rfl⟩
  ·exact ⟨_,_,TT.s_number,NW.mono (by decide),numM_ok⟩
  ·exact ⟨_,_,TT.s_here,HE.mono (by decide),hereM_ok⟩
  ·exact ⟨_,_,TT.s_load,LO.mono (by decide),loadM_ok⟩
  ·exact ⟨_,_,TT.s_spread,SPr.mono (by decide),zeu⟩
  ·exact ⟨_,_,TT.s_op,OPa.mono (by decide),opM_ok⟩
  ·exact ⟨_,_,TT.s_bring,BRi.mono (by decide),bringM_ok⟩
 have EW:zba l.prog w K mg base c t Lx.E 7:=λword f h=>by
  rcases h with ⟨rfl,rfl⟩ | ⟨rfl,rfl⟩ | ⟨rfl,rfl⟩ | ⟨rfl,rfl⟩ | ⟨rfl,rfl⟩
  ·exact ⟨TT.es_save,_,_,TT.e_save,SAv.mono (by decide)⟩
  ·exact ⟨TT.es_store,_,_,TT.e_store,STo.mono (by decide)⟩
  ·exact ⟨TT.es_trim,_,_,TT.e_trim,TRi.mono (by decide)⟩
  ·exact ⟨TT.es_stop,_,_,TT.e_stop,SPp.mono (by decide)⟩
  ·exact ⟨TT.es_choose,_,_,TT.e_choose,CHo.mono (by decide)⟩
 have WW:zep l.prog w K mg base c t Lx.W 8:=λword f h=>by
  rcases h with ⟨rfl,rfl⟩ | ⟨rfl,rfl⟩
  ·exact ⟨TT.ws_begin,TT.we_begin,_,_,TT.w_begin,BEg.mono (by decide)⟩
  ·exact ⟨TT.ws_next,TT.we_next,_,_,TT.w_next,NEx.mono (by decide)⟩
 have PSS:=ok_pss (c:=c) (t:=t) (cz.d X G) CC TT (by decide) AU LSe SW;have PEf:=ok_pe (c:=c) (t:=t) (by decide) (dY.d X G) TT EW;have PBe:=ok_pb (c:=c) (t:=t) (dj.d X G) CC TT (by decide) SW EW WW LSW HEW PSS PEf;have RN:=ok_ran (c:=c) (kY.d X G) CC (mz (tb7.g 6 rfl)) (mm iK) INi PBe;let fc:F2.Cs:=⟨⟨ad,ag,ah,au,0,dh,af,ax,0⟩,bu⟩;let q:QCs:=⟨aq,bj,ak,gP,eI,0,eJ,am⟩;have FG:FormG mg fc:=⟨mm (tb1.g 16 rfl),mm jv,mm (tb1.g 17 rfl),mm (tb1.g 18 rfl),mm g8,mm jq,mm jt,mm (tb1.g 19 rfl)⟩;have SG:StepG mg q:=⟨mm jJ,mm (tb1.g 20 rfl),mm (tb1.g 21 rfl),mm (tb1.g 22 rfl)⟩;have AG:AimG mg q:=⟨mm iT,mm jL⟩;have LK:FormK K fc:=⟨⟨⟨dS,iX,iY,iZ,i5⟩,eZ,dr,cE,dw,cF,dy,dA,bT⟩,(cg.g 0 rfl),⟨⟨gH,jR,jS,jT,jU⟩,ij,fk,dE,fm,dF,fA,fB,cY⟩,(dQ.g 0 rfl),⟨⟨j5,jN,jO,jP,jQ⟩,ig,fb,dB,fg,dD,fh,fj,cX⟩,⟨⟨gI,jV,jW,jX,jY⟩,im,fC,dG,fD,dH,fE,fH,cZ⟩,(av.g 0 rfl),(av.g 1 rfl),(av.g 2 rfl)⟩;have SK:StepK K q:=⟨⟨⟨i7,kx,ky,kz,kA⟩,io,ip,gy,gA,(ay.g 0 rfl),(ay.g 1 rfl),(ay.g 2 rfl)⟩⟩;have MC:MakerC K q.ma:=⟨jE,(aw.g 0 rfl),(aw.g 1 rfl),(aw.g 2 rfl),(aw.g 3 rfl),(aw.g 4 rfl)⟩;have AC:AimC K q.ai:=⟨i8,(ao.g 0 rfl),(ao.g 1 rfl),(ao.g 2 rfl),(ao.g 3 rfl)⟩;have PC:PrC K q.pr:=⟨iw,(bf.g 0 rfl),(bf.g 1 rfl),(bf.g 2 rfl)⟩;have N':Ints K mg:=⟨mz (tb7.g 0 rfl),mz (tb7.g 1 rfl),mz (tb7.g 2 rfl),iV,ie⟩;have Ty:TysK K mg:=⟨mz (tb7.g 5 rfl),mz (tb7.g 4 rfl),mz (tb7.g 3 rfl),d8,gx,iW⟩;have WH:=ok_whole (P:=l.prog) (w:=w) (base:=base) (iF.d X G) N'
 have KB:=ze5 (P:=l.prog) (w:=w) (base:=base) (gj.d X G)
 have jF:=ze9 (P:=l.prog) (w:=w) (mg:=mg) (base:=base) (d6.i gm gn) dS (cg.g 0 rfl);have kL:=okI_Cell (P:=l.prog) (w:=w) (mg:=mg) (base:=base) (gq.i iP iQ) gH (dQ.g 0 rfl);have kM:=okI_Pair (P:=l.prog) (w:=w) (mg:=mg) (base:=base) gB gI (av.g 0 rfl) (av.g 1 rfl) (av.g 2 rfl);have MHe:MkN K ag:=⟨iM,iO,iN⟩;have ll:=okN_Let (P:=l.prog) (w:=w) (mg:=mg) (base:=base) iu i7 (ay.g 0 rfl) (ay.g 1 rfl) (ay.g 2 rfl);have IA:=okI_Aim (P:=l.prog) (w:=w) (mg:=mg) (base:=base) (ia.i jA jB) i8 (ao.g 0 rfl) (ao.g 1 rfl) (ao.g 2 rfl) (ao.g 3 rfl);have IM:=okI_Mk (P:=l.prog) (w:=w) (base:=base) (q:=q) (eY.i hU hZ) (mm aB) MC;have IPr:=okI_ProgU (P:=l.prog) (w:=w) (mg:=mg) (base:=base) (dk.i eW eX) (mz (tb7.g 4 rfl)) PC;have SFn:=λn=>ok_sf (P:=l.prog) (w:=w) (base:=base) (c:=fc) (fV.d X G) bp (cx.d X G) (mz (tb7.g 0 rfl)) (mz (tb7.g 10 rfl)) FG LK n;have SSn:=ok_ss (P:=l.prog) (w:=w) (base:=base) (c:=fc) (q:=q) (n:=19) (cy.d X G) (mz (tb7.g 0 rfl)) (mz (tb7.g 10 rfl)) SG SK (SFn 19) (ok_s2 bp (mz (tb7.g 10 rfl)) (SFn 19));have CSt:=zdz (P:=l.prog) (w:=w) (mg:=mg) (base:=base) (c:=fc) (q:=q) (fW.d X G) LK MC AC;have LSt:=zdx (c:=fc) (q:=q) (fX.d X G) (mz (tb7.g 0 rfl)) FG LK MC AC CSt;have PBy:=ok_putby (P:=l.prog) (w:=w) (mg:=mg) (base:=base) (q:=q) dn.m MC;have MFn:=λn=>ok_mk (P:=l.prog) (w:=w) (base:=base) (c:=fc) (q:=q) ⟨(gc.d X G),(iD.d X G),(fY.d X G),(dX.d X G),(fZ.d X G),df⟩ (mz (tb7.g 0 rfl)) (mm aFC) FG LK MC AC AG IA PBy LSt SFn n;have MTe:=ok_mt (c:=fc) (q:=q) (n:=19) (gh.d X G) (mm aT) SK MC AG IA (MFn 19);have MTw:=ZN (P:=l.prog) (w:=w) (base:=base) df sc_make_two;have MVa:=ok_mv (c:=fc) (q:=q) (n:=19) (eO.d X G) (mz (tb7.g 0 rfl)) SG SK MC AG IA (MFn 19) MTw
 have MOf:∀ st:Stp,OkM l.prog w K mg base CX0 1 (clsS q st) "many_of" ["self","lengths"] (spMany fc q K st):=λst=>by
  cases st with
  | let_ tg v t=>exact ok_manyL (P:=l.prog) (w:=w) (mg:=mg) (base:=base) (c:=fc) (q:=q) d7.m SK
 have ROn:=ok_rnd (c:=fc) (q:=q) (n:=19) (gT.d X G) (mz (tb7.g 11 rfl)) SK PC MC AG SSn (ok_groupF (gf.d X G)) IM MOf MTe MVa (ok_may (ge.d X G));have COn:=ok_cnt (P:=l.prog) (w:=w) (base:=base) (c:=fc) (q:=q) de (mz (tb7.g 0 rfl)) SG SK (ZN de sc_count_of);have CDe:=ok_code (c:=fc) (q:=q) i6 (mz (tb7.g 0 rfl)) SG SK (ZN (gU.d X G) zdg) ROn COn;have MDe:=ok_made (c:=fc) (q:=q) kK PC CDe;have CA:=ze8 (P:=l.prog) (w:=w) (base:=base) (gi.d X G) (mz (tb7.g 6 rfl));have SM:=ok_someL (jg.d X G) (mz (tb7.g 6 rfl)) (mz (tb7.g 7 rfl)) KB;have TO:=ok_told3 (jh.d X G) (mz (tb7.g 6 rfl)) N' Ty WH;have WRa:=ok_wrap (P:=l.prog) (w:=w) (base:=base) (ji.d X G);have SNi:=ok_sign (P:=l.prog) (w:=w) (base:=base) (jk.d X G);have LFe:=ok_leafN (c:=fc) (jj.d X G) FG KB MHe jF kL;have LDe:=ok_leafD (eR.d X G) KB;have NSe:=ok_nest (c:=fc) (jl.d X G) (mz (tb7.g 6 rfl)) (mz (tb7.g 7 rfl)) FG SNi LFe kM;have DUe:=ok_dueN (jI.d X G) (mz (tb7.g 6 rfl)) (mz (tb7.g 7 rfl)) SNi WRa LDe;exact ok_law (c:=fc) (q:=q) (mc:=c) (Lx:=Lx) (YV (st:=zac) k8 lh lj) (mz (tb7.g 6 rfl)) (mz (tb7.g 7 rfl)) SG (mm gu) PC CA SM NSe DUe TO ll IPr MDe RN lx_r lx_store
def walk {l:PySem.W.OpenLaw} {q:Program} {loose:Jb} {XP:(J0)->Heap->Prop} {YP:World->Heap->Prop} {d:DefRec} {K:Params->Fg} (hn:l.most=some 63) (hdf:d.params.defaults=[])
  (hY:∀ (w:World) (h:Heap),YP w h->(K w.params).In h)
  (F:∀ (w:World) (mg:J0) (fa:Ad) (h:Heap),(K w.params).In h->h.Ns mainGlobals mg->mg d.name=some (.ref fa) ->
   ∃ fd:FuncData,(∀ (s:Sh) (u:Vl),BindsTo s fd ⟨[u],[]⟩ [("_law_script",u)])/\∀ base:Heap,(K w.params).In base->base.Ns mainGlobals mg->FnOk l.prog w (K w.params) mg base CX0 67 fa fd ["_law_script"] (spLaw (K w.params))) :
  PySem.W.WalkO q loose XP YP l.row.toRowW d [] (λf vs=>PySem.call f vs) :=
 L2.walk_of (n:=63) (k:=67) (x:="_law_script") (CX:=λ_=>CX0) (sp:=λw=>spLaw (K w.params)) hn (by decide) hdf ⟨rfl,by decide,by decide⟩ hY F (λ_ _ a ns hl _ hS=>⟨a,ns,rfl,hS,hl,λ_=>rfl⟩) λ_ _ _ _ _ z=>z
end K44
open PySem PySem.W PyProof.Rows
set_option maxRecDepth 100000 in
set_option maxHeartbeats 0 in
theorem PySem.Challenge.cw_rowbreadth_k44_right_nests_made_holds : PySem.Challenge.rw_rowbreadth_k44_right_nests_made.Holds := by
 refine K44hd ?_
 k_fill
 refine K44.walk (l:=PySem.Challenge.rw_rowbreadth_k44_right_nests_made) rfl rfl (λw h Y=>Y) ?F
 case F =>
  intro w mg fa h KX G hmg
  refine' K44.all_mk KX G hmg ?q0 ?q1 ?q2 ?q3 ?q4 ?q5 ?q6 ?q7 ?q8 ?q9 ?qa ?qb ?qc ?qd ?qe ?qf ?qg ?qh ?qi ?qj ?qk ?ql ?qm ?qn ?qo ?qp ?qq ?qr ?qs ?qt ?qu ?qv ?qw ?qx ?qy ?qz ?q10 ?q11 ?q12 ?q13 ?q14 ?q15 ?q16 ?q17 ?q18 ?q19 ?q1a ?q1b ?q1c ?q1d ?q1e ?q1f ?q1g ?q1h ?q1i ?q1j ?q1k ?q1l ?q1m ?q1n ?q1o ?q1p ?q1q ?q1r ?q1s ?q1t ?q1u ?q1v ?q1w ?q1x ?q1y ?q1z ?q20 ?q21 ?q22 ?q23 ?q24 ?q25 ?q26 ?q27 ?q28 ?q29 ?q2a ?q2b ?q2c ?q2d ?q2e ?q2f ?q2g ?q2h ?q2i ?q2j ?q2k ?q2l ?q2m ?q2n ?q2o ?q2p ?q2q ?q2r ?q2s ?q2t ?q2u ?q2v ?q2w ?q2x ?q2y ?q2z ?q30 ?q31 ?q32 ?q33 ?q34 ?q35 ?q36 ?q37 ?q38 ?q39 ?q3a ?q3b ?q3c ?q3d ?q3e ?q3f ?q3g ?q3h ?q3i ?q3j ?q3k ?q3l ?q3m ?q3n ?q3o ?q3p ?q3q ?q3r ?q3s ?q3t ?q3u ?q3v ?q3w ?q3x ?q3y ?q3z ?q40 ?q41 ?q42 ?q43 ?q44 ?q45 ?q46 ?q47 ?q48 ?q49 ?q4a ?q4b ?q4c ?q4d ?q4e ?q4f ?q4g ?q4h ?q4i ?q4j ?q4k ?q4l ?q4m ?q4n ?q4o ?q4p ?q4q ?q4r ?q4s ?q4t ?q4u ?q4v ?q4w ?q4x ?q4y ?q4z ?q50 ?q51 ?q52 ?q53 ?q54 ?q55 ?q56 ?q57 ?q58 ?q59 ?q5a ?q5b ?q5c ?q5d ?q5e ?q5f ?q5g ?q5h ?q5i ?q5j ?q5k ?q5l ?q5m ?q5n ?q5o ?q5p ?q5q ?q5r ?q5s ?q5t ?q5u ?q5v ?q5w ?q5x ?q5y ?q5z ?q60 ?q61 ?q62 ?q63 ?q64 ?q65 ?q66 ?q67 ?q68 ?q69 ?q6a ?q6b ?q6c ?q6d ?q6e ?q6f ?q6g ?q6h ?q6i ?q6j ?q6k ?q6l ?q6m ?q6n ?q6o ?q6p ?q6q ?q6r ?q6s ?q6t ?q6u ?q6v ?q6w
  (case q0 | q1 | q2 | q3 | q4 | q5 | q6 | q7 | q8 | q9 | qa | qb | qc | qd | qe | qf | qg | qh | qi | qj | qk | ql | qm | qn | qo | qp | qq | qr | qs | qt | qu | qv | qw | qx | qy | qz | q10 | q11 | q12 | q13=>(refine' L2.DH.mk ?a ?b ?c ?d;(case a=>k_is);(case b=>k_is);(case c=>k_is);(case d=>k_is)))
  (case q14 | q15 | q16 | q17 | q18 | q1e | q1f | q1g | q1h | q1i | q1j | q1k | q1l | q1m | q1n | q1o | q1p | q1q | q1r | q1s | q1t | q1u | q1v | q1w | q1x | q1y | q1z | q20 | q21=>(refine' L2.DH.mk ?a ?b ?c ?d;(case a=>k_is);(case b=>k_is);(case c=>k_is);(case d=>k_is)))
  (case q19 | q1a | q1b | q1c | q1d | q22=>k_is)
  (case q23=>(refine ⟨?_,?_,?_,?_⟩ <;> k_is))
  (case q24=>(repeat' first | exact trivial | refine And.intro ?_ ?_ | k_is))
  (case q25 | q26=>k_is)
  (case q27 | q28 | q29 | q2a=>(refine' L2.MH.mk ?a ?b ?c ?d ?e;(case a=>k_is);(case b=>k_is);(case c=>k_is);(case d=>k_is);(case e=>k_is)))
  (case q2b=>k_is)
  (case q2c=>(refine ⟨?_,?_,?_,?_⟩ <;> k_is))
  (case q2d=>(repeat' first | exact trivial | refine And.intro ?_ ?_ | k_is))
  (case q2e | q2f=>k_is)
  (case q2g | q2h=>(refine' L2.MH.mk ?a ?b ?c ?d ?e;(case a=>k_is);(case b=>k_is);(case c=>k_is);(case d=>k_is);(case e=>k_is)))
  (case q2i=>k_is)
  (case q2j=>(refine ⟨?_,?_,?_,?_⟩ <;> k_is))
  (case q2k=>(repeat' first | exact trivial | refine And.intro ?_ ?_ | k_is))
  (case q2l | q2m=>k_is)
  (case q2n | q2o | q2p | q2q | q2r | q2s | q2t | q2u | q2v | q2w | q2x | q2y | q2z=>(refine' L2.MH.mk ?a ?b ?c ?d ?e;(case a=>k_is);(case b=>k_is);(case c=>k_is);(case d=>k_is);(case e=>k_is)))
  (case q30=>k_is)
  (case q31=>(refine ⟨?_,?_,?_,?_⟩ <;> k_is))
  (case q32=>(repeat' first | exact trivial | refine And.intro ?_ ?_ | k_is))
  (case q33 | q34=>k_is)
  (case q35=>(refine' L2.MH.mk ?a ?b ?c ?d ?e;(case a=>k_is);(case b=>k_is);(case c=>k_is);(case d=>k_is);(case e=>k_is)))
  (case q36=>k_is)
  (case q37=>(refine ⟨?_,?_,?_,?_⟩ <;> k_is))
  (case q38 | q39 | q3a | q3b=>k_is)
  (case q3c=>(refine ⟨?_,?_,?_,?_⟩ <;> k_is))
  (case q3d=>(repeat' first | exact trivial | refine And.intro ?_ ?_ | k_is))
  (case q3e | q3f=>k_is)
  (case q3g=>(refine' L2.MH.mk ?a ?b ?c ?d ?e;(case a=>k_is);(case b=>k_is);(case c=>k_is);(case d=>k_is);(case e=>k_is)))
  (case q3h=>k_is)
  (case q3i=>(refine ⟨?_,?_,?_,?_⟩ <;> k_is))
  (case q3j=>(repeat' first | exact trivial | refine And.intro ?_ ?_ | k_is))
  (case q3k | q3l=>k_is)
  (case q3m=>(refine' L2.MH.mk ?a ?b ?c ?d ?e;(case a=>k_is);(case b=>k_is);(case c=>k_is);(case d=>k_is);(case e=>k_is)))
  (case q3n=>k_is)
  (case q3o=>(refine ⟨?_,?_,?_,?_⟩ <;> k_is))
  (case q3p=>(repeat' first | exact trivial | refine And.intro ?_ ?_ | k_is))
  (case q3q | q3r | q3s | q3t | q3u | q3v | q3w | q3x=>k_is)
  (case q3y=>(refine' L2.MH.mk ?a ?b ?c ?d ?e;(case a=>k_is);(case b=>k_is);(case c=>k_is);(case d=>k_is);(case e=>k_is)))
  (case q3z=>k_is)
  (case q40=>(refine ⟨?_,?_,?_,?_⟩ <;> k_is))
  (case q41=>(repeat' first | exact trivial | refine And.intro ?_ ?_ | k_is))
  (case q42 | q43=>k_is)
  (case q44=>(refine' L2.MH.mk ?a ?b ?c ?d ?e;(case a=>k_is);(case b=>k_is);(case c=>k_is);(case d=>k_is);(case e=>k_is)))
  (case q45=>k_is)
  (case q46=>(refine ⟨?_,?_,?_,?_⟩ <;> k_is))
  (case q47=>(repeat' first | exact trivial | refine And.intro ?_ ?_ | k_is))
  (case q48 | q49=>k_is)
  (case q4a | q4b=>(refine' L2.MH.mk ?a ?b ?c ?d ?e;(case a=>k_is);(case b=>k_is);(case c=>k_is);(case d=>k_is);(case e=>k_is)))
  (case q4c=>k_is)
  (case q4d=>(refine ⟨?_,?_,?_,?_⟩ <;> k_is))
  (case q4e=>(repeat' first | exact trivial | refine And.intro ?_ ?_ | k_is))
  (case q4f | q4g=>k_is)
  (case q4h=>(refine' L2.MH.mk ?a ?b ?c ?d ?e;(case a=>k_is);(case b=>k_is);(case c=>k_is);(case d=>k_is);(case e=>k_is)))
  (case q4i=>(repeat' first | exact trivial | refine And.intro ?_ ?_ | k_is))
  (case q4j=>k_is)
  (case q4k=>k_keys)
  (case q4l=>k_is)
  (case q4m=>k_keys)
  (case q4n=>k_is)
  (case q4o=>k_keys)
  (case q4p | q4q | q4r | q4s | q4t=>(repeat' first | exact trivial | refine And.intro ?_ ?_ | k_is))
  (case q4u | q4v=>rfl)
  (case q4w | q4x | q4y | q4z | q50=>kit_is)
  (case q51=>(repeat' first | exact trivial | refine And.intro ?_ ?_ | k_is))
  (case q52 | q53 | q54 | q55 | q56 | q57 | q58 | q59 | q5a | q5b | q5c | q5d | q5e | q5f | q5g | q5h | q5i | q5j | q5k | q5l | q5m | q5n | q5o | q5p | q5q=>k_is)
  (case q5r | q5s | q5t | q5u | q5v | q5w | q5x | q5y | q5z | q60 | q61 | q62 | q63 | q64 | q65 | q66 | q67 | q68 | q69 | q6a | q6b | q6c | q6d | q6e | q6f | q6g | q6h | q6i | q6j | q6k | q6l | q6m | q6n | q6o | q6p | q6q=>kit_is)
  (case q6r=>k_exc)
  (case q6s=>kts_exm)
  (case q6t | q6u=>k_is)
  (case q6v=>k_keys)
  (case q6w=>(repeat' first | exact trivial | refine And.intro ?_ ?_ | k_is))
