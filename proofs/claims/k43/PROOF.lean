import PyProof.Rows.All
import Wide.All
import Wide.FinOn
import OpenK.KLine
import KE.RegKIsAll
import KE.KDictOf
import KE.KItem
import KE.LcSums
import KE.KBits
import PyProof.EqAt
import PyProof.EqKinds
import PyProof.TupleCall
import PySem.Challenge.RW_rowbreadth_k43_leaves_made
set_option Elab.async false
set_option linter.all false
set_option maxRecDepth 100000
set_option maxHeartbeats 4000000
def PySem.W.Fast.tw1554647522742136772:Unit:=()
def PySem.W.Fast.tw13860984894118735485:Unit:=()
def PySem.W.Fast.tw8546499118394782277:Unit:=()
def PySem.W.Fast.tw17903429465632700735:Unit:=()
def PySem.W.Fast.tw3864839843772496914:Unit:=()
def PySem.W.Fast.tw1821557589849492809:Unit:=()
def PySem.W.Fast.tw1762698030012150798:Unit:=()
def PySem.W.Fast.tw5387331970937513997:Unit:=()
def PySem.W.Fast.tw4622555497317040733:Unit:=()
def PySem.W.Fast.tw10166105484301575855:Unit:=()
def PySem.W.Fast.tw17867752429337811150:Unit:=()
def PySem.W.Fast.tw190438294897822487:Unit:=()
def PySem.W.Fast.tw2464611402506999209:Unit:=()
def PySem.W.Fast.tw1651988378121881330:Unit:=()
def PySem.W.Fast.tw7785412019692954052:Unit:=()
def PySem.W.Fast.tw9224641536020279400:Unit:=()
def PySem.W.Fast.tw7340100500600288495:Unit:=()
def PySem.W.Fast.tw11833167286658820891:Unit:=()
def PySem.W.Fast.tw4942184160189057431:Unit:=()
def PySem.W.Fast.tw13863596332410631724:Unit:=()
def PySem.W.Fast.tw8000570133313549197:Unit:=()
def PySem.W.Fast.tw18330746677873794450:Unit:=()
def PySem.W.Fast.tw1699270724078591269:Unit:=()
def PySem.W.Fast.tw12121569525471139364:Unit:=()
def PySem.W.Fast.tw6702849532986360953:Unit:=()
def PySem.W.Fast.tw11550712077707995178:Unit:=()
def PySem.W.Fast.tw14886383295316458697:Unit:=()
def PySem.W.Fast.tw17718392265993487528:Unit:=()
def PySem.W.Fast.tw10925892037698605768:Unit:=()
def PySem.W.Fast.tw8662444412415109158:Unit:=()
def PySem.W.Fast.tw5409020781820462942:Unit:=()
def PySem.W.Fast.tw11130324208982148436:Unit:=()
def PySem.W.Fast.tw16101730888583135853:Unit:=()
def PySem.W.Fast.tw9939120941147598608:Unit:=()
def PySem.W.Fast.tw11607914098102365349:Unit:=()
def PySem.W.Fast.tw10551457827825005608:Unit:=()
def PySem.W.Fast.tw17472233153543317831:Unit:=()
def PySem.W.Fast.tw4209995326435917607:Unit:=()
def PySem.W.Fast.tw5071802650368659048:Unit:=()
def PySem.W.Fast.tw15846806189447327159:Unit:=()
def PySem.W.Fast.tw18427274078763334739:Unit:=()
def PySem.W.Fast.tw9774956255952782579:Unit:=()
def PySem.W.Fast.tw6159395330454383150:Unit:=()
def PySem.W.Fast.tw13355357976587004185:Unit:=()
def PySem.W.Fast.tw11211346906296725892:Unit:=()
def PySem.W.Fast.tw5276801827013709278:Unit:=()
def PySem.W.Fast.tw167718339291204801:Unit:=()
def PySem.W.Fast.tw8420600622343224361:Unit:=()
def PySem.W.Fast.tw14936045798184225415:Unit:=()
def PySem.W.Fast.tw16705786490162528508:Unit:=()
def PySem.W.Fast.tw11276005780176990443:Unit:=()
def PySem.W.Fast.tw12623560743087812764:Unit:=()
def PySem.W.Fast.tw5493902208361272247:Unit:=()
def PySem.W.Fast.tw13201592004635639467:Unit:=()
def PySem.W.Fast.tw6737628831374640675:Unit:=()
def PySem.W.Fast.tw98259809809659037:Unit:=()
def PySem.W.Fast.tw8609633024273952163:Unit:=()
def PySem.W.Fast.tw2038144027762419343:Unit:=()
def PySem.W.Fast.tw7631775114220972458:Unit:=()
def PySem.W.Fast.tw17985984265734504529:Unit:=()
def PySem.W.Fast.tw3658736710712553808:Unit:=()
def PySem.W.Fast.tw18230590772508259415:Unit:=()
def PySem.W.Fast.tw5400235328342845008:Unit:=()
def PySem.W.Fast.tw5619757630737226347:Unit:=()
def PySem.W.Fast.tw10995501320117491464:Unit:=()
def PySem.W.Fast.tw16120793846555189456:Unit:=()
def PySem.W.Fast.tw167319147473527248:Unit:=()
def PySem.W.Fast.tw8477341682304608457:Unit:=()
def PySem.W.Fast.tw11326979978755639507:Unit:=()
def PySem.W.Fast.tw13807783688479948682:Unit:=()
def PySem.W.Fast.tw6538631480252054381:Unit:=()
def PySem.W.Fast.tw12589057545010237060:Unit:=()
def PySem.W.Fast.tw6292380360895042104:Unit:=()
def PySem.W.Fast.tw1303516676319002574:Unit:=()
def PySem.W.Fast.tw11880188229143845826:Unit:=()
def PySem.W.Fast.tw14192132442147221038:Unit:=()
def PySem.W.Fast.tw13136251469736136828:Unit:=()
def PySem.W.Fast.tw15381533874098961195:Unit:=()
def PySem.W.Fast.tw7471183377864445899:Unit:=()
def PySem.W.Fast.tw8966279275693522294:Unit:=()
def PySem.W.Fast.tw11807010597707409943:Unit:=()
def PySem.W.Fast.tw8088719101579318598:Unit:=()
def PySem.W.Fast.tw17375691168626036133:Unit:=()
def PySem.W.Fast.tw10225220036288549624:Unit:=()
def PySem.W.Fast.tw5916545045954430934:Unit:=()
def PySem.W.Fast.tw17121863748139338196:Unit:=()
def PySem.W.Fast.tw3577727432630518010:Unit:=()
def PySem.W.Fast.tw5031512483480964667:Unit:=()
def PySem.W.Fast.tw2161798312205362880:Unit:=()
def PySem.W.Fast.tw2452660399104445635:Unit:=()
def PySem.W.Fast.tw17329676969203944680:Unit:=()
def PySem.W.Fast.tw936693392775926033:Unit:=()
def PySem.W.Fast.tw8917140794059041565:Unit:=()
def PySem.W.Fast.tw12389563375276787714:Unit:=()
def PySem.W.Fast.tw3827318395543813777:Unit:=()
def PySem.W.Fast.tw8949999221515114880:Unit:=()
def PySem.W.Fast.tw3724559611974606505:Unit:=()
def PySem.W.Fast.tw15290957012649839726:Unit:=()
def PySem.W.Fast.tw8713077390334960036:Unit:=()
def PySem.W.Fast.tw11476194637791916309:Unit:=()
def PySem.W.Fast.tw14785156618833412122:Unit:=()
def PySem.W.Fast.tw7925411368391995817:Unit:=()
def PySem.W.Fast.tw3134704215597931594:Unit:=()
def PySem.W.Fast.tw8912571272596192580:Unit:=()
def PySem.W.Fast.tw15594025178248243932:Unit:=()
def PySem.W.Fast.tw14755845894040860998:Unit:=()
def PySem.W.Fast.tw14434194802142175110:Unit:=()
def PySem.W.Fast.tw6667195058056832857:Unit:=()
def PySem.W.Fast.tw9948491297747173794:Unit:=()
def PySem.W.Fast.tw15323513746223838593:Unit:=()
def PySem.W.Fast.tw16747444685932895853:Unit:=()
def PySem.W.Fast.tw14694363035206100910:Unit:=()
def PySem.W.Fast.tw13437209546334127040:Unit:=()
def PySem.W.Fast.tw8888835888558141160:Unit:=()
def PySem.W.Fast.tw10594526596346732749:Unit:=()
def PySem.W.Fast.tw5708575158278894528:Unit:=()
def PySem.W.Fast.tw10217317556843783362:Unit:=()
def PySem.W.Fast.tw10095174569158726258:Unit:=()
def PySem.W.Fast.tw13445846160791957507:Unit:=()
def PySem.W.Fast.tw4456761446732364979:Unit:=()
def PySem.W.Fast.tw14041248858821660444:Unit:=()
def PySem.W.Fast.tw14348105152652620823:Unit:=()
def PySem.W.Fast.tw3787222564356983386:Unit:=()
def PySem.W.Fast.tw13928153800417835971:Unit:=()
def PySem.W.Fast.tw16712263868788200097:Unit:=()
def PySem.W.Fast.tw4971074892204281402:Unit:=()
def PySem.W.Fast.tw10311614503950044849:Unit:=()
def PySem.W.Fast.tw12102225621023762070:Unit:=()
def PySem.W.Fast.tw16047414380579447065:Unit:=()
def PySem.W.Fast.tw17634017985290977159:Unit:=()
def PySem.W.Fast.tw6092024811152444014:Unit:=()
def PySem.W.Fast.tw4513102420692104434:Unit:=()
def PySem.W.Fast.tw2462786723500789365:Unit:=()
def PySem.W.Fast.tw11914860965091414774:Unit:=()
def PySem.W.Fast.tw10631318222892711981:Unit:=()
def PySem.W.Fast.tw6508635357066751576:Unit:=()
def PySem.W.Fast.tw17361594252419905135:Unit:=()
def PySem.W.Fast.tw5521181281356536111:Unit:=()
def PySem.W.Fast.tw3180861840887885105:Unit:=()
def PySem.W.Fast.tw6451956401365603903:Unit:=()
def PySem.W.Fast.tw5270760663590765082:Unit:=()
def PySem.W.Fast.tw10236084590925863974:Unit:=()
def PySem.W.Fast.tw17768433419533614218:Unit:=()
def PySem.W.Fast.tw17329576192334937064:Unit:=()
def PySem.W.Fast.tw12727131207246386717:Unit:=()
def PySem.W.Fast.tw4380748510296063346:Unit:=()
def PySem.W.Fast.tw8681374395801229247:Unit:=()
def PySem.W.Fast.tw286796834886281193:Unit:=()
def PySem.W.Fast.tw9388407849879393255:Unit:=()
def PySem.W.Fast.tw15719366667911671681:Unit:=()
def PySem.W.Fast.tw10872806972381772639:Unit:=()
def PySem.W.Fast.tw8362121192651518290:Unit:=()
def PySem.W.Fast.tw2309488688558887412:Unit:=()
def PySem.W.Fast.tw2611974658166776145:Unit:=()
def PySem.W.Fast.tw8319518383423782075:Unit:=()
def PySem.W.Fast.tw10373633811115372926:Unit:=()
def PySem.W.Fast.tw16141544654753753500:Unit:=()
def PySem.W.Fast.tw14869162407850293470:Unit:=()
def PySem.W.Fast.tw13468447003559856249:Unit:=()
def PySem.W.Fast.tw11813883696449493744:Unit:=()
def PySem.W.Fast.tw13605226666167897815:Unit:=()
def PySem.W.Fast.tw4954111121177745936:Unit:=()
def PySem.W.Fast.tw16156212679768971599:Unit:=()
def PySem.W.Fast.tw8293896979960781448:Unit:=()
def PySem.W.Fast.tw5974430706530329924:Unit:=()
def PySem.W.Fast.tw10271286735055291765:Unit:=()
def PySem.W.Fast.tw6345121541408238556:Unit:=()
def PySem.W.Fast.tw8526479647775646565:Unit:=()
def PySem.W.Fast.tw1701663117583871051:Unit:=()
def PySem.W.Fast.tw17677076764381953337:Unit:=()
def PySem.W.Fast.tw14306075967903327187:Unit:=()
def PySem.W.Fast.tw8373454358611942621:Unit:=()
def PySem.W.Fast.tw18154291900496445608:Unit:=()
def PySem.W.Fast.tw16775406686222575112:Unit:=()
def PySem.W.Fast.tw4793944590672043328:Unit:=()
def PySem.W.Fast.tw16593828162121461343:Unit:=()
def PySem.W.Fast.tw364481563232812363:Unit:=()
def PySem.W.Fast.tw17922041713170143397:Unit:=()
def PySem.W.Fast.tw6872992340310594026:Unit:=()
def PySem.W.Fast.tw6673604481624156474:Unit:=()
def PySem.W.Fast.tw5152525677659383488:Unit:=()
def PySem.W.Fast.tw11782395950365766474:Unit:=()
def PySem.W.Fast.tw15945630547846497644:Unit:=()
def PySem.W.Fast.tw15093969854857711810:Unit:=()
def PySem.W.Fast.tw15461179896869293140:Unit:=()
def PySem.W.Fast.tw7516278385133930866:Unit:=()
def PySem.W.Fast.tw8037844866235008910:Unit:=()
def PySem.W.Fast.tw11184170403977414012:Unit:=()
def PySem.W.Fast.tw5507533223069288792:Unit:=()
def PySem.W.Fast.tw8679612431849268273:Unit:=()
def PySem.W.Fast.tw16628683506078924161:Unit:=()
def PySem.W.Fast.tw6335215084296597286:Unit:=()
def PySem.W.Fast.tw12670552855083637157:Unit:=()
def PySem.W.Fast.tw8817789230444655025:Unit:=()
def PySem.W.Fast.tw6864398506749028300:Unit:=()
def PySem.W.Fast.tw9312719296867329195:Unit:=()
def PySem.W.Fast.tw15217001451324505808:Unit:=()
def PySem.W.Fast.tw18019572426407061968:Unit:=()
def PySem.W.Fast.tw16480727468350942487:Unit:=()
def PySem.W.Fast.tw17346292112863846618:Unit:=()
def PySem.W.Fast.tw3457599779462056415:Unit:=()
def PySem.W.Fast.tw15349984152160692272:Unit:=()
def PySem.W.Fast.tw5724580421798768815:Unit:=()
def PySem.W.Fast.tw15524764853826304221:Unit:=()
def PySem.W.Fast.tw5838290075855383935:Unit:=()
def PySem.W.Fast.tw444570042664802316:Unit:=()
def PySem.W.Fast.tw9948247705804427820:Unit:=()
def PySem.W.Fast.tw3217012079637805451:Unit:=()
def PySem.W.Fast.tw8870871019215385360:Unit:=()
def PySem.W.Fast.tw9617080281015226640:Unit:=()
def PySem.W.Fast.tw11343047999310308588:Unit:=()
def PySem.W.Fast.tw3966791684032224946:Unit:=()
def PySem.W.Fast.tw1488490856816948791:Unit:=()
def PySem.W.Fast.tw3763323124070510847:Unit:=()
def PySem.W.Fast.tw13748264726777787422:Unit:=()
def PySem.W.Fast.tw10317562799271875693:Unit:=()
def PySem.W.Fast.tw2610091029851350990:Unit:=()
def PySem.W.Fast.tw11510738159639023411:Unit:=()
def PySem.W.Fast.tw18095635925169415008:Unit:=()
def PySem.W.Fast.tw12171322277528236507:Unit:=()
def PySem.W.Fast.tw14201339100072949835:Unit:=()
def PySem.W.Fast.tw11876051443055778464:Unit:=()
def PySem.W.Fast.tw15393042802620182888:Unit:=()
def PySem.W.Fast.tw17359298587411820107:Unit:=()
def PySem.W.Fast.tw12662393760174128962:Unit:=()
def PySem.W.Fast.tw3563561098707723119:Unit:=()
def PySem.W.Fast.tw12887246876716311653:Unit:=()
def PySem.W.Fast.tw8942448396189615659:Unit:=()
def PySem.W.Fast.tw9322917938491531355:Unit:=()
def PySem.W.Fast.tw393298462827159539:Unit:=()
def PySem.W.Fast.tw12915442611630312158:Unit:=()
def PySem.W.Fast.tw8473767491492773097:Unit:=()
def PySem.W.Fast.tw16614722992263715842:Unit:=()
def PySem.W.Fast.tw14435354868498662741:Unit:=()
def PySem.W.Fast.tw17275802995723102135:Unit:=()
def PySem.W.Fast.tw14449214640647195478:Unit:=()
def PySem.W.Fast.tw17753522328998671529:Unit:=()
def PySem.W.Fast.tw12845993189305337131:Unit:=()
def PySem.W.Fast.tw8061971792066103560:Unit:=()
def PySem.W.Fast.tw1272839182570635311:Unit:=()
def PySem.W.Fast.tw1198967885754438730:Unit:=()
def PySem.W.Fast.tw6601521630007515305:Unit:=()
def PySem.W.Fast.tw8000837250974201860:Unit:=()
def PySem.W.Fast.tw15703987361004585465:Unit:=()
def PySem.W.Fast.tw9981058103377915075:Unit:=()
def PySem.W.Fast.tw8557383771287371347:Unit:=()
def PySem.W.Fast.tw11533870811567611453:Unit:=()
def PySem.W.Fast.tw8148400395199202019:Unit:=()
def PySem.W.Fast.tw13130442917099931645:Unit:=()
def PySem.W.Fast.tw2795528608396728522:Unit:=()
def PySem.W.Fast.tw13415728342037202759:Unit:=()
def PySem.W.Fast.tw17882089523712019750:Unit:=()
def PySem.W.Fast.tw13891946054926477028:Unit:=()
def PySem.W.Fast.tw3825573056920320646:Unit:=()
def PySem.W.Fast.tw6028749348703366749:Unit:=()
def PySem.W.Fast.tw7004306478002434913:Unit:=()
def PySem.W.Fast.tw17664652274695790555:Unit:=()
def PySem.W.Fast.tw2648951935591720501:Unit:=()
def PySem.W.Fast.tw1366906975427058357:Unit:=()
def PySem.W.Fast.tw15592326625356849638:Unit:=()
def PySem.W.Fast.tw15231031723115394532:Unit:=()
def PySem.W.Fast.tw2594131499517507096:Unit:=()
def PySem.W.Fast.tw8246342806299853236:Unit:=()
def PySem.W.Fast.tw7921331754002875249:Unit:=()
def PySem.W.Fast.tw1817318501164225672:Unit:=()
def PySem.W.Fast.tw3535060307231446831:Unit:=()
def PySem.W.Fast.tw15567771980350910307:Unit:=()
def PySem.W.Fast.tw17740295496217272539:Unit:=()
def PySem.W.Fast.tw16263760123102445789:Unit:=()
def PySem.W.Fast.tw13778095649000460906:Unit:=()
def PySem.W.Fast.tw2085869338432375259:Unit:=()
def PySem.W.Fast.tw5960615889871679597:Unit:=()
def PySem.W.Fast.tw4180105043455883661:Unit:=()
def PySem.W.Fast.tw8921954425983849872:Unit:=()
def PySem.W.Fast.tw8296240131138268043:Unit:=()
def PySem.W.Fast.tw18236795613073231742:Unit:=()
def PySem.W.Fast.tw16273116396283534868:Unit:=()
def PySem.W.Fast.tw2886958316827754986:Unit:=()
def PySem.W.Fast.tw8119169318083457108:Unit:=()
def PySem.W.Fast.tw701044689154182253:Unit:=()
def PySem.W.Fast.tw17084589738087122893:Unit:=()
def PySem.W.Fast.tw12631787562021208376:Unit:=()
def PySem.W.Fast.tw11237831822883175102:Unit:=()
def PySem.W.Fast.tw14326828546135492271:Unit:=()
def PySem.W.Fast.tw4046738427397556279:Unit:=()
def PySem.W.Fast.tw15799279969904101850:Unit:=()
def PySem.W.Fast.tw4073743148620679679:Unit:=()
def PySem.W.Fast.tw10129525407684337290:Unit:=()
def PySem.W.Fast.tw14898191037489897227:Unit:=()
def PySem.W.Fast.tw4519879114559677125:Unit:=()
def PySem.W.Fast.tw10370416314465048090:Unit:=()
def PySem.W.Fast.tw5890138005919404318:Unit:=()
def PySem.W.Fast.tw3752496408097566350:Unit:=()
def PySem.W.Fast.tw11254373809096020470:Unit:=()
def PySem.W.Fast.tw18223256837412399465:Unit:=()
def PySem.W.Fast.tw13547074947887388980:Unit:=()
def PySem.W.Fast.tw9688222319945111501:Unit:=()
def PySem.W.Fast.tw6479070358384212806:Unit:=()
def PySem.W.Fast.tw17978212964687166786:Unit:=()
def PySem.W.Fast.tw11197409109502651797:Unit:=()
def PySem.W.Fast.tw16833104112061735229:Unit:=()
def PySem.W.Fast.tw9066133893073173146:Unit:=()
def PySem.W.Fast.tw8609854733987331610:Unit:=()
def PySem.W.Fast.tw10275712952807486132:Unit:=()
def PySem.W.Fast.tw8767815217809598199:Unit:=()
def PySem.W.Fast.tw75260325919265771:Unit:=()
def PySem.W.Fast.tw6124823645061223563:Unit:=()
def PySem.W.Fast.tw10038650572867607930:Unit:=()
def PySem.W.Fast.tw9592560115772302153:Unit:=()
def PySem.W.Fast.tw11388689734962362350:Unit:=()
def PySem.W.Fast.tw16304752433148052655:Unit:=()
def PySem.W.Fast.tw7470205836524160892:Unit:=()
def PySem.W.Fast.tw10751645203125020892:Unit:=()
def PySem.W.Fast.tw6816987832060390926:Unit:=()
def PySem.W.Fast.tw17036949200324885162:Unit:=()
def PySem.W.Fast.tw8676701487670176636:Unit:=()
def PySem.W.Fast.tw5487550406479830642:Unit:=()
def PySem.W.Fast.tw60596822699740292:Unit:=()
def PySem.W.Fast.tw16953184502911522202:Unit:=()
def PySem.W.Fast.tw5946718886551259088:Unit:=()
def PySem.W.Fast.tw9771421179162990830:Unit:=()
def PySem.W.Fast.tw10876920603490499051:Unit:=()
def PySem.W.Fast.tw8663305233846800619:Unit:=()
def PySem.W.Fast.tw16638535866696391184:Unit:=()
def PySem.W.Fast.tw2904026844476696853:Unit:=()
def PySem.W.Fast.tw3589320343238667900:Unit:=()
def PySem.W.Fast.tw11323983448296456429:Unit:=()
def PySem.W.Fast.tw5042677468724212604:Unit:=()
def PySem.W.Fast.tw2784061596304238064:Unit:=()
def PySem.W.Fast.tw15735431538081420448:Unit:=()
def PySem.W.Fast.tw4171791223591086181:Unit:=()
def PySem.W.Fast.tw2004157561786783936:Unit:=()
def PySem.W.Fast.tw13516214117257189993:Unit:=()
def PySem.W.Fast.tw6853755491670645446:Unit:=()
def PySem.W.Fast.tw252143275370284727:Unit:=()
def PySem.W.Fast.tw9236870484736534249:Unit:=()
def PySem.W.Fast.tw3244167797828861881:Unit:=()
def PySem.W.Fast.tw7484180019435283830:Unit:=()
def PySem.W.Fast.tw6958146863373378497:Unit:=()
def PySem.W.Fast.tw14446480621998451125:Unit:=()
def PySem.W.Fast.tw12454433322510901363:Unit:=()
def PySem.W.Fast.tw9315247421851626397:Unit:=()
def PySem.W.Fast.tw5483952931907569106:Unit:=()
def PySem.W.Fast.tw15631359810653048682:Unit:=()
def PySem.W.Fast.tw15699784497052415313:Unit:=()
def PySem.W.Fast.tw11253964065661116493:Unit:=()
def PySem.W.Fast.tw10277822680899668657:Unit:=()
def PySem.W.Fast.tw5921822286266353317:Unit:=()
def PySem.W.Fast.tw15748887866666530447:Unit:=()
def PySem.W.Fast.tw8684868457912650819:Unit:=()
def PySem.W.Fast.tw284540882140600446:Unit:=()
def PySem.W.Fast.tw13137472679678206768:Unit:=()
def PySem.W.Fast.tw8137809691988092115:Unit:=()
def PySem.W.Fast.tw16253949440045297363:Unit:=()
def PySem.W.Fast.tw86032070325234040:Unit:=()
def PySem.W.Fast.tw99449502601153583:Unit:=()
def PySem.W.Fast.tw4888223590023421527:Unit:=()
def PySem.W.Fast.tw5081223965155051290:Unit:=()
def PySem.W.Fast.tw1634206351334189491:Unit:=()
def PySem.W.Fast.tw15850076475273836352:Unit:=()
def PySem.W.Fast.tw1175653619410087521:Unit:=()
def PySem.W.Fast.tw13906678520854126353:Unit:=()
def PySem.W.Fast.tw8372444357584707363:Unit:=()
def PySem.W.Fast.tw3023485988837925695:Unit:=()
def PySem.W.Fast.tw12141652599011230663:Unit:=()
def PySem.W.Fast.tw18192631758565498293:Unit:=()
def PySem.W.Fast.tw12724342523458127792:Unit:=()
def PySem.W.Fast.tw10949020113353873131:Unit:=()
def PySem.W.Fast.tw7470703253676564378:Unit:=()
def PySem.W.Fast.tw328992007332904998:Unit:=()
def PySem.W.Fast.tw214179417718369991:Unit:=()
def PySem.W.Fast.tw3811467350156520053:Unit:=()
def PySem.W.Fast.tw12660654435032280076:Unit:=()
def PySem.W.Fast.tw530322305376053815:Unit:=()
def PySem.W.Fast.tw6343257514236028091:Unit:=()
def PySem.W.Fast.tw10496802620838426668:Unit:=()
def PySem.W.Fast.tw2634349814841558715:Unit:=()
def PySem.W.Fast.tw964590523412134894:Unit:=()
def PySem.W.Fast.tw18358701704120023065:Unit:=()
def PySem.W.Fast.tw16310187846869374575:Unit:=()
def PySem.W.Fast.tw7209686981707337189:Unit:=()
def PySem.W.Fast.tw17116863972757552729:Unit:=()
def PySem.W.Fast.tw4682051872061107741:Unit:=()
def PySem.W.Fast.tw13111718759335435519:Unit:=()
def PySem.W.Fast.tw4739218721216483203:Unit:=()
def PySem.W.Fast.tw9544689630502904286:Unit:=()
def PySem.W.Fast.tw7643774592711743337:Unit:=()
def PySem.W.Fast.tw15368235393246963445:Unit:=()
def PySem.W.Fast.tw9639023714097096507:Unit:=()
def PySem.W.Fast.tw7379623294961795060:Unit:=()
def PySem.W.Fast.tw14759632450187521060:Unit:=()
def PySem.W.Fast.tw2057917161334234105:Unit:=()
def PySem.W.Fast.tw15055591458026970415:Unit:=()
def PySem.W.Fast.tw3194570503036927212:Unit:=()
def PySem.W.Fast.tw4916692771526221334:Unit:=()
def PySem.W.Fast.tw18078567124765143929:Unit:=()
def PySem.W.Fast.tw16358386579427872476:Unit:=()
def PySem.W.Fast.tw5796018268369821631:Unit:=()
def PySem.W.Fast.tw7266532970635399819:Unit:=()
def PySem.W.Fast.tw7081570622165551194:Unit:=()
def PySem.W.Fast.tw5841051652942002528:Unit:=()
def PySem.W.Fast.tw3717372973700184102:Unit:=()
def PySem.W.Fast.tw1300479521756872562:Unit:=()
def PySem.W.Fast.tw3900111376257549282:Unit:=()
def PySem.W.Fast.tw2856673532878825375:Unit:=()
def PySem.W.Fast.tw1347975123289765902:Unit:=()
def PySem.W.Fast.tw673413948520804891:Unit:=()
def PySem.W.Fast.tw18285494219765368331:Unit:=()
def PySem.W.Fast.tw12789577389058743830:Unit:=()
def PySem.W.Fast.tw9720231508104483358:Unit:=()
def PySem.W.Fast.tw30686654488144041:Unit:=()
def PySem.W.Fast.tw14654128704175690992:Unit:=()
def PySem.W.Fast.tw14487685175413556748:Unit:=()
def PySem.W.Fast.tw16584106678245860907:Unit:=()
def PySem.W.Fast.tw1454135906864031825:Unit:=()
def PySem.W.Fast.tw14830062673582512329:Unit:=()
def PySem.W.Fast.tw4877731621873835940:Unit:=()
def PySem.W.Fast.tw7651201519944978389:Unit:=()
def PySem.W.Fast.tw9820587320978860335:Unit:=()
def PySem.W.Fast.tw7570708447985534178:Unit:=()
def PySem.W.Fast.tw4830191860233770254:Unit:=()
def PySem.W.Fast.tw14886762683956869095:Unit:=()
def PySem.W.Fast.tw11005426869282219796:Unit:=()
def PySem.W.Fast.tw13371704231874551517:Unit:=()
def PySem.W.Fast.tw12724480316650024366:Unit:=()
def PySem.W.Fast.tw9020177651551802361:Unit:=()
def PySem.W.Fast.tw7020303219985961579:Unit:=()
def PySem.W.Fast.tw12488395282145589377:Unit:=()
def PySem.W.Fast.tw16009708416427504966:Unit:=()
def PySem.W.Fast.tw3404681078549021555:Unit:=()
def PySem.W.Fast.tw10693559320230596809:Unit:=()
def PySem.W.Fast.tw12422421501580920602:Unit:=()
def PySem.W.Fast.tw3887044847417710750:Unit:=()
def PySem.W.Fast.tw3761919215815837596:Unit:=()
def PySem.W.Fast.tw261574154021410332:Unit:=()
def PySem.W.Fast.tw4693575439661511692:Unit:=()
def PySem.W.Fast.tw9236076559012450777:Unit:=()
def PySem.W.Fast.tw5526017222095172488:Unit:=()
def PySem.W.Fast.tw4050850538604211005:Unit:=()
def PySem.W.Fast.tw13435297911925065220:Unit:=()
def PySem.W.Fast.tw9298346005304543744:Unit:=()
def PySem.W.Fast.tw16358314211516978561:Unit:=()
def PySem.W.Fast.tw13604736875581914680:Unit:=()
def PySem.W.Fast.tw8548210283199563002:Unit:=()
def PySem.W.Fast.tw10248618171844923891:Unit:=()
def PySem.W.Fast.tw11577123457478504422:Unit:=()
def PySem.W.Fast.tw5203134561171325089:Unit:=()
def PySem.W.Fast.tw3687691968714191386:Unit:=()
def PySem.W.Fast.tw699284992590539931:Unit:=()
def PySem.W.Fast.tw14815690960447168466:Unit:=()
def PySem.W.Fast.tw11186510010902458426:Unit:=()
def PySem.W.Fast.tw11575494431306806217:Unit:=()
def PySem.W.Fast.tw16475194014312469904:Unit:=()
def PySem.W.Fast.tw12781382430660643180:Unit:=()
def PySem.W.Fast.tw15448804563247643047:Unit:=()
def PySem.W.Fast.tw13406183093913614971:Unit:=()
def PySem.W.Fast.tw11625634369483676662:Unit:=()
def PySem.W.Fast.tw625767198631983012:Unit:=()
def PySem.W.Fast.tw9025702723366279603:Unit:=()
def PySem.W.Fast.tw12357360460284387976:Unit:=()
def PySem.W.Fast.tw1133704967327798732:Unit:=()
def PySem.W.Fast.tw8657168096113278994:Unit:=()
def PySem.W.Fast.tw16270251905531397036:Unit:=()
def PySem.W.Fast.tw15829150286154748542:Unit:=()
def PySem.W.Fast.tw13637453456282970030:Unit:=()
def PySem.W.Fast.tw12078879745498914290:Unit:=()
def PySem.W.Fast.tw15185899828445235634:Unit:=()
def PySem.W.Fast.tw16482123480517399012:Unit:=()
def PySem.W.Fast.tw15786613110266069015:Unit:=()
def PySem.W.Fast.tw15674166890232459362:Unit:=()
def PySem.W.Fast.tw12116852733993913796:Unit:=()
def PySem.W.Fast.tw131486630423892013:Unit:=()
def PySem.W.Fast.tw8821790426739048031:Unit:=()
def PySem.W.Fast.tw10652378014899575939:Unit:=()
def PySem.W.Fast.tw3782804215700673006:Unit:=()
def PySem.W.Fast.tw7710942824560977200:Unit:=()
def PySem.W.Fast.tw6923297861901833304:Unit:=()
def PySem.W.Fast.tw16617747769871461699:Unit:=()
def PySem.W.Fast.tw2823071412303595278:Unit:=()
def PySem.W.Fast.tw6709224907826407174:Unit:=()
def PySem.W.Fast.tw7710240273098644730:Unit:=()
def PySem.W.Fast.tw10359130024276188850:Unit:=()
def PySem.W.Fast.tw18271690182427943640:Unit:=()
def PySem.W.Fast.tw3747877393633792254:Unit:=()
def PySem.W.Fast.tw10437965380941206065:Unit:=()
def PySem.W.Fast.tw3713712111875783641:Unit:=()
def PySem.W.Fast.tw7443613315467646320:Unit:=()
def PySem.W.Fast.tw12235184072562706164:Unit:=()
def PySem.W.Fast.tw6017791940379050921:Unit:=()
def PySem.W.Fast.tw11019656769352711007:Unit:=()
def PySem.W.Fast.tw163083433518498195:Unit:=()
def PySem.W.Fast.tw17488206328463927411:Unit:=()
def PySem.W.Fast.tw3131487737912962717:Unit:=()
def PySem.W.Fast.tw18171828096947558390:Unit:=()
def PySem.W.Fast.tw3965528358950279447:Unit:=()
def PySem.W.Fast.tw7873642168814297023:Unit:=()
def PySem.W.Fast.tw8442272191535816763:Unit:=()
def PySem.W.Fast.tw5770154705316511122:Unit:=()
def PySem.W.Fast.tw16297777546871635767:Unit:=()
def PySem.W.Fast.tw6414155779844195789:Unit:=()
def PySem.W.Fast.tw7339842064765333978:Unit:=()
def PySem.W.Fast.tw12758493368110101837:Unit:=()
def PySem.W.Fast.tw3337731603599303256:Unit:=()
def PySem.W.Fast.tw541792939850263618:Unit:=()
def PySem.W.Fast.tw14771956874529829257:Unit:=()
def PySem.W.Fast.tw4024380488656499280:Unit:=()
def PySem.W.Fast.tw12869863757881459886:Unit:=()
def PySem.W.Fast.tw2284087854358825416:Unit:=()
def PySem.W.Fast.tw6308906262805421380:Unit:=()
def PySem.W.Fast.tw4245615598814765439:Unit:=()
def PySem.W.Fast.tw11383351084766371162:Unit:=()
def PySem.W.Fast.tw17838096980259499195:Unit:=()
def PySem.W.Fast.tw7274971913400977711:Unit:=()
def PySem.W.Fast.tw15450481119849048221:Unit:=()
def PySem.W.Fast.tw8832776247633463477:Unit:=()
def PySem.W.Fast.tw14304150070066543762:Unit:=()
def PySem.W.Fast.tw6597672023360854066:Unit:=()
def PySem.W.Fast.tw5537878057226518185:Unit:=()
section
open PySem PySem.W
def ckx {α : Type} (a : List α) (i : Nat) : List α := (a.drop i).take 64
def ckv (p : Addr × Obj) : Option Obj := some p.2
theorem ck2 {α β γ : Type} {f : α → γ} {g : β → γ} {a : List α} {b : List β} {i : Nat} (x : (ckx a i).map f = (ckx b i).map g) (y : (a.drop (i + 64)).map f = (b.drop (i + 64)).map g) : (a.drop i).map f = (b.drop i).map g := by
  have h1 : ((a.drop i).take 64 ++ (a.drop i).drop 64).map f = ((b.drop i).take 64 ++ (b.drop i).drop 64).map g := by
    rw [List.map_append, List.map_append, List.drop_drop, List.drop_drop, y]
    exact congrArg (· ++ _) x
  rw [List.take_append_drop, List.take_append_drop] at h1
  exact h1
theorem ck_of {K : Params → Frag} {a : List Addr} (e : ∀ P, a = (K P).map (·.1)) (w : World) (s : Shared) (x : (((((ckx a 0).map s.heap.get?, (ckx a 64).map s.heap.get?), ((ckx a 128).map s.heap.get?, (ckx a 192).map s.heap.get?)), (((ckx a 256).map s.heap.get?, (ckx a 320).map s.heap.get?), ((ckx a 384).map s.heap.get?, (ckx a 448).map s.heap.get?))), ((((ckx a 512).map s.heap.get?, (ckx a 576).map s.heap.get?), ((ckx a 640).map s.heap.get?, (ckx a 704).map s.heap.get?)), (((ckx a 768).map s.heap.get?, (ckx a 832).map s.heap.get?), ((ckx a 896).map s.heap.get?, ((a).drop 960).map s.heap.get?)))) = (((((ckx (K w.params) 0).map ckv, (ckx (K w.params) 64).map ckv), ((ckx (K w.params) 128).map ckv, (ckx (K w.params) 192).map ckv)), (((ckx (K w.params) 256).map ckv, (ckx (K w.params) 320).map ckv), ((ckx (K w.params) 384).map ckv, (ckx (K w.params) 448).map ckv))), ((((ckx (K w.params) 512).map ckv, (ckx (K w.params) 576).map ckv), ((ckx (K w.params) 640).map ckv, (ckx (K w.params) 704).map ckv)), (((ckx (K w.params) 768).map ckv, (ckx (K w.params) 832).map ckv), ((ckx (K w.params) 896).map ckv, (((K w.params)).drop 960).map ckv))))) : InK K w s.heap :=
  InK.of e w s (ck2 (congrArg (·.1.1.1.1) x) (ck2 (congrArg (·.1.1.1.2) x) (ck2 (congrArg (·.1.1.2.1) x) (ck2 (congrArg (·.1.1.2.2) x) (ck2 (congrArg (·.1.2.1.1) x) (ck2 (congrArg (·.1.2.1.2) x) (ck2 (congrArg (·.1.2.2.1) x) (ck2 (congrArg (·.1.2.2.2) x) (ck2 (congrArg (·.2.1.1.1) x) (ck2 (congrArg (·.2.1.1.2) x) (ck2 (congrArg (·.2.1.2.1) x) (ck2 (congrArg (·.2.1.2.2) x) (ck2 (congrArg (·.2.2.1.1) x) (ck2 (congrArg (·.2.2.1.2) x) (ck2 (congrArg (·.2.2.2.1) x) (congrArg (·.2.2.2.2) x))))))))))))))))
local macro_rules
  | `(tactic| refine $h:ident (q := $q) (loose := $l) (Xt := $x) (XP := $xp) (Yf := $_:ident ($_:ident $k $a $e)) (Ya := $_) (YP := $_) (N := $n) $hl $_ $_ $rest*) => `(tactic| refine $h (q := $q) (loose := $l) (Xt := $x) (XP := $xp) (Yf := fun s => (((((ckx $a 0).map s.heap.get?, (ckx $a 64).map s.heap.get?), ((ckx $a 128).map s.heap.get?, (ckx $a 192).map s.heap.get?)), (((ckx $a 256).map s.heap.get?, (ckx $a 320).map s.heap.get?), ((ckx $a 384).map s.heap.get?, (ckx $a 448).map s.heap.get?))), ((((ckx $a 512).map s.heap.get?, (ckx $a 576).map s.heap.get?), ((ckx $a 640).map s.heap.get?, (ckx $a 704).map s.heap.get?)), (((ckx $a 768).map s.heap.get?, (ckx $a 832).map s.heap.get?), ((ckx $a 896).map s.heap.get?, (($a).drop 960).map s.heap.get?))))) (Ya := fun w => (((((ckx ($k w.params) 0).map ckv, (ckx ($k w.params) 64).map ckv), ((ckx ($k w.params) 128).map ckv, (ckx ($k w.params) 192).map ckv)), (((ckx ($k w.params) 256).map ckv, (ckx ($k w.params) 320).map ckv), ((ckx ($k w.params) 384).map ckv, (ckx ($k w.params) 448).map ckv))), ((((ckx ($k w.params) 512).map ckv, (ckx ($k w.params) 576).map ckv), ((ckx ($k w.params) 640).map ckv, (ckx ($k w.params) 704).map ckv)), (((ckx ($k w.params) 768).map ckv, (ckx ($k w.params) 832).map ckv), ((ckx ($k w.params) 896).map ckv, ((($k w.params)).drop 960).map ckv))))) (YP := InK $k) (N := $n) $hl (ck_of $e) InK.keeps $rest*)
open PyProof.Rows
set_option maxRecDepth 100000 in
set_option maxHeartbeats 0 in
open_top K43hd for PySem.Challenge.rw_rowbreadth_k43_leaves_made
end
namespace L2
open PySem PySem.Spec PyProof.Rows
abbrev Key:=Sum Int Str
def XG:Key->Value->Bool
 | .inl k,v=>Value.isInt k v
 | .inr x,v=>Value.isStrOf x v
def keyH (w:World):Key->Int
 | .inl k=>hashInt k
 | .inr x=>hashStr w x
theorem yw:∀ {k:Key} {v:Value},XG k v=true->(∃ i t,k=Sum.inl i/\v=Value.int i t)∨(∃ x t,k=Sum.inr x/\v=Value.str x t)
 | .inl i,v,h=>by
  obtain ⟨t,e⟩:=Value.isInt_shape (k:=i) (v:=v) h;exact .inl ⟨i,t,rfl,e⟩
 | .inr x,v,h=>by
  obtain ⟨t,e⟩:=Value.isStrOf_shape (x:=x) (v:=v) h;exact .inr ⟨x,t,rfl,e⟩
theorem keyIs_int (i:Int) (t:Tok):XG (.inl i) (.int i t)=true:=by simp [XG,Value.isInt]
theorem keyIs_str (x:Str) (t:Tok):XG (.inr x) (.str x t)=true:=by simp [XG,Value.isStrOf]
theorem key_ll (a b:Int):decide ((Sum.inl a:Key)=Sum.inl b)=(a == b):=by
 by_cases e:a=b
 ·subst e;simp
 ·have h:¬ (Sum.inl a:Key)=Sum.inl b:=fun q=>e (Sum.inl.inj q)
  rw [decide_eq_false h];exact (beq_eq_false_iff_ne.mpr e).symm
theorem key_rr (a b:Str):decide ((Sum.inr a:Key)=Sum.inr b)=decide (a=b):=by
 by_cases e:a=b
 ·subst e;simp
 ·have h:¬ (Sum.inr a:Key)=Sum.inr b:=fun q=>e (Sum.inr.inj q)
  rw [decide_eq_false h,decide_eq_false e]
theorem key_lr (a:Int) (b:Str):decide ((Sum.inl a:Key)=Sum.inr b)=false:=decide_eq_false (fun q=>nomatch q)
theorem key_rl (a:Str) (b:Int):decide ((Sum.inr a:Key)=Sum.inl b)=false:=decide_eq_false (fun q=>nomatch q)
def yc (prog:Program) (w:World):PySem.KeyKind prog w Key where
 is:=XG
 hash:=keyH w
 inj:=fun v a b ha hb=>by
  rcases yw ha with ⟨i,t,rfl,rfl⟩ | ⟨x,t,rfl,rfl⟩
  ·rcases yw hb with ⟨j,u,rfl,e⟩ | ⟨y,u,rfl,e⟩
   ·injection e with e1 _;rw [e1]
   ·exact nomatch e
  ·rcases yw hb with ⟨j,u,rfl,e⟩ | ⟨y,u,rfl,e⟩
   ·exact nomatch e
   ·injection e with e1 _;rw [e1]
 byValue:=fun k v h=>by
  rcases yw h with ⟨i,t,rfl,rfl⟩ | ⟨x,t,rfl,rfl⟩ <;> rfl
 pyHash:=fun hv h=>by
  rcases yw hv with ⟨i,t,rfl,rfl⟩ | ⟨x,t,rfl,rfl⟩
  ·exact wpAny_pyHash_int h
  ·exact wpAny_pyHash_str h
 eqBool:=fun hu hv h=>by
  rcases yw hu with ⟨i,t,rfl,rfl⟩ | ⟨x,t,rfl,rfl⟩
  ·rcases yw hv with ⟨j,u,rfl,rfl⟩ | ⟨y,u,rfl,rfl⟩
   ·rw [key_ll] at h;exact wpAny_eqBool_int h
   ·rw [key_lr] at h;exact SeqAt.EqAt.int_str i t y u _ _ _ _ h
  ·rcases yw hv with ⟨j,u,rfl,rfl⟩ | ⟨y,u,rfl,rfl⟩
   ·rw [key_rl] at h;exact SeqAt.EqAt.str_int x t j u _ _ _ _ h
   ·rw [key_rr] at h;exact wpAny_eqBool_str h
 «strs»:=fun k x t v h=>by
  rcases yw h with ⟨i,u,rfl,e⟩ | ⟨y,u,rfl,e⟩
  ·exact nomatch e
  ·injection e with e1 _
   subst e1;cases v <;> rfl
theorem zgi (prog:Program) (w:World) (i:Int) (t:Tok):(yc prog w).is (.inl i) (.int i t)=true:=keyIs_int i t
theorem zgh (prog:Program) (w:World) (x:Str) (t:Tok):(yc prog w).is (.inr x) (.str x t)=true:=keyIs_str x t
inductive V where
 | non | bl (b:Bool) | int (i:Int) | str (x:Str) | byt (b:Array UInt8) | flt (b:UInt64) | ref (a:Addr) | ty (n:String)
 deriving DecidableEq
def RelV:V->Value->Prop
 | .non,u=>u=Value.none
 | .bl b,u=>u=Value.bool b
 | .int i,u=>∃ t,u=Value.int i t
 | .str x,u=>∃ t,u=Value.str x t
 | .byt b,u=>∃ t,u=Value.bytes b t
 | .flt b,u=>∃ t,u=Value.float b t
 | .ref a,u=>u=Value.ref a
 | .ty n,u=>u=Value.type n
abbrev Vals:List V->List Value->Prop:=Paired RelV
theorem Vals.length {xs:List V} {us:List Value} (r:Vals xs us):xs.length=us.length:=Paired.length r
theorem Vals.get:∀ {xs:List V} {us:List Value} {i:Nat} {x:V},Vals xs us->xs[i]?=some x->∃ u,us[i]?=some u/\RelV x u
 | _,_,_,_,.nil,e=>by simp at e
 | _,_,0,_,.cons r _,e=>by simp at e;subst e;exact ⟨_,rfl,r⟩
 | _,_,i+1,x,.cons _ t,e=>by
  obtain ⟨u,h1,h2⟩:=Vals.get (i:=i) (x:=x) t (by simpa using e);exact ⟨u,by simpa using h1,h2⟩
theorem Vals.set {x:V} {u:Value} (r:RelV x u):∀ {xs:List V} {us:List Value} (i:Nat),Vals xs us->Vals (xs.set i x) (us.set i u)
 | _,_,_,.nil=>.nil
 | _,_,0,.cons _ t=>.cons r t
 | _,_,i+1,.cons q t=>.cons q (Vals.set r i t)
theorem Vals.append:∀ {xs ys:List V} {us ws:List Value},Vals xs us->Vals ys ws->Vals (xs++ys) (us++ws)
 | _,_,_,_,.nil,s=>s
 | _,_,_,_,.cons r t,s=>.cons r (Vals.append t s)
theorem Vals.take:∀ {xs:List V} {us:List Value} (n:Nat),Vals xs us->Vals (xs.take n) (us.take n)
 | _,_,0,_=>.nil
 | _,_,_+1,.nil=>.nil
 | _,_,n+1,.cons r t=>.cons r (Vals.take n t)
theorem Vals.drop:∀ {xs:List V} {us:List Value} (n:Nat),Vals xs us->Vals (xs.drop n) (us.drop n)
 | _,_,0,r=>r
 | _,_,_+1,.nil=>.nil
 | _,_,n+1,.cons _ t=>Vals.drop n t
def RelO:Option V->Option Value->Prop
 | some v,some u=>RelV v u
 | none,none=>True
 | _,_=>False
def KV {κ:Type}:List (κ×V)->List (κ×Value)->Prop:=Paired fun (p:κ×V) (q:κ×Value)=>p.1=q.1/\RelV p.2 q.2
def kV:Key->V
 | .inl i=>.int i
 | .inr x=>.str x
inductive HO where
  | lst (xs:List V)
  | tup (xs:List V)
  | dK (kvs:List (Key×V)) | dT (kvs:List (List Key×V))
  | set (S:Int->Bool) (n:Nat)
  | ins (C dx:Addr) (fs:List (Str×V))
  | own (x:Addr)
  | xd (fs:List (Str×V))
  | met (f x:Addr)
  | rng (lo hi:Int)
  | frz (o:Obj) (u:HO)
  | tbl (ps:Array Value)
  | ext (φ:Heap->Prop)
abbrev Hp:=Addr->Option HO
def upd (H:Hp) (a:Addr) (o:HO):Hp:=fun b=>if b=a then some o else H b
theorem zh {H:Hp} {a:Addr} {o:HO}:upd H a o a=some o:=by unfold upd;rw [if_pos rfl]
theorem zm {H:Hp} {a b:Addr} {o:HO} (h:b≠a):upd H a o b=H b:=by unfold upd;rw [if_neg h]
theorem ne_of {H:Hp} {a b:Addr} {o u:HO} (h:H a=some o) (h':H b=some u) (d:o≠u):a≠b:=by
 intro e;subst e;rw [h] at h';exact d (Option.some.inj h')
theorem zv {H:Hp} {a b:Addr} {o:HO} (h:H a=some o) (h':H b=none):a≠b:=by
 intro e;subst e;rw [h] at h';cases h'
section
variable (P:Program) (w:World)
def ObjOk (H:Hp) (h:Heap) (a:Addr):HO->Prop
 | .lst xs=>xs.length<=sizeLine/\∃ (its:List Value) (n:Nat),Vals xs its/\h.get? a=some { cls:=.type "list",data:=.seq its.toArray n }
 | .tup xs=>xs.length<=sizeLine/\∃ its:List Value,Vals xs its/\IsTup h a its.toArray
 | .dK kvs=>kvs.length<=sizeLine/\(a == sysModules)=false/\∃ vs,KV kvs vs/\h.DictOf (yc P w) a vs
 | .dT kvs=>kvs.length<=sizeLine/\(a == sysModules)=false/\∃ xs:List (List Key×Addr×Value),
   Paired (fun (p:List Key×V) (q:List Key×Addr×Value)=>p.1=q.1/\H q.2.1=some (.tup (p.1.map kV))/\RelV p.2 q.2.2) kvs xs /\
   ∃ o es ep,h.get? a=some o/\o.ExactDict/\o.data=.dict es ep/\es.toList=xs.map (entryOfKey (tupleKind (yc P w)))/\(xs.map (·.1)).Nodup
 | .set S n=>h.SetOf (intKind P w) a S n
 | .ins C dx fs=>H dx=some (.own a)/\fs.length<=1000/\dx≠a/\h.get? a=some (PySem.W.instObj C dx) /\
   ∃ mA,h.Ns1 dx mA/\(∀ f,RelO (fs.lookup f) (mA f))/\PySem.Within mA (fs.map (·.1))
 | .own _=>∃ o,h.get? a=some o
 | .xd fs=>∃ mA,h.Ns1 a mA/\∀ f,RelO (fs.lookup f) (mA f)
 | .rng lo hi=>∃ t u v,h.get? a=some { cls:=.type "range",data:=.fields #[.int lo t,.int hi u,.int 1 v] }
 | .frz o u=>h.get? a=some o/\ObjOk H h a u
 | .tbl ps=>h.get? a=some { cls:=.none,data:=.fields ps }
 | .met f x=>h.get? a=some (PySem.W.methodObj (.ref f) (.ref x))
 | .ext φ=>φ h/\(∃ o,h.get? a=some o)/\∀ h1 h2:Heap,φ h1->(∀ o,h1.get? a=some o->h2.get? a=some o)->φ h2
def HOk (H:Hp) (h:Heap):Prop:=∀ a o,H a=some o->ObjOk P w H h a o
end
section
variable {P:Program} {w:World} {H H':Hp} {h h':Heap} {a:Addr} {o:HO}
theorem ObjOk.lt (x:ObjOk P w H h a o):a<h.objs.size:=by
 cases o with
 | lst xs=>obtain ⟨_,_,_,_,e⟩:=x;exact Heap.lt_size e
 | tup xs=>obtain ⟨_,_,_,p⟩:=x;exact p.lt
 | dK kvs=>obtain ⟨_,_,_,_,o,_,_,e,_⟩:=x;exact Heap.lt_size e
 | dT kvs=>obtain ⟨_,_,_,_,o,_,_,e,_⟩:=x;exact Heap.lt_size e
 | set S n=>obtain ⟨o,_,_,_,e,_⟩:=x;exact Heap.lt_size e
 | ins C dx fs=>obtain ⟨_,_,_,e,_⟩:=x;exact Heap.lt_size e
 | own y=>obtain ⟨_,e⟩:=x;exact Heap.lt_size e
 | xd fs=>obtain ⟨_,⟨_,_,_,e,_⟩,_⟩:=x;exact Heap.lt_size e
 | rng lo hi=>obtain ⟨_,_,_,e⟩:=x;exact Heap.lt_size e
 | frz ob u=>obtain ⟨e,_⟩:=x;exact Heap.lt_size e
 | tbl ps=>exact Heap.lt_size (show h.get? a=some _ from x)
 | met f y=>exact Heap.lt_size (show h.get? a=some _ from x)
 | ext φ=>obtain ⟨_,⟨_,e⟩,_⟩:=x;exact Heap.lt_size e
theorem Paired.mapP {α β:Type} {F G:α->β->Prop}:∀ {l₁:List α} {l₂:List β},Paired F l₁ l₂->(∀ a b,F a b->G a b)->Paired G l₁ l₂
 | _,_,.nil,_=>.nil
 | _,_,.cons r t,f=>.cons (f _ _ r) (Paired.mapP t f)
theorem ObjOk.stay (x:ObjOk P w H h a o) (k:∀ b u,(b=a∨H b=some (.own a))->h.get? b=some u->h'.get? b=some u)
  (ho:∀ b,H b=some (.own a)->H' b=some (.own a)) (ht:∀ b xs,H b=some (.tup xs)->H' b=some (.tup xs)):ObjOk P w H' h' a o:=by
 induction o with
 | lst xs=>obtain ⟨z,its,n,r,e⟩:=x;exact ⟨z,its,n,r,k _ _ (.inl rfl) e⟩
 | tup xs=>obtain ⟨z,its,r,ob,e,c⟩:=x;exact ⟨z,its,r,ob,k _ _ (.inl rfl) e,c⟩
 | dK kvs=>obtain ⟨z,y,vs,r,ob,es,ep,e,c⟩:=x;exact ⟨z,y,vs,r,ob,es,ep,k _ _ (.inl rfl) e,c⟩
 | dT kvs =>
  obtain ⟨z,y,xs,r,ob,es,ep,e,c⟩:=x;exact ⟨z,y,xs,Paired.mapP r fun p q z=>⟨z.1,ht _ _ z.2.1,z.2.2⟩,ob,es,ep,k _ _ (.inl rfl) e,c⟩
 | set S n=>obtain ⟨ob,es,ep,t,e,c⟩:=x;exact ⟨ob,es,ep,t,k _ _ (.inl rfl) e,c⟩
 | ins C dx fs =>
  obtain ⟨d,z,ne,e,mA,⟨od,es,ep,e2,c⟩,r⟩:=x;exact ⟨ho _ d,z,ne,k _ _ (.inl rfl) e,mA,⟨od,es,ep,k _ _ (.inr d) e2,c⟩,r⟩
 | own y=>obtain ⟨ob,e⟩:=x;exact ⟨ob,k _ _ (.inl rfl) e⟩
 | xd fs=>obtain ⟨mA,⟨od,es,ep,e,c⟩,r⟩:=x;exact ⟨mA,⟨od,es,ep,k _ _ (.inl rfl) e,c⟩,r⟩
 | rng lo hi=>obtain ⟨t,u,v,e⟩:=x;exact ⟨t,u,v,k _ _ (.inl rfl) e⟩
 | frz ob u ih=>obtain ⟨e,q⟩:=x;exact ⟨k _ _ (.inl rfl) e,ih q⟩
 | tbl ps =>
  have e:h.get? a=some { cls:=.none,data:=.fields ps }:=x;show h'.get? a=some { cls:=.none,data:=.fields ps };exact k a _ (.inl rfl) e
 | met f y =>
  have e:h.get? a=some (PySem.W.methodObj (.ref f) (.ref y)):=x;show h'.get? a=some (PySem.W.methodObj (.ref f) (.ref y));exact k a _ (.inl rfl) e
 | ext φ=>obtain ⟨p,⟨o,e⟩,st⟩:=x;exact ⟨st _ _ p fun o q=>k _ _ (.inl rfl) q,⟨o,k _ _ (.inl rfl) e⟩,st⟩
theorem HOk.lt (x:HOk P w H h) (e:H a=some o):a<h.objs.size:=(x a o e).lt
theorem HOk.fresh (x:HOk P w H h) (e:h.objs.size<=a):H a=none:=by
 cases q:H a with
 | none=>rfl
 | some u=>exact absurd (Nat.lt_of_lt_of_le (x.lt q) e) (Nat.lt_irrefl _)
theorem HOk.kept (x:HOk P w H h) (k:∀ b u,h.get? b=some u->h'.get? b=some u):HOk P w H h':=fun a o e =>
 (x a o e).stay (fun b u _ q=>k b u q) (fun _ q=>q) fun _ _ q=>q
theorem HOk.laid (x:HOk P w H h) (k:∀ b u,h.get? b=some u->h'.get? b=some u) (hp:h.objs.size<=a) (new:ObjOk P w (upd H a o) h' a o):HOk P w (upd H a o) h':=fun b u e=>by
 have hn:=x.fresh hp;by_cases hb:b=a
 ·subst hb;rw [zh] at e;cases e;exact new
 ·rw [zm hb] at e
  exact (x b u e).stay (fun c v _ q=>k c v q) (fun c q=>by rw [zm (zv q hn)];exact q) fun c xs q=>by rw [zm (zv q hn)];exact q
end
def Rd (H:Hp) (a:Addr) (u:HO):Prop:=H a=some u∨∃ o,H a=some (.frz o u)
theorem Rd.ok {P:Program} {w:World} {H:Hp} {h:Heap} {a:Addr} {u:HO} (r:Rd H a u) (x:HOk P w H h):ObjOk P w H h a u:=by
 rcases r with r | ⟨o,r⟩
 ·exact x a u r
 ·obtain ⟨_,q⟩:=x a _ r
  exact q
def Mut:Option HO->Prop
 | some (.lst _)=>True
 | some (.dK _)=>True
 | some (.dT _)=>True
 | some (.set _ _)=>True
 | some (.ins _ _ _)=>True
 | some (.ext _)=>True
 | _=>False
section
variable {P:Program} {w:World} {H:Hp} {h h':Heap} {x e:Addr} {o':HO}
theorem HOk.write (ok:HOk P w H h) (mu:Mut (H x)) (he:e=x∨H e=some (.own x)) (k:∀ b u,b≠e->h.get? b=some u->h'.get? b=some u) (heo:∃ u,h'.get? e=some u)
  (new:ObjOk P w (upd H x o') h' x o'):HOk P w (upd H x o') h':=fun b u q=>by
 have nown:∀ c y,H c=some (.own y)->c≠x:=fun c y r z=>by subst z;rw [r] at mu;exact mu
 have ntup:∀ c xs,H c=some (.tup xs)->c≠x:=fun c xs r z=>by subst z;rw [r] at mu;exact mu
 by_cases hb:b=x
 ·subst hb;rw [zh] at q;cases q;exact new
 ·rw [zm hb] at q
  by_cases hbe:b=e
  ·have q':H b=some (.own x):=by
    rcases he with z | z
    ·exact absurd (hbe.trans z) hb
    ·rw [hbe];exact z
   rw [q] at q';cases q';obtain ⟨v,hv⟩:=heo;exact ⟨v,by rw [hbe];exact hv⟩
  ·refine (ok b u q).stay (fun c v hc r=>k c v ?_ r) (fun c r=>by rw [zm (nown c b r)];exact r) fun c xs r=>by rw [zm (ntup c xs r)];exact r
   rcases hc with rfl | hc
   ·exact hbe
   ·rintro rfl
    rcases he with z | z
    ·exact nown c b hc z
    ·rw [hc] at z;cases z;exact hb rfl
end
structure Un (fs ex:List Addr) (H H':Hp) (h h':Heap):Prop where
 keep:∀ b o,h.get? b=some o->H b=none->b ∉ fs->b ∉ ex->h'.get? b=some o
 slot:∀ b o,h.get? b=some o->H b=none->b∈fs->b ∉ ex->∃ sl,h'.get? b=some { o with slots:=sl }
 free:∀ b o,h.get? b=some o->H b=none->b ∉ ex->H' b=none
 there:∀ b o,h.get? b=some o->b ∉ ex->∃ o',h'.get? b=some o'
 tups:∀ b xs,H b=some (.tup xs)->H' b=some (.tup xs)
 frzs:∀ b o u,H b=some (.frz o u)->H' b=some (.frz o u)
 tbls:∀ b ps,H b=some (.tbl ps)->∃ more,H' b=some (.tbl (ps++more))
section
variable {fs fs' ex ex':List Addr} {H H1 H2:Hp} {h h1 h2 h':Heap} {a x e:Addr} {o:HO}
theorem Un.any (u:Un fs ex H H1 h h1) {b:Addr} {ob:Obj} (q:h.get? b=some ob) (n:H b=none) (hx:b ∉ ex):∃ sl,h1.get? b=some { ob with slots:=sl }:=by
 by_cases hb:b∈fs
 ·exact u.slot b ob q n hb hx
 ·exact ⟨ob.slots,u.keep b ob q n hb hx⟩
theorem Un.kept (k:∀ b u,h.get? b=some u->h'.get? b=some u):Un fs ex H H h h' :=
 ⟨fun b ob q _ _ _=>k b ob q,fun b ob q _ _ _=>⟨ob.slots,k b ob q⟩,fun _ _ _ n _=>n,fun b ob q _=>⟨ob,k b ob q⟩,fun _ _ q=>q,fun _ _ _ q=>q,fun _ ps q=>⟨#[],by rw [q];simp⟩⟩
theorem Un.refl:Un fs ex H H h h:=Un.kept fun _ _ q=>q
theorem Un.laid (k:∀ b u,h.get? b=some u->h'.get? b=some u) (hp:h.objs.size<=a) (hn:H a=none):Un fs ex H (upd H a o) h h' where
 keep:=fun b u q _ _ _=>k b u q
 slot:=fun b u q _ _ _=>⟨u.slots,k b u q⟩
 free:=fun b u q n _=>by rw [zm (Nat.ne_of_lt (Nat.lt_of_lt_of_le (Heap.lt_size q) hp))];exact n
 there:=fun b u q _=>⟨u,k b u q⟩
 tups:=fun b xs q=>by rw [zm (zv q hn)];exact q
 frzs:=fun b u xs q=>by rw [zm (zv q hn)];exact q
 tbls:=fun b ps q=>⟨#[],by rw [zm (zv q hn),q];simp⟩
theorem Un.write (mu:Mut (H x)) (he:e=x∨H e=some (.own x)) (k:∀ b u,b≠e->h.get? b=some u->h'.get? b=some u) (heo:∃ u,h'.get? e=some u):Un fs ex H (upd H x o) h h':=by
 have hx:∀ b,H b=none->b≠x:=fun b n z=>by subst z;rw [n] at mu;exact mu
 have hb:∀ b,H b=none->b≠e:=fun b n z=>by
  subst z;rcases he with r | r
  ·exact hx b n r
  ·rw [n] at r;cases r
 have hm:∀ b u,H b=some u->¬ Mut (some u)->b≠x:=fun b u q nm z=>by subst z;rw [q] at mu;exact nm mu
 refine ⟨fun b u q n _ _=>k b u (hb b n) q,fun b u q n _ _=>⟨u.slots,k b u (hb b n) q⟩,fun b u q n _=>by rw [zm (hx b n)];exact n,fun b u q _=>?_,
  fun b xs q=>by rw [zm (hm b _ q fun z=>z)];exact q,fun b u xs q=>by rw [zm (hm b _ q fun z=>z)];exact q,fun b ps q=>⟨#[],by rw [zm (hm b _ q fun z=>z),q];simp⟩⟩
 by_cases hbe:b=e
 ·subst hbe;exact heo
 ·exact ⟨u,k b u hbe q⟩
end
def trk (h:Heap) (H:Hp):List Addr:=(List.range h.objs.size).filter fun a=>(H a).isSome
def hidT (h:Heap) (H:Hp):Heap:=PySem.W.hideAll h (trk h H)
theorem hidT_size (h:Heap) (H:Hp):(hidT h H).objs.size=h.objs.size:=PySem.W.hideAll_size _ _
theorem hidT_get {h:Heap} {H:Hp} {b:Addr} {o:Obj} (e:h.get? b=some o) (n:H b=none):(hidT h H).get? b=some o :=
 PySem.W.hideAll_get _ e fun hm=>by
  have q:(H b).isSome=true:=(List.mem_filter.mp hm).2;rw [n] at q;simp at q
theorem of_hidT {h:Heap} {H:Hp} {b:Addr} {o:Obj} (e:(hidT h H).get? b=some o):h.get? b=some o/\H b=none:=by
 have e':h.get? b=some o:=PySem.W.of_hideAll (trk h H) e;refine ⟨e',?_⟩
 cases q:H b with
 | none=>rfl
 | some x =>
  have hm:b∈trk h H:=List.mem_filter.mpr ⟨List.mem_range.mpr (Heap.lt_size e'),by simp [q]⟩;have z:(hidT h H).get? b=none:=PySem.W.hideAll_none (trk h H) hm;rw [z] at e;cases e
def Yc (g h:Heap) (L:Addr):List (Addr×Obj):=(List.range h.objs.size).filterMap fun a=>if a=L∨(g.get? a).isSome=true then none else (h.get? a).map fun o=>(a,o)
theorem zgj {g h:Heap} {L a:Addr} {o:Obj} (h1:a≠L) (h2:g.get? a=none) (h3:h.get? a=some o):(a,o)∈Yc g h L :=
 List.mem_filterMap.mpr ⟨a,List.mem_range.mpr (Heap.lt_size h3),by simp [h1,h2,h3]⟩
theorem Y6 {g h:Heap} {L:Addr} {p:Addr×Obj} (hp:p∈Yc g h L):p.1≠L/\g.get? p.1=none/\h.get? p.1=some p.2:=by
 obtain ⟨b,_,e⟩:=List.mem_filterMap.mp hp
 split at e
 ·cases e
 ·rename_i hn
  cases q:h.get? b with
  | none=>rw [q] at e;simp at e
  | some u =>
   rw [q] at e;simp only [Option.map_some,Option.some.injEq] at e;subst e;refine ⟨fun z=>hn (.inl z),?_,q⟩;show g.get? b=none
   cases r:g.get? b with
   | none=>rfl
   | some v=>exact (hn (.inr (by simp [r]))).elim
def rest (g h:Heap) (L d:Addr):List (Addr×Obj):=(Yc g h L).filter fun p=>decide (p.1≠d)
theorem news_all {g h:Heap} {L:Addr}:News g L h (Yc g h L):=fun p hp=>let ⟨a,b,c⟩:=Y6 hp;⟨c,a,b⟩
structure Mod (K:PySem.W.Frag) (mg:Str->Option Value) (base:Heap):Prop where
 kin:K.In base
 glob:base.Ns mainGlobals mg
 blt:∃ mb,base.Ns builtinsNs mb/\∀ x:Str,x≠"__name__"->mb x=bootBuiltins x
 nolimit:base.NoLimit
structure Cx where
 prog:Program
 w:World
 K:PySem.W.Frag
 mg:Str->Option Value
 base:Heap
 A:Around
 N:List Str
 s₀:Shared
 H₀:Hp
 env:Env
 outer:List Env
 stack:List Env
 ex:List Addr
 fn:Str->Bool
 calm:Bool
 pn:List (Addr×Obj)
 xe:Value->Shared->Prop
def frs (l:List Env):List Addr:=l.filterMap (·.frame)
abbrev Cx.fs (X:Cx):List Addr:=frs X.outer
def Vis (sc:Scope) (x:Str):Prop:=sc.names.lookup x=some .local∨sc.names.lookup x=some .cell∨sc.names.lookup x=some .free
def Loc (sc:Scope) (x:Str):Prop:=sc.names.lookup x=some .local∨sc.names.lookup x=some .cell
def Look (env:Env) (h:Heap) (m:Str->Option Value) (x:Str) (u:Value):Prop :=
 (env.kindOf x=some .local/\m x=some u)∨((env.kindOf x=some .cell∨env.kindOf x=some .free)/\∃ c,env.cells.lookup x=some c/\h.IsCell c (some u))
structure Cx.Ok (X:Cx):Prop where
 mod:Mod X.K X.mg X.base
 kind:X.env.scope.kind=.function
 glob:X.env.globals=mainGlobals
 blt:X.env.builtins=builtinsNs
 above:X.s₀.heap.objs.size<=X.env.locals
 inj:∀ x y c,X.env.cells.lookup x=some c->X.env.cells.lookup y=some c->x=y
 has:∀ x,(X.env.kindOf x=some .cell∨X.env.kindOf x=some .free)->∃ c,X.env.cells.lookup x=some c
 cab:∀ x c,X.fn x=true->X.env.cells.lookup x=some c->X.s₀.heap.objs.size<=c
 hd:X.calm=true->X.A.handled=none
 frames:X.A.frames=some X.stack
 stk:X.stack=X.outer∨(X.stack=X.env::X.outer/\X.env.frame=some X.env.locals)
 exf:∀ b∈X.ex,b≠X.env.locals/\∀ x c,X.env.cells.lookup x=some c->c≠b
 bs:∀ b o,X.base.get? b=some o->X.s₀.heap.get? b=some o/\X.H₀ b=none
 bsz:X.base.objs.size<=X.s₀.heap.objs.size
 noex:∀ b o,X.base.get? b=some o->b ∉ X.ex
 exfs:∀ b∈X.ex,b ∉ X.fs
 funs:X.s₀.heap.FunFrames X.base X.outer
 frf:∀ b∈X.fs,X.H₀ b=none
structure Inv (X:Cx) (pins:List (Addr×Obj)) (σ:List (Option V)) (H:Hp) (s:Shared):Prop where
 ok:X.Ok
 os:s.os=X.s₀.os
 bare:AllBare s.gens
 base:Un X.fs X.ex X.H₀ H X.s₀.heap s.heap
 loc:∃ m,s.heap.Ns X.env.locals m/\∀ (i:Nat) (x:Str) (v:V),X.N[i]?=some x->σ[i]?=some (some v)->Vis X.env.scope x->∃ u,RelV v u/\Look X.env s.heap m x u
 cell:∀ x c,X.env.cells.lookup x=some c->∃ v,s.heap.IsCell c v
 free:H X.env.locals=none
 freeC:∀ x c,X.env.cells.lookup x=some c->H c=none
 pin:∀ p∈X.pn++pins,s.heap.get? p.1=some p.2/\H p.1=none/\p.1≠X.env.locals/\p.1 ∉ X.fs/\∀ v,p.2.data≠.cell v
 hok:HOk X.prog X.w H s.heap
 len:σ.length=X.N.length
section
variable {X:Cx} {pins:List (Addr×Obj)} {σ:List (Option V)} {H H':Hp} {s:Shared} {h':Heap}
theorem Cx.Ok.nofr (ok:X.Ok) {b:Addr} {o:Obj} (e:X.base.get? b=some o):b ∉ X.fs:=fun hb=>by
 have:=(ok.funs.mem hb).1;rw [e] at this;cases this
theorem Inv.bs (I:Inv X pins σ H s):∀ b o,X.base.get? b=some o->s.heap.get? b=some o/\H b=none:=fun b o e =>
 ⟨I.base.keep b o (I.ok.bs b o e).1 (I.ok.bs b o e).2 (I.ok.nofr e) (I.ok.noex b o e),I.base.free b o (I.ok.bs b o e).1 (I.ok.bs b o e).2 (I.ok.noex b o e)⟩
theorem Inv.bk (I:Inv X pins σ H s):∀ b o,X.base.get? b=some o->s.heap.get? b=some o:=fun b o e=>(I.bs b o e).1
theorem Inv.mod (I:Inv X pins σ H s):Mod X.K X.mg X.base:=I.ok.mod
theorem Inv.kIn (I:Inv X pins σ H s):X.K.In s.heap:=I.ok.mod.kin.keeps I.bk
theorem Inv.lt (I:Inv X pins σ H s):X.env.locals<s.heap.objs.size:=let ⟨_,hn,_⟩:=I.loc;hn.lt
theorem Inv.sz (I:Inv X pins σ H s):X.s₀.heap.objs.size<=s.heap.objs.size:=Nat.le_trans I.ok.above (Nat.le_of_lt I.lt)
theorem Inv.nofs (I:Inv X pins σ H s) {a:Addr} (h:s.heap.objs.size<=a):a ∉ X.fs:=fun hb=>by
 obtain ⟨_,o,ho,_⟩:=I.ok.funs.mem hb;exact absurd (Nat.lt_of_lt_of_le (Heap.lt_size ho) (Nat.le_trans I.sz h)) (Nat.lt_irrefl _)
theorem Inv.cne (I:Inv X pins σ H s):∀ x c,X.env.cells.lookup x=some c->c≠X.env.locals:=fun x c e z=>by
 obtain ⟨v,o,ho,hd⟩:=I.cell x c e;obtain ⟨m,⟨o',es,ep,ho',hd',_⟩,_⟩:=I.loc;rw [z,ho'] at ho;cases ho;rw [hd'] at hd;cases hd
theorem Inv.funs (I:Inv X pins σ H s):s.heap.FunFrames X.base X.outer:=by
 have all:∀ (l:List Env),(∀ b∈frs l,b∈X.fs)->X.s₀.heap.FunFrames X.base l->s.heap.FunFrames X.base l:=by
  intro l
  induction l with
  | nil=>intro _ _;trivial
  | cons env r ih =>
   intro hs hl;obtain ⟨hk,⟨L,o,hf,hn,ho,hd⟩,hr⟩:=hl;have hL:L∈X.fs:=hs L (by unfold frs;rw [List.filterMap_cons,hf];exact List.mem_cons_self);obtain ⟨sl,e⟩:=I.base.slot L o ho (I.ok.frf L hL) hL fun z=>I.ok.exfs L z hL;exact ⟨hk,⟨L,_,hf,hn,e,hd⟩,ih (fun b hb=>hs b (by unfold frs;rw [List.filterMap_cons,hf];exact List.mem_cons_of_mem _ hb)) hr⟩
 exact all X.outer (fun _ hb=>hb) I.ok.funs
theorem Inv.stack (I:Inv X pins σ H s):s.heap.FunFrames X.base X.stack:=by
 rcases I.ok.stk with e | ⟨e,hf⟩
 ·rw [e];exact I.funs
 ·rw [e]
  obtain ⟨m,hn,_⟩:=I.loc;refine .cons (by rw [I.ok.kind];decide) hf hn ?_ I.funs;exact Heap.get?_none_of_le (Nat.le_trans I.ok.bsz I.ok.above)
theorem Inv.stkSub (I:Inv X pins σ H s):∀ b∈frs X.stack,b∈X.env.locals::X.fs:=fun b hb=>by
 rcases I.ok.stk with e | ⟨e,hf⟩
 ·rw [e] at hb;exact List.mem_cons_of_mem _ hb
 ·rw [e] at hb
  unfold frs at hb;rw [List.filterMap_cons,hf] at hb;exact hb
theorem Inv.stkFree (I:Inv X pins σ H s):∀ b∈frs X.stack,H b=none:=fun b hb=>by
 rcases List.mem_cons.mp (I.stkSub b hb) with e | hb
 ·rw [e];exact I.free
 ·obtain ⟨_,o,ho,_⟩:=I.ok.funs.mem hb
  exact I.base.free b o ho (I.ok.frf b hb) fun z=>I.ok.exfs b z hb
theorem Inv.step {g':Array GenState} {t':Nat} {d':Drawn} {ch:List Addr} (I:Inv X pins σ H s)
  (hch:∀ b∈ch,(b∈X.ex∨X.s₀.heap.objs.size<=b)/\b≠X.env.locals/\(∀ x c,X.env.cells.lookup x=some c->c≠b)/\∀ p∈X.pn++pins,p.1≠b)
  (keep:∀ b o,b≠X.env.locals->b ∉ X.fs->b ∉ ch->s.heap.get? b=some o->H b=none->h'.get? b=some o)
  (slot:∀ b o,b≠X.env.locals->b∈X.fs->b ∉ ch->s.heap.get? b=some o->H b=none->∃ sl,h'.get? b=some { o with slots:=sl }) (free:∀ b o,b ∉ ch->s.heap.get? b=some o->H b=none->H' b=none)
  (there:∀ b o,b ∉ ch->s.heap.get? b=some o->∃ o',h'.get? b=some o')
  (tups:∀ b xs,H b=some (.tup xs)->H' b=some (.tup xs)) (frzs:∀ b o u,H b=some (.frz o u)->H' b=some (.frz o u)) (tbls:∀ b ps,H b=some (.tbl ps)->∃ more,H' b=some (.tbl (ps++more)))
  (ns:∀ m,s.heap.Ns X.env.locals m->h'.Ns X.env.locals m) (hok:HOk X.prog X.w H' h') (hg:AllBare g') :
  Inv X pins σ H' { s with heap:=h',gens:=g',drawn:=d',toks:=t' }:=by
 have neL:∀ b o,X.s₀.heap.get? b=some o->b≠X.env.locals:=fun b o e=>Nat.ne_of_lt (Nat.lt_of_lt_of_le (Heap.lt_size e) I.ok.above)
 have neC:∀ b o,X.s₀.heap.get? b=some o->b ∉ X.ex->b ∉ ch:=fun b o e hx hb=>by
  rcases (hch b hb).1 with z | z
  ·exact hx z
  ·exact absurd (Nat.lt_of_lt_of_le (Heap.lt_size e) z) (Nat.lt_irrefl _)
 have cellK:∀ x c,X.env.cells.lookup x=some c->∀ v,s.heap.IsCell c v->h'.IsCell c v:=fun x c e v ⟨o,ho,hd⟩=>by
  have nch:c ∉ ch:=fun z=>(hch c z).2.2.1 x c e rfl;by_cases hc:c∈X.fs
  ·obtain ⟨sl,q⟩:=slot c o (I.cne x c e) hc nch ho (I.freeC x c e)
   exact ⟨_,q,hd⟩
  ·exact ⟨o,keep c o (I.cne x c e) hc nch ho (I.freeC x c e),hd⟩
 refine ⟨I.ok,I.os,hg,⟨fun b o e n hb hx=>?_,fun b o e n hb hx=>?_,fun b o e n hx=>?_,fun b o e hx=>?_,fun b xs e=>tups b xs (I.base.tups b xs e),fun b o xs e=>frzs b o xs (I.base.frzs b o xs e),fun b ps e=>?_⟩,?_,fun x c e=>?_,?_,fun x c e=>?_,fun p hp=>?_,hok,I.len⟩
 ·exact keep b o (neL b o e) hb (neC b o e hx) (I.base.keep b o e n hb hx) (I.base.free b o e n hx)
 ·obtain ⟨sl,e1⟩:=I.base.slot b o e n hb hx
  obtain ⟨sl',e2⟩:=slot b _ (neL b o e) hb (neC b o e hx) e1 (I.base.free b o e n hx);exact ⟨sl',e2⟩
 ·obtain ⟨o',e1⟩:=I.base.there b o e hx
  exact free b o' (neC b o e hx) e1 (I.base.free b o e n hx)
 ·obtain ⟨o',e1⟩:=I.base.there b o e hx
  exact there b o' (neC b o e hx) e1
 ·obtain ⟨m1,e1⟩:=I.base.tbls b ps e
  obtain ⟨m2,e2⟩:=tbls b _ e1;exact ⟨m1++m2,by rw [e2,Array.append_assoc]⟩
 ·obtain ⟨m,hn,hl⟩:=I.loc
  refine ⟨m,ns m hn,fun i x v e1 e2 e3=>?_⟩;obtain ⟨u,r,l⟩:=hl i x v e1 e2 e3;refine ⟨u,r,?_⟩;rcases l with l | ⟨k,c,e,z⟩
  ·exact .inl l
  ·exact .inr ⟨k,c,e,cellK x c e _ z⟩
 ·obtain ⟨v,z⟩:=I.cell x c e
  exact ⟨v,cellK x c e v z⟩
 ·obtain ⟨m,⟨o,_,_,ho,_⟩,_⟩:=I.loc
  exact free _ o (fun z=>(hch _ z).2.1 rfl) ho I.free
 ·obtain ⟨v,o,ho,hd⟩:=I.cell x c e
  exact free c o (fun z=>(hch c z).2.2.1 x c e rfl) ho (I.freeC x c e)
 ·obtain ⟨e,n,ne,nf,d⟩:=I.pin p hp
  have nch:p.1 ∉ ch:=fun z=>(hch p.1 z).2.2.2 p hp rfl;exact ⟨keep p.1 p.2 ne nf nch e n,free p.1 p.2 nch e n,ne,nf,d⟩
theorem Inv.un {t':Nat} (I:Inv X pins σ H s) (u:Un X.fs [] H H' s.heap h') (hok:HOk X.prog X.w H' h'):Inv X pins σ H' { s with heap:=h',toks:=t' }:=by
 obtain ⟨m,⟨o,es,ep,ho,r⟩,_⟩:=id I.loc;obtain ⟨sl,hL⟩:=u.any ho I.free (by simp)
 exact I.step (g':=s.gens) (d':=s.drawn) (ch:=[]) (fun _ z=>nomatch z) (fun b o _ hb _ e n=>u.keep b o e n hb (by simp)) (fun b o _ hb _ e n=>u.slot b o e n hb (by simp)) (fun b o _ e n=>u.free b o e n (by simp)) (fun b o _ e=>u.there b o e (by simp)) u.tups u.frzs u.tbls (fun m' hm=>by
  obtain ⟨o',es',ep',ho',r'⟩:=hm;rw [ho] at ho';cases ho';exact ⟨_,es',ep',hL,r'⟩) hok I.bare
theorem Inv.call {g':Array GenState} {t':Nat} {d':Drawn} {ch:List Addr} (I:Inv X pins σ H s) (u:Un (frs X.stack) ch H H' s.heap h') (hok:HOk X.prog X.w H' h') (hg:AllBare g')
  (hch:∀ b∈ch,(b∈X.ex∨X.s₀.heap.objs.size<=b)/\b≠X.env.locals/\(∀ x c,X.env.cells.lookup x=some c->c≠b)/\∀ p∈X.pn++pins,p.1≠b) :
  Inv X pins σ H' { s with heap:=h',gens:=g',drawn:=d',toks:=t' }:=by
 obtain ⟨m,⟨o,es,ep,ho,r⟩,_⟩:=id I.loc;obtain ⟨sl,hL⟩:=u.any ho I.free fun z=>(hch _ z).2.1 rfl
 exact I.step (ch:=ch) hch (fun b o hL hb hc e n=>u.keep b o e n (fun z=>(List.mem_cons.mp (I.stkSub b z)).elim hL hb) hc) (fun b o _ _ hc e n=>u.any e n hc) (fun b o hc e n=>u.free b o e n hc) (fun b o hc e=>u.there b o e hc) u.tups u.frzs u.tbls (fun m' hm=>by
  obtain ⟨o',es',ep',ho',r'⟩:=hm;rw [ho] at ho';cases ho';exact ⟨_,es',ep',hL,r'⟩) hok hg
theorem Inv.turned {t':Nat} {it:Addr} (I:Inv X pins σ H s) (k:∀ b o,b≠it->s.heap.get? b=some o->h'.get? b=some o) (hn:H it=none) (hL:it≠X.env.locals)
  (h1:it∈X.ex∨X.s₀.heap.objs.size<=it) (h2:∀ x c,X.env.cells.lookup x=some c->c≠it) (h3:∀ p∈X.pn++pins,p.1≠it):Inv X pins σ H { s with heap:=h',toks:=t' }:=by
 have nit:∀ b u,H b=some u->b≠it:=fun b u e z=>by rw [z,hn] at e;cases e
 refine I.step (g':=s.gens) (d':=s.drawn) (ch:=[it]) (fun b hb=>?_) (fun b o _ _ hc e _=>k b o (fun z=>hc (by simp [z])) e) (fun b o _ _ hc e _=>⟨o.slots,k b o (fun z=>hc (by simp [z])) e⟩) (fun _ _ _ _ n=>n)
  (fun b o hc e=>⟨o,k b o (fun z=>hc (by simp [z])) e⟩) (fun _ _ e=>e) (fun _ _ _ e=>e) (fun b ps e=>⟨#[],by rw [e];simp⟩) (fun m hm=>?_) (fun b u e=>?_) I.bare
 ·have e:b=it:=by simpa using hb
  subst e;exact ⟨h1,hL,h2,h3⟩
 ·obtain ⟨o,es,ep,ho,r⟩:=hm
  exact ⟨o,es,ep,k _ o (Ne.symm hL) ho,r⟩
 ·refine (I.hok b u e).stay (fun c v hc q=>k c v ?_ q) (fun _ q=>q) fun _ _ q=>q
  rcases hc with z | z
  ·rw [z];exact nit b u e
  ·exact nit c _ z
theorem Inv.tok (I:Inv X pins σ H s) (t:Nat):Inv X pins σ H { s with toks:=t }:=I.un (h':=s.heap) (t':=t) Un.refl I.hok
theorem Inv.kept {t':Nat} (I:Inv X pins σ H s) (k:∀ b u,s.heap.get? b=some u->h'.get? b=some u):Inv X pins σ H { s with heap:=h',toks:=t' }:=I.un (Un.kept k) (I.hok.kept k)
theorem Inv.laid {a:Addr} {o:HO} {t':Nat} (I:Inv X pins σ H s) (k:∀ b u,s.heap.get? b=some u->h'.get? b=some u) (hp:s.heap.objs.size<=a) (new:ObjOk X.prog X.w (upd H a o) h' a o) :
  Inv X pins σ (upd H a o) { s with heap:=h',toks:=t' }:=I.un (Un.laid k hp (I.hok.fresh hp)) (I.hok.laid k hp new)
theorem Inv.write {x e:Addr} {o:HO} {t':Nat} (I:Inv X pins σ H s) (mu:Mut (H x)) (he:e=x∨H e=some (.own x)) (k:∀ b u,b≠e->s.heap.get? b=some u->h'.get? b=some u) (heo:∃ u,h'.get? e=some u)
  (new:ObjOk X.prog X.w (upd H x o) h' x o):Inv X pins σ (upd H x o) { s with heap:=h',toks:=t' }:=I.un (Un.write mu he k heo) (I.hok.write mu he k heo new)
theorem Inv.pins_of {pins':List (Addr×Obj)} (I:Inv X pins σ H s) (h:∀ p∈pins',s.heap.get? p.1=some p.2/\H p.1=none/\p.1≠X.env.locals/\p.1 ∉ X.fs/\∀ v,p.2.data≠.cell v):Inv X pins' σ H s :=
 ⟨I.ok,I.os,I.bare,I.base,I.loc,I.cell,I.free,I.freeC,fun p hp=>(List.mem_append.mp hp).elim (fun z=>I.pin p (List.mem_append_left _ z)) (h p),I.hok,I.len⟩
theorem zgg {N:List Str} (hN:N.Nodup) {i j:Nat} {x:Str} (a:N[i]?=some x) (b:N[j]?=some x):i=j:=by
 obtain ⟨h1,e1⟩:=List.getElem?_eq_some_iff.mp a;obtain ⟨h2,e2⟩:=List.getElem?_eq_some_iff.mp b;exact (List.getElem_inj hN).mp (e1.trans e2.symm)
theorem Xx {M:Model} {A:Around} {E:Value->Shared->Prop} {i:Nat} {x:Str} {v:V} {u:Value} {Q:Unit->Shared->Prop} (I:Inv X pins σ H s) (hN:X.N.Nodup) (hi:X.N[i]?=some x) (hx:Loc X.env.scope x) (r:RelV v u)
  (h:∀ s',Inv X pins (σ.set i (some v)) H s'->(∃ a,Heap.SameBut a s.heap s'.heap/\(a=X.env.locals∨X.env.cells.lookup x=some a))->Q () s') (hf:X.fn x=true∨X.env.scope.names.lookup x=some .local:=by first | exact .inl rfl | exact .inr rfl | assumption):wpAny M A (storeName X.env x u) Q E s:=by
 obtain ⟨m,hn,hl⟩:=id I.loc;have hcls:(X.env.scope.kind == .class || (X.env.scope.kind == .module && X.env.locals != X.env.globals))=false:=by rw [I.ok.kind];rfl
 have hiσ:i<σ.length:=by rw [I.len];exact (List.getElem?_eq_some_iff.mp hi).1
 have cne:=I.cne
 have tracked:∀ {a:Addr} {h':Heap},(∃ o,s.heap.get? a=some o/\H a=none)->Heap.SameBut a s.heap h'->HOk X.prog X.w H h':=fun {a h'} ha hs b ob e=>by
  obtain ⟨_,_,hfree⟩:=ha;refine (I.hok b ob e).stay (fun c w' hc q=>(hs.2 c ?_).trans q) (fun _ q=>q) fun _ _ q=>q;rintro rfl;rcases hc with rfl | hc
  ·rw [hfree] at e;cases e
  ·rw [hfree] at hc;cases hc
 rcases hx with hk | hk
 ·refine wpAny_storeName_local hk hn (fun h' hn' hs=>?_) hcls
  obtain ⟨oL,_,_,hoL,_⟩:=id hn;refine h _ ⟨I.ok,I.os,I.bare,⟨fun b o e n hb hx=>?_,fun b o e n hb hx=>?_,I.base.free,fun b o e hx=>?_,I.base.tups,I.base.frzs,I.base.tbls⟩,⟨_,hn',fun j y v' e1 e2 e3=>?_⟩,fun y c e=>?_,I.free,I.freeC,fun p hp=>?_,tracked ⟨oL,hoL,I.free⟩ hs,by simpa using I.len⟩ ⟨_,hs,.inl rfl⟩
  ·exact (hs.2 b (Nat.ne_of_lt (Nat.lt_of_lt_of_le (Heap.lt_size e) I.ok.above))).trans (I.base.keep b o e n hb hx)
  ·obtain ⟨sl,e1⟩:=I.base.slot b o e n hb hx
   exact ⟨sl,(hs.2 b (Nat.ne_of_lt (Nat.lt_of_lt_of_le (Heap.lt_size e) I.ok.above))).trans e1⟩
  ·obtain ⟨o',e1⟩:=I.base.there b o e hx
   exact ⟨o',(hs.2 b (Nat.ne_of_lt (Nat.lt_of_lt_of_le (Heap.lt_size e) I.ok.above))).trans e1⟩
  ·by_cases hj:j=i
   ·subst hj
    rw [hi] at e1;cases e1;rw [List.getElem?_set_self hiσ] at e2;cases e2;exact ⟨u,r,.inl ⟨hk,by simp⟩⟩
   ·rw [List.getElem?_set_ne (Ne.symm hj)] at e2
    obtain ⟨u',r',q⟩:=hl j y v' e1 e2 e3;refine ⟨u',r',?_⟩;rcases q with ⟨k,e⟩ | ⟨k,c,e,z⟩
    ·refine .inl ⟨k,?_⟩
     have:y≠x:=fun e=>hj (zgg hN e1 (e ▸ hi));simp [this,e]
    ·exact .inr ⟨k,c,e,z.sameBut hs (cne y c e)⟩
  ·obtain ⟨w',z⟩:=I.cell y c e
   exact ⟨w',z.sameBut hs (cne y c e)⟩
  ·obtain ⟨e,n,ne,nf,d⟩:=I.pin p hp
   exact ⟨(hs.2 p.1 ne).trans e,n,ne,nf,d⟩
 ·have hfn:X.fn x=true:=by
   rcases hf with z | z
   ·exact z
   ·rw [z] at hk;cases hk
  obtain ⟨c,hc⟩:=I.ok.has x (.inl hk);obtain ⟨w',z⟩:=I.cell x c hc;refine wpAny_storeName_cell I.ok.kind hk hc z (fun h' hc' hs=>?_);obtain ⟨oc,hoc,hocd⟩:=id z;refine h { s with heap:=h' } ⟨I.ok,I.os,I.bare,⟨fun b o e n hb hx=>?_,fun b o e n hb hx=>?_,I.base.free,fun b o e hx=>?_,I.base.tups,I.base.frzs,I.base.tbls⟩,⟨m,hn.sameBut hs (Ne.symm (cne x c hc)),fun j y v' e1 e2 e3=>?_⟩,fun y c' e=>?_,I.free,I.freeC,fun p hp=>?_,tracked ⟨oc,hoc,I.freeC x c hc⟩ hs,by simpa using I.len⟩ ⟨c,hs,.inr hc⟩
  ·exact (hs.2 b (Nat.ne_of_lt (Nat.lt_of_lt_of_le (Heap.lt_size e) (I.ok.cab x c hfn hc)))).trans (I.base.keep b o e n hb hx)
  ·obtain ⟨sl,e1⟩:=I.base.slot b o e n hb hx
   exact ⟨sl,(hs.2 b (Nat.ne_of_lt (Nat.lt_of_lt_of_le (Heap.lt_size e) (I.ok.cab x c hfn hc)))).trans e1⟩
  ·obtain ⟨o',e1⟩:=I.base.there b o e hx
   exact ⟨o',(hs.2 b (Nat.ne_of_lt (Nat.lt_of_lt_of_le (Heap.lt_size e) (I.ok.cab x c hfn hc)))).trans e1⟩
  ·by_cases hj:j=i
   ·subst hj
    rw [hi] at e1;cases e1;rw [List.getElem?_set_self hiσ] at e2;cases e2;exact ⟨u,r,.inr ⟨.inl hk,c,hc,hc'⟩⟩
   ·rw [List.getElem?_set_ne (Ne.symm hj)] at e2
    obtain ⟨u',r',q⟩:=hl j y v' e1 e2 e3;refine ⟨u',r',?_⟩;rcases q with q | ⟨k,c',e,z'⟩
    ·exact .inl q
    ·refine .inr ⟨k,c',e,z'.sameBut hs ?_⟩
     rintro rfl;exact hj (zgg hN e1 (I.ok.inj _ _ _ e hc ▸ hi))
  ·by_cases hcc:c'=c
   ·subst hcc;exact ⟨_,hc'⟩
   ·obtain ⟨w2,z2⟩:=I.cell y c' e
    exact ⟨w2,z2.sameBut hs hcc⟩
  ·obtain ⟨e,n,ne,nf,d⟩:=I.pin p hp
   refine ⟨(hs.2 p.1 ?_).trans e,n,ne,nf,d⟩;intro q;rw [q,hoc] at e;have q':oc=p.2:=Option.some.inj e;exact d w' (by rw [← q'];exact hocd)
theorem zfv {M:Model} {A:Around} {E:Value->Shared->Prop} {i:Nat} {x:Str} {v:V} {u:Value} {Q:Unit->Shared->Prop} (I:Inv X pins σ H s) (hN:X.N.Nodup) (hi:X.N[i]?=some x) (hx:Loc X.env.scope x) (r:RelV v u)
  (h:∀ s',Inv X pins (σ.set i (some v)) H s'->Q () s') (hf:X.fn x=true∨X.env.scope.names.lookup x=some .local:=by first | exact .inl rfl | exact .inr rfl | assumption):wpAny M A (storeName X.env x u) Q E s :=
 Xx I hN hi hx r (fun s' I' _=>h s' I') hf
theorem Inv.call' {s':Shared} {ch:List Addr} (I:Inv X pins σ H s) (ho:s'.os=s.os) (u:Un (frs X.stack) ch H H' s.heap s'.heap) (hok:HOk X.prog X.w H' s'.heap) (hg:AllBare s'.gens)
  (hch:∀ b∈ch,(b∈X.ex∨X.s₀.heap.objs.size<=b)/\b≠X.env.locals/\(∀ x c,X.env.cells.lookup x=some c->c≠b)/\∀ p∈X.pn++pins,p.1≠b):Inv X pins σ H' s':=by
 obtain ⟨h',g',d',t',o'⟩:=s';have e:o'=s.os:=ho;subst e;exact I.call (g':=g') (t':=t') (d':=d') u hok hg hch
end
abbrev XK:=Value->Option Addr->Hp->Prop
abbrev St:=List (Option V)
abbrev VK:=V->Hp->Prop
abbrev TE:=St->Hp->VK->Prop
abbrev TT:=St->Hp->(Bool->Hp->Prop)->Prop
abbrev TA:=St->Hp->(List V->Hp->Prop)->Prop
structure Ends where
 nx:St->Hp->Prop
 rt:VK
 bk:St->Hp->Prop:=fun _ _=>False
 ct:St->Hp->Prop:=fun _ _=>False
abbrev TS:=Ends->St->Hp->Prop
def EP (X:Cx) (pins:List (Addr×Obj)) (σ:St) (Q:VK) (u:Value) (s':Shared):Prop:=∃ v H',Inv X pins σ H' s'/\RelV v u/\Q v H'
def TP (X:Cx) (pins:List (Addr×Obj)) (σ:St) (Q:Bool->Hp->Prop) (b:Bool) (s':Shared):Prop:=∃ H',Inv X pins σ H' s'/\Q b H'
def AP (X:Cx) (pins:List (Addr×Obj)) (σ:St) (Q:List V->Hp->Prop) (us:List Value) (s':Shared):Prop:=∃ vs H',Inv X pins σ H' s'/\Vals vs us/\Q vs H'
def SP (X:Cx) (pins:List (Addr×Obj)) (D:Ends) (f:Flow) (s':Shared):Prop :=
 match f with
 | .next=>∃ σ' H',Inv X pins σ' H' s'/\D.nx σ' H'
 | .brk=>∃ σ' H',Inv X pins σ' H' s'/\D.bk σ' H'
 | .cont=>∃ σ' H',Inv X pins σ' H' s'/\D.ct σ' H'
 | .ret u=>∃ v σ' H',Inv X pins σ' H' s'/\RelV v u/\D.rt v H'
def PE (X:Cx) (e:Expr) (t:TE):Prop :=
 ∀ (pins:List (Addr×Obj)) (s:Shared) (σ:St) (H:Hp) (Q:VK),Inv X pins σ H s->t σ H Q->wpAny (model X.prog X.w) X.A (eval e X.env) (EP X pins σ Q) X.xe s
def PT (X:Cx) (e:Expr) (t:TT):Prop :=
 ∀ (pins:List (Addr×Obj)) (s:Shared) (σ:St) (H:Hp) (Q:Bool->Hp->Prop),Inv X pins σ H s->t σ H Q->wpAny (model X.prog X.w) X.A (isTrue e X.env (eval e X.env)) (TP X pins σ Q) X.xe s
def PW (X:Cx) (e:Expr) (t:TT):Prop :=
 ∀ (whole:Sem Value) (pins:List (Addr×Obj)) (s:Shared) (σ:St) (H:Hp) (Q:Bool->Hp->Prop),Inv X pins σ H s->t σ H Q->wpAny (model X.prog X.w) X.A (isTrue e X.env whole) (TP X pins σ Q) X.xe s
theorem PW.pt {X:Cx} {e:Expr} {t:TT} (h:PW X e t):PT X e t:=h _
def PA (X:Cx) (es:List Expr) (t:TA):Prop :=
 ∀ (pos:Pos) (pins:List (Addr×Obj)) (s:Shared) (σ:St) (H:Hp) (Q:List V->Hp->Prop),Inv X pins σ H s->t σ H Q->wpAny (model X.prog X.w) X.A (spliced (backTo pos (starEach es X.env))) (AP X pins σ Q) X.xe s
def PS (X:Cx) (st:Stmt) (t:TS):Prop :=
 ∀ (pins:List (Addr×Obj)) (s:Shared) (σ:St) (H:Hp) (D:Ends),Inv X pins σ H s->t D σ H->wpAny (model X.prog X.w) X.A (exec st X.env) (SP X pins D) X.xe s
def PSs (X:Cx) (st:List Stmt) (t:TS):Prop :=
 ∀ (pins:List (Addr×Obj)) (s:Shared) (σ:St) (H:Hp) (D:Ends),Inv X pins σ H s->t D σ H->wpAny (model X.prog X.w) X.A (execs st X.env) (SP X pins D) X.xe s
theorem thn {α:Type} {t:Sem α} {Q Q':α->Shared->Prop} {M:Model} {A:Around} {E:Value->Shared->Prop} {s:Shared} (h:wpAny M A t Q E s) (hQ:∀ a s,Q a s->Q' a s):wpAny M A t Q' E s:=wpAny_mono h hQ fun _ _ x=>x
section
variable {X:Cx}
def tVar (i:Nat):TE:=fun σ H Q=>∃ v,σ[i]?=some (some v)/\Q v H
def tC (v:V):TE:=fun _ H Q=>Q v H
theorem pe_var {i:Nat} {x:Str} {pos:Pos} (hN:X.N[i]?=some x) (hv:Vis X.env.scope x) (hd:(x == ("__debug__":Str))=false:=by decide) (hcd:(x == ("__classdict__":Str))=false:=by decide):PE X (.Name x pos) (tVar i):=by
 intro pins s σ H Q I h;obtain ⟨v,e,h⟩:=h;obtain ⟨m,hn,hl⟩:=I.loc;obtain ⟨u,r,l⟩:=hl i x v hN e hv;have fin:EP X pins σ Q u s:=⟨v,H,I,r,h⟩;rcases l with ⟨hk,hm⟩ | ⟨hk,c,hc,hcell⟩
 ·exact wpAny_Name (wpAny_loadName_local I.ok.kind hk hn hm fin) hd
 ·rcases hk with hk | hk
  ·exact wpAny_Name (wpAny_loadName_cell I.ok.kind hk hc hcell fin) hd
  ·exact wpAny_Name (wpAny_loadName_free I.ok.kind hk hc hcell fin hcd) hd
theorem zf {i j pos}:PE X (.Constant (.int i) j pos) (tC (.int i)):=fun _ _ _ H _ I h=>wpAny_Constant_int ⟨.int i,H,I.tok _,⟨_,rfl⟩,h⟩
theorem Zy {b j pos}:PE X (.Constant (.bool b) j pos) (tC (.bl b)):=fun _ _ _ H _ I h=>Constant_bool ⟨.bl b,H,I,rfl,h⟩
theorem xR {j pos}:PE X (.Constant .none j pos) (tC .non):=fun _ _ _ H _ I h=>Constant_none ⟨.non,H,I,rfl,h⟩
theorem yk {x j pos}:PE X (.Constant (.str x) j pos) (tC (.str x)):=fun _ _ _ H _ I h=>Calls.Constant_str ⟨.str x,H,I.tok _,⟨_,rfl⟩,h⟩
def Gl (X:Cx) (x:Str):Prop:=X.env.kindOf x=some .globalImplicit
theorem YA {E:Value->Shared->Prop} {pins:List (Addr×Obj)} {s:Shared} {σ:St} {H:Hp} {x:Str} {u:Value} {pos:Pos} {Q:Value->Shared->Prop} (I:Inv X pins σ H s) (hg:Gl X x) (hm:X.mg x=some u) (h:Q u s)
  (hd:(x == ("__debug__":Str))=false:=by decide):wpAny (model X.prog X.w) X.A (eval (.Name x pos) X.env) Q E s :=
 Calls.Name_function_global I.ok.kind hg (Calls.loadGlobal_global (by rw [I.ok.glob];exact I.mod.glob.keeps I.bk) hm h) hd
theorem ZB {E:Value->Shared->Prop} {pins:List (Addr×Obj)} {s:Shared} {σ:St} {H:Hp} {x:Str} {u:Value} {pos:Pos} {Q:Value->Shared->Prop} (I:Inv X pins σ H s) (hg:Gl X x) (hm:X.mg x=none) (hv:bootBuiltins x=some u) (h:Q u s)
  (hn:x≠"__name__":=by decide) (hd:(x == ("__debug__":Str))=false:=by decide):wpAny (model X.prog X.w) X.A (eval (.Name x pos) X.env) Q E s:=by
 obtain ⟨mb,h1,h2⟩:=I.mod.blt;exact Calls.Name_function_global I.ok.kind hg (Calls.loadGlobal_builtin (by rw [I.ok.glob];exact I.mod.glob.keeps I.bk) hm (by rw [I.ok.blt];exact h1.keeps I.bk) ((h2 x hn).trans hv) h) hd
theorem pe_glob {x:Str} {v:V} {u:Value} {pos:Pos} (hg:Gl X x) (hm:X.mg x=some u) (r:RelV v u) (hd:(x == ("__debug__":Str))=false:=by decide):PE X (.Name x pos) (tC v) :=
 fun _ _ _ H _ I h=>YA I hg hm ⟨v,H,I,r,h⟩ hd
theorem pe_bltn {x:Str} {v:V} {u:Value} {pos:Pos} (hg:Gl X x) (hm:X.mg x=none) (hv:bootBuiltins x=some u) (r:RelV v u) (hn:x≠"__name__":=by decide) (hd:(x == ("__debug__":Str))=false:=by decide):PE X (.Name x pos) (tC v) :=
 fun _ _ _ H _ I h=>ZB I hg hm hv ⟨v,H,I,r,h⟩ hn hd
variable {a b:Expr} {ta tb:TE} {pos:Pos}
def PC (X:Cx) (op:CmpOp) (a b:Expr) (t:TE):Prop :=
 ∀ (pins:List (Addr×Obj)) (s:Shared) (σ:St) (H:Hp) (Q:VK),Inv X pins σ H s->t σ H Q ->
  wpAny (model X.prog X.w) X.A (eval a X.env) (fun v s₁=>wpAny (model X.prog X.w) X.A (eval b X.env) (fun u s₂=>wpAny (model X.prog X.w) X.A (compareOp op v u) (EP X pins σ Q) X.xe s₂) X.xe s₁) X.xe s
theorem nobehind (b:Expr) {op:CmpOp} (h:op≠.In) (h2:op≠.NotIn):behindInMarks op b=false:=by
 have e1:(op == CmpOp.In)=false:=by cases op <;> first | rfl | exact absurd rfl h
 have e2:(op == CmpOp.NotIn)=false:=by cases op <;> first | rfl | exact absurd rfl h2
 cases b <;> simp [behindInMarks,e1,e2]
def tB (t:TE):TT:=fun σ H Q=>t σ H fun x H1=>∃ c,x=.bl c/\Q c H1
theorem pt_cmp {op:CmpOp} {t:TE} (h:PC X op a b t) (h1:behindInMarks op b=false:=by first | exact nobehind _ (by decide) (by decide) | rfl):PT X (.Compare a [op] [b] pos) (tB t):=by
 intro pins s σ H Q I hw;refine wpAny_isTrue_Compare1 (thn (h pins s σ H _ I hw) fun v s1 h1=>thn h1 fun u s2 h2=>thn h2 fun c s3 ⟨x,H1,I1,r1,q1⟩=>?_) h1;obtain ⟨d,rfl,q⟩:=q1;cases r1;exact wpAny_truthy_bool ⟨H1,I1,q⟩
theorem z7 {e:Expr} {t:TE} (h:PE X e t) (he:∀ whole,isTrue e X.env whole=(do let v ← whole;standAt e.pos;holding [v] (truthy v)):=by intro _;rfl):PT X e (tB t):=by
 intro pins s σ H Q I hw;refine isTrue_plain (thn (h pins s σ H _ I hw) fun v s1 ⟨x,H1,I1,r1,q1⟩=>?_) (he _);obtain ⟨d,rfl,q⟩:=q1;cases r1;exact wpAny_truthy_bool ⟨H1,I1,q⟩
variable {tA tB':TT} {rest:List Expr}
def tAnd (t u:TT):TT:=fun σ H Q=>t σ H fun c H1=>if c=true then u σ H1 Q else Q false H1
def tOr (t u:TT):TT:=fun σ H Q=>t σ H fun c H1=>if c=true then Q true H1 else u σ H1 Q
def tNot (t:TT):TT:=fun σ H Q=>t σ H fun c H1=>Q (!c) H1
theorem pw_and1 (ha:PT X a tA):PW X (.BoolOp .And [a] pos) tA:=by
 intro wh pins s σ H Q I h;refine isTrue_and (thn (ha pins s σ H Q I h) fun c s1 e=>?_)
 cases c with
 | true=>exact isTrue_and_nil e
 | false=>exact e
theorem pw_or1 (ha:PT X a tA):PW X (.BoolOp .Or [a] pos) tA:=by
 intro wh pins s σ H Q I h;refine isTrue_or (thn (ha pins s σ H Q I h) fun c s1 e=>?_)
 cases c with
 | false=>exact isTrue_or_nil e
 | true=>exact e
theorem pw_and (ha:PT X a tA) (hb:PW X (.BoolOp .And (b::rest) pos) tB'):PW X (.BoolOp .And (a::b::rest) pos) (tAnd tA tB'):=by
 intro wh pins s σ H Q I h;refine isTrue_and (thn (ha pins s σ H _ I h) fun c s1 ⟨H1,I1,q1⟩=>?_)
 cases c with
 | true=>exact hb wh pins s1 σ H1 Q I1 q1
 | false=>exact ⟨H1,I1,q1⟩
theorem XC (ha:PT X a tA) (hb:PW X (.BoolOp .Or (b::rest) pos) tB'):PW X (.BoolOp .Or (a::b::rest) pos) (tOr tA tB'):=by
 intro wh pins s σ H Q I h;refine isTrue_or (thn (ha pins s σ H _ I h) fun c s1 ⟨H1,I1,q1⟩=>?_)
 cases c with
 | true=>exact ⟨H1,I1,q1⟩
 | false=>exact hb wh pins s1 σ H1 Q I1 q1
theorem Yf (ha:PT X a tA):PT X (.UnaryOp .Not a pos) (tNot tA):=by
 intro pins s σ H Q I h;exact isTrue_not (ha pins s σ H (fun c H1=>Q (!c) H1) I h)
def tAndV (ta tb:TE):TE:=fun σ H Q=>ta σ H fun x H1=>∃ c,x=.bl c/\if c=true then tb σ H1 Q else Q (.bl false) H1
def tOrV (ta tb:TE):TE:=fun σ H Q=>ta σ H fun x H1=>∃ c,x=.bl c/\if c=true then Q (.bl true) H1 else tb σ H1 Q
def tNotV (ta:TE):TE:=fun σ H Q=>ta σ H fun x H1=>∃ c,x=.bl c/\Q (.bl (!c)) H1
theorem Y1 {op} {t:TE} (h:PE X a t):PE X (.BoolOp op [a] pos) t:=fun pins s σ H Q I hw=>BoolOp_one (h pins s σ H Q I hw)
theorem Y4 (ha:PE X a ta) (hb:PE X (.BoolOp .And (b::rest) pos) tb):PE X (.BoolOp .And (a::b::rest) pos) (tAndV ta tb):=by
 intro pins s σ H Q I h;refine BoolOp_and (thn (ha pins s σ H _ I h) fun v s1 ⟨x,H1,I1,r1,q1⟩=>?_);obtain ⟨c,rfl,q1⟩:=q1;cases r1;refine wpAny_truthy_bool ?_
 cases c with
 | true=>exact hb pins s1 σ H1 Q I1 q1
 | false=>exact ⟨.bl false,H1,I1,rfl,q1⟩
theorem pe_or (ha:PE X a ta) (hb:PE X (.BoolOp .Or (b::rest) pos) tb):PE X (.BoolOp .Or (a::b::rest) pos) (tOrV ta tb):=by
 intro pins s σ H Q I h;refine BoolOp_or (thn (ha pins s σ H _ I h) fun v s1 ⟨x,H1,I1,r1,q1⟩=>?_);obtain ⟨c,rfl,q1⟩:=q1;cases r1;refine wpAny_truthy_bool ?_
 cases c with
 | false=>exact hb pins s1 σ H1 Q I1 q1
 | true=>exact ⟨.bl true,H1,I1,rfl,q1⟩
theorem pe_not (ha:PE X a ta):PE X (.UnaryOp .Not a pos) (tNotV ta):=by
 intro pins s σ H Q I h;refine UnaryOp_ (thn (ha pins s σ H _ I h) fun v s1 ⟨x,H1,I1,r1,q1⟩=>?_);obtain ⟨c,rfl,q1⟩:=q1;cases r1;exact not_of (wpAny_truthy_bool ⟨.bl (!c),H1,I1,rfl,q1⟩)
end
def SqL (K:PySem.W.Frag) (H:Hp) (a:Addr) (xs:List V):Prop :=
 Rd H a (.lst xs) ∨
  ∃ (o:Obj) (its:Array Value) (n:Nat),K.lookup a=some o/\o.cls=.type "list"/\o.dict=none/\o.data=.seq its n/\its.size<=sizeLine/\Vals xs its.toList
def SqT (K:PySem.W.Frag) (H:Hp) (a:Addr) (xs:List V):Prop :=
 Rd H a (.tup xs) ∨
  ∃ (o:Obj) (its:Array Value) (n:Nat),K.lookup a=some o/\o.cls=.type "tuple"/\o.data=.seq its n/\its.size<=sizeLine/\Vals xs its.toList
def absV:Value->Option V
 | .none=>some .non
 | .bool b=>some (.bl b)
 | .int i _=>some (.int i)
 | .str x _=>some (.str x)
 | .bytes b _=>some (.byt b)
 | .float b _=>some (.flt b)
 | .ref a=>some (.ref a)
 | .type n=>some (.ty n)
 | _=>none
theorem RelV.abs {x:V} {u:Value} (r:RelV x u):absV u=some x:=by
 cases x with
 | non=>cases r;rfl
 | bl _=>cases r;rfl
 | int _=>obtain ⟨t,rfl⟩:=r;rfl
 | str _=>obtain ⟨t,rfl⟩:=r;rfl
 | byt _=>obtain ⟨t,rfl⟩:=r;rfl
 | flt _=>obtain ⟨t,rfl⟩:=r;rfl
 | ref _=>cases r;rfl
 | ty _=>cases r;rfl
theorem RelV.inj {x y:V} {u:Value} (r:RelV x u) (q:RelV y u):x=y:=Option.some.inj (r.abs.symm.trans q.abs)
theorem Vals.inj:∀ {xs ys:List V} {us:List Value},Vals xs us->Vals ys us->xs=ys
 | _,_,_,.nil,.nil=>rfl
 | _,_,_,.cons r t,.cons r' t'=>by rw [r.inj r',Vals.inj t t']
section
variable {X:Cx} {pins:List (Addr×Obj)} {σ:St} {H:Hp} {s:Shared} {a:Addr} {xs ys:List V}
theorem SqL.of {K:PySem.W.Frag} (h:H a=some (.lst xs)):SqL K H a xs:=.inl (.inl h)
theorem SqT.of {K:PySem.W.Frag} (h:H a=some (.tup xs)):SqT K H a xs:=.inl (.inl h)
theorem Inv.list (I:Inv X pins σ H s) (h:SqL X.K H a xs):∃ its:List Value,Vals xs its/\PlainL s.heap a its.toArray/\xs.length<=sizeLine:=by
 rcases h with h | ⟨o,its,n,hk,hc,hd,hs,hz,r⟩
 ·obtain ⟨z,its,n,r,e⟩:=h.ok I.hok
  exact ⟨its,r,⟨_,n,e,rfl,rfl,rfl⟩,z⟩
 ·refine ⟨its.toList,r,⟨o,n,I.kIn a o hk,hc,hd,by simpa using hs⟩,?_⟩
  have e:=r.length;simp only [Array.length_toList] at e;omega
theorem Inv.tuple (I:Inv X pins σ H s) (h:SqT X.K H a xs):∃ its:List Value,Vals xs its/\IsTup s.heap a its.toArray/\xs.length<=sizeLine:=by
 rcases h with h | ⟨o,its,n,hk,hc,hs,hz,r⟩
 ·obtain ⟨z,its,r,p⟩:=h.ok I.hok
  exact ⟨its,r,p,z⟩
 ·refine ⟨its.toList,r,⟨o,I.kIn a o hk,hc,n,by simpa using hs⟩,?_⟩
  have e:=r.length;simp only [Array.length_toList] at e;omega
theorem Inv.list_inj (I:Inv X pins σ H s) (h:SqL X.K H a xs) (h':SqL X.K H a ys):xs=ys:=by
 obtain ⟨its,r,⟨o,n,e,_,_,d⟩,_⟩:=I.list h;obtain ⟨its',r',⟨o',n',e',_,_,d'⟩,_⟩:=I.list h';rw [e] at e';cases e';rw [d] at d';injection d' with d1 _
 have:its=its':=by simpa using congrArg Array.toList d1
 subst this;exact r.inj r'
end
abbrev Cx.wish (X:Cx) (E:Value->Shared->Prop):Cx:={ X with xe:=E }
abbrev Cx.nox (X:Cx):Cx:=X.wish fun _ _=>False
theorem Cx.Ok.wish {X:Cx} (ok:X.Ok) (E:Value->Shared->Prop):(X.wish E).Ok :=
 ⟨ok.mod,ok.kind,ok.glob,ok.blt,ok.above,ok.inj,ok.has,ok.cab,ok.hd,ok.frames,ok.stk,ok.exf,ok.bs,ok.bsz,ok.noex,ok.exfs,ok.funs,ok.frf⟩
theorem Cx.Ok.unwish {X:Cx} {E:Value->Shared->Prop} (ok:(X.wish E).Ok):X.Ok :=
 ⟨ok.mod,ok.kind,ok.glob,ok.blt,ok.above,ok.inj,ok.has,ok.cab,ok.hd,ok.frames,ok.stk,ok.exf,ok.bs,ok.bsz,ok.noex,ok.exfs,ok.funs,ok.frf⟩
section
variable {X:Cx} {pins:List (Addr×Obj)} {σ:St} {H:Hp} {s:Shared} {E:Value->Shared->Prop}
theorem Inv.wish (I:Inv X pins σ H s) (E:Value->Shared->Prop):Inv (X.wish E) pins σ H s:=⟨I.ok.wish E,I.os,I.bare,I.base,I.loc,I.cell,I.free,I.freeC,I.pin,I.hok,I.len⟩
theorem Inv.unwish (I:Inv (X.wish E) pins σ H s):Inv X pins σ H s:=⟨I.ok.unwish,I.os,I.bare,I.base,I.loc,I.cell,I.free,I.freeC,I.pin,I.hok,I.len⟩
theorem SP.unwish {D:Ends} {f:Flow} {s':Shared} (h:SP (X.wish E) pins D f s'):SP X pins D f s':=by
 cases f with
 | next=>obtain ⟨σ',H',I,q⟩:=h;exact ⟨σ',H',I.unwish,q⟩
 | brk=>obtain ⟨σ',H',I,q⟩:=h;exact ⟨σ',H',I.unwish,q⟩
 | cont=>obtain ⟨σ',H',I,q⟩:=h;exact ⟨σ',H',I.unwish,q⟩
 | ret u=>obtain ⟨v,σ',H',I,r,q⟩:=h;exact ⟨v,σ',H',I.unwish,r,q⟩
theorem PSs.nox {st:List Stmt} {t:TS} (h:PSs X.nox st t):PSs X st t:=fun pins s σ H D I hw =>
 wpAny_mono (h pins s σ H D (I.wish _) hw) (fun _ _ q=>q.unwish) fun _ _ z=>False.elim z
end
section
variable {X:Cx} {st:Stmt} {rest:List Stmt} {t u:TS} {e:Expr} {te:TE} {pos:Pos}
def tNext:TS:=fun D σ H=>D.nx σ H
def tSeq (t u:TS):TS:=fun D σ H=>t { D with nx:=u D } σ H
theorem zu:PSs X [] tNext:=fun _ _ σ H _ I h=>wpAny_execs_nil ⟨σ,H,I,h⟩
theorem zd (h1:PS X st t) (h2:PSs X rest u):PSs X (st::rest) (tSeq t u):=by
 intro pins s σ H D I h;refine wpAny_execs_cons (thn (h1 pins s σ H { D with nx:=u D } I h) fun f s1 q=>?_)
 cases f with
 | next =>
  obtain ⟨σ',H',I',q⟩:=q;exact h2 pins s1 σ' H' D I' q
 | ret v=>exact q
 | brk=>exact q
 | cont=>exact q
theorem zg (h1:PS X st t):PSs X [st] t:=by
 intro pins s σ H D I h;refine wpAny_execs_cons (thn (h1 pins s σ H D I h) fun f s1 q=>?_)
 cases f with
 | next=>exact wpAny_execs_nil q
 | ret v=>exact q
 | brk=>exact q
 | cont=>exact q
theorem Inv.quiet {pins:List (Addr×Obj)} {σ:St} {H:Hp} {s:Shared} (I:Inv X pins σ H s):interactive X.env=false:=by simp [interactive,I.ok.kind]
def tDrop (te:TE):TS:=fun D σ H=>te σ H fun _ H1=>D.nx σ H1
theorem zS (he:PE X e te) (hs:swapsWith e none pos.line X.env=pure false:=by rfl):PS X (.Expr e pos) (tDrop te):=by
 intro pins s σ H D I h;exact wpAny_Expr_any (thn (he pins s σ H _ I h) fun v s1 ⟨x,H1,I1,r1,q1⟩=>⟨σ,H1,I1,q1⟩) I.quiet hs
def tRet (te:TE):TS:=fun D σ H=>te σ H D.rt
theorem zn (he:PE X e te):PS X (.Return (some e) pos) (tRet te):=by
 intro pins s σ H D I h;exact wpAny_Return_some (thn (he pins s σ H _ I h) fun v s1 ⟨x,H1,I1,r1,q1⟩=>⟨x,σ,H1,I1,r1,q1⟩)
def tIfS (c:TT) (t u:TS):TS:=fun D σ H=>c σ H fun b H1=>if b=true then t D σ H1 else u D σ H1
theorem zK {c:Expr} {a b:List Stmt} {tc:TT} (hc:PT X c tc) (ha:PSs X a t) (hb:PSs X b u):PS X (.If c a b pos) (tIfS tc t u):=by
 intro pins s σ H D I h;refine wpAny_If (thn (hc pins s σ H _ I h) fun d s1 ⟨H1,I1,q1⟩=>?_)
 cases d with
 | true=>exact ha pins s1 σ H1 D I1 q1
 | false=>exact hb pins s1 σ H1 D I1 q1
end
abbrev TG:=V->St->Hp->(St->Hp->Prop)->Prop
abbrev TGs:=List V->St->Hp->(St->Hp->Prop)->Prop
def PG (X:Cx) (target:Expr) (t:TG):Prop :=
 ∀ (pins:List (Addr×Obj)) (s:Shared) (σ:St) (H:Hp) (v:V) (u:Value) (Q:St->Hp->Prop),Inv X pins σ H s->RelV v u->t v σ H Q ->
  wpAny (model X.prog X.w) X.A (assign target X.env u) (fun _ s'=>∃ σ' H',Inv X pins σ' H' s'/\Q σ' H') X.xe s
def PGs (X:Cx) (ts:List Expr) (t:TGs):Prop :=
 ∀ (pins:List (Addr×Obj)) (s:Shared) (σ:St) (H:Hp) (vs:List V) (us:List Value) (Q:St->Hp->Prop),Inv X pins σ H s->Vals vs us->t vs σ H Q ->
  wpAny (model X.prog X.w) X.A (assignInOrder ((assignEach ts X.env).map (·.2)) us) (fun _ s'=>∃ σ' H',Inv X pins σ' H' s'/\Q σ' H') X.xe s
abbrev TSet:=V->V->V->Hp->(Hp->Prop)->Prop
def PSet (X:Cx) (t:TSet):Prop :=
 ∀ (pins:List (Addr×Obj)) (s:Shared) (σ:St) (H:Hp) (o i v:V) (ov iv u:Value) (Q:Hp->Prop),Inv X pins σ H s->RelV o ov->RelV i iv->RelV v u->t o i v H Q ->
  wpAny (model X.prog X.w) X.A (setItem ov iv u) (fun _ s'=>∃ H',Inv X pins σ H' s'/\Q H') X.xe s
section
variable {X:Cx} {pos:Pos}
def Xb (i:Nat):TG:=fun v σ H Q=>Q (σ.set i (some v)) H
theorem zW {i:Nat} {x:Str} (hN:X.N.Nodup) (hi:X.N[i]?=some x) (hx:Loc X.env.scope x) (hf:X.fn x=true∨X.env.scope.names.lookup x=some .local:=by first | exact .inl rfl | exact .inr rfl | assumption):PG X (.Name x pos) (Xb i):=by
 intro pins s σ H v u Q I r h;exact wpAny_assign_Name (zfv I hN hi hx r (fun s' I'=>⟨_,H,I',h⟩) hf)
def gNil:TGs:=fun vs σ H Q=>vs=[]/\Q σ H
def gCons (t:TG) (u:TGs):TGs:=fun vs σ H Q=>∃ v r,vs=v::r/\t v σ H fun σ' H'=>u r σ' H' Q
theorem pgs_nil:PGs X [] gNil:=by
 intro pins s σ H vs us Q I r h;obtain ⟨e,h⟩:=h;subst e;cases r;exact assignInOrder_nil ⟨σ,H,I,h⟩
theorem Z8 {e:Expr} {es:List Expr} {t:TG} {u:TGs} (h1:PG X e t) (h2:PGs X es u)
  (hs:(assignEach (e::es) X.env).map (·.2)=assign e X.env::(assignEach es X.env).map (·.2):=by rfl):PGs X (e::es) (gCons t u):=by
 intro pins s σ H vs us Q I r h;obtain ⟨v,vr,e1,h⟩:=h;subst e1
 cases r with
 | cons r rr =>
  rw [hs];refine assignInOrder_cons (thn (h1 pins s σ H _ _ _ I r h) fun _ s1 ⟨σ1,H1,I1,q1⟩=>?_);exact h2 pins s1 σ1 H1 _ _ Q I1 rr q1
def gTup (K:PySem.W.Frag) (n:Nat) (t:TGs):TG:=fun v σ H Q=>∃ a xs,v=.ref a/\SqT K H a xs/\xs.length=n/\t xs σ H Q
theorem pg_tup {es:List Expr} {k:Nat} {t:TGs} {n:Nat} (hc:X.calm=true) (h:PGs X es t)
  (hn:(assignEach es X.env).length=n:=by rfl) (hst:(assignEach es X.env).findIdx? (·.1)=none:=by rfl):PG X (.Tuple es k pos) (gTup X.K n t):=by
 intro pins s σ H v u Q I r hw;obtain ⟨a,xs,e1,hq,hl,hw⟩:=hw;subst e1;cases r;obtain ⟨its,rv,ht,hz⟩:=I.tuple hq;refine assign_Tuple_tuple (I.ok.hd hc) ht (by simp [hn,← hl,rv.length]) hst fun h' hx=>?_;have I1:Inv X pins σ H { s with heap:=h' }:=I.kept (t':=s.toks) fun b o e=>hx b o (Nat.ne_of_lt (Heap.lt_size e)) e;exact h pins _ σ H xs _ Q I1 (by simpa using rv) hw
def gSub (to ti:TE) (t:TSet):TG:=fun v σ H Q=>to σ H fun o H1=>ti σ H1 fun i H2=>t o i v H2 fun H3=>Q σ H3
theorem Yh {o i:Expr} {to ti:TE} {t:TSet} (ho:PE X o to) (hi:PE X i ti) (hs:PSet X t)
  (ha:∀ v,assign (.Subscript o i pos) X.env v=(do
   let ov ← holding [v] (eval o X.env);let iv ← holding [v,ov] (eval i X.env)
   standAt pos
   holding [v,ov,iv] (setItem ov iv v)
   release [v,ov,iv] []):=by intro _;rfl):PG X (.Subscript o i pos) (gSub to ti t):=by
 intro pins s σ H v u Q I r h;rw [ha];refine wpAny_bind (wpAny_holding (thn (ho pins s σ H _ I h) fun ov s1 ⟨x,H1,I1,r1,q1⟩=>?_));refine wpAny_bind (wpAny_holding (thn (hi pins s1 σ H1 _ I1 q1) fun iv s2 ⟨y,H2,I2,r2,q2⟩=>?_));refine wpAny_bind (wpAny_standAt (wpAny_bind (wpAny_holding (thn (hs pins s2 σ H2 x y v ov iv u _ I2 r1 r2 r q2) fun _ s3 ⟨H3,I3,q3⟩=>?_))));exact wpAny_release ⟨σ,H3,I3,q3⟩
def tAsg (te:TE) (g:TG):TS:=fun D σ H=>te σ H fun x H1=>g x σ H1 D.nx
theorem Yg {tg e:Expr} {te:TE} {g:TG} (he:PE X e te) (hg:PG X tg g) (hs:swapsWithSole [tg] e pos.line X.env=pure false:=by rfl) (hw:swappedStores [tg] e X.env=pure none:=by rfl)
  (h1:(assignEach [tg] X.env).map (·.2)=[assign tg X.env]:=by rfl):PS X (.Assign [tg] e pos) (tAsg te g):=by
 intro pins s σ H D I h;refine wpAny_Assign_stores (thn (he pins s σ H _ I h) fun v s1 ⟨x,H1,I1,r1,q1⟩=>?_) hs hw;rw [h1];exact thn (hg pins s1 σ H1 x v _ I1 r1 q1) fun _ s2 q=>q
theorem zF {i:Nat} {x:Str} {e:Expr} {te:TE} {pos':Pos} (hN:X.N.Nodup) (hi:X.N[i]?=some x) (hx:Loc X.env.scope x) (he:PE X e te) (hs:swapsWith e (some (.Name x pos')) pos.line X.env=pure false:=by rfl) (hf:X.fn x=true∨X.env.scope.names.lookup x=some .local:=by first | exact .inl rfl | exact .inr rfl | assumption) :
  PS X (.Assign [.Name x pos'] e pos) (tAsg te (Xb i)):=by
 intro pins s σ H D I h;refine wpAny_Assign_Name (thn (he pins s σ H _ I h) fun v s1 ⟨y,H1,I1,r1,q1⟩=>?_) hs;exact zfv I1 hN hi hx r1 (fun s2 I2=>⟨_,H1,I2,q1⟩) hf
def tWhile (c:TT) (tb:TS):TS:=fun D σ H=>∃ W:Nat->St->Hp->Prop,(∃ m,W m σ H)/\∀ m σ H,W m σ H ->
 c σ H fun b H1=>if b=true then ∃ N:St->Hp->Prop,(∀ σ' H',N σ' H'->∃ m',m'<m/\W m' σ' H')/\tb { D with nx:=N,ct:=N,bk:=D.nx } σ H1 else D.nx σ H1
theorem ps_while {c:Expr} {body:List Stmt} {tc:TT} {tb:TS} (hp:PassesOwn (model X.prog X.w) X.A X.env X.xe) (hc:PT X c tc) (hb:PSs X body tb):PS X (.While c body [] pos) (tWhile tc tb):=by
 intro pins s σ H D I h;obtain ⟨W,⟨m0,w0⟩,turn⟩:=h;refine wpAny_While (codeAny_whileLoop (fun n s'=>∃ σ' H',Inv X pins σ' H' s'/\W n σ' H') ?_ m0 ⟨σ,H,I,w0⟩);rintro n s1 ⟨σ1,H1,I1,w1⟩;refine wpAny_passesOwn hp (thn (hc pins s1 σ1 H1 _ I1 (turn n σ1 H1 w1)) fun b s2 ⟨H2,I2,q2⟩=>?_)
 cases b with
 | true =>
  obtain ⟨N,hN,q2⟩:=q2;rw [if_pos rfl];refine wpAny_passesOwn hp (thn (hb pins s2 σ1 H2 _ I2 q2) fun f s3 q3=>?_)
  cases f with
  | next =>
   obtain ⟨σ3,H3,I3,n3⟩:=q3;obtain ⟨m',hm,w3⟩:=hN σ3 H3 n3;exact ⟨m',hm,σ3,H3,I3,w3⟩
  | cont =>
   obtain ⟨σ3,H3,I3,n3⟩:=q3;obtain ⟨m',hm,w3⟩:=hN σ3 H3 n3;exact ⟨m',hm,σ3,H3,I3,w3⟩
  | brk=>exact q3
  | ret v=>exact q3
 | false =>
  rw [if_neg Bool.false_ne_true];exact wpAny_execs_nil ⟨σ1,H2,I2,q2⟩
end
structure It where
 go:Nat->Hp->Prop
 yld:Nat->Hp->V->Hp->Prop
 stop:Nat->Hp->Prop
def ZF (X:Cx) (pins:List (Addr×Obj)) (H:Hp) (b:Addr):Prop :=
 H b=none/\b≠X.env.locals/\b ∉ X.fs/\(b∈X.ex∨X.s₀.heap.objs.size<=b)/\(∀ x c,X.env.cells.lookup x=some c->c≠b)/\∀ p∈X.pn++pins,p.1≠b
theorem Inv.fpOk {X:Cx} {pins:List (Addr×Obj)} {σ:St} {H H':Hp} {s:Shared} {b:Addr} (I:Inv X pins σ H s) (hb:s.heap.objs.size<=b) (hn:H' b=none):ZF X pins H' b:=by
 refine ⟨hn,Nat.ne_of_gt (Nat.lt_of_lt_of_le I.lt hb),I.nofs hb,.inr (Nat.le_trans I.sz hb),fun x c e z=>?_,fun p hp z=>?_⟩
 ·obtain ⟨v,q⟩:=I.cell x c e
  exact absurd (Nat.lt_of_lt_of_le q.lt (by rw [z];exact hb)) (Nat.lt_irrefl _)
 ·exact absurd (Nat.lt_of_lt_of_le (Heap.lt_size (I.pin p hp).1) (by rw [z];exact hb)) (Nat.lt_irrefl _)
structure Turn (P:Program) (w:World) (K:PySem.W.Frag) (tg:Expr) (J:It) (fp:List Addr) (it:Addr) (tn:Nat->Heap->Prop):Prop where
 mem:it∈fp
 obj:∀ i h,tn i h->∀ b∈fp,∃ o,h.get? b=some o/\∀ v,o.data≠.cell v
 keep:∀ i h h',tn i h->(∀ b∈fp,∀ o,h.get? b=some o->h'.get? b=some o)->tn i h'
 item:∀ (X:Cx),X.prog=P->X.w=w->X.K=K->X.calm=true->∀ (i:Nat) (pins:List (Addr×Obj)) (s:Shared) (σ:St) (H:Hp) (E:Value->Shared->Prop),Inv X pins σ H s->(∀ b∈fp,ZF X pins H b)->tn i s.heap->J.go i H ->
  wpAny (model P w) X.A (pyNext (.ref it)) (fun r s1=>∃ u,r=some u /\
   wpAny (model P w) X.A (letOwnedTupleGo tg (.ref it) u) (fun _ s2=>∃ x H',Inv X pins σ H' s2/\RelV x u/\J.yld i H x H'/\tn (i+1) s2.heap/\∀ b∈fp,H' b=none) E s1) E s
 done:∀ (X:Cx),X.prog=P->X.w=w->X.K=K->X.calm=true->∀ (i:Nat) (pins:List (Addr×Obj)) (s:Shared) (σ:St) (H:Hp) (E:Value->Shared->Prop),Inv X pins σ H s->(∀ b∈fp,ZF X pins H b)->tn i s.heap->J.stop i H ->
  wpAny (model P w) X.A (pyNext (.ref it)) (fun r s1=>r=none/\Inv X pins σ H s1) E s
 self:∀ (A:Around) (i:Nat) (s:Shared) (Q:Value->Shared->Prop) (E:Value->Shared->Prop),tn i s.heap->Q (.ref it) s->wpAny (model P w) A (pyIter (.ref it)) Q E s
abbrev TI:=St->Hp->(It->Hp->Prop)->Prop
def PIE (X:Cx) (pins:List (Addr×Obj)) (σ:St) (tg:Expr) (R:It->Hp->Prop) (itv:Value) (s2:Shared):Prop :=
 ∃ (it:Addr) (fp:List Addr) (tn:Nat->Heap->Prop) (J:It) (H':Hp),itv=.ref it/\Inv X pins σ H' s2/\Turn X.prog X.w X.K tg J fp it tn/\tn 0 s2.heap/\(∀ b∈fp,ZF X pins H' b)/\R J H'
def PI (X:Cx) (tg iter:Expr) (wi:TI):Prop :=
 ∀ (pins:List (Addr×Obj)) (s:Shared) (σ:St) (H:Hp) (R:It->Hp->Prop),Inv X pins σ H s->wi σ H R ->
  wpAny (model X.prog X.w) X.A (eval iter X.env) (fun v s1=>wpAny (model X.prog X.w) X.A (pyIter v) (PIE X pins σ tg R) X.xe s1) X.xe s
theorem go_of {M:Model} {A:Around} {E:Value->Shared->Prop} {s:Shared} {tg:Expr} {it:Addr} {u:Value} {o:Obj} {n:String} {vs:Array Value} {Q:Unit->Shared->Prop} (ho:s.heap.get? it=some o) (hc:o.cls=.type n) (hd:o.data=.fields vs)
    (hn:["enumerate","zip","dict_itemiterator","dict_reverseitemiterator","odict_iterator","itertools.zip_longest","itertools.pairwise"].contains n=false) (hQ:Q () s):wpAny M A (letOwnedTupleGo tg (.ref it) u) Q E s:=by
  unfold letOwnedTupleGo;cases tg <;> first
    | exact wpAny_pure hQ
    | (cases u <;> first
        | exact wpAny_pure hQ
        | (refine wpAny_bind (wpAny_load ho ?_)
           rw [hc,hd];show wpAny M A (if (["enumerate","zip","dict_itemiterator","dict_reverseitemiterator","odict_iterator","itertools.zip_longest","itertools.pairwise"].contains n && vs[0]? == some (rawInt _))=true then _ else _) Q E s;rw [if_neg (by intro h;rw [hn,Bool.false_and] at h;cases h)];exact wpAny_pure hQ))
def Itl (K:PySem.W.Frag) (a:Addr):It :=
 ⟨fun i H=>∃ xs x,SqL K H a xs/\xs[i]?=some x,fun i H x H'=>H'=H/\∀ xs,SqL K H a xs->xs[i]?=some x,fun i H=>∃ xs,SqL K H a xs/\xs.length<=i⟩
def Itr (lo:Int) (n:Nat):It:=⟨fun i _=>i<n,fun i H x H'=>H'=H/\x=.int (lo+i),fun i _=>n<=i⟩
theorem turn_list {P:Program} {w:World} {K:PySem.W.Frag} {tg:Expr} (a it:Addr):Turn P w K tg (Itl K a) [it] it (fun i h=>h.IsListIter it a i) where
 mem:=by simp
 obj:=fun i h st b hb=>by
  have e:b=it:=by simpa using hb
  subst e;obtain ⟨o,e,c,d⟩:=st;exact ⟨o,e,fun v z=>by rw [d] at z;cases z⟩
 keep:=fun i h h' st k=>st.at fun o e=>k it (by simp) o e
 item:=by
  intro X hP hw hK hc i pins s σ H E I hf st hg;subst hP hw hK;obtain ⟨xs,x,hq,hx⟩:=hg;obtain ⟨its,rv,p,hz⟩:=I.list hq;obtain ⟨u,hu,ru⟩:=rv.get hx;obtain ⟨f0,f1,f2,f3,f4,f5⟩:=hf it (by simp);refine wpAny_pyNext_list_item st p.isList (x:=u) (by simpa using hu) fun h' st' sb=>?_;have I1:Inv X pins σ H { s with heap:=h' }:=I.turned (t':=s.toks) (fun b o hb e=>(sb.2 b hb).trans e) f0 f1 f3 f4 f5;obtain ⟨o,e,c,d⟩:=id st';exact ⟨u,rfl,go_of (s:={ s with heap:=h' }) e c d (by decide) ⟨x,H,I1,ru,⟨rfl,fun ys hy=>by rw [I.list_inj hy hq];exact hx⟩,st',fun b hb=>(hf b hb).1⟩⟩
 done:=by
  intro X hP hw hK hc i pins s σ H E I hf st hg;subst hP hw hK;obtain ⟨xs,hq,hx⟩:=hg;obtain ⟨its,rv,p,hz⟩:=I.list hq;obtain ⟨f0,f1,f2,f3,f4,f5⟩:=hf it (by simp);have hl:=rv.length;exact wpAny_pyNext_list_end (I.ok.hd hc) st p.isList (by simp;omega) fun h' eb=>⟨rfl,I.turned (t':=s.toks) (fun b o hb e=>eb b o hb e) f0 f1 f3 f4 f5⟩
 self:=fun _ _ _ _ _ st h=>wpAny_pyIter_listiter st h
theorem zg0 {P:Program} {w:World} {K:PySem.W.Frag} {tg:Expr} (it:Addr) (lo:Int) (n:Nat):Turn P w K tg (Itr lo n) [it] it (fun i h=>IsRangeIter h it (lo+(i:Nat)*1) ((n:Int)-(i:Nat)) 1) where
 mem:=by simp
 obj:=fun i h st b hb=>by
  have e:b=it:=by simpa using hb
  subst e
  exact ⟨_,st,fun v z=>by
   have z':Data.fields _=Data.cell v:=z;cases z'⟩
 keep:=fun i h h' st k=>k it (by simp) _ st
 item:=by
  intro X hP hw hK hc i pins s σ H E I hf st hg;subst hP hw hK;obtain ⟨f0,f1,f2,f3,f4,f5⟩:=hf it (by simp);have W:=Walks.range (prog:=X.prog) (w:=X.w) (I.ok.hd hc) it lo 1 n;refine W.item i s _ _ hg st fun v h' tk hv st' kk=>?_;obtain ⟨t,rfl⟩:=hv;have I1:Inv X pins σ H { s with heap:=h',toks:=tk }:=I.turned (fun b o hb e=>kk b o (by simpa using hb) e) f0 f1 f3 f4 f5;refine ⟨_,rfl,go_of (s:={ s with heap:=h',toks:=tk }) (n:="range_iterator") st' rfl rfl (by decide) ⟨.int (lo+i),H,I1,⟨t,?_⟩,⟨rfl,rfl⟩,st',fun b hb=>(hf b hb).1⟩⟩;rw [Int.mul_one]
 done:=by
  intro X hP hw hK hc i pins s σ H E I hf st hg;subst hP hw hK;obtain ⟨f0,f1,f2,f3,f4,f5⟩:=hf it (by simp);exact wpAny_pyNext_range_end (I.ok.hd hc) st (by have:n<=i:=hg;omega) fun h' eb=>⟨rfl,I.turned (t':=s.toks) (fun b o hb e=>eb b o hb e) f0 f1 f3 f4 f5⟩
 self:=fun _ _ _ _ _ st h=>wpAny_pyIter_rangeiter st h
section
variable {X:Cx} {tg:Expr}
def iList (K:PySem.W.Frag) (tl:TE):TI:=fun σ H R=>tl σ H fun x H1=>∃ a,x=.ref a/\(∃ xs,SqL K H1 a xs)/\R (Itl K a) H1
theorem xz {l:Expr} {tl:TE} (hl:PE X l tl):PI X tg l (iList X.K tl):=by
 intro pins s σ H R I h;refine thn (hl pins s σ H _ I h) fun v s1 ⟨x,H1,I1,r1,q1⟩=>?_;obtain ⟨a,e,⟨xs,hq⟩,q⟩:=q1;subst e;cases r1;obtain ⟨its,rv,p,hz⟩:=I1.list hq;refine wpAny_pyIter_list p.isList ?_;refine ⟨s1.heap.objs.size,[s1.heap.objs.size],_,_,H1,rfl,I1.kept (t':=s1.toks) fun b o e=>Heap.get?_push_of_some _ e,turn_list a _,⟨_,Heap.get?_push_size _ rfl,rfl,rfl⟩,fun b hb=>?_,q⟩;have e:b=s1.heap.objs.size:=by simpa using hb
 subst e;exact I1.fpOk (Nat.le_refl _) (I1.hok.fresh (Nat.le_refl _))
theorem zf8 {pins:List (Addr×Obj)} {σ:St} {H:Hp} {s:Shared} {R:It->Hp->Prop} {E:Value->Shared->Prop} {lo hi:Int} {t u v:Tok} {tk:Nat} (I:Inv X pins σ H s) (h1:-(2 ^ 62)<=lo) (h2:lo<2 ^ 62) (h3:-(2 ^ 62)<=hi) (h4:hi<2 ^ 62)
  (q:R (Itr lo (hi-lo).toNat) H):wpAny (model X.prog X.w) X.A (pyIter (.ref s.heap.objs.size)) (PIE X pins σ tg R) E { s with heap:=s.heap.push { cls:=.type "range",data:=.fields #[.int lo t,.int hi u,.int 1 v] },toks:=tk }:=by
 refine wpAny_pyIter_range (IsRange.new ..) (small_one h1 h2 h3 h4) ?_;have I1:Inv X pins σ H { s with heap:=s.heap.push { cls:=.type "range",data:=.fields #[.int lo t,.int hi u,.int 1 v] },toks:=tk }:=I.kept fun b o e=>Heap.get?_push_of_some _ e
 refine ⟨(s.heap.push { cls:=.type "range",data:=.fields #[.int lo t,.int hi u,.int 1 v] }).objs.size,[(s.heap.push { cls:=.type "range",data:=.fields #[.int lo t,.int hi u,.int 1 v] }).objs.size],_,_,H,rfl,
  I1.kept (t':=tk) fun b o e=>Heap.get?_push_of_some _ e,zg0 _ lo (hi-lo).toNat,?_,fun b hb=>?_,q⟩
 ·have e1:lo+((0:Nat):Int)*1=lo:=by simp
  have e2:(((hi-lo).toNat:Nat):Int)-((0:Nat):Int)=Builtin.Range.rangeSize lo hi 1:=by rw [rangeSize_one];split <;> omega
  show IsRangeIter _ _ (lo+((0:Nat):Int)*1) ((((hi-lo).toNat:Nat):Int)-((0:Nat):Int)) 1;rw [e1,e2];exact Heap.get?_push_size _ rfl
 ·have e:b=(s.heap.push { cls:=.type "range",data:=.fields #[.int lo t,.int hi u,.int 1 v] }).objs.size:=by simpa using hb
  subst e;exact I1.fpOk (Nat.le_refl _) (I1.hok.fresh (Nat.le_refl _))
def iRng1 (ta:TA):TI:=fun σ H R=>ta σ H fun vs H1=>∃ j:Int,vs=[.int j]/\-(2 ^ 62)<=j/\j<2 ^ 62/\R (Itr 0 j.toNat) H1
def iRng2 (ta:TA):TI:=fun σ H R=>ta σ H fun vs H1=>∃ i j:Int,vs=[.int i,.int j]/\(-(2 ^ 62)<=i/\i<2 ^ 62/\-(2 ^ 62)<=j/\j<2 ^ 62)/\R (Itr i (j-i).toNat) H1
theorem xv {a:Expr} {ta:TA} {p pos:Pos} (hg:Gl X "range") (hm:X.mg "range"=none) (ha:PA X [a] ta) (hs:starEach [a] X.env=[(false,eval a X.env)]:=by rfl):PI X tg (.Call (.Name "range" p) [a] [] pos) (iRng1 ta):=by
 intro pins s σ H R I h;refine Call_ (ZB I hg hm boot_range (PyProof.Rows.callWith_type1 (thn (ha pos pins s σ H _ I h) fun us s1 ⟨vs,H1,I1,r1,q1⟩=>?_) hs rfl));obtain ⟨j,e,q1,q2,q⟩:=q1;subst e
 cases r1 with
 | cons r rr =>
  cases rr;obtain ⟨t,rfl⟩:=r;exact call_range_1 (zf8 I1 (by omega) (by omega) q1 q2 (by simpa using q))
theorem pi_range2 {a b:Expr} {ta:TA} {p pos:Pos} (hg:Gl X "range") (hm:X.mg "range"=none) (ha:PA X [a,b] ta) (hs:starEach [a,b] X.env=[(false,eval a X.env),(false,eval b X.env)]:=by rfl) (hs2:starEach [b] X.env=[(false,eval b X.env)]:=by rfl) :
  PI X tg (.Call (.Name "range" p) [a,b] [] pos) (iRng2 ta):=by
 intro pins s σ H R I h;refine Call_ (ZB I hg hm boot_range (PyProof.Rows.callWith_type1 (thn (ha pos pins s σ H _ I h) fun us s1 ⟨vs,H1,I1,r1,q1⟩=>?_) (by rw [hs,hs2]) (by rw [hs2];rfl)));obtain ⟨i,j,e,⟨q1,q2,q3,q4⟩,q⟩:=q1;subst e
 cases r1 with
 | cons r rr =>
  cases rr with
  | cons r' rr =>
   cases rr;obtain ⟨t,rfl⟩:=r;obtain ⟨t',rfl⟩:=r';exact call_range_2 (zf8 I1 q1 q2 q3 q4 q)
def tFor (wi:TI) (g:TG) (tb:TS):TS:=fun D σ H=>wi σ H fun J H1=>∃ W:Nat->Nat->St->Hp->Prop,(∃ m,W 0 m σ H1)/\∀ i m σ H,W i m σ H ->
 (J.stop i H/\D.nx σ H)∨(J.go i H/\∃ N:St->Hp->Prop,(∀ σ' H',N σ' H'->∃ m',m'<m/\W (i+1) m' σ' H')/\∀ x H',J.yld i H x H'->g x σ H' fun σ2 H2=>tb { D with nx:=N,ct:=N,bk:=D.nx } σ2 H2)
def YZ (fp:List Addr) (h:Heap):List (Addr×Obj):=fp.filterMap fun b=>(h.get? b).map fun o=>(b,o)
theorem xM {fp:List Addr} {h:Heap} {b:Addr} {o:Obj} (hb:b∈fp) (e:h.get? b=some o):(b,o)∈YZ fp h:=List.mem_filterMap.mpr ⟨b,hb,by rw [e];rfl⟩
theorem of_pinsAt {fp:List Addr} {h:Heap} {p:Addr×Obj} (hp:p∈YZ fp h):p.1∈fp/\h.get? p.1=some p.2:=by
 obtain ⟨b,hb,e⟩:=List.mem_filterMap.mp hp
 cases q:h.get? b with
 | none=>rw [q] at e;cases e
 | some o =>
  rw [q] at e;have e':(b,o)=p:=Option.some.inj e;subst e';exact ⟨hb,q⟩
theorem Inv.pinned {pins:List (Addr×Obj)} {σ:St} {H:Hp} {s:Shared} {fp:List Addr} (I:Inv X pins σ H s) (hf:∀ b∈fp,ZF X pins H b) (ho:∀ b∈fp,∃ o,s.heap.get? b=some o/\∀ v,o.data≠.cell v):Inv X (pins++YZ fp s.heap) σ H s :=
 I.pins_of fun p hp=>(List.mem_append.mp hp).elim (fun z=>I.pin p (List.mem_append_right _ z)) fun z=>by
  obtain ⟨hb,e⟩:=of_pinsAt z;obtain ⟨f0,f1,f2,_⟩:=hf p.1 hb;obtain ⟨o,e',d⟩:=ho p.1 hb;rw [e] at e';cases e';exact ⟨e,f0,f1,f2,d⟩
theorem Inv.unpinned {pins pl:List (Addr×Obj)} {σ:St} {H:Hp} {s:Shared} (I:Inv X (pins++pl) σ H s):Inv X pins σ H s:=I.pins_of fun p hp=>I.pin p (List.mem_append_right _ (List.mem_append_left _ hp))
theorem Ze {iter:Expr} {body:List Stmt} {wi:TI} {g:TG} {tb:TS} {pos:Pos} (hp:PassesOwn (model X.prog X.w) X.A X.env X.xe) (hc:X.calm=true) (hi:PI X tg iter wi) (hg:PG X tg g) (hb:PSs X body tb)
  (hs:∀ x,foldedSetIterable iter X.env x=pure x:=by intro _;rfl):PS X (.For tg iter body [] pos) (tFor wi g tb):=by
 intro pins s σ H D I h;refine wpAny_For (thn (hi pins s σ H _ I h) fun v s1 h1=>thn h1 fun itv s2 h2=>?_) hs;obtain ⟨it,fp,tn,J,H2,e,I2,T,st2,f2,W,⟨m0,w0⟩,turn⟩:=h2;subst e;have stat:∀ {H':Hp},(∀ b∈fp,H' b=none)->∀ b∈fp,ZF X pins H' b:=fun hn b hb=>⟨hn b hb,(f2 b hb).2⟩;refine codeAny_forLoop_any (fun n s'=>∃ i σ' H',Inv X pins σ' H' s'/\tn i s'.heap/\(∀ b∈fp,H' b=none)/\W i n σ' H') ?_ m0 ⟨0,σ,H2,I2,st2,fun b hb=>(f2 b hb).1,w0⟩;rintro n s3 ⟨i,σ3,H3,I3,st3,fr3,w3⟩;rcases turn i n σ3 H3 w3 with ⟨stop,qn⟩ | ⟨go,N,hN,step⟩
 ·refine wpAny_passesOwn hp (thn (T.done X rfl rfl rfl hc i pins s3 σ3 H3 X.xe I3 (stat fr3) st3 stop) fun r s4 ⟨hr,I4⟩=>?_)
  subst hr;exact wpAny_execs_nil ⟨σ3,H3,I4,qn⟩
 ·refine wpAny_passesOwn hp (thn (T.item X rfl rfl rfl hc i pins s3 σ3 H3 X.xe I3 (stat fr3) st3 go) fun r s4 ⟨u,hr,h4⟩=>?_)
  subst hr;refine wpAny_passesOwn hp (thn h4 fun _ s5 ⟨x,H5,I5,r5,y5,st5,fr5⟩=>?_);have I5':=I5.pinned (stat fr5) (T.obj _ _ st5);refine wpAny_passesOwn hp (thn (hg _ s5 σ3 H5 x u _ I5' r5 (step x H5 y5)) fun _ s6 ⟨σ6,H6,I6,q6⟩=>?_);refine wpAny_passesOwn hp (thn (hb _ s6 σ6 H6 _ I6 q6) fun f s7 q7=>?_)
  have again:∀ {σ7:St} {H7:Hp},Inv X (pins++YZ fp s5.heap) σ7 H7 s7->N σ7 H7->∃ m,m<n/\∃ i σ' H',Inv X pins σ' H' s7/\tn i s7.heap/\(∀ b∈fp,H' b=none)/\W i m σ' H':=fun {σ7 H7} I7 n7=>by
   obtain ⟨m',hm,w7⟩:=hN σ7 H7 n7;refine ⟨m',hm,i+1,σ7,H7,I7.unpinned,T.keep _ _ _ st5 fun b hb o e=>(I7.pin (b,o) (List.mem_append_right _ (List.mem_append_right _ (xM hb e)))).1,fun b hb=>?_,w7⟩;obtain ⟨o,e,d⟩:=T.obj _ _ st5 b hb;exact (I7.pin (b,o) (List.mem_append_right _ (List.mem_append_right _ (xM hb e)))).2.1
  cases f with
  | next=>obtain ⟨σ7,H7,I7,n7⟩:=q7;exact again I7 n7
  | cont=>obtain ⟨σ7,H7,I7,n7⟩:=q7;exact again I7 n7
  | brk=>obtain ⟨σ7,H7,I7,q7⟩:=q7;exact ⟨σ7,H7,I7.unpinned,q7⟩
  | ret v=>obtain ⟨x7,σ7,H7,I7,r7,q7⟩:=q7;exact ⟨x7,σ7,H7,I7.unpinned,r7,q7⟩
end
theorem ZC {K:PySem.W.Frag} {a:Addr} {xs:List V} {g:TG} {tb:TS} {D:Ends} {σ:St} {H:Hp} (Pv:Nat->St->Hp->Prop) (h0:Pv 0 σ H) (hl:∀ i σ H,i<=xs.length->Pv i σ H->SqL K H a xs)
  (hs:∀ i x σ H,xs[i]?=some x->Pv i σ H->g x σ H fun σ2 H2=>tb { D with nx:=Pv (i+1),ct:=Pv (i+1),bk:=D.nx } σ2 H2) (hd:∀ σ H,Pv xs.length σ H->D.nx σ H) :
  ∃ W:Nat->Nat->St->Hp->Prop,(∃ m,W 0 m σ H)/\∀ i m σ H,W i m σ H ->
   ((Itl K a).stop i H/\D.nx σ H)∨((Itl K a).go i H/\∃ N:St->Hp->Prop,(∀ σ' H',N σ' H'->∃ m',m'<m/\W (i+1) m' σ' H')/\∀ x H',(Itl K a).yld i H x H'->g x σ H' fun σ2 H2=>tb { D with nx:=N,ct:=N,bk:=D.nx } σ2 H2):=by
 refine ⟨fun i m σ H=>m=xs.length-i/\i<=xs.length/\Pv i σ H,⟨xs.length,by simp,Nat.zero_le _,h0⟩,?_⟩;rintro i m σ H ⟨rfl,hi,p⟩;have q:=hl i σ H hi p;by_cases hlt:i<xs.length
 ·refine .inr ⟨⟨xs,xs[i],q,by simp [hlt]⟩,Pv (i+1),fun σ' H' p'=>⟨xs.length-(i+1),by omega,rfl,hlt,p'⟩,fun x H' y=>?_⟩
  obtain ⟨e,y⟩:=y;subst e;exact hs i x σ _ (y xs q) p
 ·have e:i=xs.length:=by omega
  subst e;exact .inl ⟨⟨xs,q,Nat.le_refl _⟩,hd σ H p⟩
theorem ZP {lo:Int} {n:Nat} {g:TG} {tb:TS} {D:Ends} {σ:St} {H:Hp} (Pv:Nat->St->Hp->Prop) (h0:Pv 0 σ H)
  (hs:∀ i σ H,i<n->Pv i σ H->g (.int (lo+i)) σ H fun σ2 H2=>tb { D with nx:=Pv (i+1),ct:=Pv (i+1),bk:=D.nx } σ2 H2) (hd:∀ σ H,Pv n σ H->D.nx σ H) :
  ∃ W:Nat->Nat->St->Hp->Prop,(∃ m,W 0 m σ H)/\∀ i m σ H,W i m σ H ->
   ((Itr lo n).stop i H/\D.nx σ H)∨((Itr lo n).go i H/\∃ N:St->Hp->Prop,(∀ σ' H',N σ' H'->∃ m',m'<m/\W (i+1) m' σ' H')/\∀ x H',(Itr lo n).yld i H x H'->g x σ H' fun σ2 H2=>tb { D with nx:=N,ct:=N,bk:=D.nx } σ2 H2):=by
 refine ⟨fun i m σ H=>m=n-i/\i<=n/\Pv i σ H,⟨n,by simp,Nat.zero_le _,h0⟩,?_⟩;rintro i m σ H ⟨rfl,hi,p⟩;by_cases hlt:i<n
 ·refine .inr ⟨hlt,Pv (i+1),fun σ' H' p'=>⟨n-(i+1),by omega,rfl,hlt,p'⟩,fun x H' y=>?_⟩
  obtain ⟨e,y⟩:=y;subst e y;exact hs i σ _ hlt p
 ·have e:i=n:=by omega
  subst e;exact .inl ⟨Nat.le_refl _,hd σ H p⟩
abbrev R2:=V->V->Hp->VK->Prop
def OpR (X:Cx) (f:Value->Value->Sem Value) (r:R2):Prop :=
 ∀ (pins:List (Addr×Obj)) (s:Shared) (σ:St) (H:Hp) (x y:V) (v u:Value) (Q:VK),Inv X pins σ H s->RelV x v->RelV y u->r x y H Q ->
  wpAny (model X.prog X.w) X.A (f v u) (EP X pins σ Q) X.xe s
def UnR (X:Cx) (f:Value->Sem Value) (r:V->Hp->VK->Prop):Prop :=
 ∀ (pins:List (Addr×Obj)) (s:Shared) (σ:St) (H:Hp) (x:V) (v:Value) (Q:VK),Inv X pins σ H s->RelV x v->r x H Q ->
  wpAny (model X.prog X.w) X.A (f v) (EP X pins σ Q) X.xe s
def ZG (X:Cx) (f:Value) (r:List V->Hp->VK->Prop):Prop :=
 ∀ (pins:List (Addr×Obj)) (s:Shared) (σ:St) (H:Hp) (xs:List V) (us:List Value) (Q:VK),Inv X pins σ H s->Vals xs us->r xs H Q ->
  wpAny (model X.prog X.w) X.A (call f us) (EP X pins σ Q) X.xe s
def tOp (r:R2) (ta tb:TE):TE:=fun σ H Q=>ta σ H fun x H1=>tb σ H1 fun y H2=>r x y H2 Q
def tUn (r:V->Hp->VK->Prop) (ta:TE):TE:=fun σ H Q=>ta σ H fun x H1=>r x H1 Q
def rI (C:Int->Int->Prop) (g:Int->Int->V):R2:=fun x y H Q=>∃ i j,x=.int i/\y=.int j/\C i j/\Q (g i j) H
def rI0 (g:Int->Int->V):R2:=fun x y H Q=>∃ i j,x=.int i/\y=.int j/\Q (g i j) H
def rU (g:Int->V):V->Hp->VK->Prop:=fun x H Q=>∃ i,x=.int i/\Q (g i) H
section
variable {X:Cx} {a b c:Expr} {ta tb tc:TE} {pos:Pos}
theorem binT (ha:PE X a ta) (hb:PE X b tb) {pins:List (Addr×Obj)} {s:Shared} {σ:St} {H:Hp} {R:V->V->Hp->Prop} (I:Inv X pins σ H s)
  (h:ta σ H fun x H1=>tb σ H1 fun y H2=>R x y H2) {Q:Value->Shared->Prop} {f:Value->Value->Sem Value}
  (hf:∀ v u s2 x y H2,Inv X pins σ H2 s2->RelV x v->RelV y u->R x y H2->wpAny (model X.prog X.w) X.A (f v u) Q X.xe s2) :
  wpAny (model X.prog X.w) X.A (eval a X.env) (fun v s₁=>wpAny (model X.prog X.w) X.A (eval b X.env) (fun u s₂=>wpAny (model X.prog X.w) X.A (f v u) Q X.xe s₂) X.xe s₁) X.xe s:=by
 refine thn (ha pins s σ H _ I h) fun v s1 ⟨x,H1,I1,r1,q1⟩=>?_;refine thn (hb pins s1 σ H1 _ I1 q1) fun u s2 ⟨y,H2,I2,r2,q2⟩=>?_;exact hf v u s2 x y H2 I2 r1 r2 q2
theorem zp {op:Operator} {r:R2} (ho:OpR X (binaryOp op) r) (ha:PE X a ta) (hb:PE X b tb):PE X (.BinOp a op b pos) (tOp r ta tb):=by
 intro pins s σ H Q I h;exact wpAny_BinOp (binT ha hb I h fun v u s2 x y H2 I2 rx ry q=>ho pins s2 σ H2 x y v u Q I2 rx ry q)
theorem pe_un {op:UnaryOp} {r:V->Hp->VK->Prop} (ho:UnR X (unaryOp op) r) (ha:PE X a ta):PE X (.UnaryOp op a pos) (tUn r ta):=by
 intro pins s σ H Q I h;exact UnaryOp_ (thn (ha pins s σ H _ I h) fun v s1 ⟨x,H1,I1,r1,q1⟩=>ho pins s1 σ H1 x v Q I1 r1 q1)
theorem opI {f:Value->Value->Sem Value} {C:Int->Int->Prop} {g:Int->Int->Int}
  (rule:∀ (i j:Int) (t u:Tok) (s:Shared) (Q:Value->Shared->Prop) (E:Value->Shared->Prop),C i j->Q (.int (g i j) s.toks) { s with toks:=s.toks+1 }->wpAny (model X.prog X.w) X.A (f (.int i t) (.int j u)) Q E s) :
  OpR X f (rI C fun i j=>.int (g i j)):=by
 intro pins s σ H x y v u Q I rx ry h;obtain ⟨i,j,rfl,rfl,hc,q⟩:=h;obtain ⟨t,rfl⟩:=rx;obtain ⟨t',rfl⟩:=ry;exact rule i j t t' s _ _ hc ⟨.int (g i j),H,I.tok _,⟨_,rfl⟩,q⟩
theorem opI0 {f:Value->Value->Sem Value} {g:Int->Int->Int}
  (rule:∀ (i j:Int) (t u:Tok) (s:Shared) (Q:Value->Shared->Prop) (E:Value->Shared->Prop),Q (.int (g i j) s.toks) { s with toks:=s.toks+1 }->wpAny (model X.prog X.w) X.A (f (.int i t) (.int j u)) Q E s) :
  OpR X f (rI0 fun i j=>.int (g i j)):=by
 intro pins s σ H x y v u Q I rx ry h;obtain ⟨i,j,rfl,rfl,q⟩:=h;obtain ⟨t,rfl⟩:=rx;obtain ⟨t',rfl⟩:=ry;exact rule i j t t' s _ _ ⟨.int (g i j),H,I.tok _,⟨_,rfl⟩,q⟩
theorem opB0 {f:Value->Value->Sem Value} {g:Int->Int->Bool}
  (rule:∀ (i j:Int) (t u:Tok) (s:Shared) (Q:Value->Shared->Prop) (E:Value->Shared->Prop),Q (.bool (g i j)) s->wpAny (model X.prog X.w) X.A (f (.int i t) (.int j u)) Q E s) :
  OpR X f (rI0 fun i j=>.bl (g i j)):=by
 intro pins s σ H x y v u Q I rx ry h;obtain ⟨i,j,rfl,rfl,q⟩:=h;obtain ⟨t,rfl⟩:=rx;obtain ⟨t',rfl⟩:=ry;exact rule i j t t' s _ _ ⟨.bl (g i j),H,I,rfl,q⟩
def CDiv (i j:Int):Prop:=0<j/\j<1073741824
def CMul (i j:Int):Prop:=(-(2 ^ 64)<i/\i<2 ^ 64)∨(-(2 ^ 64)<j/\j<2 ^ 64)
theorem CMul.ok {i j:Int} (h:CMul i j):IntMulOk i j:=by
 rcases h with ⟨h1,h2⟩ | ⟨h1,h2⟩
 ·exact .of_left (intBits_le_64 h1 h2)
 ·exact .of_right (intBits_le_64 h1 h2)
theorem zY:OpR X (binaryOp .Add) (rI0 fun i j=>.int (i+j)):=opI0 fun _ _ _ _ _ _ _ q=>add_int q
theorem Yi:OpR X (binaryOp .Sub) (rI0 fun i j=>.int (i-j)):=opI0 fun _ _ _ _ _ _ _ q=>sub_int q
theorem xL:OpR X (binaryOp .Mult) (rI CMul fun i j=>.int (i*j)):=opI fun _ _ _ _ _ _ _ hc q=>mul_int q hc.ok
theorem yA:OpR X (binaryOp .FloorDiv) (rI CDiv fun i j=>.int (i / j)):=opI fun i j _ _ _ _ _ hc q=>by
 have h1:(0:Int)<j:=hc.1;have h2:j<1073741824:=hc.2;exact floordiv_int (by omega) (by rw [Int.fdiv_eq_ediv_of_nonneg i (by omega)];exact q) (.inl (PyProof.noPylong_small (by omega)))
theorem ye:OpR X (binaryOp .Mod) (rI (fun _ j=>0<j) fun i j=>.int (i % j)):=opI fun i j _ _ _ _ _ hc q=>by
 have h1:(0:Int)<j:=hc;exact mod_int' (by omega) (by rw [Int.fmod_eq_emod_of_nonneg i (by omega)];exact q)
theorem unI {f:Value->Sem Value} {g:Int->Int}
  (rule:∀ (i:Int) (t:Tok) (s:Shared) (Q:Value->Shared->Prop) (E:Value->Shared->Prop),Q (.int (g i) s.toks) { s with toks:=s.toks+1 }->wpAny (model X.prog X.w) X.A (f (.int i t)) Q E s) :
  UnR X f (rU fun i=>.int (g i)):=by
 intro pins s σ H x v Q I rx h;obtain ⟨i,rfl,q⟩:=h;obtain ⟨t,rfl⟩:=rx;exact rule i t s _ _ ⟨.int (g i),H,I.tok _,⟨_,rfl⟩,q⟩
theorem XV:UnR X (unaryOp .USub) (rU fun i=>.int (-i)):=unI fun _ _ _ _ _ q=>neg_int q
end
def scal:V->V->Bool
 | .non,.non=>true | .non,.int _=>true | .int _,.non=>true | .non,.bl _=>true | .bl _,.non=>true | .non,.str _=>true | .str _,.non=>true
 | .int _,.int _=>true | .bl _,.bl _=>true | .str _,.str _=>true | .byt _,.byt _=>true
 | .int _,.str _=>true | .str _,.int _=>true | .bl _,.str _=>true | .str _,.bl _=>true
 | _,_=>false
def rEq:R2:=fun x y H Q=>scal x y=true/\Q (.bl (decide (x=y))) H
def rNe:R2:=fun x y H Q=>scal x y=true/\Q (.bl (!decide (x=y))) H
theorem zc4 {i j:Int}:decide (V.int i=V.int j)=(i == j):=by
 rw [Bool.eq_iff_iff];simp
theorem dec_bl {i j:Bool}:decide (V.bl i=V.bl j)=(i == j):=by
 rw [Bool.eq_iff_iff];simp
theorem dec_str {i j:Str}:decide (V.str i=V.str j)=(i == j):=by
 rw [Bool.eq_iff_iff];simp
theorem dec_byt {i j:Array UInt8}:decide (V.byt i=V.byt j)=(i.toList == j.toList):=by
 rw [Bool.eq_iff_iff];cases i;cases j;simp
section
variable {X:Cx} {a b c:Expr} {ta tb tc:TE} {pos:Pos}
theorem zU {pins:List (Addr×Obj)} {σ:St} {H:Hp} {s:Shared} {Q:VK} {k k':Bool} (I:Inv X pins σ H s) (q:Q (.bl k) H) (e:k=k'):EP X pins σ Q (.bool k') s:=by
 subst e;exact ⟨.bl k,H,I,rfl,q⟩
theorem yO:OpR X (compareOp .Eq) rEq:=by
 intro pins s σ H x y v u Q I rx ry h;obtain ⟨hs,q⟩:=h
 cases x with
 | non =>
  cases rx
  cases y with
  | non=>cases ry;exact PySem.EqNone.eq_none_none (zU I q (by simp))
  | bl j=>cases ry;exact PySem.EqNone.eq_none_bool (zU I q (by simp))
  | int j=>obtain ⟨t',rfl⟩:=ry;exact PySem.EqNone.eq_none_int (zU I q (by simp))
  | str j=>obtain ⟨t',rfl⟩:=ry;exact PySem.EqNone.eq_none_str (zU I q (by simp))
  | _=>exact absurd (show false=true from hs) Bool.false_ne_true
 | bl i =>
  cases rx
  cases y with
  | non=>cases ry;exact PySem.EqNone.eq_bool_none (zU I q (by simp))
  | bl j=>cases ry;exact eq_bool (zU I q dec_bl)
  | str j=>obtain ⟨t',rfl⟩:=ry;exact PySem.EqMixed.eq_bool_str (zU I q (by simp))
  | _=>exact absurd (show false=true from hs) Bool.false_ne_true
 | int i =>
  obtain ⟨t,rfl⟩:=rx
  cases y with
  | non=>cases ry;exact PySem.EqNone.eq_int_none (zU I q (by simp))
  | int j=>obtain ⟨t',rfl⟩:=ry;exact eq_int (zU I q zc4)
  | str j=>obtain ⟨t',rfl⟩:=ry;exact PySem.EqMixed.eq_int_str (zU I q (by simp))
  | _=>exact absurd (show false=true from hs) Bool.false_ne_true
 | str i =>
  obtain ⟨t,rfl⟩:=rx
  cases y with
  | non=>cases ry;exact PySem.EqNone.eq_str_none (zU I q (by simp))
  | bl j=>cases ry;exact PySem.EqMixed.eq_str_bool (zU I q (by simp))
  | int j=>obtain ⟨t',rfl⟩:=ry;exact PySem.EqMixed.eq_str_int (zU I q (by simp))
  | str j=>obtain ⟨t',rfl⟩:=ry;exact eq_str (zU I q dec_str)
  | _=>exact absurd (show false=true from hs) Bool.false_ne_true
 | byt i =>
  obtain ⟨t,rfl⟩:=rx
  cases y with
  | byt j=>obtain ⟨t',rfl⟩:=ry;exact PySem.W.eq_bytes (zU I q dec_byt)
  | _=>exact absurd (show false=true from hs) Bool.false_ne_true
 | _=>cases y <;> exact absurd (show false=true from hs) Bool.false_ne_true
theorem op_ne:OpR X (compareOp .NotEq) rNe:=by
 intro pins s σ H x y v u Q I rx ry h;obtain ⟨hs,q⟩:=h
 cases x with
 | non =>
  cases rx
  cases y with
  | non=>cases ry;exact PySem.EqNone.ne_none_none (zU I q (by simp))
  | bl j=>cases ry;exact PySem.EqNone.ne_none_bool (zU I q (by simp))
  | int j=>obtain ⟨t',rfl⟩:=ry;exact PySem.EqNone.ne_none_int (zU I q (by simp))
  | str j=>obtain ⟨t',rfl⟩:=ry;exact PySem.EqNone.ne_none_str (zU I q (by simp))
  | _=>exact absurd (show false=true from hs) Bool.false_ne_true
 | bl i =>
  cases rx
  cases y with
  | non=>cases ry;exact PySem.EqNone.ne_bool_none (zU I q (by simp))
  | bl j=>cases ry;exact ne_bool (zU I q (congrArg not dec_bl))
  | str j=>obtain ⟨t',rfl⟩:=ry;exact PySem.EqMixed.ne_bool_str (zU I q (by simp))
  | _=>exact absurd (show false=true from hs) Bool.false_ne_true
 | int i =>
  obtain ⟨t,rfl⟩:=rx
  cases y with
  | non=>cases ry;exact PySem.EqNone.ne_int_none (zU I q (by simp))
  | int j=>obtain ⟨t',rfl⟩:=ry;exact ne_int (zU I q (congrArg not zc4))
  | str j=>obtain ⟨t',rfl⟩:=ry;exact PySem.EqMixed.ne_int_str (zU I q (by simp))
  | _=>exact absurd (show false=true from hs) Bool.false_ne_true
 | str i =>
  obtain ⟨t,rfl⟩:=rx
  cases y with
  | non=>cases ry;exact PySem.EqNone.ne_str_none (zU I q (by simp))
  | bl j=>cases ry;exact PySem.EqMixed.ne_str_bool (zU I q (by simp))
  | int j=>obtain ⟨t',rfl⟩:=ry;exact PySem.EqMixed.ne_str_int (zU I q (by simp))
  | str j=>obtain ⟨t',rfl⟩:=ry;exact ne_str (zU I q (congrArg not dec_str))
  | _=>exact absurd (show false=true from hs) Bool.false_ne_true
 | byt i =>
  obtain ⟨t,rfl⟩:=rx
  cases y with
  | byt j=>obtain ⟨t',rfl⟩:=ry;exact PySem.W.ne_bytes (zU I q (congrArg not dec_byt))
  | _=>exact absurd (show false=true from hs) Bool.false_ne_true
 | _=>cases y <;> exact absurd (show false=true from hs) Bool.false_ne_true
theorem op_lt:OpR X (compareOp .Lt) (rI0 fun i j=>.bl (decide (i<j))):=opB0 fun _ _ _ _ _ _ _ q=>lt_int q
theorem op_le:OpR X (compareOp .LtE) (rI0 fun i j=>.bl (decide (i<=j))):=opB0 fun _ _ _ _ _ _ _ q=>le_int q
theorem op_gt:OpR X (compareOp .Gt) (rI0 fun i j=>.bl (decide (j<i))):=opB0 fun _ _ _ _ _ _ _ q=>gt_int q
theorem Y5:OpR X (compareOp .Is) (fun x y H Q=>y=.non/\Q (.bl (decide (x=.non))) H):=by
 intro pins s σ H x y v u Q I rx ry h;obtain ⟨rfl,q⟩:=h;cases ry;refine is_none_gen (zU I q ?_);cases x <;> first
  | (cases rx;rfl)
  | (obtain ⟨t,rfl⟩:=rx;rfl)
theorem op_notN:OpR X (compareOp .IsNot) (fun x y H Q=>y=.non/\Q (.bl (!decide (x=.non))) H):=by
 intro pins s σ H x y v u Q I rx ry h;obtain ⟨rfl,q⟩:=h;cases ry;refine isnot_none_gen (zU I q ?_);cases x <;> first
  | (cases rx;rfl)
  | (obtain ⟨t,rfl⟩:=rx;rfl)
theorem zJ (b:Expr) {op:CmpOp} (h:op≠.In:=by decide) (h2:op≠.NotIn:=by decide):behindInMarks op b=false:=by
 have e1:(op == CmpOp.In)=false:=by cases op <;> first | rfl | exact absurd rfl h
 have e2:(op == CmpOp.NotIn)=false:=by cases op <;> first | rfl | exact absurd rfl h2
 cases b <;> simp [behindInMarks,e1,e2]
theorem xO {op:CmpOp} {r:R2} (ho:OpR X (compareOp op) r) (ha:PE X a ta) (hb:PE X b tb) (hm:behindInMarks op b=false):PE X (.Compare a [op] [b] pos) (tOp r ta tb):=by
 intro pins s σ H Q I h;exact wpAny_Compare1 (binT ha hb I h fun v u s2 x y H2 I2 rx ry q=>ho pins s2 σ H2 x y v u Q I2 rx ry q) hm
def tTest (t:TE):TT:=fun σ H Q=>t σ H fun x H'=>∃ k,x=.bl k/\Q k H'
theorem zG {op:CmpOp} {r:R2} (ho:OpR X (compareOp op) r) (ha:PE X a ta) (hb:PE X b tb) (hm:behindInMarks op b=false):PT X (.Compare a [op] [b] pos) (tTest (tOp r ta tb)):=by
 intro pins s σ H Q I h
 refine wpAny_isTrue_Compare1 (thn (ha pins s σ H _ I h) fun v s1 ⟨x,H1,I1,r1,q1⟩=>thn (hb pins s1 σ H1 _ I1 q1) fun u s2 ⟨y,H2,I2,r2,q2⟩ =>
  thn (ho pins s2 σ H2 x y v u _ I2 r1 r2 q2) fun c s3 ⟨z,H3,I3,r3,k,e,q3⟩=>?_) hm
 subst e;cases r3;exact wpAny_truthy_bool ⟨H3,I3,q3⟩
def tChain (r r':R2) (ta tb tc:TE):TE:=fun σ H Q=>ta σ H fun x H1=>tb σ H1 fun y H2=>r x y H2 fun z H3=>∃ k,z=.bl k /\
 (if k=true then tc σ H3 fun w' H4=>r' y w' H4 Q else Q (.bl false) H3)
theorem zf9 {op op':CmpOp} {r r':R2} (ho:OpR X (compareOp op) r) (ho':OpR X (compareOp op') r') (ha:PE X a ta) (hb:PE X b tb) (hc:PE X c tc)
  (hm:lastMarks [op,op'] [b,c]=false:=by with_unfolding_all rfl):PT X (.Compare a [op,op'] [b,c] pos) (tTest (tChain r r' ta tb tc)):=by
 intro pins s σ H Q I h
 refine isTrue_chain (thn (ha pins s σ H _ I h) fun v s1 ⟨x,H1,I1,r1,q1⟩=>test_link (thn (hb pins s1 σ H1 _ I1 q1) fun u s2 ⟨y,H2,I2,r2,q2⟩ =>
  thn (ho pins s2 σ H2 x y v u _ I2 r1 r2 q2) fun d s3 ⟨z,H3,I3,r3,k,e,q3⟩=>?_)) hm
 subst e;cases r3;refine wpAny_truthy_bool ?_
 cases k with
 | false =>
  obtain ⟨k',e',q'⟩:=q3;cases e';exact ite_ff ⟨H3,I3,q'⟩
 | true =>
  refine ite_tt (test_last (thn (hc pins s3 σ H3 _ I3 q3) fun w' s4 ⟨z',H4,I4,r4,q4⟩=>thn (ho' pins s4 σ H4 y z' u w' _ I4 r2 r4 q4) fun d' s5 ⟨z2,H5,I5,r5,k2,e2,q5⟩=>?_));subst e2;cases r5;exact wpAny_truthy_bool ⟨H5,I5,q5⟩
theorem zc2:(sizeLine:Nat)<2 ^ 63:=by rw [sizeLine_eq];decide
theorem vals1 {x:V} {us:List Value} (r:Vals [x] us):∃ u,us=[u]/\RelV x u:=by
 cases r with
 | cons r1 r2=>cases r2;exact ⟨_,rfl,r1⟩
theorem vals2 {x y:V} {us:List Value} (r:Vals [x,y] us):∃ u w',us=[u,w']/\RelV x u/\RelV y w':=by
 cases r with
 | cons r1 r2 =>
  cases r2 with
  | cons r3 r4=>cases r4;exact ⟨_,_,rfl,r1,r3⟩
theorem XO (hc:X.calm=true):ZG X (.builtin "max") (fun xs H Q=>∃ i j,xs=[.int i,.int j]/\Q (.int (if j > i then j else i)) H):=by
 intro pins s σ H xs us Q I r h;obtain ⟨i,j,rfl,q⟩:=h;obtain ⟨u,w',rfl,⟨t,rfl⟩,⟨t',rfl⟩⟩:=vals2 r;refine max_two_ints (I.ok.hd hc) fun h' tk k=>⟨_,H,I.kept k,?_,q⟩;by_cases hj:j > i
 ·rw [if_pos hj,if_pos hj];exact ⟨_,rfl⟩
 ·rw [if_neg hj,if_neg hj];exact ⟨_,rfl⟩
theorem call_min2 (hc:X.calm=true):ZG X (.builtin "min") (fun xs H Q=>∃ i j,xs=[.int i,.int j]/\Q (.int (if j<i then j else i)) H):=by
 intro pins s σ H xs us Q I r h;obtain ⟨i,j,rfl,q⟩:=h;obtain ⟨u,w',rfl,⟨t,rfl⟩,⟨t',rfl⟩⟩:=vals2 r;refine min_two_ints (I.ok.hd hc) fun h' tk k=>⟨_,H,I.kept k,?_,q⟩;by_cases hj:j<i
 ·rw [if_pos hj,if_pos hj];exact ⟨_,rfl⟩
 ·rw [if_neg hj,if_neg hj];exact ⟨_,rfl⟩
end
structure ObjM (h:Heap) (x dx C:Addr) (mA:Str->Option Value):Prop where
 obj:h.get? x=some (PySem.W.instObj C dx)
 ns:h.Ns1 dx mA
 ne:dx≠x
theorem lookIn_ns {h:Heap} {dx:Addr} {mA:Str->Option Value} (n:h.Ns1 dx mA):∃ od,h.get? dx=some od/\∀ name,PySem.W.lookIn name od=some (mA name):=by
 obtain ⟨o,es,ep,ho,hd,hk,_,hm⟩:=n;refine ⟨o,ho,fun name=>?_⟩;have e:=hm name;unfold nsFind findBy at e;rw [← Array.find?_toList] at e;unfold PySem.W.lookIn;rw [hd];dsimp only
 split
 ·rename_i y q
  rw [q] at e;exact congrArg some e
 ·rename_i q
  rw [q] at e
  have a:es.toList.any (·.refKey)=false:=by
   rw [List.any_eq_false];intro y hy;obtain ⟨z,t,hkey⟩:=hk y (Array.mem_toList_iff.mp hy);simp [DictEntry.refKey,hkey]
  have a':¬ es.toList.any (·.refKey)=true:=by rw [a];exact Bool.false_ne_true
  rw [if_neg a'];exact congrArg some e
theorem ObjM.look {h:Heap} {x dx C:Addr} {mA:Str->Option Value} (I:ObjM h x dx C mA):∃ od,PySem.W.InstAt h x (PySem.W.instObj C dx) C (some od)/\∀ name,PySem.W.lookIn name od=some (mA name) :=
 let ⟨od,ho,hl⟩:=lookIn_ns I.ns
 ⟨od,⟨I.obj,rfl,rfl,ho⟩,hl⟩
section
variable {prog:Program} {w:World} {A:Around} {E:Value->Shared->Prop} {s:Shared} {K:PySem.W.Frag} {x dx C f:Addr} {mA:Str->Option Value} {name:Str} {v:Value}
theorem get_map {expr:Bool} {Q:Value->Shared->Prop} (X:K.In s.heap) (I:ObjM s.heap x dx C mA) (hg:PySem.W.plainGet K C name=true) (hh:PySem.W.hasDictIn K C=true)
  (ha:PySem.W.findIn K (.ref C) name=some none) (hv:mA name=some v) (hv':PySem.W.handedIn v=true) (h:Q v { s with toks:=s.toks+1 }) :
  wpAny (model prog w) A (getAttr (.ref x) name expr) Q E s:=by
 obtain ⟨od,J,hl⟩:=I.look;exact PySem.W.get_value X J (PySem.W.plainGet_of hg).1 (PySem.W.findObj_own hh ha rfl (by rw [hl,hv])) hv' h
theorem get_meth {pl:Sem Bool} {Q:Value×List Value->Shared->Prop} (X:K.In s.heap) (I:ObjM s.heap x dx C mA) (hg:PySem.W.plainGet K C name=true)
  (hf:PySem.W.findIn K (.ref C) name=some (some (.ref f))) (ht:PySem.W.isFn K (.ref f)=true) (hv:mA name=none) (h:Q (.ref f,[.ref x]) s) :
  wpAny (model prog w) A (getMethod (.ref x) name pl) Q E s:=by
 obtain ⟨od,J,hl⟩:=I.look;exact PySem.W.method_fn X J (PySem.W.plainGet_of hg).1 (PySem.W.plainGet_of hg).2 hf (beq_iff_eq.mp ht) (by show (PySem.W.lookIn name od).map (·.isSome)=some false;rw [hl,hv];rfl) h
theorem set_map {ns:List Str} {Q:Unit->Shared->Prop} (X:K.In s.heap) (I:ObjM s.heap x dx C mA)
  (hs:PySem.W.findIn K (.ref C) "__setattr__"=some (some (.builtin "object.__setattr__"))) (hp:PySem.W.plainOver K C=true) (ht:PySem.W.takerIn K C name=some none) (hh:PySem.W.hasDictIn K C=true)
  (hw:PySem.Within mA ns) (hsz:ns.length<=sizeLine)
  (h:∀ h',ObjM h' x dx C (fun y=>if y=name then some v else mA y)->Heap.SameBut dx s.heap h'->Q () { s with heap:=h',toks:=s.toks+2 }) :
  wpAny (model prog w) A (setAttr (.ref x) name v) Q E s:=by
 obtain ⟨od,J,hl⟩:=I.look;refine PySem.W.set_plain X J hs (PySem.W.osa_open (s:={ s with toks:=s.toks+1 }) (r:=none) X J hp ht fun b=>?_);obtain ⟨cd,hc,hd'⟩:=PySem.W.any_some hh;have hx:s.heap.get? x=some ⟨.ref C,some dx,.plain,#[]⟩:=I.obj;refine wpAny_bind (wpAny_pure (wpAny_bind (wpAny_bind (wpAny_loadPart hx (wpAny_bind (PySem.W.Looks.here (s:={ s with toks:=s.toks+1 }) (PySem.W.looks_clsIn X hc) ?_))))));rw [hd'];refine wpAny_pure (a:=some dx) (wpAny_bind (wpAny_pure (wpAny_bind ?_)));refine wpAny_nsSet1 (s:={ s with toks:=s.toks+1 }) I.ns fun h' hn2 hs2=>?_;obtain ⟨oD,esD,epD,hoD,hdD,hcD⟩:=hn2.count (PySem.Within.cons name v hw);refine wpAny_bind (wpAny_lookBehind hoD (by rw [hdD];exact pastItsLine_dict (Nat.le_trans hcD (by rw [List.length_cons];omega))) ?_);exact wpAny_pure (h _ ⟨(hs2.2 _ (Ne.symm I.ne)).trans I.obj,hn2,I.ne⟩ hs2)
theorem make_map {R:Result->Shared->Prop} {vs:List Value} {kw:List (Str×Value)} (X:K.In s.heap) (hm:PySem.W.makesIn K C=true)
  (hi:PySem.W.findIn K (.ref C) "__init__"=some (some (.ref f))) (hf:PySem.W.typeIn K (.ref f)=some (.type "function"))
  (h:codeAny (model prog w) (A.under (.builtin "type.__call__" ⟨.ref C::vs,kw⟩)) (.call (.ref f) ⟨.ref (s.heap.objs.size+1)::vs,kw⟩) (PySem.W.InitBack (s.heap.objs.size+1) R)
   { s with heap:=(s.heap.push PySem.W.emptyDict).push (PySem.W.instObj C s.heap.objs.size) }) :
  codeAny (model prog w) A (.call (.ref C) ⟨vs,kw⟩) R s:=by
 obtain ⟨hh,g,d,t,os⟩:=s;exact PySem.W.make_core (PySem.W.makes_of X hm) (PySem.W.looks_findIn X hi) (fun self=>PySem.W.bind_fn X self hf) (.inl rfl) h
theorem make_map0 {R:Result->Shared->Prop} (X:K.In s.heap) (hm:PySem.W.makesIn K C=true)
  (hi:PySem.W.findIn K (.ref C) "__init__"=some (some (.builtin "object.__init__")))
  (hb:∀ self,PySem.W.Looks (model prog w) s.heap (bindSpecial (.builtin "object.__init__") self) (.builtin "object.__init__",[self]))
  (h:codeAny (model prog w) (A.under (.builtin "type.__call__" ⟨[.ref C],[]⟩)) (.call (.builtin "object.__init__") ⟨[.ref (s.heap.objs.size+1)],[]⟩) (PySem.W.InitBack (s.heap.objs.size+1) R)
   { s with heap:=(s.heap.push PySem.W.emptyDict).push (PySem.W.instObj C s.heap.objs.size) }) :
  codeAny (model prog w) A (.call (.ref C) ⟨[],[]⟩) R s:=by
 obtain ⟨hh,g,d,t,os⟩:=s;exact PySem.W.make_core (PySem.W.makes_of X hm) (PySem.W.looks_findIn X hi) hb (.inr ⟨rfl,rfl⟩) h
end
def zN (f:Str) (v:V):List (Str×V)->List (Str×V)
 | []=>[(f,v)]
 | (g,x)::r=>if g=f then (g,v)::r else (g,x)::zN f v r
theorem Yr (f g:Str) (v:V):∀ fs:List (Str×V),(zN f v fs).lookup g=if g=f then some v else fs.lookup g
 | []=>by
  show List.lookup g [(f,v)]=_;by_cases h:g=f
  ·have hb:(g == f)=true:=beq_iff_eq.mpr h
   simp only [List.lookup,hb,if_pos h]
  ·have hb:(g == f)=false:=beq_eq_false_iff_ne.mpr h
   simp only [List.lookup,hb,if_neg h]
 | (k,x)::r=>by
  have ih:=Yr f g v r;rw [show zN f v ((k,x)::r)=(if k=f then (k,v)::r else (k,x)::zN f v r) from rfl];by_cases hk:k=f
  ·rw [if_pos hk]
   by_cases h:g=k
   ·have hb:(g == k)=true:=beq_iff_eq.mpr h
    simp only [List.lookup,hb,if_pos (h.trans hk)]
   ·have hb:(g == k)=false:=beq_eq_false_iff_ne.mpr h
    simp only [List.lookup,hb,if_neg (fun e:g=f=>h (e.trans hk.symm))]
  ·rw [if_neg hk]
   by_cases h:g=k
   ·have hb:(g == k)=true:=beq_iff_eq.mpr h
    simp only [List.lookup,hb,if_neg (fun e:g=f=>hk (h.symm.trans e))]
   ·have hb:(g == k)=false:=beq_eq_false_iff_ne.mpr h
    simp only [List.lookup,hb];exact ih
theorem Yl (f:Str) (v:V):∀ fs:List (Str×V),f∈(zN f v fs).map (·.1)/\∀ g,g∈fs.map (·.1)->g∈(zN f v fs).map (·.1)
 | []=>⟨by simp [zN],fun g h=>by simp at h⟩
 | (k,x)::r=>by
  obtain ⟨i1,i2⟩:=Yl f v r;rw [show zN f v ((k,x)::r)=(if k=f then (k,v)::r else (k,x)::zN f v r) from rfl];by_cases hk:k=f
  ·rw [if_pos hk]
   subst hk;exact ⟨by simp,fun g h=>by simpa using h⟩
  ·rw [if_neg hk]
   refine ⟨?_,fun g h=>?_⟩
   ·rw [List.map_cons]
    exact List.mem_cons_of_mem _ i1
   ·rw [List.map_cons] at h ⊢
    rcases List.mem_cons.mp h with e | e
    ·exact List.mem_cons.mpr (.inl e)
    ·exact List.mem_cons_of_mem _ (i2 g e)
theorem Yt (f:Str) (v:V):∀ fs:List (Str×V),(zN f v fs).length<=fs.length+1
 | []=>by simp [zN]
 | (k,x)::r=>by
  have ih:=Yt f v r;rw [show zN f v ((k,x)::r)=(if k=f then (k,v)::r else (k,x)::zN f v r) from rfl];by_cases hk:k=f
  ·rw [if_pos hk,List.length_cons,List.length_cons];omega
  ·rw [if_neg hk,List.length_cons,List.length_cons];omega
theorem RelO.some_of {v:V} {o:Option Value} (r:RelO (some v) o):∃ u,o=some u/\RelV v u:=by
 cases o with
 | none=>exact (show False from r).elim
 | some u=>exact ⟨u,rfl,r⟩
theorem RelO.none_of {o:Option Value} (r:RelO none o):o=none:=by
 cases o with
 | none=>rfl
 | some u=>exact (show False from r).elim
theorem handed_of {v:V} {u:Value} (r:RelV v u):PySem.W.handedIn u=true:=by
 cases v with
 | non=>cases (show u=Value.none from r);rfl
 | bl b=>cases (show u=Value.bool b from r);rfl
 | int i=>obtain ⟨t,e⟩:=(show ∃ t,u=Value.int i t from r);cases e;rfl
 | str x=>obtain ⟨t,e⟩:=(show ∃ t,u=Value.str x t from r);cases e;rfl
 | byt b=>obtain ⟨t,e⟩:=(show ∃ t,u=Value.bytes b t from r);cases e;rfl
 | flt b=>obtain ⟨t,e⟩:=(show ∃ t,u=Value.float b t from r);cases e;rfl
 | ref a=>cases (show u=Value.ref a from r);rfl
 | ty n=>cases (show u=Value.type n from r);rfl
section
variable {P:Program} {w:World} {H H':Hp} {h h':Heap} {a C dx:Addr} {fs fs':List (Str×V)}
theorem YD (hok:HOk P w H h) (e:H a=some (.ins C dx fs)):∃ mA,ObjM h a dx C mA/\(∀ f,RelO (fs.lookup f) (mA f))/\PySem.Within mA (fs.map (·.1))/\fs.length<=1000/\H dx=some (.own a):=by
 obtain ⟨d,z,ne,ob,mA,n,r,q⟩:=(show ObjOk P w H h a (.ins C dx fs) from hok a _ e);exact ⟨mA,⟨ob,n,ne⟩,r,q,z,d⟩
end
structure Cls (K:PySem.W.Frag) (C:Addr):Prop where
 pg:PySem.W.plainGet K C Str.empty=true
 hd:PySem.W.hasDictIn K C=true
 po:PySem.W.plainOver K C=true
 sa:PySem.W.findIn K (.ref C) "__setattr__"=some (some (.builtin "object.__setattr__"))
theorem Cls.get {K:PySem.W.Frag} {C:Addr} (c:Cls K C) (f:Str):PySem.W.plainGet K C f=true:=c.pg
def NoAttr (K:PySem.W.Frag) (C:Addr) (f:Str):Prop:=PySem.W.findIn K (.ref C) f=some none
theorem NoAttr.taker {K:PySem.W.Frag} {C:Addr} {f:Str} (n:NoAttr K C f):PySem.W.takerIn K C f=some none:=by
 unfold PySem.W.takerIn;rw [show PySem.W.findIn K (.ref C) f=some none from n];rfl
structure Meth (K:PySem.W.Frag) (C:Addr) (m:Str) (f:Addr):Prop where
 at_:PySem.W.findIn K (.ref C) m=some (some (.ref f))
 fn:PySem.W.isFn K (.ref f)=true
 kp:PySem.W.keepIn K (.ref f)=true
section
variable {X:Cx} {pins:List (Addr×Obj)} {σ:St} {H:Hp} {s:Shared} {a C dx:Addr} {fs:List (Str×V)} {f:Str} {v:V} {A:Around} {E:Value->Shared->Prop}
theorem zhh {b:Bool} {Q:Value->Shared->Prop} (I:Inv X pins σ H s) (e:H a=some (.ins C dx fs)) (c:Cls X.K C) (n:NoAttr X.K C f) (l:fs.lookup f=some v)
  (h:∀ u s',Inv X pins σ H s'->RelV v u->Q u s'):wpAny (model X.prog X.w) A (getAttr (.ref a) f b) Q E s:=by
 obtain ⟨mA,O,r,_,_,_⟩:=YD I.hok e;obtain ⟨u,hu,ru⟩:=RelO.some_of (v:=v) (o:=mA f) (by rw [← l];exact r f);exact get_map I.kIn O (c.get f) c.hd n hu (handed_of ru) (h u _ (I.tok _) ru)
theorem Xa {m:Str} {g:Addr} {pl:Sem Bool} {Q:Value×List Value->Shared->Prop} (I:Inv X pins σ H s) (e:H a=some (.ins C dx fs)) (c:Cls X.K C) (k:Meth X.K C m g) (l:fs.lookup m=none)
  (h:Q (.ref g,[.ref a]) s):wpAny (model X.prog X.w) A (getMethod (.ref a) m pl) Q E s:=by
 obtain ⟨mA,O,r,_,_,_⟩:=YD I.hok e;have hn:mA m=none:=RelO.none_of (by rw [← l];exact r m);exact get_meth I.kIn O (c.get m) k.at_ k.fn hn h
theorem zg2 {y:V} {u:Value} {Q:Unit->Shared->Prop} (I:Inv X pins σ H s) (e:H a=some (.ins C dx fs)) (c:Cls X.K C) (n:NoAttr X.K C f) (hl:fs.length<1000) (ry:RelV y u)
  (h:∀ s',Inv X pins σ (upd H a (.ins C dx (zN f y fs))) s'->Q () s'):wpAny (model X.prog X.w) A (setAttr (.ref a) f u) Q E s:=by
 obtain ⟨mA,O,r,wi,_,ho⟩:=YD I.hok e;have hz:(fs.map (·.1)).length<=sizeLine:=by rw [List.length_map,sizeLine_eq];omega
 refine set_map I.kIn O c.sa c.po n.taker c.hd wi hz fun h' O' sb=>h _ ?_;have hd:∃ o,h'.get? dx=some o:=let ⟨o,_,_,e',_⟩:=O'.ns;⟨o,e'⟩;refine I.write (x:=a) (e:=dx) (by rw [e];exact True.intro) (.inr ho) (fun b q hb z=>(sb.2 b hb).trans z) hd ?_;refine ⟨by rw [zm O.ne];exact ho,?_,O.ne,O'.obj,_,O'.ns,fun g=>?_,fun g hg=>?_⟩
 ·have:=Yt f y fs;omega
 ·show RelO ((zN f y fs).lookup g) (if g=f then some u else mA g)
  rw [Yr];by_cases q:g=f
  ·rw [if_pos q,if_pos q];exact ry
  ·rw [if_neg q,if_neg q];exact r g
 ·by_cases q:g=f
  ·rw [q];exact (Yl f y fs).1
  ·refine (Yl f y fs).2 g (wi g fun z=>hg ?_)
   show (if g=f then some u else mA g)=none;rw [if_neg q];exact z
theorem Inv.made (I:Inv X pins σ H s):Inv X pins σ (upd (upd H s.heap.objs.size (.own (s.heap.objs.size+1))) (s.heap.objs.size+1) (.ins C s.heap.objs.size []))
  { s with heap:=(s.heap.push PySem.W.emptyDict).push (PySem.W.instObj C s.heap.objs.size) }:=by
 have e1:(s.heap.push PySem.W.emptyDict).get? s.heap.objs.size=some PySem.W.emptyDict:=Heap.get?_push_size s.heap rfl
 have e2:((s.heap.push PySem.W.emptyDict).push (PySem.W.instObj C s.heap.objs.size)).get? (s.heap.objs.size+1)=some (PySem.W.instObj C s.heap.objs.size):=by
  have:=Heap.get?_push_size (s.heap.push PySem.W.emptyDict) (o:=PySem.W.instObj C s.heap.objs.size) rfl
  rwa [Heap.size_push] at this
 have e3:(s.heap.push PySem.W.emptyDict).Ns s.heap.objs.size (fun _=>none):=⟨PySem.W.emptyDict,#[],_,e1,rfl,(fun e he=>absurd he (by simp)),fun _=>rfl⟩;have I1:=I.laid (a:=s.heap.objs.size) (o:=.own (s.heap.objs.size+1)) (h':=s.heap.push PySem.W.emptyDict) (t':=s.toks) (fun b u q=>Heap.get?_push_of_some _ q) (Nat.le_refl _) ⟨_,e1⟩;refine I1.laid (a:=s.heap.objs.size+1) (o:=.ins C s.heap.objs.size []) (t':=s.toks) (fun b u q=>Heap.get?_push_of_some _ q) (Nat.le_of_eq (Heap.size_push _ _)) ?_;have ne:s.heap.objs.size≠s.heap.objs.size+1:=Nat.ne_of_lt (Nat.lt_succ_self _);refine ⟨by rw [zm ne,zh],Nat.zero_le _,ne,e2,fun _=>none,(Heap.Ns1.of_empty e3).at fun o q=>Heap.get?_push_of_some _ q,fun _=>True.intro,fun y hy=>absurd rfl hy⟩
theorem attr_of {prog:Program} {w:World} {env:Env} {e:Expr} {f:Str} {pos:Pos} {s:Shared} {Q:Value->Shared->Prop} (hb:attributeBase e f env (eval e env)=eval e env)
  (h:wpAny (model prog w) A (eval e env) (fun o s₁=>wpAny (model prog w) A (getAttr o f true) Q E s₁) E s):wpAny (model prog w) A (eval (.Attribute e f pos) env) Q E s :=
 Attribute_any_ h (by rw [arm_eval_Attribute,hb])
end
def tFld (K:PySem.W.Frag) (ta:TE) (f:Str):TE:=fun σ H Q=>ta σ H fun x H1=>∃ a C dx fs v,x=.ref a/\H1 a=some (.ins C dx fs)/\Cls K C/\NoAttr K C f/\fs.lookup f=some v/\Q v H1
def sFld (K:PySem.W.Frag) (ta tv:TE) (f:Str):TS:=fun D σ H=>tv σ H fun y H1=>ta σ H1 fun x H2=>∃ a C dx fs,x=.ref a/\H2 a=some (.ins C dx fs)/\Cls K C/\NoAttr K C f/\fs.length<1000 /\
 D.nx σ (upd H2 a (.ins C dx (zN f y fs)))
section
variable {X:Cx} {o e value:Expr} {f:Str} {pos pos' tpos:Pos} {ta tv:TE}
theorem zi (he:PE X e ta) (hb:attributeBase e f X.env (eval e X.env)=eval e X.env):PE X (.Attribute e f pos) (tFld X.K ta f):=by
 intro pins s σ H Q I h;refine attr_of hb (thn (he pins s σ H _ I h) fun u s1 ⟨x,H1,I1,rx,a,C,dx,fs,v,ex,ea,c,n,l,q⟩=>?_);subst ex;obtain rfl:u=Value.ref a:=rx;exact zhh I1 ea c n l fun u' s2 I2 ru=>⟨v,H1,I2,ru,q⟩
theorem zC (ha:PE X o ta) (hv:PE X value tv) (hs:swapsWith value (some (.Attribute o f pos')) pos.line X.env=pure false):PS X (.Assign [.Attribute o f pos'] value pos) (sFld X.K ta tv f):=by
 intro pins s σ H D I h;refine plainObj_wpAny_Assign_Attribute (thn (hv pins s σ H _ I h) fun u s1 ⟨y,H1,I1,ry,q⟩=>thn (ha pins s1 σ H1 _ I1 q) fun ov s2 ⟨x,H2,I2,rx,a,C,dx,fs,ex,ea,c,n,l,q2⟩=>?_) hs;subst ex;obtain rfl:ov=Value.ref a:=rx;exact zg2 I2 ea c n l ry fun s3 I3=>⟨σ,_,I3,q2⟩
end
section
variable {X:Cx} {pins:List (Addr×Obj)} {σ:St} {H:Hp} {s:Shared} {A:Around} {E:Value->Shared->Prop} {Q:Value->Shared->Prop} {c:Value} {b:Bool}
inductive TyOf (K:PySem.W.Frag) (H:Hp):V->Value->Prop where
 | non:TyOf K H .non (.type "NoneType")
 | bl (x:Bool):TyOf K H (.bl x) (.type "bool")
 | int (i:Int):TyOf K H (.int i) (.type "int")
 | str (x:Str):TyOf K H (.str x) (.type "str")
 | flt (x:UInt64):TyOf K H (.flt x) (.type "float")
 | lst {a:Addr} {xs:List V} (e:H a=some (.lst xs)):TyOf K H (.ref a) (.type "list")
 | frz {a:Addr} {o:Obj} {xs:List V} (e:H a=some (.frz o (.lst xs))):TyOf K H (.ref a) (.type "list")
 | tup {a:Addr} {xs:List V} (e:H a=some (.tup xs)):TyOf K H (.ref a) (.type "tuple")
 | dK {a:Addr} {kvs:List (Key×V)} (e:H a=some (.dK kvs)):TyOf K H (.ref a) (.type "dict")
 | dT {a:Addr} {kvs:List (List Key×V)} (e:H a=some (.dT kvs)):TyOf K H (.ref a) (.type "dict")
 | ins {a C dx:Addr} {fs:List (Str×V)} (e:H a=some (.ins C dx fs)) (cl:Cls K C) (ha:PySem.W.findIn K (.ref C) "__class__"=some (some (.builtin "object.__class__")))
   (hn:PySem.W.specialIn K (.builtin "object.__class__") "__get__"=some (some (.builtin "getset_descriptor.__get__"))) (htk:PySem.W.takesIn K (.builtin "object.__class__")=some true)
   (hm:PySem.W.mroIn K C (.type "object")=some true):TyOf K H (.ref a) (.ref C)
theorem isinst_ok {x:V} {u t:Value} (I:Inv X pins σ H s) (rx:RelV x u) (ty:TyOf X.K H x t) (e:PySem.W.kitOne X.K t c=some b) (h:∀ tk,Q (.bool b) { s with toks:=tk }) :
  wpAny (model X.prog X.w) A (call (.builtin "isinstance") [u,c]) Q E s:=by
 cases ty with
 | non=>cases (show u=Value.none from rx);exact PySem.W.kia_one PySem.W.kitx_none I.kIn True.intro e (fun z=>nomatch z) h
 | bl y=>cases (show u=Value.bool y from rx);exact PySem.W.kia_one PySem.W.kitx_bool I.kIn True.intro e (fun z=>nomatch z) h
 | int i=>obtain ⟨t,q⟩:=(show ∃ t,u=Value.int i t from rx);cases q;exact PySem.W.kia_one PySem.W.kitx_int I.kIn True.intro e (fun z=>nomatch z) h
 | str y=>obtain ⟨t,q⟩:=(show ∃ t,u=Value.str y t from rx);cases q;exact PySem.W.kia_one PySem.W.kitx_str I.kIn True.intro e (fun z=>nomatch z) h
 | flt y=>obtain ⟨t,q⟩:=(show ∃ t,u=Value.float y t from rx);cases q;exact PySem.W.kia_one PySem.W.kitx_float I.kIn True.intro e (fun z=>nomatch z) h
 | @lst a xs ea =>
  cases (show u=Value.ref a from rx);obtain ⟨_,_,n,_,h1⟩:=(show ObjOk X.prog X.w H s.heap a (.lst xs) from I.hok a _ ea);exact PySem.W.kia_one PySem.W.kitx_list I.kIn ⟨_,h1,rfl⟩ e (fun z=>nomatch z) h
 | @frz a ob xs ea =>
  cases (show u=Value.ref a from rx);obtain ⟨_,_,_,n,_,h1⟩:=(show ObjOk X.prog X.w H s.heap a (.frz ob (.lst xs)) from I.hok a _ ea);exact PySem.W.kia_one PySem.W.kitx_list I.kIn ⟨_,h1,rfl⟩ e (fun z=>nomatch z) h
 | @tup a xs ea =>
  cases (show u=Value.ref a from rx);obtain ⟨_,_,_,p⟩:=(show ObjOk X.prog X.w H s.heap a (.tup xs) from I.hok a _ ea);obtain ⟨o,h1,h2,_⟩:=p;exact PySem.W.kia_one PySem.W.kitx_tuple I.kIn ⟨o,h1,h2⟩ e (fun z=>nomatch z) h
 | @dK a kvs ea =>
  cases (show u=Value.ref a from rx);obtain ⟨_,_,vs,_,p⟩:=(show ObjOk X.prog X.w H s.heap a (.dK kvs) from I.hok a _ ea);obtain ⟨o,es,ep,h1,h2,_⟩:=p;exact PySem.W.kia_one PySem.W.kitx_dict I.kIn ⟨o,h1,h2.1⟩ e (fun z=>nomatch z) h
 | @dT a kvs ea =>
  cases (show u=Value.ref a from rx);obtain ⟨_,_,xs,_,o,es,ep,h1,h2,_⟩:=(show ObjOk X.prog X.w H s.heap a (.dT kvs) from I.hok a _ ea);exact PySem.W.kia_one PySem.W.kitx_dict I.kIn ⟨o,h1,h2.1⟩ e (fun z=>nomatch z) h
 | @ins a C dx fs ea cl ha hn htk hm =>
  cases (show u=Value.ref a from rx);obtain ⟨mA,O,_⟩:=YD I.hok ea;obtain ⟨od,J,_⟩:=O.look;exact PySem.W.kia_one (PySem.W.kitx_own (cl.get _) cl.hd ha hn htk hm) I.kIn J e (fun z=>nomatch z) h
end
structure Room (k:Nat) (A:Around):Prop where
 hd:A.handled=none
 dp:A.depth+3*k+5<recursionLimit
 un:A.units+16*k+200<cLine
theorem Room.mono {j k:Nat} {A:Around} (r:Room k A) (h:j<=k):Room j A:=⟨r.hd,by have:=r.dp;omega,by have:=r.un;omega⟩
theorem Room.deeper {k:Nat} {A:Around} (r:Room (k+1) A) (env:Env):Room k (A.deeper env) :=
 ⟨r.hd,by have:=r.dp;show A.depth+1+3*k+5<_;omega,by have:=r.un;show A.units+3+16*k+200<_;omega⟩
theorem zhg {A:Around} {C:Addr} {us:List Value} {kw:List (Str×Value)}:(A.under (.builtin "type.__call__" ⟨.ref C::us,kw⟩)).depth=A.depth+1:=by
 first | rfl | simp [Around.under,Code.weight,Code.isCreation,Code.isGuard,Code.isCaller,Code.frames,Code.isFrame,guardIds]
theorem zhf {A:Around} {C:Addr} {us:List Value} {kw:List (Str×Value)}:(A.under (.builtin "type.__call__" ⟨.ref C::us,kw⟩)).units=A.units+1:=by
 first | rfl | simp [Around.under,Code.cUnits,Code.frames,Code.isFrame]
theorem Room.make {k:Nat} {A:Around} (r:Room (k+1) A) (C:Addr) (us:List Value) (kw:List (Str×Value)):Room k (A.under (.builtin "type.__call__" ⟨.ref C::us,kw⟩)) :=
 ⟨r.hd,by have:=r.dp;rw [zhg];omega,by have:=r.un;rw [zhf];omega⟩
theorem Room.depth {k:Nat} {A:Around} (r:Room k A):A.depth<recursionLimit:=by have:=r.dp;omega
theorem Room.units {k:Nat} {A:Around} (r:Room k A):A.units+64<cLine:=by have:=r.un;omega
def tNil:TA:=fun _ H Q=>Q [] H
def tCons (ta:TE) (tr:TA):TA:=fun σ H Q=>ta σ H fun x H1=>tr σ H1 fun xs H2=>Q (x::xs) H2
section
variable {X:Cx} {e:Expr} {es:List Expr} {te:TE} {t:TA} {pos:Pos}
theorem ze:PA X [] tNil:=fun _ _ _ _ H Q I h=>Calls.spliced_nil ⟨[],H,I,.nil,h⟩
theorem zb (ha:PE X e te) (hr:PA X es t) (hs:starEach (e::es) X.env=(false,eval e X.env)::starEach es X.env:=by rfl):PA X (e::es) (tCons te t):=by
 intro pos pins s σ H Q I h;rw [hs];show wpAny _ _ (spliced ((false,eval e X.env)::backTo pos (starEach es X.env))) _ _ s;refine Calls.spliced_cons (thn (ha pins s σ H _ I h) fun u s1 ⟨x,H1,I1,r1,q1⟩=>?_);exact thn (hr pos pins s1 σ H1 _ I1 q1) fun us s2 ⟨xs,H2,I2,r2,q2⟩=>⟨x::xs,H2,I2,.cons r1 r2,q2⟩
def tTup (t:TA):TE:=fun σ H Q=>t σ H fun xs H1=>xs.length<=sizeLine/\∀ p,H1 p=none->Q (.ref p) (upd H1 p (.tup xs))
def tLst (t:TA):TE:=fun σ H Q=>t σ H fun xs H1=>xs.length<=sizeLine/\∀ p,H1 p=none->Q (.ref p) (upd H1 p (.lst xs))
theorem yy {x1} (h:PA X es t):PE X (.Tuple es x1 pos) (tTup t):=by
 intro pins s σ H Q I hq;refine wpAny_Tuple_spliced (thn (h pos pins s σ H _ I hq) fun us s1 ⟨xs,H1,I1,r,z,q⟩=>⟨by rw [← r.length];exact z,?_⟩);have hf:H1 s1.heap.objs.size=none:=I1.hok.fresh (Nat.le_refl _);refine ⟨.ref s1.heap.objs.size,upd H1 s1.heap.objs.size (.tup xs),I1.laid (t':=s1.toks) (fun b u e=>Heap.get?_push_of_some _ e) (Nat.le_refl _) ?_,rfl,q _ hf⟩;exact ⟨z,us,r,⟨_,Heap.get?_push_size _ rfl,rfl,_,rfl⟩⟩
theorem yF (h:PA X es t):PE X (.List es pos) (tLst t):=by
 intro pins s σ H Q I hq;refine wpAny_List_spliced (thn (h pos pins s σ H _ I hq) fun us s1 ⟨xs,H1,I1,r,z,q⟩=>⟨by rw [← r.length];exact z,?_⟩);have hf:H1 s1.heap.objs.size=none:=I1.hok.fresh (Nat.le_refl _);refine ⟨.ref s1.heap.objs.size,upd H1 s1.heap.objs.size (.lst xs),I1.laid (t':=s1.toks) (fun b u e=>Heap.get?_push_of_some _ e) (Nat.le_refl _) ?_,rfl,q _ hf⟩;exact ⟨z,us,0,r,Heap.get?_push_size _ rfl⟩
end
abbrev Sp:=List V->Hp->VK->XK->Prop
abbrev CXT:=List Env->Hp->Shared->XK->Value->Shared->Prop
structure Env0 (P:Program) (w:World) (K:PySem.W.Frag) (mg:Str->Option Value) (base:Heap) (A:Around) (outer:List Env) (s:Shared) (H:Hp):Prop where
 frames:A.frames=some outer
 mod:Mod K mg base
 bs:∀ b o,base.get? b=some o->s.heap.get? b=some o/\H b=none
 bsz:base.objs.size<=s.heap.objs.size
 funs:s.heap.FunFrames base outer
 frf:∀ b∈frs outer,H b=none
 hok:HOk P w H s.heap
 bare:AllBare s.gens
def CE (outer:List Env) (P:Program) (w:World) (H:Hp) (s:Shared) (Q:VK) (u:Value) (s':Shared):Prop :=
 ∃ v H',s'.os=s.os/\AllBare s'.gens/\Un (frs outer) [] H H' s.heap s'.heap/\HOk P w H' s'.heap/\RelV v u/\Q v H'
def CR (CX:CXT) (outer:List Env) (P:Program) (w:World) (H:Hp) (s:Shared) (Q:VK) (E:XK) (r:Result) (s':Shared):Prop :=
 match r with
 | .ok (.ret u)=>CE outer P w H s Q u s'
 | .ok _=>False
 | .error e=>CX outer H s E e s'
structure FnOk (P:Program) (w:World) (K:PySem.W.Frag) (mg:Str->Option Value) (base:Heap) (CX:CXT) (k:Nat) (f:Addr) (fd:FuncData) (ps:List Str) (sp:Sp):Prop where
 len:∀ vs H Q E,sp vs H Q E->vs.length=ps.length
 run:∀ (A:Around) (outer:List Env) (s:Shared) (H:Hp) (args:Args) (us:List Value) (vs:List V) (Q:VK) (E:XK),Room k A->Env0 P w K mg base A outer s H->BindsTo s fd args (ps.zip us)->Vals vs us->sp vs H Q E ->
  codeAny (model P w) A (.call (.ref f) args) (CR CX outer P w H s Q E) s
theorem FnOk.mono {P:Program} {w:World} {K:PySem.W.Frag} {mg:Str->Option Value} {base:Heap} {CX:CXT} {j k:Nat} {f:Addr} {fd:FuncData} {ps:List Str} {sp:Sp} (F:FnOk P w K mg base CX j f fd ps sp) (h:j<=k) :
  FnOk P w K mg base CX k f fd ps sp:=⟨F.len,fun A outer s H args us vs Q E hr=>F.run A outer s H args us vs Q E (hr.mono h)⟩
theorem Env0.make {P:Program} {w:World} {K:PySem.W.Frag} {mg:Str->Option Value} {base:Heap} {A:Around} {outer:List Env} {s:Shared} {H:Hp} (e:Env0 P w K mg base A outer s H) (C:Addr) (us:List Value) (kw:List (Str×Value)) :
  Env0 P w K mg base (A.under (.builtin "type.__call__" ⟨.ref C::us,kw⟩)) outer s H:=⟨by first | exact e.frames | (simpa [Around.under,Code.envs,Code.isFrame,pushEnvs] using e.frames),e.mod,e.bs,e.bsz,e.funs,e.frf,e.hok,e.bare⟩
section
variable {X:Cx} {pins:List (Addr×Obj)} {σ:St} {H:Hp} {s s':Shared}
theorem Inv.env0 (I:Inv X pins σ H s):Env0 X.prog X.w X.K X.mg X.base X.A X.stack s H :=
 ⟨I.ok.frames,I.ok.mod,I.bs,Nat.le_trans I.ok.bsz I.sz,I.stack,I.stkFree,I.hok,I.bare⟩
theorem Inv.after {Q:VK} {u:Value} (I:Inv X pins σ H s) (h:CE X.stack X.prog X.w H s Q u s'):EP X pins σ Q u s':=by
 obtain ⟨v,H',os,bare,un,hok,r,q⟩:=h;obtain ⟨hh,g,d,t,os'⟩:=s';obtain rfl:os'=s.os:=os;exact ⟨v,H',I.call (h':=hh) (g':=g) (d':=d) (t':=t) (ch:=[]) un hok bare (fun b z=>absurd z (by simp)),r,q⟩
end
def tCall (sp:Sp) (dvs:List V) (E:XK) (t:TA):TE:=fun σ H Q=>t σ H fun vs H1=>sp (vs++dvs) H1 Q E
def tMeth (C:Addr) (m:Str) (sp:Sp) (dvs:List V) (E:XK) (ta:TE) (t:TA):TE:=fun σ H Q=>ta σ H fun x H1=>∃ a dx fs,x=.ref a/\H1 a=some (.ins C dx fs)/\fs.lookup m=none /\
 t σ H1 fun vs H2=>sp (x::(vs++dvs)) H2 Q E
def tMake (C:Addr) (sp:Sp) (dvs:List V) (E:XK) (t:TA):TE:=fun σ H Q=>t σ H fun vs H1=>∀ x dx,H1 x=none->H1 dx=none->dx≠x ->
 sp (.ref x::(vs++dvs)) (upd (upd H1 dx (.own x)) x (.ins C dx [])) (fun v H2=>v=.non/\Q (.ref x) H2) E
def Binds (K:PySem.W.Frag) (fd:FuncData) (ps:List Str) (ds:List Value):Prop :=
 ∀ (s:Shared) (us:List Value),K.In s.heap->(us++ds).length=ps.length->BindsTo s fd ⟨us,[]⟩ (ps.zip (us++ds))
theorem Binds.all {K:PySem.W.Frag} {fd:FuncData} {ps:List Str} (h:∀ us:List Value,us.length=ps.length->bindArgs fd ⟨us,[]⟩=pure (ps.zip us)):Binds K fd ps []:=fun s us _ hl=>by
 rw [List.append_nil] at hl ⊢;exact .of_eq (h us hl)
def xb (CX:CXT) (X:Cx) (E:XK):Prop:=∀ (pins:List (Addr×Obj)) (σ:St) (H:Hp) (s:Shared) (e:Value) (s':Shared),Inv X pins σ H s->CX X.stack H s E e s'->X.xe e s'
section
variable {X:Cx} {CX:CXT} {k:Nat} {f C:Addr} {fd:FuncData} {ps:List Str} {sp:Sp} {dvs:List V} {ds:List Value} {E:XK} {x m:Str} {p pos apos:Pos} {e o:Expr} {es:List Expr} {ta:TE} {t:TA}
theorem zcx {pins:List (Addr×Obj)} {σ:St} {H:Hp} {s:Shared} {Q:VK} {us:List Value} {vs:List V} (F:FnOk X.prog X.w X.K X.mg X.base CX k f fd ps sp) (hr:Room k X.A) (hb:Binds X.K fd ps ds) (hd:Vals dvs ds) (hx:xb CX X E)
  (I:Inv X pins σ H s) (r:Vals vs us) (h:sp (vs++dvs) H Q E):wpAny (model X.prog X.w) X.A (call (.ref f) us) (EP X pins σ Q) X.xe s:=by
 have r2:Vals (vs++dvs) (us++ds):=r.append hd;have hl:(us++ds).length=ps.length:=by rw [← r2.length];exact F.len _ _ _ _ h
 refine wpAny_call (codeAny_mono (F.run X.A X.stack s H ⟨us,[]⟩ (us++ds) (vs++dvs) Q E hr I.env0 (hb s us I.kIn hl) r2 h) fun r s' hq=>?_)
 cases r with
 | error e=>exact hx pins σ H s e s' I hq
 | ok fl =>
  cases fl with
  | ret u=>exact I.after hq
  | next=>exact False.elim hq
  | brk=>exact False.elim hq
  | cont=>exact False.elim hq
theorem pe_call (F:FnOk X.prog X.w X.K X.mg X.base CX k f fd ps sp) (hr:Room k X.A) (hg:Gl X x) (hm:X.mg x=some (.ref f)) (hk:PySem.W.keepIn X.K (.ref f)=true) (hb:Binds X.K fd ps ds) (hd:Vals dvs ds) (hx:xb CX X E)
  (ha:PA X (e::es) t) (hdb:(x == ("__debug__":Str))=false:=by decide) (he:starEach (e::es) X.env=(false,eval e X.env)::starEach es X.env:=by rfl) (hpl:(backTo pos (starEach es X.env)).any (·.1)=false:=by rfl) :
  PE X (.Call (.Name x p) (e::es) [] pos) (tCall sp dvs E t):=by
 intro pins s σ H Q I h;refine wpAny_Call_Name_kw (YA I hg hm ?_ hdb);refine PySem.W.callWith_K (h₀:=X.base) I.ok.mod.kin hk (thn (ha pos pins s σ H _ I h) fun us s1 ⟨vs,H1,I1,r,q⟩=>⟨I1.kIn,?_⟩) he hpl;exact zcx F hr hb hd hx I1 r q
theorem pe_meth {pl:Sem Bool} (he:PE X o ta) (c:Cls X.K C) (hm:Meth X.K C m f) (F:FnOk X.prog X.w X.K X.mg X.base CX k f fd ps sp) (hr:Room k X.A) (hb:Binds X.K fd ps ds) (hd:Vals dvs ds) (hx:xb CX X E) (ha:PA X (e::es) t)
  (hst:starEach (e::es) X.env=(false,eval e X.env)::starEach es X.env:=by rfl) (hpl:(backTo pos (starEach es X.env)).any (·.1)=false:=by rfl)
  (ht:eval (.Call (.Attribute o m apos) (e::es) [] pos) X.env=(do
   let ov ← eval o X.env
   standAt apos.atName
   let (f,first) ← holding [ov] (getMethod ov m pl)
   callWith pos f first (backTo pos (starEach (e::es) X.env)) (backToKw pos (keywordEach [] X.env))):=by rfl) :
  PE X (.Call (.Attribute o m apos) (e::es) [] pos) (tMeth C m sp dvs E ta t):=by
 intro pins s σ H Q I h;refine PySem.W.methodCall_KW (pl:=pl) (thn (he pins s σ H _ I h) fun u s1 ⟨x,H1,I1,rx,a,dx,fs,ex,ea,l,q⟩=>?_) ht;subst ex;obtain rfl:u=Value.ref a:=rx;refine Xa I1 ea c hm l ?_;refine PySem.W.callWith_K (first:=[.ref a]) (h₀:=X.base) I.ok.mod.kin hm.kp (thn (ha pos pins s1 σ H1 _ I1 q) fun us s2 ⟨vs,H2,I2,r,q2⟩=>⟨I2.kIn,?_⟩) hst hpl;exact zcx (us:=.ref a::us) (vs:=.ref a::vs) F hr hb hd hx I2 (.cons rfl r) q2
theorem pe_meth0 {pl:Sem Bool} (he:PE X o ta) (c:Cls X.K C) (hm:Meth X.K C m f) (F:FnOk X.prog X.w X.K X.mg X.base CX k f fd ps sp) (hr:Room k X.A) (hb:Binds X.K fd ps ds) (hd:Vals dvs ds) (hx:xb CX X E)
  (ht:eval (.Call (.Attribute o m apos) [] [] pos) X.env=(do
   let ov ← eval o X.env
   standAt apos.atName
   let (f,first) ← holding [ov] (getMethod ov m pl)
   callWith pos f first (backTo pos (starEach [] X.env)) (backToKw pos (keywordEach [] X.env))):=by rfl) :
  PE X (.Call (.Attribute o m apos) [] [] pos) (tMeth C m sp dvs E ta tNil):=by
 intro pins s σ H Q I h;refine PySem.W.methodCall_KW (pl:=pl) (thn (he pins s σ H _ I h) fun u s1 ⟨x,H1,I1,rx,a,dx,fs,ex,ea,l,q⟩=>?_) ht;subst ex;obtain rfl:u=Value.ref a:=rx;refine Xa I1 ea c hm l ?_;exact PySem.W.callWith_K0 (first:=[.ref a]) I1.kIn hm.kp (zcx (us:=[.ref a]) (vs:=[.ref a]) F hr hb hd hx I1 (.cons rfl .nil) q)
structure Mk (K:PySem.W.Frag) (C f:Addr):Prop where
 makes:PySem.W.makesIn K C=true
 init:PySem.W.findIn K (.ref C) "__init__"=some (some (.ref f))
 fn:PySem.W.isFn K (.ref f)=true
 kp:PySem.W.keepIn K (.ref C)=true
theorem run_make {pins:List (Addr×Obj)} {σ:St} {H:Hp} {s:Shared} {Q:VK} {us:List Value} {vs:List V} (M:Mk X.K C f) (F:FnOk X.prog X.w X.K X.mg X.base CX k f fd ps sp) (hr:Room (k+1) X.A) (hb:Binds X.K fd ps ds) (hd:Vals dvs ds)
  (hx:xb CX X E) (I:Inv X pins σ H s) (r:Vals vs us)
  (h:∀ x dx,H x=none->H dx=none->dx≠x->sp (.ref x::(vs++dvs)) (upd (upd H dx (.own x)) x (.ins C dx [])) (fun v H2=>v=.non/\Q (.ref x) H2) E) :
  wpAny (model X.prog X.w) X.A (call (.ref C) us) (EP X pins σ Q) X.xe s:=by
 have hq:=h (s.heap.objs.size+1) s.heap.objs.size (I.hok.fresh (Nat.le_succ _)) (I.hok.fresh (Nat.le_refl _)) (Nat.ne_of_lt (Nat.lt_succ_self _));have I2:=Inv.made (C:=C) I;have r2:Vals (V.ref (s.heap.objs.size+1)::(vs++dvs)) (Value.ref (s.heap.objs.size+1)::(us++ds)):=.cons rfl (r.append hd)
 have hl:(Value.ref (s.heap.objs.size+1)::us++ds).length=ps.length:=by
  have e:=r2.length;rw [F.len _ _ _ _ hq] at e;exact e.symm
 refine wpAny_call (make_map (f:=f) I.kIn M.makes M.init (beq_iff_eq.mp M.fn) (codeAny_mono (F.run _ X.stack _ _ ⟨Value.ref (s.heap.objs.size+1)::us,[]⟩ (Value.ref (s.heap.objs.size+1)::(us++ds)) _ _ E (hr.make C us [])
  (I2.env0.make C us []) (hb _ (Value.ref (s.heap.objs.size+1)::us) I2.kIn hl) r2 hq) fun r s' hq'=>?_))
 cases r with
 | error e=>exact hx pins σ _ _ e s' I2 hq'
 | ok fl =>
  cases fl with
  | ret u =>
   obtain ⟨v,H',I3,rv,ev,q3⟩:=I2.after hq';subst ev;exact ⟨rv,⟨V.ref (s.heap.objs.size+1),H',I3,rfl,q3⟩⟩
  | next=>exact False.elim hq'
  | brk=>exact False.elim hq'
  | cont=>exact False.elim hq'
theorem pe_make (M:Mk X.K C f) (F:FnOk X.prog X.w X.K X.mg X.base CX k f fd ps sp) (hr:Room (k+1) X.A) (hg:Gl X x) (hm:X.mg x=some (.ref C)) (hb:Binds X.K fd ps ds) (hd:Vals dvs ds) (hx:xb CX X E)
  (ha:PA X (e::es) t) (hdb:(x == ("__debug__":Str))=false:=by decide) (he:starEach (e::es) X.env=(false,eval e X.env)::starEach es X.env:=by rfl) (hpl:(backTo pos (starEach es X.env)).any (·.1)=false:=by rfl) :
  PE X (.Call (.Name x p) (e::es) [] pos) (tMake C sp dvs E t):=by
 intro pins s σ H Q I h;refine wpAny_Call_Name_kw (YA I hg hm ?_ hdb);refine PySem.W.callWith_K (h₀:=X.base) I.ok.mod.kin M.kp (thn (ha pos pins s σ H _ I h) fun us s1 ⟨vs,H1,I1,r,q⟩=>⟨I1.kIn,?_⟩) he hpl;exact run_make M F hr hb hd hx I1 r q
end
section
variable {X:Cx} {CX:CXT} {k:Nat} {f C:Addr} {fd:FuncData} {ps ks:List Str} {sp:Sp} {E:XK} {x m:Str} {p pos apos kpos:Pos} {e o:Expr} {es:List Expr} {kws:List Keyword} {te ta:TE} {t tk:TA} {nm:Option Str}
variable {g:List Value->List Value->List Value} {gV:List V->List V->List V}
end
structure FnScope (N P:List Str) (sc:Scope):Prop where
 kind:sc.kind=.function
 co:sc.isCoroutine=false
 gen:sc.isGenerator=false
 nd:N.Nodup
 pre:N.take P.length=P
 par:∀ x∈P,sc.names.lookup x=some .local∨sc.names.lookup x=some .cell
 nofree:∀ y∈sc.names,y.2≠.free
theorem XQ {kindOf:Str->Option NameKind} {x:Str}:∀ {binds:List (Str×Value)} {m:Str->Option Value},(∀ v,(x,v) ∉ binds)->bindL kindOf binds m x=m x
 | [],_,_=>rfl
 | (n,v)::r,m,h=>by
  unfold bindL;rw [XQ fun w hw=>h w (List.mem_cons_of_mem _ hw)]
  split
  ·have:x≠n:=by rintro rfl;exact h v List.mem_cons_self
   simp [this]
  ·rfl
theorem XS {kindOf:Str->Option NameKind} {x:Str}:∀ {binds:List (Str×Value)} {m:Str->Option Value},(∀ v,(x,v) ∉ binds)->bindC kindOf binds m x=m x
 | [],_,_=>rfl
 | (n,v)::r,m,h=>by
  unfold bindC;rw [XS fun w hw=>h w (List.mem_cons_of_mem _ hw)]
  split
  ·rfl
  ·have:x≠n:=by rintro rfl;exact h v List.mem_cons_self
   simp [this]
theorem XR {kindOf:Str->Option NameKind} {x:Str} {v:Value}:∀ {P:List Str} {vs:List Value} {i:Nat} {m:Str->Option Value},P.Nodup->P[i]?=some x->vs[i]?=some v->kindOf x=some .local ->
  bindL kindOf (P.zip vs) m x=some v
 | [],_,_,_,_,h,_,_=>by simp at h
 | _::_,[],_,_,_,_,h,_=>by simp at h
 | p::P,w::vs,0,m,nd,h1,h2,hk=>by
  simp at h1 h2;subst h1;subst h2;show bindL kindOf ((p,w)::P.zip vs) m p=_;unfold bindL;rw [XQ fun v hv=>(List.nodup_cons.mp nd).1 (List.of_mem_zip hv).1,if_pos hk];simp
 | p::P,w::vs,i+1,m,nd,h1,h2,hk=>by
  show bindL kindOf ((p,w)::P.zip vs) m x=_;unfold bindL;exact XR (i:=i) (List.nodup_cons.mp nd).2 (by simpa using h1) (by simpa using h2) hk
theorem XT {kindOf:Str->Option NameKind} {x:Str} {v:Value}:∀ {P:List Str} {vs:List Value} {i:Nat} {m:Str->Option Value},P.Nodup->P[i]?=some x->vs[i]?=some v->kindOf x≠some .local ->
  bindC kindOf (P.zip vs) m x=some v
 | [],_,_,_,_,h,_,_=>by simp at h
 | _::_,[],_,_,_,_,h,_=>by simp at h
 | p::P,w::vs,0,m,nd,h1,h2,hk=>by
  simp at h1 h2;subst h1;subst h2;show bindC kindOf ((p,w)::P.zip vs) m p=_;unfold bindC;rw [XS fun v hv=>(List.nodup_cons.mp nd).1 (List.of_mem_zip hv).1,if_neg hk];simp
 | p::P,w::vs,i+1,m,nd,h1,h2,hk=>by
  show bindC kindOf ((p,w)::P.zip vs) m x=_;unfold bindC;exact XT (i:=i) (List.nodup_cons.mp nd).2 (by simpa using h1) (by simpa using h2) hk
def start (N:List Str) (vs:List V):St:=vs.map some++List.replicate (N.length-vs.length) none
def cxOf (CX:CXT) (P:Program) (w:World) (K:PySem.W.Frag) (mg:Str->Option Value) (base:Heap) (N:List Str) (qual:Str) (scope:Scope) (f:Addr) (cd:Value) (A:Around) (outer:List Env) (s:Shared) (H:Hp) (E:XK):Cx where
 prog:=P
 w:=w
 K:=K
 mg:=mg
 base:=base
 A:=A.deeper (envOfC qual scope s.heap.objs.size f cd)
 N:=N
 s₀:=s
 H₀:=H
 env:=envOfC qual scope s.heap.objs.size f cd
 outer:=outer
 stack:=envOfC qual scope s.heap.objs.size f cd::outer
 ex:=[]
 calm:=true
 fn:=fun _=>true
 pn:=[]
 xe:=fun e s'=>wpAny (model P w) (A.deeper (envOfC qual scope s.heap.objs.size f cd)) (leaving (envOfC qual scope s.heap.objs.size f cd) e) (fun _ s''=>CX outer H s E e s'') (fun e' s''=>CX outer H s E e' s'') s'
theorem zgw {sc:Scope} {n:Nat} {x:Str} (h:sc.names.lookup x=some .cell):∃ c,(cellsFrom n sc.names []).lookup x=some c:=by
 have q:=PySem.W.cellsFrom_some sc.names n [] (.inl h);exact Option.isSome_iff_exists.mp q
theorem inv_start {CX:CXT} {P:Program} {w:World} {K:PySem.W.Frag} {mg:Str->Option Value} {base:Heap} {N ps:List Str} {qual:Str} {scope:Scope} {f:Addr} {cd:Value} {A:Around} {outer:List Env} {s s1:Shared} {H:Hp} {E:XK} {us:List Value} {vs:List V}
  (S:FnScope N ps scope) (hd:A.handled=none) (e0:Env0 P w K mg base A outer s H) (hl:vs.length=ps.length) (r:Vals vs us)
  (x:InCallC s s.heap.objs.size (bindL (envOfC qual scope s.heap.objs.size f cd).kindOf (ps.zip us) fun _=>none) (cellsFrom (s.heap.objs.size+1) scope.names []) (bindC (envOfC qual scope s.heap.objs.size f cd).kindOf (ps.zip us) fun _=>none) s1) :
  Inv (cxOf CX P w K mg base N qual scope f cd A outer s H E) [] (start N vs) H s1:=by
 have hpl:ps.length<=N.length:=by have:=congrArg List.length S.pre;rw [List.length_take] at this;omega
 obtain ⟨h1,tk,rfl,hk⟩:=x.done;have noA:∀ b:Addr,b ∉ (cxOf CX P w K mg base N qual scope f cd A outer s H E).ex:=fun b z=>absurd (show b∈([]:List Addr) from z) (by simp)
 refine ⟨⟨e0.mod,S.kind,rfl,rfl,Nat.le_refl _,fun y z c h1 h2=>?_,fun y hy=>?_,fun y c _ h=>?_,fun _=>hd,Around.frames_deeper e0.frames,.inr ⟨rfl,rfl⟩,fun b z=>absurd z (noA b),e0.bs,e0.bsz,fun b _ _=>noA b,fun b z=>absurd z (noA b),e0.funs,e0.frf⟩,
  rfl,e0.bare,Un.kept hk,⟨_,x.toInCall.ns,fun i y v h1 h2 h3=>?_⟩,fun y c h=>⟨_,x.cell y c h⟩,e0.hok.fresh (Nat.le_refl _),fun y c h=>?_,fun p hp=>absurd (show p∈([]:List (Addr×Obj)) from hp) (by simp),e0.hok.kept hk,?_⟩
 ·exact name_of_addr x.apart (PySem.mem_of_lookup h1) (PySem.mem_of_lookup h2)
 ·have hy:scope.names.lookup y=some .cell∨scope.names.lookup y=some .free:=hy
  rcases hy with hy | hy
  ·exact zgw hy
  ·exact absurd rfl (S.nofree _ (PySem.mem_of_lookup hy))
 ·exact Nat.le_of_lt (x.above y c (PySem.mem_of_lookup h))
 ·have hi:i<vs.length:=by
   unfold start at h2;by_cases hi:i<vs.length
   ·exact hi
   ·rw [List.getElem?_append_right (by simpa using hi)] at h2
    rw [List.getElem?_replicate] at h2
    split at h2 <;> cases h2
  have ha:vs[i]?=some v:=by
   unfold start at h2;rw [List.getElem?_append_left (by simpa using hi),List.getElem?_map] at h2
   cases e:vs[i]? with
   | none=>rw [e] at h2;cases h2
   | some a=>rw [e] at h2;cases h2;rfl
  obtain ⟨u,hu,rv⟩:=r.get ha
  have hp:ps[i]?=some y:=by
   rw [← S.pre,List.getElem?_take_of_lt (by omega)];exact h1
  have ndP:ps.Nodup:=by rw [← S.pre];exact S.nd.sublist (List.take_sublist _ _)
  refine ⟨u,rv,?_⟩;rcases S.par y (List.mem_of_getElem? hp) with k | k
  ·exact .inl ⟨k,XR ndP hp hu k⟩
  ·obtain ⟨c,e⟩:=zgw (n:=s.heap.objs.size+1) k
   refine .inr ⟨.inl k,c,e,?_⟩;have q:=x.cell y c e;rw [XT ndP hp hu (by show scope.names.lookup y≠_;rw [k];decide)] at q;exact q
 ·exact e0.hok.fresh (Nat.le_of_lt (x.above y c (PySem.mem_of_lookup h)))
 ·unfold start
  show _=N.length;rw [List.length_append,List.length_map,List.length_replicate];omega
theorem fn_of {CX:CXT} {P:Program} {w:World} {K:PySem.W.Frag} {mg:Str->Option Value} {base:Heap} {k:Nat} {f:Addr} {name qual:Str} {params:Arguments} {body:List Stmt} {scope:Scope} {dV kV doc pm cdv ct oc:Value} {an od:Option Addr}
  {osl:Array (Option Value)} {N ps:List Str} {sp:Sp} (lk:K.lookup f=some ⟨oc,od,.func (PySem.W.fnOf name qual params body scope dV kV doc pm an cdv ct),osl⟩) (hcd:PySem.W.codeIn K cdv qual=true) (S:FnScope N ps scope)
  (len:∀ vs H Q E,sp vs H Q E->vs.length=ps.length)
  (hbody:∀ (A:Around) (outer:List Env) (s:Shared) (H:Hp) (vs:List V) (Q:VK) (E:XK),Room k (A.deeper (envOfC qual scope s.heap.objs.size f cdv))->sp vs H Q E ->
   ∃ t,PSs (cxOf CX P w K mg base N qual scope f cdv A outer s H E) body t/\t { nx:=fun _ H'=>Q .non H',rt:=Q } (start N vs) H) :
  FnOk P w K mg base CX (k+1) f (PySem.W.fnOf name qual params body scope dV kV doc pm an cdv ct) ps sp:=by
 refine ⟨len,fun A outer s H args us vs Q E hr e0 hb r hsp=>?_⟩;have hl:=len _ _ _ _ hsp;have KX:K.In s.heap:=e0.mod.kin.keeps fun b o e=>(e0.bs b o e).1;have lim:s.heap.NoLimit:=e0.mod.nolimit.keeps fun b o e=>(e0.bs b o e).1
 have hkind:∀ y∈ps.zip us,scope.names.lookup y.1=some .local∨(scope.names.lookup y.1=some .cell/\((cellsFrom (s.heap.objs.size+1) scope.names []).lookup y.1).isSome=true):=fun ⟨n,v⟩ hy=>by
  rcases S.par n (List.of_mem_zip hy).1 with q | q
  ·exact .inl q
  ·exact .inr ⟨q,PySem.W.cellsFrom_some _ _ _ (.inl q)⟩
 refine codeAny_call_function hr.depth (KX _ _ lk) rfl S.co S.gen rfl (PySem.W.codeRec_of KX hcd) (hb _ _ _ _ ?_);refine wpAny_newFunctionEnv_cells S.kind hkind fun env he s1 x=>?_;subst he;refine ⟨lim.keeps x.toInCall.keep,codeAny_func ?_⟩;obtain ⟨t,ht,hq⟩:=hbody A outer s H vs Q E (hr.deeper _) hsp;have I:Inv (cxOf CX P w K mg base N qual scope f cdv A outer s H E) [] (start N vs) H s1:=inv_start S hr.hd e0 hl r x;refine wpAny_mono (ht [] s1 (start N vs) H _ I hq) (fun fl s' hs=>?_) fun e s' hs=>hs
 have fin:∀ {σ':St} {H':Hp} {v:V} {u:Value},Inv (cxOf CX P w K mg base N qual scope f cdv A outer s H E) [] σ' H' s'->RelV v u->Q v H'->CE outer P w H s Q u s' :=
  fun {σ' H' v u} J rv q=>⟨v,H',J.os,J.bare,J.base,J.hok,rv,q⟩
 cases fl with
 | ret u =>
  obtain ⟨v,σ',H',J,rv,q⟩:=hs;exact fin J rv q
 | next =>
  obtain ⟨σ',H',J,q⟩:=hs;exact fin (v:=V.non) (u:=Value.none) J rfl q
 | brk =>
  obtain ⟨_,_,_,q⟩:=hs;exact False.elim q
 | cont =>
  obtain ⟨_,_,_,q⟩:=hs;exact False.elim q
section
variable {X:Cx} {x:Str} {p pos:Pos} {e:Expr} {es:List Expr} {t:TA} {id T:String} {r:List V->Hp->VK->Prop}
def tCB (r:List V->Hp->VK->Prop) (t:TA):TE:=fun σ H Q=>t σ H fun vs H1=>r vs H1 Q
theorem zt (hc:ZG X (.builtin id) r) (hg:Gl X x) (hm:X.mg x=none) (hv:bootBuiltins x=some (.builtin id)) (ha:PA X (e::es) t) (hn:x≠"__name__":=by decide) (hdb:(x == ("__debug__":Str))=false:=by decide)
  (he:starEach (e::es) X.env=(false,eval e X.env)::starEach es X.env:=by rfl) (hpl:(backTo pos (starEach es X.env)).any (·.1)=false:=by rfl):PE X (.Call (.Name x p) (e::es) [] pos) (tCB r t):=by
 intro pins s σ H Q I h;refine wpAny_Call_Name_kw (ZB I hg hm hv ?_ hn hdb);exact PyProof.Rows.callWith_builtin1 (thn (ha pos pins s σ H _ I h) fun us s1 ⟨vs,H1,I1,r1,q1⟩=>hc pins s1 σ H1 vs us Q I1 r1 q1) he hpl
theorem yv (hc:ZG X (.type T) r) (hg:Gl X x) (hm:X.mg x=none) (hv:bootBuiltins x=some (.type T)) (ha:PA X (e::es) t) (hn:x≠"__name__":=by decide) (hdb:(x == ("__debug__":Str))=false:=by decide)
  (he:starEach (e::es) X.env=(false,eval e X.env)::starEach es X.env:=by rfl) (hpl:(backTo pos (starEach es X.env)).any (·.1)=false:=by rfl):PE X (.Call (.Name x p) (e::es) [] pos) (tCB r t):=by
 intro pins s σ H Q I h;refine wpAny_Call_Name_kw (ZB I hg hm hv ?_ hn hdb);exact PyProof.Rows.callWith_type1 (thn (ha pos pins s σ H _ I h) fun us s1 ⟨vs,H1,I1,r1,q1⟩=>hc pins s1 σ H1 vs us Q I1 r1 q1) he hpl
end
end L2
namespace HT
open PySem PyProof.Rows
section
open PySem.SeqAt
open PySem.AutoSeq1 (wpAny_loadPart')
open PySem.MeetsSeq PySem.MeetsSeq2 PySem.MeetsSeq3
end
section
variable {prog:Program} {w:World} {A:Around} {E:Value->Shared->Prop} {s:Shared}
def sIx (n d:Nat):Option Int->Nat
 | none=>d
 | some v=>if v<0 then (v+(n:Int)).toNat else min v.toNat n
theorem sIx_none (n d:Nat):sIx n d none=d:=rfl
end
end HT
namespace L2
open PySem PySem.Spec PyProof.Rows
abbrev TO:=St->Hp->(Option Int->Hp->Prop)->Prop
def PO (X:Cx) (e:Option Expr) (t:TO):Prop :=
 ∀ (pins:List (Addr×Obj)) (s:Shared) (σ:St) (H:Hp) (Q:Option Int->Hp->Prop),Inv X pins σ H s->t σ H Q ->
  wpAny (model X.prog X.w) X.A (evalPart e X.env) (fun u s'=>∃ o H',Inv X pins σ H' s'/\IsPart u o/\Q o H') X.xe s
def tNoPart:TO:=fun _ H Q=>Q none H
def tPart (t:TE):TO:=fun σ H Q=>t σ H fun x H1=>∃ i,x=.int i/\Q (some i) H1
section
variable {X:Cx} {e:Expr} {te:TE} {lo hi:Option Expr} {tl th:TO} {pos p2:Pos}
theorem po_none:PO X none tNoPart:=by
 intro pins s σ H Q I h;rw [evalPart_none];exact wpAny_pure ⟨none,H,I,.none,h⟩
theorem Z7 (h:PE X e te):PO X (some e) (tPart te):=by
 intro pins s σ H Q I hw;rw [evalPart_some];refine thn (h pins s σ H _ I hw) fun u s1 ⟨x,H1,I1,r1,q1⟩=>?_;obtain ⟨i,rfl,q⟩:=q1;obtain ⟨t,rfl⟩:=r1;exact ⟨some i,H1,I1,.int i t,q⟩
def SlR (X:Cx) (r:V->Option Int->Option Int->Hp->VK->Prop):Prop :=
 ∀ (pins:List (Addr×Obj)) (s:Shared) (σ:St) (H:Hp) (x:V) (v vl vu:Value) (lo hi:Option Int) (sl:Addr) (Q:VK),Inv X pins σ H s->RelV x v->s.heap.IsSliceOf sl vl vu .none->IsPart vl lo->IsPart vu hi->r x lo hi H Q ->
  ∃ T id,typeLookup (.type T) "__getitem__"=pure (some (.builtin id))/\s.TypeIs v T/\wpAny (model X.prog X.w) X.A (getItem v (.ref sl)) (EP X pins σ Q) X.xe s
def tSl (r:V->Option Int->Option Int->Hp->VK->Prop) (te:TE) (tl th:TO):TE:=fun σ H Q=>te σ H fun x H1=>tl σ H1 fun l H2=>th σ H2 fun u H3=>r x l u H3 Q
theorem Y0 {r:V->Option Int->Option Int->Hp->VK->Prop} (hr:SlR X r) (he:PE X e te) (hl:PO X lo tl) (hu:PO X hi th):PE X (.Subscript e (.Slice lo hi none p2) pos) (tSl r te tl th):=by
 intro pins s σ H Q I h;refine Subscript_ (thn (he pins s σ H _ I h) fun v s1 ⟨x,H1,I1,r1,q1⟩=>?_);refine wpAny_Slice (thn (hl pins s1 σ H1 _ I1 q1) fun vl s2 ⟨l,H2,I2,pl,q2⟩=>thn (hu pins s2 σ H2 _ I2 q2) fun vu s3 ⟨u,H3,I3,pu,q3⟩=>?_);rw [evalPart_none];refine wpAny_pure ?_;have I4:Inv X pins σ H3 { s3 with heap:=s3.heap.push { cls:=.type "slice",data:=.fields #[vl,vu,.none] } }:=I3.kept (t':=s3.toks) fun b ob q=>Heap.get?_push_of_some _ q;obtain ⟨T,id,hT,ht,hg⟩:=hr pins { s3 with heap:=s3.heap.push { cls:=.type "slice",data:=.fields #[vl,vu,.none] } } σ H3 x v vl vu l u s3.heap.objs.size Q I4 r1 (Heap.IsSliceOf.new ..) pl pu q3;show wpAny (model X.prog X.w) X.A (subscriptTail e (.Slice lo hi none p2) v (.ref s3.heap.objs.size)) (EP X pins σ Q) X.xe { s3 with heap:=s3.heap.push { cls:=.type "slice",data:=.fields #[vl,vu,.none] } };exact tail_any (ops:=[.ref s3.heap.objs.size,v]) ht hT hg (by with_unfolding_all rfl)
def cutV (xs:List V) (lo hi:Option Int):List V:=(xs.drop (HT.sIx xs.length 0 lo)).take (HT.sIx xs.length xs.length hi-HT.sIx xs.length 0 lo)
theorem zgp (xs:List V) (lo hi:Option Int):(cutV xs lo hi).length<=xs.length:=by
 unfold cutV;rw [List.length_take,List.length_drop];omega
end
def ixN (n:Nat) (i:Int):Option Nat:=if 0<=i then (if i<n then some i.toNat else none) else if -(n:Int)<=i then some (i+n).toNat else none
def atI {α:Type} (xs:List α) (i:Int):Option α:=(ixN xs.length i).bind fun j=>xs[j]?
theorem ixN_seq {n:Nat} {i:Int} {j:Nat} (h:ixN n i=some j):seqIndex? i n=some j/\j<n/\-(n:Int)<=i/\i<n:=by
 unfold ixN at h;by_cases h0:0<=i
 ·rw [if_pos h0] at h
  by_cases h1:i<n
  ·rw [if_pos h1] at h
   have e:i.toNat=j:=Option.some.inj h;exact ⟨by rw [seqIndex_of h0 h1,e],by omega,by omega,h1⟩
  ·rw [if_neg h1] at h;cases h
 ·rw [if_neg h0] at h
  by_cases h1:-(n:Int)<=i
  ·rw [if_pos h1] at h
   have e:(i+n).toNat=j:=Option.some.inj h;exact ⟨by rw [seqIndex_neg (by omega) h1,e],by omega,h1,by omega⟩
  ·rw [if_neg h1] at h;cases h
theorem atI_get {α:Type} {xs:List α} {i:Int} {v:α} (h:atI xs i=some v):∃ j,seqIndex? i xs.length=some j/\xs[j]?=some v/\j<xs.length/\-(xs.length:Int)<=i/\i<xs.length:=by
 unfold atI at h
 cases e:ixN xs.length i with
 | none=>rw [e] at h;cases h
 | some j =>
  rw [e] at h;obtain ⟨h1,h2,h3,h4⟩:=ixN_seq e;exact ⟨j,h1,h,h2,h3,h4⟩
theorem zQ {α:Type} {xs:List α} {j:Nat} {v:α} (h:xs[j]?=some v):atI xs (j:Int)=some v:=by
 have hj:j<xs.length:=(List.getElem?_eq_some_iff.mp h).1
 have e:ixN xs.length (j:Int)=some j:=by
  unfold ixN;rw [if_pos (by omega),if_pos (by omega)];simp
 unfold atI;rw [e];exact h
theorem atI_last {α:Type} (xs:List α) (v:α):atI (xs++[v]) (-1)=some v:=by
 have hl:(xs++[v]).length=xs.length+1:=by simp
 have e:ixN (xs++[v]).length (-1)=some xs.length:=by
  unfold ixN;rw [hl,if_neg (by decide),if_pos (by omega)];congr 1;omega
 unfold atI;rw [e];show (xs++[v])[xs.length]?=some v;simp
def PlainIx (b:Expr):Prop:=∀ o i,subscripted b false o i=operate [o,i] (getItem o i)
def IxR (X:Cx) (r:R2):Prop :=
 ∀ (value slice:Expr) (pins:List (Addr×Obj)) (s:Shared) (σ:St) (H:Hp) (x y:V) (v u:Value) (Q:VK),Inv X pins σ H s->RelV x v->RelV y u->r x y H Q ->
  subscripted slice false v u=operate [v,u] (getItem v u)->wpAny (model X.prog X.w) X.A (subscriptTail value slice v u) (EP X pins σ Q) X.xe s
def MtR (X:Cx) (id:String) (r:V->List V->Hp->VK->Prop):Prop :=
 ∀ (pins:List (Addr×Obj)) (s:Shared) (σ:St) (H:Hp) (x:V) (xs:List V) (v:Value) (us:List Value) (Q:VK),Inv X pins σ H s->RelV x v->Vals xs us->r x xs H Q ->
  wpAny (model X.prog X.w) X.A (call (.builtin id) (v::us)) (EP X pins σ Q) X.xe s
section
variable {X:Cx} {a b:Expr} {ta tb:TE} {pos:Pos}
theorem zB {r:R2} (hr:IxR X r) (ha:PE X a ta) (hb:PE X b tb) (hs:PlainIx b):PE X (.Subscript a b pos) (tOp r ta tb):=by
 intro pins s σ H Q I h;exact Subscript_ (binT ha hb I h fun v u s2 x y H2 I2 rx ry q=>hr a b pins s2 σ H2 x y v u Q I2 rx ry q (hs _ _))
def rIxL (K:PySem.W.Frag):R2:=fun x y H Q=>∃ p xs i v,x=.ref p/\y=.int i/\SqL K H p xs/\atI xs i=some v/\Q v H
def rIxT (K:PySem.W.Frag):R2:=fun x y H Q=>∃ p xs i v,x=.ref p/\y=.int i/\SqT K H p xs/\atI xs i=some v/\Q v H
theorem zM:IxR X (rIxL X.K):=by
 intro value slice pins s σ H x y v u Q I rx ry h hs;obtain ⟨p,xs,i,z,rfl,rfl,hq,he,q⟩:=h;cases rx;obtain ⟨t,rfl⟩:=ry;obtain ⟨its,r,pl,hz⟩:=I.list hq;obtain ⟨j,h1,h2,h3,h4,h5⟩:=atI_get he;obtain ⟨w,ew,rw'⟩:=r.get h2;have hl:=r.length;have hn:=zc2;have fin:EP X pins σ Q w s:=⟨z,H,I,rw',q⟩;by_cases h0:0<=i
 ·have hj:i.toNat=j:=by
   rw [seqIndex_of h0 h5] at h1;exact Option.some.inj h1
  exact item_listR pl.isList h0 (by omega) (by rw [hj];simpa using ew) fin hs
 ·have hj:(i+(its.toArray.size:Int)).toNat=j:=by
   rw [seqIndex_neg (by omega) h4] at h1;rw [List.size_toArray,← hl];exact Option.some.inj h1
  exact subscriptTail_builtinR (x:=w) pl.isList.typeIs slot_list_getitem.lookup
   (wpAny_getItem_list_neg (Q:=fun r s'=>r=w/\EP X pins σ Q r s') pl.isList (by omega) (by rw [List.size_toArray] <;> omega) (by omega) (by rw [hj];simpa using ew) ⟨rfl,fin⟩) hs
theorem zR:IxR X (rIxT X.K):=by
 intro value slice pins s σ H x y v u Q I rx ry h hs;obtain ⟨p,xs,i,z,rfl,rfl,hq,he,q⟩:=h;cases rx;obtain ⟨t,rfl⟩:=ry;obtain ⟨its,r,pl,hz⟩:=I.tuple hq;obtain ⟨j,h1,h2,h3,h4,h5⟩:=atI_get he;obtain ⟨w,ew,rw'⟩:=r.get h2;have hl:=r.length;have hn:=zc2;have fin:EP X pins σ Q w s:=⟨z,H,I,rw',q⟩;exact subscriptTail_builtinR (x:=w) pl.typeIs slot_tuple_getitem.lookup
  (getItem_tuple (j:=j) (Q:=fun r s'=>r=w/\EP X pins σ Q r s') pl (by omega) (by omega) (by rw [List.size_toArray,← hl];exact h1) (by simpa using ew) ⟨rfl,fin⟩) hs
theorem zhe (its:List Value) (n j:Nat) (u:Value):Obj.mapSeq (·.setIfInBounds j u) { cls:=.type "list",data:=.seq its.toArray n }={ cls:=.type "list",data:=.seq (its.set j u).toArray n }:=by
 simp [Obj.mapSeq]
theorem Inv.lst {pins:List (Addr×Obj)} {σ:St} {H:Hp} {s:Shared} {p:Addr} {xs:List V} (I:Inv X pins σ H s) (h:H p=some (.lst xs)) :
  ∃ (its:List Value) (n:Nat),Vals xs its/\s.heap.get? p=some { cls:=.type "list",data:=.seq its.toArray n }/\xs.length<=sizeLine:=by
 obtain ⟨z,its,n,r,e⟩:=I.hok p _ h;exact ⟨its,n,r,e,z⟩
theorem Inv.lstUpd {pins:List (Addr×Obj)} {σ:St} {H:Hp} {s:Shared} {p:Addr} {xs ys:List V} {its its':List Value} {n n':Nat} {f:Obj->Obj} (I:Inv X pins σ H s) (h:H p=some (.lst xs))
  (ho:s.heap.get? p=some { cls:=.type "list",data:=.seq its.toArray n }) (hf:f { cls:=.type "list",data:=.seq its.toArray n }={ cls:=.type "list",data:=.seq its'.toArray n' }) (r:Vals ys its') (hz:ys.length<=sizeLine) (t:Nat) :
  Inv X pins σ (upd H p (.lst ys)) { s with heap:=s.heap.update p f,toks:=t }:=by
 have e:(s.heap.update p f).get? p=some { cls:=.type "list",data:=.seq its'.toArray n' }:=by
  rw [Heap.get?_update_self f ho (by rw [hf] <;> rfl),hf]
 refine I.write (x:=p) (e:=p) (by rw [h];trivial) (.inl rfl) (fun b u hb q=>(Heap.get?_update_other _ _ (Ne.symm hb)).trans q) ⟨_,e⟩ ?_;exact ⟨hz,its',n',r,e⟩
def rSetL:V->V->V->Hp->(Hp->Prop)->Prop:=fun o i v H Q=>∃ p xs k j,o=.ref p/\i=.int k/\H p=some (.lst xs)/\ixN xs.length k=some j/\Q (upd H p (.lst (xs.set j v)))
theorem Zg:PSet X rSetL:=by
 intro pins s σ H o i v ov iv u Q I ro ri rv h;obtain ⟨p,xs,k,j,rfl,rfl,hp,hj,q⟩:=h;cases ro;obtain ⟨t,rfl⟩:=ri;obtain ⟨its,n,r,ho,hz⟩:=I.lst hp;obtain ⟨h1,h2,h3,h4⟩:=ixN_seq hj;have hl:=r.length;have hn:=zc2
 have I':Inv X pins σ (upd H p (.lst (xs.set j v))) { s with heap:=s.heap.update p (Obj.mapSeq (·.setIfInBounds j u)) } :=
  I.lstUpd hp ho (zhe its n j u) (r.set rv j) (by rw [List.length_set];exact hz) s.toks
 by_cases h0:0<=k
 ·have hk:k.toNat=j:=by
   rw [seqIndex_of h0 h4] at h1;exact Option.some.inj h1
  exact PySem.W.ki_setAt ho h0 (by omega) (by rw [List.size_toArray,← hl];exact h4) (by rw [hk];exact ⟨_,I',q⟩)
 ·have hk:(k+(its.toArray.size:Int)).toNat=j:=by
   rw [seqIndex_neg (by omega) h3] at h1;rw [List.size_toArray,← hl];exact Option.some.inj h1
  exact PySem.W.ki_setBack ho (by omega) (by rw [List.size_toArray,← hl];exact h3) (by omega) (by rw [hk];exact ⟨_,I',q⟩)
theorem zcm (lo hi:Option Int) (n:Nat):(sliceBounds lo hi none n).1=((HT.sIx n 0 lo:Nat):Int)/\(sliceBounds lo hi none n).2.1=((HT.sIx n n hi:Nat):Int)/\(sliceBounds lo hi none n).2.2=1:=by
 refine ⟨?_,?_,rfl⟩
 ·cases lo with
  | none=>simp [sliceBounds,HT.sIx]
  | some i =>
   simp only [sliceBounds,HT.sIx,Option.getD_none,show (1:Int) > 0 by decide,if_true];by_cases h:i<0
   ·simp only [h,if_true] <;> omega
   ·simp only [h,if_false] <;> omega
 ·cases hi with
  | none=>simp [sliceBounds,HT.sIx]
  | some i =>
   simp only [sliceBounds,HT.sIx,Option.getD_none,show (1:Int) > 0 by decide,if_true];by_cases h:i<0
   ·simp only [h,if_true] <;> omega
   ·simp only [h,if_false] <;> omega
theorem Xm (its:List Value) (lo hi:Option Int):slicePick its.toArray lo hi none=((its.drop (HT.sIx its.length 0 lo)).take (HT.sIx its.length its.length hi-HT.sIx its.length 0 lo)).toArray:=by
 obtain ⟨h1,h2,h3⟩:=zcm lo hi its.toArray.size;unfold slicePick;rw [h1,h2,h3];simp only [sliceRange_one,pick_run,List.size_toArray] <;> rfl
def rSlL (K:PySem.W.Frag):V->Option Int->Option Int->Hp->VK->Prop:=fun x lo hi H Q=>∃ a xs,x=.ref a/\SqL K H a xs/\∀ p,H p=none->Q (.ref p) (upd H p (.lst (cutV xs lo hi)))
theorem zcn:SlR X (rSlL X.K):=by
 intro pins s σ H x v vl vu lo hi sl Q I rx hs pl pu h;obtain ⟨a,xs,rfl,hx,q⟩:=h;cases rx;obtain ⟨its,r,ht,hz⟩:=I.list hx;have hlen:=r.length;refine ⟨"list",_,slot_list_getitem.lookup,ht.isList.typeIs,?_⟩;refine wpAny_getItem_list_slice ht.isList hs pl pu .none (by simp) ?_ (by rw [List.size_toArray] <;> omega);rw [Xm,← hlen];refine ⟨.ref s.heap.objs.size,_,I.laid (t':=s.toks) (o:=.lst (cutV xs lo hi)) (fun b ob q=>Heap.get?_push_of_some _ q) (Nat.le_refl _) ?_,rfl,q _ (I.hok.fresh (Nat.le_refl _))⟩;exact ⟨Nat.le_trans (zgp xs lo hi) hz,_,0,(r.drop (HT.sIx xs.length 0 lo)).take (HT.sIx xs.length xs.length hi-HT.sIx xs.length 0 lo),Heap.get?_push_size _ rfl⟩
def Yv:V->Bool
 | .non=>true
 | .bl _=>true
 | .int _=>true
 | .str _=>true
 | _=>false
def eqV:V->V->Bool
 | .non,.non=>true
 | .bl a,.bl b=>a == b
 | .bl a,.int b=>(if a then 1 else 0) == b
 | .int a,.bl b=>a == (if b then 1 else 0)
 | .int a,.int b=>a == b
 | .str a,.str b=>a == b
 | _,_=>false
theorem eqAt_V {A:Around} {s:Shared} {y x:V} {u v:Value} (ry:RelV y u) (rx:RelV x v) (fy:Yv y=true) (fx:Yv x=true):SeqAt.EqAt A s u v (eqV y x):=by
 cases y with
 | non =>
  cases ry
  cases x with
  | non=>cases rx;exact SeqAt.EqAt.same _
  | bl b=>cases rx;exact SeqAt.EqAt.none_bool b
  | int b=>obtain ⟨t,rfl⟩:=rx;exact SeqAt.EqAt.none_int b t
  | str b=>obtain ⟨t,rfl⟩:=rx;exact SeqAt.EqAt.none_str b t
  | _=>exact absurd (show false=true from fx) Bool.false_ne_true
 | bl a =>
  cases ry
  cases x with
  | non=>cases rx;exact SeqAt.EqAt.bool_none a
  | bl b=>cases rx;exact SeqAt.EqAt.bool_bool a b
  | int b=>obtain ⟨t,rfl⟩:=rx;exact SeqAt.EqAt.bool_int a b t
  | str b=>obtain ⟨t,rfl⟩:=rx;exact SeqAt.EqAt.bool_str a b t
  | _=>exact absurd (show false=true from fx) Bool.false_ne_true
 | int a =>
  obtain ⟨t',rfl⟩:=ry
  cases x with
  | non=>cases rx;exact SeqAt.EqAt.int_none a t'
  | bl b=>cases rx;exact SeqAt.EqAt.int_bool a t' b
  | int b=>obtain ⟨t,rfl⟩:=rx;exact SeqAt.EqAt.int_int a t' b t
  | str b=>obtain ⟨t,rfl⟩:=rx;exact SeqAt.EqAt.int_str a t' b t
  | _=>exact absurd (show false=true from fx) Bool.false_ne_true
 | str a =>
  obtain ⟨t',rfl⟩:=ry
  cases x with
  | non=>cases rx;exact SeqAt.EqAt.str_none a t'
  | bl b=>cases rx;exact SeqAt.EqAt.str_bool a t' b
  | int b=>obtain ⟨t,rfl⟩:=rx;exact SeqAt.EqAt.str_int a t' b t
  | str b=>obtain ⟨t,rfl⟩:=rx;exact SeqAt.EqAt.str_str a t' b t
  | _=>exact absurd (show false=true from fx) Bool.false_ne_true
 | _=>exact absurd (show false=true from fy) Bool.false_ne_true
def eqU (x:V) (u:Value):Bool:=match u with
 | .none=>eqV .non x
 | .bool b=>eqV (.bl b) x
 | .int i _=>eqV (.int i) x
 | .str z _=>eqV (.str z) x
 | _=>false
theorem eqU_of {x y:V} {u:Value} (r:RelV y u) (f:Yv y=true):eqU x u=eqV y x:=by
 cases y with
 | non=>cases r;rfl
 | bl b=>cases r;rfl
 | int i=>obtain ⟨t,rfl⟩:=r;rfl
 | str z=>obtain ⟨t,rfl⟩:=r;rfl
 | _=>exact absurd (show false=true from f) Bool.false_ne_true
theorem zc6 {x:V}:∀ {xs:List V} {us:List Value},Vals xs us->xs.all Yv=true->us.any (eqU x)=xs.any fun y=>eqV y x
 | _,_,.nil,_=>rfl
 | y::xs,u::us,.cons r t,f=>by
  rw [List.all_cons,Bool.and_eq_true] at f;rw [List.any_cons,List.any_cons,eqU_of r f.1,zc6 t f.2]
theorem Y8 {A:Around} {s:Shared} {x:V} {v:Value} (rx:RelV x v) (fx:Yv x=true):∀ {xs:List V} {us:List Value},Vals xs us->xs.all Yv=true->∀ u∈us,SeqAt.EqAt A s u v (eqU x u)
 | _,_,.nil,_=>fun u hu=>by cases hu
 | y::xs,u::us,.cons r t,f=>fun u' hu=>by
  rw [List.all_cons,Bool.and_eq_true] at f;rcases List.mem_cons.mp hu with rfl | hu
  ·rw [eqU_of r f.1];exact eqAt_V r rx f.1 fx
  ·exact Y8 rx fx t f.2 u' hu
def inV (x:V) (xs:List V):Bool:=xs.any fun y=>eqV y x
def rIn (K:PySem.W.Frag) (neg:Bool):R2:=fun x y H Q=>∃ p xs,y=.ref p/\(SqL K H p xs∨SqT K H p xs)/\Yv x=true/\xs.all Yv=true/\Q (.bl (if neg then !inV x xs else inV x xs)) H
theorem XE:OpR X (compareOp .In) (rIn X.K false):=by
 intro pins s σ H x y v u Q I rx ry h;obtain ⟨p,xs,rfl,hq,fx,fs,q⟩:=h;cases ry;rcases hq with hq | hq
 ·obtain ⟨its,r,pl,hz⟩:=I.list hq
  refine SeqAt.in_listAt (eqU x) pl.isList (fun w hw=>Y8 rx fx r fs w (by simpa using hw)) ⟨.bl _,H,I,rfl,?_⟩;rw [show its.toArray.any (eqU x)=its.any (eqU x) by simp,zc6 r fs];exact q
 ·obtain ⟨its,r,pl,hz⟩:=I.tuple hq
  refine SeqAt.in_tupleAt (eqU x) pl (fun w hw=>Y8 rx fx r fs w (by simpa using hw)) ⟨.bl _,H,I,rfl,?_⟩;rw [show its.toArray.any (eqU x)=its.any (eqU x) by simp,zc6 r fs];exact q
theorem zP:ZG X (.builtin "len") (fun xs H Q=>∃ p ys,xs=[.ref p]/\(SqL X.K H p ys∨SqT X.K H p ys)/\Q (.int ys.length) H):=by
 intro pins s σ H xs us Q I r h;obtain ⟨p,ys,rfl,hq,q⟩:=h;obtain ⟨u,rfl,rx⟩:=vals1 r;cases rx;have hn:=zc2;rcases hq with hq | hq
 ·obtain ⟨its,r',pl,hz⟩:=I.list hq
  have hlen:=r'.length;exact Calls.call_len_list pl.isList (by simp only [List.size_toArray] <;> omega) ⟨.int ys.length,H,I.tok _,⟨s.toks+1,by rw [List.size_toArray,hlen]⟩,q⟩
 ·obtain ⟨its,r',pl,hz⟩:=I.tuple hq
  have hlen:=r'.length;exact len_tuple pl (by simp only [List.size_toArray] <;> omega) ⟨.int ys.length,H,I.tok _,⟨s.toks+1,by rw [List.size_toArray,hlen]⟩,q⟩
theorem yd:ZG X (.type "list") (fun xs H Q=>∃ p ys,xs=[.ref p]/\(SqL X.K H p ys∨SqT X.K H p ys)/\∀ l,H l=none->Q (.ref l) (upd H l (.lst ys))):=by
 intro pins s σ H xs us Q I r h;obtain ⟨p,ys,rfl,hq,q⟩:=h;obtain ⟨u,rfl,rx⟩:=vals1 r;cases rx
 have fin:∀ (its:List Value),Vals ys its->ys.length<=sizeLine->∀ (h':Heap) (c':Nat),(∀ b o',s.heap.get? b=some o'->h'.get? b=some o') ->
   h'.get? s.heap.objs.size=some { cls:=.type "list",dict:=none,data:=.seq its.toArray c',slots:=#[] }->EP X pins σ Q (.ref s.heap.objs.size) { s with heap:=h' }:=fun its r' hz h' c' kp e =>
  ⟨.ref s.heap.objs.size,_,I.laid (t':=s.toks) kp (Nat.le_refl _) (show ObjOk X.prog X.w _ h' _ (.lst ys) from ⟨hz,its,c',r',e⟩),rfl,q _ (I.hok.fresh (Nat.le_refl _))⟩
 rcases hq with hq | hq
 ·obtain ⟨its,r',pl,hz⟩:=I.list hq
  have hlen:=r'.length;obtain ⟨o,ho,hc,n,hd⟩:=pl.isList;exact call_list_seq p (.inl rfl) ho hc hd (fun h' c' kp e=>fin its r' hz h' c' kp e) (by simp only [List.size_toArray] <;> omega)
 ·obtain ⟨its,r',pl,hz⟩:=I.tuple hq
  have hlen:=r'.length;obtain ⟨o,ho,hc,n,hd⟩:=pl;exact call_list_seq p (.inr rfl) ho hc hd (fun h' c' kp e=>fin its r' hz h' c' kp e) (by simp only [List.size_toArray] <;> omega)
def tyV (K:PySem.W.Frag) (T:String) (x:V) (H:Hp):Prop:=match x with
 | .str _=>T="str"
 | .int _=>T="int"
 | .ref p=>(T="list"/\∃ xs,SqL K H p xs)∨(T="tuple"/\∃ o,K.lookup p=some o/\o.cls=.type "tuple"/\o.dict=none) ∨
   (T="dict"/\((∃ kvs,H p=some (.dK kvs))∨∃ kvs,H p=some (.dT kvs)))∨(T="set"/\∃ S n,H p=some (.set S n))
 | _=>False
theorem tyV_is {pins:List (Addr×Obj)} {σ:St} {H:Hp} {s:Shared} {T:String} {x:V} {v:Value} (I:Inv X pins σ H s) (r:RelV x v) (ty:tyV X.K T x H) :
  s.TypeIs v T/\∀ a,v=.ref a->∃ ob,s.heap.get? a=some ob/\ob.dict=none:=by
 cases x with
 | str z =>
  obtain ⟨t,rfl⟩:=r;cases (show T="str" from ty);exact ⟨typeIs_str s z t,fun _ e=>nomatch e⟩
 | int i =>
  obtain ⟨t,rfl⟩:=r;cases (show T="int" from ty);exact ⟨typeIs_int s i t,fun _ e=>nomatch e⟩
 | ref p =>
  cases r;rcases ty with ⟨rfl,xs,hq⟩ | ⟨rfl,o,hk,hc,hd⟩ | ⟨rfl,hk⟩ | ⟨rfl,S,n,hk⟩
  ·obtain ⟨its,_,pl,_⟩:=I.list hq
   refine ⟨pl.isList.typeIs,fun a e=>?_⟩;cases e;obtain ⟨o,n,e,c,hd,_⟩:=pl;exact ⟨o,e,hd⟩
  ·refine ⟨⟨o,I.kIn p o hk,hc⟩,fun a e=>?_⟩
   cases e;exact ⟨o,I.kIn _ o hk,hd⟩
  ·have z:∃ o,s.heap.get? p=some o/\o.ExactDict:=by
    rcases hk with ⟨kvs,hk⟩ | ⟨kvs,hk⟩
    ·obtain ⟨_,_,_,_,o,_,_,e,ex,_⟩:=I.hok p _ hk
     exact ⟨o,e,ex⟩
    ·obtain ⟨_,_,_,_,o,_,_,e,ex,_⟩:=I.hok p _ hk
     exact ⟨o,e,ex⟩
   obtain ⟨o,e,ex⟩:=z;refine ⟨⟨o,e,ex.1⟩,fun a e2=>?_⟩;cases e2;exact ⟨o,e,ex.2.1⟩
  ·obtain ⟨o,_,_,_,e,ex,_⟩:=I.hok p _ hk
   refine ⟨⟨o,e,ex.1⟩,fun a e2=>?_⟩;cases e2;exact ⟨o,e,ex.2.1⟩
 | _=>exact False.elim ty
def tBM (K:PySem.W.Frag) (T:String) (r:V->List V->Hp->VK->Prop) (to:TE) (t:TA):TE:=fun σ H Q=>to σ H fun x H1=>tyV K T x H1/\t σ H1 fun xs H2=>r x xs H2 Q
variable {o e:Expr} {es:List Expr} {to:TE} {t:TA} {name:Str} {apos cpos:Pos} {T id:String} {r:V->List V->Hp->VK->Prop}
theorem Yq (pa:PlainAttrs T) (slot:Slot T name id) (hty:typeOf (.builtin id)=pure (.type "method_descriptor")) (hm:MtR X id r) (ho:PE X o to) (ha:PA X (e::es) t)
  (hbase:attributeBase o name X.env (eval o X.env)=eval o X.env:=by rfl)
  (hfew:((backTo cpos (starEach (e::es) X.env)).all (fun x=>!x.1) && (backToKw cpos (keywordEach [] X.env)).all (fun x=>x.1.isSome)
   && decide ((e::es).length+([]:List Keyword).length+(if ([]:List Keyword).isEmpty then 0 else 1)<30))=true:=by rfl)
  (hline:(apos.endLine == cpos.line)=true:=by rfl) (hs:starEach (e::es) X.env=(false,eval e X.env)::starEach es X.env:=by rfl) (hplain:(backTo cpos (starEach es X.env)).any (·.1)=false:=by rfl) :
  PE X (.Call (.Attribute o name apos) (e::es) [] cpos) (tBM X.K T r to t):=by
 intro pins s σ H Q I h;refine wpAny_Call_method_late hbase hfew hline rfl (thn (ho pins s σ H _ I h) fun v s1 ⟨x,H1,I1,r1,ty,q1⟩=>?_);obtain ⟨h1,h2⟩:=tyV_is I1 r1 ty;refine ⟨T,id,pa,slot,hty,h1,h2,?_⟩;have hA:=ha cpos pins s1 σ H1 _ I1 q1;rw [hs] at hA ⊢;refine Calls.callWith_builtin (by show (false || (backTo cpos (starEach es X.env)).any (·.1))=false;rw [hplain] <;> rfl) (Calls.evalArgs_plain ?_);exact thn hA fun us s2 ⟨vs,H2,I2,r2,q2⟩=>hm pins s2 σ H2 x vs v us Q I2 r1 r2 q2
/- xs.append(e),list.index on a module's tuple .. are MtR facts of 06m -/
end
def MtM (X:Cx) (id:String) (r:V->List V->Hp->VK->Prop):Prop :=
 ∀ (pins:List (Addr×Obj)) (s:Shared) (σ:St) (H:Hp) (x:V) (xs:List V) (v:Value) (us:List Value) (Q:VK),Inv X pins σ H s->RelV x v->Vals xs us->r x xs H Q ->
  wpAny (model X.prog X.w) X.A (call (.builtin id) (v::us)) (EP X pins σ Q) X.xe s
theorem Vals.one:∀ {x:V} {us:List Value},Vals [x] us->∃ u,us=[u]/\RelV x u
 | _,_,.cons r .nil=>⟨_,rfl,r⟩
theorem Vals.rep {xs:List V} {us:List Value} (h:Vals xs us):∀ k:Nat,Vals (List.replicate k xs).flatten (List.replicate k us).flatten
 | 0=>.nil
 | k+1=>by
  rw [List.replicate_succ,List.replicate_succ,List.flatten_cons,List.flatten_cons];exact Vals.append h (Vals.rep h k)
theorem XI (its:List Value):∀ (k:Nat) (acc:List Value),
  List.foldl (fun x1 x2=>x1++x2) acc.toArray (List.replicate k its.toArray)=(acc++(List.replicate k its).flatten).toArray
 | 0,acc=>by simp
 | k+1,acc=>by
  have e:acc.toArray++its.toArray=(acc++its).toArray:=by simp
  have e2:(acc++its)++(List.replicate k its).flatten=acc++(List.replicate (k+1) its).flatten:=by
   rw [List.replicate_succ,List.flatten_cons,List.append_assoc]
  rw [← e2,← XI its k (acc++its),← e,List.replicate_succ,List.foldl_cons]
section
variable {X:Cx} {pins:List (Addr×Obj)} {σ:St} {H:Hp} {s:Shared} {l b:Addr} {xs ys zs:List V}
theorem Inv.lset {its its':List Value} {n:Nat} {f:Array Value->Array Value} {t':Nat} (I:Inv X pins σ H s) (hH:H l=some (.lst xs))
  (e:s.heap.get? l=some { cls:=.type "list",data:=.seq its.toArray n }) (hf:f its.toArray=its'.toArray) (hv:Vals ys its') (hz:ys.length<=sizeLine) :
  Inv X pins σ (upd H l (.lst ys)) { s with heap:=s.heap.update l (Obj.mapSeq f),toks:=t' }:=by
 have q:=PySem.IsL.update e f;rw [hf] at q;refine I.write (x:=l) (e:=l) (by rw [hH];exact trivial) (.inl rfl) (fun b' u hb hu=>(Heap.get?_update_other s.heap (Obj.mapSeq f) (Ne.symm hb)).trans hu) ⟨_,q⟩ ?_;exact ⟨hz,its',_,hv,q⟩
theorem Inv.lnew {its:List Value} {t':Nat} (I:Inv X pins σ H s) (hv:Vals ys its) (hz:ys.length<=sizeLine) :
  Inv X pins σ (upd H s.heap.objs.size (.lst ys)) { s with heap:=s.heap.push { cls:=.type "list",data:=.seq its.toArray },toks:=t' } :=
 I.laid (fun _ _ q=>Heap.get?_push_of_some _ q) (Nat.le_refl _) ⟨hz,its,0,hv,Heap.get?_push_size _ rfl⟩
theorem Inv.fresh (I:Inv X pins σ H s):H s.heap.objs.size=none:=I.hok.fresh (Nat.le_refl _)
theorem Inv.lstM (I:Inv X pins σ H s) (hH:H l=some (.lst xs)):xs.length<=sizeLine/\∃ (its:List Value) (n:Nat),Vals xs its/\xs.length=its.length/\s.heap.get? l=some { cls:=.type "list",data:=.seq its.toArray n }:=by
 obtain ⟨z,its,n,r,e⟩:=I.hok l _ hH;exact ⟨z,its,n,r,r.length,e⟩
theorem zgf {n:Nat} (h:n<=sizeLine):Builtin.List.listTooLong n=false:=by
 unfold Builtin.List.listTooLong;exact decide_eq_false (by omega)
end
section
variable {X:Cx}
def rAppend:V->List V->Hp->VK->Prop:=fun x vs H Q=>∃ l xs y,x=.ref l/\vs=[y]/\H l=some (.lst xs)/\xs.length<sizeLine/\Q .non (upd H l (.lst (xs++[y])))
theorem xw:MtM X "list.append" rAppend:=by
 intro pins s σ H x vs v us Q I rx rv h;obtain ⟨l,xs,y,rfl,rfl,hH,hz,q⟩:=h;cases rx;obtain ⟨u,rfl,ru⟩:=rv.one;obtain ⟨z,its,n,r,hl,e⟩:=I.lstM hH;refine call_meets F.slot_list_append ⟨_,e,rfl⟩ F.entry_list_append (F.args_list_append_2 _ _) (PySem.list_append l its.toArray n u (by rw [List.size_toArray];omega)) ⟨e,?_⟩;refine ⟨.non,_,I.lset (its':=its++[u]) hH e (by simp) (r.append (.cons ru .nil)) ?_,rfl,q⟩;rw [List.length_append,List.length_singleton];omega
def rExtend:V->List V->Hp->VK->Prop:=fun x vs H Q=>∃ l b xs zs,x=.ref l/\vs=[.ref b]/\H l=some (.lst xs)/\H b=some (.lst zs)/\xs.length+zs.length<=sizeLine/\Q .non (upd H l (.lst (xs++zs)))
theorem XF:MtM X "list.extend" rExtend:=by
 intro pins s σ H x vs v us Q I rx rv h;obtain ⟨l,b,xs,zs,rfl,rfl,hH,hB,hz,q⟩:=h;cases rx;obtain ⟨u,rfl,ru⟩:=rv.one;cases ru;obtain ⟨z,its,n,r,hl,e⟩:=I.lstM hH;obtain ⟨z2,its2,n2,r2,hl2,e2⟩:=I.lstM hB;have hsz:its.toArray.size+its2.toArray.size<=sizeLine:=by rw [List.size_toArray,List.size_toArray];omega
 have hlong:¬ (!its.toArray.isEmpty && Builtin.List.listTooLong (its.toArray.size+its2.toArray.size))=true:=by
  rw [zgf hsz,Bool.and_false];exact Bool.false_ne_true
 refine call_meets F.slot_list_extend ⟨_,e,rfl⟩ F.entry_list_extend (F.args_list_extend_2 _ _)
  (AutoSeq1.list_extend_list_list_0 l its.toArray n b its2.toArray n2 hlong (by rw [List.size_toArray];omega) (by omega)) ⟨e,e2,?_⟩
 refine ⟨.non,_,I.lset (its':=its++its2) hH e (by simp) (r.append r2) ?_,rfl,q⟩;rw [List.length_append];omega
def rCat:R2:=fun x y H Q=>∃ l b xs zs,x=.ref l/\y=.ref b/\H l=some (.lst xs)/\H b=some (.lst zs)/\xs.length+zs.length<=sizeLine/\∀ p,H p=none->Q (.ref p) (upd H p (.lst (xs++zs)))
theorem Zz:OpR X (binaryOp .Add) rCat:=by
 intro pins s σ H x y v u Q I rx ry h;obtain ⟨l,b,xs,zs,rfl,rfl,hH,hB,hz,q⟩:=h;cases rx;cases ry;obtain ⟨z,its,n,r,hl,e⟩:=I.lstM hH;obtain ⟨z2,its2,n2,r2,hl2,e2⟩:=I.lstM hB;refine PySem.P.add_list e e2 ?_ (by rw [List.size_toArray,List.size_toArray];omega);have ea:its.toArray++its2.toArray=(its++its2).toArray:=by simp
 rw [ea];exact ⟨.ref _,_,I.lnew (t':=s.toks) (r.append r2) (by rw [List.length_append];omega),rfl,q _ I.fresh⟩
def rRep:R2:=fun x y H Q=>∃ l k xs,x=.ref l/\y=.int k/\H l=some (.lst xs)/\-(2 ^ 63)<=k/\k<2 ^ 63/\xs.length*k.toNat<=sizeLine /\
 ∀ p,H p=none->Q (.ref p) (upd H p (.lst (List.replicate k.toNat xs).flatten))
theorem len_rep {α:Type} (xs:List α) (k:Nat):(List.replicate k xs).flatten.length=k*xs.length:=by
 induction k with
 | zero=>simp
 | succ k ih=>rw [List.replicate_succ,List.flatten_cons,List.length_append,ih,Nat.succ_mul,Nat.add_comm]
theorem zc1:OpR X (binaryOp .Mult) rRep:=by
 intro pins s σ H x y v u Q I rx ry h;obtain ⟨l,k,xs,rfl,rfl,hH,h1,h2,hz,q⟩:=h;cases rx;obtain ⟨t,rfl⟩:=ry;obtain ⟨z,its,n,r,hl,e⟩:=I.lstM hH;have hlen:its.toArray.size*k.toNat<=sizeLine:=by rw [List.size_toArray,← hl];exact hz
 have hcap:¬ its.toArray.size*k.toNat > (2 ^ 63-1) / 8:=by
  have:(sizeLine:Nat)<=(2 ^ 63-1) / 8:=by decide
  omega
 have hfit:¬ (!Builtin.List.listFitsIndex k)=true:=by
  rw [fitsIndex_both h1 h2];exact Bool.false_ne_true
 have hlong:¬ Builtin.List.listTooLong (its.toArray.size*k.toNat)=true:=by
  rw [zgf hlen];exact Bool.false_ne_true
 have hnew:List.foldl (fun x1 x2=>x1++x2) #[] (List.replicate (if its.toArray.isEmpty=true then 0 else k.toNat) its.toArray)=(List.replicate k.toNat its).flatten.toArray:=by
  have f0:∀ m:Nat,List.foldl (fun x1 x2=>x1++x2) #[] (List.replicate m its.toArray)=(List.replicate m its).flatten.toArray:=fun m=>by
   have:=XI its m [];rw [List.nil_append] at this;exact this
  rw [f0]
  cases its with
  | nil=>simp
  | cons a r'=>rw [if_neg (by simp)]
 refine wpAny_binaryOp_repeat_ref (T:="list") (U:="int") (by decide) ⟨_,e,rfl⟩ (fun s'=>typeIs_int s' k t) noFill_list_mul F.fills_int_mul F.slot_int_rmul repeat_list F.slot_int_index.lookup
  (call_meets F.slot_int_rmul (typeIs_int s k t) F.entry_int_rmul (F.args_int_rmul_2 _ _) (int___rmul___int_list k t l its.toArray n)
   ⟨e,rfl,⟨_,e,rfl⟩,call_meets F.slot_list_mul ⟨_,e,rfl⟩ F.entry_list_mul (F.args_list_mul_2 _ _) (AutoListH.list___mul___list_int_3 l its.toArray n k t hfit hcap hlong) ⟨e,?_⟩⟩)
 rw [hnew];exact ⟨.ref _,_,I.lnew (t':=s.toks) (r.rep k.toNat) (by rw [len_rep,Nat.mul_comm];exact hz),rfl,q _ I.fresh⟩
end
section
variable {prog:Program} {w:World} {A:Around} {E:Value->Shared->Prop} {s:Shared}
set_option maxRecDepth 100000 in
end
section
variable {X:Cx}
end
end L2
namespace Att
open PySem PySem.W PySem.Calls PyProof.Rows
theorem Yz {P:Params} {h:Heap}:∀ (ns:List Int) (vs:List Value),WellAll P h vs (ns.map WData.int)->IntsAre vs ns:=by
 intro ns
 induction ns with
 | nil =>
  intro vs w;rw [List.map_nil] at w;cases w;exact .nil
 | cons n ns ih =>
  intro vs w;rw [List.map_cons] at w
  cases w with
  | cons a b =>
   cases a;exact .cons _ _ (ih _ b)
theorem script_of {l:OpenLaw} {n:Nat} (hn:l.most=some n) {P:Params} {h:Heap} {args:List WData} {vals:List Value}
  (hpre:l.row.toRowW.claim.pre args=true) (hwl:WellAll P h vals args) :
  ∃ a vs ns,vals=[Value.ref a]/\args=[WData.list (ns.map WData.int)]/\h.get? a=some { cls:=.type "list",data:=.seq vs.toArray }/\IntsAre vs ns/\ns.length<=n:=by
 have hsh:WShape.hasAll [] args [.list .int]=true:=(pre_splitW hpre).1;have hc:l.pre.holds [] { args:=args }=true:=(pre_splitW hpre).2;obtain ⟨d,r,rfl,h1,h2⟩:=hasAllW_cons hsh;obtain rfl:=hasAllW_nil h2;obtain ⟨xs,rfl,h3⟩:=hasW_list h1;obtain ⟨ns,rfl⟩:=items_int h3
 have hlen:ns.length<=n:=by
  unfold OpenLaw.pre at hc
  have h4:(WTm.not (.lt (.lit (.int (n:Int))) (.len (.arg 0)))).holds [] { args:=[.list (ns.map .int)] }=true:=by
   have h4:=(holds_andW hc).1;rw [hn] at h4;exact h4
  have h5:=condW_of h4 (w_not (w_lt w_lit (w_len_list (w_arg rfl))));rw [List.length_map] at h5;refine Nat.le_of_not_lt fun q=>?_;have q':(n:Int)<((ns.length:Nat):Int):=by omega
  first
   | (rw [decide_eq_true q'] at h5;exact absurd h5 (by decide))
   | (simp at h5;omega)
 cases hwl with
 | cons w1 w2 =>
  cases w2
  cases w1 with
  | list ho hall=>exact ⟨_,_,ns,rfl,rfl,ho,Yz ns _ hall,hlen⟩
theorem post_true (l:OpenLaw) (args:List WData):l.row.toRowW.claim.post args (.bool true) args=true :=
 postW_of (r:=l.row.toRowW) (X:=(true == true))
  (show WShape.has [] (.bool true) .bool=true by first | rfl | decide | simp [WShape.has,WShape.arms,WShape.armsAll])
  (show (WTm.eq .res (.lit (.bool true))).value [] { args:=args,res:=some (.bool true),after:=args }=some (.bool (true == true)) from w_eq_bool (w_res rfl) w_lit) rfl
theorem attach_call {l:OpenLaw} {n:Nat} {q:Program} {loose:List Str} {XP:(Str->Option Value)->Heap->Prop} {YP:World->Heap->Prop} {d:DefRec}
  (hn:l.most=some n) (hdf:d.params.defaults=[])
  (call:∀ (w:World) (s₀ s₁:Shared) (mg mb:Str->Option Value) (fa:Addr) (o:Obj) (pm cd doc:Value) (a:Addr) (vs:List Value) (ns:List Int),
   Ground q loose [] XP w s₀ mg mb s₁.heap->YP w s₁.heap ->
   s₁.heap.get? fa=some o->o.data=.func (docDef d.name d.params d.body d.scope pm cd doc)->s₁.heap.CodeRec cd d.name->mg d.name=some (.ref fa) ->
   s₁.heap.get? a=some { cls:=.type "list",data:=.seq vs.toArray }->IntsAre vs ns->ns.length<=n->s₁.gens=#[] ->
   codeAny (model l.prog w) callerA (.call (.ref fa) ⟨[.ref a],[]⟩) (fun r s'=>r=.ok (.ret (.bool true))/\OldK s₁.heap s'.heap/\s'.os=s₁.os/\AllBare s'.gens) s₁) :
  WalkO q loose XP YP l.row.toRowW d [] (fun f vs=>PySem.call f vs):=by
 intro w s₀ s₁ mg mb G Y fa o pm cd doc dV kV ho hd hcd hD hmg hg args vals as hpre hlay hrd hwl hlo;obtain rfl:dV=.none:=Dflts.none hD hdf;obtain rfl:kV=.none:=Dflts.noKw hD;obtain ⟨a,vs,ns,rfl,rfl,hobj,hints,hlen⟩:=script_of hn hpre hwl;refine enter_call (codeAny_mono (call w s₀ s₁ mg mb fa o pm cd doc a vs ns G Y ho (fd_plain hd) hcd hmg hobj hints hlen hg) fun r s' hq=>?_);obtain ⟨rfl,h2,h3,h4⟩:=hq;exact ⟨.inl ⟨.bool true,.bool true,[],rfl,fun _=>rfl,.bool true,post_true l _,fun _=>⟨List.Pairwise.nil,fun _ hm=>(nomatch hm)⟩⟩,h2,h3,h4⟩
section
variable {prog:Program} {w:World} {A:Around} {E:Value->Shared->Prop} {s:Shared} {K:Frag}
def noObjs (h:Heap):Heap:={ h with objs:=#[] }
theorem zhd (h:Heap) (b:Addr):(noObjs h).get? b=none:=by
 cases e:(noObjs h).get? b with
 | none=>rfl
 | some o=>exact absurd (Heap.lt_size e) (Nat.not_lt_zero _)
def ledger (h:Heap) (L d:Addr):List (Addr×Obj):=(List.range h.objs.size).filterMap fun a=>if a=L∨a=d then none else (h.get? a).map fun o=>(a,o)
theorem fr_all {h:Heap} {L:Addr} {m:Str->Option Value} (n:h.Ns L m):Fr (noObjs h) L h m :=
 ⟨n,fun b o e=>(by rw [zhd] at e;cases e),Nat.zero_le _⟩
end
end Att
namespace L2
open PySem PySem.Spec PyProof.Rows
theorem Xu:∀ {vs:List Value} {ns:List Int},IntsAre vs ns->Vals (ns.map V.int) vs
 | _,_,.nil=>.nil
 | _,_,.cons n t h=>.cons ⟨t,rfl⟩ (Xu h)
def Only (H:Hp):Prop:=∀ b,H b=none∨∃ o xs,H b=some (.frz o (.lst xs))
theorem law_call {P:Program} {w:World} {K:PySem.W.Frag} {mg mb:Str->Option Value} {CX:CXT} {k:Nat} {fa a:Addr} {fd:FuncData} {x:Str} {sp:Sp} {s₁:Shared} {vs:List Value} {ns:List Int}
  (KX:K.In s₁.heap) (hns:s₁.heap.Ns mainGlobals mg) (hb:s₁.heap.Ns builtinsNs mb) (hbb:∀ x:Str,x≠"__name__"->mb x=bootBuiltins x) (hlim:s₁.heap.NoLimit) (hg:s₁.gens=#[])
  (ha:s₁.heap.get? a=some { cls:=.type "list",data:=.seq vs.toArray }) (hi:IntsAre vs ns) (hl:ns.length<=sizeLine) (hr:Room k callerA)
  (F:∀ base:Heap,K.In base->base.Ns mainGlobals mg->FnOk P w K mg base CX k fa fd [x] sp) (hbind:∀ (s:Shared) (u:Value),BindsTo s fd ⟨[u],[]⟩ [(x,u)])
  (hsp:∀ H:Hp,Only H->SqL K H a (ns.map V.int)->sp [.ref a] H (fun v _=>v=.bl true) fun _ _ _=>False)
  (hCX:∀ H e s',CX [] H s₁ (fun _ _ _=>False) e s'->False) :
  codeAny (model P w) callerA (.call (.ref fa) ⟨[.ref a],[]⟩) (fun r s'=>r=.ok (.ret (.bool true))/\OldK s₁.heap s'.heap/\s'.os=s₁.os/\AllBare s'.gens) s₁:=by
 have rv:=Xu hi;have lenV:=hi.length
 have core:∀ H:Hp,Only H->SqL K H a (ns.map V.int)->HOk P w H s₁.heap->(∀ b,H b≠none->b=a)->(H a≠none->K.lookup a=none) ->
   codeAny (model P w) callerA (.call (.ref fa) ⟨[.ref a],[]⟩) (fun r s'=>r=.ok (.ret (.bool true))/\OldK s₁.heap s'.heap/\s'.os=s₁.os/\AllBare s'.gens) s₁:=by
  intro H hO hS hok hA hK;have base_of:∀ {b:Addr} {o:Obj},s₁.heap.get? b=some o->H b=none->(hidT s₁.heap H).get? b=some o:=fun e n=>hidT_get e n
  have noA:∀ {b:Addr} {o:Obj} {es:Array DictEntry} {ep:Nat},s₁.heap.get? b=some o->o.data=.dict es ep->H b=none:=fun {b o es ep} e d=>by
   cases q:H b with
   | none=>rfl
   | some u =>
    have e':b=a:=hA b (by rw [q];simp);subst e';rw [ha] at e;cases e;have d':Data.seq vs.toArray _=Data.dict es ep:=d;cases d'
  have nsK:∀ {b:Addr} {m:Str->Option Value},s₁.heap.Ns b m->(hidT s₁.heap H).Ns b m:=fun {b m} ⟨o,es,ep,e,d,r⟩=>⟨o,es,ep,base_of e (noA e d),d,r⟩
  have hKb:K.In (hidT s₁.heap H):=fun b o e=>base_of (KX b o e) (by
   cases q:H b with
   | none=>rfl
   | some u =>
    have e':b=a:=hA b (by rw [q];simp);subst e';rw [hK (by rw [q];simp)] at e;cases e)
  have hM:Mod K mg (hidT s₁.heap H):=⟨hKb,nsK hns,⟨mb,nsK hb,hbb⟩,let ⟨mc,h1,h2⟩:=hlim;⟨mc,nsK h1,h2⟩⟩;have e0:Env0 P w K mg (hidT s₁.heap H) callerA [] s₁ H:=⟨rfl,hM,fun b o e=>of_hidT e,Nat.le_of_eq (hidT_size _ _),trivial,fun b hb=>absurd (show b∈([]:List Addr) from hb) (by simp),hok,.of_eq hg⟩;refine codeAny_mono ((F _ hKb (nsK hns)).run callerA [] s₁ H ⟨[.ref a],[]⟩ [.ref a] [.ref a] _ _ hr e0 (hbind s₁ (.ref a)) (.cons rfl .nil) (hsp H hO hS)) fun r s' h=>?_
  cases r with
  | error e=>exact (hCX H e s' h).elim
  | ok fl =>
   cases fl with
   | next=>exact False.elim h
   | brk=>exact False.elim h
   | cont=>exact False.elim h
   | ret u =>
    obtain ⟨v,H',os,bare,un,hok',r',q⟩:=h;have q':v=.bl true:=q;subst q';obtain rfl:u=Value.bool true:=r';refine ⟨rfl,OldK.of_keep fun b o e=>?_,os,bare⟩
    cases q:H b with
    | none=>exact un.keep b o e q (by intro z;exact absurd (show b∈([]:List Addr) from z) (by simp)) (by simp)
    | some u =>
     rcases hO b with z | ⟨ob,xs,z⟩
     ·rw [q] at z;cases z
     ·have z2:=un.frzs b ob _ z
      obtain ⟨e1,_⟩:=hok b _ z;obtain ⟨e2,_⟩:=hok' b _ z2;rw [e] at e1;cases e1;exact e2
 cases hk:K.lookup a with
 | some o =>
  have e:=KX a o hk;rw [ha] at e;cases e;refine core (fun _=>none) (fun _=>.inl rfl) (.inr ⟨_,vs.toArray,_,hk,rfl,rfl,rfl,by rw [List.size_toArray,lenV];exact hl,by simpa using rv⟩) (fun b u z=>by have z':(none:Option HO)=some u:=z;cases z') (fun b z=>absurd rfl z) fun z=>absurd rfl z
 | none =>
  refine core (fun b=>if b=a then some (.frz { cls:=.type "list",data:=.seq vs.toArray } (.lst (ns.map V.int))) else none) (fun b=>?_) (.inl (.inr ⟨{ cls:=.type "list",data:=.seq vs.toArray },if_pos rfl⟩)) (fun b u z=>?_) (fun b z=>?_) fun _=>hk
  ·by_cases hb:b=a
   ·exact .inr ⟨_,_,if_pos hb⟩
   ·exact .inl (if_neg hb)
  ·by_cases hb:b=a
   ·have z':=(if_pos hb).symm.trans z
    cases z';subst hb;exact ⟨ha,by rw [List.length_map];exact hl,vs,_,rv,ha⟩
   ·have z':=(if_neg hb).symm.trans z
    cases z'
  ·by_cases hb:b=a
   ·exact hb
   ·exact absurd (if_neg hb) z
theorem walk_of {l:PySem.W.OpenLaw} {n k:Nat} {q:Program} {loose:List Str} {XP:(Str->Option Value)->Heap->Prop} {YP:World->Heap->Prop} {d:DefRec} {K:Params->PySem.W.Frag} {CX:World->CXT} {sp:World->Sp} {x:Str}
  (hn:l.most=some n) (hn2:n<=sizeLine) (hdf:d.params.defaults=[]) (hr:Room k callerA)
  (hY:∀ (w:World) (h:Heap),YP w h->(K w.params).In h)
  (F:∀ (w:World) (mg:Str->Option Value) (fa:Addr) (h:Heap),(K w.params).In h->h.Ns mainGlobals mg->mg d.name=some (.ref fa) ->
   ∃ fd:FuncData,(∀ (s:Shared) (u:Value),BindsTo s fd ⟨[u],[]⟩ [(x,u)]) /\
    ∀ base:Heap,(K w.params).In base->base.Ns mainGlobals mg->FnOk l.prog w (K w.params) mg base (CX w) k fa fd [x] (sp w))
  (hsp:∀ (w:World) (H:Hp) (a:Addr) (ns:List Int),ns.length<=n->Only H->SqL (K w.params) H a (ns.map V.int)->sp w [.ref a] H (fun v _=>v=.bl true) fun _ _ _=>False)
  (hCX:∀ (w:World) (H:Hp) (s:Shared) (e:Value) (s':Shared),CX w [] H s (fun _ _ _=>False) e s'->False) :
  PySem.W.WalkO q loose XP YP l.row.toRowW d [] (fun f vs=>PySem.call f vs):=by
 refine Att.attach_call hn hdf fun w s₀ s₁ mg mb fa o pm cd doc a vs ns G Y ho hd hcd hmg hobj hints hlen hg=>?_;have KX:=hY w _ Y;obtain ⟨fd,hb,hF⟩:=F w mg fa _ KX G.T.g hmg;exact law_call KX G.T.g G.T.b G.T.builtins G.T.nolimit hg hobj hints (Nat.le_trans hlen hn2) hr hF hb (fun H hO hS=>hsp w H a ns hlen hO hS) fun H e s'=>hCX w H s₁ e s'
end L2
/- THE LAST THEOREM (shape;LID,My.* are yours):
   My.Adr: a structure of the addresses that your layer names (classes,functions);My.Txt K t: a structure (Prop) of the equations over K;
   My.txt_mk:{K} {implicit addresses ..} (e1:nsIn K mainGlobals "law"=some (some (.ref f))) (e2:K.lookup f=some ⟨oc,od,.func (fnOf "law" "law" params body scope dV kV doc pm an cdv ct),sl⟩) (e3:codeIn K cdv "law"=true) ..:∃ t,My.Txt K t
set_option maxRecDepth 100000 in
set_option maxHeartbeats 0 in
(the tactic k_is has no namespace: write k_is) -/
namespace L2
open PySem PySem.Spec PyProof.Rows
def zX (s:Stmt) (j:Nat):Stmt:=match s with
 | .ClassDef _ _ _ body _ _ _ _ _ _ _=>body.getD j (.Pass ⟨0,0,0,0⟩)
 | _=>.Pass ⟨0,0,0,0⟩
def zk (s:Stmt):Arguments:=match s with
 | .FunctionDef _ a _ _ _ _ _ _ _ _=>a
 | _=>{ posonlyargs:=[],args:=[],vararg:=none,kwonlyargs:=[],kw_defaults:=[],kwarg:=none,defaults:=[] }
def zj (s:Stmt):List Stmt:=match s with
 | .FunctionDef _ _ b _ _ _ _ _ _ _=>b
 | _=>[]
def zc (s:Stmt):Scope:=match s with
 | .FunctionDef _ _ _ _ _ _ sc _ _ _=>sc
 | _=>{ kind:=.function,names:=[],isGenerator:=false,isCoroutine:=false }
abbrev CX0:CXT:=fun _ _ _ _ _ _=>False
abbrev E0:XK:=fun _ _ _=>False
theorem zy {X:Cx}:xb CX0 X E0:=fun _ _ _ _ _ _ _ h=>h.elim
structure Fun (K:PySem.W.Frag) (x qual:Str) (st:Stmt) (f:Addr) (fd:FuncData):Prop where
 ex:∃ (oc:Value) (od:Option Addr) (kV doc pm:Value) (an:Option Addr) (cdv ct:Value) (osl:Array (Option Value)),
  fd=PySem.W.fnOf x qual (zk st) (zj st) (zc st) .none kV doc pm an cdv ct/\K.lookup f=some ⟨oc,od,.func fd,osl⟩/\PySem.W.codeIn K cdv qual=true
 kp:PySem.W.keepIn K (.ref f)=true
section
variable {P:Program} {w:World} {K:PySem.W.Frag} {mg:Str->Option Value} {base:Heap}
theorem Fun.ok {x qual:Str} {st:Stmt} {f:Addr} {fd:FuncData} {N ps:List Str} {k:Nat} {sp:Sp} (F:Fun K x qual st f fd) (S:FnScope N ps (zc st)) (len:∀ vs H Q E,sp vs H Q E->vs.length=ps.length)
  (hbody:∀ (cdv:Value) (A:Around) (outer:List Env) (s:Shared) (H:Hp) (vs:List V) (Q:VK) (E:XK),Room k (A.deeper (envOfC qual (zc st) s.heap.objs.size f cdv))->sp vs H Q E ->
   ∃ t,PSs (cxOf CX0 P w K mg base N qual (zc st) f cdv A outer s H E).nox (zj st) t/\t { nx:=fun _ H'=>Q .non H',rt:=Q } (start N vs) H):FnOk P w K mg base CX0 (k+1) f fd ps sp:=by
 obtain ⟨oc,od,kV,doc,pm,an,cdv,ct,osl,rfl,lk,hcd⟩:=F.ex;refine fn_of lk hcd S len fun A outer s H vs Q E hr hsp=>?_;obtain ⟨t,h,q⟩:=hbody cdv A outer s H vs Q E hr hsp;exact ⟨t,h.nox,q⟩
theorem Fun.binds {x qual:Str} {st:Stmt} {f:Addr} {fd:FuncData} {ps:List Str} (F:Fun K x qual st f fd)
  (h:∀ (kV doc pm:Value) (an:Option Addr) (cdv ct:Value) (us:List Value),us.length=ps.length->bindArgs (PySem.W.fnOf x qual (zk st) (zj st) (zc st) .none kV doc pm an cdv ct) ⟨us,[]⟩=pure (ps.zip us)):Binds K fd ps []:=by
 obtain ⟨oc,od,kV,doc,pm,an,cdv,ct,osl,rfl,lk,hcd⟩:=F.ex;exact .all (h kV doc pm an cdv ct)
theorem zH {x qual:Str} {st:Stmt} {f:Addr} {oc:Value} {od an:Option Addr} {osl:Array (Option Value)} {kV doc pm cdv ct:Value} (l:K.lookup f=some ⟨oc,od,.func (PySem.W.fnOf x qual (zk st) (zj st) (zc st) .none kV doc pm an cdv ct),osl⟩)
  (c:PySem.W.codeIn K cdv qual=true) (k:PySem.W.keepIn K (.ref f)=true):Fun K x qual st f (PySem.W.fnOf x qual (zk st) (zj st) (zc st) .none kV doc pm an cdv ct):=⟨⟨oc,od,kV,doc,pm,an,cdv,ct,osl,rfl,l,c⟩,k⟩
end
section
variable {X:Cx}
theorem pv (i:Nat) {x:Str} {pos:Pos} (hN:X.N[i]?=some x:=by rfl) (hv:Vis X.env.scope x:=by first | exact Or.inl rfl | exact Or.inr (Or.inl rfl) | exact Or.inr (Or.inr rfl)) (hd:(x == ("__debug__":Str))=false:=by decide)
  (hcd:(x == ("__classdict__":Str))=false:=by decide):PE X (.Name x pos) (tVar i):=pe_var hN hv hd hcd
end
theorem yx {A B:Prop} (h:B):if false=true then A else B:=by
 rw [if_neg Bool.false_ne_true];exact h
theorem Zq {A B:Prop} (h:A):if true=true then A else B:=by
 rw [if_pos rfl];exact h
theorem y6 {c A B:Prop} [Decidable c] (h1:c->A) (h2:¬ c->B):if c then A else B:=by
 by_cases h:c
 ·rw [if_pos h]
  exact h1 h
 ·rw [if_neg h]
  exact h2 h
theorem iteNS {c A B:Prop} [Decidable c] (hc:c) (h:B):if (!decide c)=true then A else B:=by
 rw [decide_eq_true hc];exact yx h
def Same (H H':Hp):Prop:=∀ b o,H b=some o->H' b=some o
theorem Same.refl (H:Hp):Same H H:=fun _ _ h=>h
theorem Same.trans {H H1 H2:Hp} (a:Same H H1) (b:Same H1 H2):Same H H2:=fun c o h=>b c o (a c o h)
theorem Same.free {H H':Hp} (e:Same H H') {l:Addr} (h:H' l=Option.none):H l=Option.none:=by
 cases q:H l with
 | none=>rfl
 | some o =>
  rw [e l o q] at h;cases h
theorem ObjOk.here {P:Program} {w:World} {H:Hp} {h:Heap} {a:Addr} {o:HO} (x:ObjOk P w H h a o):∃ ob,h.get? a=some ob:=by
 cases o with
 | lst xs=>obtain ⟨_,_,_,_,e⟩:=x;exact ⟨_,e⟩
 | tup xs=>obtain ⟨_,_,_,ob,e,_⟩:=x;exact ⟨_,e⟩
 | dK kvs=>obtain ⟨_,_,_,_,ob,_,_,e,_⟩:=x;exact ⟨_,e⟩
 | dT kvs=>obtain ⟨_,_,_,_,ob,_,_,e,_⟩:=x;exact ⟨_,e⟩
 | set S n=>obtain ⟨ob,_,_,_,e,_⟩:=x;exact ⟨_,e⟩
 | ins C dx fs=>obtain ⟨_,_,_,e,_⟩:=x;exact ⟨_,e⟩
 | own y=>exact x
 | xd fs=>obtain ⟨_,⟨_,_,_,e,_⟩,_⟩:=x;exact ⟨_,e⟩
 | rng lo hi=>obtain ⟨_,_,_,e⟩:=x;exact ⟨_,e⟩
 | frz ob u=>obtain ⟨e,_⟩:=x;exact ⟨_,e⟩
 | tbl ps=>exact ⟨_,x⟩
 | met f y=>exact ⟨_,x⟩
 | ext φ=>obtain ⟨_,e,_⟩:=x;exact e
structure Fly (base:Heap) (outer:List Env) (H:Hp) (s h:Heap) (e:Addr) (cls:Value):Prop where
 stays:base.StaysIn h
 frames:h.FunFrames base outer
 baseE:base.get? e=none
 newE:s.get? e=none
 freeE:H e=none
 tr:∃ oe vs T oT ts,h.get? e=some oe/\oe.cls=cls/\oe.data=.fields vs/\vs[1]?=some (.ref T)/\T≠e/\h.get? T=some oT/\oT.data=.fields ts/\ts[3]?=some .none/\base.get? T=none/\s.get? T=none/\H T=none
def CXe (P:Program) (w:World) (base:Heap):CXT:=fun outer H s E e s' =>
 ∃ (ea C:Addr) (H':Hp),e=.ref ea/\s'.os=s.os/\AllBare s'.gens/\Un (frs outer) [] H H' s.heap s'.heap/\HOk P w H' s'.heap/\Fly base outer H' s.heap s'.heap ea (.ref C)/\E (.ref C) none H'
section
variable {X:Cx} {pins:List (Addr×Obj)} {σ:St} {H:Hp} {s:Shared} {e:Addr} {cls:Value}
end
section
variable {X:Cx} {pins:List (Addr×Obj)} {σ:St} {H H':Hp} {s s':Shared} {e:Addr} {cls:Value}
end
section
variable {P:Program} {w:World} {K:PySem.W.Frag} {mg:Str->Option Value} {base:Heap} {N:List Str} {qual:Str} {scope:Scope} {f:Addr} {cd:Value} {A:Around} {outer:List Env} {s:Shared} {H:Hp} {E:XK}
end
end L2
namespace My
open PySem PySem.Spec PySem.Calls PySem.W PyProof.Rows PySem.Builtin PySem.Builtin.ObjectAttr PySem.Builtin.Getset_descriptor
def ClsAt (x D:Addr) (h:Heap):Prop:=∃ o,h.get? x=some o/\o.cls=.ref D
theorem Ya {x D:Addr} (M:Model) (h:Heap) (p:ClsAt x D h):Looks M h (typeOf (.ref x)) (.ref D):=by
 obtain ⟨o,a,b⟩:=p;exact b ▸ (Looks.ld a).andThen .now
theorem find_data {K:Frag} {M:Model} {h:Heap} (X:K.In h) {x D:Addr} {name:Str} {g a:Value} (ha:findIn K (.ref D) name=some (some a)) (hn:specialIn K a "__get__"=some (some g)) (htk:takesIn K a=some true) :
  Looks M h (find (.ref x) (.ref D) name) (.bind g a) :=
 (looks_findIn X ha).andThen ((show Looks M h (getOf (some a)) (some g) from looks_specialIn X hn).andThen ((show Looks M h (dataDescriptor? (some a) (some g)) (some (g,a)) from (looks_takesIn X htk).andThen .now).andThen (Looks.tag .now)))
section
variable {prog:Program} {w:World} {A:Around} {E:Value->Shared->Prop} {s:Shared} {K:Frag} {x D:Addr} {R:Result->Shared->Prop}
theorem class_of {tp:Value} (X:K.In s.heap) (p:ClsAt x D s.heap) (hm:mroIn K D (.type "object")=some true) (h:R (.ok (.ret (.ref D))) s) :
  codeAny (model prog w) A (.call (.builtin "getset_descriptor.__get__") ⟨[.builtin "object.__class__",.ref x,tp],[]⟩) R s:=by
 obtain ⟨h0,g0,d0,t0,o0⟩:=s;have T0:=Ya (model prog w) h0 p;have T1:=looks_mroIn (M:=model prog w) X hm;refine codeAny_call_builtin KF.slot_gs.plain KF.entry_gs (KF.slot_gs.check _ _ _ _ _ _ _ _ KF.type_class (KF.args_gs _ _ _) ?_);unfold Builtin.«getset_descriptor.__get__» descrGet;rw [dga_obj];refine wpAny_bind (wpAny_pure ?_);unfold descrGetter descrCheckInstance descrNameAndClass isInstance;simp only [KF.owner_class]
 repeat lk
 refine ⟨Code.quiet_builtin _ (by decide +kernel),codeAny_builtin KF.entry_class ?_⟩;unfold Builtin.«object.__class__» shownTypeOf
 repeat lk
 exact h
theorem ga_check {M:Model} {Q:Unit->Shared->Prop} {nameV:Value} {h0:Heap} {g0:Array GenState} {d0:Drawn} {t0:Nat} {o0:OsState} (T0:Looks M h0 (typeOf (.ref x)) (.ref D)) (TS:Looks M h0 (isSubtype (.ref D) (.type "BaseException")) true) (hq:Q () ⟨h0,g0,d0,t0,o0⟩) :
  wpAny M A (checkBuiltinCall "BaseException.__getattribute__" ⟨[.ref x,nameV],[]⟩) Q E ⟨h0,g0,d0,t0,o0⟩:=by
 have e1:builtinKind "BaseException.__getattribute__"=some .slot:=by decide +kernel
 have e2:splitId "BaseException.__getattribute__"=some ("BaseException","__getattribute__"):=by decide +kernel
 have e3:=F.args_bexc_ga (.ref x) nameV;simp only [checkBuiltinCall,e1,e2];refine wpAny_bind ?_;unfold isInstance
 repeat (first | lk | wp_step)
 exact hq
theorem ga_entry {Q:Fin->Shared->Prop} {tk:Tok} {h0:Heap} {g0:Array GenState} {d0:Drawn} {t0:Nat} {o0:OsState} (X:K.In h0) (p:ClsAt x D h0) (ha:findIn K (.ref D) "__class__"=some (some (.builtin "object.__class__")))
  (hn:specialIn K (.builtin "object.__class__") "__get__"=some (some (.builtin "getset_descriptor.__get__"))) (htk:takesIn K (.builtin "object.__class__")=some true) (hm:mroIn K D (.type "object")=some true) (hq:Q (.done (.ret (.ref D))) ⟨h0,g0,d0,t0,o0⟩) :
  wpAny (model prog w) A (Builtin.«object.__getattribute__» ⟨[.ref x,.str "__class__" tk],[]⟩) Q E ⟨h0,g0,d0,t0,o0⟩:=by
 have T0:=Ya (model prog w) h0 p;have T2:=find_data (M:=model prog w) X (x:=x) ha hn htk;unfold Builtin.«object.__getattribute__»;refine wpAny_bind (wpAny_pure ?_)
 repeat (first | (with_reducible refine wpAny_bind (T0.at ?_)) | (with_reducible refine wpAny_bind (T2.at ?_)) | wp_step)
 refine class_of (s:=⟨h0,g0,d0,t0,o0⟩) X p hm ?_
 repeat (any_goals (first | assumption | wp_step))
theorem zhl {Q:Option Value->Shared->Prop} (hg:findIn K (.ref D) "__getattribute__"=some (some (.builtin "BaseException.__getattribute__"))) (hgg:findIn K (.ref D) "__getattr__"=some none) (hsb:subIn K (.ref D) (.type "BaseException")=some true) (ha:findIn K (.ref D) "__class__"=some (some (.builtin "object.__class__")))
  (hn:specialIn K (.builtin "object.__class__") "__get__"=some (some (.builtin "getset_descriptor.__get__"))) (htk:takesIn K (.builtin "object.__class__")=some true) (hm:mroIn K D (.type "object")=some true)
  (X:K.In s.heap) (p:ClsAt x D s.heap) (h:Q (some (.ref D)) { s with toks:=s.toks+1 }):wpAny (model prog w) A (getAttr? (.ref x) "__class__") Q E s:=by
 obtain ⟨h0,g0,d0,t0,o0⟩:=s;have T0:=Ya (model prog w) h0 p;have T1:=looks_findIn (M:=model prog w) X hg;have T3:=looks_findIn (M:=model prog w) X hgg;have TS:=looks_subIn (M:=model prog w) X hsb;have f3:=F.excAttr_ValueError.ga.bind (.ref x);have hx2:(Value.builtin "BaseException.__getattribute__" == Value.builtin "object.__getattribute__")=false:=by decide +kernel
 have hx1:(onTheHeap (Value.ref D) && Value.builtin "BaseException.__getattribute__" == Value.builtin "object.__getattribute__")=false:=by rw [hx2];rfl
 unfold getAttr? getAttrBy? getAttrBy;refine wpAny_bind (wpAny_mkText (wpAny_bind (wpAny_attempt (wpAny_holding (wpAny_bind (T0.at (wpAny_bind (T1.at ?_))))))));dsimp only;rw [if_neg (by rw [hx1];exact Bool.false_ne_true)];unfold getAttrByItsOwn hookBefore;rw [if_pos (show onTheHeap (Value.ref D)=true from rfl)];refine wpAny_bind (T3.at ?_)
 repeat (any_goals (first | assumption | wp_step | lk))
 refine codeAny_call_builtin F.excAttr_ValueError.ga.plain F.entry_bexc_ga (ga_check T0 TS (ga_entry (K:=K) X p ha hn htk hm ?_))
 repeat (any_goals (first | assumption | wp_step))
theorem kitx_exc (hg:findIn K (.ref D) "__getattribute__"=some (some (.builtin "BaseException.__getattribute__"))) (hgg:findIn K (.ref D) "__getattr__"=some none) (hsb:subIn K (.ref D) (.type "BaseException")=some true) (hd:hasDictIn K D=true) (ha:findIn K (.ref D) "__class__"=some (some (.builtin "object.__class__")))
  (hn:specialIn K (.builtin "object.__class__") "__get__"=some (some (.builtin "getset_descriptor.__get__"))) (htk:takesIn K (.builtin "object.__class__")=some true) (hm:mroIn K D (.type "object")=some true) :
  KitX K (.ref x) (.ref D) (ClsAt x D) where
 ty:=fun M h _ p=>Ya M h p
 it:=fun M h X _=>by
  obtain ⟨c,hc,_⟩:=any_some hd;unfold clsIn at hc
  split at hc
  ·rename_i u1 u2 u3 u4 ho
   intro A' Q' E' s' k q;unfold isType loadHead;exact wpAny_bind (wpAny_loadPart (k _ _ (X _ _ ho)) (wpAny_pure q))
  ·cases hc
 ne:=fun h tp dd its n sl X e=>by
  obtain ⟨c,hc,_⟩:=any_some hd;refine Bool.eq_false_iff.mpr fun q=>?_;obtain rfl:D=tp:=Value.ref.inj (beq_iff_eq.mp q);unfold clsIn at hc
  split at hc
  ·rename_i u1 u2 u3 u4 ho
   have z:=(X _ _ ho).symm.trans e;cases z
  ·cases hc
 ca:=fun X p k=>zhl hg hgg hsb ha hn htk hm X p k
end
end My
namespace L2
open PySem PySem.Spec PyProof.Rows
section
variable {X:Cx} {pins:List (Addr×Obj)} {σ:St} {H H':Hp} {s s':Shared} {e C:Addr}
structure Mid (X:Cx) (H':Hp) (s:Heap) (s':Heap) (e C:Addr) (B:Heap) (a0:Value) (T:Addr) (h:Heap):Prop where
 fly:Heap.FlyingW B (X.env::X.outer) e (.ref C) a0 h
 slots:s'.UpToSlots h
def excO (e C:Addr):HO:=.ext (My.ClsAt e C)
end
section
variable {X:Cx} {pins:List (Addr×Obj)} {σ σ₀:St} {H H':Hp} {s s':Shared} {R:Addr->Hp->Prop}
end
def Zt (w:World) (K:PySem.W.Frag) (a:Addr):Prop:=∃ es n,K.lookup a=some ⟨.type "dict",none,.dict es n,#[]⟩/\PySem.W.KeysLit w.params es.toList
section
variable {X:Cx} {a:Addr} {ke:Expr} {tk:TE} {p pos:Pos} {D:Str}
theorem top_item {pins:List (Addr×Obj)} {σ:St} {H:Hp} {s:Shared} {x:Str} {t:Tok} {u:Value} {A:Around} {E:Value->Shared->Prop} {Q:Value->Shared->Prop} (I:Inv X pins σ H s) (T:Zt X.w X.K a) (e:PySem.W.nsIn X.K a x=some (some u)) (h:Q u { s with toks:=s.toks+1 }) :
  wpAny (model X.prog X.w) A (getItem (.ref a) (.str x t)) Q E s:=by
 obtain ⟨es,n,hl,hk⟩:=T;exact wpAny_getItem_of (strKind_is X.prog X.w x t) (PySem.W.mapOf_K (prog:=X.prog) I.kIn hl hk) (PySem.W.find_K hl e) h
theorem top_in {pins:List (Addr×Obj)} {σ:St} {H:Hp} {s:Shared} {x:Str} {t:Tok} {r:Option Value} {A:Around} {E:Value->Shared->Prop} {Q:Value->Shared->Prop} (I:Inv X pins σ H s) (T:Zt X.w X.K a) (e:PySem.W.nsIn X.K a x=some r) (lo:(a == sysModules)=false) (h:Q (.bool r.isSome) { s with toks:=s.toks+1 }) :
  wpAny (model X.prog X.w) A (compareOp .In (.str x t) (.ref a)) Q E s:=by
 obtain ⟨es,n,hl,hk⟩:=T;exact wpAny_in_of (strKind_is X.prog X.w x t) lo (PySem.W.mapOf_K (prog:=X.prog) I.kIn hl hk) (by rw [PySem.W.find_K hl e];exact h)
def rTopIn (w:World) (K:PySem.W.Frag):R2:=fun x y H Q=>∃ (k:Str) (a:Addr) (r:Option Value),x=.str k/\y=.ref a/\Zt w K a/\(a == sysModules)=false/\PySem.W.nsIn K a k=some r/\Q (.bl r.isSome) H
theorem XD:OpR X (compareOp .In) (rTopIn X.w X.K):=by
 intro pins s σ H x y v u Q I rx ry h;obtain ⟨k,a,r,rfl,rfl,T,lo,e,q⟩:=h;obtain ⟨t,rfl⟩:=(show ∃ t,v=Value.str k t from rx);cases (show u=Value.ref a from ry);exact top_in I T e lo ⟨.bl r.isSome,H,I.tok _,rfl,q⟩
def tCallV (P:Program) (w:World) (K:PySem.W.Frag) (mg:Str->Option Value) (base:Heap) (CX:CXT) (k:Nat) (E:XK) (tf:TE) (t:TA):TE:=fun σ H Q=>tf σ H fun x H1=>∃ (f:Addr) (fd:FuncData) (ps:List Str) (sp:Sp),x=.ref f/\FnOk P w K mg base CX k f fd ps sp/\PySem.W.keepIn K (.ref f)=true/\Binds K fd ps []/\t σ H1 fun vs H2=>sp vs H2 Q E
theorem Y3 {CX:CXT} {k:Nat} {E:XK} {func e:Expr} {es:List Expr} {tf:TE} {t:TA} (hf:PE X func tf) (hr:Room k X.A) (hx:xb CX X E) (ha:PA X (e::es) t)
  (he:starEach (e::es) X.env=(false,eval e X.env)::starEach es X.env:=by rfl) (hpl:(backTo pos (starEach es X.env)).any (·.1)=false:=by rfl)
  (hc:eval (.Call func (e::es) [] pos) X.env=(do callWith pos (← eval func X.env) [] (backTo pos (starEach (e::es) X.env)) (backToKw pos (keywordEach [] X.env))):=by rfl) :
  PE X (.Call func (e::es) [] pos) (tCallV X.prog X.w X.K X.mg X.base CX k E tf t):=by
 intro pins s σ H Q I h;refine Call_ (thn (hf pins s σ H _ I h) fun u s1 ⟨x,H1,I1,rx,f,fd,ps,sp,ex,F,hk,hb,q⟩=>?_) hc;subst ex;obtain rfl:u=Value.ref f:=rx;refine PySem.W.callWith_K (h₀:=X.base) I.ok.mod.kin hk (thn (ha pos pins s1 σ H1 _ I1 q) fun us s2 ⟨vs,H2,I2,r,q2⟩=>⟨I2.kIn,?_⟩) he hpl;exact zcx (dvs:=[]) (ds:=[]) F hr hb .nil hx I2 r (by simpa using q2)
end
section
variable {X:Cx}
def rIxTop (w:World) (K:PySem.W.Frag):R2:=fun x y H Q=>∃ (a:Addr) (k:Str) (u:Value) (v:V),x=.ref a/\y=.str k/\Zt w K a/\PySem.W.nsIn K a k=some (some u)/\RelV v u/\Q v H
theorem ix_top:IxR X (rIxTop X.w X.K):=by
 intro value slice pins s σ H x y v u Q I rx ry h hs;obtain ⟨a,k,u',z,rfl,rfl,T,e,r,q⟩:=h;cases (show v=Value.ref a from rx);obtain ⟨t,rfl⟩:=(show ∃ t,u=Value.str k t from ry);have T':=T;obtain ⟨es,n,hl,hk⟩:=T';exact tail_any (PySem.W.mapOf_K (prog:=X.prog) I.kIn hl hk).typeIs slot_dict_getitem.lookup (top_item I T e ⟨z,H,I.tok _,r,q⟩) hs
structure ExcCls (K:PySem.W.Frag) (C:Addr):Prop where
 hg:PySem.W.findIn K (.ref C) "__getattribute__"=some (some (.builtin "BaseException.__getattribute__"))
 hgg:PySem.W.findIn K (.ref C) "__getattr__"=some none
 hsb:PySem.W.subIn K (.ref C) (.type "BaseException")=some true
 hd:PySem.W.hasDictIn K C=true
 ha:PySem.W.findIn K (.ref C) "__class__"=some (some (.builtin "object.__class__"))
 hn:PySem.W.specialIn K (.builtin "object.__class__") "__get__"=some (some (.builtin "getset_descriptor.__get__"))
 ht:PySem.W.takesIn K (.builtin "object.__class__")=some true
 hm:PySem.W.mroIn K C (.type "object")=some true
def TyX (K:PySem.W.Frag) (H:Hp) (x:V) (t:Value):Prop:=TyOf K H x t∨∃ e C,x=.ref e/\H e=some (excO e C)/\t=.ref C/\ExcCls K C
def rIsi (K:PySem.W.Frag):List V->Hp->VK->Prop:=fun vs H Q=>∃ (x c:V) (cv t:Value) (b:Bool),vs=[x,c]/\RelV c cv/\(∀ u,RelV c u->u=cv)/\TyX K H x t/\PySem.W.kitOne K t cv=some b/\Q (.bl b) H
theorem zD:ZG X (.builtin "isinstance") (rIsi X.K):=by
 intro pins s σ H xs us Q I r h;obtain ⟨x,c,cv,t,b,rfl,rc,ic,ty,e,q⟩:=h;obtain ⟨u,w',rfl,ru,rw'⟩:=vals2 r;cases ic w' rw';rcases ty with ty | ⟨ea,C,rfl,he,rfl,ec⟩
 ·exact isinst_ok I ru ty e fun tk=>⟨.bl b,H,I.tok _,rfl,q⟩
 ·cases (show u=Value.ref ea from ru)
  obtain ⟨p,_⟩:=(show ObjOk X.prog X.w H s.heap ea (excO ea C) from I.hok ea _ he);exact PySem.W.kia_one (My.kitx_exc ec.hg ec.hgg ec.hsb ec.hd ec.ha ec.hn ec.ht ec.hm) I.kIn p e (fun z=>nomatch z) fun tk=>⟨.bl b,H,I.tok _,rfl,q⟩
end
theorem xT {P:Program} {w:World} {base:Heap} {X:Cx}:xb (CXe P w base) X E0:=fun _ _ _ _ _ _ _ h=>by
 obtain ⟨_,_,_,_,_,_,_,_,_,q⟩:=h;exact q.elim
section
variable {P:Program} {w:World} {K:PySem.W.Frag} {mg:Str->Option Value} {base:Heap}
theorem Fun.okE {x qual:Str} {st:Stmt} {f:Addr} {fd:FuncData} {N ps:List Str} {k:Nat} {sp:Sp} (F:Fun K x qual st f fd) (S:FnScope N ps (zc st)) (len:∀ vs H Q E,sp vs H Q E->vs.length=ps.length)
  (hbody:∀ (cdv:Value) (A:Around) (outer:List Env) (s:Shared) (H:Hp) (vs:List V) (Q:VK) (E:XK),Room k (A.deeper (envOfC qual (zc st) s.heap.objs.size f cdv))->sp vs H Q E ->
   ∃ t,PSs (cxOf (CXe P w base) P w K mg base N qual (zc st) f cdv A outer s H E) (zj st) t/\t { nx:=fun _ H'=>Q .non H',rt:=Q } (start N vs) H):FnOk P w K mg base (CXe P w base) (k+1) f fd ps sp:=by
 obtain ⟨oc,od,kV,doc,pm,an,cdv,ct,osl,rfl,lk,hcd⟩:=F.ex;exact fn_of lk hcd S len fun A outer s H vs Q E hr hsp=>hbody cdv A outer s H vs Q E hr hsp
def zw (K:PySem.W.Frag) (mg:Str->Option Value) (x:Str) (st:Stmt) (ps:List Str):Prop:=∃ (f:Addr) (fd:FuncData),mg x=some (.ref f)/\Fun K x x st f fd/\Binds K fd ps []
theorem zr {h:Heap} {x:Str} {st:Stmt} {ps:List Str} {f:Addr} {oc:Value} {od an:Option Addr} {osl:Array (Option Value)} {kV doc pm cdv ct:Value} (X:K.In h) (G:h.Ns mainGlobals mg)
  (a:PySem.W.nsIn K mainGlobals x=some (some (.ref f))) (l:K.lookup f=some ⟨oc,od,.func (PySem.W.fnOf x x (zk st) (zj st) (zc st) .none kV doc pm an cdv ct),osl⟩)
  (c:PySem.W.codeIn K cdv x=true) (k:PySem.W.keepIn K (.ref f)=true)
  (b:∀ (kV doc pm:Value) (an:Option Addr) (cdv ct:Value) (us:List Value),us.length=ps.length->bindArgs (PySem.W.fnOf x x (zk st) (zj st) (zc st) .none kV doc pm an cdv ct) ⟨us,[]⟩=pure (ps.zip us)):zw K mg x st ps :=
 ⟨f,_,PySem.W.mg_of X G a,zH l c k,(zH l c k).binds b⟩
def Ok (P:Program) (w:World) (K:PySem.W.Frag) (mg:Str->Option Value) (base:Heap) (CX:CXT) (k:Nat) (x:Str) (ps:List Str) (sp:Sp):Prop :=
 ∃ (f:Addr) (fd:FuncData),mg x=some (.ref f)/\PySem.W.keepIn K (.ref f)=true/\Binds K fd ps []/\FnOk P w K mg base CX k f fd ps sp
theorem Ok.mono {CX:CXT} {j k:Nat} {x:Str} {ps:List Str} {sp:Sp} (o:Ok P w K mg base CX j x ps sp) (h:j<=k):Ok P w K mg base CX k x ps sp:=by
 obtain ⟨f,fd,a,b,c,d⟩:=o;exact ⟨f,fd,a,b,c,d.mono h⟩
end
theorem zI {X:Cx} {CX:CXT} {k:Nat} {x:Str} {ps:List Str} {sp:Sp} {E:XK} {p pos:Pos} {e:Expr} {es:List Expr} {t:TA} (o:Ok X.prog X.w X.K X.mg X.base CX k x ps sp) (hr:Room k X.A) (hg:Gl X x) (hx:xb CX X E) (ha:PA X (e::es) t)
  (hdb:(x == ("__debug__":Str))=false:=by decide) (he:starEach (e::es) X.env=(false,eval e X.env)::starEach es X.env:=by rfl) (hpl:(backTo pos (starEach es X.env)).any (·.1)=false:=by rfl) :
  PE X (.Call (.Name x p) (e::es) [] pos) (tCall sp [] E t):=by
 obtain ⟨f,fd,a,b,c,d⟩:=o;exact pe_call d hr hg a b c .nil hx ha hdb he hpl
theorem ints_of:∀ {ns:List Int} {us:List Value},Vals (ns.map V.int) us->IntsAre us ns
 | [],_,.nil=>.nil
 | n::ns,_,.cons ⟨t,e⟩ r=>by subst e;exact .cons n t (ints_of r)
section
variable {X:Cx}
theorem zgb:OpR X (binaryOp .FloorDiv) (rI (fun _ j=>j≠0/\-18446744073709551616<j/\j<18446744073709551616) fun i j=>.int (i.fdiv j)):=opI fun i j _ _ _ _ _ hc q=>floordiv_int hc.1 q (.inl (PyProof.noPylong_of_log2 (by
 have h64:j.natAbs<2 ^ 65:=by omega
 have:=(Nat.log2_lt (by omega:j.natAbs≠0)).mpr h64;omega)))
end
def sp1 (g:Int->V):Sp:=fun vs H Q _=>∃ n,vs=[.int n]/\Q (g n) H
theorem len1 {g:Int->V}:∀ vs H Q E,sp1 g vs H Q E->vs.length=1:=fun vs H Q E ⟨n,e,_⟩=>by rw [e];rfl
theorem ZK {X:Cx} {x:Str} {i:Int} {t:Tok} {pos:Pos} (hm:X.mg x=some (.int i t)) (hg:Gl X x:=by rfl) (hd:(x == ("__debug__":Str))=false:=by decide):PE X (.Name x pos) (tC (.int i)):=pe_glob hg hm (v:=.int i) ⟨_,rfl⟩ hd
theorem zZ {X:Cx} {x:Str} {a:Addr} {pos:Pos} (hm:X.mg x=some (.ref a)) (hg:Gl X x:=by rfl) (hd:(x == ("__debug__":Str))=false:=by decide):PE X (.Name x pos) (tC (.ref a)):=pe_glob hg hm (v:=.ref a) rfl hd
theorem ZY {X:Cx} {x:Str} {n:String} {pos:Pos} (hm:X.mg x=none) (hv:bootBuiltins x=some (.type n)) (hg:Gl X x:=by rfl) (hn:x≠"__name__":=by decide) (hd:(x == ("__debug__":Str))=false:=by decide):PE X (.Name x pos) (tC (.ty n)):=pe_bltn hg hm hv (v:=.ty n) rfl hn hd
abbrev Cx.comp (X:Cx) (scope:Scope) (cl:List (Str×Addr)) (NY:List Str) (s3:Shared) (H3:Hp) (fp:List Addr):Cx :=
 { X with N:=NY,s₀:=s3,H₀:=H3,env:=compEnvC scope cl s3.heap.objs.size X.env,outer:=X.stack,ex:=fp,fn:=fun _=>false,pn:=[],xe:=fun _ _=>False }
abbrev Lz:Obj:={ cls:=.type "list",data:=.seq ([]:List Value).toArray }
abbrev pz (s:Shared):Shared:={ s with heap:=s.heap.push Lz }
abbrev Xz (X:Cx) (scope:Scope) (cl:List (Str×Addr)) (NY:List Str) (s2:Shared) (H2:Hp) (fp:List Addr):Cx:=X.comp scope cl NY (pz s2) (upd H2 s2.heap.objs.size (.lst [])) fp
structure Sees (X:Cx) (scope:Scope) (cl:List (Str×Addr)):Prop where
 kind:scope.kind=.function
 clos:closureFor scope X.env=pure cl
 nocell:∀ y∈scope.names,y.2≠.cell
 names:∀ y∈scope.names,y.2=.local->scope.names.lookup y.1=some .local
 sub:∀ x c,cl.lookup x=some c->X.env.cells.lookup x=some c
 has:∀ x,((compEnvC scope cl 0 X.env).kindOf x=some .cell∨(compEnvC scope cl 0 X.env).kindOf x=some .free)->∃ c,cl.lookup x=some c
section
variable {X:Cx} {pins:List (Addr×Obj)} {σ:St} {H3:Hp} {s3:Shared} {scope:Scope} {cl:List (Str×Addr)} {NY:List Str} {fp:List Addr}
theorem comp_ok (I:Inv X pins σ H3 s3) (S:Sees X scope cl) (hfp:∀ b∈fp,ZF X pins H3 b) (hob:∀ b∈fp,∃ o,s3.heap.get? b=some o):(X.comp scope cl NY s3 H3 fp).Ok where
 mod:=I.ok.mod
 kind:=S.kind
 glob:=I.ok.glob
 blt:=I.ok.blt
 above:=Nat.le_refl _
 inj:=fun x y c a b=>I.ok.inj x y c (S.sub _ _ a) (S.sub _ _ b)
 has:=fun x h=>S.has x h
 cab:=fun _ _ h=>nomatch h
 hd:=I.ok.hd
 frames:=I.ok.frames
 stk:=.inl rfl
 exf:=fun b hb=>⟨fun z=>by
  obtain ⟨o,q⟩:=hob b hb;exact absurd (Heap.lt_size q) (by rw [z];exact Nat.lt_irrefl _),fun x c q=>(hfp b hb).2.2.2.2.1 x c (S.sub _ _ q)⟩
 bs:=I.bs
 bsz:=Nat.le_trans I.ok.bsz I.sz
 noex:=fun b o q hb=>by
  rcases (hfp b hb).2.2.2.1 with z | z
  ·exact I.ok.noex b o q z
  ·exact absurd (Nat.lt_of_lt_of_le (Heap.lt_size q) (Nat.le_trans I.ok.bsz z)) (Nat.lt_irrefl _)
 exfs:=fun b hb z=>by
  rcases List.mem_cons.mp (I.stkSub b z) with y | y
  ·exact (hfp b hb).2.1 y
  ·exact (hfp b hb).2.2.1 y
 funs:=I.stack
 frf:=I.stkFree
theorem zgr {h1:Heap} {t:Nat} {σY:St} (I:Inv X pins σ H3 s3) (S:Sees X scope cl) (hfp:∀ b∈fp,ZF X pins H3 b) (hob:∀ b∈fp,∃ o,s3.heap.get? b=some o)
  (hn:h1.Ns s3.heap.objs.size fun _=>none) (hk:∀ b o,s3.heap.get? b=some o->h1.get? b=some o) (hl:σY.length=NY.length)
  (hσ:∀ (i:Nat) (x:Str) (v:V),NY[i]?=some x->σY[i]?=some (some v)->∃ c u,(((compEnvC scope cl 0 X.env).kindOf x=some .cell∨(compEnvC scope cl 0 X.env).kindOf x=some .free))/\cl.lookup x=some c/\RelV v u/\s3.heap.IsCell c (some u)) :
  Inv (X.comp scope cl NY s3 H3 fp) [] σY H3 { s3 with heap:=h1,toks:=t } where
 ok:=comp_ok I S hfp hob
 os:=rfl
 bare:=I.bare
 base:=Un.kept hk
 loc:=⟨_,hn,fun i x v e1 e2 _=>by
  obtain ⟨c,u,k,q,r,z⟩:=hσ i x v e1 e2;obtain ⟨o,z1,z2⟩:=z;exact ⟨u,r,.inr ⟨k,c,q,o,hk _ _ z1,z2⟩⟩⟩
 cell:=fun x c q=>by
  obtain ⟨v,o,z1,z2⟩:=I.cell x c (S.sub _ _ q);exact ⟨v,o,hk _ _ z1,z2⟩
 free:=I.hok.fresh (Nat.le_refl _)
 freeC:=fun x c q=>I.freeC x c (S.sub _ _ q)
 pin:=fun p hp=>absurd hp (by simp)
 hok:=I.hok.kept hk
 len:=hl
theorem XM {Y:List (Addr×Obj)} {σY:St} {H':Hp} {s':Shared} {h':Heap} (I:Inv X pins σ H3 s3) (hfp:∀ b∈fp,ZF X pins H3 b) (J:Inv (X.comp scope cl NY s3 H3 fp) Y σY H' s') (hs:Heap.SameBut s3.heap.objs.size s'.heap h') :
  Inv X pins σ H' { s' with heap:=h' }:=by
 have ne:∀ b o,s3.heap.get? b=some o->b≠s3.heap.objs.size:=fun b o q=>Nat.ne_of_lt (Heap.lt_size q);have B:=J.base;refine I.call' (s':={ s' with heap:=h' }) (ch:=fp) J.os ⟨fun b o q n hb hx=>?_,fun b o q n hb hx=>?_,B.free,fun b o q hx=>?_,B.tups,B.frzs,B.tbls⟩ (fun b o q=>?_) J.bare fun b hb=>?_
 ·exact (hs.2 b (ne b o q)).trans (B.keep b o q n hb hx)
 ·obtain ⟨sl,z⟩:=B.slot b o q n hb hx
  exact ⟨sl,(hs.2 b (ne b o q)).trans z⟩
 ·obtain ⟨o',z⟩:=B.there b o q hx
  exact ⟨o',(hs.2 b (ne b o q)).trans z⟩
 ·have hf:H' s3.heap.objs.size=none:=J.free
  refine (J.hok b o q).stay (fun c v hc r=>(hs.2 c ?_).trans r) (fun _ z=>z) fun _ _ z=>z;rintro rfl;rcases hc with z | z
  ·rw [← z,hf] at q;cases q
  ·rw [hf] at z;cases z
 ·obtain ⟨_,f2,_,f4,f5,f6⟩:=hfp b hb
  exact ⟨f4,f2,f5,f6⟩
end
section
variable {prog:Program} {w:World} {A:Around} {R:Result->Shared->Prop} {s:Shared}
theorem comp_loop {elt target iter:Expr} {scope:Scope} {pos:Pos} {it acc:Value} {env:Env} (I:Nat->Shared->Prop)
  (turn:∀ n s,I n s->wpAny (model prog w) A (pyNext it) (fun r s₁=>match r with
   | none=>R (.ok .next) s₁
   | some v=>wpAny (model prog w) A (letOwnedTupleGo target it v) (fun _ s₂=>wpAny (model prog w) A (assign target env v) (fun _ s₃=>wpAny (model prog w) A (eval elt env) (fun x s₄ =>
     wpAny (model prog w) A (call (.builtin "list.append") [acc,x]) (fun _ s₅=>∃ m,m<n/\I m s₅) (fun _ _=>False) s₄) (fun _ _=>False) s₃) (fun _ _=>False) s₂) (fun _ _=>False) s₁) (fun _ _=>False) s)
  (n:Nat) (h:I n s):codeAny (model prog w) A (.compLoop (.ListComp elt [⟨target,iter,[],0⟩] scope pos) 0 it acc env) R s:=by
 refine codeAny_loop rfl I (fun n s hI=>?_) n h;show wpAny _ _ ((compTurn (.ListComp elt [⟨target,iter,[],0⟩] scope pos) 0 it acc env).onRaise (fun x=>do noteFrame x env;theTreesLotGoes x)) _ _ s;refine wpAny_noted ?_;rw [compTurn_list1];refine wpAny_bind (wpAny_standAt (wpAny_bind (wpAny_mono (turn n s hI) (fun r s₁ h₁=>?_) fun _ _ z=>z.elim)))
 cases r with
 | none=>exact wpAny_pure h₁
 | some v =>
  refine wpAny_bind (wpAny_mono h₁ (fun _ s₂ h₂=>?_) fun _ _ z=>z.elim);refine wpAny_bind (wpAny_mono h₂ (fun _ s₃ h₃=>?_) fun _ _ z=>z.elim);refine wpAny_bind (wpAny_bind (wpAny_mono h₃ (fun x s₄ h₄=>?_) fun _ _ z=>z.elim));exact wpAny_bind (wpAny_mono h₄ (fun _ s₅ h₅=>wpAny_pure (wpAny_pure ⟨rfl,h₅⟩)) fun _ _ z=>z.elim)
end
def CompW (J:It) (g:TG) (te:TE) (σY:St) (H1:Hp) (D:Addr) (Q:VK):Prop:=∃ W:Nat->Nat->St->Hp->Prop,(∃ m,W 0 m σY H1)/\∀ i m σ' H',W i m σ' H' ->
 (J.stop i H'/\Q (.ref D) H')∨(J.go i H'/\∃ N:St->Hp->Prop,(∀ σ2 H2,N σ2 H2->∃ m',m'<m/\W (i+1) m' σ2 H2) /\
  ∀ x H2,J.yld i H' x H2->g x σ' H2 fun σ3 H3=>te σ3 H3 fun v H4=>∃ xs,H4 D=some (.lst xs)/\xs.length<sizeLine/\N σ3 (upd H4 D (.lst (xs++[v]))))
def tComp (wi:TI) (g:TG) (te:TE) (σ0:St->Hp->St->Prop):TE:=fun σ H Q=>wi σ H fun J H1=>∃ σY,σ0 σ H1 σY/\∀ D,H1 D=none->CompW J g te σY (upd H1 D (.lst [])) D Q
section
variable {X:Cx} {tg:Expr}
structure CompEnd (X:Cx) (pins:List (Addr×Obj)) (σ:St) (H5:Hp) (s6:Shared) (C:Addr):Prop where
 ns:∃ m,s6.heap.Ns C m
 hn:H5 C=none
 hL:C≠X.env.locals
 h1:X.s₀.heap.objs.size<=C
 h2:∀ x c,X.env.cells.lookup x=some c->c≠C
 h3:∀ p∈X.pn++pins,p.1≠C
 inv:∀ h',Heap.SameBut C s6.heap h'->Inv X pins σ H5 { s6 with heap:=h' }
theorem XL {iter elt:Expr} {scope:Scope} {pos pos':Pos} {cl:List (Str×Addr)} {NY:List Str} {wi:TI} {g:TG} {te:TE} {σ0:St->Hp->St->Prop} (hc:X.calm=true) (S:Sees X scope cl) (hi:PI X tg iter wi)
  (hY:∀ (s3:Shared) (H3:Hp) (fp:List Addr),PG (X.comp scope cl NY s3 H3 fp) tg g/\PE (X.comp scope cl NY s3 H3 fp) elt te)
  (h0:∀ (pins:List (Addr×Obj)) (σ:St) (H:Hp) (s3:Shared) (σY:St),Inv X pins σ H s3->σ0 σ H σY->σY.length=NY.length/\∀ (i:Nat) (x:Str) (v:V),NY[i]?=some x->σY[i]?=some (some v) ->
   ∃ c u,(((compEnvC scope cl 0 X.env).kindOf x=some .cell∨(compEnvC scope cl 0 X.env).kindOf x=some .free))/\cl.lookup x=some c/\RelV v u/\s3.heap.IsCell c (some u))
  (hs:∀ x,foldedSetIterable iter X.env x=pure x) {use:Option (Value->Sem Unit)} {R:Value->Shared->Prop} {pins:List (Addr×Obj)} {s:Shared} {σ:St} {H:Hp} {Q:VK} (I:Inv X pins σ H s) (h:tComp wi g te σ0 σ H Q)
  (fin:∀ (C D:Addr) (H5:Hp) (s6:Shared),CompEnd X pins σ H5 s6 C->Q (.ref D) H5->compPost (model X.prog X.w) X.A X.xe use R (.ref D) C (.ok .next) s6) :
  wpAny (model X.prog X.w) X.A (comprehension (.ListComp elt [⟨tg,iter,[],0⟩] scope pos) scope X.env pos' (newList []) (firstAsync [⟨tg,iter,[],0⟩]) (firstIter [⟨tg,iter,[],0⟩] X.env) use) R X.xe s:=by
 refine wpAny_comprehension_free rfl hs S.clos S.kind S.names (thn (hi pins s σ H _ I h) fun v s1 h1=>thn h1 fun itv s2 h2=>?_);obtain ⟨it,fp,tn,J,H2,e,I2,T,st2,f2,σY,hσ,hW⟩:=h2;subst e;refine wpAny_newObj_type ?_;have I3:Inv X pins σ (upd H2 s2.heap.objs.size (.lst [])) (pz s2):=I2.lnew (t':=s2.toks) (its:=[]) .nil (Nat.zero_le _);obtain ⟨W,⟨m0,w0⟩,turn⟩:=hW s2.heap.objs.size (I2.hok.fresh (Nat.le_refl _));have ob2:=T.obj _ _ st2
 have hfp:∀ b∈fp,ZF X pins (upd H2 s2.heap.objs.size (.lst [])) b:=fun b hb=>by
  obtain ⟨o,q,_⟩:=ob2 b hb;exact ⟨by rw [zm (Nat.ne_of_lt (Heap.lt_size q))];exact (f2 b hb).1,(f2 b hb).2⟩
 have hob:∀ b∈fp,∃ o,(s2.heap.push Lz).get? b=some o:=fun b hb=>by
  obtain ⟨o,q,_⟩:=ob2 b hb;exact ⟨o,Heap.get?_push_of_some _ q⟩
 refine wpAny_newFunctionEnv S.nocell (fun y hy=>absurd hy (by simp)) (fun h1 hn1 hs1=>?_) S.kind;obtain ⟨hl,hY0⟩:=h0 pins σ H2 s2 σY I2 hσ;have k23:∀ b o,s2.heap.get? b=some o->(s2.heap.push Lz).get? b=some o:=fun b o q=>Heap.get?_push_of_some _ q;have k34:∀ b o,(s2.heap.push Lz).get? b=some o->h1.get? b=some o:=fun b o q=>(hs1.2 b (Nat.ne_of_lt (Heap.lt_size q))).trans (Heap.get?_push_of_some _ q)
 have I4:=zgr (scope:=scope) (cl:=cl) (NY:=NY) (fp:=fp) (h1:=h1) (t:=s2.toks) (σY:=σY) I3 S hfp hob hn1 k34 hl fun i x v e1 e2=>by
  obtain ⟨c,u,k,q,r,o,z1,z2⟩:=hY0 i x v e1 e2;exact ⟨c,u,k,q,r,o,k23 _ _ z1,z2⟩
 have st4:tn 0 h1:=T.keep _ _ _ st2 fun b hb o q=>k34 _ _ (k23 _ _ q);have fr4:∀ b∈fp,(upd H2 s2.heap.objs.size (.lst [])) b=none:=fun b hb=>(hfp b hb).1;obtain ⟨hg,he⟩:=hY (pz s2) (upd H2 s2.heap.objs.size (.lst [])) fp;have okY:=I4.ok
 have statY:∀ {H':Hp},(∀ b∈fp,H' b=none)->∀ b∈fp,ZF (Xz X scope cl NY s2 H2 fp) [] H' b :=
  fun hn b hb=>⟨hn b hb,(okY.exf b hb).1,okY.exfs b hb,.inl hb,(okY.exf b hb).2,fun p hp=>absurd hp (by simp)⟩
 have loop:codeAny (model X.prog X.w) X.A (.compLoop (.ListComp elt [⟨tg,iter,[],0⟩] scope pos) 0 (.ref it) (.ref s2.heap.objs.size) (compEnvC scope cl (s2.heap.push Lz).objs.size X.env))
   (compPost (model X.prog X.w) X.A X.xe use R (.ref s2.heap.objs.size) (s2.heap.push Lz).objs.size) { s2 with heap:=h1,toks:=s2.toks }:=by
  refine comp_loop (fun n s'=>∃ i σ' H',Inv (Xz X scope cl NY s2 H2 fp) [] σ' H' s'/\tn i s'.heap/\(∀ b∈fp,H' b=none)/\W i n σ' H') ?_ m0 ⟨0,σY,_,I4,st4,fr4,w0⟩;rintro n s5 ⟨i,σ5,H5,I5,st5,fr5,w5⟩;rcases turn i n σ5 H5 w5 with ⟨stop,q⟩ | ⟨go,N,hN,step⟩
  ·refine thn (T.done (Xz X scope cl NY s2 H2 fp) rfl rfl rfl hc i [] s5 σ5 H5 _ I5 (statY fr5) st5 stop) fun r s6 ⟨hr,I6⟩=>?_
   subst hr;obtain ⟨m,hm,_⟩:=I6.loc;refine fin _ _ H5 s6 ⟨⟨m,hm⟩,I6.free,Ne.symm (Nat.ne_of_lt I3.lt),I3.sz,fun x c z=>?_,fun p hp=>?_,fun h' hs'=>XM I3 hfp I6 hs'⟩ q
   ·obtain ⟨_,o,z1,_⟩:=I3.cell x c z
    exact Nat.ne_of_lt (Heap.lt_size z1)
   ·exact Nat.ne_of_lt (Heap.lt_size (I3.pin p hp).1)
  ·refine thn (T.item (Xz X scope cl NY s2 H2 fp) rfl rfl rfl hc i [] s5 σ5 H5 _ I5 (statY fr5) st5 go) fun r s6 ⟨u,hr,h6⟩=>?_
   subst hr;refine thn h6 fun _ s7 ⟨x,H7,I7,r7,y7,st7,fr7⟩=>?_;have I7':=I7.pinned (statY fr7) (T.obj _ _ st7);refine thn (hg _ s7 σ5 H7 x u _ I7' r7 (step x H7 y7)) fun _ s8 ⟨σ8,H8,I8,q8⟩=>?_;refine thn (he _ s8 σ8 H8 _ I8 q8) fun z s9 ⟨v9,H9,I9,r9,xs,hx9,hz9,n9⟩=>?_;refine thn (xw _ s9 σ8 H9 (.ref s2.heap.objs.size) [v9] (.ref s2.heap.objs.size) [z] (fun _ H'=>H'=upd H9 s2.heap.objs.size (.lst (xs++[v9]))) I9 rfl (.cons r9 .nil) ⟨s2.heap.objs.size,xs,v9,rfl,rfl,hx9,hz9,rfl⟩) fun y s10 ⟨v10,H10,I10,_,e10⟩=>?_;subst e10;obtain ⟨m',hm,w10⟩:=hN _ _ n9;refine ⟨m',hm,i+1,σ8,_,I10.unpinned,T.keep _ _ _ st7 fun b hb o q=>(I10.pin (b,o) (List.mem_append_right _ (List.mem_append_right _ (xM hb q)))).1,fun b hb=>?_,w10⟩;obtain ⟨o,q,d⟩:=T.obj _ _ st7 b hb;exact (I10.pin (b,o) (List.mem_append_right _ (List.mem_append_right _ (xM hb q)))).2.1
 exact codeAny_compStart_list loop (T.self _ 0 _ _ _ st4 loop)
theorem pe_comp {iter elt:Expr} {scope:Scope} {pos:Pos} {cl:List (Str×Addr)} {NY:List Str} {wi:TI} {g:TG} {te:TE} {σ0:St->Hp->St->Prop} (hc:X.calm=true) (S:Sees X scope cl) (hi:PI X tg iter wi)
  (hY:∀ (s3:Shared) (H3:Hp) (fp:List Addr),PG (X.comp scope cl NY s3 H3 fp) tg g/\PE (X.comp scope cl NY s3 H3 fp) elt te)
  (h0:∀ (pins:List (Addr×Obj)) (σ:St) (H:Hp) (s3:Shared) (σY:St),Inv X pins σ H s3->σ0 σ H σY->σY.length=NY.length/\∀ (i:Nat) (x:Str) (v:V),NY[i]?=some x->σY[i]?=some (some v) ->
   ∃ c u,(((compEnvC scope cl 0 X.env).kindOf x=some .cell∨(compEnvC scope cl 0 X.env).kindOf x=some .free))/\cl.lookup x=some c/\RelV v u/\s3.heap.IsCell c (some u))
  (hs:∀ x,foldedSetIterable iter X.env x=pure x:=by intro _;rfl) :
  PE X (.ListComp elt [⟨tg,iter,[],0⟩] scope pos) (tComp wi g te σ0):=by
 intro pins s σ H Q I h;rw [eval_ListComp];refine XL (use:=none) hc S hi hY h0 hs I h fun C D H5 s6 e q=>?_;obtain ⟨m,hm⟩:=e.ns;exact ⟨m,hm,fun h' hs'=>⟨.ref D,H5,e.inv h' hs',rfl,q⟩⟩
theorem ps_comp {iter elt:Expr} {scope:Scope} {pos pos' spos:Pos} {cl:List (Str×Addr)} {NY:List Str} {wi:TI} {g:TG} {te:TE} {σ0:St->Hp->St->Prop} {i:Nat} {y:Str} (hc:X.calm=true) (S:∀ {pins σ H s},Inv X pins σ H s->Sees X scope cl) (hi:PI X tg iter wi)
  (hY:∀ (s3:Shared) (H3:Hp) (fp:List Addr),PG (X.comp scope cl NY s3 H3 fp) tg g/\PE (X.comp scope cl NY s3 H3 fp) elt te)
  (h0:∀ (pins:List (Addr×Obj)) (σ:St) (H:Hp) (s3:Shared) (σY:St),Inv X pins σ H s3->σ0 σ H σY->σY.length=NY.length/\∀ (i:Nat) (x:Str) (v:V),NY[i]?=some x->σY[i]?=some (some v) ->
   ∃ c u,(((compEnvC scope cl 0 X.env).kindOf x=some .cell∨(compEnvC scope cl 0 X.env).kindOf x=some .free))/\cl.lookup x=some c/\RelV v u/\s3.heap.IsCell c (some u))
  (hs:∀ x,foldedSetIterable iter X.env x=pure x) (hN:X.N.Nodup) (hi':X.N[i]?=some y) (hx:Loc X.env.scope y) (hf:X.fn y=true∨X.env.scope.names.lookup y=some .local)
  (hw:swapsWith (.ListComp elt [⟨tg,iter,[],0⟩] scope pos) (some (.Name y pos')) spos.line X.env=pure true):PS X (.Assign [.Name y pos'] (.ListComp elt [⟨tg,iter,[],0⟩] scope pos) spos) (tAsg (tComp wi g te σ0) (Xb i)):=by
 intro pins s σ H D I h;rw [exec_Assign_Name_used _ _ _ _ hw,arm_evalThenUse_ListComp];refine wpAny_bind (wpAny_standAt (wpAny_bind (wpAny_bind (wpAny_mono (XL (use:=some (assign (.Name y pos') X.env)) (R:=fun _ s'=>SP X pins D .next s') hc (S I) hi hY h0 hs I h fun C L H5 s6 e q=>?_) (fun _ s' z=>wpAny_pure (wpAny_pure z)) fun _ _ z=>z))));obtain ⟨m,hm⟩:=e.ns;have I6:Inv X pins σ H5 s6:=e.inv s6.heap ⟨rfl,fun _ _=>rfl⟩;refine wpAny_assign_Name (Xx I6 hN hi' hx (v:=.ref L) rfl (fun s' I' ⟨a,sb,ha⟩=>?_) hf)
 have ne:C≠a:=by
  rintro rfl;rcases ha with z | z
  ·exact e.hL z
  ·exact e.h2 _ _ z rfl
 refine ⟨m,?_,fun h' hs'=>?_⟩
 ·obtain ⟨o,es,ep,z,r⟩:=hm
  exact ⟨o,es,ep,(sb.2 _ ne).trans z,r⟩
 ·exact ⟨_,H5,I'.turned (t':=s'.toks) (it:=C) (fun b o nb z=>(hs'.2 b nb).trans z) e.hn e.hL (.inr e.h1) e.h2 e.h3,q⟩
end
theorem xY {K:PySem.W.Frag} {a D:Addr} {xs:List V} {g:TG} {te:TE} {σY:St} {H1:Hp} {Q:VK} (Pv:Nat->St->Hp->Prop) (h0:Pv 0 σY H1) (hl:∀ i σ H,i<=xs.length->Pv i σ H->SqL K H a xs)
  (hs:∀ i x σ H,xs[i]?=some x->Pv i σ H->g x σ H fun σ3 H3=>te σ3 H3 fun v H4=>∃ ys,H4 D=some (.lst ys)/\ys.length<sizeLine/\Pv (i+1) σ3 (upd H4 D (.lst (ys++[v])))) (hd:∀ σ H,Pv xs.length σ H->Q (.ref D) H) :
  CompW (Itl K a) g te σY H1 D Q:=by
 refine ⟨fun i m σ H=>m=xs.length-i/\i<=xs.length/\Pv i σ H,⟨xs.length,by simp,Nat.zero_le _,h0⟩,?_⟩;rintro i m σ H ⟨rfl,hi,p⟩;have q:=hl i σ H hi p;by_cases hlt:i<xs.length
 ·refine .inr ⟨⟨xs,xs[i],q,by simp [hlt]⟩,Pv (i+1),fun σ' H' p'=>⟨xs.length-(i+1),by omega,rfl,hlt,p'⟩,fun x H' y=>?_⟩
  obtain ⟨e,y⟩:=y;subst e;exact hs i x σ _ (y xs q) p
 ·have e:i=xs.length:=by omega
  subst e;exact .inl ⟨⟨xs,q,Nat.le_refl _⟩,hd σ H p⟩
theorem Zs {lo:Int} {n:Nat} {D:Addr} {g:TG} {te:TE} {σY:St} {H1:Hp} {Q:VK} (Pv:Nat->St->Hp->Prop) (h0:Pv 0 σY H1)
  (hs:∀ i σ H,i<n->Pv i σ H->g (.int (lo+i)) σ H fun σ3 H3=>te σ3 H3 fun v H4=>∃ ys,H4 D=some (.lst ys)/\ys.length<sizeLine/\Pv (i+1) σ3 (upd H4 D (.lst (ys++[v])))) (hd:∀ σ H,Pv n σ H->Q (.ref D) H) :
  CompW (Itr lo n) g te σY H1 D Q:=by
 refine ⟨fun i m σ H=>m=n-i/\i<=n/\Pv i σ H,⟨n,by simp,Nat.zero_le _,h0⟩,?_⟩;rintro i m σ H ⟨rfl,hi,p⟩;by_cases hlt:i<n
 ·refine .inr ⟨hlt,Pv (i+1),fun σ' H' p'=>⟨n-(i+1),by omega,rfl,hlt,p'⟩,fun x H' y=>?_⟩
  obtain ⟨e,y⟩:=y;subst e y;exact hs i σ _ hlt p
 ·have e:i=n:=by omega
  subst e;exact .inl ⟨Nat.le_refl _,hd σ H p⟩
def clGo (env:Env):List (Str×NameKind)->List (Str×Addr)->List (Str×Addr)
 | [],cs=>cs
 | y::r,cs=>clGo env r (if y.2 == .free then (y.1,(env.cells.lookup y.1).getD 0)::cs else cs)
abbrev ZE (env:Env) (scope:Scope):List (Str×Addr):=clGo env scope.names []
theorem zhk {scope:Scope} {env:Env} (h:∀ y∈scope.names,y.2=.free->∃ c,env.cells.lookup y.1=some c):closureFor scope env=pure (ZE env scope):=by
 rw [closureFor.eq_1]
 suffices q:∀ (names:List (Str×NameKind)) (cs:List (Str×Addr)),(∀ y∈names,y.2=.free->∃ c,env.cells.lookup y.1=some c) ->
   (do
    let s ← forIn names cs fun x __s =>
     have cs:=__s
     match x with
     | (name,kind) =>
      if (kind == NameKind.free)=true then do
       let l ← cellOf env name;have cs:List (Str×Addr):=(name,l)::cs
       pure (ForInStep.yield cs)
      else pure (ForInStep.yield cs)
    pure s:Sem (List (Str×Addr)))=pure (clGo env names cs) from (congrArg (fun (m:Sem (List (Str×Addr)))=>m >>= fun s=>(pure s:Sem (List (Str×Addr)))) (q scope.names [] h)).trans rfl
 intro names
 induction names with
 | nil=>intro cs _;rfl
 | cons y r ih =>
  intro cs h;obtain ⟨n,k⟩:=y;have hr:=fun y hy=>h y (List.mem_cons_of_mem _ hy);rw [List.forIn_cons];show _=pure (clGo env r (if k == .free then (n,(env.cells.lookup n).getD 0)::cs else cs));by_cases e:k=.free
  ·subst e
   obtain ⟨c,hc⟩:=h (n,.free) List.mem_cons_self rfl;have e1:cellOf env n=pure c:=by unfold cellOf;rw [show env.cells.lookup n=some c from hc]
   simp only [e1,show env.cells.lookup n=some c from hc,Option.getD_some,beq_self_eq_true,if_true];exact ih _ hr
  ·have e0:(k == NameKind.free)=false:=by simp [e]
   simp only [e0,Bool.false_eq_true,if_false];exact ih _ hr
theorem zgv {env:Env} {x:Str} {c:Addr}:∀ {names:List (Str×NameKind)} {cs:List (Str×Addr)},(∀ y∈names,y.2=.free->∃ c,env.cells.lookup y.1=some c)->(∀ x c,cs.lookup x=some c->env.cells.lookup x=some c)->(clGo env names cs).lookup x=some c->env.cells.lookup x=some c
 | [],cs,_,hc,h=>hc _ _ h
 | (n,k)::r,cs,hn,hc,h=>by
  refine zgv (fun y hy=>hn y (List.mem_cons_of_mem _ hy)) (fun x c q=>?_) h;by_cases e:k=.free
  ·subst e
   obtain ⟨c',hc'⟩:=hn (n,.free) List.mem_cons_self rfl;simp only [beq_self_eq_true,if_true,show env.cells.lookup n=some c' from hc',Option.getD_some,List.lookup_cons] at q;by_cases z:x=n
   ·subst z;simp at q;rw [← q];exact hc'
   ·have z':(x == n)=false:=by simp [z]
    rw [z'] at q;exact hc _ _ q
  ·have e0:(k == NameKind.free)=false:=by simp [e]
   rw [e0] at q;exact hc _ _ q
theorem XN {env:Env} {x:Str}:∀ {names:List (Str×NameKind)} {cs:List (Str×Addr)},(∃ c,cs.lookup x=some c)->∃ c,(clGo env names cs).lookup x=some c
 | [],_,h=>h
 | (n,k)::r,cs,h=>by
  refine XN (names:=r) ?_;by_cases e:(k == NameKind.free)=true
  ·simp only [e,if_true,List.lookup_cons]
   cases hx:x == n with
   | true=>exact ⟨_,rfl⟩
   | false=>exact h
  ·simp only [e,if_false];exact h
theorem Xe {env:Env} {x:Str}:∀ {names:List (Str×NameKind)} {cs:List (Str×Addr)},(x,NameKind.free)∈names->∃ c,(clGo env names cs).lookup x=some c
 | (n,k)::r,cs,h=>by
  rcases List.mem_cons.mp h with e | e
  ·cases e
   refine XN (names:=r) ⟨(env.cells.lookup x).getD 0,?_⟩;simp
  ·show ∃ c,(clGo env r _).lookup x=some c
   exact Xe e
def YQ (X:Cx) (scope:Scope):Bool :=
 (match scope.kind with | .function=>true | _=>false) && scope.names.all fun y=>match y.2 with
  | .cell=>false
  | .free=>(match X.env.kindOf y.1 with | some .cell=>true | some .free=>true | _=>false)
  | .local=>(match scope.names.lookup y.1 with | some .local=>true | _=>false)
  | _=>true
theorem Z2 {X:Cx} {scope:Scope} (ok:X.Ok) (h:YQ X scope=true):Sees X scope (ZE X.env scope):=by
 unfold YQ at h;rw [Bool.and_eq_true,List.all_eq_true] at h;obtain ⟨hk,hn⟩:=h
 have fr:∀ y∈scope.names,y.2=.free->∃ c,X.env.cells.lookup y.1=some c:=fun y hy e=>by
  have q:=hn y hy;rw [e] at q;refine ok.has y.1 ?_;revert q;dsimp only
  split
  ·rename_i z;intro _;exact .inl z
  ·rename_i z;intro _;exact .inr z
  ·intro q;cases q
 refine ⟨?_,zhk fr,fun y hy e=>?_,fun y hy e=>?_,fun x c q=>zgv fr (fun _ _ z=>by cases z) q,fun x q=>?_⟩
 ·revert hk
  cases scope.kind <;> simp
 ·have q:=hn y hy
  rw [e] at q;exact Bool.false_ne_true q
 ·have q:=hn y hy
  rw [e] at q;revert q;dsimp only
  split
  ·rename_i z;intro _;exact z
  ·intro q;cases q
 ·have key:∀ k,(compEnvC scope (ZE X.env scope) 0 X.env).kindOf x=some k->(k=.cell∨k=.free)->(x,NameKind.free)∈scope.names:=by
   intro k hk' hkk;have q:((scope.names.map fun y=>match y with | (n,k)=>if (k == NameKind.free && X.env.scope.kind == ScopeKind.function && X.env.kindOf n == some NameKind.cell)=true then (n,NameKind.cell) else (n,k))).lookup x=some k:=hk'
   obtain ⟨n,k',e1,e2⟩:∃ n k',(n,k')∈scope.names/\(match (n,k') with | (n,k)=>if (k == NameKind.free && X.env.scope.kind == ScopeKind.function && X.env.kindOf n == some NameKind.cell)=true then (n,NameKind.cell) else (n,k))=(x,k):=by
    have m:(x,k)∈(scope.names.map fun y=>match y with | (n,k)=>if (k == NameKind.free && X.env.scope.kind == ScopeKind.function && X.env.kindOf n == some NameKind.cell)=true then (n,NameKind.cell) else (n,k)):=by
     revert q;generalize (scope.names.map fun y=>match y with | (n,k)=>if (k == NameKind.free && X.env.scope.kind == ScopeKind.function && X.env.kindOf n == some NameKind.cell)=true then (n,NameKind.cell) else (n,k))=l
     induction l with
     | nil=>intro q;cases q
     | cons a l ih =>
      intro q;obtain ⟨a1,a2⟩:=a;rw [List.lookup_cons] at q
      cases hx:x == a1 with
      | true=>rw [hx] at q;cases q;have:=beq_iff_eq.mp hx;subst this;exact List.mem_cons_self
      | false=>rw [hx] at q;exact List.mem_cons_of_mem _ (ih q)
    obtain ⟨⟨n,k'⟩,h1,h2⟩:=List.mem_map.mp m;exact ⟨n,k',h1,h2⟩
   dsimp only at e2
   split at e2
   ·rename_i z
    cases e2;simp only [Bool.and_eq_true,beq_iff_eq] at z;rw [z.1.1] at e1;exact e1
   ·cases e2
    rcases hkk with rfl | rfl
    ·have z:=hn _ e1
     exact absurd z Bool.false_ne_true
    ·exact e1
  rcases q with q | q
  ·exact Xe (key _ q (.inl rfl))
  ·exact Xe (key _ q (.inr rfl))
def Xf (X:Cx) (scope:Scope):List Str->List (Option Nat)->Bool
 | [],[]=>true
 | _::r,none::c=>Xf X scope r c
 | x::r,some j::c=>(match X.N[j]? with | some y=>x == y | none=>false) && (match (compEnvC scope (ZE X.env scope) 0 X.env).kindOf x with | some .cell=>true | some .free=>true | _=>false)
   && (match X.env.kindOf x with | some .cell=>true | some .free=>true | _=>false) && Xf X scope r c
 | _,_=>false
def capt (cap:List (Option Nat)) (σ:St):St:=cap.map fun o=>o.bind fun j=>(σ[j]?).join
theorem Yb {X:Cx} {scope:Scope} {pins:List (Addr×Obj)} {σ:St} {H:Hp} {s:Shared} (I:Inv X pins σ H s) (S:Sees X scope (ZE X.env scope)):∀ {NY:List Str} {cap:List (Option Nat)},Xf X scope NY cap=true->(capt cap σ).length=NY.length/\∀ (i:Nat) (x:Str) (v:V),NY[i]?=some x->(capt cap σ)[i]?=some (some v) ->
   ∃ c u,(((compEnvC scope (ZE X.env scope) 0 X.env).kindOf x=some .cell∨(compEnvC scope (ZE X.env scope) 0 X.env).kindOf x=some .free))/\(ZE X.env scope).lookup x=some c/\RelV v u/\s.heap.IsCell c (some u)
 | [],[],_=>⟨rfl,fun i x v e _=>by cases e⟩
 | [],_::_,h=>by cases h
 | y::r,[],h=>by cases h
 | y::r,none::c,h=>by
  obtain ⟨l,q⟩:=Yb I S (NY:=r) (cap:=c) h;refine ⟨by rw [List.length_cons,← l];rfl,fun i x v e1 e2=>?_⟩
  cases i with
  | zero=>cases e2
  | succ i=>exact q i x v e1 e2
 | y::r,some j::c,h=>by
  unfold Xf at h;rw [Bool.and_eq_true,Bool.and_eq_true,Bool.and_eq_true] at h;obtain ⟨⟨⟨h1,h2⟩,h3⟩,h4⟩:=h;obtain ⟨l,q⟩:=Yb I S (NY:=r) (cap:=c) h4;refine ⟨by rw [List.length_cons,← l];rfl,fun i x v e1 e2=>?_⟩
  cases i with
  | succ i=>exact q i x v e1 e2
  | zero =>
   have ey:y=x:=Option.some.inj e1;subst ey;have ev:(σ[j]?).join=some v:=Option.some.inj e2
   have hσ:σ[j]?=some (some v):=by
    cases z:σ[j]? with
    | none=>rw [z] at ev;cases ev
    | some o=>rw [z] at ev;rw [show o=some v from ev]
   have hN:X.N[j]?=some y:=by
    cases z:X.N[j]? with
    | none=>rw [z] at h1;cases h1
    | some y'=>rw [z] at h1;rw [beq_iff_eq.mp h1]
   have hK:(compEnvC scope (ZE X.env scope) 0 X.env).kindOf y=some .cell∨(compEnvC scope (ZE X.env scope) 0 X.env).kindOf y=some .free:=by
    revert h2
    split
    ·rename_i z;intro _;exact .inl z
    ·rename_i z;intro _;exact .inr z
    ·intro q;cases q
   have hV:X.env.kindOf y=some .cell∨X.env.kindOf y=some .free:=by
    revert h3
    split
    ·rename_i z;intro _;exact .inl z
    ·rename_i z;intro _;exact .inr z
    ·intro q;cases q
   obtain ⟨c',hc'⟩:=S.has y hK;obtain ⟨m,_,hl⟩:=I.loc;obtain ⟨u,ru,lk⟩:=hl j y v hN hσ (.inr hV);refine ⟨c',u,hK,hc',ru,?_⟩;rcases lk with ⟨k,_⟩ | ⟨_,c2,e3,e4⟩
   ·have k':X.env.kindOf y=some .local:=k
    rcases hV with z | z <;> rw [z] at k' <;> cases k'
   ·have e5:=S.sub _ _ hc'
    rw [e3] at e5;cases e5;exact e4
abbrev tCompC (wi:TI) (g:TG) (te:TE) (cap:List (Option Nat)):TE:=tComp wi g te fun σ _ σY=>σY=capt cap σ
section
variable {X:Cx} {tg:Expr}
theorem xA {iter elt:Expr} {scope:Scope} {pos:Pos} {wi:TI} {g:TG} {te:TE} (NY:List Str) (cap:List (Option Nat)) (hc:X.calm=true) (hk:YQ X scope=true) (hcap:Xf X scope NY cap=true) (hi:PI X tg iter wi)
  (hY:∀ (s3:Shared) (H3:Hp) (fp:List Addr),PG (X.comp scope (ZE X.env scope) NY s3 H3 fp) tg g/\PE (X.comp scope (ZE X.env scope) NY s3 H3 fp) elt te)
  (hs:∀ x,foldedSetIterable iter X.env x=pure x:=by intro _;rfl):PE X (.ListComp elt [⟨tg,iter,[],0⟩] scope pos) (tCompC wi g te cap):=by
 intro pins s σ H Q I h;have S:=Z2 I.ok hk;refine pe_comp (NY:=NY) hc S hi hY (fun pins σ H s3 σY I3 e=>?_) hs pins s σ H Q I h;subst e;exact Yb I3 S hcap
theorem ps_compC {iter elt:Expr} {scope:Scope} {pos pos' spos:Pos} {wi:TI} {g:TG} {te:TE} {i:Nat} {y:Str} (NY:List Str) (cap:List (Option Nat)) (hc:X.calm=true) (hk:YQ X scope=true) (hcap:Xf X scope NY cap=true) (hi:PI X tg iter wi)
  (hY:∀ (s3:Shared) (H3:Hp) (fp:List Addr),PG (X.comp scope (ZE X.env scope) NY s3 H3 fp) tg g/\PE (X.comp scope (ZE X.env scope) NY s3 H3 fp) elt te) (hN:X.N.Nodup) (hi':X.N[i]?=some y) (hx:Loc X.env.scope y)
  (hf:X.fn y=true∨X.env.scope.names.lookup y=some .local:=by first | exact .inl rfl | exact .inr rfl) (hw:swapsWith (.ListComp elt [⟨tg,iter,[],0⟩] scope pos) (some (.Name y pos')) spos.line X.env=pure true:=by rfl)
  (hs:∀ x,foldedSetIterable iter X.env x=pure x:=by intro _;rfl):PS X (.Assign [.Name y pos'] (.ListComp elt [⟨tg,iter,[],0⟩] scope pos) spos) (tAsg (tCompC wi g te cap) (Xb i)):=by
 refine ps_comp (NY:=NY) hc (fun I=>Z2 I.ok hk) hi hY (fun pins σ H s3 σY I3 e=>?_) hs hN hi' hx hf hw;subst e;exact Yb I3 (Z2 I3.ok hk) hcap
end
section
variable {X:Cx}
theorem zgl {K:PySem.W.Frag} (e:X.K=K):IxR X (rIxL K):=by subst e;exact zM
end
theorem xa {ns:List Int} {j:Int} (i:Nat) (h:i<ns.length) (e:j=i):atI (ns.map V.int) j=some (.int (ns.getD i 0)):=by
 subst e;refine zQ ?_;rw [List.getElem?_map,List.getElem?_eq_getElem h];simp [List.getD,h]
theorem getD_mem {ns:List Int} {i:Nat} (h:i<ns.length):ns.getD i 0∈ns:=by
 rw [List.getD_eq_getElem?_getD,List.getElem?_eq_getElem h];exact List.getElem_mem h
theorem xN {ns:List Int} {i:Nat} {x:V} (h:(ns.map V.int)[i]?=some x):i<ns.length/\x=.int (ns.getD i 0):=by
 rw [List.getElem?_map] at h
 cases e:ns[i]? with
 | none=>rw [e] at h;cases h
 | some n =>
  rw [e] at h;refine ⟨(List.getElem?_eq_some_iff.mp e).1,?_⟩;rw [List.getD_eq_getElem?_getD,e];exact (Option.some.inj h).symm
section
variable {X:Cx} {pins:List (Addr×Obj)} {σ:St} {H:Hp} {s:Shared}
theorem Inv.keptL {h':Heap} {t':Nat} (I:Inv X pins σ H s) {m:Str->Option Value} (hl:∀ (i:Nat) (x:Str) (v:V),X.N[i]?=some x->σ[i]?=some (some v)->Vis X.env.scope x->∃ u,RelV v u/\Look X.env s.heap m x u)
  (k:∀ b o,b≠X.env.locals->s.heap.get? b=some o->h'.get? b=some o) (hn:h'.Ns X.env.locals m):Inv X pins σ H { s with heap:=h',toks:=t' }:=by
 have B:=I.base
 have ne0:∀ b o,X.s₀.heap.get? b=some o->b≠X.env.locals:=fun b o q z=>by
  have h1:b<X.s₀.heap.objs.size:=Heap.lt_size q;have h2:X.s₀.heap.objs.size<=X.env.locals:=I.ok.above;rw [z] at h1;exact absurd (Nat.lt_of_lt_of_le h1 h2) (Nat.lt_irrefl _)
 refine ⟨I.ok,I.os,I.bare,⟨fun b o q n hb hx=>?_,fun b o q n hb hx=>?_,B.free,fun b o q hx=>?_,B.tups,B.frzs,B.tbls⟩,⟨m,hn,fun i x v e1 e2 vs=>?_⟩,fun x c q=>?_,I.free,I.freeC,fun p hp=>?_,fun b o q=>?_,I.len⟩
 ·exact k _ _ (ne0 _ _ q) (B.keep b o q n hb hx)
 ·obtain ⟨sl,z⟩:=B.slot b o q n hb hx
  exact ⟨sl,k _ _ (ne0 _ _ q) z⟩
 ·obtain ⟨o',z⟩:=B.there b o q hx
  exact ⟨o',k _ _ (ne0 _ _ q) z⟩
 ·obtain ⟨u,r,lk⟩:=hl i x v e1 e2 vs
  refine ⟨u,r,?_⟩;rcases lk with z | ⟨z1,c,z2,o,z3,z4⟩
  ·exact .inl z
  ·exact .inr ⟨z1,c,z2,o,k _ _ (I.cne _ _ z2) z3,z4⟩
 ·obtain ⟨v,o,z1,z2⟩:=I.cell x c q
  exact ⟨v,o,k _ _ (I.cne _ _ q) z1,z2⟩
 ·obtain ⟨z1,z2,z3,z4⟩:=I.pin p hp
  exact ⟨k _ _ z3 z1,z2,z3,z4⟩
 ·refine (I.hok b o q).stay (fun c v hc r=>k _ _ ?_ r) (fun _ z=>z) fun _ _ z=>z
  rintro rfl;rcases hc with z | z
  ·rw [← z,I.free] at q;cases q
  ·rw [I.free] at z;cases z
theorem fr_all (I:Inv X pins σ H s) {m:Str->Option Value} (hm:s.heap.Ns X.env.locals m):Fr X.base X.env.locals s.heap m:=⟨hm,I.bk,Nat.le_trans I.ok.bsz I.ok.above⟩
theorem kept_all {h':Heap} {m:Str->Option Value} (F:Fr X.base X.env.locals h' m) (N:News X.base X.env.locals h' (Yc X.base s.heap X.env.locals)) (I:Inv X pins σ H s):∀ b o,b≠X.env.locals->s.heap.get? b=some o->h'.get? b=some o:=fun b o n q=>by
 cases e:X.base.get? b with
 | none=>exact (N (b,o) (zgj n e q)).1
 | some o' =>
  have z:=I.bk b o' e;rw [q] at z;cases z;exact F.keep b o e
end
section
variable {X:Cx}
def rSum (K:PySem.W.Frag):List V->Hp->VK->Prop:=fun xs H Q=>∃ (p:Addr) (ns:List Int),xs=[.ref p]/\SqL K H p (ns.map V.int)/\Q (.int ns.sum) H
theorem call_sum (hc:X.calm=true):ZG X (.builtin "sum") (rSum X.K):=by
 intro pins s σ H xs us Q I r h;obtain ⟨p,ns,rfl,hp,q⟩:=h;obtain ⟨u,rfl,ru⟩:=r.one;cases (show u=Value.ref p from ru);obtain ⟨its,rv,pl,_⟩:=I.list hp;obtain ⟨m,hm,hl⟩:=I.loc
 exact LSm.sum_ints (fr_all I hm) news_all (I.ok.hd hc) pl.isList (ints_of rv) fun h' tk t' F N =>
  ⟨.int ns.sum,H,I.keptL hl (kept_all F N I) F.ns,⟨_,rfl⟩,q⟩
end
mutual
inductive DV (K:PySem.W.Frag) (H:Hp):V->PyData->Prop
 | non:DV K H .non .none
 | bl (b:Bool):DV K H (.bl b) (.bool b)
 | int (i:Int):DV K H (.int i) (.int i)
 | str (x:Str):DV K H (.str x) (.str x)
 | lst {a:Addr} {xs:List V} {ds:List PyData}:SqL K H a xs->DVs K H xs ds->DV K H (.ref a) (.list ds)
 | tup {a:Addr} {xs:List V} {ds:List PyData}:SqT K H a xs->DVs K H xs ds->DV K H (.ref a) (.tuple ds)
inductive DVs (K:PySem.W.Frag) (H:Hp):List V->List PyData->Prop
 | nil:DVs K H [] []
 | cons {v:V} {vs:List V} {d:PyData} {ds:List PyData}:DV K H v d->DVs K H vs ds->DVs K H (v::vs) (d::ds)
end
section
variable {X:Cx} {pins:List (Addr×Obj)} {σ:St} {H:Hp} {s:Shared}
mutual
theorem ZD (I:Inv X pins σ H s):∀ {v:V} {d:PyData} {u:Value},DV X.K H v d->RelV v u->∃ as,Reads s.heap u d as
 | _,_,u,.non,r=>by cases (show u=Value.none from r);exact ⟨_,.none⟩
 | _,_,u,.bl b,r=>by cases (show u=Value.bool b from r);exact ⟨_,.bool b⟩
 | _,_,u,.int i,r=>by obtain ⟨t,rfl⟩:=(show ∃ t,u=Value.int i t from r);exact ⟨_,.int i t⟩
 | _,_,u,.str x,r=>by obtain ⟨t,rfl⟩:=(show ∃ t,u=Value.str x t from r);exact ⟨_,.str x t⟩
 | _,_,u,.lst (a:=a) h q,r=>by
  cases (show u=Value.ref a from r);obtain ⟨its,rv,⟨o,n,e,c,d,f⟩,_⟩:=I.list h;obtain ⟨as,ra⟩:=Ym I q rv;exact ⟨_,.list e c f ra⟩
 | _,_,u,.tup (a:=a) h q,r=>by
  cases (show u=Value.ref a from r);obtain ⟨its,rv,⟨o,e,c,n,f⟩,_⟩:=I.tuple h;obtain ⟨as,ra⟩:=Ym I q rv;exact ⟨_,.tuple e c f ra⟩
theorem Ym (I:Inv X pins σ H s):∀ {vs:List V} {ds:List PyData} {us:List Value},DVs X.K H vs ds->Vals vs us->∃ as,ReadsAll s.heap us ds as
 | _,_,_,.nil,.nil=>⟨_,.nil⟩
 | _,_,_,.cons h q,.cons r rr=>by
  obtain ⟨as,ra⟩:=ZD I h r;obtain ⟨bs,rb⟩:=Ym I q rr;exact ⟨_,.cons ra rb⟩
end
end
section
variable {X:Cx}
def rEqD (K:PySem.W.Frag) (f:Bool->Bool):R2:=fun x y H Q=>∃ d e,DV K H x d/\DV K H y e/\d.canLay0=true/\e.canLay0=true/\d.depth<=64/\Q (.bl (f (d.eqv e))) H
theorem op_eqD (hu:X.A.units+64<cLine):OpR X (compareOp .Eq) (rEqD X.K id):=by
 intro pins s σ H x y v u Q I rx ry h;obtain ⟨d,e,hd,he,c1,c2,dp,q⟩:=h;obtain ⟨as,ra⟩:=ZD I hd rx;obtain ⟨bs,rb⟩:=ZD I he ry;exact SeqAt.compareEq_reads ra rb c1 c2 (by omega) ⟨.bl _,H,I,rfl,q⟩
theorem op_neD (hu:X.A.units+64<cLine):OpR X (compareOp .NotEq) (rEqD X.K not):=by
 intro pins s σ H x y v u Q I rx ry h;obtain ⟨d,e,hd,he,c1,c2,dp,q⟩:=h;obtain ⟨as,ra⟩:=ZD I hd rx;obtain ⟨bs,rb⟩:=ZD I he ry;exact SeqAt.compareNe_reads ra rb c1 c2 (by omega) ⟨.bl _,H,I,rfl,q⟩
end
def dI (ns:List Int):PyData:=.list (ns.map PyData.int)
theorem zgn {K:PySem.W.Frag} {H:Hp}:∀ {ns:List Int},DVs K H (ns.map V.int) (ns.map PyData.int)
 | []=>.nil
 | n::ns=>.cons (.int n) zgn
theorem ZQ {K:PySem.W.Frag} {H:Hp} {a:Addr} {ns:List Int} (h:SqL K H a (ns.map V.int)):DV K H (.ref a) (dI ns):=.lst h zgn
theorem Yu:∀ {ns:List Int},PyData.canLayAll0 (ns.map PyData.int)=true
 | []=>rfl
 | n::ns=>by
  rw [List.map_cons];show (PyData.canLay0 (.int n) && PyData.canLayAll0 (ns.map PyData.int))=true;rw [Yu];rfl
theorem xB {ns:List Int}:(dI ns).canLay0=true:=Yu
theorem ZU:∀ {ns:List Int},PyData.depthAll (ns.map PyData.int)<=1
 | []=>by decide
 | n::ns=>by
  have:=ZU (ns:=ns);rw [List.map_cons];show max (PyData.depth (.int n)) (PyData.depthAll (ns.map PyData.int))<=1;have e:PyData.depth (.int n)<=1:=by show _<=_;simp [PyData.depth]
  omega
end L2
namespace L2
open PySem
theorem dep_list {xs:List PyData} {n:Nat} (h:PyData.depthAll xs<=n):(PyData.list xs).depth<=n+1:=by
 have e:(PyData.list xs).depth=PyData.depthAll xs+1:=by first | rfl | (simp [PyData.depth];done) | (simp [PyData.depth];omega)
 omega
theorem dep_tup {xs:List PyData} {n:Nat} (h:PyData.depthAll xs<=n):(PyData.tuple xs).depth<=n+1:=by
 have e:(PyData.tuple xs).depth=PyData.depthAll xs+1:=by first | rfl | (simp [PyData.depth];done) | (simp [PyData.depth];omega)
 omega
theorem dep_nil {n:Nat}:PyData.depthAll []<=n:=by
 have e:PyData.depthAll []=0:=by first | rfl | simp [PyData.depthAll]
 omega
theorem Xd {x:PyData} {xs:List PyData} {n:Nat} (h:x.depth<=n) (h':PyData.depthAll xs<=n):PyData.depthAll (x::xs)<=n:=by
 have e:PyData.depthAll (x::xs)=max x.depth (PyData.depthAll xs):=by first | rfl | simp [PyData.depthAll]
 omega
theorem Xc {ns:List Int}:(dI ns).depth<=2:=dep_list ZU
end L2
namespace L2
open PySem PySem.Spec PyProof.Rows
theorem zE {K:PySem.W.Frag} {H H':Hp} {a:Addr} {xs:List V} (h:SqL K H a xs) (s:Same H H'):SqL K H' a xs:=by
 rcases h with h | h
 ·exact .inl (h.imp (fun z=>s _ _ z) fun ⟨o,z⟩=>⟨o,s _ _ z⟩)
 ·exact .inr h
theorem zo {H H':Hp} {a:Addr} {o:HO} (s:Same H H') (h:H a=none):Same H (upd H' a o):=fun c x z=>by rw [zm (zv z h)];exact s _ _ z
def cutI (cs:List Int) (a b:Int):List Int:=(cs.drop (min a.toNat cs.length)).take (min b.toNat cs.length-min a.toNat cs.length)
theorem zcw {n d:Nat} {a:Int} (h:0<=a):HT.sIx n d (some a)=min a.toNat n:=by
 show (if a<0 then (a+(n:Int)).toNat else min a.toNat n)=min a.toNat n;rw [if_neg (by omega)]
theorem zgq {cs:List Int} {a b:Int} (ha:0<=a) (hb:0<=b):cutV (cs.map V.int) (some a) (some b)=(cutI cs a b).map V.int:=by
 unfold cutV cutI;rw [zcw ha,zcw hb,List.length_map,← List.map_drop,← List.map_take]
theorem cutV_take {cs:List Int} {b:Int} (hb:0<=b):cutV (cs.map V.int) none (some b)=(cs.take b.toNat).map V.int:=by
 unfold cutV;rw [HT.sIx_none,zcw hb,List.length_map,List.drop_zero,Nat.sub_zero,← List.map_take];congr 1;rw [List.take_eq_take_iff];omega
theorem Xw {ns:List Int} {i:Nat} (h:i<ns.length):ns.take (i+1)=ns.take i++[ns.getD i 0]:=by
 rw [List.take_add_one,List.getD_eq_getElem?_getD,List.getElem?_eq_getElem h];rfl
theorem Xk {ns:List Int} {i:Nat} (h:i<ns.length):(ns.take (i+1)).sum=(ns.take i).sum+ns.getD i 0:=by
 have e:ns.take (i+1)=ns.take i++[ns.getD i 0]:=by
  rw [List.take_add_one,List.getD_eq_getElem?_getD,List.getElem?_eq_getElem h];rfl
 rw [e,List.sum_append];simp
theorem zfu {ns:List Int} (h:∀ v∈ns,0<=v):∀ (i:Nat),0<=(ns.take i).sum/\(ns.take i).sum<=ns.sum:=by
 induction ns with
 | nil=>intro i;simp
 | cons n ns ih =>
  intro i;have z:=h n List.mem_cons_self
  cases i with
  | zero =>
   have:=(ih (fun v hv=>h v (List.mem_cons_of_mem _ hv)) ns.length).1;rw [List.take_length] at this;simp;omega
  | succ i =>
   have:=ih (fun v hv=>h v (List.mem_cons_of_mem _ hv)) i;rw [List.take_succ_cons,List.sum_cons,List.sum_cons];omega
section
variable {P:Program} {w:World} {K:PySem.W.Frag} {mg:Str->Option Value} {base:Heap}
def z8 (K:PySem.W.Frag) (C:Addr) (x qual:Str) (st:Stmt) (ps:List Str):Prop:=∃ (f:Addr) (fd:FuncData),Meth K C x f/\Fun K x qual st f fd/\Binds K fd ps []
def OkM (P:Program) (w:World) (K:PySem.W.Frag) (mg:Str->Option Value) (base:Heap) (CX:CXT) (k:Nat) (C:Addr) (x:Str) (ps:List Str) (sp:Sp):Prop :=
 ∃ (f:Addr) (fd:FuncData),Meth K C x f/\Binds K fd ps []/\FnOk P w K mg base CX k f fd ps sp
def yN (K:PySem.W.Frag) (C:Addr) (qual:Str) (st:Stmt) (ps:List Str):Prop:=∃ (f:Addr) (fd:FuncData),Mk K C f/\Fun K "__init__" qual st f fd/\Binds K fd ps []
def OkI (P:Program) (w:World) (K:PySem.W.Frag) (mg:Str->Option Value) (base:Heap) (CX:CXT) (k:Nat) (C:Addr) (ps:List Str) (sp:Sp):Prop :=
 ∃ (f:Addr) (fd:FuncData),Mk K C f/\Binds K fd ps []/\FnOk P w K mg base CX k f fd ps sp
end
section
variable {X:Cx} {CX:CXT} {k:Nat} {C:Addr} {ps:List Str} {sp:Sp} {E:XK} {x m:Str} {p pos apos:Pos} {e o:Expr} {es:List Expr} {ta:TE} {t:TA}
theorem yt (h:OkM X.prog X.w X.K X.mg X.base CX k C m ps sp) (c:Cls X.K C) (hr:Room k X.A) (hx:xb CX X E) {pl:Sem Bool} (he:PE X o ta) (ha:PA X (e::es) t)
  (hst:starEach (e::es) X.env=(false,eval e X.env)::starEach es X.env:=by rfl) (hpl:(backTo pos (starEach es X.env)).any (·.1)=false:=by rfl)
  (ht:eval (.Call (.Attribute o m apos) (e::es) [] pos) X.env=(do
   let ov ← eval o X.env
   standAt apos.atName
   let (f,first) ← holding [ov] (getMethod ov m pl)
   callWith pos f first (backTo pos (starEach (e::es) X.env)) (backToKw pos (keywordEach [] X.env))):=by rfl) :
  PE X (.Call (.Attribute o m apos) (e::es) [] pos) (tMeth C m sp [] E ta t):=by
 obtain ⟨f,fd,a,b,d⟩:=h;exact pe_meth he c a d hr b .nil hx ha hst hpl ht
theorem pe_okM0 (h:OkM X.prog X.w X.K X.mg X.base CX k C m ps sp) (c:Cls X.K C) (hr:Room k X.A) (hx:xb CX X E) {pl:Sem Bool} (he:PE X o ta)
  (ht:eval (.Call (.Attribute o m apos) [] [] pos) X.env=(do
   let ov ← eval o X.env
   standAt apos.atName
   let (f,first) ← holding [ov] (getMethod ov m pl)
   callWith pos f first (backTo pos (starEach [] X.env)) (backToKw pos (keywordEach [] X.env))):=by rfl) :
  PE X (.Call (.Attribute o m apos) [] [] pos) (tMeth C m sp [] E ta tNil):=by
 obtain ⟨f,fd,a,b,d⟩:=h;exact pe_meth0 he c a d hr b .nil hx ht
theorem xK (h:OkI X.prog X.w X.K X.mg X.base CX k C ps sp) (hm:X.mg x=some (.ref C)) (hr:Room (k+1) X.A) (hg:Gl X x) (hx:xb CX X E) (ha:PA X (e::es) t) (hdb:(x == ("__debug__":Str))=false:=by decide)
  (he:starEach (e::es) X.env=(false,eval e X.env)::starEach es X.env:=by rfl) (hpl:(backTo pos (starEach es X.env)).any (·.1)=false:=by rfl):PE X (.Call (.Name x p) (e::es) [] pos) (tMake C sp [] E t):=by
 obtain ⟨f,fd,a,b,d⟩:=h;exact pe_make a d hr hg hm b .nil hx ha hdb he hpl
end
theorem rep_ints (n:Nat):(List.replicate n [V.int 0]).flatten=(List.replicate n (0:Int)).map V.int:=by
 induction n with
 | zero=>rfl
 | succ n ih=>rw [List.replicate_succ,List.flatten_cons,ih];rfl
theorem set_ints {ns:List Int} {j:Nat} {n:Int}:(ns.map V.int).set j (.int n)=(ns.set j n).map V.int:=by rw [List.map_set]
theorem ixN_nat {n:Nat} {i:Int} (h0:0<=i) (h1:i<n):ixN n i=some i.toNat:=by
 unfold ixN;rw [if_pos h0,if_pos h1]
structure Hd (B:Hp) (L:List (Addr×HO)) (H:Hp):Prop where
 nd:(L.map Prod.fst).Nodup
 nw:∀ p∈L,B p.1=none
 st:∀ p∈L,H p.1=some p.2
 sm:Same B H
namespace Hd
variable {B:Hp} {L:List (Addr×HO)} {H H':Hp} {a b:Addr} {o o':HO}
theorem base:Hd B [] B:=⟨List.nodup_nil,(fun _ h=>nomatch h),(fun _ h=>nomatch h),Same.refl B⟩
theorem get (h:Hd B L H) (i:Nat) (e:L[i]?=some (a,o)):H a=some o:=h.st _ (List.mem_of_getElem? e)
theorem same (h:Hd B L H) (s:Same H H'):Hd B L H':=⟨h.nd,h.nw,fun p m=>s _ _ (h.st p m),h.sm.trans s⟩
theorem new (h:Hd B L H) (n:H a=none):Hd B ((a,o)::L) (upd H a o):=by
 have ne:∀ p∈L,p.1≠a:=fun p m=>zv (h.st p m) n;refine ⟨List.nodup_cons.mpr ⟨fun m=>?_,h.nd⟩,fun p m=>?_,fun p m=>?_,zo h.sm (h.sm.free n)⟩
 ·obtain ⟨p,mp,e⟩:=List.mem_map.mp m
  exact ne p mp e
 ·rcases List.mem_cons.mp m with rfl | m
  ·exact h.sm.free n
  ·exact h.nw p m
 ·rcases List.mem_cons.mp m with rfl | m
  ·exact zh
  ·rw [zm (ne p m)];exact h.st p m
theorem fst_set (i:Nat) (e:L[i]?=some (a,o)):(L.set i (a,o')).map Prod.fst=L.map Prod.fst:=by
 rw [List.map_set];apply List.ext_getElem?;intro j;rw [List.getElem?_set]
 split
 ·rename_i q
  subst q
  split
  ·rw [List.getElem?_map,e];rfl
  ·rename_i q
   rw [List.getElem?_eq_none (by omega)]
 ·rfl
theorem ne (h:Hd B L H) (i j:Nat) (ei:L[i]?=some (a,o)) (ej:L[j]?=some (b,o')) (hij:i≠j):a≠b:=fun e=>by
 subst e;have h1:(L.map Prod.fst)[i]?=some a:=by rw [List.getElem?_map,ei];rfl
 have h2:(L.map Prod.fst)[j]?=some a:=by rw [List.getElem?_map,ej];rfl
 obtain ⟨b1,e1⟩:=List.getElem?_eq_some_iff.mp h1;obtain ⟨b2,e2⟩:=List.getElem?_eq_some_iff.mp h2
 have key:∀ (l:List Addr),l.Nodup->∀ (i j:Nat) (b1:i<l.length) (b2:j<l.length),l[i]=l[j]->i=j:=by
  intro l hl
  induction l with
  | nil=>intro i j b1;cases b1
  | cons x r ih =>
   intro i j b1 b2 q;have nr:=List.nodup_cons.mp hl
   cases i with
   | zero =>
    cases j with
    | zero=>rfl
    | succ j=>exact absurd (by rw [List.getElem_cons_zero,List.getElem_cons_succ] at q;rw [q];exact List.getElem_mem _) nr.1
   | succ i =>
    cases j with
    | zero=>exact absurd (by rw [List.getElem_cons_zero,List.getElem_cons_succ] at q;rw [← q];exact List.getElem_mem _) nr.1
    | succ j=>rw [List.getElem_cons_succ,List.getElem_cons_succ] at q;rw [ih nr.2 i j _ _ q]
 exact hij (key _ h.nd i j b1 b2 (e1.trans e2.symm))
theorem chg (h:Hd B L H) (i:Nat) (e:L[i]?=some (a,o)) (k:∀ c u,c≠a->H c=some u->H' c=some u) (q:H' a=some o'):Hd B (L.set i (a,o')) H':=by
 have nb:B a=none:=h.nw _ (List.mem_of_getElem? e);refine ⟨by rw [fst_set i e];exact h.nd,fun p m=>?_,fun p m=>?_,fun c u z=>k c u (zv z nb) (h.sm c u z)⟩
 ·rcases List.mem_or_eq_of_mem_set m with m | rfl
  ·exact h.nw p m
  ·exact nb
 ·obtain ⟨j,lt,ej⟩:=List.getElem_of_mem m
  have ej:(L.set i (a,o'))[j]?=some p:=by rw [List.getElem?_eq_getElem lt,ej]
  rw [List.getElem?_set] at ej
  split at ej
  ·split at ej
   ·cases ej;exact q
   ·cases ej
  ·rename_i hij
   obtain ⟨c,u⟩:=p;exact k c u (Ne.symm (h.ne i j e ej hij)) (h.get j ej)
theorem put (h:Hd B L H) (i:Nat) (e:L[i]?=some (a,o)):Hd B (L.set i (a,o')) (upd H a o'):=h.chg i e (fun c u n z=>by rw [zm n];exact z) zh
theorem sql (h:Hd B L H) {K:PySem.W.Frag} {xs:List V} (q:SqL K B a xs):SqL K H a xs:=zE q h.sm
theorem sqt (h:Hd B L H) {K:PySem.W.Frag} {xs:List V} (q:SqT K B a xs):SqT K H a xs:=by
 rcases q with (q | ⟨o,q⟩) | q
 ·exact .inl (.inl (h.sm _ _ q))
 ·exact .inl (.inr ⟨o,h.sm _ _ q⟩)
 ·exact .inr q
theorem lst (h:Hd B L H) {K:PySem.W.Frag} {xs:List V} (i:Nat) (e:L[i]?=some (a,.lst xs)):SqL K H a xs:=SqL.of (h.get i e)
theorem tup (h:Hd B L H) {K:PySem.W.Frag} {xs:List V} (i:Nat) (e:L[i]?=some (a,.tup xs)):SqT K H a xs:=SqT.of (h.get i e)
theorem sub {L':List (Addr×HO)} (h:Hd B L H) (s:List.Sublist L' L):Hd B L' H:=⟨h.nd.sublist (s.map _),fun p m=>h.nw p (s.subset m),fun p m=>h.st p (s.subset m),h.sm⟩
theorem tl {p:Addr×HO} (h:Hd B (p::L) H):Hd B L H:=h.sub (List.sublist_cons_self _ _)
theorem free (h:Hd B L H) (n:H a=none):B a=none:=h.sm.free n
theorem add (h:Hd B L H) (n:∀ p∈L,p.1≠a) (nb:B a=none) (e:H a=some o):Hd B ((a,o)::L) H:=by
 refine ⟨List.nodup_cons.mpr ⟨fun m=>?_,h.nd⟩,fun p m=>?_,fun p m=>?_,h.sm⟩
 ·obtain ⟨p,mp,e⟩:=List.mem_map.mp m
  exact n p mp e
 ·rcases List.mem_cons.mp m with rfl | m
  ·exact nb
  ·exact h.nw p m
 ·rcases List.mem_cons.mp m with rfl | m
  ·exact e
  ·exact h.st p m
theorem made {C x dx l:Addr} {ox ol:HO} (h:Hd B L H) (nx:H x=none) (ndx:H dx=none) (ne:dx≠x) (k:∀ b u,b≠x->upd (upd H dx (.own x)) x (.ins C dx []) b=some u->H' b=some u)
  (nl:upd (upd H dx (.own x)) x (.ins C dx []) l=none) (ex:H' x=some ox) (el:H' l=some ol):Hd B ((l,ol)::(x,ox)::(dx,.own x)::L) H':=by
 have h1:Hd B ((dx,.own x)::L) (upd H dx (.own x)):=h.new ndx;have h2:Hd B ((x,.ins C dx [])::(dx,.own x)::L) (upd (upd H dx (.own x)) x (.ins C dx [])):=h1.new (by rw [zm (Ne.symm ne)];exact nx);have h3:Hd B ((x,ox)::(dx,.own x)::L) H':=h2.chg 0 rfl k ex;refine h3.add (fun p m=>?_) (h2.free nl) el;rcases List.mem_cons.mp m with rfl | m
 ·exact zv (h2.get 0 rfl) nl
 ·exact zv (h2.st p (List.mem_cons_of_mem _ m)) nl
theorem made0 {C x dx:Addr} {ox:HO} (h:Hd B L H) (nx:H x=none) (ndx:H dx=none) (ne:dx≠x) (k:∀ b u,b≠x->upd (upd H dx (.own x)) x (.ins C dx []) b=some u->H' b=some u) (ex:H' x=some ox):Hd B ((x,ox)::(dx,.own x)::L) H':=by
 have h1:Hd B ((dx,.own x)::L) (upd H dx (.own x)):=h.new ndx;have h2:Hd B ((x,.ins C dx [])::(dx,.own x)::L) (upd (upd H dx (.own x)) x (.ins C dx [])):=h1.new (by rw [zm (Ne.symm ne)];exact nx);exact h2.chg 0 rfl k ex
theorem perm {B:Hp} {L L':List (Addr×HO)} {H:Hp} (h:Hd B L H) (p:L.Perm L'):Hd B L' H:=⟨(p.map Prod.fst).nodup h.nd,fun q m=>h.nw q (p.mem_iff.mpr m),fun q m=>h.st q (p.mem_iff.mpr m),h.sm⟩
end Hd
section
variable {X:Cx} {st:Stmt} {t:TS} {e:Expr} {te:TE}
def tMid (t:TS):TS:=fun D σ H=>∃ M:St->Hp->Prop,t { D with nx:=M } σ H/\∀ σ' H',M σ' H'->D.nx σ' H'
theorem x8 (h:PS X st t):PS X st (tMid t):=by
 intro pins s σ H D I q;obtain ⟨M,q,k⟩:=q;refine thn (h pins s σ H _ I q) fun f s1 z=>?_
 cases f with
 | next=>exact let ⟨σ',H',I',z⟩:=z;⟨σ',H',I',k _ _ z⟩
 | ret v=>exact z
 | brk=>exact z
 | cont=>exact z
end
def but (H:Hp) (ls:List Addr):Hp:=fun b=>if b∈ls then none else H b
theorem but_none {H:Hp} {ls:List Addr} {b:Addr} (h:b∈ls):but H ls b=none:=by unfold but;rw [if_pos h]
theorem but_of {H:Hp} {ls:List Addr} {b:Addr} {o:HO} (h:H b=some o) (n:b ∉ ls):but H ls b=some o:=by unfold but;rw [if_neg n];exact h
theorem but_sub {H:Hp} {ls:List Addr}:Same (but H ls) H:=fun b o z=>by
 unfold but at z
 split at z
 ·cases z
 ·exact z
namespace Hd
variable {B B':Hp} {L:List (Addr×HO)} {H H':Hp} {a:Addr} {o:HO}
theorem into (h:Hd B [(a,o)] H):Same B (but H [a]):=fun b u z=>but_of (h.sm _ _ z) (by
 intro q;have q:=List.mem_singleton.mp q;subst q;rw [h.nw _ (List.mem_singleton.mpr rfl)] at z;cases z)
end Hd
section
variable {X:Cx} {pins:List (Addr×Obj)} {σ σ':St} {H H':Hp} {s s':Shared} {a:Addr} {xs:List V}
end
namespace Hd
variable {B:Hp} {L L':List (Addr×HO)} {H:Hp}
theorem split (h:Hd B L H) (s:List.Sublist L' L):Same B (but H (L'.map Prod.fst))/\Hd (but H (L'.map Prod.fst)) L' H:=by
 refine ⟨fun b o z=>but_of (h.sm _ _ z) fun m=>?_,(h.sub s).nd,fun p m=>but_none (List.mem_map_of_mem m),(h.sub s).st,but_sub⟩;obtain ⟨p,mp,e⟩:=List.mem_map.mp m;have:=h.nw p (s.subset mp);rw [e] at this;rw [this] at z;cases z
end Hd
section
variable {X:Cx} {tg:Expr}
end
section
variable {X:Cx}
end
section
variable {X:Cx} {pins:List (Addr×Obj)} {σ σ':St} {H H':Hp} {s s':Shared} {a:Addr} {xs:List V}
end
theorem vals_len {vs:List V} {us:List Value} (h:Vals vs us):us.length=vs.length:=by
 induction h with
 | nil=>rfl
 | cons _ _ ih=>rw [List.length_cons,List.length_cons,ih]
section
variable {X:Cx}
end
section
variable {X:Cx} {pins:List (Addr×Obj)} {σ:St} {H:Hp} {s:Shared}
end
section
variable {prog:Program} {w:World} {A:Around} {E:Value->Shared->Prop} {s:Shared}
end
section
variable {X:Cx} {pos:Pos}
def rAnyB (K:PySem.W.Frag):List V->Hp->VK->Prop:=fun xs H Q=>∃ (p:Addr) (bs:List Bool),xs=[.ref p]/\SqL K H p (bs.map V.bl)/\Q (.bl (bs.any id)) H
theorem bools_at {bs:List Bool} {us:List Value} (h:Vals (bs.map V.bl) us) (i:Nat) (v:Value) (e:us[i]?=some v):∃ b,bs[i]?=some b/\v=.bool b:=by
 induction bs generalizing us i with
 | nil=>cases h;cases e
 | cons b bs ih =>
  cases h with
  | cons r rr =>
   cases i with
   | zero=>cases (show _=Value.bool b from r);cases (show some _=some v from e);exact ⟨b,rfl,rfl⟩
   | succ i=>exact ih rr i e
theorem zg6 (bs:List Bool):((List.range bs.length).any fun i=>(bs[i]?).getD false)=bs.any id:=by
 induction bs with
 | nil=>rfl
 | cons n ns ih =>
  rw [List.length_cons,List.range_succ_eq_map,List.any_cons,List.any_map,List.any_cons,← ih];rfl
theorem call_anyB (hc:X.calm=true):ZG X (.builtin "any") (rAnyB X.K):=by
 intro pins s σ H xs us Q I r h;obtain ⟨p,bs,rfl,hp,q⟩:=h;obtain ⟨u,rfl,ru⟩:=r.one;cases (show u=Value.ref p from ru);obtain ⟨its,rv,pl,_⟩:=I.list hp;have hl:=pl.isList;have hlt:p<s.heap.objs.size:=by obtain ⟨_,e,_⟩:=hl;exact Heap.lt_size e
 refine call_any_walk (wpAny_pyIter_list hl ?_)
 refine ⟨s.heap.objs.size,[s.heap.objs.size,p],[s.heap.objs.size],its.toArray.size,_,_,fun i=>(bs[i]?).getD false,rfl,Walks.list (A:=X.A.in1) (I.ok.hd hc) _ p (Nat.ne_of_lt hlt) its.toArray,
  ⟨⟨_,Heap.get?_push_size _ rfl,rfl,rfl⟩,hl.push _⟩,fun i v s' Q' E' hP hQ=>?_,fun h' tk hk=>?_⟩
 ·obtain ⟨n,e,rfl⟩:=bools_at rv i v (by simpa using hP)
  simp only [e,Option.getD_some] at hQ;exact wpAny_truthy_bool hQ
 ·have ek:((List.range its.toArray.size).any fun i=>(bs[i]?).getD false)=bs.any id:=by
   have:=vals_len rv;rw [List.length_map] at this;rw [List.size_toArray,this];exact zg6 bs
  rw [ek];exact ⟨.bl _,H,I.kept fun b o e=>hk b o (fun hm=>by rw [List.mem_singleton.mp hm] at e;exact Nat.lt_irrefl _ (Heap.lt_size e)) (Heap.get?_push_of_some _ e),rfl,q⟩
end
section
variable {X:Cx} {pins:List (Addr×Obj)} {σ:St} {H:Hp} {s:Shared} {h':Heap}
theorem Inv.turnedT {its:List Addr} {T:Addr} {o:HO} {t':Nat} (I:Inv X pins σ H s) (k:∀ b u,b ∉ its->s.heap.get? b=some u->h'.get? b=some u) (hf:∀ b∈its,ZF X pins H b) (hT:s.heap.objs.size<=T) (new:ObjOk X.prog X.w (upd H T o) h' T o) :
  Inv X pins σ (upd H T o) { s with heap:=h',toks:=t' }:=by
 have fr:=I.hok.fresh hT;have neT:∀ {b:Addr} {u:Obj},s.heap.get? b=some u->b≠T:=fun e=>Nat.ne_of_lt (Nat.lt_of_lt_of_le (Heap.lt_size e) hT);have ni:∀ {b:Addr} {u:HO},H b=some u->b ∉ its:=fun e m=>by rw [(hf _ m).1] at e;cases e
 refine I.step (g':=s.gens) (d':=s.drawn) (ch:=its) (fun b hb=>?_) (fun b u _ _ hc e _=>k b u hc e) (fun b u _ _ hc e _=>⟨u.slots,k b u hc e⟩) (fun b u _ e n=>by rw [zm (neT e)];exact n)
  (fun b u hc e=>⟨u,k b u hc e⟩) (fun b ys e=>by rw [zm (zv e fr)];exact e) (fun b u v e=>by rw [zm (zv e fr)];exact e) (fun b ps e=>⟨#[],by rw [zm (zv e fr),e];simp⟩) (fun m hm=>?_) (fun b u e=>?_) I.bare
 ·obtain ⟨_,f1,_,f3,f4,f5⟩:=hf b hb
  exact ⟨f3,f1,f4,f5⟩
 ·obtain ⟨ob,es,ep,ho,r⟩:=hm
  exact ⟨ob,es,ep,k _ ob (fun m=>(hf _ m).2.1 rfl) ho,r⟩
 ·by_cases hb:b=T
  ·subst hb;rw [zh] at e;cases e;exact new
  ·rw [zm hb] at e
   refine (I.hok b u e).stay (fun c v hc q=>k c v ?_ q) (fun c q=>by rw [zm (zv q fr)];exact q) fun c ys q=>by rw [zm (zv q fr)];exact q
   rcases hc with z | z
   ·rw [z];exact ni e
   ·exact ni z
theorem Inv.turnedL {its:List Addr} {t':Nat} (I:Inv X pins σ H s) (k:∀ b u,b ∉ its->s.heap.get? b=some u->h'.get? b=some u) (hf:∀ b∈its,ZF X pins H b):Inv X pins σ H { s with heap:=h',toks:=t' }:=by
 have ni:∀ {b:Addr} {u:HO},H b=some u->b ∉ its:=fun e m=>by rw [(hf _ m).1] at e;cases e
 refine I.step (g':=s.gens) (d':=s.drawn) (ch:=its) (fun b hb=>?_) (fun b u _ _ hc e _=>k b u hc e) (fun b u _ _ hc e _=>⟨u.slots,k b u hc e⟩) (fun _ _ _ _ n=>n)
  (fun b u hc e=>⟨u,k b u hc e⟩) (fun _ _ e=>e) (fun _ _ _ e=>e) (fun b ps e=>⟨#[],by rw [e];simp⟩) (fun m hm=>?_) (fun b u e=>?_) I.bare
 ·obtain ⟨_,f1,_,f3,f4,f5⟩:=hf b hb
  exact ⟨f3,f1,f4,f5⟩
 ·obtain ⟨ob,es,ep,ho,r⟩:=hm
  exact ⟨ob,es,ep,k _ ob (fun m=>(hf _ m).2.1 rfl) ho,r⟩
 ·refine (I.hok b u e).stay (fun c v hc q=>k c v ?_ q) (fun _ q=>q) fun _ _ q=>q
  rcases hc with z | z
  ·rw [z];exact ni e
  ·exact ni z
end
def Itz (K:PySem.W.Frag) (l1 l2:Addr):It :=
  ⟨fun i H=>∃ xs ys x y,SqL K H l1 xs/\SqL K H l2 ys/\xs[i]?=some x/\ys[i]?=some y,
   fun i H x H'=>∃ T u v,x=.ref T/\H T=none/\H'=upd H T (.tup [u,v])/\∀ xs ys,SqL K H l1 xs->SqL K H l2 ys->xs[i]?=some u/\ys[i]?=some v,
   fun i H=>∃ xs ys,SqL K H l1 xs/\SqL K H l2 ys/\(xs.length<=i∨ys.length<=i)⟩
theorem turn_zip {P:Program} {w:World} {K:PySem.W.Frag} {es:List Expr} {kt:Nat} {pos:Pos} {z TI TO i1 i2 l1 l2:Addr} (D:ZipApart z TI TO i1 i2 l1 l2) :
  Turn P w K (.Tuple es kt pos) (Itz K l1 l2) [z,TI,TO,i1,i2] z (fun i h=>IsZip h z TI TO .none/\IsPair h TI (.ref i1) (.ref i2)/\(∃ a b,IsPair h TO a b)/\h.IsListIter i1 l1 i/\h.IsListIter i2 l2 i) where
 mem:=by simp
 obj:=fun i h st b hb=>by
  obtain ⟨hz,hI,⟨a,b',hO⟩,⟨o1,e1,c1,d1⟩,⟨o2,e2,c2,d2⟩⟩:=st;simp at hb;rcases hb with rfl | rfl | rfl | rfl | rfl
  ·exact ⟨_,hz,fun v q=>by cases q⟩
  ·exact ⟨_,hI,fun v q=>by cases q⟩
  ·exact ⟨_,hO,fun v q=>by cases q⟩
  ·exact ⟨_,e1,fun v q=>by rw [d1] at q;cases q⟩
  ·exact ⟨_,e2,fun v q=>by rw [d2] at q;cases q⟩
 keep:=fun i h h' st k=>by
  obtain ⟨hz,hI,⟨a,b',hO⟩,h1,h2⟩:=st;exact ⟨k z (by simp) _ hz,k TI (by simp) _ hI,⟨a,b',k TO (by simp) _ hO⟩,h1.at fun o e=>k i1 (by simp) o e,h2.at fun o e=>k i2 (by simp) o e⟩
 item:=by
  intro X hP hw hK hc i pins s σ H E I hf st hg;subst hP hw hK;obtain ⟨hz,hI,⟨a,b',hO⟩,h1,h2⟩:=st;obtain ⟨xs,ys,x,y,q1,q2,ex,ey⟩:=hg;obtain ⟨is1,r1,p1,_⟩:=I.list q1;obtain ⟨is2,r2,p2,_⟩:=I.list q2;obtain ⟨u,hu,ru⟩:=r1.get ex;obtain ⟨v,hv,rv⟩:=r2.get ey;refine wpAny_pyNext_zip_item D hz hI hO h1 h2 p1.isList p2.isList (x:=u) (y:=v) (by simpa using hu) (by simpa using hv) fun h1' a1 a2 a3 a4 a5 a6 hk=>?_;refine ⟨_,rfl,wpAny_letOwnedTupleGo_zip (s:={ s with heap:=h1' }) a1 fun h2' z' sb=>?_⟩;have lt:∀ {c:Addr} {o:Obj},s.heap.get? c=some o->c≠s.heap.objs.size:=fun e=>Nat.ne_of_lt (Heap.lt_size e);have Tz:s.heap.objs.size≠z:=(lt hz).symm;have fr:=I.hok.fresh (Nat.le_refl _);refine ⟨.ref s.heap.objs.size,upd H s.heap.objs.size (.tup [x,y]),I.turnedT (its:=[z,TI,TO,i1,i2]) (t':=s.toks) (fun b o nb e=>?_) hf (Nat.le_refl _) ⟨by show 2<=sizeLine;decide,[u,v],.cons ru (.cons rv .nil),_,sb.extBut _ _ Tz a5,rfl,_,rfl⟩,rfl,⟨s.heap.objs.size,x,y,rfl,fr,rfl,fun xs' ys' q1' q2'=>?_⟩,?_,fun b hb=>?_⟩
  ·have nb':b≠z/\b≠TI/\b≠TO/\b≠i1/\b≠i2:=by simpa using nb
   exact sb.extBut _ _ nb'.1 (hk b o nb'.1 nb'.2.2.1 nb'.2.2.2.1 nb'.2.2.2.2 e)
  ·rw [I.list_inj q1' q1,I.list_inj q2' q2];exact ⟨ex,ey⟩
  ·exact ⟨z',sb.extBut _ _ D.TIz (hk _ _ D.TIz D.TITO D.TIi1 D.TIi2 hI),⟨_,_,sb.extBut _ _ D.TOz a2⟩,a3.extBut sb.extBut D.i1z,a4.extBut sb.extBut D.i2z⟩
  ·have e:=(hf b hb).1
   have:∃ o,s.heap.get? b=some o:=by
    simp at hb;rcases hb with rfl | rfl | rfl | rfl | rfl
    ·exact ⟨_,hz⟩
    ·exact ⟨_,hI⟩
    ·exact ⟨_,hO⟩
    ·obtain ⟨o,e,_⟩:=h1;exact ⟨o,e⟩
    ·obtain ⟨o,e,_⟩:=h2;exact ⟨o,e⟩
   obtain ⟨o,eo⟩:=this;rw [zm (lt eo)];exact e
 done:=by
  intro X hP hw hK hc i pins s σ H E I hf st hg;subst hP hw hK;obtain ⟨hz,hI,⟨a,b',hO⟩,h1,h2⟩:=st;obtain ⟨xs,ys,q1,q2,le⟩:=hg;obtain ⟨is1,r1,p1,_⟩:=I.list q1;obtain ⟨is2,r2,p2,_⟩:=I.list q2;have g1:=r1.length;have g2:=r2.length;refine wpAny_pyNext_zip_end (I.ok.hd hc) D hz hI hO h1 h2 p1.isList p2.isList (by rcases le with le | le;exact .inl (by simp;omega);exact .inr (by simp;omega)) fun h1' hk=>⟨rfl,I.turnedL (its:=[z,TI,TO,i1,i2]) (t':=s.toks) (fun b o nb e=>?_) hf⟩;have nb':b≠z/\b≠TI/\b≠TO/\b≠i1/\b≠i2:=by simpa using nb
  exact hk b o nb'.1 nb'.2.2.1 nb'.2.2.2.1 nb'.2.2.2.2 e
 self:=fun _ _ _ _ _ st h=>wpAny_pyIter_zip st.1 h
section
variable {X:Cx} {es:List Expr} {kt:Nat} {tp:Pos}
def iZip (K:PySem.W.Frag) (ta:TA):TI:=fun σ H R=>ta σ H fun vs H1=>∃ l1 l2,vs=[.ref l1,.ref l2]/\(∃ xs,SqL K H1 l1 xs)/\(∃ ys,SqL K H1 l2 ys)/\R (Itz K l1 l2) H1
theorem pi_zip {a b:Expr} {ta:TA} {p pos:Pos} (hg:Gl X "zip") (hm:X.mg "zip"=none) (ha:PA X [a,b] ta) (hs:starEach [a,b] X.env=[(false,eval a X.env),(false,eval b X.env)]:=by rfl)
  (hs2:starEach [b] X.env=[(false,eval b X.env)]:=by rfl):PI X (.Tuple es kt tp) (.Call (.Name "zip" p) [a,b] [] pos) (iZip X.K ta):=by
 intro pins s σ H R I h;refine Call_ (ZB I hg hm boot_zip (PyProof.Rows.callWith_type1 (thn (ha pos pins s σ H _ I h) fun us s1 ⟨vs,H1,I1,r1,q1⟩=>?_) (by rw [hs,hs2]) (by rw [hs2];rfl)));obtain ⟨l1,l2,e,⟨xs,x1⟩,⟨ys,x2⟩,q⟩:=q1;subst e;obtain ⟨u,v,rfl,ru,rv⟩:=vals2 r1;cases (show u=Value.ref l1 from ru);cases (show v=Value.ref l2 from rv);obtain ⟨is1,g1,p1,_⟩:=I1.list x1;obtain ⟨is2,g2,p2,_⟩:=I1.list x2;have L1:l1<s1.heap.objs.size:=by obtain ⟨_,e,_⟩:=p1.isList;exact Heap.lt_size e
 have L2:l2<s1.heap.objs.size:=by obtain ⟨_,e,_⟩:=p2.isList;exact Heap.lt_size e
 refine call_zip_2 p1.isList p2.isList fun h' a1 a2 a3 a4 a5 a6 hk=>?_;refine wpAny_pyIter_zip (s:={ s1 with heap:=h' }) a1 ?_;have J:Inv X pins σ H1 { s1 with heap:=h' }:=I1.kept (t':=s1.toks) fun b o e=>hk b o e;have fp:∀ n,ZF X pins H1 (s1.heap.objs.size+n):=fun n=>I1.fpOk (Nat.le_add_right _ _) (I1.hok.fresh (Nat.le_add_right _ _));refine ⟨_,_,_,_,H1,rfl,J,turn_zip (zipApart_new L1 L2),⟨a1,a2,⟨_,_,a3⟩,a4,a5⟩,fun b hb=>?_,q⟩;simp at hb;rcases hb with rfl | rfl | rfl | rfl | rfl
 ·exact fp 4
 ·exact fp 2
 ·exact fp 3
 ·exact fp 0
 ·exact fp 1
end
theorem for_zip {K:PySem.W.Frag} {l1 l2:Addr} {xs ys:List V} {g:TG} {tb:TS} {D:Ends} {σ:St} {H:Hp} (Pv:Nat->St->Hp->Prop) (h0:Pv 0 σ H) (hl:∀ i σ H,i<=xs.length->Pv i σ H->SqL K H l1 xs/\SqL K H l2 ys) (he:ys.length=xs.length)
  (hs:∀ i x y σ H T,xs[i]?=some x->ys[i]?=some y->Pv i σ H->H T=none->g (.ref T) σ (upd H T (.tup [x,y])) fun σ2 H2=>tb { D with nx:=Pv (i+1),ct:=Pv (i+1),bk:=D.nx } σ2 H2) (hd:∀ σ H,Pv xs.length σ H->D.nx σ H) :
  ∃ W:Nat->Nat->St->Hp->Prop,(∃ m,W 0 m σ H)/\∀ i m σ H,W i m σ H ->
   ((Itz K l1 l2).stop i H/\D.nx σ H)∨((Itz K l1 l2).go i H/\∃ N:St->Hp->Prop,(∀ σ' H',N σ' H'->∃ m',m'<m/\W (i+1) m' σ' H')/\∀ x H',(Itz K l1 l2).yld i H x H'->g x σ H' fun σ2 H2=>tb { D with nx:=N,ct:=N,bk:=D.nx } σ2 H2):=by
 refine ⟨fun i m σ H=>m=xs.length-i/\i<=xs.length/\Pv i σ H,⟨xs.length,by simp,Nat.zero_le _,h0⟩,?_⟩;rintro i m σ H ⟨rfl,hi,p⟩;obtain ⟨q1,q2⟩:=hl i σ H hi p;by_cases hlt:i<xs.length
 ·refine .inr ⟨⟨xs,ys,xs[i],ys[i],q1,q2,by simp [hlt],by simp [he,hlt]⟩,Pv (i+1),fun σ' H' p'=>⟨xs.length-(i+1),by omega,rfl,hlt,p'⟩,fun x H' y=>?_⟩
  obtain ⟨T,u,v,e,nT,e',y⟩:=y;subst e e';obtain ⟨y1,y2⟩:=y xs ys q1 q2;exact hs i u v σ H T y1 y2 p nT
 ·have e:i=xs.length:=by omega
  subst e;exact .inl ⟨⟨xs,ys,q1,q2,.inl (Nat.le_refl _)⟩,hd σ H p⟩
section
variable (P:Program) (w:World)
end
section
variable {P:Program} {w:World} {H H':Hp} {h h':Heap} {a:Addr} {o:HO}
end
section
variable {P:Program} {w:World} {H:Hp} {h h':Heap} {x e:Addr} {o':HO}
end
section
variable {fs fs' ex ex':List Addr} {H H1 H2:Hp} {h h1 h2 h':Heap} {a x e:Addr} {o:HO}
end
section
variable {X:Cx} {pins:List (Addr×Obj)} {σ:List (Option V)} {H H':Hp} {s:Shared} {h':Heap}
end
section
variable {X:Cx}
variable {a b:Expr} {ta tb:TE} {pos:Pos}
variable {tA tB':TT} {rest:List Expr}
end
section
variable {X:Cx} {pins:List (Addr×Obj)} {σ:St} {H:Hp} {s:Shared} {a:Addr} {xs ys:List V}
end
section
variable {X:Cx} {pins:List (Addr×Obj)} {σ:St} {H:Hp} {s:Shared} {E:Value->Shared->Prop}
end
section
variable {X:Cx} {st:Stmt} {rest:List Stmt} {t u:TS} {e:Expr} {te:TE} {pos:Pos}
end
section
variable {X:Cx} {pos:Pos}
end
section
variable {X:Cx} {tg:Expr}
end
section
variable {X:Cx} {a b c:Expr} {ta tb tc:TE} {pos:Pos}
end
section
variable {prog:Program} {w:World} {A:Around} {E:Value->Shared->Prop} {s:Shared} {K:PySem.W.Frag} {x dx C f:Addr} {mA:Str->Option Value} {name:Str} {v:Value}
end
section
variable {P:Program} {w:World} {H H':Hp} {h h':Heap} {a C dx:Addr} {fs fs':List (Str×V)}
end
section
variable {X:Cx} {pins:List (Addr×Obj)} {σ:St} {H:Hp} {s:Shared} {a C dx:Addr} {fs:List (Str×V)} {f:Str} {v:V} {A:Around} {E:Value->Shared->Prop}
end
section
variable {X:Cx} {o e value:Expr} {f:Str} {pos pos' tpos:Pos} {ta tv:TE}
end
section
variable {X:Cx} {pins:List (Addr×Obj)} {σ:St} {H:Hp} {s:Shared} {A:Around} {E:Value->Shared->Prop} {Q:Value->Shared->Prop} {c:Value} {b:Bool}
end
section
variable {X:Cx} {e:Expr} {es:List Expr} {te:TE} {t:TA} {pos:Pos}
end
section
variable {X:Cx} {pins:List (Addr×Obj)} {σ:St} {H:Hp} {s s':Shared}
end
section
variable {X:Cx} {CX:CXT} {k:Nat} {f C:Addr} {fd:FuncData} {ps:List Str} {sp:Sp} {dvs:List V} {ds:List Value} {E:XK} {x m:Str} {p pos apos:Pos} {e o:Expr} {es:List Expr} {ta:TE} {t:TA}
end
section
variable {X:Cx} {CX:CXT} {k:Nat} {f C:Addr} {fd:FuncData} {ps ks:List Str} {sp:Sp} {E:XK} {x m:Str} {p pos apos kpos:Pos} {e o:Expr} {es:List Expr} {kws:List Keyword} {te ta:TE} {t tk:TA} {nm:Option Str}
variable {g:List Value->List Value->List Value} {gV:List V->List V->List V}
end
section
variable {X:Cx} {x:Str} {p pos:Pos} {e:Expr} {es:List Expr} {t:TA} {id T:String} {r:List V->Hp->VK->Prop}
end
section
variable {κ:Type} [DecidableEq κ]
def y8 (kvs:List (κ×V)) (k:κ):Option V:=(kvs.find? fun kv=>decide (kv.1=k)).map (·.2)
def putK (kvs:List (κ×V)) (k:κ) (v:V):List (κ×V) :=
 if (kvs.any fun kv=>decide (kv.1=k))=true then kvs.map (fun kv=>if kv.1=k then (kv.1,v) else kv) else kvs++[(k,v)]
theorem yP {p:κ×V} {r:List (κ×V)} {k:κ} (e:p.1=k):y8 (p::r) k=some p.2:=by simp [y8,List.find?_cons,e]
theorem yQ {p:κ×V} {r:List (κ×V)} {k:κ} (e:¬ p.1=k):y8 (p::r) k=y8 r k:=by simp [y8,List.find?_cons,e]
theorem YH (k:κ):∀ kvs:List (κ×V),(kvs.any fun kv=>decide (kv.1=k))=(y8 kvs k).isSome
 | []=>rfl
 | p::r=>by
  rw [List.any_cons];by_cases e:p.1=k
  ·simp only [yP e,decide_eq_true e,Bool.true_or,Option.isSome_some]
  ·rw [yQ e,decide_eq_false e,Bool.false_or];exact YH k r
theorem zfn (k j:κ) (y:V):∀ kvs:List (κ×V),y8 (kvs.map fun kv=>if kv.1=k then (kv.1,y) else kv) j=(y8 kvs j).map fun x=>if j=k then y else x
 | []=>rfl
 | p::r=>by
  have ih:=zfn k j y r;rw [List.map_cons];by_cases h:p.1=k
  ·rw [if_pos h]
   by_cases e:p.1=j
   ·rw [yP (p:=(p.1,y)) e,yP e,Option.map_some,if_pos (e.symm.trans h)]
   ·rw [yQ (p:=(p.1,y)) e,yQ e,ih]
  ·rw [if_neg h]
   by_cases e:p.1=j
   ·rw [yP (p:=p) e,yP e,Option.map_some,if_neg (fun z=>h (e.trans z))]
   ·rw [yQ (p:=p) e,yQ e,ih]
theorem Xv (k j:κ) (y:V):∀ kvs:List (κ×V),y8 kvs k=none->y8 (kvs++[(k,y)]) j=if j=k then some y else y8 kvs j
 | [],_=>by
  by_cases e:k=j
  ·rw [if_pos e.symm];exact yP (p:=(k,y)) e
  ·rw [if_neg (fun z=>e z.symm)];exact yQ (p:=(k,y)) e
 | p::r,hn=>by
  rw [List.cons_append];have hk:¬ p.1=k:=fun z=>by rw [yP z] at hn;cases hn
  rw [yQ hk] at hn;have ih:=Xv k j y r hn;by_cases e:p.1=j
  ·rw [yP e,yP e,if_neg (fun z=>hk (e.trans z))]
  ·rw [yQ e,yQ e,ih]
theorem YG (kvs:List (κ×V)) (k j:κ) (y:V):y8 (putK kvs k y) j=if j=k then some y else y8 kvs j:=by
 unfold putK;by_cases a:(kvs.any fun kv=>decide (kv.1=k))=true
 ·rw [if_pos a,zfn]
  rw [YH] at a;by_cases e:j=k
  ·obtain ⟨x,hx⟩:=Option.isSome_iff_exists.mp a
   rw [if_pos e,e,hx,Option.map_some,if_pos rfl]
  ·rw [if_neg e]
   cases y8 kvs j with
   | none=>rfl
   | some x=>rw [Option.map_some,if_neg e]
 ·rw [if_neg a]
  refine Xv k j y kvs ?_;rw [YH] at a
  cases q:y8 kvs k with
  | none=>rfl
  | some x=>rw [q] at a;exact (a rfl).elim
theorem zgk (kvs:List (κ×V)) (k:κ) (v:V):(putK kvs k v).length<=kvs.length+1:=by
 unfold putK
 split
 ·rw [List.length_map];omega
 ·rw [List.length_append,List.length_cons,List.length_nil];omega
theorem RelO.isSome_eq {o:Option V} {u:Option Value} (r:RelO o u):o.isSome=u.isSome:=by
 cases o with
 | none=>cases u with
  | none=>rfl
  | some _=>exact (show False from r).elim
 | some _=>cases u with
  | none=>exact (show False from r).elim
  | some _=>rfl
theorem RelO.getD {o:Option V} {u:Option Value} {d:V} {d':Value} (r:RelO o u) (rd:RelV d d'):RelV (o.getD d) (u.getD d'):=by
 cases o with
 | none=>cases u with
  | none=>exact rd
  | some _=>exact (show False from r).elim
 | some _=>cases u with
  | none=>exact (show False from r).elim
  | some _=>exact r
theorem KV.val {kvs:List (κ×V)} {vs:List (κ×Value)} (r:KV kvs vs) (k:κ):RelO (y8 kvs k) (valueAt vs k):=by
 unfold KV at r
 induction r with
 | nil=>exact True.intro
 | @cons p q ps qs h t ih =>
  obtain ⟨h1,h2⟩:=h;by_cases e:p.1=k
  ·have e':q.1=k:=h1.symm.trans e
   have b:valueAt (q::qs) k=some q.2:=by simp [valueAt,List.find?_cons,e']
   rw [yP e,b];exact h2
  ·have e':¬ q.1=k:=fun z=>e (h1.trans z)
   have b:valueAt (q::qs) k=valueAt qs k:=by simp [valueAt,List.find?_cons,e']
   rw [yQ e,b];exact ih
theorem KV.any {kvs:List (κ×V)} {vs:List (κ×Value)} (r:KV kvs vs) (k:κ):(kvs.any fun kv=>decide (kv.1=k))=vs.any fun kv=>decide (kv.1=k):=by
 unfold KV at r
 induction r with
 | nil=>rfl
 | cons h t ih=>rw [List.any_cons,List.any_cons,ih,h.1]
theorem KV.repl {kvs:List (κ×V)} {vs:List (κ×Value)} (r:KV kvs vs) (k:κ) {y:V} {u:Value} (ry:RelV y u) :
  KV (kvs.map fun kv=>if kv.1=k then (kv.1,y) else kv) (vs.map fun kv=>if kv.1=k then (kv.1,u) else kv):=by
 unfold KV at r ⊢
 induction r with
 | nil=>exact .nil
 | @cons p q ps qs h t ih =>
  rw [List.map_cons,List.map_cons];refine .cons ?_ ih;obtain ⟨h1,h2⟩:=h;by_cases e:p.1=k
  ·rw [if_pos e,if_pos (h1.symm.trans e)];exact ⟨h1,ry⟩
  ·rw [if_neg e,if_neg (fun z=>e (h1.trans z))];exact ⟨h1,h2⟩
theorem KV.put {kvs:List (κ×V)} {vs:List (κ×Value)} (r:KV kvs vs) (k:κ) {y:V} {u:Value} (ry:RelV y u):KV (putK kvs k y) (stored vs k u):=by
 unfold putK stored;rw [r.any k];by_cases e:(vs.any fun kv=>decide (kv.1=k))=true
 ·rw [if_pos e,if_pos e];exact r.repl k ry
 ·rw [if_neg e,if_neg e];exact Paired.snoc r ⟨rfl,ry⟩
theorem KV.length {kvs:List (κ×V)} {vs:List (κ×Value)} (r:KV kvs vs):kvs.length=vs.length:=Paired.length r
end
theorem kV_is {P:Program} {w:World} {k:Key} {u:Value} (r:RelV (kV k) u):(yc P w).is k u=true:=by
 cases k with
 | inl i=>obtain ⟨t,e⟩:=(show ∃ t,u=Value.int i t from r);subst e;exact zgi P w i t
 | inr x=>obtain ⟨t,e⟩:=(show ∃ t,u=Value.str x t from r);subst e;exact zgh P w x t
theorem XH {P:Program} {w:World}:∀ {ks:List Key} {us:List Value},Vals (ks.map kV) us->ItemsAre (yc P w) ks us
 | [],_,r=>by rw [List.map_nil] at r;cases r;exact .nil
 | k::ks,_,r=>by
  rw [List.map_cons] at r
  cases r with
  | cons h t=>exact .cons (kV_is h) (XH t)
abbrev KT (H:Hp):List (List Key×V)->List (List Key×Addr×Value)->Prop:=Paired fun p q=>p.1=q.1/\H q.2.1=some (.tup (p.1.map kV))/\RelV p.2 q.2.2
theorem KT.val {H:Hp} {kvs:List (List Key×V)} {xs:List (List Key×Addr×Value)} (r:KT H kvs xs) (k:List Key):RelO (y8 kvs k) ((atKey xs k).map (·.2)):=by
 induction r with
 | nil=>exact True.intro
 | @cons p q ps qs h t ih =>
  obtain ⟨h1,_,h2⟩:=h;by_cases e:p.1=k
  ·have e':q.1=k:=h1.symm.trans e
   have b:atKey (q::qs) k=some q.2:=by simp [atKey,List.find?_cons,e']
   rw [yP e,b];exact h2
  ·have e':¬ q.1=k:=fun z=>e (h1.trans z)
   have b:atKey (q::qs) k=atKey qs k:=by simp [atKey,List.find?_cons,e']
   rw [yQ e,b];exact ih
section
variable {P:Program} {w:World} {H:Hp} {h:Heap} {a:Addr}
theorem rd_of {u:HO} (ok:HOk P w H h) (e:Rd H a u):ObjOk P w H h a u:=e.ok ok
theorem dk_rd {kvs:List (Key×V)} (ok:HOk P w H h) (e:Rd H a (.dK kvs)):kvs.length<=sizeLine/\(a == sysModules)=false/\∃ vs,KV kvs vs/\h.DictOf (yc P w) a vs :=
 show ObjOk P w H h a (.dK kvs) from rd_of ok e
theorem key_of {ks:List Key} (ok:HOk P w H h) (e:H a=some (.tup (ks.map kV))):(tupleKind (yc P w)).is h ks a:=by
 obtain ⟨_,its,r,o,h1,h2,n,h3⟩:=(show ObjOk P w H h a (.tup (ks.map kV)) from ok a _ e);exact ⟨o,its.toArray,n,h1,h2,h3,by simpa using XH r⟩
theorem dt_rd {kvs:List (List Key×V)} (ok:HOk P w H h) (e:Rd H a (.dT kvs)):kvs.length<=sizeLine/\(a == sysModules)=false /\
  ∃ xs,KT H kvs xs/\h.DictOfH (tupleKind (yc P w)) a xs:=by
 obtain ⟨z,y,xs,r,o,es,ep,h1,h2,h3,h4,h5⟩:=(show ObjOk P w H h a (.dT kvs) from rd_of ok e);refine ⟨z,y,xs,r,o,es,ep,h1,h2,h3,h4,fun x hx=>?_,h5⟩
 have all:∀ {l:List (List Key×V)} {m:List (List Key×Addr×Value)},KT H l m->∀ x∈m,(tupleKind (yc P w)).is h x.1 x.2.1:=by
  intro l m q
  induction q with
  | nil=>intro x hx;exact nomatch hx
  | @cons p q ps qs hq t ih =>
   intro x hx;rcases List.mem_cons.mp hx with e | hx
   ·subst e
    exact key_of ok (by rw [← hq.1];exact hq.2.1)
   ·exact ih x hx
 exact all r x hx
end
def DGet (H:Hp) (a:Addr) (y:V) (r:Option V):Prop :=
 (∃ kvs k,Rd H a (.dK kvs)/\y=kV k/\r=y8 kvs k)∨∃ kvs k b,Rd H a (.dT kvs)/\y=.ref b/\H b=some (.tup (k.map kV))/\r=y8 kvs k
theorem DGet.k {H:Hp} {a:Addr} {kvs:List (Key×V)} {k:Key} (e:H a=some (.dK kvs)):DGet H a (kV k) (y8 kvs k):=.inl ⟨kvs,k,.inl e,rfl,rfl⟩
section
variable {X:Cx} {pins:List (Addr×Obj)} {σ:St} {H:Hp} {s:Shared} {a:Addr} {y v:V} {u r:Value} {o:Option V} {A:Around} {E:Value->Shared->Prop}
theorem Inv.big (I:Inv X pins σ H s):sysModules<s.heap.objs.size:=by
 have h:mainGlobals<s.heap.objs.size:=(I.mod.glob.keeps I.bk).lt;exact Nat.lt_trans (by decide) h
theorem d_notIn {Q:Value->Shared->Prop} (hu:A.units+1<cLine) (I:Inv X pins σ H s) (g:DGet H a y o) (ry:RelV y u) (h:∀ s',Inv X pins σ H s'->Q (.bool (!o.isSome)) s') :
  wpAny (model X.prog X.w) A (compareOp .NotIn u (.ref a)) Q E s:=by
 rcases g with ⟨kvs,k,e,ey,l⟩ | ⟨kvs,k,b,e,ey,eb,l⟩
 ·subst ey
  obtain ⟨z,hd,vs,rel,dd⟩:=dk_rd I.hok e;refine wpAny_notIn_of (kV_is ry) hd dd.mapOf ?_;rw [← (rel.val k).isSome_eq,← l];exact h _ (I.tok _)
 ·subst ey
  cases (show u=Value.ref b from ry);obtain ⟨z,hd,xs,rel,dd⟩:=dt_rd I.hok e;refine wpAny_notIn_heap (tupleKind_room_in1 hu) (key_of I.hok eb) hd dd ?_;have q:=(rel.val k).isSome_eq;rw [Option.isSome_map] at q;rw [← q,← l];exact h _ (I.tok _)
end
section
variable {X:Cx} {pins:List (Addr×Obj)} {σ:St} {H:Hp} {s:Shared} {a:Addr} {kvs:List (Key×V)} {k:Key} {u:Value} {A:Around} {E:Value->Shared->Prop}
end
def tDNotIn (ty td:TE):TE:=fun σ H Q=>ty σ H fun y H1=>td σ H1 fun x H2=>∃ a o,x=.ref a/\DGet H2 a y o/\Q (.bl (!o.isSome)) H2
section
variable {X:Cx} {o i e value:Expr} {pos pos' tpos:Pos} {td ty tv:TE}
theorem pc_dnotin (hu:X.A.units+1<cLine) (hi:PE X i ty) (ho:PE X o td):PC X .NotIn i o (tDNotIn ty td):=by
 intro pins s σ H Q I h;refine thn (hi pins s σ H _ I h) fun iv s1 ⟨y,H1,I1,ry,q1⟩=>thn (ho pins s1 σ H1 _ I1 q1) fun u s2 ⟨x,H2,I2,rx,a,ov,ex,g,q2⟩=>?_;subst ex;obtain rfl:u=Value.ref a:=rx;exact d_notIn hu I2 g ry fun s3 I3=>⟨.bl (!ov.isSome),H2,I3,rfl,q2⟩
end
theorem dk_empty {P:Program} {w:World} {H:Hp} (h:Heap) (hb:sysModules<h.objs.size):ObjOk P w H (h.push { cls:=.type "dict",data:=.dict #[] }) h.objs.size (.dK []) :=
 ⟨Nat.zero_le _,beq_eq_false_iff_ne.mpr (Ne.symm (Nat.ne_of_lt hb)),[],.nil,Heap.DictOf.new h⟩
def tDNewK:TE:=fun _ H Q=>∀ p,H p=none->Q (.ref p) (upd H p (.dK []))
section
variable {X:Cx} {pos:Pos}
theorem Y2:PE X (.Dict [] [] pos) tDNewK:=fun pins s σ H Q I h =>
 wpAny_Dict_empty ⟨.ref s.heap.objs.size,_,I.laid (a:=s.heap.objs.size) (o:=.dK []) (t':=s.toks) (fun _ _ q=>Heap.get?_push_of_some _ q) (Nat.le_refl _) (dk_empty s.heap I.big),rfl,h _ (I.hok.fresh (Nat.le_refl _))⟩
end
structure M1 (X:Cx) (o:Expr) (m:Str) (apos:Pos) (e:Expr) (cpos:Pos):Prop where
 base:attributeBase o m X.env (eval o X.env)=eval o X.env
 few:((backTo cpos (starEach [e] X.env)).all (fun x=>!x.1) && (backToKw cpos (keywordEach [] X.env)).all (fun x=>x.1.isSome)
  && decide (([e]:List Expr).length+([]:List Keyword).length+(if ([]:List Keyword).isEmpty then 0 else 1)<30))=true
 line:(apos.endLine == cpos.line)=true
 trees:backTo cpos (starEach [e] X.env)=[(false,eval e X.env)]
structure M2 (X:Cx) (o:Expr) (m:Str) (apos:Pos) (e f:Expr) (cpos:Pos):Prop where
 base:attributeBase o m X.env (eval o X.env)=eval o X.env
 few:((backTo cpos (starEach [e,f] X.env)).all (fun x=>!x.1) && (backToKw cpos (keywordEach [] X.env)).all (fun x=>x.1.isSome)
  && decide (([e,f]:List Expr).length+([]:List Keyword).length+(if ([]:List Keyword).isEmpty then 0 else 1)<30))=true
 line:(apos.endLine == cpos.line)=true
 trees:backTo cpos (starEach [e,f] X.env)=[(false,eval e X.env),(false,eval f X.env)]
def IsD (H:Hp) (a:Addr):Prop:=(∃ kvs,Rd H a (.dK kvs))∨∃ kvs,Rd H a (.dT kvs)
theorem isD_at {X:Cx} {pins:List (Addr×Obj)} {σ:St} {H:Hp} {s:Shared} {a:Addr} (I:Inv X pins σ H s) (d:IsD H a) :
  s.TypeIs (.ref a) "dict"/\(∀ b,Value.ref a=.ref b->∃ ob,s.heap.get? b=some ob/\ob.dict=none)/\(a == sysModules)=false:=by
 rcases d with ⟨kvs,e⟩ | ⟨kvs,e⟩
 ·obtain ⟨_,hd,vs,_,dd⟩:=dk_rd I.hok e
  refine ⟨dd.typeIs,fun b q=>?_,hd⟩;cases q;obtain ⟨ob,_,_,h1,h2,_⟩:=dd;exact ⟨ob,h1,h2.2.1⟩
 ·obtain ⟨_,hd,xs,_,dd⟩:=dt_rd I.hok e
  refine ⟨dd.typeIs,fun b q=>?_,hd⟩;cases q;obtain ⟨ob,_,_,h1,h2,_⟩:=dd;exact ⟨ob,h1,h2.2.1⟩
section
variable {X:Cx} {pins:List (Addr×Obj)} {σ:St} {H:Hp} {s:Shared} {a:Addr} {y d:V} {u r:Value} {o:Option V} {A:Around} {E:Value->Shared->Prop}
theorem d_get1 {Q:Value->Shared->Prop} (hu:A.units+1<cLine) (I:Inv X pins σ H s) (g:DGet H a y o) (ry:RelV y u) (h:∀ w' s',Inv X pins σ H s'->RelV (o.getD .non) w'->Q w' s') :
  wpAny (model X.prog X.w) A (call (.builtin "dict.get") [.ref a,u]) Q E s:=by
 rcases g with ⟨kvs,k,e,ey,l⟩ | ⟨kvs,k,b,e,ey,eb,l⟩
 ·subst ey
  obtain ⟨z,hd,vs,rel,dd⟩:=dk_rd I.hok e;refine call_meetsIn PySem.F.slot_dict_get dd.typeIs PySem.F.entry_dict_get (PySem.F.args_dict_get_2 _ _) (meets_dict_get (yc X.prog X.w) a (kV_is ry) hd) ⟨_,dd.mapOf,h _ _ (I.tok _) ?_⟩;rw [l];exact (rel.val k).getD rfl
 ·subst ey
  cases (show u=Value.ref b from ry);obtain ⟨z,hd,xs,rel,dd⟩:=dt_rd I.hok e;refine call_meetsIn PySem.F.slot_dict_get dd.typeIs PySem.F.entry_dict_get (PySem.F.args_dict_get_2 _ _) (meetsH_dict_get (tupleKind (yc X.prog X.w)) a b hd) ⟨tupleKind_room_in1 hu,k,xs,key_of I.hok eb,dd,h _ _ (I.tok _) ?_⟩;rw [l];exact (rel.val k).getD rfl
end
def tDGet1 (td ty:TE):TE:=fun σ H Q=>td σ H fun x H1=>∃ a,x=.ref a/\IsD H1 a/\ty σ H1 fun y H2=>∃ o,DGet H2 a y o/\Q (o.getD .non) H2
section
variable {X:Cx} {o e f:Expr} {apos cpos:Pos} {td ty tx:TE}
theorem pe_dget1 (hu:X.A.units+1<cLine) (ho:PE X o td) (he:PE X e ty) (m:M1 X o "get" apos e cpos):PE X (.Call (.Attribute o "get" apos) [e] [] cpos) (tDGet1 td ty):=by
 intro pins s σ H Q I h;refine wpAny_Call_method m.base m.few m.line PySem.F.plainAttrs_dict PySem.F.slot_dict_get PySem.F.type_dict_get (thn (ho pins s σ H _ I h) fun u s1 ⟨x,H1,I1,rx,a,ex,d,q1⟩=>?_);subst ex;obtain rfl:u=Value.ref a:=rx;obtain ⟨t1,t2,_⟩:=isD_at I1 d;refine ⟨t1,t2,?_⟩;rw [m.trees];refine Calls.callWith_builtin rfl (Calls.evalArgs_plain (Calls.spliced_cons (thn (he pins s1 σ H1 _ I1 q1) fun iv s2 ⟨y,H2,I2,ry,ov,g,q2⟩=>Calls.spliced_nil ?_)));exact d_get1 hu I2 g ry fun w' s3 I3 rw'=>⟨_,H2,I3,rw',q2⟩
end
section
variable {X:Cx} {pins:List (Addr×Obj)} {σ:St} {H:Hp} {s:Shared} {a:Addr} {kvs:List (Key×V)} {A:Around} {E:Value->Shared->Prop}
end
section
variable {X:Cx} {pins:List (Addr×Obj)} {σ:St} {H:Hp} {s:Shared} {a:Addr} {y:V} {u:Value} {A:Around} {E:Value->Shared->Prop}
end
end L2
namespace Att
open PySem PySem.W PySem.Calls PyProof.Rows
section
variable {prog:Program} {w:World} {A:Around} {E:Value->Shared->Prop} {s:Shared} {K:Frag}
end
end Att
namespace L2
open PySem PySem.Spec PyProof.Rows
section
variable {P:Program} {w:World} {K:PySem.W.Frag} {mg:Str->Option Value} {base:Heap}
end
section
variable {X:Cx}
end
section
variable {κ:Type} [DecidableEq κ]
end
abbrev Yo (h:Heap) (z TI TO T:Addr) (f1:Value):Prop :=
 h.get? z=some { cls:=.type "zip",dict:=none,data:=.fields #[rawInt T,f1,.bool false,.ref TI,.ref TO],slots:=#[] }
section
variable {prog:Program} {w:World} {A:Around} {E:Value->Shared->Prop} {s:Shared}
theorem alive_at {a:Addr} {Q:Option Obj->Shared->Prop} (h:Q (s.heap.get? a) s):wpAny (model prog w) A (loadIfAlive a) Q E s:=fun _ _ _=>h
theorem ZT {z TI TO T:Addr} {b1:Bool} {Q:Bool->Shared->Prop} (zz:Yo s.heap z TI TO T (.bool b1)) (al:∃ o,s.heap.get? T=some o)
  (q:∀ h2,Yo h2 z TI TO T (.bool true)->Heap.SameBut z s.heap h2->Q false { s with heap:=h2 }):wpAny (model prog w) A (Builtin.SmallTypes.ownedTupleIsFree (.ref z)) Q E s:=by
 obtain ⟨o,eo⟩:=al;unfold Builtin.SmallTypes.ownedTupleIsFree;refine wpAny_bind (wpAny_field zz rfl (x:=rawInt T) rfl ?_);show wpAny _ _ (loadIfAlive (T:Int).toNat >>= _) _ _ _;refine wpAny_bind (alive_at ?_);rw [Int.toNat_natCast,eo];simp only [Option.isNone_some,Bool.false_eq_true,if_false];refine wpAny_bind (wpAny_field zz rfl (x:=.bool b1) rfl ?_)
 cases b1 with
 | true =>
  rw [if_neg (by decide)];exact wpAny_pure (q s.heap zz (Heap.SameBut.refl ..))
 | false =>
  rw [if_pos (by decide)];refine wpAny_bind (wpAny_setField_rec zz (by simp) fun h2 z2 sb=>wpAny_pure (q h2 z2 sb))
theorem Xj {z TI TO T i1 i2 l1 l2:Addr} {b1:Bool} {k:Nat} {xs ys:Array Value} {x y:Value} {Q:Option Value->Shared->Prop} (D:ZipApart z TI TO i1 i2 l1 l2) (zz:Yo s.heap z TI TO T (.bool b1)) (al:∃ o,s.heap.get? T=some o)
  (pI:IsPair s.heap TI (.ref i1) (.ref i2)) (h1:s.heap.IsListIter i1 l1 k) (h2:s.heap.IsListIter i2 l2 k) (hl1:s.heap.IsList l1 xs) (hl2:s.heap.IsList l2 ys) (ex:xs[k]?=some x) (ey:ys[k]?=some y)
  (q:∀ h',Yo h' z TI TO T (.bool true)->h'.IsListIter i1 l1 (k+1)->h'.IsListIter i2 l2 (k+1)->IsPair h' s.heap.objs.size x y->(∀ c o,c≠z->c≠i1->c≠i2->s.heap.get? c=some o->h'.get? c=some o)->h'.objs.size=s.heap.objs.size+1->Q (some (.ref s.heap.objs.size)) { s with heap:=h' }) :
  wpAny (model prog w) A (pyNext (.ref z)) Q E s:=by
 have ty:s.TypeIs (.ref z) "zip":=⟨_,zz,rfl⟩;unfold pyNext;refine wpAny_bind (wpAny_attempt (wpAny_callSpecial?_slot (name:=Str.ofString "__next__") ty F.slot_zip_next (wpAny_call_entry F.slot_zip_next ty F.entry_zip_next ?_ (F.args_zip_next_1 _))));show wpAny _ _ (field (.ref z) 2 >>= _) _ _ _;refine wpAny_bind (wpAny_field zz rfl (x:=.bool false) rfl ?_);show wpAny _ _ (field (.ref z) 3 >>= _) _ _ _;refine wpAny_bind (wpAny_field zz rfl (x:=.ref TI) rfl ?_);refine wpAny_bind (wpAny_seqItems pI rfl ?_);show wpAny _ _ (Builtin.SmallTypes.ownedTupleIsFree (.ref z) >>= _) _ _ _;refine wpAny_bind (ZT zz al fun h3 z3 sb=>?_);simp only [Bool.false_eq_true,if_false];rw [show (forIn (#[Value.ref i1,Value.ref i2]:Array Value):(Option Fin×Array Value)->_->Sem _)=forIn [Value.ref i1,Value.ref i2] from funext fun _=>funext fun _=>by simp];simp only [List.forIn_cons,List.forIn_nil];have h13:=h1.extBut sb.extBut D.i1z;have h23:=h2.extBut sb.extBut D.i2z;have hl13:=hl1.extBut sb.extBut D.l1z;have hl23:=hl2.extBut sb.extBut D.l2z;refine wpAny_bind (wpAny_bind (wpAny_bind (wpAny_holding ?_)));show wpAny _ _ (Builtin.SmallTypes.nextOf (.ref i1) >>= _) _ _ _;refine wpAny_bind (wpAny_nextOf_list_item h13 hl13 ex fun h4 a4 sb4=>wpAny_pure (wpAny_pure ?_));refine wpAny_bind (wpAny_bind (wpAny_holding ?_));show wpAny _ _ (Builtin.SmallTypes.nextOf (.ref i2) >>= _) _ _ _;refine wpAny_bind (wpAny_nextOf_list_item (h23.extBut sb4.extBut D.i12.symm) (hl23.extBut sb4.extBut D.l2i1) ey fun h5 a5 sb5=>wpAny_pure (wpAny_pure (wpAny_pure ?_)));show wpAny _ _ (newTuple [x,y] >>= _) _ _ _;refine wpAny_bind (wpAny_newTuple ?_);have sz:h5.objs.size=s.heap.objs.size:=by rw [sb5.1,sb4.1,sb.1]
 have up:∀ c o,c≠z->c≠i1->c≠i2->s.heap.get? c=some o->(h5.push { cls:=.type "tuple",data:=.seq #[x,y] }).get? c=some o:=fun c o c1 c2 c3 e=>Heap.get?_push_of_some _ (sb5.extBut _ _ c3 (sb4.extBut _ _ c2 (sb.extBut _ _ c1 e)));refine wpAny_pure ⟨_,rfl,wpAny_pure ?_⟩;show Q (some (.ref h5.objs.size)) _;rw [sz];have fin:=q (h5.push { cls:=.type "tuple",data:=.seq #[x,y] }) (Heap.get?_push_of_some _ (sb5.extBut _ _ D.i2z.symm (sb4.extBut _ _ D.i1z.symm z3))) ((a4.extBut sb5.extBut D.i12).at fun o e=>Heap.get?_push_of_some _ e) (a5.at fun o e=>Heap.get?_push_of_some _ e) (by rw [← sz];exact Heap.get?_push_size _ rfl) up (by rw [Heap.size_push,sz]);exact fin
theorem XU {z TI TO T i1 i2 l1 l2:Addr} {b1:Bool} {k:Nat} {xs ys:Array Value} {Q:Option Value->Shared->Prop} (hd:A.handled=none) (D:ZipApart z TI TO i1 i2 l1 l2) (zz:Yo s.heap z TI TO T (.bool b1)) (al:∃ o,s.heap.get? T=some o)
  (pI:IsPair s.heap TI (.ref i1) (.ref i2)) (h1:s.heap.IsListIter i1 l1 k) (hl1:s.heap.IsList l1 xs) (ex:xs[k]?=none)
  (q:∀ h',(∀ c o,c≠z->c≠i1->c≠i2->s.heap.get? c=some o->h'.get? c=some o)->Q none { s with heap:=h' }) :
  wpAny (model prog w) A (pyNext (.ref z)) Q E s:=by
 have ty:s.TypeIs (.ref z) "zip":=⟨_,zz,rfl⟩;unfold pyNext;refine wpAny_bind (wpAny_attempt (wpAny_callSpecial?_slot (name:=Str.ofString "__next__") ty F.slot_zip_next (wpAny_call_entry F.slot_zip_next ty F.entry_zip_next ?_ (F.args_zip_next_1 _))));show wpAny _ _ (field (.ref z) 2 >>= _) _ _ _;refine wpAny_bind (wpAny_field zz rfl (x:=.bool false) rfl ?_);show wpAny _ _ (field (.ref z) 3 >>= _) _ _ _;refine wpAny_bind (wpAny_field zz rfl (x:=.ref TI) rfl ?_);refine wpAny_bind (wpAny_seqItems pI rfl ?_);show wpAny _ _ (Builtin.SmallTypes.ownedTupleIsFree (.ref z) >>= _) _ _ _;refine wpAny_bind (ZT zz al fun h3 z3 sb=>?_);simp only [Bool.false_eq_true,if_false];rw [show (forIn (#[Value.ref i1,Value.ref i2]:Array Value):(Option Fin×Array Value)->_->Sem _)=forIn [Value.ref i1,Value.ref i2] from funext fun _=>funext fun _=>by simp];simp only [List.forIn_cons,List.forIn_nil];refine wpAny_bind (wpAny_bind (wpAny_bind (wpAny_holding ?_)));show wpAny _ _ (Builtin.SmallTypes.nextOf (.ref i1) >>= _) _ _ _;refine wpAny_bind (wpAny_nextOf_list_end hd (h1.extBut sb.extBut D.i1z) (hl1.extBut sb.extBut D.l1z) ex fun h4 e sb4 he=>?_);obtain ⟨o,ho,hc⟩:=he;refine wpAny_bind (wpAny_isInstance (T:="StopIteration") (b:=true) ⟨o,ho,hc⟩ isSubtype_stop ?_);exact wpAny_pure (q _ fun c o c1 c2 c3 e=>sb4 c o c2 (sb.extBut _ _ c1 e))
end
end L2
namespace PySem
open Sem (wp)
namespace F
theorem my_entry_zip_ga:entryFor table "zip.__getattribute__"=some Builtin.«object.__getattribute__» :=
 entryFor_alias (id':="object.__getattribute__") (by kernel_rfl) (by first | rfl | decide +kernel) (by decide +kernel) (by kernel_rfl)
theorem my_lk_zip_keys:typeLookup (.type "zip") "keys"=pure none:=by rw [typeLookup_type,builtinLookup_eq_fast];kernel_rfl
theorem my_lk_zip_hook:typeLookup (.type "zip") "__getattr__"=pure none:=by rw [typeLookup_type,builtinLookup_eq_fast];kernel_rfl
end F
theorem Yj (a:Addr) (fs:Array Value) (u:Tok) :
  Meets (Builtin.«object.__getattribute__» ⟨[.ref a,.str "keys" u],[]⟩) (fun A R s=>s.heap.get? a=some { cls:=.type "zip",dict:=none,data:=.fields fs,slots:=#[] }/\raisesAttr (.ref a) "keys" A R s) :=
 Meets.of_wp fun prog w A R s z=>by
  obtain ⟨hp,g,d,tk,os⟩:=s;obtain ⟨zx,zs⟩:=z;have zT:(⟨hp,g,d,tk,os⟩:Shared).TypeIs (.ref a) "zip":=⟨_,zx,rfl⟩;have f4:=F.my_lk_zip_keys;unfold Builtin.«object.__getattribute__»;repeat (any_goals (first | assumption | wp_step | fail))
  exact wpAny_raiseAttrError zs.1 zs.2 (attrMsg_fits (by decide +kernel) (by decide +kernel))
theorem Y7 {prog:Program} {w:World} {A:Around} {E:Value->Shared->Prop} {s:Shared} {a:Addr} {fs:Array Value} {Q:Option Value->Shared->Prop} (zx:s.heap.get? a=some { cls:=.type "zip",dict:=none,data:=.fields fs,slots:=#[] }) (zA:A.handled=none)
  (q:∀ h' tk e,Heap.NewExcOf s.heap h' e "AttributeError"->Q none { s with heap:=h',toks:=tk }):wpAny (model prog w) A (getAttr? (.ref a) "keys") Q E s:=by
 obtain ⟨hp,g,d,tk,os⟩:=s;have zT:∀ tk',(⟨hp,g,d,tk',os⟩:Shared).TypeIs (.ref a) "zip":=fun _=>⟨_,zx,rfl⟩;have f1:=sub_AttributeError;have f3:=F.slot_zip_getattribute.lookup;have f4:=F.slot_zip_getattribute.bind (.ref a);have f5:=F.my_lk_zip_hook;unfold getAttr? getAttrBy? getAttrBy
 repeat (any_goals (first | assumption | exact zT _ | ((with_reducible show wpAny _ _ (call (Value.builtin "zip.__getattribute__") _ _) _ _ _);refine call_meets F.slot_zip_getattribute (zT _) F.my_entry_zip_ga (F.args_zip_getattribute_2 _ _) (Yj a fs _) ⟨zx,zA,fun h9 k9 e9 n9=>?_⟩) | wp_step))
 obtain ⟨t9,u9,x9⟩:=n9.there;show wpAny _ _ (getattributeRaised _ _ _ _ _ _ _) _ _ _;unfold getattributeRaised
 repeat (any_goals (first | assumption | wp_step | fail))
 exact q _ _ _ n9.of
end PySem
namespace L2
open PySem PySem.Spec PyProof.Rows
theorem Zu:entryFor table "dict.update.loop"=some Builtin.«dict.update.loop»:=entryFor_of_tree (by kernel_rfl)
def ZS (z TI TO i1 i2 l1 l2:Addr) (k:Nat) (h:Heap):Prop :=
 (IsZip h z TI TO .none∨∃ T b,Yo h z TI TO T (.bool b)/\(∃ o,h.get? T=some o)/\T≠z/\T≠TO/\T≠i1/\T≠i2)/\IsPair h TI (.ref i1) (.ref i2)/\(∃ a b,IsPair h TO a b)/\h.IsListIter i1 l1 k/\h.IsListIter i2 l2 k
section
variable {prog:Program} {w:World} {A:Around} {E:Value->Shared->Prop} {s:Shared} {z TI TO i1 i2 l1 l2 d:Addr} {xs ys:Array Value}
theorem zs_item {k:Nat} {x y:Value} {Q:Option Value->Shared->Prop} (D:ZipApart z TI TO i1 i2 l1 l2) (st:ZS z TI TO i1 i2 l1 l2 k s.heap) (hl1:s.heap.IsList l1 xs) (hl2:s.heap.IsList l2 ys) (ex:xs[k]?=some x) (ey:ys[k]?=some y)
  (q:∀ h',ZS z TI TO i1 i2 l1 l2 (k+1) h'->IsPair h' s.heap.objs.size x y->(∀ c o,c≠z->c≠TO->c≠i1->c≠i2->s.heap.get? c=some o->h'.get? c=some o)->Q (some (.ref s.heap.objs.size)) { s with heap:=h' }) :
  wpAny (model prog w) A (pyNext (.ref z)) Q E s:=by
 obtain ⟨zz,pI,⟨a,b,pO⟩,h1,h2⟩:=st;have lt:∀ {c:Addr} {o:Obj},s.heap.get? c=some o->s.heap.objs.size≠c:=fun e=>Nat.ne_of_gt (Heap.lt_size e);have n1:s.heap.objs.size≠i1:=by obtain ⟨o,e,_⟩:=h1;exact lt e
 have n2:s.heap.objs.size≠i2:=by obtain ⟨o,e,_⟩:=h2;exact lt e
 rcases zz with zz | ⟨T,b1,zz,al,t1,t2,t3,t4⟩
 ·refine wpAny_pyNext_zip_item D zz pI pO h1 h2 hl1 hl2 ex ey fun h' a1 a2 a3 a4 a5 a6 hk=>?_
  exact q h' ⟨.inr ⟨_,_,a1,⟨_,a5⟩,lt zz,lt pO,n1,n2⟩,hk _ _ D.TIz D.TITO D.TIi1 D.TIi2 pI,⟨_,_,a2⟩,a3,a4⟩ a5 hk
 ·obtain ⟨o,eo⟩:=al
  refine Xj D zz ⟨o,eo⟩ pI h1 h2 hl1 hl2 ex ey fun h' a1 a3 a4 a5 hk _=>?_;exact q h' ⟨.inr ⟨T,true,a1,⟨o,hk _ _ t1 t3 t4 eo⟩,t1,t2,t3,t4⟩,hk _ _ D.TIz D.TIi1 D.TIi2 pI,⟨_,_,hk _ _ D.TOz D.TOi1 D.TOi2 pO⟩,a3,a4⟩ a5 fun c o c1 _ c3 c4 e=>hk c o c1 c3 c4 e
theorem zs_end {k:Nat} {Q:Option Value->Shared->Prop} (hd:A.handled=none) (D:ZipApart z TI TO i1 i2 l1 l2) (st:ZS z TI TO i1 i2 l1 l2 k s.heap) (hl1:s.heap.IsList l1 xs) (hl2:s.heap.IsList l2 ys) (ex:xs[k]?=none)
  (q:∀ h',(∀ c o,c≠z->c≠TO->c≠i1->c≠i2->s.heap.get? c=some o->h'.get? c=some o)->Q none { s with heap:=h' }):wpAny (model prog w) A (pyNext (.ref z)) Q E s:=by
 obtain ⟨zz,pI,⟨a,b,pO⟩,h1,h2⟩:=st;rcases zz with zz | ⟨T,b1,zz,al,_⟩
 ·exact wpAny_pyNext_zip_end hd D zz pI pO h1 h2 hl1 hl2 (.inl ex) fun h' hk=>q h' hk
 ·exact XU (ys:=ys) hd D zz al pI h1 hl1 ex fun h' hk=>q h' fun c o c1 _ c3 c4 e=>hk c o c1 c3 c4 e
def Y9 (kvs:List (Key×Value)):List (Key×Value)->List (Key×Value)
 | []=>kvs
 | p::r=>Y9 (stored kvs p.1 p.2) r
theorem ZS.same {k:Nat} {h h2:Heap} (st:ZS z TI TO i1 i2 l1 l2 k h) (dz:d≠z) (dI:d≠TI) (dO:d≠TO) (d1:d≠i1) (d2:d≠i2) (kp:∀ c o,c≠d->h.get? c=some o->h2.get? c=some o) (hd:∃ o,h2.get? d=some o):ZS z TI TO i1 i2 l1 l2 k h2:=by
 obtain ⟨zz,pI,⟨a,b,pO⟩,h1,h2'⟩:=st;refine ⟨?_,kp _ _ dI.symm pI,⟨a,b,kp _ _ dO.symm pO⟩,h1.at fun o e=>kp _ o d1.symm e,h2'.at fun o e=>kp _ o d2.symm e⟩;rcases zz with zz | ⟨T,b1,zz,⟨o,eo⟩,t⟩
 ·exact .inl (kp _ _ dz.symm zz)
 ·refine .inr ⟨T,b1,kp _ _ dz.symm zz,?_,t⟩
  by_cases e:T=d
  ·rw [e];exact hd
  ·exact ⟨o,kp _ _ e eo⟩
theorem dz_loop (hd:A.handled=none) (D:ZipApart z TI TO i1 i2 l1 l2) (dz:d≠z) (dI:d≠TI) (dO:d≠TO) (d1:d≠i1) (d2:d≠i2) (dl1:d≠l1) (dl2:d≠l2) :
  ∀ (ps:List (Key×Value)) (k:Nat) (s:Shared) (kvs:List (Key×Value)) (i:Int) (t:Tok) (R:Result->Shared->Prop),ZS z TI TO i1 i2 l1 l2 k s.heap->s.heap.IsList l1 xs->s.heap.IsList l2 ys->s.heap.DictOf (yc prog w) d kvs->kvs.length+ps.length<=sizeLine ->
   xs.size=k+ps.length->(∀ j (p:Key×Value),ps[j]?=some p->∃ u,xs[k+j]?=some u/\(yc prog w).is p.1 u=true/\ys[k+j]?=some p.2) ->
   (∀ h' tk,h'.DictOf (yc prog w) d (Y9 kvs ps)->(∀ c o,c≠z->c≠TO->c≠i1->c≠i2->c≠d->s.heap.get? c=some o->h'.get? c=some o)->R (.ok (.ret .none)) { s with heap:=h',toks:=tk }) ->
   codeAny (model prog w) A (.builtin "dict.update.loop" ⟨[.ref d,.ref z,.int i t,.none],[]⟩) R s
 | [],k,s,kvs,i,t,R,st,hl1,hl2,hm,hz,hn,hp,q=>by
  refine codeAny_builtin Zu ?_;show wpAny _ _ (pyNext (.ref z) >>= _) _ _ _;refine wpAny_bind (zs_end hd D st hl1 hl2 (Array.getElem?_eq_none (by rw [hn];exact Nat.le_refl _)) fun h' hk=>?_);show wpAny _ _ (Builtin.Dict.addKeywords d [] >>= _) _ _ _;refine wpAny_bind (wpAny_pure (wpAny_pure ?_))
  have hd':h'.DictOf (yc prog w) d kvs:=by
   obtain ⟨o,es,ep,ho,r⟩:=hm;exact ⟨o,es,ep,hk _ _ dz dO d1 d2 ho,r⟩
  exact q h' s.toks hd' fun c o c1 c2 c3 c4 _ e=>hk c o c1 c2 c3 c4 e
 | p::ps,k,s,kvs,i,t,R,st,hl1,hl2,hm,hz,hn,hp,q=>by
  refine codeAny_builtin Zu ?_;obtain ⟨u,eu,ku,ev⟩:=hp 0 p rfl;show wpAny _ _ (pyNext (.ref z) >>= _) _ _ _;refine wpAny_bind (zs_item D st hl1 hl2 eu ev fun h' st' pT hk=>?_)
  have hm':h'.DictOf (yc prog w) d kvs:=by
   obtain ⟨o,es,ep,ho,r⟩:=hm;exact ⟨o,es,ep,hk _ _ dz dO d1 d2 ho,r⟩
  have hl1':h'.IsList l1 xs:=hl1.at fun o e=>hk _ o D.l1z D.l1TO D.l1i1 D.l1i2 e;have hl2':h'.IsList l2 ys:=hl2.at fun o e=>hk _ o D.l2z D.l2TO D.l2i1 D.l2i2 e;refine wpAny_bind (wpAny_holding ?_);refine wpAny_bind (wpAny_tryCatch ?_);unfold Builtin.Dict.pairItems;refine wpAny_bind (wpAny_typeOf (T:="tuple") ⟨_,pT,rfl⟩ ?_);rw [if_pos (by decide)];refine wpAny_bind (wpAny_seqItems pT rfl (wpAny_pure ?_));show wpAny _ _ (holding [u,p.2] (dictSet d u p.2)) _ _ _;refine wpAny_holding (wpAny_dictSet_pairs (hsz:=by rw [List.length_cons] at hz;omega) ku hm' fun h2 hm2 sb=>?_);refine wpAny_pure ⟨Code.quiet_builtin _ (by decide +kernel),?_⟩;have nd:∃ o,h2.get? d=some o:=by obtain ⟨o,_,_,e,_⟩:=hm2;exact ⟨o,e⟩
  have ls:(stored kvs p.1 p.2).length<=kvs.length+1:=by
   unfold stored;split
   ·rw [List.length_map];omega
   ·rw [List.length_append];exact Nat.le_refl _
  refine dz_loop hd D dz dI dO d1 d2 dl1 dl2 ps (k+1) { s with heap:=h2,toks:=s.toks+1 } (stored kvs p.1 p.2) (i+1) 0 R (st'.same dz dI dO d1 d2 (fun c o n e=>sb.extBut _ _ n e) nd) (hl1'.extBut sb.extBut dl1.symm) (hl2'.extBut sb.extBut dl2.symm) hm2 (by rw [List.length_cons] at hz;omega) (by rw [hn,List.length_cons];omega) (fun j r hj=>?_) (fun h3 tk hm3 hk3=>?_)
  ·have:=hp (j+1) r hj
   rw [show k+1+j=k+(j+1) by omega];exact this
  ·exact q h3 tk hm3 fun c o c1 c2 c3 c4 c5 e=>hk3 c o c1 c2 c3 c4 c5 (sb.extBut _ _ c5 (hk c o c1 c2 c3 c4 e))
end
def putAll (kvs:List (Key×V)):List (Key×V)->List (Key×V)
 | []=>kvs
 | p::r=>putAll (putK kvs p.1 p.2) r
theorem KV.putAll:∀ {ps:List (Key×V)} {qs:List (Key×Value)} {kvs:List (Key×V)} {vs:List (Key×Value)},KV ps qs->KV kvs vs->KV (L2.putAll kvs ps) (Y9 vs qs)
 | [],_,_,_,.nil,h=>h
 | p::ps,_,_,_,.cons (b:=q) r rr,h=>by
  have e:q.1=p.1:=r.1.symm;show KV (L2.putAll (putK _ p.1 p.2) ps) (Y9 (stored _ q.1 q.2) _);rw [e];exact KV.putAll rr (h.put p.1 r.2)
theorem YY:∀ (ps:List (Key×V)) (kvs:List (Key×V)),(putAll kvs ps).length<=kvs.length+ps.length
 | [],_=>Nat.le_refl _
 | p::ps,kvs=>by
  have:=YY ps (putK kvs p.1 p.2);have:=zgk kvs p.1 p.2;show (putAll (putK kvs p.1 p.2) ps).length<=kvs.length+(ps.length+1);omega
section
variable {prog:Program} {w:World} {A:Around} {E:Value->Shared->Prop} {s:Shared} {z TI TO i1 i2 l1 l2:Addr} {xs ys:Array Value}
theorem ZS.keeps {k:Nat} {h h2:Heap} (st:ZS z TI TO i1 i2 l1 l2 k h) (kp:∀ c o,h.get? c=some o->h2.get? c=some o):ZS z TI TO i1 i2 l1 l2 k h2:=by
 obtain ⟨zz,pI,⟨a,b,pO⟩,h1,h2'⟩:=st;refine ⟨?_,kp _ _ pI,⟨a,b,kp _ _ pO⟩,h1.at fun o e=>kp _ o e,h2'.at fun o e=>kp _ o e⟩;rcases zz with zz | ⟨T,b1,zz,⟨o,eo⟩,t⟩
 ·exact .inl (kp _ _ zz)
 ·exact .inr ⟨T,b1,kp _ _ zz,⟨o,kp _ _ eo⟩,t⟩
theorem Xs {ps:List (Key×Value)} {Q:Value->Shared->Prop} (hd:A.handled=none) (D:ZipApart z TI TO i1 i2 l1 l2) (zz:IsZip s.heap z TI TO .none) (st:ZS z TI TO i1 i2 l1 l2 0 s.heap) (hl1:s.heap.IsList l1 xs) (hl2:s.heap.IsList l2 ys) (hz:ps.length<=sizeLine) (hn:xs.size=ps.length)
  (hp:∀ (j:Nat) (p:Key×Value),ps[j]?=some p->∃ u,xs[j]?=some u/\(yc prog w).is p.1 u=true/\ys[j]?=some p.2)
  (q:∀ h' tk,h'.DictOf (yc prog w) s.heap.objs.size (Y9 [] ps)->(∀ c o,c≠z->c≠TO->c≠i1->c≠i2->s.heap.get? c=some o->h'.get? c=some o)->Q (.ref s.heap.objs.size) { s with heap:=h',toks:=tk }):wpAny (model prog w) A (call (.type "dict") [.ref z]) Q E s:=by
 refine callType_codes (Q₁:=fun obj s₁=>obj=.ref s.heap.objs.size/\s₁={ s with heap:=s.heap.push { cls:=.type "dict",data:=.dict #[] } }) F.kt_called_dict (F.kt_typeCall_dict_1 _) F.entry_dict_init (kt_code_dict_new _ ⟨rfl,rfl⟩) fun obj s1 y=>?_;obtain ⟨rfl,rfl⟩:=y;have nw:(s.heap.push { cls:=.type "dict",data:=.dict #[] }).DictOf (yc prog w) s.heap.objs.size []:=Heap.DictOf.new s.heap;have kp:∀ c o,s.heap.get? c=some o->(s.heap.push { cls:=.type "dict",data:=.dict #[] }).get? c=some o:=fun c o e=>Heap.get?_push_of_some _ e;have lt:∀ {c:Addr} {o:Obj},s.heap.get? c=some o->s.heap.objs.size≠c:=fun e=>Nat.ne_of_gt (Heap.lt_size e);obtain ⟨_,pI,⟨a,b,pO⟩,g1,g2⟩:=id st;have e1:s.heap.objs.size≠i1:=by obtain ⟨o,e,_⟩:=g1;exact lt e
 have e2:s.heap.objs.size≠i2:=by obtain ⟨o,e,_⟩:=g2;exact lt e
 have e3:s.heap.objs.size≠l1:=by obtain ⟨o,e,_⟩:=hl1;exact lt e
 have e4:s.heap.objs.size≠l2:=by obtain ⟨o,e,_⟩:=hl2;exact lt e
 refine ⟨nw.typeIs,F.args_dict_init_2 _ _,?_⟩;unfold Builtin.«dict.__init__»;refine wpAny_bind ?_;unfold Builtin.Dict.selfAndRest;refine wpAny_bind (wpAny_notOrdered_dict nw.typeIs ?_);show wpAny _ _ (pure (s.heap.objs.size,[Value.ref z])) _ _ _;refine wpAny_pure ?_;show wpAny _ _ (Builtin.Dict.updateFrom "dict.__init__" s.heap.objs.size (.ref z) [] .none) _ _ _;unfold Builtin.Dict.updateFrom;refine wpAny_bind (wpAny_typeOf (T:="zip") ⟨_,kp _ _ zz,rfl⟩ ?_);rw [if_pos (by decide)];refine wpAny_bind (Y7 (kp _ _ zz) hd fun h3 tk e ne=>?_);simp only [Option.isNone_none,if_true];have k3:∀ c o,s.heap.get? c=some o->h3.get? c=some o:=fun c o e=>ne.keeps c o (kp c o e);refine wpAny_bind (wpAny_rule (wpAny_bind (wpAny_pyIter_zip (f0:=.none) (k3 _ _ zz) ?_)));refine wpAny_pure ⟨Code.quiet_builtin _ (by decide +kernel),?_⟩
 have d3:h3.DictOf (yc prog w) s.heap.objs.size []:=by
  obtain ⟨o,es,ep,ho,r⟩:=nw;exact ⟨o,es,ep,ne.keeps _ _ ho,r⟩
 refine dz_loop (A:=A.in1) (xs:=xs) (ys:=ys) hd D (lt zz) (lt pI) (lt pO) e1 e2 e3 e4 ps 0 { s with heap:=h3,toks:=tk } [] 0 0 _ (st.keeps k3) (hl1.at fun o e=>k3 _ o e) (hl2.at fun o e=>k3 _ o e) d3 (by show 0+ps.length<=_;omega) (by rw [hn,Nat.zero_add]) (fun j r hj=>by rw [Nat.zero_add];exact hp j r hj) fun h4 tk4 d4 k4=>?_;exact ⟨rfl,q h4 tk4 d4 fun c o c1 c2 c3 c4 e=>k4 c o c1 c2 c3 c4 (lt e).symm (k3 c o e)⟩
end
theorem kv_zip:∀ (ks:List Key) {ys:List V} {us:List Value},Vals ys us->ks.length=ys.length->KV (ks.zip ys) (ks.zip us)
 | [],_,_,_,_=>.nil
 | k::ks,_,_,.nil,h=>by cases h
 | k::ks,_,_,.cons r rr,h=>.cons ⟨rfl,r⟩ (kv_zip ks rr (by simpa using h))
section
variable {X:Cx}
def tDictZip (K:PySem.W.Frag) (ta:TA):TE:=fun σ H Q=>ta σ H fun vs H1=>∃ (l1 l2:Addr) (ks:List Key) (ys:List V),vs=[.ref l1,.ref l2]/\SqL K H1 l1 (ks.map kV)/\SqL K H1 l2 ys/\ks.length=ys.length/\∀ d,H1 d=none->Q (.ref d) (upd H1 d (.dK (putAll [] (ks.zip ys))))
theorem zg8 {a b:Expr} {ta:TA} {p p2 pos pos2:Pos} (hc:X.calm=true) (hg:Gl X "dict") (hm:X.mg "dict"=none) (hg2:Gl X "zip") (hm2:X.mg "zip"=none) (ha:PA X [a,b] ta)
  (hs:starEach [a,b] X.env=[(false,eval a X.env),(false,eval b X.env)]:=by rfl) (hs2:starEach [b] X.env=[(false,eval b X.env)]:=by rfl)
  (hs3:starEach [Expr.Call (.Name "zip" p2) [a,b] [] pos2] X.env=[(false,eval (.Call (.Name "zip" p2) [a,b] [] pos2) X.env)]:=by rfl):PE X (.Call (.Name "dict" p) [.Call (.Name "zip" p2) [a,b] [] pos2] [] pos) (tDictZip X.K ta):=by
 intro pins s σ H Q I h;refine wpAny_Call_Name_kw (ZB I hg hm boot_dict (PyProof.Rows.callWith_type1 ?_ (by rw [hs3];rfl) (by rfl)));rw [hs3];show wpAny _ _ (spliced [(false,eval (.Call (.Name "zip" p2) [a,b] [] pos2) X.env)]) _ _ s;refine Calls.spliced_cons (Call_ (ZB I hg2 hm2 boot_zip (PyProof.Rows.callWith_type1 (thn (ha pos2 pins s σ H _ I h) fun us s1 ⟨vs,H1,I1,r1,q1⟩=>?_) (by rw [hs,hs2]) (by rw [hs2];rfl))));obtain ⟨l1,l2,ks,ys,e,x1,x2,le,q⟩:=q1;subst e;obtain ⟨u,v,rfl,ru,rv⟩:=vals2 r1;cases (show u=Value.ref l1 from ru);cases (show v=Value.ref l2 from rv);obtain ⟨is1,g1,p1,z1⟩:=I1.list x1;obtain ⟨is2,g2,p2',z2⟩:=I1.list x2;have L1:l1<s1.heap.objs.size:=by obtain ⟨_,e,_⟩:=p1.isList;exact Heap.lt_size e
 have L2:l2<s1.heap.objs.size:=by obtain ⟨_,e,_⟩:=p2'.isList;exact Heap.lt_size e
 have n1:=g1.length;have n2:=g2.length;rw [List.length_map] at n1;refine call_zip_2 p1.isList p2'.isList fun h' a1 a2 a3 a4 a5 a6 hk=>Calls.spliced_nil ?_;have J:Inv X pins σ H1 { s1 with heap:=h' }:=I1.kept (t':=s1.toks) fun b o e=>hk b o e;have fp:∀ n,ZF X pins H1 (s1.heap.objs.size+n):=fun n=>I1.fpOk (Nat.le_add_right _ _) (I1.hok.fresh (Nat.le_add_right _ _));have rel:KV (ks.zip ys) (ks.zip is2):=kv_zip ks g2 le;have lz:(ks.zip is2).length=ks.length:=by rw [List.length_zip,Nat.min_eq_left];omega
 rw [List.length_map] at z1;refine Xs (s:={ s1 with heap:=h' }) (xs:=is1.toArray) (ys:=is2.toArray) (ps:=ks.zip is2) (I1.ok.hd hc) (zipApart_new L1 L2) a1 ⟨.inl a1,a2,⟨_,_,a3⟩,a4,a5⟩ (p1.isList.at fun o e=>hk _ o e) (p2'.isList.at fun o e=>hk _ o e) (by omega) (by rw [lz,List.size_toArray];omega) (fun j r hj=>?_) fun h3 tk d3 k3=>?_
 ·obtain ⟨ek,ev⟩:ks[j]?=some r.1/\is2[j]?=some r.2:=by
   rw [List.getElem?_zip_eq_some] at hj;exact hj
  obtain ⟨u,eu,ru⟩:=g1.get (show (ks.map kV)[j]?=some (kV r.1) by rw [List.getElem?_map,ek];rfl);exact ⟨u,by simpa using eu,kV_is ru,by simpa using ev⟩
 ·have fr:H1 h'.objs.size=none:=I1.hok.fresh (by rw [a6];omega)
  have b4:=fp 4;have b3:=fp 3;have b0:=fp 0;have b1:=fp 1;have b2:=fp 2
  have lay:ObjOk X.prog X.w (upd H1 h'.objs.size (.dK (putAll [] (ks.zip ys)))) h3 h'.objs.size (.dK (putAll [] (ks.zip ys))):=by
   refine ⟨?_,?_,_,KV.putAll rel .nil,d3⟩
   ·have:=YY (ks.zip ys) []
    rw [List.length_zip] at this;have:([]:List (Key×V)).length=0:=rfl;omega
   ·have:=J.big
    exact beq_eq_false_iff_ne.mpr (Nat.ne_of_gt this)
  refine ⟨.ref h'.objs.size,upd H1 h'.objs.size (.dK (putAll [] (ks.zip ys))),?_,rfl,q _ fr⟩
  exact J.turnedT (its:=[s1.heap.objs.size+4,s1.heap.objs.size+2,s1.heap.objs.size+3,s1.heap.objs.size,s1.heap.objs.size+1]) (fun c o nc e=>by
   have nc':c≠s1.heap.objs.size+4/\c≠s1.heap.objs.size+2/\c≠s1.heap.objs.size+3/\c≠s1.heap.objs.size/\c≠s1.heap.objs.size+1:=by simpa using nc
   exact k3 c o nc'.1 nc'.2.2.1 nc'.2.2.2.1 nc'.2.2.2.2 e) (fun c hc'=>by
   simp at hc';rcases hc' with rfl | rfl | rfl | rfl | rfl
   ·exact b4
   ·exact b2
   ·exact b3
   ·exact b0
   ·exact b1) (Nat.le_refl _) lay
end
section
variable {prog:Program} {w:World} {A:Around} {R:Result->Shared->Prop} {s:Shared}
theorem zhi {elt target iter tst:Expr} {scope:Scope} {pos:Pos} {it acc:Value} {env:Env} (I:Nat->Shared->Prop)
  (turn:∀ n s,I n s->wpAny (model prog w) A (pyNext it) (fun r s₁=>match r with
   | none=>R (.ok .next) s₁
   | some v=>wpAny (model prog w) A (letOwnedTupleGo target it v) (fun _ s₂=>wpAny (model prog w) A (assign target env v) (fun _ s₃=>wpAny (model prog w) A (isTrue tst env (eval tst env)) (fun ok t₃=>match ok with
     | true=>wpAny (model prog w) A (eval elt env) (fun x s₄=>wpAny (model prog w) A (call (.builtin "list.append") [acc,x]) (fun _ s₅=>∃ m,m<n/\I m s₅) (fun _ _=>False) s₄) (fun _ _=>False) t₃
     | false=>∃ m,m<n/\I m t₃) (fun _ _=>False) s₃) (fun _ _=>False) s₂) (fun _ _=>False) s₁) (fun _ _=>False) s)
  (n:Nat) (h:I n s):codeAny (model prog w) A (.compLoop (.ListComp elt [⟨target,iter,[tst],0⟩] scope pos) 0 it acc env) R s:=by
 refine codeAny_loop rfl I (fun n s hI=>?_) n h;show wpAny _ _ ((compTurn (.ListComp elt [⟨target,iter,[tst],0⟩] scope pos) 0 it acc env).onRaise (fun x=>do noteFrame x env;theTreesLotGoes x)) _ _ s;refine wpAny_noted ?_;rw [compTurn_list];refine wpAny_bind (wpAny_standAt (wpAny_bind (wpAny_mono (turn n s hI) (fun r s₁ h₁=>?_) fun _ _ z=>z.elim)))
 cases r with
 | none=>exact wpAny_pure h₁
 | some v =>
  refine wpAny_bind (wpAny_mono h₁ (fun _ s₂ h₂=>?_) fun _ _ z=>z.elim);refine wpAny_bind (wpAny_mono h₂ (fun _ s₃ h₃=>?_) fun _ _ z=>z.elim);refine wpAny_bind (wpAny_tests_one (wpAny_mono h₃ (fun ok t₃ h₃=>?_) fun _ _ z=>z.elim))
  cases ok with
  | false=>exact wpAny_pure ⟨rfl,h₃⟩
  | true =>
   refine wpAny_bind (wpAny_bind (wpAny_mono h₃ (fun x s₄ h₄=>?_) fun _ _ z=>z.elim));exact wpAny_bind (wpAny_mono h₄ (fun _ s₅ h₅=>wpAny_pure (wpAny_pure ⟨rfl,h₅⟩)) fun _ _ z=>z.elim)
end
def CompWF (J:It) (g:TG) (tt:TT) (te:TE) (σY:St) (H1:Hp) (D:Addr) (Q:VK):Prop:=∃ W:Nat->Nat->St->Hp->Prop,(∃ m,W 0 m σY H1)/\∀ i m σ' H',W i m σ' H' ->
 (J.stop i H'/\Q (.ref D) H')∨(J.go i H'/\∃ N:St->Hp->Prop,(∀ σ2 H2,N σ2 H2->∃ m',m'<m/\W (i+1) m' σ2 H2) /\
  ∀ x H2,J.yld i H' x H2->g x σ' H2 fun σ3 H3=>tt σ3 H3 fun b H4=>if b=true then te σ3 H4 fun v H5=>∃ xs,H5 D=some (.lst xs)/\xs.length<sizeLine/\N σ3 (upd H5 D (.lst (xs++[v]))) else N σ3 H4)
def tCompF (wi:TI) (g:TG) (tt:TT) (te:TE) (σ0:St->Hp->St->Prop):TE:=fun σ H Q=>wi σ H fun J H1=>∃ σY,σ0 σ H1 σY/\∀ D,H1 D=none->CompWF J g tt te σY (upd H1 D (.lst [])) D Q
section
variable {X:Cx} {tg:Expr}
theorem zhj {iter elt tst:Expr} {scope:Scope} {pos pos':Pos} {cl:List (Str×Addr)} {NY:List Str} {wi:TI} {g:TG} {tt:TT} {te:TE} {σ0:St->Hp->St->Prop} (hc:X.calm=true) (S:Sees X scope cl) (hi:PI X tg iter wi)
  (hY:∀ (s3:Shared) (H3:Hp) (fp:List Addr),PG (X.comp scope cl NY s3 H3 fp) tg g/\PT (X.comp scope cl NY s3 H3 fp) tst tt/\PE (X.comp scope cl NY s3 H3 fp) elt te)
  (h0:∀ (pins:List (Addr×Obj)) (σ:St) (H:Hp) (s3:Shared) (σY:St),Inv X pins σ H s3->σ0 σ H σY->σY.length=NY.length/\∀ (i:Nat) (x:Str) (v:V),NY[i]?=some x->σY[i]?=some (some v) ->
   ∃ c u,(((compEnvC scope cl 0 X.env).kindOf x=some .cell∨(compEnvC scope cl 0 X.env).kindOf x=some .free))/\cl.lookup x=some c/\RelV v u/\s3.heap.IsCell c (some u))
  (hs:∀ x,foldedSetIterable iter X.env x=pure x) {use:Option (Value->Sem Unit)} {R:Value->Shared->Prop} {pins:List (Addr×Obj)} {s:Shared} {σ:St} {H:Hp} {Q:VK} (I:Inv X pins σ H s) (h:tCompF wi g tt te σ0 σ H Q)
  (fin:∀ (C D:Addr) (H5:Hp) (s6:Shared),CompEnd X pins σ H5 s6 C->Q (.ref D) H5->compPost (model X.prog X.w) X.A X.xe use R (.ref D) C (.ok .next) s6) :
  wpAny (model X.prog X.w) X.A (comprehension (.ListComp elt [⟨tg,iter,[tst],0⟩] scope pos) scope X.env pos' (newList []) (firstAsync [⟨tg,iter,[tst],0⟩]) (firstIter [⟨tg,iter,[tst],0⟩] X.env) use) R X.xe s:=by
 refine wpAny_comprehension_free rfl hs S.clos S.kind S.names (thn (hi pins s σ H _ I h) fun v s1 h1=>thn h1 fun itv s2 h2=>?_);obtain ⟨it,fp,tn,J,H2,e,I2,T,st2,f2,σY,hσ,hW⟩:=h2;subst e;refine wpAny_newObj_type ?_;have I3:Inv X pins σ (upd H2 s2.heap.objs.size (.lst [])) (pz s2):=I2.lnew (t':=s2.toks) (its:=[]) .nil (Nat.zero_le _);obtain ⟨W,⟨m0,w0⟩,turn⟩:=hW s2.heap.objs.size (I2.hok.fresh (Nat.le_refl _));have ob2:=T.obj _ _ st2
 have hfp:∀ b∈fp,ZF X pins (upd H2 s2.heap.objs.size (.lst [])) b:=fun b hb=>by
  obtain ⟨o,q,_⟩:=ob2 b hb;exact ⟨by rw [zm (Nat.ne_of_lt (Heap.lt_size q))];exact (f2 b hb).1,(f2 b hb).2⟩
 have hob:∀ b∈fp,∃ o,(s2.heap.push Lz).get? b=some o:=fun b hb=>by
  obtain ⟨o,q,_⟩:=ob2 b hb;exact ⟨o,Heap.get?_push_of_some _ q⟩
 refine wpAny_newFunctionEnv S.nocell (fun y hy=>absurd hy (by simp)) (fun h1 hn1 hs1=>?_) S.kind;obtain ⟨hl,hY0⟩:=h0 pins σ H2 s2 σY I2 hσ;have k23:∀ b o,s2.heap.get? b=some o->(s2.heap.push Lz).get? b=some o:=fun b o q=>Heap.get?_push_of_some _ q;have k34:∀ b o,(s2.heap.push Lz).get? b=some o->h1.get? b=some o:=fun b o q=>(hs1.2 b (Nat.ne_of_lt (Heap.lt_size q))).trans (Heap.get?_push_of_some _ q)
 have I4:=zgr (scope:=scope) (cl:=cl) (NY:=NY) (fp:=fp) (h1:=h1) (t:=s2.toks) (σY:=σY) I3 S hfp hob hn1 k34 hl fun i x v e1 e2=>by
  obtain ⟨c,u,k,q,r,o,z1,z2⟩:=hY0 i x v e1 e2;exact ⟨c,u,k,q,r,o,k23 _ _ z1,z2⟩
 have st4:tn 0 h1:=T.keep _ _ _ st2 fun b hb o q=>k34 _ _ (k23 _ _ q);have fr4:∀ b∈fp,(upd H2 s2.heap.objs.size (.lst [])) b=none:=fun b hb=>(hfp b hb).1;obtain ⟨hg,ht,he⟩:=hY (pz s2) (upd H2 s2.heap.objs.size (.lst [])) fp;have okY:=I4.ok
 have statY:∀ {H':Hp},(∀ b∈fp,H' b=none)->∀ b∈fp,ZF (Xz X scope cl NY s2 H2 fp) [] H' b :=
  fun hn b hb=>⟨hn b hb,(okY.exf b hb).1,okY.exfs b hb,.inl hb,(okY.exf b hb).2,fun p hp=>absurd hp (by simp)⟩
 have loop:codeAny (model X.prog X.w) X.A (.compLoop (.ListComp elt [⟨tg,iter,[tst],0⟩] scope pos) 0 (.ref it) (.ref s2.heap.objs.size) (compEnvC scope cl (s2.heap.push Lz).objs.size X.env))
   (compPost (model X.prog X.w) X.A X.xe use R (.ref s2.heap.objs.size) (s2.heap.push Lz).objs.size) { s2 with heap:=h1,toks:=s2.toks }:=by
  refine zhi (fun n s'=>∃ i σ' H',Inv (Xz X scope cl NY s2 H2 fp) [] σ' H' s'/\tn i s'.heap/\(∀ b∈fp,H' b=none)/\W i n σ' H') ?_ m0 ⟨0,σY,_,I4,st4,fr4,w0⟩;rintro n s5 ⟨i,σ5,H5,I5,st5,fr5,w5⟩;rcases turn i n σ5 H5 w5 with ⟨stop,q⟩ | ⟨go,N,hN,step⟩
  ·refine thn (T.done (Xz X scope cl NY s2 H2 fp) rfl rfl rfl hc i [] s5 σ5 H5 _ I5 (statY fr5) st5 stop) fun r s6 ⟨hr,I6⟩=>?_
   subst hr;obtain ⟨m,hm,_⟩:=I6.loc;refine fin _ _ H5 s6 ⟨⟨m,hm⟩,I6.free,Ne.symm (Nat.ne_of_lt I3.lt),I3.sz,fun x c z=>?_,fun p hp=>?_,fun h' hs'=>XM I3 hfp I6 hs'⟩ q
   ·obtain ⟨_,o,z1,_⟩:=I3.cell x c z
    exact Nat.ne_of_lt (Heap.lt_size z1)
   ·exact Nat.ne_of_lt (Heap.lt_size (I3.pin p hp).1)
  ·refine thn (T.item (Xz X scope cl NY s2 H2 fp) rfl rfl rfl hc i [] s5 σ5 H5 _ I5 (statY fr5) st5 go) fun r s6 ⟨u,hr,h6⟩=>?_
   subst hr;refine thn h6 fun _ s7 ⟨x,H7,I7,r7,y7,st7,fr7⟩=>?_;have I7':=I7.pinned (statY fr7) (T.obj _ _ st7);refine thn (hg _ s7 σ5 H7 x u _ I7' r7 (step x H7 y7)) fun _ s8 ⟨σ8,H8,I8,q8⟩=>?_
   have pk:∀ {H':Hp} {s':Shared} {σ':St},Inv (Xz X scope cl NY s2 H2 fp) ([]++YZ fp s7.heap) σ' H' s'->tn (i+1) s'.heap/\∀ b∈fp,H' b=none:=fun I'=>by
    refine ⟨T.keep _ _ _ st7 fun b hb o q=>(I'.pin (b,o) (List.mem_append_right _ (List.mem_append_right _ (xM hb q)))).1,fun b hb=>?_⟩;obtain ⟨o,q,d⟩:=T.obj _ _ st7 b hb;exact (I'.pin (b,o) (List.mem_append_right _ (List.mem_append_right _ (xM hb q)))).2.1
   refine thn (ht _ s8 σ8 H8 _ I8 q8) fun bb s8' ⟨H8',I8',q8'⟩=>?_
   cases bb with
   | false =>
    have q8':=(show N σ8 H8' by simpa using q8');obtain ⟨m',hm,w10⟩:=hN _ _ q8';exact ⟨m',hm,i+1,σ8,_,I8'.unpinned,(pk I8').1,(pk I8').2,w10⟩
   | true =>
    have q8':=(show te σ8 H8' _ by simpa using q8');refine thn (he _ s8' σ8 H8' _ I8' q8') fun z s9 ⟨v9,H9,I9,r9,xs,hx9,hz9,n9⟩=>?_;refine thn (xw _ s9 σ8 H9 (.ref s2.heap.objs.size) [v9] (.ref s2.heap.objs.size) [z] (fun _ H'=>H'=upd H9 s2.heap.objs.size (.lst (xs++[v9]))) I9 rfl (.cons r9 .nil) ⟨s2.heap.objs.size,xs,v9,rfl,rfl,hx9,hz9,rfl⟩) fun y s10 ⟨v10,H10,I10,_,e10⟩=>?_;subst e10;obtain ⟨m',hm,w10⟩:=hN _ _ n9;exact ⟨m',hm,i+1,σ8,_,I10.unpinned,(pk I10).1,(pk I10).2,w10⟩
 exact codeAny_compStart_list loop (T.self _ 0 _ _ _ st4 loop)
theorem pe_compF0 {iter elt tst:Expr} {scope:Scope} {pos:Pos} {cl:List (Str×Addr)} {NY:List Str} {wi:TI} {g:TG} {tt:TT} {te:TE} {σ0:St->Hp->St->Prop} (hc:X.calm=true) (S:Sees X scope cl) (hi:PI X tg iter wi)
  (hY:∀ (s3:Shared) (H3:Hp) (fp:List Addr),PG (X.comp scope cl NY s3 H3 fp) tg g/\PT (X.comp scope cl NY s3 H3 fp) tst tt/\PE (X.comp scope cl NY s3 H3 fp) elt te)
  (h0:∀ (pins:List (Addr×Obj)) (σ:St) (H:Hp) (s3:Shared) (σY:St),Inv X pins σ H s3->σ0 σ H σY->σY.length=NY.length/\∀ (i:Nat) (x:Str) (v:V),NY[i]?=some x->σY[i]?=some (some v) ->
   ∃ c u,(((compEnvC scope cl 0 X.env).kindOf x=some .cell∨(compEnvC scope cl 0 X.env).kindOf x=some .free))/\cl.lookup x=some c/\RelV v u/\s3.heap.IsCell c (some u))
  (hs:∀ x,foldedSetIterable iter X.env x=pure x:=by intro _;rfl) :
  PE X (.ListComp elt [⟨tg,iter,[tst],0⟩] scope pos) (tCompF wi g tt te σ0):=by
 intro pins s σ H Q I h;rw [eval_ListComp];refine zhj (use:=none) hc S hi hY h0 hs I h fun C D H5 s6 e q=>?_;obtain ⟨m,hm⟩:=e.ns;exact ⟨m,hm,fun h' hs'=>⟨.ref D,H5,e.inv h' hs',rfl,q⟩⟩
end
abbrev tCompFC (wi:TI) (g:TG) (tt:TT) (te:TE) (cap:List (Option Nat)):TE:=tCompF wi g tt te fun σ _ σY=>σY=capt cap σ
section
variable {X:Cx} {tg:Expr}
theorem zga {iter elt tst:Expr} {scope:Scope} {pos:Pos} {wi:TI} {g:TG} {tt:TT} {te:TE} (NY:List Str) (cap:List (Option Nat)) (hc:X.calm=true) (hk:YQ X scope=true) (hcap:Xf X scope NY cap=true) (hi:PI X tg iter wi)
  (hY:∀ (s3:Shared) (H3:Hp) (fp:List Addr),PG (X.comp scope (ZE X.env scope) NY s3 H3 fp) tg g/\PT (X.comp scope (ZE X.env scope) NY s3 H3 fp) tst tt/\PE (X.comp scope (ZE X.env scope) NY s3 H3 fp) elt te)
  (hs:∀ x,foldedSetIterable iter X.env x=pure x:=by intro _;rfl):PE X (.ListComp elt [⟨tg,iter,[tst],0⟩] scope pos) (tCompFC wi g tt te cap):=by
 intro pins s σ H Q I h;have S:=Z2 I.ok hk;refine pe_compF0 (NY:=NY) hc S hi hY (fun pins σ H s3 σY I3 e=>?_) hs pins s σ H Q I h;subst e;exact Yb I3 (Z2 I3.ok hk) hcap
end
theorem zgs {lo:Int} {n:Nat} {D:Addr} {g:TG} {tt:TT} {te:TE} {σY:St} {H1:Hp} {Q:VK} (Pv:Nat->St->Hp->Prop) (h0:Pv 0 σY H1)
  (hs:∀ i σ H,i<n->Pv i σ H->g (.int (lo+i)) σ H fun σ3 H3=>tt σ3 H3 fun b H4=>if b=true then te σ3 H4 fun v H5=>∃ ys,H5 D=some (.lst ys)/\ys.length<sizeLine/\Pv (i+1) σ3 (upd H5 D (.lst (ys++[v]))) else Pv (i+1) σ3 H4) (hd:∀ σ H,Pv n σ H->Q (.ref D) H) :
  CompWF (Itr lo n) g tt te σY H1 D Q:=by
 refine ⟨fun i m σ H=>m=n-i/\i<=n/\Pv i σ H,⟨n,by simp,Nat.zero_le _,h0⟩,?_⟩;rintro i m σ H ⟨rfl,hi,p⟩;by_cases hlt:i<n
 ·refine .inr ⟨hlt,Pv (i+1),fun σ' H' p'=>⟨n-(i+1),by omega,rfl,hlt,p'⟩,fun x H' y=>?_⟩
  obtain ⟨e,y⟩:=y;subst e y;exact hs i σ _ hlt p
 ·have e:i=n:=by omega
  subst e;exact .inl ⟨Nat.le_refl _,hd σ H p⟩
section
variable {prog:Program} {w:World} {A:Around} {s:Shared}
end
section
variable {prog:Program} {w:World} {A:Around} {E:Value->Shared->Prop} {s:Shared}
end
section
variable {X:Cx} {e:Expr} {te:TE} {p p' pos pos':Pos}
end
end L2
namespace L2
open PySem PySem.Spec PyProof.Rows PyProof
section
variable {X:Cx}
theorem zgx:ZG X (.type "range") (fun xs H Q=>∃ j:Int,xs=[.int j]/\∀ l,H l=none->Q (.ref l) (upd H l (.rng 0 j))):=by
 intro pins s σ H xs us Q I r h;obtain ⟨j,rfl,q⟩:=h;obtain ⟨u,rfl,rx⟩:=vals1 r;obtain ⟨t,rfl⟩:=rx;refine call_range_1 ?_;exact ⟨.ref s.heap.objs.size,_,I.laid (fun b o e=>Heap.get?_push_of_some _ e) (Nat.le_refl _) (show ObjOk X.prog X.w _ _ _ (.rng 0 j) from ⟨_,_,_,Heap.get?_push_size _ rfl⟩),rfl,q _ (I.hok.fresh (Nat.le_refl _))⟩
def xZ (n:Nat):List Int:=(List.range n).map Int.ofNat
theorem vals_upto:∀ (n:Nat) (us:List Value),us.length=n->(∀ (i:Nat) (v:Value),us[i]?=some v->∃ t,v=Value.int (0+(i:Nat)*1) t)->Vals ((xZ n).map V.int) us:=by
 intro n
 induction n with
 | zero=>intro us hl _;cases us with
  | nil=>exact .nil
  | cons _ _=>cases hl
 | succ n ih =>
  intro us hl h;obtain ⟨ini,last,rfl⟩:∃ ini last,us=ini++[last]:=⟨us.dropLast,us.getLast (by intro e;rw [e] at hl;cases hl),(List.dropLast_concat_getLast _).symm⟩;have hi:ini.length=n:=by rw [List.length_append] at hl;simpa using hl
  have e:xZ (n+1)=xZ n++[(n:Int)]:=by unfold xZ;rw [List.range_succ,List.map_append];rfl
  rw [e,List.map_append];refine (ih ini hi fun i v hv=>?_).append (.cons ?_ .nil)
  ·have:i<ini.length:=(List.getElem?_eq_some_iff.mp hv).1
   exact h i v (by rw [List.getElem?_append_left this];exact hv)
  ·obtain ⟨t,rfl⟩:=h n last (by rw [List.getElem?_append_right (by omega),hi,Nat.sub_self];rfl)
   exact ⟨t,by show Value.int (0+(n:Int)*1) t=Value.int n t;congr 1;omega⟩
theorem Xt (hc:X.calm=true):ZG X (.type "list") (fun xs H Q=>∃ (p:Addr) (n:Nat),xs=[.ref p]/\H p=some (.rng 0 n)/\n<=1000/\∀ l,H l=none->Q (.ref l) (upd H l (.lst ((xZ n).map V.int)))):=by
 intro pins s σ H xs us Q I r h;obtain ⟨p,n,rfl,hp,hn,q⟩:=h;obtain ⟨u,rfl,rx⟩:=vals1 r;cases rx;obtain ⟨t,u,v,e⟩:=I.hok p _ hp;have hs:Builtin.Range.small 0 (n:Int) 1=true:=small_one (by omega) (by omega) (by omega) (by omega);have hz:Builtin.Range.rangeSize 0 (n:Int) 1=n:=by rw [rangeSize_one];split <;> omega
 have SL:(1000:Nat)<=sizeLine:=by decide
 refine call_list_range (I.ok.hd hc) e hs hz (by omega) fun h' tk acc c' hk hS ha=>?_;refine ⟨.ref s.heap.objs.size,_,I.laid (t':=tk) hk (Nat.le_refl _) (show ObjOk X.prog X.w _ h' _ (.lst ((xZ n).map V.int)) from ⟨?_,acc.toList,c',vals_upto n acc.toList ?_ ?_,?_⟩),rfl,q _ (I.hok.fresh (Nat.le_refl _))⟩
 ·rw [List.length_map];unfold xZ;rw [List.length_map,List.length_range];omega
 ·simpa using ha.1
 ·intro i v hv
  exact ha.2 i v (by simpa using hv)
 ·simpa using hS
end
end L2
namespace L2
open PySem PySem.Spec PyProof.Rows
section
variable {X:Cx}
end
end L2
namespace My
open PySem PySem.W PyProof.Rows
theorem Xg (x y:Int):Builtin.bitAnd x y / 2=Builtin.bitAnd (x / 2) (y / 2)/\Builtin.bitAnd x y % 2=(x % 2)*(y % 2):=by
 have h:=kbt_halves x y;rcases (by omega:x % 2=0∨x % 2=1) with a | a <;> rcases (by omega:y % 2=0∨y % 2=1) with b | b <;>
  (rw [a,b] at h ⊢;simp at h ⊢;omega)
theorem zc0 (x y:Int):Builtin.bitOr x y / 2=Builtin.bitOr (x / 2) (y / 2)/\Builtin.bitOr x y % 2=max (x % 2) (y % 2):=by
 rw [bitOr_and,bitOr_and];have h:=kbt_halves x y;rcases (by omega:x % 2=0∨x % 2=1) with a | a <;> rcases (by omega:y % 2=0∨y % 2=1) with b | b <;>
  (rw [a,b] at h ⊢;simp at h;omega)
theorem YF (x y:Int):Builtin.bitXor x y / 2=Builtin.bitXor (x / 2) (y / 2)/\Builtin.bitXor x y % 2=(x % 2+y % 2) % 2:=by
 rw [bitXor_and,bitXor_and];have h:=kbt_halves x y;rcases (by omega:x % 2=0∨x % 2=1) with a | a <;> rcases (by omega:y % 2=0∨y % 2=1) with b | b <;>
  (rw [a,b] at h ⊢;simp at h;omega)
theorem xD (x:Int) (k:Nat):x / 2 ^ (k+1)=x / 2 / 2 ^ k:=by
 rw [Int.ediv_ediv_of_nonneg (by decide),Int.pow_succ,Int.mul_comm]
theorem and_bit (k:Nat):∀ x y:Int,Builtin.bitAnd x y / 2 ^ k % 2=(x / 2 ^ k % 2)*(y / 2 ^ k % 2):=by
 induction k with
 | zero=>intro x y;simpa using (Xg x y).2
 | succ k ih=>intro x y;rw [xD,xD,xD,(Xg x y).1,ih]
theorem or_bit (k:Nat):∀ x y:Int,Builtin.bitOr x y / 2 ^ k % 2=max (x / 2 ^ k % 2) (y / 2 ^ k % 2):=by
 induction k with
 | zero=>intro x y;simpa using (zc0 x y).2
 | succ k ih=>intro x y;rw [xD,xD,xD,(zc0 x y).1,ih]
theorem xor_bit (k:Nat):∀ x y:Int,Builtin.bitXor x y / 2 ^ k % 2=(x / 2 ^ k % 2+y / 2 ^ k % 2) % 2:=by
 induction k with
 | zero=>intro x y;simpa using (YF x y).2
 | succ k ih=>intro x y;rw [xD,xD,xD,(YF x y).1,ih]
def In (n:Nat) (x:Int):Prop:=-(2 ^ n)<=x/\x<2 ^ n
theorem zc3 {n:Nat} {x:Int}:In (n+1) x↔In n (x / 2):=by
 unfold In;rw [Int.pow_succ];constructor
 ·intro h;omega
 ·intro h;omega
theorem ZM {x:Int} (h:In 0 x):x=0∨x=-1:=by
 unfold In at h;omega
theorem and_in (n:Nat):∀ x y:Int,In n x->In n y->In n (Builtin.bitAnd x y):=by
 induction n with
 | zero =>
  intro x y hx hy;rcases ZM hx with a | a <;> rcases ZM hy with b | b <;> (subst a;subst b;unfold In;decide)
 | succ n ih=>intro x y hx hy;rw [zc3] at *;rw [(Xg x y).1];exact ih _ _ hx hy
theorem or_in (n:Nat):∀ x y:Int,In n x->In n y->In n (Builtin.bitOr x y):=by
 induction n with
 | zero =>
  intro x y hx hy;rcases ZM hx with a | a <;> rcases ZM hy with b | b <;> (subst a;subst b;unfold In;decide)
 | succ n ih=>intro x y hx hy;rw [zc3] at *;rw [(zc0 x y).1];exact ih _ _ hx hy
theorem xor_in (n:Nat):∀ x y:Int,In n x->In n y->In n (Builtin.bitXor x y):=by
 induction n with
 | zero =>
  intro x y hx hy;rcases ZM hx with a | a <;> rcases ZM hy with b | b <;> (subst a;subst b;unfold In;decide)
 | succ n ih=>intro x y hx hy;rw [zc3] at *;rw [(YF x y).1];exact ih _ _ hx hy
def kept (n:Int):Int:=Int.fmod (n+9223372036854775808) 18446744073709551616-9223372036854775808
def Kin (x:Int):Prop:=-9223372036854775808<=x/\x<=9223372036854775807
end My
namespace L2
open PySem PySem.Spec PyProof.Rows
section
variable {X:Cx} {σ₀:St}
end
end L2
namespace FM
open PySem L2
abbrev Kin (x:Int):Prop:=-9223372036854775808<=x/\x<=9223372036854775807
def kept (n:Int):Int:=(n+9223372036854775808) % (2*9223372036854775808)-9223372036854775808
def signs:List Str:=["+","-","*","/","rest","least","most","<","=","&","|","^"]
def doneR (sg:Str) (a b:Int):Option Int :=
 if sg="+" then some (kept (a+b)) else if sg="-" then some (kept (a-b)) else if sg="*" then some (kept (a*b))
 else if sg="/" then (if b=0 then none else some (kept (a.fdiv b))) else if sg="rest" then (if b=0 then none else some (a.fmod b))
 else if sg="least" then some (if b<a then b else a) else if sg="most" then some (if b > a then b else a)
 else if sg="<" then some (if a<b then 1 else 0) else if sg="=" then some (if a=b then 1 else 0)
 else if sg="&" then some (Builtin.bitAnd a b) else if sg="|" then some (Builtin.bitOr a b) else some (Builtin.bitXor a b)
def edges:List Int:=[-9223372036854775808,9223372036854775807,-1,4294967296,-9223372036854775807,3037000500]
def yz (c:Int):Int :=
 if c % 4=0 then c / 4 % 7-3 else if c % 4=1 then edges.getD (c / 4 % 6).toNat 0 else if c % 4=2 then c / 4*48271 % 2001-1000
 else c / 4*2862933555777941757 % 18446744073709551616-9223372036854775808
theorem edge_at:∀ k:Nat,k<6->(edges.map V.int)[k]?=some (V.int (edges.getD k 0))/\Kin (edges.getD k 0):=by decide
def bitDue (sg:Str) (a b:Int):Int:=if sg="&" then a*b else if sg="|" then (if b > a then b else a) else (a+b) % 2
theorem pw_pos (n:Nat):(0:Int)<2 ^ n:=by
 induction n with
 | zero=>decide
 | succ n ih=>rw [Int.pow_succ];omega
theorem fbit (x:Int) (n:Nat):x.fdiv (2 ^ n) % 2=x / 2 ^ n % 2:=by rw [Int.fdiv_eq_ediv_of_nonneg _ (Int.le_of_lt (pw_pos n))]
theorem in63 {x:Int}:Kin x↔My.In 63 x:=by
 unfold Kin My.In;have e:(2:Int) ^ 63=9223372036854775808:=by decide
 rw [e];omega
theorem bits_ok {sg:Str} (hs:sg="&"∨sg="|"∨sg="^") {a b:Int} (ha:Kin a) (hb:Kin b):∃ r,doneR sg a b=some r/\Kin r/\∀ n:Nat,r.fdiv (2 ^ n) % 2=bitDue sg (a.fdiv (2 ^ n) % 2) (b.fdiv (2 ^ n) % 2):=by
 rcases hs with rfl | rfl | rfl
 ·exact ⟨_,rfl,in63.mpr (My.and_in 63 a b (in63.mp ha) (in63.mp hb)),fun n=>by rw [fbit,fbit,fbit,My.and_bit];rfl⟩
 ·refine ⟨_,rfl,in63.mpr (My.or_in 63 a b (in63.mp ha) (in63.mp hb)),fun n=>?_⟩
  rw [fbit,fbit,fbit,My.or_bit];show max _ _=if _ > _ then _ else _
  split <;> omega
 ·exact ⟨_,rfl,in63.mpr (My.xor_in 63 a b (in63.mp ha) (in63.mp hb)),fun n=>by rw [fbit,fbit,fbit,My.xor_bit];rfl⟩
theorem YB (n:Int):Kin (kept n):=by unfold kept;omega
theorem done_in {sg:Str} (hs:sg∈signs) {a b r:Int} (ha:Kin a) (hb:Kin b) (h:doneR sg a b=some r):Kin r:=by
 simp only [signs,List.mem_cons,List.not_mem_nil,or_false] at hs
 have bit:(sg="&"∨sg="|"∨sg="^")->Kin r:=fun z=>by
  obtain ⟨r',e,k,_⟩:=bits_ok z ha hb;rw [e] at h;cases h;exact k
 rcases hs with rfl | rfl | rfl | rfl | rfl | rfl | rfl | rfl | rfl | rfl | rfl | rfl
 ·cases h;exact YB _
 ·cases h;exact YB _
 ·cases h;exact YB _
 ·have h':(if b=0 then none else some (kept (a.fdiv b)))=some r:=h
  split at h'
  ·cases h'
  ·cases h';exact YB _
 ·have h':(if b=0 then none else some (a.fmod b))=some r:=h
  split at h'
  ·cases h'
  ·rename_i z
   cases h';rcases (by omega:0<b∨b<0) with p | p
   ·have h1:=Int.fmod_nonneg_of_pos a p
    have h2:=Int.fmod_lt_of_pos a p;omega
   ·have h1:a.fmod b<=0:=by
     have e:=Int.neg_fmod_neg a b;have h3:=Int.fmod_nonneg_of_pos (-a) (show 0 < -b by omega);omega
    have h2:b<a.fmod b:=by
     have e:=Int.neg_fmod_neg a b;have h3:=Int.fmod_lt_of_pos (-a) (show 0 < -b by omega);omega
    omega
 ·have h':some (if b<a then b else a)=some r:=h
  cases h';split <;> omega
 ·have h':some (if b > a then b else a)=some r:=h
  cases h';split <;> omega
 ·have h':some (if a<b then (1:Int) else 0)=some r:=h
  cases h';split <;> omega
 ·have h':some (if a=b then (1:Int) else 0)=some r:=h
  cases h';split <;> omega
 ·exact bit (.inl rfl)
 ·exact bit (.inr (.inl rfl))
 ·exact bit (.inr (.inr rfl))
inductive Fm | num (n:Int) | here | cell (r:Int) | shi (r by' other:Int) | loc (at':Int) | at' (r:Int) (p:Fm) | pair (sg:Str) (l r:Fm) | cho (t l r:Fm)
inductive Res | ok (n:Int) | nought | outside
 deriving DecidableEq
structure SpotD where
 lens:List Int
 cells:List Int
 place:Int
 own:List Int
structure Cs where
 num:Addr
 here:Addr
 cell:Addr
 shi:Addr
 loc:Addr
 at':Addr
 pair:Addr
 cho:Addr
 spot:Addr
def FormAt (c:Cs) (H:Hp):Fm->Addr->Prop
 | .num n,x=>∃ dx,H x=some (.ins c.num dx [("number",.int n)])
 | .here,x=>∃ dx,H x=some (.ins c.here dx [])
 | .cell r,x=>∃ dx,H x=some (.ins c.cell dx [("row",.int r)])
 | .shi r b o,x=>∃ dx,H x=some (.ins c.shi dx [("row",.int r),("by",.int b),("other",.int o)])
 | .loc a,x=>∃ dx,H x=some (.ins c.loc dx [("at",.int a)])
 | .at' r p,x=>∃ dx y,H x=some (.ins c.at' dx [("row",.int r),("place",.ref y)])/\FormAt c H p y
 | .pair sg l r,x=>∃ dx y z,H x=some (.ins c.pair dx [("sign",.str sg),("left",.ref y),("right",.ref z)])/\FormAt c H l y/\FormAt c H r z
 | .cho t l r,x=>∃ dx u y z,H x=some (.ins c.cho dx [("test",.ref u),("left",.ref y),("right",.ref z)])/\FormAt c H t u/\FormAt c H l y/\FormAt c H r z
theorem FormAt.same {c:Cs} {H H':Hp} (s:Same H H'):∀ {F:Fm} {x:Addr},FormAt c H F x->FormAt c H' F x
 | .num _,_,⟨dx,h⟩=>⟨dx,s _ _ h⟩
 | .here,_,⟨dx,h⟩=>⟨dx,s _ _ h⟩
 | .cell _,_,⟨dx,h⟩=>⟨dx,s _ _ h⟩
 | .shi _ _ _,_,⟨dx,h⟩=>⟨dx,s _ _ h⟩
 | .loc _,_,⟨dx,h⟩=>⟨dx,s _ _ h⟩
 | .at' _ _,_,⟨dx,y,h,p⟩=>⟨dx,y,s _ _ h,FormAt.same s p⟩
 | .pair _ _ _,_,⟨dx,y,z,h,p,q⟩=>⟨dx,y,z,s _ _ h,FormAt.same s p,FormAt.same s q⟩
 | .cho _ _ _,_,⟨dx,u,y,z,h,o,p,q⟩=>⟨dx,u,y,z,s _ _ h,FormAt.same s o,FormAt.same s p,FormAt.same s q⟩
structure SpotAt (c:Cs) (K:PySem.W.Frag) (H:Hp) (x:Addr) (S:SpotD):Prop where
 ex:∃ dx l f e o,H x=some (.ins c.spot dx [("lengths",.ref l),("functions",.ref f),("cells",.ref e),("place",.int S.place),("own",.ref o)])/\SqL K H l (S.lens.map V.int)/\SqL K H e (S.cells.map V.int)/\SqL K H o (S.own.map V.int)
theorem SpotAt.same {c:Cs} {K:PySem.W.Frag} {H H':Hp} {x:Addr} {S:SpotD} (s:Same H H') (h:SpotAt c K H x S):SpotAt c K H' x S:=by
 obtain ⟨dx,l,f,e,o,h1,h2,h3,h4⟩:=h.ex;exact ⟨dx,l,f,e,o,s _ _ h1,zE h2 s,zE h3 s,zE h4 s⟩
def SpotD.start (S:SpotD) (r:Int):Int:=(S.lens.take r.toNat).sum
def SpotD.len (S:SpotD) (r:Int):Int:=S.lens.getD r.toNat 0
def SpotD.cellAt (S:SpotD) (r q:Int):Int:=S.cells.getD (S.start r+q).toNat 0
structure SpotOk (S:SpotD):Prop where
 ln:∀ v∈S.lens,0<=v
 tot:(S.cells.length:Int)=S.lens.sum
 ck:∀ v∈S.cells,Kin v
 ok':∀ v∈S.own,Kin v
 pl:Kin S.place
def SpotD.has (S:SpotD) (r:Int):Prop:=0<=r/\r.toNat<S.lens.length
theorem cell_in {S:SpotD} (o:SpotOk S) {r q:Int} (h:S.has r) (h0:0<=q) (h1:q<S.len r):0<=S.start r+q/\S.start r+q<S.cells.length/\Kin (S.cellAt r q):=by
 have m:=zfu o.ln r.toNat;have m2:=zfu o.ln (r.toNat+1);have e:=Xk h.2;have t:=o.tot;unfold SpotD.start SpotD.len at *;have a:0<=(S.lens.take r.toNat).sum+q:=by omega
 have b:(S.lens.take r.toNat).sum+q<S.cells.length:=by omega
 refine ⟨a,b,?_⟩;unfold SpotD.cellAt SpotD.start;exact o.ck _ (L2.getD_mem (by omega))
def ev (S:SpotD):Fm->Res
 | .num n=>.ok n
 | .here=>.ok S.place
 | .cell r=>if S.len r=1 then .ok (S.cellAt r 0) else .ok (S.cellAt r S.place)
 | .shi r b o=>if 0<=S.place+b/\S.place+b<S.len r then .ok (S.cellAt r (S.place+b)) else .ok o
 | .loc a=>.ok (S.own.getD a.toNat 0)
 | .at' r p=>match ev S p with
  | .ok q=>if 0<=q/\q<S.len r then .ok (S.cellAt r q) else .outside
  | e=>e
 | .pair sg l r=>match ev S l with
  | .ok a=>(match ev S r with
   | .ok b=>(match doneR sg a b with
    | some n=>.ok n
    | none=>.nought)
   | e=>e)
  | e=>e
 | .cho t l r=>match ev S t with
  | .ok a=>if a≠0 then ev S l else ev S r
  | e=>e
def WF (S:SpotD):Fm->Prop
 | .num n=>Kin n
 | .here=>True
 | .cell r=>S.has r/\1<=S.len r/\(S.len r≠1->0<=S.place/\S.place<S.len r)
 | .shi r _ o=>S.has r/\Kin o
 | .loc a=>0<=a/\a.toNat<S.own.length
 | .at' r p=>S.has r/\WF S p
 | .pair sg l r=>sg∈signs/\WF S l/\WF S r
 | .cho t l r=>WF S t/\WF S l/\WF S r
theorem Zf {S:SpotD} (o:SpotOk S):∀ {F:Fm} {n:Int},WF S F->ev S F=.ok n->Kin n
 | .num _,_,h,e=>by cases e;exact h
 | .here,_,_,e=>by cases e;exact o.pl
 | .cell r,n,h,e=>by
  unfold ev at e
  split at e
  ·rename_i z;cases e;exact (cell_in o h.1 (by omega) (by omega)).2.2
  ·rename_i z;cases e;exact (cell_in o h.1 (h.2.2 z).1 (h.2.2 z).2).2.2
 | .shi r b o',n,h,e=>by
  unfold ev at e
  split at e
  ·rename_i z;cases e;exact (cell_in o h.1 z.1 z.2).2.2
  ·cases e;exact h.2
 | .loc a,n,h,e=>by cases e;exact o.ok' _ (L2.getD_mem h.2)
 | .at' r p,n,h,e=>by
  unfold ev at e
  split at e
  ·rename_i q hq
   split at e
   ·rename_i z;cases e;exact (cell_in o h.1 z.1 z.2).2.2
   ·cases e
  ·rename_i e' hq;exact absurd e (hq n)
 | .pair sg l r,n,h,e=>by
  unfold ev at e
  split at e
  ·rename_i a ha
   split at e
   ·rename_i b hb
    split at e
    ·rename_i m hm;cases e;exact done_in h.1 (Zf o h.2.1 ha) (Zf o h.2.2 hb) hm
    ·cases e
   ·rename_i e' hq;exact absurd e (hq n)
  ·rename_i e' hq;exact absurd e (hq n)
 | .cho t l r,n,h,e=>by
  unfold ev at e
  split at e
  ·split at e
   ·exact Zf o h.2.1 e
   ·exact Zf o h.2.2 e
  ·rename_i e' hq;exact absurd e (hq n)
def Out (CN OU:Addr) (r:Res) (H:Hp) (Q:VK) (E:XK):Prop:=∀ H',Same H H'->match r with
 | .ok n=>Q (.int n) H'
 | .nought=>E (.ref CN) none H'
 | .outside=>E (.ref OU) none H'
theorem Out.same {CN OU:Addr} {r:Res} {H H':Hp} {Q:VK} {E:XK} (o:Out CN OU r H Q E) (s:Same H H'):Out CN OU r H' Q E:=fun H2 s2=>o H2 (s.trans s2)
end FM
namespace L2
open PySem PySem.Spec PyProof.Rows
section
variable {X:Cx} {pins:List (Addr×Obj)} {σ:St} {H:Hp} {s:Shared} {e:Addr} {cls:Value}
end
section
variable {prog:Program} {w:World} {A:Around} {R:Result->Shared->Prop} {s:Shared}
end
section
variable {X:Cx} {pins:List (Addr×Obj)} {σ:St} {H H':Hp} {s s':Shared} {e C T:Addr}
end
section
variable {X:Cx} {tg:Expr}
end
structure MkN (K:PySem.W.Frag) (C:Addr):Prop where
 makes:PySem.W.makesIn K C=true
 init:PySem.W.findIn K (.ref C) "__init__"=some (some (.builtin "object.__init__"))
 kp:PySem.W.keepIn K (.ref C)=true
def tMakeN (C:Addr):TE:=fun _ H Q=>∀ x dx,H x=none->H dx=none->dx≠x->Q (.ref x) (upd (upd H dx (.own x)) x (.ins C dx []))
section
variable {X:Cx} {C:Addr} {x:Str} {p pos:Pos}
theorem pe_makeN (M:MkN X.K C) (hg:Gl X x) (hm:X.mg x=some (.ref C)) (hdb:(x == ("__debug__":Str))=false:=by decide):PE X (.Call (.Name x p) [] [] pos) (tMakeN C):=by
 intro pins s σ H Q I h;refine wpAny_Call_Name_kw (YA I hg hm ?_ hdb);refine PySem.W.callWith_K0 I.kIn M.kp ?_;have I2:=Inv.made (C:=C) I;have q:=h (s.heap.objs.size+1) s.heap.objs.size (I.hok.fresh (Nat.le_succ _)) (I.hok.fresh (Nat.le_refl _)) (Nat.ne_of_lt (Nat.lt_succ_self _));refine wpAny_call (make_map0 I.kIn M.makes M.init (fun self=>PySem.W.Looks.of_pure (PySem.W.oi_bind self)) ?_);have Y:=PySem.W.makes_of (M:=model X.prog X.w) I.kIn M.makes
 have e2:((s.heap.push PySem.W.emptyDict).push (PySem.W.instObj C s.heap.objs.size)).get? (s.heap.objs.size+1)=some (PySem.W.instObj C s.heap.objs.size):=by
  have:=Heap.get?_push_size (s.heap.push PySem.W.emptyDict) (o:=PySem.W.instObj C s.heap.objs.size) rfl
  rwa [Heap.size_push] at this
 have t1:PySem.W.Looks (model X.prog X.w) ((s.heap.push PySem.W.emptyDict).push (PySem.W.instObj C s.heap.objs.size)) (typeOf (.ref (s.heap.objs.size+1))) (.ref C):=(PySem.W.Looks.ld e2).andThen .now;have kp:∀ b o,s.heap.get? b=some o->((s.heap.push PySem.W.emptyDict).push (PySem.W.instObj C s.heap.objs.size)).get? b=some o:=fun b o e=>Heap.get?_push_of_some _ (Heap.get?_push_of_some _ e);have t2:PySem.W.Looks (model X.prog X.w) ((s.heap.push PySem.W.emptyDict).push (PySem.W.instObj C s.heap.objs.size)) (isInstance (.ref (s.heap.objs.size+1)) (.type "object")) true:=t1.andThen (Y.top.keeps kp);refine codeAny_call_builtin PySem.W.oi_plain PySem.W.entry_oi (PySem.W.check_slot PySem.W.oi_kind PySem.W.oi_split t2 (PySem.W.oi_args _) ?_);rw [PySem.W.oi_run];exact wpAny_pure ⟨rfl,.ref (s.heap.objs.size+1),_,I2,rfl,q⟩
end
end L2
namespace F2
open PySem L2
abbrev Kin:=FM.Kin
abbrev SpotD:=FM.SpotD
abbrev Res:=FM.Res
mutual
inductive Fm
 | num (n:Int) | here | cell (r:Int) | shi (r b o:Int) | loc (a:Int) | at' (r:Int) (p:Fm) | pair (sg:Str) (l r:Fm) | cho (t l r:Fm) | call (a:Int) (hs:Fms)
inductive Fms
 | nil | cons (f:Fm) (r:Fms)
end
instance:Inhabited Fm:=⟨.here⟩
def Fms.len:Fms->Nat
 | .nil=>0
 | .cons _ r=>r.len+1
structure Cs extends FM.Cs where
 call:Addr
mutual
def FormAt (c:Cs) (H:Hp):Fm->Addr->Prop
 | .num n,x=>∃ dx,H x=some (.ins c.num dx [("number",.int n)])
 | .here,x=>∃ dx,H x=some (.ins c.here dx [])
 | .cell r,x=>∃ dx,H x=some (.ins c.cell dx [("row",.int r)])
 | .shi r b o,x=>∃ dx,H x=some (.ins c.shi dx [("row",.int r),("by",.int b),("other",.int o)])
 | .loc a,x=>∃ dx,H x=some (.ins c.loc dx [("at",.int a)])
 | .at' r p,x=>∃ dx y,H x=some (.ins c.at' dx [("row",.int r),("place",.ref y)])/\FormAt c H p y
 | .pair sg l r,x=>∃ dx y z,H x=some (.ins c.pair dx [("sign",.str sg),("left",.ref y),("right",.ref z)])/\FormAt c H l y/\FormAt c H r z
 | .cho t l r,x=>∃ dx u y z,H x=some (.ins c.cho dx [("test",.ref u),("left",.ref y),("right",.ref z)])/\FormAt c H t u/\FormAt c H l y/\FormAt c H r z
 | .call a hs,x=>∃ dx l ys,H x=some (.ins c.call dx [("at",.int a),("handed",.ref l)])/\H l=some (.lst (ys.map V.ref))/\FormsAt c H hs ys
def FormsAt (c:Cs) (H:Hp):Fms->List Addr->Prop
 | .nil,ys=>ys=[]
 | .cons f r,ys=>∃ y t,ys=y::t/\FormAt c H f y/\FormsAt c H r t
end
mutual
theorem FormAt.same {c:Cs} {H H':Hp} (s:Same H H'):∀ {F:Fm} {x:Addr},FormAt c H F x->FormAt c H' F x
 | .num _,_,h=>by obtain ⟨dx,h⟩:=h;exact ⟨dx,s _ _ h⟩
 | .here,_,h=>by obtain ⟨dx,h⟩:=h;exact ⟨dx,s _ _ h⟩
 | .cell _,_,h=>by obtain ⟨dx,h⟩:=h;exact ⟨dx,s _ _ h⟩
 | .shi _ _ _,_,h=>by obtain ⟨dx,h⟩:=h;exact ⟨dx,s _ _ h⟩
 | .loc _,_,h=>by obtain ⟨dx,h⟩:=h;exact ⟨dx,s _ _ h⟩
 | .at' _ _,_,h=>by obtain ⟨dx,y,h,p⟩:=h;exact ⟨dx,y,s _ _ h,FormAt.same s p⟩
 | .pair _ _ _,_,h=>by obtain ⟨dx,y,z,h,p,q⟩:=h;exact ⟨dx,y,z,s _ _ h,FormAt.same s p,FormAt.same s q⟩
 | .cho _ _ _,_,h=>by obtain ⟨dx,u,y,z,h,o,p,q⟩:=h;exact ⟨dx,u,y,z,s _ _ h,FormAt.same s o,FormAt.same s p,FormAt.same s q⟩
 | .call _ _,_,h=>by obtain ⟨dx,l,ys,h,e,p⟩:=h;exact ⟨dx,l,ys,s _ _ h,s _ _ e,FormsAt.same s p⟩
theorem FormsAt.same {c:Cs} {H H':Hp} (s:Same H H'):∀ {F:Fms} {ys:List Addr},FormsAt c H F ys->FormsAt c H' F ys
 | .nil,_,h=>h
 | .cons _ _,_,h=>by obtain ⟨y,t,e,p,q⟩:=h;exact ⟨y,t,e,FormAt.same s p,FormsAt.same s q⟩
end
theorem FormsAt.len {c:Cs} {H:Hp}:∀ {F:Fms} {ys:List Addr},FormsAt c H F ys->ys.length=F.len
 | .nil,_,h=>by cases (show _=[] from h);rfl
 | .cons _ r,_,h=>by
  obtain ⟨y,t,e,_,q⟩:=h;subst e;show t.length+1=r.len+1;rw [FormsAt.len q]
abbrev Fn:=Nat×Fm
def bodyOf (fs:List Fn) (a:Int):Fm:=(fs.getD a.toNat (0,.here)).2
def ZN (fs:List Fn) (a:Int):Nat:=(fs.getD a.toNat (0,.here)).1
structure FunsAt (c:Cs) (K:PySem.W.Frag) (H:Hp) (f:Addr) (fs:List Fn):Prop where
 ex:∃ ts:List Addr,SqL K H f (ts.map V.ref)/\ts.length=fs.length/\∀ i,i<fs.length->∃ b,SqT K H (ts.getD i 0) [.int ((fs.getD i (0,.here)).1:Int),.ref b]/\FormAt c H (fs.getD i (0,.here)).2 b
theorem sqt_same {K:PySem.W.Frag} {H H':Hp} {a:Addr} {xs:List V} (h:SqT K H a xs) (s:Same H H'):SqT K H' a xs:=by
 rcases h with h | h
 ·exact .inl (h.imp (fun z=>s _ _ z) fun ⟨o,z⟩=>⟨o,s _ _ z⟩)
 ·exact .inr h
theorem FunsAt.same {c:Cs} {K:PySem.W.Frag} {H H':Hp} {f:Addr} {fs:List Fn} (h:FunsAt c K H f fs) (s:Same H H'):FunsAt c K H' f fs:=by
 obtain ⟨ts,a,b,d⟩:=h.ex;exact ⟨ts,zE a s,b,fun i hi=>let ⟨x,p,q⟩:=d i hi;⟨x,sqt_same p s,q.same s⟩⟩
structure SpotAt (c:Cs) (K:PySem.W.Frag) (H:Hp) (x:Addr) (S:SpotD) (fs:List Fn):Prop where
 ex:∃ dx l f e o,H x=some (.ins c.spot dx [("lengths",.ref l),("functions",.ref f),("cells",.ref e),("place",.int S.place),("own",.ref o)])/\SqL K H l (S.lens.map V.int)/\FunsAt c K H f fs/\SqL K H e (S.cells.map V.int)/\SqL K H o (S.own.map V.int)
theorem SpotAt.same {c:Cs} {K:PySem.W.Frag} {H H':Hp} {x:Addr} {S:SpotD} {fs:List Fn} (s:Same H H') (h:SpotAt c K H x S fs):SpotAt c K H' x S fs:=by
 obtain ⟨dx,l,f,e,o,h1,h2,h3,h4,h5⟩:=h.ex;exact ⟨dx,l,f,e,o,s _ _ h1,zE h2 s,h3.same s,zE h4 s,zE h5 s⟩
inductive RL | ok (l:List Int) | bad (e:Res)
mutual
def ev (cl:Int->List Int->Res) (S:SpotD):Fm->Res
 | .num n=>.ok n
 | .here=>.ok S.place
 | .cell r=>if S.len r=1 then .ok (S.cellAt r 0) else .ok (S.cellAt r S.place)
 | .shi r b o=>if 0<=S.place+b/\S.place+b<S.len r then .ok (S.cellAt r (S.place+b)) else .ok o
 | .loc a=>.ok (S.own.getD a.toNat 0)
 | .at' r p=>match ev cl S p with
  | .ok q=>if 0<=q/\q<S.len r then .ok (S.cellAt r q) else .outside
  | e=>e
 | .pair sg l r=>match ev cl S l with
  | .ok a=>(match ev cl S r with
   | .ok b=>(match FM.doneR sg a b with
    | some n=>.ok n
    | none=>.nought)
   | e=>e)
  | e=>e
 | .cho t l r=>match ev cl S t with
  | .ok a=>if a≠0 then ev cl S l else ev cl S r
  | e=>e
 | .call a hs=>match evs cl S hs with
  | .ok l=>cl a l
  | .bad e=>e
def evs (cl:Int->List Int->Res) (S:SpotD):Fms->RL
 | .nil=>.ok []
 | .cons f r=>match ev cl S f with
  | .ok n=>(match evs cl S r with
   | .ok l=>.ok (n::l)
   | .bad e=>.bad e)
  | e=>.bad e
end
def Zv (fs:List Fn) (S:SpotD):Nat->Int->List Int->Res
 | 0,_,_=>.outside
 | k+1,a,l=>ev (Zv fs S k) { S with own:=l } (bodyOf fs a)
abbrev worth (fs:List Fn) (k:Nat) (S:SpotD) (F:Fm):Res:=ev (Zv fs S k) S F
mutual
def WF (fs:List Fn) (k:Nat) (S:SpotD):Fm->Prop
 | .num n=>Kin n
 | .here=>True
 | .cell r=>S.has r/\1<=S.len r/\(S.len r≠1->0<=S.place/\S.place<S.len r)
 | .shi r _ o=>S.has r/\Kin o
 | .loc a=>0<=a/\a.toNat<S.own.length
 | .at' r p=>S.has r/\WF fs k S p
 | .pair sg l r=>sg∈FM.signs/\WF fs k S l/\WF fs k S r
 | .cho t l r=>WF fs k S t/\WF fs k S l/\WF fs k S r
 | .call a hs=>0<=a/\a.toNat<k/\a.toNat<fs.length/\hs.len=ZN fs a/\WFs fs k S hs
def WFs (fs:List Fn) (k:Nat) (S:SpotD):Fms->Prop
 | .nil=>True
 | .cons f r=>WF fs k S f/\WFs fs k S r
end
def Bodies (fs:List Fn):Prop:=∀ (a:Int) (S:SpotD) (l:List Int),0<=a->a.toNat<fs.length->l.length=ZN fs a->WF fs a.toNat { S with own:=l } (bodyOf fs a)
mutual
theorem WF.mono {fs:List Fn} {j k:Nat} {S:SpotD} (h:j<=k):∀ {F:Fm},WF fs j S F->WF fs k S F
 | .num _,w=>w
 | .here,w=>w
 | .cell _,w=>w
 | .shi _ _ _,w=>w
 | .loc _,w=>w
 | .at' _ _,w=>⟨w.1,WF.mono h w.2⟩
 | .pair _ _ _,w=>⟨w.1,WF.mono h w.2.1,WF.mono h w.2.2⟩
 | .cho _ _ _,w=>⟨WF.mono h w.1,WF.mono h w.2.1,WF.mono h w.2.2⟩
 | .call _ _,w=>⟨w.1,by have:=w.2.1;omega,w.2.2.1,w.2.2.2.1,WFs.mono h w.2.2.2.2⟩
theorem WFs.mono {fs:List Fn} {j k:Nat} {S:SpotD} (h:j<=k):∀ {F:Fms},WFs fs j S F->WFs fs k S F
 | .nil,_=>trivial
 | .cons _ _,w=>⟨WF.mono h w.1,WFs.mono h w.2⟩
end
mutual
theorem Zr {fs:List Fn} (hb:Bodies fs) {S T:SpotD} {j k k':Nat} (h1:j<=k) (h2:j<=k') (ih:∀ a l,0<=a->a.toNat<j->a.toNat<fs.length->l.length=ZN fs a->Zv fs T k a l=Zv fs T k' a l):∀ {F:Fm},WF fs j S F->ev (Zv fs T k) S F=ev (Zv fs T k') S F
 | .num _,_=>rfl
 | .here,_=>rfl
 | .cell _,_=>rfl
 | .shi _ _ _,_=>rfl
 | .loc _,_=>rfl
 | .at' r p,w=>by unfold ev;rw [Zr hb h1 h2 ih w.2]
 | .pair sg l r,w=>by unfold ev;rw [Zr hb h1 h2 ih w.2.1,Zr hb h1 h2 ih w.2.2]
 | .cho t l r,w=>by unfold ev;rw [Zr hb h1 h2 ih w.1,Zr hb h1 h2 ih w.2.1,Zr hb h1 h2 ih w.2.2]
 | .call a hs,w=>by
  unfold ev;obtain ⟨e,el⟩:=zgm hb h1 h2 ih w.2.2.2.2;rw [e]
  cases z:evs (Zv fs T k') S hs with
  | bad _=>rfl
  | ok l =>
   exact ih a l w.1 w.2.1 w.2.2.1 (by rw [el l z];exact w.2.2.2.1)
theorem zgm {fs:List Fn} (hb:Bodies fs) {S T:SpotD} {j k k':Nat} (h1:j<=k) (h2:j<=k') (ih:∀ a l,0<=a->a.toNat<j->a.toNat<fs.length->l.length=ZN fs a->Zv fs T k a l=Zv fs T k' a l):∀ {F:Fms},WFs fs j S F->evs (Zv fs T k) S F=evs (Zv fs T k') S F/\∀ l,evs (Zv fs T k') S F=.ok l->l.length=F.len
 | .nil,_=>⟨rfl,fun l e=>by cases (show RL.ok []=RL.ok l from e);rfl⟩
 | .cons f r,w=>by
  have e1:=Zr hb h1 h2 ih w.1;obtain ⟨e2,el⟩:=zgm hb h1 h2 ih w.2;refine ⟨by unfold evs;rw [e1,e2],fun l e=>?_⟩;unfold evs at e
  split at e
  ·split at e
   ·rename_i l' z
    cases e;show l'.length+1=r.len+1;rw [el l' z]
   ·cases e
  ·cases e
end
theorem evs_bad {cl:Int->List Int->Res} {S:SpotD} (n:Int):∀ {F:Fms},evs cl S F≠.bad (.ok n)
 | .nil=>fun e=>by cases (show RL.ok []=RL.bad _ from e)
 | .cons f r=>fun e=>by
  unfold evs at e
  split at e
  ·split at e
   ·cases e
   ·rename_i e' z
    cases e;exact evs_bad n z
  ·rename_i e' z
   injection e with e
   exact z n e
mutual
theorem Zf {fs:List Fn} {S:SpotD} (o:FM.SpotOk S) {k:Nat} {cl:Int->List Int->Res} (hc:∀ a l n,0<=a->a.toNat<k->a.toNat<fs.length->l.length=ZN fs a->(∀ v∈l,Kin v)->cl a l=.ok n->Kin n):∀ {F:Fm} {n:Int},WF fs k S F->ev cl S F=.ok n->Kin n
 | .num _,_,h,e=>by cases (show FM.Res.ok _=FM.Res.ok _ from e);exact h
 | .here,_,_,e=>by cases (show FM.Res.ok _=FM.Res.ok _ from e);exact o.pl
 | .cell r,n,h,e=>by
  unfold ev at e
  split at e
  ·rename_i z;cases e;exact (FM.cell_in o h.1 (by omega) (by omega)).2.2
  ·rename_i z;cases e;exact (FM.cell_in o h.1 (h.2.2 z).1 (h.2.2 z).2).2.2
 | .shi r b o',n,h,e=>by
  unfold ev at e
  split at e
  ·rename_i z;cases e;exact (FM.cell_in o h.1 z.1 z.2).2.2
  ·cases e;exact h.2
 | .loc a,n,h,e=>by cases (show FM.Res.ok _=FM.Res.ok _ from e);exact o.ok' _ (L2.getD_mem h.2)
 | .at' r p,n,h,e=>by
  unfold ev at e
  split at e
  ·rename_i q hq
   split at e
   ·rename_i z;cases e;exact (FM.cell_in o h.1 z.1 z.2).2.2
   ·cases e
  ·rename_i e' hq;exact absurd e (hq n)
 | .pair sg l r,n,h,e=>by
  unfold ev at e
  split at e
  ·rename_i a ha
   split at e
   ·rename_i b hb
    split at e
    ·rename_i m hm;cases e;exact FM.done_in h.1 (Zf o hc h.2.1 ha) (Zf o hc h.2.2 hb) hm
    ·cases e
   ·rename_i e' hq;exact absurd e (hq n)
  ·rename_i e' hq;exact absurd e (hq n)
 | .cho t l r,n,h,e=>by
  unfold ev at e
  split at e
  ·split at e
   ·exact Zf o hc h.2.1 e
   ·exact Zf o hc h.2.2 e
  ·rename_i e' hq;exact absurd e (hq n)
 | .call a hs,n,h,e=>by
  unfold ev at e
  split at e
  ·rename_i l z
   obtain ⟨q1,q2⟩:=evs_kin o hc h.2.2.2.2 z;exact hc a l n h.1 h.2.1 h.2.2.1 (by rw [q1];exact h.2.2.2.1) q2 e
  ·rename_i e' z
   cases e'
   ·exact absurd z (evs_bad _)
   ·cases e
   ·cases e
theorem evs_kin {fs:List Fn} {S:SpotD} (o:FM.SpotOk S) {k:Nat} {cl:Int->List Int->Res} (hc:∀ a l n,0<=a->a.toNat<k->a.toNat<fs.length->l.length=ZN fs a->(∀ v∈l,Kin v)->cl a l=.ok n->Kin n):∀ {F:Fms} {l:List Int},WFs fs k S F->evs cl S F=.ok l->l.length=F.len/\∀ v∈l,Kin v
 | .nil,l,_,e=>by cases (show RL.ok []=RL.ok l from e);exact ⟨rfl,fun v hv=>nomatch hv⟩
 | .cons f r,l,h,e=>by
  unfold evs at e
  split at e
  ·rename_i n hn
   split at e
   ·rename_i l' z
    cases e;obtain ⟨q1,q2⟩:=evs_kin o hc h.2 z;refine ⟨by show l'.length+1=r.len+1;rw [q1],fun v hv=>?_⟩;rcases List.mem_cons.mp hv with rfl | hv
    ·exact Zf o hc h.1 hn
    ·exact q2 v hv
   ·cases e
  ·cases e
end
abbrev SpotOk:=FM.SpotOk
abbrev Out:=FM.Out
end F2
namespace L2
open PySem PySem.Spec PyProof.Rows
structure FunD (K:PySem.W.Frag) (x qual:Str) (st:Stmt) (f:Addr) (fd:FuncData) (ds:Array Value):Prop where
 ex:∃ (oc:Value) (od:Option Addr) (kV doc pm:Value) (an:Option Addr) (cdv ct:Value) (osl:Array (Option Value)) (T:Addr) (o:Obj) (n:Nat),
  fd=PySem.W.fnOf x qual (zk st) (zj st) (zc st) (.ref T) kV doc pm an cdv ct/\K.lookup f=some ⟨oc,od,.func fd,osl⟩/\PySem.W.codeIn K cdv qual=true/\K.lookup T=some o/\o.data=.seq ds n
 kp:PySem.W.keepIn K (.ref f)=true
section
variable {P:Program} {w:World} {K:PySem.W.Frag} {mg:Str->Option Value} {base:Heap}
theorem FunD.okE {x qual:Str} {st:Stmt} {f:Addr} {fd:FuncData} {ds:Array Value} {N ps:List Str} {k:Nat} {sp:Sp} (F:FunD K x qual st f fd ds) (S:FnScope N ps (zc st)) (len:∀ vs H Q E,sp vs H Q E->vs.length=ps.length)
  (hbody:∀ (cdv:Value) (A:Around) (outer:List Env) (s:Shared) (H:Hp) (vs:List V) (Q:VK) (E:XK),Room k (A.deeper (envOfC qual (zc st) s.heap.objs.size f cdv))->sp vs H Q E ->
   ∃ t,PSs (cxOf (CXe P w base) P w K mg base N qual (zc st) f cdv A outer s H E) (zj st) t/\t { nx:=fun _ H'=>Q .non H',rt:=Q } (start N vs) H):FnOk P w K mg base (CXe P w base) (k+1) f fd ps sp:=by
 obtain ⟨oc,od,kV,doc,pm,an,cdv,ct,osl,T,o,n,rfl,lk,hcd,_,_⟩:=F.ex;exact fn_of lk hcd S len fun A outer s H vs Q E hr hsp=>hbody cdv A outer s H vs Q E hr hsp
theorem FunD.binds {x qual:Str} {st:Stmt} {f:Addr} {fd:FuncData} {ds:Array Value} {ps:List Str} {ds2:List Value} (F:FunD K x qual st f fd ds)
  (h:∀ (T:Addr) (kV doc pm:Value) (an:Option Addr) (cdv ct:Value) (us:List Value),(us++ds2).length=ps.length->∃ k:Option (Array Value)->Sem (List (Str×Value)),bindArgs (PySem.W.fnOf x qual (zk st) (zj st) (zc st) (.ref T) kV doc pm an cdv ct) ⟨us,[]⟩=seqItems? (.ref T) >>= k/\k (some ds)=pure (ps.zip (us++ds2))):Binds K fd ps ds2:=by
 obtain ⟨oc,od,kV,doc,pm,an,cdv,ct,osl,T,o,n,rfl,lk,hcd,lT,eT⟩:=F.ex;intro s us KX hl;obtain ⟨k,h1,h2⟩:=h T kV doc pm an cdv ct us hl;exact BindsTo.of_defaults rfl (KX _ _ lT) eT h1 h2
theorem ZO {x qual:Str} {st:Stmt} {f T:Addr} {oc ocT:Value} {od an odT:Option Addr} {osl oslT:Array (Option Value)} {kV doc pm cdv ct:Value} {ds:Array Value} {n:Nat} (l:K.lookup f=some ⟨oc,od,.func (PySem.W.fnOf x qual (zk st) (zj st) (zc st) (.ref T) kV doc pm an cdv ct),osl⟩)
  (c:PySem.W.codeIn K cdv qual=true) (k:PySem.W.keepIn K (.ref f)=true) (lT:K.lookup T=some ⟨ocT,odT,.seq ds n,oslT⟩):FunD K x qual st f (PySem.W.fnOf x qual (zk st) (zj st) (zc st) (.ref T) kV doc pm an cdv ct) ds:=⟨⟨oc,od,kV,doc,pm,an,cdv,ct,osl,T,_,n,rfl,l,c,lT,rfl⟩,k⟩
def InitN (K:PySem.W.Frag) (C:Addr) (qual:Str) (st:Stmt) (ps:List Str):Prop:=∃ (f:Addr) (fd:FuncData),Mk K C f/\FunD K "__init__" qual st f fd #[.none]/\Binds K fd ps []/\Binds K fd ps [.none]
def OkN (P:Program) (w:World) (K:PySem.W.Frag) (mg:Str->Option Value) (base:Heap) (CX:CXT) (k:Nat) (C:Addr) (ps:List Str) (sp:Sp):Prop :=
 ∃ (f:Addr) (fd:FuncData),Mk K C f/\Binds K fd ps []/\Binds K fd ps [.none]/\FnOk P w K mg base CX k f fd ps sp
end
section
variable {X:Cx} {CX:CXT} {k:Nat} {C:Addr} {ps:List Str} {sp:Sp} {E:XK} {x m:Str} {p pos apos:Pos} {e o:Expr} {es:List Expr} {ta:TE} {t:TA}
theorem pe_okN (h:OkN X.prog X.w X.K X.mg X.base CX k C ps sp) (hm:X.mg x=some (.ref C)) (hr:Room (k+1) X.A) (hg:Gl X x) (hx:xb CX X E) (ha:PA X (e::es) t) (hdb:(x == ("__debug__":Str))=false:=by decide)
  (he:starEach (e::es) X.env=(false,eval e X.env)::starEach es X.env:=by rfl) (hpl:(backTo pos (starEach es X.env)).any (·.1)=false:=by rfl):PE X (.Call (.Name x p) (e::es) [] pos) (tMake C sp [.non] E t):=by
 obtain ⟨f,fd,a,_,b,d⟩:=h;exact pe_make a d hr hg hm b (.cons rfl .nil) hx ha hdb he hpl
end
end L2
namespace K43
open PySem L2 FM
def top (i:Nat):Stmt:=PySem.Challenge.pw_rowbreadth_k43_leaves_made.main.body.getD i (.Pass ⟨0,0,0,0⟩)
abbrev xF:Stmt:=top 33
theorem zf4:FnScope ["lengths","row"] ["lengths","row"] (zc xF):=⟨rfl,rfl,rfl,by decide +kernel,rfl,by decide +kernel,by decide +kernel⟩
abbrev xH:Stmt:=top 51
theorem sc_count_of:FnScope ["steps","count","step"] ["steps"] (zc xH):=⟨rfl,rfl,rfl,by decide +kernel,rfl,by decide +kernel,by decide +kernel⟩
abbrev yG:Stmt:=top 53
theorem Zh:FnScope ["first","second","functions"] ["first","second","functions"] (zc yG):=⟨rfl,rfl,rfl,by decide +kernel,rfl,by decide +kernel,by decide +kernel⟩
abbrev yB:Stmt:=top 54
theorem Z3:FnScope ["form","functions","parts","part"] ["form","functions"] (zc yB):=⟨rfl,rfl,rfl,by decide +kernel,rfl,by decide +kernel,by decide +kernel⟩
abbrev xc:Stmt:=top 55
theorem sc_seats_for:FnScope ["form","functions"] ["form","functions"] (zc xc):=⟨rfl,rfl,rfl,by decide +kernel,rfl,by decide +kernel,by decide +kernel⟩
abbrev yl:Stmt:=top 56
theorem sc_seats_for_step:FnScope ["step","functions","seats"] ["step","functions"] (zc yl):=⟨rfl,rfl,rfl,by decide +kernel,rfl,by decide +kernel,by decide +kernel⟩
abbrev xq:Stmt:=top 61
theorem sc_cell_step:FnScope ["maker","form","aim"] ["maker","form","aim"] (zc xq):=⟨rfl,rfl,rfl,by decide +kernel,rfl,by decide +kernel,by decide +kernel⟩
abbrev xj:Stmt:=top 62
theorem sc_leaf_step:FnScope ["maker","form","aim"] ["maker","form","aim"] (zc xj):=⟨rfl,rfl,rfl,by decide +kernel,rfl,by decide +kernel,by decide +kernel⟩
abbrev x6:Stmt:=top 63
theorem zf5:FnScope ["maker","first","first_aim","second","second_aim","seat","slot"] ["maker","first","first_aim","second","second_aim"] (zc x6):=⟨rfl,rfl,rfl,by decide +kernel,rfl,by decide +kernel,by decide +kernel⟩
abbrev Zi:Stmt:=top 64
theorem zg3:FnScope ["maker","form","aim"] ["maker","form","aim"] (zc Zi):=⟨rfl,rfl,rfl,by decide +kernel,rfl,by decide +kernel,by decide +kernel⟩
abbrev xP:Stmt:=top 65
theorem zcp:FnScope ["maker","form","aim","seats"] ["maker","form","aim"] (zc xP):=⟨rfl,rfl,rfl,by decide +kernel,rfl,by decide +kernel,by decide +kernel⟩
abbrev y9:Stmt:=top 66
theorem YT:FnScope ["maker","form","aim","left","right","left_aim","right_aim","seats"] ["maker","form","aim"] (zc y9):=⟨rfl,rfl,rfl,by decide +kernel,rfl,by decide +kernel,by decide +kernel⟩
abbrev xQ:Stmt:=top 67
theorem zcq:FnScope ["maker","form","aim","first","own","handed","body"] ["maker","form","aim"] (zc xQ):=⟨rfl,rfl,rfl,by decide +kernel,rfl,by decide +kernel,by decide +kernel⟩
abbrev xi:Stmt:=top 68
theorem sc_make_form:FnScope ["maker","form","aim"] ["maker","form","aim"] (zc xi):=⟨rfl,rfl,rfl,by decide +kernel,rfl,by decide +kernel,by decide +kernel⟩
abbrev yf:Stmt:=top 70
theorem ZW:FnScope ["bench","step","active"] ["bench","step","active"] (zc yf):=⟨rfl,rfl,rfl,by decide +kernel,rfl,by decide +kernel,by decide +kernel⟩
abbrev yh:Stmt:=top 71
theorem sc_numbers_of_here:FnScope ["bench","step","active","lane"] ["bench","step","active"] (zc yh):=⟨rfl,rfl,rfl,by decide +kernel,rfl,by decide +kernel,by decide +kernel⟩
abbrev yo:Stmt:=top 72
theorem sc_numbers_loaded:FnScope ["bench","step","active","lane"] ["bench","step","active"] (zc yo):=⟨rfl,rfl,rfl,by decide +kernel,rfl,by decide +kernel,by decide +kernel⟩
abbrev yn:Stmt:=top 73
theorem Z4:FnScope ["bench","step","active"] ["bench","step","active"] (zc yn):=⟨rfl,rfl,rfl,by decide +kernel,rfl,by decide +kernel,by decide +kernel⟩
abbrev yp:Stmt:=top 74
theorem Z5:FnScope ["bench","row","place","other"] ["bench","row","place","other"] (zc yp):=⟨rfl,rfl,rfl,by decide +kernel,rfl,by decide +kernel,by decide +kernel⟩
abbrev yg:Stmt:=top 75
theorem sc_numbers_shifted:FnScope ["bench","step","active","lane"] ["bench","step","active"] (zc yg):=⟨rfl,rfl,rfl,by decide +kernel,rfl,by decide +kernel,by decide +kernel⟩
abbrev xk:Stmt:=top 84
theorem zcr:FnScope ["word"] ["word"] (zc xk):=⟨rfl,rfl,rfl,by decide +kernel,rfl,by decide +kernel,by decide +kernel⟩
abbrev ym:Stmt:=top 85
theorem sc_play_seat_step:FnScope ["bench","step","active"] ["bench","step"] (zc ym):=⟨rfl,rfl,rfl,by decide +kernel,rfl,by decide +kernel,by decide +kernel⟩
abbrev xg:Stmt:=top 87
theorem sc_may_fault:FnScope ["step"] ["step"] (zc xg):=⟨rfl,rfl,rfl,by decide +kernel,rfl,by decide +kernel,by decide +kernel⟩
abbrev xp:Stmt:=top 90
theorem sc_group_for:FnScope ["seats"] ["seats"] (zc xp):=⟨rfl,rfl,rfl,by decide +kernel,rfl,by decide +kernel,by decide +kernel⟩
abbrev xh:Stmt:=top 91
theorem sc_make_test:FnScope ["maker","step"] ["maker","step"] (zc xh):=⟨rfl,rfl,rfl,by decide +kernel,rfl,by decide +kernel,by decide +kernel⟩
abbrev yW:Stmt:=top 92
theorem sc_make_value:FnScope ["maker","step","mask","aim","seats"] ["maker","step","mask"] (zc yW):=⟨rfl,rfl,rfl,by decide +kernel,rfl,by decide +kernel,by decide +kernel⟩
abbrev xG:Stmt:=top 93
theorem sc_round_of:FnScope ["program","step","number","group","maker","mask","effect","made_step"] ["program","step","number","group"] (zc xG):=⟨rfl,rfl,rfl,by decide +kernel,rfl,by decide +kernel,by decide +kernel⟩
abbrev x5:Stmt:=top 95
theorem zf3:FnScope ["program","till","number","group","inner","look"] ["program","till","number","group"] (zc x5):=⟨rfl,rfl,rfl,by decide +kernel,rfl,by decide +kernel,by decide +kernel⟩
abbrev xX:Stmt:=top 96
theorem sc_code_of:FnScope ["program","steps","first","group","code","number","step"] ["program","steps","first","group"] (zc xX):=⟨rfl,rfl,rfl,by decide +kernel,rfl,by decide +kernel,by decide +kernel⟩
abbrev Ye:Stmt:=top 97
theorem sc_made:FnScope ["program","group"] ["program","group"] (zc Ye):=⟨rfl,rfl,rfl,by decide +kernel,rfl,by decide +kernel,by decide +kernel⟩
abbrev yX:Stmt:=top 112
theorem sc_lay_chosen:FnScope ["bench","step","nought","active","numbers","lane","number"] ["bench","step","nought"] (zc yX):=⟨rfl,rfl,rfl,by decide +kernel,rfl,by decide +kernel,by decide +kernel⟩
abbrev yJ:Stmt:=top 113
theorem YS:FnScope ["bench","step"] ["bench","step"] (zc yJ):=⟨rfl,rfl,rfl,by decide +kernel,rfl,by decide +kernel,by decide +kernel⟩
abbrev yU:Stmt:=top 114
theorem Xn:FnScope ["bench","step"] ["bench","step"] (zc yU):=⟨rfl,rfl,rfl,by decide +kernel,rfl,by decide +kernel,by decide +kernel⟩
abbrev yT:Stmt:=top 116
theorem sc_play_store:FnScope ["bench","step","active","lane","number"] ["bench","step"] (zc yT):=⟨rfl,rfl,rfl,by decide +kernel,rfl,by decide +kernel,by decide +kernel⟩
abbrev yY:Stmt:=top 125
theorem Xp:FnScope ["word"] ["word"] (zc yY):=⟨rfl,rfl,rfl,by decide +kernel,rfl,by decide +kernel,by decide +kernel⟩
abbrev yI:Stmt:=top 126
theorem YR:FnScope ["bench","step"] ["bench","step"] (zc yI):=⟨rfl,rfl,rfl,by decide +kernel,rfl,by decide +kernel,by decide +kernel⟩
abbrev yV:Stmt:=top 128
theorem Xo:FnScope ["bench","step"] ["bench","step"] (zc yV):=⟨rfl,rfl,rfl,by decide +kernel,rfl,by decide +kernel,by decide +kernel⟩
abbrev xf:Stmt:=top 129
theorem sc_play_next:FnScope ["bench","step","base"] ["bench","step"] (zc xf):=⟨rfl,rfl,rfl,by decide +kernel,rfl,by decide +kernel,by decide +kernel⟩
abbrev yC:Stmt:=top 134
theorem Yw:FnScope ["bench","step"] ["bench","step"] (zc yC):=⟨rfl,rfl,rfl,by decide +kernel,rfl,by decide +kernel,by decide +kernel⟩
abbrev XB:Stmt:=top 135
theorem sc_ran:FnScope ["code","lengths","cells","lanes","dust","picks","bench"] ["code","lengths","cells","lanes","dust","picks"] (zc XB):=⟨rfl,rfl,rfl,by decide +kernel,rfl,by decide +kernel,by decide +kernel⟩
abbrev xV:Stmt:=top 137
theorem zg4:FnScope ["_law_found"] ["_law_found"] (zc xV):=⟨rfl,rfl,rfl,by decide +kernel,rfl,by decide +kernel,by decide +kernel⟩
abbrev xo:Stmt:=top 138
theorem zcs:FnScope ["_law_script","_law_k"] ["_law_script","_law_k"] (zc xo):=⟨rfl,rfl,rfl,by decide +kernel,rfl,by decide +kernel,by decide +kernel⟩
abbrev xm:Stmt:=top 139
theorem sc_l_kept_by:FnScope ["_law_cell","_law_how","_law_edges"] ["_law_cell"] (zc xm):=⟨rfl,rfl,rfl,by decide +kernel,rfl,by decide +kernel,by decide +kernel⟩
abbrev Zk:Stmt:=top 140
theorem sc_l_some:FnScope ["_law_script","_law_at","_law_count","_law_out","_law_k","_law_cell"] ["_law_script","_law_at","_law_count"] (zc Zk):=⟨rfl,rfl,rfl,by decide +kernel,rfl,by decide +kernel,by decide +kernel⟩
abbrev Zj:Stmt:=top 141
theorem sc_l_told:FnScope ["_law_found","_law_cells","_law_refusal","_law_number"] ["_law_found","_law_cells","_law_refusal"] (zc Zj):=⟨rfl,rfl,rfl,by decide +kernel,rfl,by decide +kernel,by decide +kernel⟩
abbrev Zl:Stmt:=top 142
theorem sc_l_leaf:FnScope ["_law_cell","_law_kind"] ["_law_cell"] (zc Zl):=⟨rfl,rfl,rfl,by decide +kernel,rfl,by decide +kernel,by decide +kernel⟩
abbrev ZI:Stmt:=top 143
theorem sc_l_due:FnScope ["_law_cell","_law_place","_law_rows","_law_kind","_law_at"] ["_law_cell","_law_place","_law_rows"] (zc ZI):=⟨rfl,rfl,rfl,by decide +kernel,rfl,by decide +kernel,by decide +kernel⟩
abbrev xW:Stmt:=top 144
theorem zg5:FnScope ["_law_cell","_law_count"] ["_law_cell","_law_count"] (zc xW):=⟨rfl,rfl,rfl,by decide +kernel,rfl,by decide +kernel,by decide +kernel⟩
abbrev Z6:Stmt:=top 145
theorem sc_law:FnScope ["_law_script","_law_count","_law_picked","_law_lengths","_law_rows","_law_k","_law_cells","_law_steps","_law_cell","_law_kept_cells","_law_group","_law_program","_law_code","_law_place","_law_lanes_here","_law_found"] ["_law_script"] (zc Z6):=⟨rfl,rfl,rfl,by decide +kernel,rfl,by decide +kernel,by decide +kernel⟩
abbrev y3:Stmt:=zX (top 3) 0
theorem Xr:FnScope ["self","lanes"] ["self","lanes"] (zc y3):=⟨rfl,rfl,rfl,by decide +kernel,rfl,by decide +kernel,by decide +kernel⟩
abbrev yu:Stmt:=zX (top 3) 1
theorem Yd:FnScope ["self","group","seat","lane"] ["self","group","seat","lane"] (zc yu):=⟨rfl,rfl,rfl,by decide +kernel,rfl,by decide +kernel,by decide +kernel⟩
abbrev xu:Stmt:=zX (top 3) 2
theorem zcv:FnScope ["self","group","seat","lane","number"] ["self","group","seat","lane","number"] (zc xu):=⟨rfl,rfl,rfl,by decide +kernel,rfl,by decide +kernel,by decide +kernel⟩
abbrev yi:Stmt:=zX (top 3) 3
theorem ZX:FnScope ["self","group","seat","lane"] ["self","group","seat","lane"] (zc yi):=⟨rfl,rfl,rfl,by decide +kernel,rfl,by decide +kernel,by decide +kernel⟩
abbrev yK:Stmt:=zX (top 36) 0
theorem YU:FnScope ["self","number"] ["self","number"] (zc yK):=⟨rfl,rfl,rfl,by decide +kernel,rfl,by decide +kernel,by decide +kernel⟩
abbrev xt:Stmt:=zX (top 38) 0
theorem zcu:FnScope ["self","row"] ["self","row"] (zc xt):=⟨rfl,rfl,rfl,by decide +kernel,rfl,by decide +kernel,by decide +kernel⟩
abbrev yD:Stmt:=zX (top 39) 0
theorem Yx:FnScope ["self","row","by","other"] ["self","row","by","other"] (zc yD):=⟨rfl,rfl,rfl,by decide +kernel,rfl,by decide +kernel,by decide +kernel⟩
abbrev xI:Stmt:=zX (top 46) 0
theorem zf6:FnScope ["self","target","value","test"] ["self","target","value","test"] (zc xI):=⟨rfl,rfl,rfl,by decide +kernel,rfl,by decide +kernel,by decide +kernel⟩
abbrev yL:Stmt:=zX (top 46) 1
theorem YV:FnScope ["self","lengths"] ["self","lengths"] (zc yL):=⟨rfl,rfl,rfl,by decide +kernel,rfl,by decide +kernel,by decide +kernel⟩
abbrev yE:Stmt:=zX (top 50) 0
theorem Yy:FnScope ["self","lengths","functions","steps"] ["self","lengths","functions","steps"] (zc yE):=⟨rfl,rfl,rfl,by decide +kernel,rfl,by decide +kernel,by decide +kernel⟩
abbrev yZ:Stmt:=zX (top 59) 0
theorem Xq:FnScope ["self","lengths","functions","group"] ["self","lengths","functions","group"] (zc yZ):=⟨rfl,rfl,rfl,by decide +kernel,rfl,by decide +kernel,by decide +kernel⟩
abbrev xJ:Stmt:=zX (top 60) 0
theorem zf7:FnScope ["self","seat","mask","level","own"] ["self","seat","mask","level","own"] (zc xJ):=⟨rfl,rfl,rfl,by decide +kernel,rfl,by decide +kernel,by decide +kernel⟩
abbrev xr:Stmt:=zX (top 99) 0
theorem zct:FnScope ["self","numbers"] ["self","numbers"] (zc xr):=⟨rfl,rfl,rfl,by decide +kernel,rfl,by decide +kernel,by decide +kernel⟩
abbrev y0:Stmt:=zX (top 99) 1
theorem sc_Feed_taken:FnScope ["self","number"] ["self"] (zc y0):=⟨rfl,rfl,rfl,by decide +kernel,rfl,by decide +kernel,by decide +kernel⟩
abbrev y4:Stmt:=zX (top 103) 0
theorem sc_Bench_init:FnScope ["self","lengths","cells","lanes","dust","picks","row","mask"] ["self","lengths","cells","lanes","dust","picks"] (zc y4):=⟨rfl,rfl,rfl,by decide +kernel,rfl,by decide +kernel,by decide +kernel⟩
abbrev ya:Stmt:=zX (top 103) 1
theorem sc_Bench_open_round:FnScope ["self","many","group"] ["self","many","group"] (zc ya):=⟨rfl,rfl,rfl,by decide +kernel,rfl,by decide +kernel,by decide +kernel⟩
abbrev z6:Stmt:=zX (top 103) 2
theorem sc_Bench_begin_strip:FnScope ["self","base"] ["self","base"] (zc z6):=⟨rfl,rfl,rfl,by decide +kernel,rfl,by decide +kernel,by decide +kernel⟩
abbrev zV:Stmt:=zX (top 103) 3
theorem sc_Bench_active_under:FnScope ["self","mask","truths","lane"] ["self","mask"] (zc zV):=⟨rfl,rfl,rfl,by decide +kernel,rfl,by decide +kernel,by decide +kernel⟩
abbrev yb:Stmt:=zX (top 103) 4
theorem sc_Bench_numbers_in:FnScope ["self","seat","active","lane"] ["self","seat","active"] (zc yb):=⟨rfl,rfl,rfl,by decide +kernel,rfl,by decide +kernel,by decide +kernel⟩
abbrev yq:Stmt:=zX (top 103) 5
theorem sc_Bench_lay_seat:FnScope ["self","seat","active","numbers","told","lane","number"] ["self","seat","active","numbers"] (zc yq):=⟨rfl,rfl,rfl,by decide +kernel,rfl,by decide +kernel,by decide +kernel⟩
abbrev yr:Stmt:=zX (top 103) 6
theorem sc_Bench_lay_mask:FnScope ["self","mask","chosen","truths","lane"] ["self","mask","chosen"] (zc yr):=⟨rfl,rfl,rfl,by decide +kernel,rfl,by decide +kernel,by decide +kernel⟩
abbrev yM:Stmt:=zX (top 103) 7
theorem YW:FnScope ["self","kind","address"] ["self","kind","address"] (zc yM):=⟨rfl,rfl,rfl,by decide +kernel,rfl,by decide +kernel,by decide +kernel⟩
abbrev yj:Stmt:=zX (top 103) 8
theorem sc_Bench_read_cell:FnScope ["self","row","place","address"] ["self","row","place"] (zc yj):=⟨rfl,rfl,rfl,by decide +kernel,rfl,by decide +kernel,by decide +kernel⟩
abbrev z9:Stmt:=zX (top 103) 9
theorem sc_Bench_write_cell:FnScope ["self","row","place","number","address"] ["self","row","place","number"] (zc z9):=⟨rfl,rfl,rfl,by decide +kernel,rfl,by decide +kernel,by decide +kernel⟩
section
variable {P:Program} {w:World} {K:PySem.W.Frag} {mg:Str->Option Value} {base:Heap}
def spKB:Sp:=fun vs H Q _=>∃ c,vs=[.int c]/\∀ H',Same H H'->Q (.int (yz c)) H'
theorem zha (d:zw K mg "_law_kept_by" xm ["_law_cell"]):Ok P w K mg base (CXe P w base) 1 "_law_kept_by" ["_law_cell"] spKB:=by
 obtain ⟨f,fd,m,F,b⟩:=d;refine ⟨f,fd,m,F.kp,b,F.okE sc_l_kept_by (by rintro vs H Q E ⟨_,rfl,_⟩;rfl) fun cdv A outer s H vs Q E hr h=>?_⟩;obtain ⟨c,rfl,k⟩:=h;have nd:=sc_l_kept_by.nd;refine ⟨_,zd (zF (i:=1) nd rfl (Or.inl rfl) (zp ye (pv 0) zf))
  (zd (zK (zG yO (pv 1) zf (zJ _)) (zg (zn (zp Yi (zp ye (zp yA (pv 0) zf) zf) zf))) zu)
  (zd (zK (zG yO (pv 1) zf (zJ _)) (zd (zF (i:=2) nd rfl (Or.inl rfl) (yF (zb (pe_un XV zf) (zb zf (zb (pe_un XV zf) (zb zf (zb (pe_un XV zf) (zb zf ze))))))))
   (zg (zn (zB zM (pv 2) (zp ye (zp yA (pv 0) zf) zf) (fun _ _=>rfl))))) zu)
  (zd (zK (zG yO (pv 1) zf (zJ _)) (zg (zn (zp Yi (zp ye (zp xL (zp yA (pv 0) zf) zf) zf) zf))) zu)
  (zg (zn (zp Yi (zp ye (zp xL (zp yA (pv 0) zf) zf) zf) zf)))))),?_⟩
 refine ⟨_,rfl,_,_,rfl,rfl,(by show (0:Int)<4;decide),?_⟩;refine ⟨_,rfl,rfl,_,rfl,?_⟩;refine y6 (fun z=>?_) (fun z=>?_)
 ·have z:c % 4=0:=by simpa using z
  have e:yz c=c / 4 % 7-3:=by unfold yz;rw [if_pos z]
  rw [e] at k;exact ⟨_,rfl,_,_,rfl,rfl,⟨by decide,by decide⟩,_,_,rfl,rfl,(by show (0:Int)<7;decide),_,_,rfl,rfl,k H (Same.refl H)⟩
 have z0:¬ c % 4=0:=by simpa using z
 refine ⟨_,rfl,rfl,_,rfl,?_⟩;refine y6 (fun z=>?_) (fun z=>?_)
 ·have z1:c % 4=1:=by simpa using z
  have e:yz c=edges.getD (c / 4 % 6).toNat 0:=by unfold yz;rw [if_neg z0,if_pos z1]
  rw [e] at k;refine ⟨_,rfl,_,rfl,_,rfl,(by show 6<=sizeLine;decide),fun l hl=>?_⟩;refine ⟨_,rfl,_,rfl,_,_,rfl,rfl,⟨by decide,by decide⟩,_,_,rfl,rfl,(by show (0:Int)<6;decide),l,edges.map V.int,_,V.int (edges.getD (c / 4 % 6).toNat 0),rfl,rfl,SqL.of zh,?_,k _ fun b o q=>by rw [zm (zv q hl)];exact q⟩;have hz:(((c / 4 % 6).toNat:Nat):Int)=c / 4 % 6:=by omega
  rw [← hz];exact zQ (edge_at _ (by omega)).1
 have z1:¬ c % 4=1:=by simpa using z
 refine ⟨_,rfl,rfl,_,rfl,?_⟩;refine y6 (fun z=>?_) (fun z=>?_)
 ·have z2:c % 4=2:=by simpa using z
  have e:yz c=c / 4*48271 % 2001-1000:=by unfold yz;rw [if_neg z0,if_neg z1,if_pos z2]
  rw [e] at k;exact ⟨_,rfl,_,_,rfl,rfl,⟨by decide,by decide⟩,_,_,rfl,rfl,.inr ⟨by decide,by decide⟩,_,_,rfl,rfl,(by show (0:Int)<2001;decide),_,_,rfl,rfl,k H (Same.refl H)⟩
 have z2:¬ c % 4=2:=by simpa using z
 have e:yz c=c / 4*2862933555777941757 % 18446744073709551616-9223372036854775808:=by unfold yz;rw [if_neg z0,if_neg z1,if_neg z2]
 rw [e] at k;exact ⟨_,rfl,_,_,rfl,rfl,⟨by decide,by decide⟩,_,_,rfl,rfl,.inr ⟨by decide,by decide⟩,_,_,rfl,rfl,(by show (0:Int)<18446744073709551616;decide),_,_,rfl,rfl,k H (Same.refl H)⟩
structure Ints (K:PySem.W.Frag) (mg:Str->Option Value):Prop where
 isi:mg "isinstance"=none
 int:mg "int"=none
 bool:mg "bool"=none
 ii:PySem.W.kitOne K (.type "int") (.type "int")=some true
 ib:PySem.W.kitOne K (.type "int") (.type "bool")=some false
theorem ok_whole (d:zw K mg "_law_whole" xV ["_law_found"]) (N:Ints K mg):Ok P w K mg base (CXe P w base) 1 "_law_whole" ["_law_found"] (sp1 fun _=>.bl true):=by
 obtain ⟨f,fd,m,F,b⟩:=d;refine ⟨f,fd,m,F.kp,b,F.okE zg4 len1 fun cdv A outer s H vs Q E hr h=>?_⟩;obtain ⟨n,rfl,k⟩:=h;refine ⟨_,zg (zn (Y4 (zt zD rfl N.isi PyProof.Rows.boot_isinstance (zb (pv 0) (zb (ZY N.int PyProof.Rows.boot_int) ze)))
  (Y1 (pe_not (zt zD rfl N.isi PyProof.Rows.boot_isinstance (zb (pv 0) (zb (ZY N.bool PyProof.Rows.boot_bool) ze))))))),?_⟩
 refine ⟨_,rfl,_,_,.type "int",.type "int",true,rfl,rfl,(fun u r=>r),.inl (.int n),N.ii,true,rfl,?_⟩;exact Zq ⟨_,rfl,_,_,.type "bool",.type "int",false,rfl,rfl,(fun u r=>r),.inl (.int n),N.ib,false,rfl,k⟩
theorem Zn {H H':Hp} {x dx:Addr} {o1 o2:HO} (nx:H x=none) (ndx:H dx=none) (k:∀ b o,b≠x->upd (upd H dx o1) x o2 b=some o->H' b=some o):Same H H':=fun c o z=>k c o (zv z nx) (by rw [zm (zv z nx),zm (zv z ndx)];exact z)
def YK (C:Addr):Sp:=fun vs H Q _=>∃ (x dx:Addr) (u0:V),vs=[.ref x,u0]/\H x=some (.ins C dx [])/\∀ H',(∀ b o,b≠x->H b=some o->H' b=some o)->H' x=some (.ins C dx [("number",u0)])->Q .non H'
theorem zhc {C:Addr} (d:yN K C "Number.__init__" yK ["self","number"]) (cl:Cls K C) (n0:NoAttr K C "number"):OkI P w K mg base (CXe P w base) 1 C ["self","number"] (YK C):=by
 obtain ⟨f,fd,m,F,bd⟩:=d;refine ⟨f,fd,m,bd,F.okE YU (by rintro vs H Q E ⟨_,_,_,rfl,_⟩;rfl) fun cdv A outer s H vs Q E hr h=>?_⟩;obtain ⟨x,dx,u0,rfl,hx,k⟩:=h;refine ⟨_,(zg (zC (pv 0) (pv 1) rfl)),?_⟩;refine ⟨_,rfl,_,rfl,x,C,dx,[],rfl,hx,cl,n0,(by show 0<1000;decide),?_⟩
 exact k _ (fun b o nb z=>by
  rw [zm nb];exact z) zh
def zfz (C:Addr):Sp:=fun vs H Q _=>∃ (x dx:Addr) (u0:V),vs=[.ref x,u0]/\H x=some (.ins C dx [])/\∀ H',(∀ b o,b≠x->H b=some o->H' b=some o)->H' x=some (.ins C dx [("row",u0)])->Q .non H'
theorem okI_Cell {C:Addr} (d:yN K C "Cell.__init__" xt ["self","row"]) (cl:Cls K C) (n0:NoAttr K C "row"):OkI P w K mg base (CXe P w base) 1 C ["self","row"] (zfz C):=by
 obtain ⟨f,fd,m,F,bd⟩:=d;refine ⟨f,fd,m,bd,F.okE zcu (by rintro vs H Q E ⟨_,_,_,rfl,_⟩;rfl) fun cdv A outer s H vs Q E hr h=>?_⟩;obtain ⟨x,dx,u0,rfl,hx,k⟩:=h;refine ⟨_,(zg (zC (pv 0) (pv 1) rfl)),?_⟩;refine ⟨_,rfl,_,rfl,x,C,dx,[],rfl,hx,cl,n0,(by show 0<1000;decide),?_⟩
 exact k _ (fun b o nb z=>by
  rw [zm nb];exact z) zh
def Yp (C:Addr):Sp:=fun vs H Q _=>∃ (x dx:Addr) (u0 u1 u2:V),vs=[.ref x,u0,u1,u2]/\H x=some (.ins C dx [])/\∀ H',(∀ b o,b≠x->H b=some o->H' b=some o)->H' x=some (.ins C dx [("row",u0),("by",u1),("other",u2)])->Q .non H'
theorem zge {C:Addr} (d:yN K C "Shifted.__init__" yD ["self","row","by","other"]) (cl:Cls K C) (n0:NoAttr K C "row") (n1:NoAttr K C "by") (n2:NoAttr K C "other"):OkI P w K mg base (CXe P w base) 1 C ["self","row","by","other"] (Yp C):=by
 obtain ⟨f,fd,m,F,bd⟩:=d;refine ⟨f,fd,m,bd,F.okE Yx (by rintro vs H Q E ⟨_,_,_,_,_,rfl,_⟩;rfl) fun cdv A outer s H vs Q E hr h=>?_⟩;obtain ⟨x,dx,u0,u1,u2,rfl,hx,k⟩:=h;refine ⟨_,(zd (zC (pv 0) (pv 1) rfl) (zd (zC (pv 0) (pv 2) rfl) (zg (zC (pv 0) (pv 3) rfl)))),?_⟩;refine ⟨_,rfl,_,rfl,x,C,dx,[],rfl,hx,cl,n0,(by show 0<1000;decide),?_⟩;refine ⟨_,rfl,_,rfl,x,C,dx,[("row",u0)],rfl,zh,cl,n1,(by show 1<1000;decide),?_⟩;refine ⟨_,rfl,_,rfl,x,C,dx,[("row",u0),("by",u1)],rfl,zh,cl,n2,(by show 2<1000;decide),?_⟩
 exact k _ (fun b o nb z=>by
  rw [zm nb,zm nb,zm nb];exact z) zh
def zcl (C:Addr):Sp:=fun vs H Q _=>∃ (x dx:Addr) (u0 u1 u2 u3:V),vs=[.ref x,u0,u1,u2,u3]/\H x=some (.ins C dx [])/\∀ H',(∀ b o,b≠x->H b=some o->H' b=some o)->H' x=some (.ins C dx [("seat",u0),("mask",u1),("level",u2),("own",u3)])->Q .non H'
theorem okI_Aim {C:Addr} (d:yN K C "Aim.__init__" xJ ["self","seat","mask","level","own"]) (cl:Cls K C) (n0:NoAttr K C "seat") (n1:NoAttr K C "mask") (n2:NoAttr K C "level") (n3:NoAttr K C "own"):OkI P w K mg base (CXe P w base) 1 C ["self","seat","mask","level","own"] (zcl C):=by
 obtain ⟨f,fd,m,F,bd⟩:=d;refine ⟨f,fd,m,bd,F.okE zf7 (by rintro vs H Q E ⟨_,_,_,_,_,_,rfl,_⟩;rfl) fun cdv A outer s H vs Q E hr h=>?_⟩;obtain ⟨x,dx,u0,u1,u2,u3,rfl,hx,k⟩:=h;refine ⟨_,(zd (zC (pv 0) (pv 1) rfl) (zd (zC (pv 0) (pv 2) rfl) (zd (zC (pv 0) (pv 3) rfl) (zg (zC (pv 0) (pv 4) rfl))))),?_⟩;refine ⟨_,rfl,_,rfl,x,C,dx,[],rfl,hx,cl,n0,(by show 0<1000;decide),?_⟩;refine ⟨_,rfl,_,rfl,x,C,dx,[("seat",u0)],rfl,zh,cl,n1,(by show 1<1000;decide),?_⟩;refine ⟨_,rfl,_,rfl,x,C,dx,[("seat",u0),("mask",u1)],rfl,zh,cl,n2,(by show 2<1000;decide),?_⟩;refine ⟨_,rfl,_,rfl,x,C,dx,[("seat",u0),("mask",u1),("level",u2)],rfl,zh,cl,n3,(by show 3<1000;decide),?_⟩
 exact k _ (fun b o nb z=>by
  rw [zm nb,zm nb,zm nb,zm nb];exact z) zh
def spI_Let (C:Addr):Sp:=fun vs H Q _=>∃ (x dx:Addr) (u0 u1 u2:V),vs=[.ref x,u0,u1,u2]/\H x=some (.ins C dx [])/\∀ H',(∀ b o,b≠x->H b=some o->H' b=some o)->H' x=some (.ins C dx [("target",u0),("value",u1),("test",u2)])->Q .non H'
theorem okN_Let {C:Addr} (d:InitN K C "Let.__init__" xI ["self","target","value","test"]) (cl:Cls K C) (n0:NoAttr K C "target") (n1:NoAttr K C "value") (n2:NoAttr K C "test"):OkN P w K mg base (CXe P w base) 1 C ["self","target","value","test"] (spI_Let C):=by
 obtain ⟨f,fd,m,F,bd,bn⟩:=d;refine ⟨f,fd,m,bd,bn,F.okE zf6 (by rintro vs H Q E ⟨_,_,_,_,_,rfl,_⟩;rfl) fun cdv A outer s H vs Q E hr h=>?_⟩;obtain ⟨x,dx,u0,u1,u2,rfl,hx,k⟩:=h;refine ⟨_,(zd (zC (pv 0) (pv 1) rfl) (zd (zC (pv 0) (pv 2) rfl) (zg (zC (pv 0) (pv 3) rfl)))),?_⟩;refine ⟨_,rfl,_,rfl,x,C,dx,[],rfl,hx,cl,n0,(by show 0<1000;decide),?_⟩;refine ⟨_,rfl,_,rfl,x,C,dx,[("target",u0)],rfl,zh,cl,n1,(by show 1<1000;decide),?_⟩;refine ⟨_,rfl,_,rfl,x,C,dx,[("target",u0),("value",u1)],rfl,zh,cl,n2,(by show 2<1000;decide),?_⟩
 exact k _ (fun b o nb z=>by
  rw [zm nb,zm nb,zm nb];exact z) zh
end
end K43
namespace K43
open PySem L2
section
variable {P:Program} {w:World} {K:PySem.W.Frag} {mg:Str->Option Value} {base:Heap}
structure FCls (K:PySem.W.Frag) (C:Addr):Prop where
 c:Cls K C
 n1:NoAttr K C "numbers"
 n2:NoAttr K C "at"
abbrev zO (C dx:Addr) (l:Addr) (p:Int):HO:=.ins C dx [("numbers",.ref l),("at",.int p)]
def fAt (ns:List Int) (q:Nat):Int:=if ns.length=0 then 0 else ((q % ns.length:Nat):Int)
def fVal (ns:List Int) (q:Nat):Int:=ns.getD (q % ns.length) 0
def spInitF (K:PySem.W.Frag) (C:Addr):Sp:=fun vs H Q _=>∃ (x dx a:Addr) (ns:List Int),vs=[.ref x,.ref a]/\H x=some (.ins C dx [])/\SqL K H a (ns.map V.int) /\
 ∀ (H':Hp) (l:Addr),(∀ b o,b≠x->H b=some o->H' b=some o)->H l=none->H' x=some (zO C dx l 0)->H' l=some (.lst (ns.map V.int))->Q .non H'
theorem ok_initF {C:Addr} (d:yN K C "Feed.__init__" xr ["self","numbers"]) (b:FCls K C) (hlist:mg "list"=none):OkI P w K mg base CX0 1 C ["self","numbers"] (spInitF K C):=by
 obtain ⟨f,fd,m,F,bd⟩:=d;refine ⟨f,fd,m,bd,F.ok zct (by rintro vs H Q E ⟨_,_,_,_,rfl,_⟩;rfl) fun cdv A outer s H vs Q E hr h=>?_⟩;obtain ⟨x,dx,a,ns,rfl,hx,hS,k⟩:=h;refine ⟨_,(zd (zC (pv 0) (yv yd (by rfl) hlist PyProof.Rows.boot_list (zb (pv 1) ze)) rfl)
   (zg (zC (pv 0) zf rfl))),?_⟩
 refine ⟨_,rfl,a,_,rfl,.inl hS,fun l nl=>?_⟩;have nx:x≠l:=zv hx nl;refine ⟨_,rfl,x,C,dx,[],rfl,by rw [zm nx];exact hx,b.c,b.n1,by decide,?_⟩;refine ⟨_,rfl,x,C,dx,[("numbers",.ref l)],rfl,zh,b.c,b.n2,(by show 1<1000;decide),?_⟩;refine k _ l (fun c o nc z=>?_) nl zh ?_
 ·rw [zm nc,zm nc,zm (zv z nl)]
  exact z
 ·rw [zm (Ne.symm nx),zm (Ne.symm nx),zh]
def zci (C:Addr):Sp:=fun vs H Q _=>∃ (x dx l:Addr) (ns:List Int) (q:Nat),vs=[.ref x]/\H x=some (zO C dx l (fAt ns q))/\H l=some (.lst (ns.map V.int)) /\
 ∀ H',(∀ b o,b≠x->H b=some o->H' b=some o)->H' x=some (zO C dx l (fAt ns (q+1)))->Q (.int (fVal ns q)) H'
theorem ok_taken {C:Addr} (d:z8 K C "taken" "Feed.taken" y0 ["self"]) (b:FCls K C) (hlen:mg "len"=none):OkM P w K mg base CX0 1 C "taken" ["self"] (zci C):=by
 obtain ⟨f,fd,m,F,bd⟩:=d;refine ⟨f,fd,m,bd,F.ok sc_Feed_taken (by rintro vs H Q E ⟨_,_,_,_,_,rfl,_⟩;rfl) fun cdv A outer s H vs Q E hr h=>?_⟩;obtain ⟨x,dx,l,ns,q,rfl,hx,hl,k⟩:=h;have nd:=sc_Feed_taken.nd;refine ⟨_,(zd (zK (zG yO (zt zP (by rfl) hlen PySem.boot_len (zb (zi (pv 0) rfl) ze)) zf (zJ _)) (zg (zn zf)) zu)
   (zd (zF (i:=1) nd rfl (Or.inl rfl) (zB zM (zi (pv 0) rfl) (zi (pv 0) rfl) (fun _ _=>rfl)))
   (zd (zC (pv 0) (zp ye (zp zY (zi (pv 0) rfl) zf) (zt zP (by rfl) hlen PySem.boot_len (zb (zi (pv 0) rfl) ze))) rfl)
   (zg (zn (pv 1)))))),?_⟩
 refine ⟨_,rfl,x,C,dx,_,.ref l,rfl,hx,b.c,b.n1,rfl,l,_,rfl,.inl (SqL.of hl),rfl,_,rfl,?_⟩;rw [List.length_map];refine y6 (fun z=>?_) (fun z=>?_)
 ·have z:(ns.length:Int)=0:=by simpa using z
  have e:ns=[]:=List.length_eq_zero_iff.mp (by omega);subst e;exact k H (fun b o _ z=>z) hx
 ·have z:ns.length≠0:=by simpa using z
  have lt:q % ns.length<ns.length:=Nat.mod_lt _ (by omega);have e1:fAt ns q=((q % ns.length:Nat):Int):=if_neg z;have e2:fAt ns (q+1)=(((q+1) % ns.length:Nat):Int):=if_neg z;have nx:x≠l:=ne_of hx hl (by intro y;cases y);refine ⟨_,rfl,x,C,dx,_,.ref l,rfl,hx,b.c,b.n1,rfl,_,rfl,x,C,dx,_,.int (fAt ns q),rfl,hx,b.c,b.n2,rfl,l,_,_,_,rfl,rfl,SqL.of hl,xa (q % ns.length) lt e1,?_⟩;refine ⟨_,rfl,x,C,dx,_,.int (fAt ns q),rfl,hx,b.c,b.n2,rfl,_,_,rfl,rfl,_,rfl,x,C,dx,_,.ref l,rfl,hx,b.c,b.n1,rfl,l,_,rfl,.inl (SqL.of hl),_,_,rfl,rfl,(by rw [List.length_map];omega),?_⟩;refine ⟨_,rfl,x,C,dx,_,rfl,hx,b.c,b.n2,(by show 2<1000;decide),?_⟩;refine ⟨_,rfl,k _ (fun c o nc z=>by rw [zm nc];exact z) ?_⟩
  have e3:(fAt ns q+1) % ((ns.map V.int).length:Int)=fAt ns (q+1):=by
   rw [e1,e2,List.length_map];have h1:(((q % ns.length:Nat):Int)+1)=((q % ns.length+1:Nat):Int):=by omega
   rw [h1,← Int.natCast_emod,Nat.mod_add_mod]
  rw [zh,← e3];rfl
structure BCls (K:PySem.W.Frag) (C:Addr):Prop where
 c:Cls K C
 n1:NoAttr K C "lanes"
 n2:NoAttr K C "numbers"
abbrev yS (C dx:Addr) (L:Int) (l:Addr):HO:=.ins C dx [("lanes",.int L),("numbers",.ref l)]
def spInitB (C:Addr):Sp:=fun vs H Q _=>∃ (x dx:Addr) (L:Int),vs=[.ref x,.int L]/\H x=some (.ins C dx [])/\1<=L/\L<=64 /\
 ∀ (H':Hp) (l:Addr),(∀ b o,b≠x->H b=some o->H' b=some o)->H l=none->H' x=some (yS C dx L l)->H' l=some (.lst ((List.replicate (8*L).toNat (0:Int)).map V.int))->Q .non H'
theorem ok_initB {C:Addr} {t:Tok} (d:yN K C "Boxes.__init__" y3 ["self","lanes"]) (b:BCls K C) (hMB:mg "MANY_BOXES"=some (.int 8 t)):OkI P w K mg base CX0 1 C ["self","lanes"] (spInitB C):=by
 obtain ⟨f,fd,m,F,bd⟩:=d;refine ⟨f,fd,m,bd,F.ok Xr (by rintro vs H Q E ⟨_,_,_,rfl,_⟩;rfl) fun cdv A outer s H vs Q E hr h=>?_⟩;obtain ⟨x,dx,L,rfl,hx,h1,h2,k⟩:=h;refine ⟨_,zd (zC (pv 0) (pv 1) rfl) (zg (zC (pv 0) (zp zc1 (yF (zb zf ze)) (zp xL (ZK hMB) (pv 1))) rfl)),?_⟩;refine ⟨_,rfl,_,rfl,x,C,dx,[],rfl,hx,b.c,b.n1,by decide,?_⟩;refine ⟨(by show 1<=sizeLine;decide),fun t nt=>⟨_,rfl,_,_,rfl,rfl,.inl ⟨by decide,by decide⟩,t,_,_,rfl,rfl,zh,by omega,by omega,?_,fun l nl=>?_⟩⟩
 ·show 1*(8*L).toNat<=sizeLine
  have:(600:Nat)<=sizeLine:=by decide
  omega
 have nx:x≠t:=zv (o:=.ins C dx [("lanes",.int L)]) zh nt;have nl':x≠l:=zv (o:=.ins C dx [("lanes",.int L)]) (by rw [zm nx,zh];rfl) nl;refine ⟨_,rfl,x,C,dx,[("lanes",.int L)],rfl,?_,b.c,b.n2,(by show 1<1000;decide),?_⟩
 ·rw [zm nl',zm nx,zh];rfl
 rw [rep_ints];have lt:l≠t:=Ne.symm (zv (o:=.lst [.int 0]) zh nl)
 have hl:H l=none:=by
  have z:=nl;rw [zm lt,zm (Ne.symm nl')] at z;exact z
 have ht:H t=none:=by
  have z:=nt;rw [zm (Ne.symm nx)] at z;exact z
 refine k _ l (fun c o nc z=>?_) hl zh ?_
 ·rw [zm nc,zm (zv z hl),zm (zv z ht),zm nc]
  exact z
 ·rw [zm (Ne.symm nl'),zh]
def spSpot (C:Addr):Sp:=fun vs H Q _=>∃ (x dx l:Addr) (L g p j:Int),vs=[.ref x,.int g,.int p,.int j]/\H x=some (yS C dx L l)/\1<=L/\L<=64/\1<=g/\g<=4/\Q (.int (p*g*L+j)) H
theorem ok_spot {C:Addr} (d:z8 K C "spot_of" "Boxes.spot_of" yu ["self","group","seat","lane"]) (b:BCls K C):OkM P w K mg base CX0 1 C "spot_of" ["self","group","seat","lane"] (spSpot C):=by
 obtain ⟨f,fd,m,F,bd⟩:=d;refine ⟨f,fd,m,bd,F.ok Yd (by rintro vs H Q E ⟨_,_,_,_,_,_,_,rfl,_⟩;rfl) fun cdv A outer s H vs Q E hr h=>?_⟩;obtain ⟨x,dx,l,L,g,p,j,rfl,hx,h1,h2,h3,h4,k⟩:=h;refine ⟨_,(zg (zn (zp zY (zp xL (zp xL (pv 2) (pv 1)) (zi (pv 0) rfl)) (pv 3)))),?_⟩;exact ⟨_,rfl,_,rfl,_,_,rfl,rfl,.inr ⟨by omega,by omega⟩,_,rfl,x,C,dx,_,.int L,rfl,hx,b.c,b.n1,rfl,_,_,rfl,rfl,.inr ⟨by omega,by omega⟩,_,rfl,_,_,rfl,rfl,k⟩
def spLay (C:Addr):Sp:=fun vs H Q _=>∃ (x dx l:Addr) (L g p j n:Int) (nums:List Int),vs=[.ref x,.int g,.int p,.int j,.int n]/\H x=some (yS C dx L l)/\H l=some (.lst (nums.map V.int))/\1<=L/\L<=64/\1<=g/\g<=4/\0<=p*g*L+j/\p*g*L+j<nums.length /\
 Q .non (upd H l (.lst ((nums.set (p*g*L+j).toNat n).map V.int)))
theorem ok_lay {C:Addr} (d:z8 K C "lay" "Boxes.lay" xu ["self","group","seat","lane","number"]) (b:BCls K C) (SO:OkM P w K mg base CX0 1 C "spot_of" ["self","group","seat","lane"] (spSpot C)):OkM P w K mg base CX0 2 C "lay" ["self","group","seat","lane","number"] (spLay C):=by
 obtain ⟨f,fd,m,F,bd⟩:=d;refine ⟨f,fd,m,bd,F.ok zcv (by rintro vs H Q E ⟨_,_,_,_,_,_,_,_,_,rfl,_⟩;rfl) fun cdv A outer s H vs Q E hr h=>?_⟩;obtain ⟨x,dx,l,L,g,p,j,n,nums,rfl,hx,hl,h1,h2,h3,h4,h5,h6,k⟩:=h;have hr1:=hr;have cC:=b.c;refine ⟨_,(zg (Yg (pv 4) (Yh (zi (pv 0) rfl) (yt SO cC hr1 zy (pv 0) (zb (pv 1) (zb (pv 2) (zb (pv 3) ze)))) Zg))),?_⟩;refine ⟨_,rfl,_,rfl,x,C,dx,_,.ref l,rfl,hx,b.c,b.n2,rfl,_,rfl,x,dx,_,rfl,hx,rfl,_,rfl,_,rfl,_,rfl,x,dx,l,L,g,p,j,rfl,hx,h1,h2,h3,h4,?_⟩;refine ⟨l,_,_,_,rfl,rfl,hl,ixN_nat h5 (by rw [List.length_map];exact h6),?_⟩;rw [set_ints];exact k
def spNum (C:Addr):Sp:=fun vs H Q _=>∃ (x dx l:Addr) (L g p j:Int) (nums:List Int),vs=[.ref x,.int g,.int p,.int j]/\H x=some (yS C dx L l)/\H l=some (.lst (nums.map V.int))/\1<=L/\L<=64/\1<=g/\g<=4/\0<=p*g*L+j/\p*g*L+j<nums.length /\
 Q (.int (nums.getD (p*g*L+j).toNat 0)) H
theorem ok_num {C:Addr} (d:z8 K C "number_at" "Boxes.number_at" yi ["self","group","seat","lane"]) (b:BCls K C) (SO:OkM P w K mg base CX0 1 C "spot_of" ["self","group","seat","lane"] (spSpot C)):OkM P w K mg base CX0 2 C "number_at" ["self","group","seat","lane"] (spNum C):=by
 obtain ⟨f,fd,m,F,bd⟩:=d;refine ⟨f,fd,m,bd,F.ok ZX (by rintro vs H Q E ⟨_,_,_,_,_,_,_,_,rfl,_⟩;rfl) fun cdv A outer s H vs Q E hr h=>?_⟩;obtain ⟨x,dx,l,L,g,p,j,nums,rfl,hx,hl,h1,h2,h3,h4,h5,h6,k⟩:=h;have hr1:=hr;have cC:=b.c;refine ⟨_,(zg (zn (zB zM (zi (pv 0) rfl) (yt SO cC hr1 zy (pv 0) (zb (pv 1) (zb (pv 2) (zb (pv 3) ze)))) (fun _ _=>rfl)))),?_⟩;exact ⟨_,rfl,x,C,dx,_,.ref l,rfl,hx,b.c,b.n2,rfl,_,rfl,x,dx,_,rfl,hx,rfl,_,rfl,_,rfl,_,rfl,x,dx,l,L,g,p,j,rfl,hx,h1,h2,h3,h4,l,_,_,_,rfl,rfl,SqL.of hl,xa (p*g*L+j).toNat (by omega) (by omega),k⟩
end
end K43
namespace L2
open PySem
theorem ZL {X:Cx} {K:PySem.W.Frag} {e:Expr} {f:Str} {pos:Pos} {ta:TE} (h:X.K=K) (he:PE X e ta) (hb:attributeBase e f X.env (eval e X.env)=eval e X.env):PE X (.Attribute e f pos) (tFld K ta f):=h ▸ zi he hb
end L2
namespace K43
open PySem L2
structure MCs where
 bx:Addr
 fe:Addr
 bn:Addr
structure Mc where
 lens:List Int
 starts:List Int
 cells:List Int
 lanes:Nat
 nums:List Int
 masks:List (List Bool)
 slots:List (Key×V)
 dust:List Int
 dq:Nat
 picks:List Int
 pq:Nat
 touches:List (Int×Str×Int)
 pc:Int
 opened:Int
 many:Int
 group:Int
 base:Int
 begun:Int
 width:Int
 faults:List (Key×V)
 cut:Option Int
 carried:Option Int
 raised:Bool
 turns:List (Int×Int)
 refusal:Option (Int×Int×Str)
structure Ma where
 b:Addr
 db:Addr
 aL:Addr
 aS:Addr
 aC:Addr
 bx:Addr
 dbx:Addr
 aN:Addr
 aM:Addr
 aSl:Addr
 fd:Addr
 dfd:Addr
 aD:Addr
 fp:Addr
 dfp:Addr
 aP:Addr
 aT:Addr
 aF:Addr
 aU:Addr
 ms:List Addr
 ts:List Addr
 us:List Addr
 rf:V
def oV:Option Int->V
 | none=>.non
 | some n=>.int n
def Za (A:Ma) (M:Mc):List (Str×V):=[("lengths",.ref A.aL),("starts",.ref A.aS),("cells",.ref A.aC),("lanes",.int M.lanes),("boxes",.ref A.bx),("masks",.ref A.aM),("slots",.ref A.aSl),("dust",.ref A.fd),("picks",.ref A.fp),("touches",.ref A.aT),("at",.int M.pc),("opened",.int M.opened),("many",.int M.many),("group",.int M.group),("base",.int M.base),("begun",.int M.begun),("width",.int M.width),("faults",.ref A.aF),("cut",oV M.cut),("carried",oV M.carried),("raised",.bl M.raised),("turns",.ref A.aU),("refusal",A.rf)]
def Zm (A:Ma) (M:Mc):List (Addr×HO):=(A.ms.zip M.masks).map fun p=>(p.1,.lst (p.2.map V.bl))
def objs (c:MCs) (A:Ma) (M:Mc) (R:List (Addr×HO)):List (Addr×HO) :=
 (A.b,.ins c.bn A.db (Za A M))::(A.aC,.lst (M.cells.map V.int))::(A.aN,.lst (M.nums.map V.int))::(A.aSl,.dK M.slots)::(A.fd,zO c.fe A.dfd A.aD (fAt M.dust M.dq))::(A.fp,zO c.fe A.dfp A.aP (fAt M.picks M.pq))::(A.aT,.lst (A.ts.map V.ref))::(A.aF,.dK M.faults)::(A.aU,.lst (A.us.map V.ref))::(Zm A M++R)
structure BenchB (c:MCs) (B:Hp) (A:Ma) (M:Mc):Prop where
 lens:B A.aL=some (.lst (M.lens.map V.int))
 starts:B A.aS=some (.lst (M.starts.map V.int))
 bx:B A.bx=some (yS c.bx A.dbx M.lanes A.aN)
 msk:B A.aM=some (.lst (A.ms.map V.ref))
 ml:A.ms.length=M.masks.length
 dl:B A.aD=some (.lst (M.dust.map V.int))
 pl:B A.aP=some (.lst (M.picks.map V.int))
 tl:A.ts.length=M.touches.length
 tt:∀ (i:Nat) (t:Addr) (p:Int×Str×Int),A.ts[i]?=some t->M.touches[i]?=some p->B t=some (.tup [.int p.1,.str p.2.1,.int p.2.2])
 ul:A.us.length=M.turns.length
 uu:∀ (i:Nat) (t:Addr) (p:Int×Int),A.us[i]?=some t->M.turns[i]?=some p->B t=some (.tup [.int p.1,.int p.2])
 rf:match M.refusal with
  | none=>A.rf=.non
  | some r=>∃ t,A.rf=.ref t/\B t=some (.tup [.int r.1,.int r.2.1,.str r.2.2])
theorem BenchB.same {c:MCs} {B B':Hp} {A:Ma} {M:Mc} (h:BenchB c B A M) (s:Same B B'):BenchB c B' A M:=by
 refine ⟨s _ _ h.lens,s _ _ h.starts,s _ _ h.bx,s _ _ h.msk,h.ml,s _ _ h.dl,s _ _ h.pl,h.tl,fun i t p a b=>s _ _ (h.tt i t p a b),h.ul,fun i t p a b=>s _ _ (h.uu i t p a b),?_⟩;have:=h.rf;revert this
 cases M.refusal with
 | none=>exact fun z=>z
 | some r=>exact fun ⟨t,a,b⟩=>⟨t,a,s _ _ b⟩
structure NCls (K:PySem.W.Frag) (C:Addr):Prop where
 c:Cls K C
 lengths:NoAttr K C "lengths"
 starts:NoAttr K C "starts"
 cells:NoAttr K C "cells"
 lanes:NoAttr K C "lanes"
 boxes:NoAttr K C "boxes"
 masks:NoAttr K C "masks"
 slots:NoAttr K C "slots"
 dust:NoAttr K C "dust"
 picks:NoAttr K C "picks"
 touches:NoAttr K C "touches"
 pc:NoAttr K C "at"
 opened:NoAttr K C "opened"
 many:NoAttr K C "many"
 group:NoAttr K C "group"
 base:NoAttr K C "base"
 begun:NoAttr K C "begun"
 width:NoAttr K C "width"
 faults:NoAttr K C "faults"
 cut:NoAttr K C "cut"
 carried:NoAttr K C "carried"
 raised:NoAttr K C "raised"
 turns:NoAttr K C "turns"
 refusal:NoAttr K C "refusal"
structure MCls (K:PySem.W.Frag) (c:MCs):Prop where
 b:BCls K c.bx
 f:FCls K c.fe
 n:NCls K c.bn
structure MAt (c:MCs) (B:Hp) (A:Ma) (M:Mc) (R:List (Addr×HO)) (H:Hp):Prop where
 bb:BenchB c B A M
 h:Hd B (objs c A M R) H
theorem MAt.b {c:MCs} {B:Hp} {A:Ma} {M:Mc} {R:List (Addr×HO)} {H:Hp} (m:MAt c B A M R H):H A.b=some (.ins c.bn A.db (Za A M)):=m.h.get 0 rfl
theorem MAt.same {c:MCs} {B:Hp} {A:Ma} {M:Mc} {R:List (Addr×HO)} {H H':Hp} (m:MAt c B A M R H) (s:Same H H'):MAt c B A M R H':=⟨m.bb,m.h.same s⟩
theorem MAt.grow {c:MCs} {B:Hp} {A:Ma} {M:Mc} {R:List (Addr×HO)} {H:Hp} {t:Addr} {o:HO} (m:MAt c B A M R H) (n:H t=none):MAt c (upd B t o) A M R (upd H t o):=by
 have sB:Same B (upd B t o):=zo (Same.refl _) (m.h.free n);refine ⟨m.bb.same sB,m.h.nd,fun p q=>?_,fun p q=>?_,fun b u z=>?_⟩
 ·rw [zm (zv (m.h.st p q) n)];exact m.h.nw p q
 ·rw [zm (zv (m.h.st p q) n)];exact m.h.st p q
 ·by_cases e:b=t
  ·subst e;rw [zh] at z ⊢;exact z
  ·rw [zm e] at z ⊢;exact m.h.sm _ _ z
section
variable {P:Program} {w:World} {K:PySem.W.Frag} {mg:Str->Option Value} {base:Heap}
def Mc.touched (M:Mc) (kind:Str) (a:Int):Mc:={ M with touches:=M.touches++[(M.pc,kind,a)] }
def zch (c:MCs):Sp:=fun vs H Q _=>∃ (B:Hp) (A:Ma) (M:Mc) (R:List (Addr×HO)) (kind:Str) (a:Int),vs=[.ref A.b,.str kind,.int a]/\MAt c B A M R H/\M.touches.length<100000 /\
 ∀ B' A' H',Same B B'->A'.b=A.b->MAt c B' A' (M.touched kind a) R H'->Q .non H'
theorem ok_touch {c:MCs} (d:z8 K c.bn "touch" "Bench.touch" yM ["self","kind","address"]) (CN:NCls K c.bn):OkM P w K mg base CX0 1 c.bn "touch" ["self","kind","address"] (zch c):=by
 obtain ⟨f,fd,m,F,bd⟩:=d;refine ⟨f,fd,m,bd,F.ok YW (by rintro vs H Q E ⟨_,_,_,_,_,_,rfl,_⟩;rfl) fun cdv A outer s H vs Q E hr h=>?_⟩;obtain ⟨B,A,M,R,kind,a,rfl,m,hl,k⟩:=h;refine ⟨_,(zg (zS (Yq PySem.F.plainAttrs_list PySem.F.slot_list_append PySem.F.type_list_append xw (zi (pv 0) rfl) (zb (yy (zb (zi (pv 0) rfl) (zb (pv 1) (zb (pv 2) ze)))) ze)))),?_⟩;refine ⟨_,rfl,A.b,_,_,_,.ref A.aT,rfl,m.b,CN.c,CN.touches,rfl,.inl ⟨rfl,_,m.h.lst 6 rfl⟩,_,rfl,A.b,_,_,_,.int M.pc,rfl,m.b,CN.c,CN.pc,rfl,_,rfl,_,rfl,(by show 3<=sizeLine;decide),fun t nt=>?_⟩;have sB:Same B (upd B t (.tup [.int M.pc,.str kind,.int a])):=zo (Same.refl _) (m.h.free nt);have m1:=m.grow (o:=.tup [.int M.pc,.str kind,.int a]) nt;have e1:upd B t (.tup [.int M.pc,.str kind,.int a]) t=some (.tup [.int M.pc,.str kind,.int a]):=zh;generalize upd B t (.tup [.int M.pc,.str kind,.int a])=B1 at sB m1 e1;have tl:=m.bb.tl;refine ⟨A.aT,_,_,rfl,rfl,m1.h.get 6 rfl,(by rw [List.length_map];exact Nat.lt_of_le_of_lt (show A.ts.length<=100000 by omega) (by decide)),?_⟩;have h2:=m1.h.put (o':=.lst ((A.ts++[t]).map V.ref)) 6 rfl;rw [List.map_append] at h2;refine k B1 { A with ts:=A.ts++[t] } _ sB rfl ⟨⟨m1.bb.lens,m1.bb.starts,m1.bb.bx,m1.bb.msk,m1.bb.ml,m1.bb.dl,m1.bb.pl,?_,fun i t' p a1 a2=>?_,m1.bb.ul,m1.bb.uu,m1.bb.rf⟩,?_⟩
 ·show (A.ts++[t]).length=(M.touches++[_]).length
  rw [List.length_append,List.length_append,tl];rfl
 ·have a1:(A.ts++[t])[i]?=some t':=a1
  have a2:(M.touches++[(M.pc,kind,a)])[i]?=some p:=a2;by_cases z:i<A.ts.length
  ·rw [List.getElem?_append_left z] at a1
   rw [List.getElem?_append_left (by omega)] at a2;exact m1.bb.tt i t' p a1 a2
  ·rw [List.getElem?_append_right (by omega)] at a1 a2
   rw [tl] at a1
   cases e:i-M.touches.length with
   | zero=>rw [e] at a1 a2;cases a1;cases a2;exact e1
   | succ j=>rw [e] at a1;cases a1
 ·show Hd B1 (objs c { A with ts:=A.ts++[t] } (M.touched kind a) R) _
  have e:(A.ts++[t]).map V.ref=A.ts.map V.ref++[V.ref t]:=by rw [List.map_append];rfl
  unfold objs;rw [e];exact h2
end
section
variable {c:MCs} {B:Hp} {A:Ma} {M:Mc} {R:List (Addr×HO)} {H J:Hp} {a:Addr} {o o':HO}
theorem MAt.adopt (m:MAt c B A M R H) (h:Hd H [(a,o)] J):MAt c (upd B a o) A M R J:=by
 have na:H a=none:=h.nw _ (List.mem_singleton.mpr rfl);have nb:B a=none:=m.h.free na;have sB:Same B (upd B a o):=zo (Same.refl _) nb;refine ⟨m.bb.same sB,m.h.nd,fun p q=>?_,fun p q=>h.sm _ _ (m.h.st p q),fun b u z=>?_⟩
 ·rw [zm (zv (m.h.st p q) na)];exact m.h.nw p q
 ·by_cases e:b=a
  ·subst e;rw [zh] at z;cases z;exact h.get 0 rfl
  ·rw [zm e] at z;exact h.sm _ _ (m.h.sm _ _ z)
theorem MAt.newR (m:MAt c B A M R H) (n:H a=none):MAt c B A M ((a,o)::R) (upd H a o):=by
 refine ⟨m.bb,(m.h.new (o:=o) n).perm ?_⟩;unfold objs;rw [← List.cons_append,← List.cons_append,← List.cons_append,← List.cons_append,← List.cons_append,← List.cons_append,← List.cons_append,← List.cons_append,← List.cons_append];rw [← List.cons_append,← List.cons_append,← List.cons_append,← List.cons_append,← List.cons_append,← List.cons_append,← List.cons_append,← List.cons_append,← List.cons_append];exact (List.perm_middle (a:=(a,o)) (l₁:=_::_::_::_::_::_::_::_::_::Zm A M) (l₂:=R)).symm
theorem atR:(objs c A M ((a,o)::R))[9+(Zm A M).length]?=some (a,o):=by
 unfold objs;rw [show 9+(Zm A M).length=(Zm A M).length+1+1+1+1+1+1+1+1+1 by omega];simp only [List.getElem?_cons_succ];rw [List.getElem?_append_right (Nat.le_refl _),Nat.sub_self];rfl
theorem setR:(objs c A M ((a,o)::R)).set (9+(Zm A M).length) (a,o')=objs c A M ((a,o')::R):=by
 unfold objs;rw [show 9+(Zm A M).length=(Zm A M).length+1+1+1+1+1+1+1+1+1 by omega];simp only [List.set_cons_succ];rw [List.set_append_right _ _ (Nat.le_refl _),Nat.sub_self];rfl
theorem MAt.getR (m:MAt c B A M ((a,o)::R) H):H a=some o:=m.h.get _ atR
theorem MAt.putR (m:MAt c B A M ((a,o)::R) H):MAt c B A M ((a,o')::R) (upd H a o'):=by
 have h:=m.h.put (o':=o') _ atR;rw [setR] at h;exact ⟨m.bb,h⟩
theorem MAt.settle (m:MAt c B A M ((a,o)::R) H):MAt c (upd B a o) A M R H:=by
 have nb:B a=none:=m.h.nw (a,o) (List.mem_of_getElem? atR);have sB:Same B (upd B a o):=zo (Same.refl _) nb
 have sub:List.Sublist (objs c A M R) (objs c A M ((a,o)::R)):=by
  unfold objs;exact .cons₂ _ (.cons₂ _ (.cons₂ _ (.cons₂ _ (.cons₂ _ (.cons₂ _ (.cons₂ _ (.cons₂ _ (.cons₂ _ (List.Sublist.append (List.Sublist.refl _) (List.sublist_cons_self _ _))))))))))
 have h:=m.h.sub sub;refine ⟨m.bb.same sB,h.nd,fun p q=>?_,h.st,fun b u z=>?_⟩
 ·rw [zm ?_]
  ·exact h.nw p q
  ·intro e
   have nd:=m.h.nd;have p1:p∈objs c A M ((a,o)::R):=sub.subset q
   have:((a,o)::objs c A M R).Perm (objs c A M ((a,o)::R)):=by
    unfold objs;exact (List.perm_middle (a:=(a,o)) (l₁:=_::_::_::_::_::_::_::_::_::Zm A M) (l₂:=R)).symm
   have nd2:=(this.map Prod.fst).symm.nodup nd;exact (List.nodup_cons.mp nd2).1 (by have:=List.mem_map_of_mem (f:=Prod.fst) q;rw [e] at this;exact this)
 ·by_cases e:b=a
  ·subst e;rw [zh] at z;cases z;exact m.getR
  ·rw [zm e] at z;exact m.h.sm _ _ z
theorem MAt.mask (m:MAt c B A M R H) {k:Nat} (hk:k<M.masks.length):∃ x,A.ms[k]?=some x/\H x=some (.lst ((M.masks.getD k []).map V.bl)):=by
 have ml:=m.bb.ml;refine ⟨A.ms[k],by rw [List.getElem?_eq_getElem (by omega)],?_⟩;refine m.h.get (9+k) ?_;unfold objs;rw [show 9+k=k+1+1+1+1+1+1+1+1+1 by omega];simp only [List.getElem?_cons_succ];have lm:(Zm A M).length=A.ms.length:=by unfold Zm;rw [List.length_map,List.length_zip];omega
 rw [List.getElem?_append_left (by omega)];unfold Zm;have e:(A.ms.zip M.masks)[k]?=some (A.ms[k],M.masks[k]):=by rw [List.getElem?_zip_eq_some];exact ⟨by rw [List.getElem?_eq_getElem (by omega)],by rw [List.getElem?_eq_getElem hk]⟩
 rw [List.getElem?_map,e];show some _=some _;rw [List.getD_eq_getElem?_getD,List.getElem?_eq_getElem hk];rfl
end
section
variable {P:Program} {w:World} {K:PySem.W.Frag} {mg:Str->Option Value} {base:Heap}
def Mc.adr (M:Mc) (row:Nat) (place:Int):Int:=M.starts.getD row 0+place
def zck (c:MCs):Sp:=fun vs H Q _=>∃ (B:Hp) (A:Ma) (M:Mc) (R:List (Addr×HO)) (row:Nat) (place:Int),vs=[.ref A.b,.int row,.int place]/\MAt c B A M R H/\M.touches.length<100000/\row<M.starts.length/\0<=M.adr row place/\(M.adr row place).toNat<M.cells.length /\
 ∀ B' A' H',Same B B'->A'.b=A.b->MAt c B' A' (M.touched "read" (M.adr row place)) R H'->Q (.int (M.cells.getD (M.adr row place).toNat 0)) H'
theorem ok_read {c:MCs} (d:z8 K c.bn "read_cell" "Bench.read_cell" yj ["self","row","place"]) (CN:NCls K c.bn) (TO:OkM P w K mg base CX0 1 c.bn "touch" ["self","kind","address"] (zch c)):OkM P w K mg base CX0 2 c.bn "read_cell" ["self","row","place"] (zck c):=by
 obtain ⟨f,fd,m,F,bd⟩:=d;refine ⟨f,fd,m,bd,F.ok sc_Bench_read_cell (by rintro vs H Q E ⟨_,_,_,_,_,_,rfl,_⟩;rfl) fun cdv A outer s H vs Q E hr h=>?_⟩;obtain ⟨B,A,M,R,row,place,rfl,m,hl,h0,h1,h2,k⟩:=h;have nd:=sc_Bench_read_cell.nd;have hr1:=hr;refine ⟨_,(zd (zF (i:=3) nd rfl (Or.inl rfl) (zp zY (zB zM (zi (pv 0) rfl) (pv 1) (fun _ _=>rfl)) (pv 2)))
   (zd (zS (yt TO CN.c hr1 zy (pv 0) (zb yk (zb (pv 3) ze))))
   (zg (zn (zB zM (zi (pv 0) rfl) (pv 3) (fun _ _=>rfl)))))),?_⟩
 refine ⟨_,rfl,A.b,_,_,_,.ref A.aS,rfl,m.b,CN.c,CN.starts,rfl,_,rfl,A.aS,_,_,_,rfl,rfl,SqL.of (m.h.sm _ _ m.bb.starts),xa row h0 rfl,_,rfl,_,_,rfl,rfl,?_⟩;refine ⟨_,rfl,A.b,_,_,rfl,m.b,rfl,_,rfl,B,A,M,R,"read",M.adr row place,rfl,m,hl,fun B1 A1 H1 s1 eb m1=>?_⟩;refine ⟨_,rfl,A1.b,_,_,_,.ref A1.aC,by rw [eb],m1.b,CN.c,CN.cells,rfl,_,rfl,A1.aC,_,_,_,rfl,rfl,m1.h.lst 1 rfl,xa (M.adr row place).toNat h2 (show M.adr row place=_ by omega),?_⟩;exact k B1 A1 H1 s1 eb m1
def Mc.wrote (M:Mc) (row:Nat) (place n:Int):Mc:={ M.touched "write" (M.adr row place) with cells:=M.cells.set (M.adr row place).toNat n }
def spWrite (c:MCs):Sp:=fun vs H Q _=>∃ (B:Hp) (A:Ma) (M:Mc) (R:List (Addr×HO)) (row:Nat) (place n:Int),vs=[.ref A.b,.int row,.int place,.int n]/\MAt c B A M R H/\M.touches.length<100000/\row<M.starts.length/\0<=M.adr row place/\(M.adr row place).toNat<M.cells.length /\
 ∀ B' A' H',Same B B'->A'.b=A.b->MAt c B' A' (M.wrote row place n) R H'->Q .non H'
theorem ok_write {c:MCs} (d:z8 K c.bn "write_cell" "Bench.write_cell" z9 ["self","row","place","number"]) (CN:NCls K c.bn) (TO:OkM P w K mg base CX0 1 c.bn "touch" ["self","kind","address"] (zch c)):OkM P w K mg base CX0 2 c.bn "write_cell" ["self","row","place","number"] (spWrite c):=by
 obtain ⟨f,fd,m,F,bd⟩:=d;refine ⟨f,fd,m,bd,F.ok sc_Bench_write_cell (by rintro vs H Q E ⟨_,_,_,_,_,_,_,rfl,_⟩;rfl) fun cdv A outer s H vs Q E hr h=>?_⟩;obtain ⟨B,A,M,R,row,place,n,rfl,m,hl,h0,h1,h2,k⟩:=h;have nd:=sc_Bench_write_cell.nd;have hr1:=hr;refine ⟨_,(zd (zF (i:=4) nd rfl (Or.inl rfl) (zp zY (zB zM (zi (pv 0) rfl) (pv 1) (fun _ _=>rfl)) (pv 2)))
   (zd (zS (yt TO CN.c hr1 zy (pv 0) (zb yk (zb (pv 4) ze))))
   (zg (Yg (pv 3) (Yh (zi (pv 0) rfl) (pv 4) Zg))))),?_⟩
 refine ⟨_,rfl,A.b,_,_,_,.ref A.aS,rfl,m.b,CN.c,CN.starts,rfl,_,rfl,A.aS,_,_,_,rfl,rfl,SqL.of (m.h.sm _ _ m.bb.starts),xa row h0 rfl,_,rfl,_,_,rfl,rfl,?_⟩;refine ⟨_,rfl,A.b,_,_,rfl,m.b,rfl,_,rfl,B,A,M,R,"write",M.adr row place,rfl,m,hl,fun B1 A1 H1 s1 eb m1=>?_⟩;refine ⟨_,rfl,_,rfl,A1.b,_,_,_,.ref A1.aC,by rw [eb],m1.b,CN.c,CN.cells,rfl,_,rfl,A1.aC,_,_,(M.adr row place).toNat,rfl,rfl,m1.h.get 1 rfl,?_,?_⟩
 ·show ixN (M.cells.map V.int).length (M.adr row place)=_
  unfold ixN;rw [if_pos h1,if_pos (by rw [List.length_map];omega)]
 ·have h:=m1.h.put (o':=.lst ((M.cells.set (M.adr row place).toNat n).map V.int)) 1 rfl
  rw [List.map_set] at h;refine k B1 A1 _ s1 eb ⟨⟨m1.bb.lens,m1.bb.starts,m1.bb.bx,m1.bb.msk,m1.bb.ml,m1.bb.dl,m1.bb.pl,m1.bb.tl,m1.bb.tt,m1.bb.ul,m1.bb.uu,m1.bb.rf⟩,?_⟩;show Hd B1 (objs c A1 (M.wrote row place n) R) _;unfold objs;rw [show ((M.wrote row place n).cells.map V.int)=(M.cells.map V.int).set (M.adr row place).toNat (.int n) from List.map_set ..];exact h
end
theorem at_bl {bs:List Bool} {j:Int} (i:Nat) (h:i<bs.length) (e:j=i):atI (bs.map V.bl) j=some (.bl (bs.getD i false)):=by
 subst e;refine zQ ?_;rw [List.getElem?_map,List.getElem?_eq_getElem h,List.getD_eq_getElem?_getD,List.getElem?_eq_getElem h];rfl
def Mc.isAct (M:Mc) (k j:Nat):Bool:=(M.masks.getD k []).getD j false && !(y8 M.faults (.inl (j:Int))).isSome
def Mc.actTo (M:Mc) (k n:Nat):List Int:=((List.range n).filter (M.isAct k)).map fun j:Nat=>(j:Int)
def Mc.act (M:Mc) (k:Nat):List Int:=M.actTo k M.width.toNat
theorem Mc.actTo_succ (M:Mc) (k n:Nat):M.actTo k (n+1)=M.actTo k n++if M.isAct k n then [(n:Int)] else []:=by
 unfold Mc.actTo;rw [List.range_succ,List.filter_append,List.map_append];congr 1;by_cases z:M.isAct k n=true
 ·rw [List.filter_cons_of_pos z,if_pos z];rfl
 ·rw [List.filter_cons_of_neg z,if_neg z];rfl
theorem Mc.actTo_len (M:Mc) (k n:Nat):(M.actTo k n).length<=n:=by
 unfold Mc.actTo;rw [List.length_map];have:=List.length_filter_le (M.isAct k) (List.range n);rw [List.length_range] at this;exact this
theorem Mc.act_mem {M:Mc} {k:Nat} {j:Int} (h:j∈M.act k):0<=j/\j.toNat<M.width.toNat/\M.isAct k j.toNat=true:=by
 obtain ⟨i,hi,rfl⟩:=List.mem_map.mp h;obtain ⟨a,b⟩:=List.mem_filter.mp hi;have:=List.mem_range.mp a;exact ⟨by omega,by omega,b⟩
section
variable {P:Program} {w:World} {K:PySem.W.Frag} {mg:Str->Option Value} {base:Heap}
def spAct (c:MCs):Sp:=fun vs H Q _=>∃ (B:Hp) (A:Ma) (M:Mc) (R:List (Addr×HO)) (k:Nat),vs=[.ref A.b,.int k]/\MAt c B A M R H/\k<M.masks.length/\0<=M.width/\M.width.toNat<=(M.masks.getD k []).length/\M.width.toNat<=1000 /\
 ∀ B' H' l,Same B B'->MAt c B' A M R H'->B' l=some (.lst ((M.act k).map V.int))->Q (.ref l) H'
theorem ok_act {c:MCs} (d:z8 K c.bn "active_under" "Bench.active_under" zV ["self","mask"]) (hrg:mg "range"=none) (CN:NCls K c.bn):OkM P w K mg base CX0 1 c.bn "active_under" ["self","mask"] (spAct c):=by
 obtain ⟨f,fd,m,F,bd⟩:=d;refine ⟨f,fd,m,bd,F.ok sc_Bench_active_under (by rintro vs H Q E ⟨_,_,_,_,_,rfl,_⟩;rfl) fun cdv A outer s H vs Q E hr h=>?_⟩;obtain ⟨B,A,M,R,k,rfl,m,hk,w0,w1,w2,q⟩:=h;have nd:=sc_Bench_active_under.nd;have hu:=Nat.lt_of_le_of_lt (Nat.add_le_add_left (show 1<=64 by decide) _) hr.units;obtain ⟨x,ex,hx⟩:=m.mask hk;have SL:(3000:Nat)<sizeLine:=by decide
 refine ⟨_,(zd (zF (i:=2) nd rfl (Or.inr rfl) (zB zM (zi (pv 0) rfl) (pv 1) (fun _ _=>rfl)))
   (zg (zn (zga ["lane","truths","self"] [none,some 2,some 0] rfl rfl rfl (xv rfl hrg (zb (zi (pv 0) rfl) ze)) (fun s3 H3 fp=>⟨zW (i:=0) (show ((["lane","truths","self"]:List Str)).Nodup by decide +kernel) rfl (Or.inl rfl),(PW.pt (pw_and (z7 (zB (zgl (K:=K) rfl) (pv 1) (pv 0) (fun _ _=>rfl))) (pw_and1 (pt_cmp (pc_dnotin hu (pv 0) (ZL (K:=K) rfl (pv 2) rfl)) rfl)))),(pv 0)⟩))))),?_⟩
 refine ⟨_,rfl,A.b,_,_,_,.ref A.aM,rfl,m.b,CN.c,CN.masks,rfl,_,rfl,A.aM,_,_,.ref x,rfl,rfl,SqL.of (m.h.sm _ _ m.bb.msk),zQ (by rw [List.getElem?_map,ex];rfl),?_⟩;refine ⟨_,rfl,A.b,_,_,_,.int M.width,rfl,m.b,CN.c,CN.width,rfl,_,rfl,(by show -(2 ^ 62)<=M.width;omega),(by show M.width<2 ^ 62;omega),_,rfl,fun D nD=>?_⟩;have h0:Hd H [(D,.lst ((M.actTo k 0).map V.int))] (upd H D (.lst [])):=Hd.base.new nD;generalize upd H D (.lst [])=H1 at h0 ⊢;refine zgs (n:=M.width.toNat) (fun i σ J=>∃ u,σ=[u,some (.ref x),some (.ref A.b)]/\Hd H [(D,.lst ((M.actTo k i).map V.int))] J) ⟨none,rfl,h0⟩ ?_ ?_
 ·clear h0
  rintro i σ J hi ⟨u,rfl,h⟩;have la:=M.actTo_len k i;rw [M.actTo_succ k i];have fin:M.isAct k i=false->∃ u,[some (V.int (0+(i:Int))),some (.ref x),some (.ref A.b)]=[u,some (.ref x),some (.ref A.b)]/\Hd H [(D,.lst ((M.actTo k i++if M.isAct k i=true then [(i:Int)] else []).map V.int))] J:=fun e=>⟨_,rfl,by rw [e,if_neg (by decide),List.append_nil];exact h⟩;refine ⟨_,rfl,_,rfl,x,_,_,_,rfl,rfl,SqL.of (h.sm _ _ hx),at_bl i (by omega) (by omega),_,rfl,?_⟩;refine y6 (fun z1=>?_) (fun z1=>yx (fin (by unfold Mc.isAct;rw [Bool.eq_false_iff.mpr z1,Bool.false_and])));refine ⟨_,rfl,_,rfl,A.b,_,_,_,.ref A.aF,rfl,h.sm _ _ m.b,CN.c,CN.faults,rfl,A.aF,_,rfl,DGet.k (k:=.inl (0+(i:Int))) (h.sm _ _ (m.h.get 7 rfl)),_,rfl,?_⟩;rw [Int.zero_add] at *;refine y6 (fun z2=>?_) (fun z2=>fin (by unfold Mc.isAct;rw [z1,Bool.eq_false_iff.mpr z2];rfl));refine ⟨_,rfl,_,h.get 0 rfl,(by rw [List.length_map];omega),_,rfl,?_⟩;have e:M.isAct k i=true:=by unfold Mc.isAct;rw [z1,z2];rfl
  rw [e,if_pos rfl,List.map_append];exact h.put 0 rfl
 ·rintro σ J ⟨u,rfl,h⟩
  exact q _ J D (zo (Same.refl _) (m.h.free (h.nw _ (List.mem_singleton.mpr rfl)))) (m.adopt h) zh
def Mc.numAt (M:Mc) (p:Nat) (j:Int):Int:=M.nums.getD ((p:Int)*M.group*M.lanes+j).toNat 0
structure MOk (M:Mc):Prop where
 l1:1<=M.lanes
 l64:M.lanes<=64
 g:M.group=1∨M.group=2∨M.group=4
 nl:M.nums.length=8*M.lanes
 ml:M.masks.length=16
 mm:∀ m∈M.masks,m.length=4*M.lanes
 w0:0<=M.width
 w1:M.width<=M.group*M.lanes
def spNums (c:MCs) (K:PySem.W.Frag):Sp:=fun vs H Q _=>∃ (B:Hp) (A:Ma) (M:Mc) (R:List (Addr×HO)) (p:Nat) (aa:Addr) (js:List Int),vs=[.ref A.b,.int p,.ref aa]/\MAt c B A M R H/\MOk M/\((p:Int)+1)*M.group<=8/\B aa=some (.lst (js.map V.int))/\(∀ j∈js,0<=j/\j<M.group*M.lanes)/\js.length<=1000 /\
 ∀ B' H' l,Same B B'->MAt c B' A M R H'->B' l=some (.lst ((js.map (M.numAt p)).map V.int))->Q (.ref l) H'
theorem zco {g L p j:Int} (hg:g=1∨g=2∨g=4) (h1:1<=L) (hp:0<=p) (h8:(p+1)*g<=8) (j0:0<=j) (j1:j<g*L):0<=p*g*L+j/\p*g*L+j<8*L:=by
 have e:(p+1)*g*L<=8*L:=Int.mul_le_mul_of_nonneg_right h8 (by omega);have e2:(p+1)*g*L=p*g*L+g*L:=by rw [Int.add_mul,Int.add_mul,Int.one_mul]
 have e3:0<=p*g*L:=Int.mul_nonneg (Int.mul_nonneg hp (by omega)) (by omega);omega
theorem ok_nums {c:MCs} (d:z8 K c.bn "numbers_in" "Bench.numbers_in" yb ["self","seat","active"]) (CC:MCls K c) (NA:OkM P w K mg base CX0 2 c.bx "number_at" ["self","group","seat","lane"] (spNum c.bx)):OkM P w K mg base CX0 3 c.bn "numbers_in" ["self","seat","active"] (spNums c K):=by
 obtain ⟨f,fd,m,F,bd⟩:=d;refine ⟨f,fd,m,bd,F.ok sc_Bench_numbers_in (by rintro vs H Q E ⟨_,_,_,_,_,_,_,rfl,_⟩;rfl) fun cdv A outer s H vs Q E hr h=>?_⟩;obtain ⟨B,A,M,R,p,aa,js,rfl,m,ok,h8,ea,hj,hl,q⟩:=h;have nd:=sc_Bench_numbers_in.nd;have hr2:=hr;have CN:=CC.n;have SL:(3000:Nat)<sizeLine:=by decide
 have l1:=ok.l1;have l64:=ok.l64;have hg:=ok.g;refine ⟨_,(zg (zn (xA ["lane","seat","self"] [none,some 1,some 0] rfl rfl rfl (xz (pv 2)) (fun s3 H3 fp=>⟨zW (i:=0) (show ((["lane","seat","self"]:List Str)).Nodup by decide +kernel) rfl (Or.inl rfl),(yt NA CC.b.c hr2 zy (ZL (K:=K) rfl (pv 2) rfl) (zb (ZL (K:=K) rfl (pv 2) rfl) (zb (pv 1) (zb (pv 0) ze))))⟩)))),?_⟩;refine ⟨_,rfl,aa,rfl,⟨_,SqL.of (m.h.sm _ _ ea)⟩,_,rfl,fun D nD=>?_⟩;have h0:Hd H [(D,.lst (((js.take 0).map (M.numAt p)).map V.int))] (upd H D (.lst [])):=Hd.base.new nD;generalize upd H D (.lst [])=H1 at h0 ⊢;refine xY (K:=K) (a:=aa) (D:=D) (xs:=js.map V.int) (fun i σ J=>∃ u,σ=[u,some (.int (p:Int)),some (.ref A.b)]/\Hd H [(D,.lst (((js.take i).map (M.numAt p)).map V.int))] J) ⟨none,rfl,h0⟩ (fun i σ J _ ⟨_,_,h⟩=>SqL.of (h.sm _ _ (m.h.sm _ _ ea))) ?_ ?_
 ·clear h0
  rintro i y σ J hy ⟨u,rfl,h⟩;obtain ⟨hlt,rfl⟩:=xN hy;have mj:=L2.getD_mem hlt;have e9:js[i]?=some (js.getD i 0):=by rw [List.getD_eq_getElem?_getD,List.getElem?_eq_getElem hlt];rfl
  generalize js.getD i 0=j at mj e9;obtain ⟨j0,j1⟩:=hj j mj;obtain ⟨s0,s1⟩:=zco hg (show (1:Int)<=M.lanes by omega) (show (0:Int)<=p by omega) h8 j0 j1;refine ⟨_,rfl,A.b,_,_,_,.ref A.bx,rfl,h.sm _ _ m.b,CN.c,CN.boxes,rfl,A.bx,_,_,rfl,h.sm _ _ (m.h.sm _ _ m.bb.bx),rfl,_,rfl,A.b,_,_,_,.int M.group,rfl,h.sm _ _ m.b,CN.c,CN.group,rfl,_,rfl,_,rfl,A.bx,A.dbx,A.aN,M.lanes,M.group,p,j,M.nums,rfl,h.sm _ _ (m.h.sm _ _ m.bb.bx),h.sm _ _ (m.h.get 2 rfl),by omega,by omega,by omega,by omega,s0,by rw [ok.nl];omega,?_⟩;refine ⟨_,h.get 0 rfl,(by rw [List.length_map,List.length_map,List.length_take];omega),_,rfl,?_⟩;have h3:=h.put (o':=.lst (((js.take (i+1)).map (M.numAt p)).map V.int)) 0 rfl
  have e:(((js.take (i+1)).map (M.numAt p)).map V.int)=(((js.take i).map (M.numAt p)).map V.int)++[V.int (M.numAt p j)]:=by
   rw [List.take_add_one,e9,List.map_append,List.map_append];rfl
  rw [e] at h3 ⊢;exact h3
 ·rintro σ J ⟨u,rfl,h⟩
  rw [List.length_map,List.take_length] at h;exact q _ J D (zo (Same.refl _) (m.h.free (h.nw _ (List.mem_singleton.mpr rfl)))) (m.adopt h) zh
end
section
variable {c:MCs} {B:Hp} {A:Ma} {M:Mc} {R:List (Addr×HO)} {H H':Hp}
theorem mskO_len (m:MAt c B A M R H):(Zm A M).length=A.ms.length:=by
 unfold Zm;rw [List.length_map,List.length_zip,m.bb.ml];omega
theorem MAt.putMask (m:MAt c B A M R H) {k:Nat} {x:Addr} (ex:A.ms[k]?=some x) (hk:k<M.masks.length) (b:List Bool):MAt c B A { M with masks:=M.masks.set k b } R (upd H x (.lst (b.map V.bl))):=by
 have lm:=mskO_len m;have ml:=m.bb.ml;have lk:k<A.ms.length:=(List.getElem?_eq_some_iff.mp ex).1;have e0:(A.ms.zip M.masks)[k]?=some (x,M.masks[k]):=by rw [List.getElem?_zip_eq_some];exact ⟨ex,by rw [List.getElem?_eq_getElem hk]⟩
 have e:(objs c A M R)[9+k]?=some (x,.lst ((M.masks[k]).map V.bl)):=by
  unfold objs;rw [show 9+k=k+1+1+1+1+1+1+1+1+1 by omega];simp only [List.getElem?_cons_succ];rw [List.getElem?_append_left (by omega)];unfold Zm;rw [List.getElem?_map,e0];rfl
 have h:=m.h.put (o':=.lst (b.map V.bl)) _ e;refine ⟨⟨m.bb.lens,m.bb.starts,m.bb.bx,m.bb.msk,by show A.ms.length=(M.masks.set k b).length;rw [List.length_set,ml],m.bb.dl,m.bb.pl,m.bb.tl,m.bb.tt,m.bb.ul,m.bb.uu,m.bb.rf⟩,?_⟩
 have es:(objs c A M R).set (9+k) (x,.lst (b.map V.bl))=objs c A { M with masks:=M.masks.set k b } R:=by
  unfold objs;rw [show 9+k=k+1+1+1+1+1+1+1+1+1 by omega];simp only [List.set_cons_succ];rw [List.set_append_left _ _ (by omega)]
  have:(Zm A M).set k (x,.lst (b.map V.bl))=Zm A { M with masks:=M.masks.set k b }:=by
   unfold Zm;show ((A.ms.zip M.masks).map _).set k _=(A.ms.zip (M.masks.set k b)).map _
   have ez:A.ms.zip (M.masks.set k b)=(A.ms.zip M.masks).set k (x,b):=by
    apply List.ext_getElem?;intro j;rw [List.getElem?_set]
    split
    ·rename_i e
     subst e;rw [if_pos (by rw [List.length_zip];omega),List.getElem?_zip_eq_some];exact ⟨ex,by rw [List.getElem?_set_self hk]⟩
    ·rename_i ne
     cases hz:(A.ms.zip M.masks)[j]? with
     | none =>
      rw [List.getElem?_eq_none_iff] at hz ⊢;rw [List.length_zip] at hz ⊢;rw [List.length_set];exact hz
     | some q =>
      rw [List.getElem?_zip_eq_some] at hz ⊢;exact ⟨hz.1,by rw [List.getElem?_set_ne ne];exact hz.2⟩
   rw [ez,List.map_set]
  rw [this];rfl
 rw [es] at h;exact h
theorem MAt.mask' (m:MAt c B A M R H) {k:Nat} {x:Addr} (ex:A.ms[k]?=some x) (hk:k<M.masks.length):H x=some (.lst ((M.masks.getD k []).map V.bl)):=by
 obtain ⟨y,ey,hy⟩:=m.mask hk;rw [ex] at ey;cases ey;exact hy
theorem MAt.took (m:MAt c B A M R H) (k:∀ b o,b≠A.fd->H b=some o->H' b=some o) (e:H' A.fd=some (zO c.fe A.dfd A.aD (fAt M.dust (M.dq+1)))):MAt c B A { M with dq:=M.dq+1 } R H' :=
 ⟨⟨m.bb.lens,m.bb.starts,m.bb.bx,m.bb.msk,m.bb.ml,m.bb.dl,m.bb.pl,m.bb.tl,m.bb.tt,m.bb.ul,m.bb.uu,m.bb.rf⟩,m.h.chg 4 rfl k e⟩
end
def clr (m:List Bool) (n:Nat):List Bool:=(List.range n).foldl (fun m j=>m.set j false) m
def sel (m:List Bool) (js:List Int):List Bool:=js.foldl (fun m j=>m.set j.toNat true) m
def dst (d:List Int) (q:Nat) (m:List Bool) (lo k:Nat):List Bool:=(List.range k).foldl (fun m t=>m.set (lo+t) (decide (fVal d (q+t) % 2=1))) m
theorem Zd (m:List Bool):∀ n,(clr m n).length=m.length
 | 0=>rfl
 | n+1=>by unfold clr;rw [List.range_succ,List.foldl_append];show (List.set _ _ _).length=_;rw [List.length_set];exact Zd m n
theorem Z1:∀ (js:List Int) (m:List Bool),(sel m js).length=m.length
 | [],_=>rfl
 | j::js,m=>by show (sel (m.set j.toNat true) js).length=_;rw [Z1 js,List.length_set]
theorem YE (d:List Int) (q:Nat) (m:List Bool) (lo:Nat):∀ k,(dst d q m lo k).length=m.length
 | 0=>rfl
 | n+1=>by unfold dst;rw [List.range_succ,List.foldl_append];show (List.set _ _ _).length=_;rw [List.length_set];exact YE d q m lo n
theorem zgu (m:List Bool) (n:Nat):clr m (n+1)=(clr m n).set n false:=by unfold clr;rw [List.range_succ,List.foldl_append];rfl
theorem zgo (d:List Int) (q:Nat) (m:List Bool) (lo n:Nat):dst d q m lo (n+1)=(dst d q m lo n).set (lo+n) (decide (fVal d (q+n) % 2=1)):=by unfold dst;rw [List.range_succ,List.foldl_append];rfl
theorem sel_snoc (m:List Bool) (js:List Int) (j:Int):sel m (js++[j])=(sel m js).set j.toNat true:=by unfold sel;rw [List.foldl_append];rfl
def Mc.room (M:Mc):Nat:=(M.group*M.lanes).toNat
def Mc.maskOf (M:Mc) (k:Nat) (js:List Int):List Bool:=dst M.dust M.dq (sel (clr (M.masks.getD k []) M.width.toNat) js) M.width.toNat (M.room-M.width.toNat)
def Mc.laidMask (M:Mc) (k:Nat) (js:List Int):Mc:={ M with masks:=M.masks.set k (M.maskOf k js),dq:=M.dq+(M.room-M.width.toNat) }
section
variable {P:Program} {w:World} {K:PySem.W.Frag} {mg:Str->Option Value} {base:Heap}
def spMask (c:MCs) (K:PySem.W.Frag):Sp:=fun vs H Q _=>∃ (B:Hp) (A:Ma) (M:Mc) (R:List (Addr×HO)) (k:Nat) (aa:Addr) (js:List Int),vs=[.ref A.b,.int k,.ref aa]/\MAt c B A M R H/\MOk M/\k<16/\B aa=some (.lst (js.map V.int))/\(∀ j∈js,0<=j/\j<M.group*M.lanes) /\
 ∀ H',MAt c B A (M.laidMask k js) R H'->Q .non H'
theorem ok_mask {c:MCs} (d:z8 K c.bn "lay_mask" "Bench.lay_mask" yr ["self","mask","chosen"]) (hrg:mg "range"=none) (CC:MCls K c) (TK:OkM P w K mg base CX0 1 c.fe "taken" ["self"] (zci c.fe)):OkM P w K mg base CX0 2 c.bn "lay_mask" ["self","mask","chosen"] (spMask c K):=by
 obtain ⟨f,fd,m,F,bd⟩:=d;refine ⟨f,fd,m,bd,F.ok sc_Bench_lay_mask (by rintro vs H Q E ⟨_,_,_,_,_,_,_,rfl,_⟩;rfl) fun cdv A outer s H vs Q E hr h=>?_⟩;obtain ⟨B,A,M,R,k,aa,js,rfl,m,ok,hk,ea,hj,q⟩:=h;have nd:=sc_Bench_lay_mask.nd;have hr1:=hr;have CN:=CC.n;have ml:=ok.ml;have hk':k<M.masks.length:=by omega
 have l1:=ok.l1;have l64:=ok.l64;have hg:=ok.g;have w0:=ok.w0;have w1:=ok.w1;have rb:M.group*M.lanes<=4*M.lanes/\1<=M.group*M.lanes:=by rcases hg with e | e | e <;> rw [e] <;> omega
 have lm:(M.masks.getD k []).length=4*M.lanes:=by
  rw [List.getD_eq_getElem?_getD,List.getElem?_eq_getElem hk'];exact ok.mm _ (List.getElem_mem hk')
 obtain ⟨x,ex,hx⟩:=m.mask hk';refine ⟨_,(zd (zF (i:=3) nd rfl (Or.inl rfl) (zB zM (zi (pv 0) rfl) (pv 1) (fun _ _=>rfl)))
   (zd (Ze PassesOwn.never rfl (xv rfl hrg (zb (zi (pv 0) rfl) ze)) (zW (i:=4) nd rfl (Or.inl rfl)) (zg (Yg Zy (Yh (pv 3) (pv 4) Zg))))
   (zd (Ze PassesOwn.never rfl (xz (pv 2)) (zW (i:=4) nd rfl (Or.inl rfl)) (zg (Yg Zy (Yh (pv 3) (pv 4) Zg))))
   (zg (Ze PassesOwn.never rfl (pi_range2 rfl hrg (zb (zi (pv 0) rfl) (zb (zp xL (zi (pv 0) rfl) (zi (pv 0) rfl)) ze))) (zW (i:=4) nd rfl (Or.inl rfl)) (zg (Yg (xO yO (zp ye (pe_okM0 TK CC.f.c hr1 zy (zi (pv 0) rfl)) zf) zf (zJ _)) (Yh (pv 3) (pv 4) Zg)))))))),?_⟩
 refine ⟨_,rfl,A.b,_,_,_,.ref A.aM,rfl,m.b,CN.c,CN.masks,rfl,_,rfl,A.aM,_,_,.ref x,rfl,rfl,SqL.of (m.h.sm _ _ m.bb.msk),zQ (by rw [List.getElem?_map,ex];rfl),?_⟩
 have set_one:∀ {n:Nat} {bs:List Bool} {i:Int},i=(n:Int)->n<bs.length->ixN (bs.map V.bl).length i=some n:=fun {n bs i} e h=>by
  subst e;unfold ixN;rw [if_pos (by omega),if_pos (by rw [List.length_map];omega)];congr 1
 have st:∀ (b:List Bool),({ M with masks:=M.masks.set k b }:Mc).masks.getD k []=b:=fun b=>by
  show (M.masks.set k b).getD k []=b;rw [List.getD_eq_getElem?_getD,List.getElem?_set_self hk'];rfl
 have ss:∀ (b b':List Bool),({ ({ M with masks:=M.masks.set k b }:Mc) with masks:=(M.masks.set k b).set k b' }:Mc)={ M with masks:=M.masks.set k b' }:=fun b b'=>by rw [List.set_set]
 refine ⟨_,rfl,A.b,_,_,_,.int M.width,rfl,m.b,CN.c,CN.width,rfl,_,rfl,(by show -(2 ^ 62)<=M.width;omega),(by show M.width<2 ^ 62;omega),?_⟩
 have m0:MAt c B A { M with masks:=M.masks.set k (clr (M.masks.getD k []) 0) } R H:=by
  have e:M.masks.set k (clr (M.masks.getD k []) 0)=M.masks:=by
   show M.masks.set k (M.masks.getD k [])=M.masks;rw [List.getD_eq_getElem?_getD,List.getElem?_eq_getElem hk'];exact List.set_getElem_self hk'
  rw [e];exact m
 show ∃ W:Nat->Nat->St->Hp->Prop,_;refine ZP (n:=M.width.toNat) (fun i σ J=>∃ u,σ=[some (.ref A.b),some (.int (k:Int)),some (.ref aa),some (.ref x),u]/\MAt c B A { M with masks:=M.masks.set k (clr (M.masks.getD k []) i) } R J) ⟨none,rfl,m0⟩ ?_ ?_
 ·rintro i σ J hi ⟨u,rfl,m1⟩
  have hx1:=m1.mask' ex (by show k<(M.masks.set k _).length;rw [List.length_set];exact hk');rw [st] at hx1;refine ⟨_,rfl,_,rfl,x,_,_,i,rfl,rfl,hx1,set_one (by omega) (by rw [Zd,lm];omega),_,rfl,?_⟩;have m2:=m1.putMask ex (by show k<(M.masks.set k _).length;rw [List.length_set];exact hk') (clr (M.masks.getD k []) (i+1));rw [ss] at m2;have e:((clr (M.masks.getD k []) (i+1)).map V.bl)=((clr (M.masks.getD k []) i).map V.bl).set i (.bl false):=by rw [zgu,List.map_set]
  rw [e] at m2;exact m2
 clear m0 hx;rintro σ J ⟨u,rfl,m1⟩;refine ⟨_,rfl,aa,rfl,⟨_,SqL.of (m1.h.sm _ _ ea)⟩,?_⟩;refine ZC (K:=K) (a:=aa) (xs:=js.map V.int) (fun i σ J=>∃ u,σ=[some (.ref A.b),some (.int (k:Int)),some (.ref aa),some (.ref x),u]/\MAt c B A { M with masks:=M.masks.set k (sel (clr (M.masks.getD k []) M.width.toNat) (js.take i)) } R J) ⟨u,rfl,m1⟩ (fun i σ J _ ⟨_,_,m⟩=>SqL.of (m.h.sm _ _ ea)) ?_ ?_
 ·rintro i y σ J hy ⟨u,rfl,m1⟩
  obtain ⟨hlt,rfl⟩:=xN hy;have mj:=L2.getD_mem hlt;have e9:js[i]?=some (js.getD i 0):=by rw [List.getD_eq_getElem?_getD,List.getElem?_eq_getElem hlt];rfl
  generalize js.getD i 0=j at mj e9;obtain ⟨j0,j1⟩:=hj j mj;have hx1:=m1.mask' ex (by show k<(M.masks.set k _).length;rw [List.length_set];exact hk');rw [st] at hx1;refine ⟨_,rfl,_,rfl,x,_,_,j.toNat,rfl,rfl,hx1,set_one (by omega) (by rw [Z1,Zd,lm];omega),_,rfl,?_⟩;have m2:=m1.putMask ex (by show k<(M.masks.set k _).length;rw [List.length_set];exact hk') (sel (clr (M.masks.getD k []) M.width.toNat) (js.take (i+1)));rw [ss] at m2
  have e:((sel (clr (M.masks.getD k []) M.width.toNat) (js.take (i+1))).map V.bl)=((sel (clr (M.masks.getD k []) M.width.toNat) (js.take i)).map V.bl).set j.toNat (.bl true):=by
   rw [List.take_add_one,e9];show ((sel _ (js.take i++[j])).map V.bl)=_;rw [sel_snoc,List.map_set]
  rw [e] at m2;exact m2
 rintro σ J1 ⟨u,rfl,m1⟩;rw [List.length_map,List.take_length] at m1;generalize hb:sel (clr (M.masks.getD k []) M.width.toNat) js=b1 at m1;have lb1:b1.length=4*M.lanes:=by rw [← hb,Z1,Zd,lm]
 obtain ⟨wn,ew⟩:∃ n:Nat,M.width=n:=⟨M.width.toNat,by omega⟩;obtain ⟨rn,er⟩:∃ n:Nat,M.group*M.lanes=n:=⟨(M.group*M.lanes).toNat,by omega⟩;refine ⟨_,rfl,A.b,_,_,_,.int M.width,rfl,m1.b,CN.c,CN.width,rfl,_,rfl,A.b,_,_,_,.int M.group,rfl,m1.b,CN.c,CN.group,rfl,_,rfl,A.b,_,_,_,.int M.lanes,rfl,m1.b,CN.c,CN.lanes,rfl,_,_,rfl,rfl,.inl ⟨by omega,by omega⟩,_,_,rfl,?_⟩;refine ⟨⟨by omega,by omega,by show -(2 ^ 62)<=M.group*M.lanes;omega,by show M.group*M.lanes<2 ^ 62;omega⟩,?_⟩;have en:(M.group*M.lanes-M.width).toNat=M.room-M.width.toNat:=by unfold Mc.room;omega
 show ∃ W:Nat->Nat->St->Hp->Prop,_;refine ZP (lo:=M.width) (n:=(M.group*M.lanes-M.width).toNat) (fun i σ J=>∃ u,σ=[some (.ref A.b),some (.int (k:Int)),some (.ref aa),some (.ref x),u]/\MAt c B A { M with masks:=M.masks.set k (dst M.dust M.dq b1 M.width.toNat i),dq:=M.dq+i } R J) ⟨u,rfl,m1⟩ ?_ ?_
 ·rintro i σ J hi ⟨u,rfl,m2⟩
  refine ⟨_,rfl,A.b,_,_,_,.ref A.fd,rfl,m2.b,CN.c,CN.dust,rfl,A.fd,_,_,rfl,m2.h.get 4 rfl,rfl,A.fd,A.dfd,A.aD,M.dust,M.dq+i,rfl,m2.h.get 4 rfl,m2.h.sm _ _ m2.bb.dl,fun J3 k3 e3=>?_⟩;have m3:=m2.took k3 e3;refine ⟨_,_,rfl,rfl,(by show (0:Int)<2;decide),rfl,_,rfl,_,rfl,?_⟩;have hx1:=m3.mask' ex (by show k<(M.masks.set k _).length;rw [List.length_set];exact hk');have e0:(M.masks.set k (dst M.dust M.dq b1 M.width.toNat i)).getD k []=dst M.dust M.dq b1 M.width.toNat i:=by rw [List.getD_eq_getElem?_getD,List.getElem?_set_self hk'];rfl
  have hx1:J3 x=some (.lst ((dst M.dust M.dq b1 M.width.toNat i).map V.bl)):=by rw [← e0];exact hx1
  refine ⟨x,_,_,M.width.toNat+i,rfl,rfl,hx1,set_one (by omega) (by rw [YE,lb1];omega),_,rfl,?_⟩;have m4:=m3.putMask ex (by show k<(M.masks.set k _).length;rw [List.length_set];exact hk') (dst M.dust M.dq b1 M.width.toNat (i+1))
  have e:((dst M.dust M.dq b1 M.width.toNat (i+1)).map V.bl)=((dst M.dust M.dq b1 M.width.toNat i).map V.bl).set (M.width.toNat+i) (.bl (decide (V.int (fVal M.dust (M.dq+i) % 2)=V.int 1))):=by
   rw [zgo,List.map_set];congr 2;by_cases z:fVal M.dust (M.dq+i) % 2=1
   ·rw [z];rfl
   ·rw [decide_eq_false z,decide_eq_false (fun q=>z (V.int.inj q))]
  rw [e] at m4;have e2:({ ({ ({ M with masks:=M.masks.set k (dst M.dust M.dq b1 M.width.toNat i),dq:=M.dq+i }:Mc) with dq:=M.dq+i+1 }:Mc) with masks:=(M.masks.set k (dst M.dust M.dq b1 M.width.toNat i)).set k (dst M.dust M.dq b1 M.width.toNat (i+1)) }:Mc)={ M with masks:=M.masks.set k (dst M.dust M.dq b1 M.width.toNat (i+1)),dq:=M.dq+(i+1) }:=by rw [List.set_set];rfl
  have m4:MAt c B A { M with masks:=M.masks.set k (dst M.dust M.dq b1 M.width.toNat (i+1)),dq:=M.dq+(i+1) } R _:=e2 ▸ m4;exact m4
 ·rintro σ J2 ⟨u,rfl,m2⟩
  refine q J2 ?_;rw [en] at m2;unfold Mc.laidMask Mc.maskOf;rw [hb];exact m2
def Mc.layOne (told:List (Key×V)) (p:Nat) (M:Mc) (t:Nat):Mc:=match y8 told (.inl (t:Int)) with
 | some (.int n)=>{ M with nums:=M.nums.set ((p:Int)*M.group*M.lanes+t).toNat n }
 | _=>{ M with nums:=M.nums.set ((p:Int)*M.group*M.lanes+t).toNat (fVal M.dust M.dq),dq:=M.dq+1 }
def Mc.layTo (told:List (Key×V)) (p:Nat) (M:Mc) (n:Nat):Mc:=(List.range n).foldl (fun M t=>M.layOne told p t) M
def Mc.laidSeat (M:Mc) (told:List (Key×V)) (p:Nat):Mc:=M.layTo told p M.room
theorem Mc.layTo_succ (told:List (Key×V)) (p:Nat) (M:Mc) (n:Nat):M.layTo told p (n+1)=(M.layTo told p n).layOne told p n:=by unfold Mc.layTo;rw [List.range_succ,List.foldl_append];rfl
structure SeatSame (M N:Mc):Prop where
 g:N.group=M.group
 l:N.lanes=M.lanes
 n:N.nums.length=M.nums.length
 d:N.dust=M.dust
theorem Mc.layOne_same (told:List (Key×V)) (p:Nat) (M:Mc) (t:Nat):SeatSame M (M.layOne told p t):=by
 unfold Mc.layOne
 split
 ·exact ⟨rfl,rfl,List.length_set ..,rfl⟩
 ·exact ⟨rfl,rfl,List.length_set ..,rfl⟩
theorem Mc.layTo_same (told:List (Key×V)) (p:Nat) (M:Mc):∀ n,SeatSame M (M.layTo told p n)
 | 0=>⟨rfl,rfl,rfl,rfl⟩
 | n+1=>by
  have a:=Mc.layTo_same told p M n;have b:=Mc.layOne_same told p (M.layTo told p n) n;rw [M.layTo_succ];exact ⟨b.g.trans a.g,b.l.trans a.l,b.n.trans a.n,b.d.trans a.d⟩
end
section
variable {c:MCs} {B:Hp} {A:Ma} {M:Mc} {R:List (Addr×HO)} {H H':Hp}
theorem MAt.putNums (m:MAt c B A M R H) (ns:List Int):MAt c B A { M with nums:=ns } R (upd H A.aN (.lst (ns.map V.int))) :=
 ⟨⟨m.bb.lens,m.bb.starts,m.bb.bx,m.bb.msk,m.bb.ml,m.bb.dl,m.bb.pl,m.bb.tl,m.bb.tt,m.bb.ul,m.bb.uu,m.bb.rf⟩,m.h.put (o':=.lst (ns.map V.int)) 2 rfl⟩
end
def xy (js:List Int) (vs:List (Option Int)):List (Key×V):=putAll [] ((js.map Sum.inl).zip (vs.map oV))
theorem YX:∀ (ps:List (Key×V)) (kvs:List (Key×V)) (P:V->Prop),(∀ p∈ps,P p.2)->(∀ k v,y8 kvs k=some v->P v)->∀ k v,y8 (putAll kvs ps) k=some v->P v
 | [],_,_,_,h,k,v,e=>h k v e
 | p::ps,kvs,P,hp,h,k,v,e=>by
  refine YX ps (putK kvs p.1 p.2) P (fun q hq=>hp q (List.mem_cons_of_mem _ hq)) (fun k' v' e'=>?_) k v e;rw [YG] at e'
  split at e'
  ·cases e';exact hp p List.mem_cons_self
  ·exact h k' v' e'
theorem told_val {js:List Int} {vs:List (Option Int)} {k:Key} {v:V} (e:y8 (xy js vs) k=some v):v=.non∨∃ n,v=.int n:=by
 refine YX _ [] (fun v=>v=.non∨∃ n,v=.int n) (fun p hp=>?_) (fun k v e=>by cases e) k v e;obtain ⟨o,_,eo⟩:=List.mem_map.mp (List.of_mem_zip hp).2
 cases o with
 | none=>exact .inl eo.symm
 | some n=>exact .inr ⟨n,eo.symm⟩
section
variable {P:Program} {w:World} {K:PySem.W.Frag} {mg:Str->Option Value} {base:Heap}
def spSeat (c:MCs) (K:PySem.W.Frag):Sp:=fun vs H Q _=>∃ (B:Hp) (A:Ma) (M:Mc) (R:List (Addr×HO)) (p:Nat) (aa an:Addr) (js:List Int) (ns:List (Option Int)),vs=[.ref A.b,.int p,.ref aa,.ref an]/\MAt c B A M R H/\MOk M/\((p:Int)+1)*M.group<=8/\B aa=some (.lst (js.map V.int))/\B an=some (.lst (ns.map oV))/\js.length=ns.length /\
 ∀ B' H',Same B B'->MAt c B' A (M.laidSeat (xy js ns) p) R H'->Q .non H'
theorem ok_seat {c:MCs} (d:z8 K c.bn "lay_seat" "Bench.lay_seat" yq ["self","seat","active","numbers"]) (hrg:mg "range"=none) (hdict:mg "dict"=none) (hzip:mg "zip"=none) (CC:MCls K c) (TK:OkM P w K mg base CX0 1 c.fe "taken" ["self"] (zci c.fe)) (LA:OkM P w K mg base CX0 2 c.bx "lay" ["self","group","seat","lane","number"] (spLay c.bx)):OkM P w K mg base CX0 3 c.bn "lay_seat" ["self","seat","active","numbers"] (spSeat c K):=by
 obtain ⟨f,fd,m,F,bd⟩:=d;refine ⟨f,fd,m,bd,F.ok sc_Bench_lay_seat (by rintro vs H Q E ⟨_,_,_,_,_,_,_,_,_,rfl,_⟩;rfl) fun cdv A outer s H vs Q E hr h=>?_⟩;obtain ⟨B,A,M,R,p,aa,an,js,ns,rfl,m,ok,h8,ea,en,le,q⟩:=h;have nd:=sc_Bench_lay_seat.nd;have hr2:=hr;have hr1:=hr.mono (show 1<=2 by decide);have hu:=Nat.lt_of_le_of_lt (Nat.add_le_add_left (show 1<=64 by decide) _) hr.units;have CN:=CC.n;have l1:=ok.l1;have l64:=ok.l64;have hg:=ok.g;have rb:M.group*M.lanes<=4*M.lanes/\1<=M.group*M.lanes:=by rcases hg with e | e | e <;> rw [e] <;> omega
 refine ⟨_,(zd (zF (i:=4) nd rfl (Or.inl rfl) (zg8 rfl (by rfl) hdict (by rfl) hzip (zb (pv 2) (zb (pv 3) ze))))
   (zg (Ze PassesOwn.never rfl (xv rfl hrg (zb (zp xL (zi (pv 0) rfl) (zi (pv 0) rfl)) ze)) (zW (i:=5) nd rfl (Or.inl rfl)) (zd (zF (i:=6) nd rfl (Or.inl rfl) (pe_dget1 hu (pv 4) (pv 5) ⟨rfl,rfl,rfl,rfl⟩))
   (zd (x8 (zK (zG Y5 (pv 6) xR (zJ _)) (zg (zF (i:=6) nd rfl (Or.inl rfl) (pe_okM0 TK CC.f.c hr1 zy (zi (pv 0) rfl)))) zu))
   (zg (zS (yt LA CC.b.c hr2 zy (zi (pv 0) rfl) (zb (zi (pv 0) rfl) (zb (pv 1) (zb (pv 5) (zb (pv 6) ze)))))))))))),?_⟩
 have ek:(js.map (Sum.inl:Int->Key)).map kV=js.map V.int:=by rw [List.map_map];rfl
 refine ⟨_,rfl,_,rfl,aa,an,js.map Sum.inl,ns.map oV,rfl,(by rw [ek];exact SqL.of (m.h.sm _ _ ea)),SqL.of (m.h.sm _ _ en),(by rw [List.length_map,List.length_map,le]),fun dt ndt=>?_⟩;show Xb 4 (.ref dt) _ (upd H dt (.dK (xy js ns))) _;generalize et:xy js ns=told at q;have tv:∀ k v,y8 told k=some v->v=.non∨∃ n,v=.int n:=fun k v e=>by rw [← et] at e;exact told_val e
 have sB:Same B (upd B dt (.dK told)):=zo (Same.refl _) (m.h.free ndt);have m1:=m.grow (o:=.dK told) ndt;have ed:upd B dt (.dK told) dt=some (.dK told):=zh;generalize upd B dt (.dK told)=B1 at sB m1 ed;generalize upd H dt (.dK told)=H1 at m1;refine ⟨_,rfl,A.b,_,_,_,.int M.group,rfl,m1.b,CN.c,CN.group,rfl,_,rfl,A.b,_,_,_,.int M.lanes,rfl,m1.b,CN.c,CN.lanes,rfl,_,_,rfl,rfl,.inl ⟨by omega,by omega⟩,_,rfl,(by show -(2 ^ 62)<=M.group*M.lanes;omega),(by show M.group*M.lanes<2 ^ 62;omega),?_⟩;show ∃ W:Nat->Nat->St->Hp->Prop,_;refine ZP (n:=M.room) (fun i σ J=>∃ u5 u6,σ=[some (.ref A.b),some (.int (p:Int)),some (.ref aa),some (.ref an),some (.ref dt),u5,u6]/\MAt c B1 A (M.layTo told p i) R J) ⟨none,none,rfl,m1⟩ ?_ ?_
 ·rintro i σ J hi ⟨u5,u6,rfl,m2⟩
  have ss:=M.layTo_same told p i;have edJ:=m2.h.sm _ _ ed;have hi':(i:Int)<M.group*M.lanes:=by unfold Mc.room at hi;omega
  obtain ⟨s0,s1⟩:=zco hg (show (1:Int)<=M.lanes by omega) (show (0:Int)<=p by omega) h8 (show (0:Int)<=i by omega) hi';refine ⟨_,rfl,dt,rfl,.inl ⟨told,.inl edJ⟩,_,rfl,_,DGet.k (k:=.inl (0+(i:Int))) edJ,?_⟩;rw [Int.zero_add];rw [M.layTo_succ];generalize hM:M.layTo told p i=N at m2 ss ⊢;refine ⟨fun σ' H'=>∃ (n:Int) (N':Mc),σ'=[some (.ref A.b),some (.int (p:Int)),some (.ref aa),some (.ref an),some (.ref dt),some (.int (i:Int)),some (.int n)]/\MAt c B1 A N' R H'/\SeatSame M N'/\N.layOne told p i={ N' with nums:=N'.nums.set ((p:Int)*M.group*M.lanes+i).toNat n },?_,?_⟩
  ·cases ev:y8 told (.inl (i:Int)) with
   | none =>
    refine ⟨_,rfl,rfl,_,rfl,y6 (fun z=>?_) (fun z=>absurd (show decide (V.non=V.non)=true by decide) z)⟩;refine ⟨_,rfl,A.b,_,_,_,.ref A.fd,rfl,m2.b,CN.c,CN.dust,rfl,A.fd,_,_,rfl,m2.h.get 4 rfl,rfl,A.fd,A.dfd,A.aD,N.dust,N.dq,rfl,m2.h.get 4 rfl,m2.h.sm _ _ m2.bb.dl,fun J3 k3 e3=>?_⟩;refine ⟨_,_,rfl,m2.took k3 e3,⟨ss.g,ss.l,ss.n,ss.d⟩,?_⟩;unfold Mc.layOne;rw [ev,ss.g,ss.l]
   | some v =>
    rcases tv _ _ ev with rfl | ⟨n,rfl⟩
    ·refine ⟨_,rfl,rfl,_,rfl,y6 (fun z=>?_) (fun z=>absurd (show decide (V.non=V.non)=true by decide) z)⟩
     refine ⟨_,rfl,A.b,_,_,_,.ref A.fd,rfl,m2.b,CN.c,CN.dust,rfl,A.fd,_,_,rfl,m2.h.get 4 rfl,rfl,A.fd,A.dfd,A.aD,N.dust,N.dq,rfl,m2.h.get 4 rfl,m2.h.sm _ _ m2.bb.dl,fun J3 k3 e3=>?_⟩;refine ⟨_,_,rfl,m2.took k3 e3,⟨ss.g,ss.l,ss.n,ss.d⟩,?_⟩;unfold Mc.layOne;rw [ev,ss.g,ss.l]
    ·refine ⟨_,rfl,rfl,_,rfl,y6 (fun z=>absurd z (fun y=>by cases of_decide_eq_true y)) (fun z=>?_)⟩
     refine ⟨n,N,rfl,m2,ss,?_⟩;unfold Mc.layOne;rw [ev,ss.g,ss.l]
  rintro σ' H' ⟨n,N',rfl,m3,ss',e⟩;rw [e];have eg:=ss'.g;have el:=ss'.l;refine ⟨_,rfl,A.b,_,_,_,.ref A.bx,rfl,m3.b,CN.c,CN.boxes,rfl,A.bx,_,_,rfl,m3.h.sm _ _ m3.bb.bx,rfl,_,rfl,A.b,_,_,_,.int N'.group,rfl,m3.b,CN.c,CN.group,rfl,_,rfl,_,rfl,_,rfl,A.bx,A.dbx,A.aN,N'.lanes,N'.group,p,(i:Int),n,N'.nums,rfl,m3.h.sm _ _ m3.bb.bx,m3.h.get 2 rfl,by rw [el];omega,by rw [el];omega,by rw [eg];omega,by rw [eg];omega,?_,?_,?_⟩
  ·rw [eg,el];exact s0
  ·rw [eg,el,ss'.n,ok.nl];omega
  ·refine ⟨_,_,rfl,?_⟩
   have:=m3.putNums (N'.nums.set ((p:Int)*N'.group*N'.lanes+i).toNat n);rw [← eg,← el];exact this
 ·rintro σ J ⟨u5,u6,rfl,m2⟩
  exact q B1 J sB m2
end
section
variable {c:MCs} {B:Hp} {A:Ma} {M:Mc} {R:List (Addr×HO)} {H H':Hp}
theorem MAt.s_pc (m:MAt c B A M R H) (v:Int):MAt c B A { M with pc:=v } R (upd H A.b (.ins c.bn A.db (zN "at" (.int v) (Za A M)))) :=
 ⟨⟨m.bb.lens,m.bb.starts,m.bb.bx,m.bb.msk,m.bb.ml,m.bb.dl,m.bb.pl,m.bb.tl,m.bb.tt,m.bb.ul,m.bb.uu,m.bb.rf⟩,m.h.put (o':=.ins c.bn A.db (zN "at" (.int v) (Za A M))) 0 rfl⟩
theorem MAt.s_opened (m:MAt c B A M R H) (v:Int):MAt c B A { M with opened:=v } R (upd H A.b (.ins c.bn A.db (zN "opened" (.int v) (Za A M)))) :=
 ⟨⟨m.bb.lens,m.bb.starts,m.bb.bx,m.bb.msk,m.bb.ml,m.bb.dl,m.bb.pl,m.bb.tl,m.bb.tt,m.bb.ul,m.bb.uu,m.bb.rf⟩,m.h.put (o':=.ins c.bn A.db (zN "opened" (.int v) (Za A M))) 0 rfl⟩
theorem MAt.s_many (m:MAt c B A M R H) (v:Int):MAt c B A { M with many:=v } R (upd H A.b (.ins c.bn A.db (zN "many" (.int v) (Za A M)))) :=
 ⟨⟨m.bb.lens,m.bb.starts,m.bb.bx,m.bb.msk,m.bb.ml,m.bb.dl,m.bb.pl,m.bb.tl,m.bb.tt,m.bb.ul,m.bb.uu,m.bb.rf⟩,m.h.put (o':=.ins c.bn A.db (zN "many" (.int v) (Za A M))) 0 rfl⟩
theorem MAt.s_group (m:MAt c B A M R H) (v:Int):MAt c B A { M with group:=v } R (upd H A.b (.ins c.bn A.db (zN "group" (.int v) (Za A M)))) :=
 ⟨⟨m.bb.lens,m.bb.starts,m.bb.bx,m.bb.msk,m.bb.ml,m.bb.dl,m.bb.pl,m.bb.tl,m.bb.tt,m.bb.ul,m.bb.uu,m.bb.rf⟩,m.h.put (o':=.ins c.bn A.db (zN "group" (.int v) (Za A M))) 0 rfl⟩
theorem MAt.s_base (m:MAt c B A M R H) (v:Int):MAt c B A { M with base:=v } R (upd H A.b (.ins c.bn A.db (zN "base" (.int v) (Za A M)))) :=
 ⟨⟨m.bb.lens,m.bb.starts,m.bb.bx,m.bb.msk,m.bb.ml,m.bb.dl,m.bb.pl,m.bb.tl,m.bb.tt,m.bb.ul,m.bb.uu,m.bb.rf⟩,m.h.put (o':=.ins c.bn A.db (zN "base" (.int v) (Za A M))) 0 rfl⟩
theorem MAt.s_begun (m:MAt c B A M R H) (v:Int):MAt c B A { M with begun:=v } R (upd H A.b (.ins c.bn A.db (zN "begun" (.int v) (Za A M)))) :=
 ⟨⟨m.bb.lens,m.bb.starts,m.bb.bx,m.bb.msk,m.bb.ml,m.bb.dl,m.bb.pl,m.bb.tl,m.bb.tt,m.bb.ul,m.bb.uu,m.bb.rf⟩,m.h.put (o':=.ins c.bn A.db (zN "begun" (.int v) (Za A M))) 0 rfl⟩
theorem MAt.s_width (m:MAt c B A M R H) (v:Int):MAt c B A { M with width:=v } R (upd H A.b (.ins c.bn A.db (zN "width" (.int v) (Za A M)))) :=
 ⟨⟨m.bb.lens,m.bb.starts,m.bb.bx,m.bb.msk,m.bb.ml,m.bb.dl,m.bb.pl,m.bb.tl,m.bb.tt,m.bb.ul,m.bb.uu,m.bb.rf⟩,m.h.put (o':=.ins c.bn A.db (zN "width" (.int v) (Za A M))) 0 rfl⟩
theorem MAt.s_cut (m:MAt c B A M R H) (v:Option Int):MAt c B A { M with cut:=v } R (upd H A.b (.ins c.bn A.db (zN "cut" (oV v) (Za A M)))) :=
 ⟨⟨m.bb.lens,m.bb.starts,m.bb.bx,m.bb.msk,m.bb.ml,m.bb.dl,m.bb.pl,m.bb.tl,m.bb.tt,m.bb.ul,m.bb.uu,m.bb.rf⟩,m.h.put (o':=.ins c.bn A.db (zN "cut" (oV v) (Za A M))) 0 rfl⟩
theorem MAt.s_carried (m:MAt c B A M R H) (v:Option Int):MAt c B A { M with carried:=v } R (upd H A.b (.ins c.bn A.db (zN "carried" (oV v) (Za A M)))) :=
 ⟨⟨m.bb.lens,m.bb.starts,m.bb.bx,m.bb.msk,m.bb.ml,m.bb.dl,m.bb.pl,m.bb.tl,m.bb.tt,m.bb.ul,m.bb.uu,m.bb.rf⟩,m.h.put (o':=.ins c.bn A.db (zN "carried" (oV v) (Za A M))) 0 rfl⟩
theorem MAt.s_faults (m:MAt c B A M R H) {n:Addr} (nn:H n=none):MAt c B { A with aF:=n } { M with faults:=[] } R (upd (upd H n (.dK [])) A.b (.ins c.bn A.db (zN "faults" (.ref n) (Za A M)))):=by
 have h:=(m.h.new (o:=.dK []) nn).put (o':=.ins c.bn A.db (zN "faults" (.ref n) (Za A M))) 1 rfl;refine ⟨⟨m.bb.lens,m.bb.starts,m.bb.bx,m.bb.msk,m.bb.ml,m.bb.dl,m.bb.pl,m.bb.tl,m.bb.tt,m.bb.ul,m.bb.uu,m.bb.rf⟩,?_⟩;have h2:=h.sub (L':=(n,.dK [])::(A.b,.ins c.bn A.db (zN "faults" (.ref n) (Za A M)))::(A.aC,.lst (M.cells.map V.int))::(A.aN,.lst (M.nums.map V.int))::(A.aSl,.dK M.slots)::(A.fd,zO c.fe A.dfd A.aD (fAt M.dust M.dq))::(A.fp,zO c.fe A.dfp A.aP (fAt M.picks M.pq))::(A.aT,.lst (A.ts.map V.ref))::(A.aU,.lst (A.us.map V.ref))::(Zm A M++R)) (.cons₂ _ (.cons₂ _ (.cons₂ _ (.cons₂ _ (.cons₂ _ (.cons₂ _ (.cons₂ _ (.cons₂ _ (.cons _ (List.Sublist.refl _))))))))));refine h2.perm ?_;exact (List.perm_middle (a:=(n,HO.dK [])) (l₁:=[_,_,_,_,_,_,_]) (l₂:=_::_)).symm
end
structure MOk0 (M:Mc):Prop where
 l1:1<=M.lanes
 l64:M.lanes<=64
 nl:M.nums.length=8*M.lanes
 ml:M.masks.length=16
 mm:∀ m∈M.masks,m.length=4*M.lanes
theorem MOk.zero {M:Mc} (ok:MOk M):MOk0 M:=⟨ok.l1,ok.l64,ok.nl,ok.ml,ok.mm⟩
theorem MOk0.strip {M:Mc} (ok:MOk0 M) (hg:M.group=1∨M.group=2∨M.group=4) {w b:Int} (h0:0<=w) (h1:w<=M.group*M.lanes):MOk { M with base:=b,width:=w,begun:=w,faults:=[],cut:=none }:=⟨ok.l1,ok.l64,hg,ok.nl,ok.ml,ok.mm,h0,h1⟩
def Mc.wide (M:Mc) (b:Int):Int:=if M.group*M.lanes<M.many-b then M.group*M.lanes else M.many-b
def Mc.strip (M:Mc) (b:Int):Mc:=({ M with base:=b,width:=M.wide b,begun:=M.wide b,faults:=[],cut:=none }:Mc).laidMask 0 (xZ (M.wide b).toNat)
section
variable {P:Program} {w:World} {K:PySem.W.Frag} {mg:Str->Option Value} {base:Heap}
def zcj (c:MCs):Sp:=fun vs H Q _=>∃ (B:Hp) (A:Ma) (M:Mc) (R:List (Addr×HO)) (b:Int),vs=[.ref A.b,.int b]/\MAt c B A M R H/\MOk0 M/\(M.group=1∨M.group=2∨M.group=4)/\b<=M.many /\
 ∀ B' A' H',Same B B'->A'.b=A.b->MAt c B' A' (M.strip b) R H'->Q .non H'
theorem ok_strip {c:MCs} (d:z8 K c.bn "begin_strip" "Bench.begin_strip" z6 ["self","base"]) (hrg:mg "range"=none) (hlist:mg "list"=none) (hmin:mg "min"=none) (CC:MCls K c) (LM:OkM P w K mg base CX0 2 c.bn "lay_mask" ["self","mask","chosen"] (spMask c K)):OkM P w K mg base CX0 3 c.bn "begin_strip" ["self","base"] (zcj c):=by
 obtain ⟨f,fd,m,F,bd⟩:=d;refine ⟨f,fd,m,bd,F.ok sc_Bench_begin_strip (by rintro vs H Q E ⟨_,_,_,_,_,rfl,_⟩;rfl) fun cdv A outer s H vs Q E hr h=>?_⟩;obtain ⟨B,A,M,R,b,rfl,m,ok,hg,hb,q⟩:=h;have nd:=sc_Bench_begin_strip.nd;have hr2:=hr;have CN:=CC.n;have l1:=ok.l1;have l64:=ok.l64;have rb:M.group*M.lanes<=4*M.lanes/\1<=M.group*M.lanes:=by rcases hg with e | e | e <;> rw [e] <;> omega
 have w01:0<=M.wide b/\M.wide b<=M.group*M.lanes:=by unfold Mc.wide;split <;> omega
 refine ⟨_,(zd (zC (pv 0) (pv 1) rfl)
   (zd (zC (pv 0) (zt (call_min2 rfl) (by rfl) hmin PyProof.Rows.boot_min (zb (zp Yi (zi (pv 0) rfl) (pv 1)) (zb (zp xL (zi (pv 0) rfl) (zi (pv 0) rfl)) ze))) rfl)
   (zd (zC (pv 0) (zi (pv 0) rfl) rfl)
   (zd (zC (pv 0) Y2 rfl)
   (zd (zC (pv 0) xR rfl)
   (zg (zS (yt LM CC.n.c hr2 zy (pv 0) (zb zf (zb (yv (Xt rfl) (by rfl) hlist PyProof.Rows.boot_list (zb (yv zgx (by rfl) hrg PyProof.Rows.boot_range (zb (zi (pv 0) rfl) ze)) ze)) ze)))))))))),?_⟩
 refine ⟨_,rfl,_,rfl,A.b,_,_,_,rfl,m.b,CN.c,CN.base,(by show 23<1000;decide),?_⟩;have m:=m.s_base b;refine ⟨_,rfl,A.b,_,_,_,.int M.many,rfl,m.b,CN.c,CN.many,rfl,_,rfl,_,_,rfl,rfl,_,rfl,A.b,_,_,_,.int M.group,rfl,m.b,CN.c,CN.group,rfl,_,rfl,A.b,_,_,_,.int M.lanes,rfl,m.b,CN.c,CN.lanes,rfl,_,_,rfl,rfl,.inl ⟨by omega,by omega⟩,_,_,rfl,_,rfl,A.b,_,_,_,rfl,m.b,CN.c,CN.width,(by show 23<1000;decide),?_⟩;have m:=m.s_width (M.wide b);refine ⟨_,rfl,A.b,_,_,_,.int (M.wide b),rfl,m.b,CN.c,CN.width,rfl,_,rfl,A.b,_,_,_,rfl,m.b,CN.c,CN.begun,(by show 23<1000;decide),?_⟩;have m:=m.s_begun (M.wide b);refine fun n nn=>?_;have mf:=m.s_faults nn;refine ⟨_,rfl,A.b,_,_,_,rfl,(by rw [zm (zv m.b nn)];exact m.b),CN.c,CN.faults,(by show 23<1000;decide),?_⟩;have m:=mf;refine ⟨_,rfl,A.b,_,_,_,rfl,m.b,CN.c,CN.cut,(by show 23<1000;decide),?_⟩;have m:=m.s_cut none;obtain ⟨wn,ew⟩:∃ wn:Nat,M.wide b=wn:=⟨(M.wide b).toNat,by omega⟩;have ok2:MOk { M with base:=b,width:=M.wide b,begun:=M.wide b,faults:=[],cut:=none }:=ok.strip hg w01.1 w01.2;refine ⟨_,rfl,A.b,_,_,rfl,m.b,rfl,_,rfl,A.b,_,_,_,.int (M.wide b),rfl,m.b,CN.c,CN.width,rfl,_,rfl,fun rg nrg=>?_⟩;have m1:=m.grow (o:=.rng 0 (M.wide b)) nrg;have s1:Same B (upd B rg (.rng 0 (M.wide b))):=zo (Same.refl _) (m.h.free nrg);have e1:upd B rg (.rng 0 (M.wide b)) rg=some (.rng 0 (M.wide b)):=zh;generalize upd B rg (.rng 0 (M.wide b))=B1 at m1 s1 e1;refine ⟨rg,wn,rfl,(by rw [← ew];exact m1.h.sm _ _ e1),by omega,fun l nl=>?_⟩;have m2:=m1.grow (o:=.lst ((xZ wn).map V.int)) nl;have s2:Same B1 (upd B1 l (.lst ((xZ wn).map V.int))):=zo (Same.refl _) (m1.h.free nl);have e2:upd B1 l (.lst ((xZ wn).map V.int)) l=some (.lst ((xZ wn).map V.int)):=zh;generalize upd B1 l (.lst ((xZ wn).map V.int))=B2 at m2 s2 e2;refine ⟨B2,{ A with aF:=n },{ M with base:=b,width:=M.wide b,begun:=M.wide b,faults:=[],cut:=none },R,0,l,xZ wn,rfl,m2,ok2,by decide,e2,(fun j hj=>?_),fun H9 m9=>?_⟩
 ·obtain ⟨i,hi,rfl⟩:=List.mem_map.mp hj
  have:=List.mem_range.mp hi;show 0<=(i:Int)/\(i:Int)<M.group*M.lanes;omega
 ·refine q B2 { A with aF:=n } H9 (s1.trans s2) rfl ?_
  unfold Mc.strip;rw [ew,Int.toNat_natCast];rw [ew] at m9;exact m9
def Mc.round (M:Mc) (many group:Int):Mc:=({ M with opened:=M.pc,many:=many,group:=group,carried:=none }:Mc).strip 0
def spRound (c:MCs):Sp:=fun vs H Q _=>∃ (B:Hp) (A:Ma) (M:Mc) (R:List (Addr×HO)) (many group:Int),vs=[.ref A.b,.int many,.int group]/\MAt c B A M R H/\MOk0 M/\(group=1∨group=2∨group=4)/\0<=many /\
 ∀ B' A' H',Same B B'->A'.b=A.b->MAt c B' A' (M.round many group) R H'->Q .non H'
theorem ok_round {c:MCs} (d:z8 K c.bn "open_round" "Bench.open_round" ya ["self","many","group"]) (CC:MCls K c) (BS:OkM P w K mg base CX0 3 c.bn "begin_strip" ["self","base"] (zcj c)):OkM P w K mg base CX0 4 c.bn "open_round" ["self","many","group"] (spRound c):=by
 obtain ⟨f,fd,m,F,bd⟩:=d;refine ⟨f,fd,m,bd,F.ok sc_Bench_open_round (by rintro vs H Q E ⟨_,_,_,_,_,_,rfl,_⟩;rfl) fun cdv A outer s H vs Q E hr h=>?_⟩;obtain ⟨B,A,M,R,many,group,rfl,m,ok,hg,hm,q⟩:=h;have nd:=sc_Bench_open_round.nd;have hr3:=hr;have CN:=CC.n;refine ⟨_,(zd (zC (pv 0) (zi (pv 0) rfl) rfl)
   (zd (zC (pv 0) (pv 1) rfl)
   (zd (zC (pv 0) (pv 2) rfl)
   (zd (zC (pv 0) xR rfl)
   (zg (zS (yt BS CC.n.c hr3 zy (pv 0) (zb zf ze)))))))),?_⟩
 refine ⟨_,rfl,A.b,_,_,_,.int M.pc,rfl,m.b,CN.c,CN.pc,rfl,_,rfl,A.b,_,_,_,rfl,m.b,CN.c,CN.opened,(by show 23<1000;decide),?_⟩;have m:=m.s_opened M.pc;refine ⟨_,rfl,_,rfl,A.b,_,_,_,rfl,m.b,CN.c,CN.many,(by show 23<1000;decide),?_⟩;have m:=m.s_many many;refine ⟨_,rfl,_,rfl,A.b,_,_,_,rfl,m.b,CN.c,CN.group,(by show 23<1000;decide),?_⟩;have m:=m.s_group group;refine ⟨_,rfl,A.b,_,_,_,rfl,m.b,CN.c,CN.carried,(by show 23<1000;decide),?_⟩;have m:=m.s_carried none;exact ⟨_,rfl,A.b,_,_,rfl,m.b,rfl,B,A,{ M with opened:=M.pc,many:=many,group:=group,carried:=none },R,0,rfl,m,⟨ok.l1,ok.l64,ok.nl,ok.ml,ok.mm⟩,hg,hm,fun B' A' H' s eb m'=>q B' A' H' s eb m'⟩
end
end K43
namespace L2
open PySem
theorem YC {X:Cx} {K:PySem.W.Frag} (e:X.K=K):IxR X (rIxT K):=by subst e;exact zR
end L2
namespace K43
open PySem L2
def z5 (K:PySem.W.Frag) (mg:Str->Option Value) (aS:Addr) (sg nm:Str):Prop:=∃ f,PySem.W.nsIn K aS sg=some (some (.ref f))/\mg nm=some (.ref f)
structure TabA where
 s:Addr
 e:Addr
 w:Addr
structure Tabs (w:World) (K:PySem.W.Frag) (mg:Str->Option Value) (t:TabA):Prop where
 Ts:Zt w K t.s
 Te:Zt w K t.e
 Tw:Zt w K t.w
 ls:(t.s == sysModules)=false
 le:(t.e == sysModules)=false
 hs:mg "SEAT_STEPS"=some (.ref t.s)
 he:mg "EFFECTS"=some (.ref t.e)
 hw:mg "WAYS"=some (.ref t.w)
 s_number:z5 K mg t.s "number" "numbers_written"
 s_here:z5 K mg t.s "here" "numbers_of_here"
 s_load:z5 K mg t.s "load" "numbers_loaded"
 s_spread:z5 K mg t.s "spread" "numbers_spread"
 s_shift:z5 K mg t.s "shift" "numbers_shifted"
 s_gather:z5 K mg t.s "gather" "numbers_gathered"
 s_op:z5 K mg t.s "op" "numbers_joined"
 s_pick:z5 K mg t.s "pick" "numbers_picked"
 s_copy:z5 K mg t.s "copy" "numbers_copied"
 s_bring:z5 K mg t.s "bring" "numbers_brought"
 e_reach:z5 K mg t.e "reach" "play_reach"
 es_reach:PySem.W.nsIn K t.s "reach"=some none
 e_trim:z5 K mg t.e "trim" "play_trim"
 es_trim:PySem.W.nsIn K t.s "trim"=some none
 e_stop:z5 K mg t.e "stop" "play_stop"
 es_stop:PySem.W.nsIn K t.s "stop"=some none
 e_choose:z5 K mg t.e "choose" "play_choose"
 es_choose:PySem.W.nsIn K t.s "choose"=some none
 e_other:z5 K mg t.e "other" "play_other"
 es_other:PySem.W.nsIn K t.s "other"=some none
 e_save:z5 K mg t.e "save" "play_save"
 es_save:PySem.W.nsIn K t.s "save"=some none
 e_store:z5 K mg t.e "store" "play_store"
 es_store:PySem.W.nsIn K t.s "store"=some none
 e_put:z5 K mg t.e "put" "play_put"
 es_put:PySem.W.nsIn K t.s "put"=some none
 e_fold:z5 K mg t.e "fold" "play_fold"
 es_fold:PySem.W.nsIn K t.s "fold"=some none
 e_running:z5 K mg t.e "running" "play_running"
 es_running:PySem.W.nsIn K t.s "running"=some none
 e_any:z5 K mg t.e "any" "play_any"
 es_any:PySem.W.nsIn K t.s "any"=some none
 w_begin:z5 K mg t.w "begin" "play_begin"
 ws_begin:PySem.W.nsIn K t.s "begin"=some none
 we_begin:PySem.W.nsIn K t.e "begin"=some none
 w_next:z5 K mg t.w "next" "play_next"
 ws_next:PySem.W.nsIn K t.s "next"=some none
 we_next:PySem.W.nsIn K t.e "next"=some none
 w_turns:z5 K mg t.w "turns" "play_turns"
 ws_turns:PySem.W.nsIn K t.s "turns"=some none
 we_turns:PySem.W.nsIn K t.e "turns"=some none
 w_quiet:z5 K mg t.w "quiet" "play_quiet"
 ws_quiet:PySem.W.nsIn K t.s "quiet"=some none
 we_quiet:PySem.W.nsIn K t.e "quiet"=some none
 w_till:z5 K mg t.w "till" "play_till"
 ws_till:PySem.W.nsIn K t.s "till"=some none
 we_till:PySem.W.nsIn K t.e "till"=some none
abbrev FnM:=List V->Mc->List Int->Option (Mc×List (Option Int))
structure FnMOk (f:FnM):Prop where
 ok:∀ {tv M js M' ns},f tv M js=some (M',ns)->MOk M->MOk M'
 g:∀ {tv M js M' ns},f tv M js=some (M',ns)->M'.group=M.group
 n:∀ {tv M js M' ns},f tv M js=some (M',ns)->ns.length=js.length
section
variable {P:Program} {w:World} {K:PySem.W.Frag} {mg:Str->Option Value} {base:Heap}
def spFn (c:MCs) (f:FnM):Sp:=fun vs H Q _=>∃ (B:Hp) (A:Ma) (M:Mc) (R:List (Addr×HO)) (st aa:Addr) (tv:List V) (js:List Int) (M':Mc) (ns:List (Option Int)),vs=[.ref A.b,.ref st,.ref aa]/\MAt c B A M R H/\B st=some (.tup tv)/\B aa=some (.lst (js.map V.int))/\f tv M js=some (M',ns)/\MOk M/\(∀ j∈js,0<=j/\j<M.group*M.lanes)/\js.length<=1000 /\
 ∀ B' A' H' l,Same B B'->A'.b=A.b->MAt c B' A' M' R H'->B' l=some (.lst (ns.map oV))->Q (.ref l) H'
def seatM (f:FnM) (tv:List V) (M:Mc):Option Mc:=match (tv[1]?:Option V),tv.getLast? with
 | some (V.int p),some (V.int k)=>if 0<=p/\(p+1)*M.group<=8/\0<=k/\k<16 then (f tv M (M.act k.toNat)).map fun r=>r.1.laidSeat (xy (M.act k.toNat) r.2) p.toNat else none
 | _,_=>none
def spPSS (c:MCs) (S:Str->FnM->Prop):Sp:=fun vs H Q _=>∃ (word:Str) (f:FnM) (B:Hp) (A:Ma) (M:Mc) (R:List (Addr×HO)) (st:Addr) (tv:List V) (M':Mc),S word f/\vs=[.ref A.b,.ref st]/\MAt c B A M R H/\B st=some (.tup tv)/\tv[0]?=some (.str word)/\seatM f tv M=some M'/\MOk M /\
 ∀ B' A' H',Same B B'->A'.b=A.b->MAt c B' A' M' R H'->Q .non H'
theorem Yk {M:Mc} (ok:MOk M) {k:Nat} (hk:k<16):M.width.toNat<=(M.masks.getD k []).length/\M.width.toNat<=1000:=by
 have ml:=ok.ml;have hk':k<M.masks.length:=by omega
 have l1:=ok.l1;have l64:=ok.l64;have w0:=ok.w0;have w1:=ok.w1
 have lm:(M.masks.getD k []).length=4*M.lanes:=by
  rw [List.getD_eq_getElem?_getD,List.getElem?_eq_getElem hk'];exact ok.mm _ (List.getElem_mem hk')
 have rb:M.group*M.lanes<=4*M.lanes:=by rcases ok.g with e | e | e <;> rw [e] <;> omega
 rw [lm];omega
theorem act_in {M:Mc} (ok:MOk M) (k:Nat):(∀ j∈M.act k,0<=j/\j<M.group*M.lanes)/\(M.act k).length<=1000:=by
 have w0:=ok.w0;have w1:=ok.w1;refine ⟨fun j hj=>?_,?_⟩
 ·obtain ⟨a,b,_⟩:=Mc.act_mem hj
  omega
 ·have:=M.actTo_len k M.width.toNat
  have rb:M.group*M.lanes<=4*M.lanes:=by rcases ok.g with e | e | e <;> rw [e] <;> omega
  have:=ok.l64;unfold Mc.act;omega
theorem atI_lst {tv:List V} {v:V} (h:tv.getLast?=some v):atI tv (-1)=some v:=by
 obtain ⟨l,rfl⟩:∃ l,tv=l++[v]:=by
  rw [List.getLast?_eq_some_iff] at h;exact h
 exact atI_last _ _
def Yn (P:Program) (w:World) (K:PySem.W.Frag) (mg:Str->Option Value) (base:Heap) (c:MCs) (t:TabA) (S:Str->FnM->Prop) (rm:Nat):Prop:=∀ word f,S word f->∃ (nm:Str) (ps:List Str),z5 K mg t.s word nm/\Ok P w K mg base CX0 rm nm ps (spFn c f)/\FnMOk f
theorem ok_pss {c:MCs} {t:TabA} {S:Str->FnM->Prop} {rm:Nat} (d:zw K mg "play_seat_step" ym ["bench","step"]) (CC:MCls K c) (TT:Tabs w K mg t) (hrm:rm<=6) (AU:OkM P w K mg base CX0 1 c.bn "active_under" ["self","mask"] (spAct c)) (LS:OkM P w K mg base CX0 3 c.bn "lay_seat" ["self","seat","active","numbers"] (spSeat c K))
  (SW:Yn P w K mg base c t S rm):Ok P w K mg base CX0 7 "play_seat_step" ["bench","step"] (spPSS c S):=by
 obtain ⟨g,fd,m,F,b⟩:=d;refine ⟨g,fd,m,F.kp,b,F.ok sc_play_seat_step (by rintro vs H Q E ⟨_,_,_,_,_,_,_,_,_,_,rfl,_⟩;rfl) fun cdv A outer s H vs Q E hr h=>?_⟩;obtain ⟨word,f,B,A,M,R,st,tv,M',hS,rfl,m,es,e0,eM,ok,q⟩:=h;obtain ⟨nm,ps,sg,FN,fo⟩:=SW word f hS;have nd:=sc_play_seat_step.nd;have hr3:=hr.mono (show 3<=6 by decide);have hr1:=hr.mono (show 1<=6 by decide);have hrF:Room rm _:=hr.mono hrm;have CN:=CC.n;unfold seatM at eM
 split at eM
 case h_2=>cases eM
 rename_i p k e1 el
 split at eM
 case isFalse=>cases eM
 rename_i hc;obtain ⟨p0,p8,k0,k16⟩:=hc;obtain ⟨⟨M1,ns⟩,ef,rfl⟩:=Option.map_eq_some_iff.mp eM;obtain ⟨pn,rfl⟩:∃ n:Nat,p=n:=⟨p.toNat,by omega⟩;obtain ⟨kn,rfl⟩:∃ n:Nat,k=n:=⟨k.toNat,by omega⟩;rw [Int.toNat_natCast] at ef;have kn16:kn<16:=by omega
 obtain ⟨mr1,mr2⟩:=Yk ok kn16;obtain ⟨ai,al⟩:=act_in ok kn;have ml:=ok.ml;refine ⟨_,(zd (zF (i:=2) nd rfl (Or.inl rfl) (yt AU CC.n.c hr1 zy (pv 0) (zb (zB zR (pv 1) (pe_un XV zf) (fun _ _=>rfl)) ze)))
   (zg (zS (yt LS CC.n.c hr3 zy (pv 0) (zb (zB zR (pv 1) zf (fun _ _=>rfl)) (zb (pv 2) (zb (Y3 (CX:=CX0) (k:=rm) (zB ix_top (zZ TT.hs) (zB zR (pv 1) zf (fun _ _=>rfl)) (fun _ _=>rfl)) hrF zy (zb (pv 0) (zb (pv 1) (zb (pv 2) ze)))) ze))))))),?_⟩
 refine ⟨_,rfl,A.b,_,_,rfl,m.b,rfl,_,rfl,_,rfl,st,_,_,_,rfl,rfl,SqT.of (m.h.sm _ _ es),atI_lst el,B,A,M,R,kn,rfl,m,by omega,ok.w0,mr1,mr2,fun B1 H1 l s1 m1 ea=>?_⟩;obtain ⟨fn,efn,mfn⟩:=sg;obtain ⟨f2,fd2,mf2,kp,bb,FO⟩:=FN;cases mfn.symm.trans mf2;refine ⟨_,rfl,A.b,_,_,rfl,m1.b,rfl,_,rfl,st,_,_,_,rfl,rfl,SqT.of (m1.h.sm _ _ (s1 _ _ es)),zQ e1,_,rfl,_,rfl,st,_,_,_,rfl,rfl,SqT.of (m1.h.sm _ _ (s1 _ _ es)),zQ (j:=0) e0,t.s,word,.ref fn,.ref fn,rfl,rfl,TT.Ts,efn,rfl,?_⟩;refine ⟨fn,fd2,ps,spFn c f,rfl,FO,kp,bb,_,rfl,_,rfl,_,rfl,B1,A,M,R,st,l,tv,M.act kn,M1,ns,rfl,m1,s1 _ _ es,ea,ef,ok,ai,al,fun B2 A2 H2 l2 s2 eb m2 en=>?_⟩;refine ⟨B2,A2,M1,R,pn,l,l2,M.act kn,ns,by rw [eb];rfl,m2,fo.ok ef ok,by rw [fo.g ef];exact p8,s2 _ _ ea,en,(fo.n ef).symm,fun B3 H3 s3 m3=>?_⟩;rw [Int.toNat_natCast,Int.toNat_natCast] at q;exact q B3 A2 H3 ((s1.trans s2).trans s3) eb m3
end
def Mc.reads (M:Mc) (row:Nat) (js:List Int):Mc:={ M with touches:=M.touches++js.map fun j=>(M.pc,("read":Str),M.adr row (M.base+j)) }
def Mc.valAt (M:Mc) (row:Nat) (j:Int):Int:=M.cells.getD (M.adr row (M.base+j)).toNat 0
theorem Mc.reads_snoc (M:Mc) (row:Nat) (js:List Int) (j:Int):M.reads row (js++[j])=(M.reads row js).touched "read" (M.adr row (M.base+j)):=by
 unfold Mc.reads Mc.touched;rw [List.map_append,← List.append_assoc];rfl
def rowIn (M:Mc) (row:Nat) (js:List Int):Prop:=row<M.starts.length/\∀ j∈js,0<=M.adr row (M.base+j)/\(M.adr row (M.base+j)).toNat<M.cells.length
open Classical in
noncomputable def Ys:FnM:=fun tv M js=>match (tv[2]?:Option V) with
 | some (V.int r)=>if 0<=r/\rowIn M r.toNat js/\M.touches.length+js.length<100000 then some (M.reads r.toNat js,js.map fun j=>some (M.valAt r.toNat j)) else none
 | _=>none
theorem Z9 {tv:List V} {M M':Mc} {js:List Int} {ns:List (Option Int)} (h:Ys tv M js=some (M',ns)):∃ r:Nat,tv[2]?=some (.int r)/\rowIn M r js/\M.touches.length+js.length<100000/\M'=M.reads r js/\ns=js.map fun j=>some (M.valAt r j):=by
 unfold Ys at h
 split at h
 ·rename_i r e
  split at h
  ·rename_i hc
   obtain ⟨r0,h1,h2⟩:=hc;cases h;exact ⟨r.toNat,by rw [e];congr 2;omega,h1,h2,rfl,rfl⟩
  ·cases h
 ·cases h
theorem loadM_ok:FnMOk Ys where
 ok:=fun h ok=>by
  obtain ⟨r,_,_,_,rfl,_⟩:=Z9 h;exact ⟨ok.l1,ok.l64,ok.g,ok.nl,ok.ml,ok.mm,ok.w0,ok.w1⟩
 g:=fun h=>by
  obtain ⟨r,_,_,_,rfl,_⟩:=Z9 h;rfl
 n:=fun h=>by
  obtain ⟨r,_,_,_,_,rfl⟩:=Z9 h;rw [List.length_map]
section
variable {P:Program} {w:World} {K:PySem.W.Frag} {mg:Str->Option Value} {base:Heap}
theorem ok_loaded {c:MCs} (d:zw K mg "numbers_loaded" yo ["bench","step","active"]) (CC:MCls K c) (RC:OkM P w K mg base CX0 2 c.bn "read_cell" ["self","row","place"] (zck c)):Ok P w K mg base CX0 3 "numbers_loaded" ["bench","step","active"] (spFn c Ys):=by
 obtain ⟨g,fd,m,F,b⟩:=d;refine ⟨g,fd,m,F.kp,b,F.ok sc_numbers_loaded (by rintro vs H Q E ⟨_,_,_,_,_,_,_,_,_,_,rfl,_⟩;rfl) fun cdv A outer s H vs Q E hr h=>?_⟩;obtain ⟨B,A,M,R,st,aa,tv,js,M',ns,rfl,m,es,ea,ef,ok,hj,hl,q⟩:=h;obtain ⟨r,e2,⟨hr0,hin⟩,ht,rfl,rfl⟩:=Z9 ef;have nd:=sc_numbers_loaded.nd;have hr2:=hr;have CN:=CC.n;have SL:(3000:Nat)<sizeLine:=by decide
 refine ⟨_,(zg (zn (xA ["lane","bench","step"] [none,some 0,some 1] rfl rfl rfl (xz (pv 2)) (fun s3 H3 fp=>⟨zW (i:=0) (show ((["lane","bench","step"]:List Str)).Nodup by decide +kernel) rfl (Or.inl rfl),(yt RC CC.n.c hr2 zy (pv 1) (zb (zB (YC (K:=K) rfl) (pv 2) zf (fun _ _=>rfl)) (zb (zp zY (ZL (K:=K) rfl (pv 1) rfl) (pv 0)) ze)))⟩)))),?_⟩;refine ⟨_,rfl,aa,rfl,⟨_,SqL.of (m.h.sm _ _ ea)⟩,_,rfl,fun D nD=>?_⟩
 have m0:MAt c B A (M.reads r (js.take 0)) ((D,.lst (((js.take 0).map fun j=>some (M.valAt r j)).map oV))::R) (upd H D (.lst [])):=by
  have e:M.reads r (js.take 0)=M:=by unfold Mc.reads;rw [List.take_zero];show { M with touches:=M.touches++[] }=M;rw [List.append_nil]
  rw [e];exact m.newR nD
 generalize upd H D (.lst [])=H1 at m0 ⊢;refine xY (K:=K) (a:=aa) (D:=D) (xs:=js.map V.int) (fun i σ J=>∃ (u:Option V) (B1:Hp) (A1:Ma),σ=[u,some (.ref A.b),some (.ref st)]/\Same B B1/\A1.b=A.b/\MAt c B1 A1 (M.reads r (js.take i)) ((D,.lst (((js.take i).map fun j=>some (M.valAt r j)).map oV))::R) J) ⟨none,B,A,rfl,Same.refl _,rfl,m0⟩ (fun i σ J _ ⟨_,B1,A1,_,s1,_,m1⟩=>SqL.of (m1.h.sm _ _ (s1 _ _ ea))) ?_ ?_
 ·clear m0
  rintro i y σ J hy ⟨u,B1,A1,rfl,s1,eb,m1⟩;obtain ⟨hlt,rfl⟩:=xN hy;have mj:=L2.getD_mem hlt;have e9:js[i]?=some (js.getD i 0):=by rw [List.getD_eq_getElem?_getD,List.getElem?_eq_getElem hlt];rfl
  generalize js.getD i 0=j at mj e9;obtain ⟨j0,j1⟩:=hin j mj;refine ⟨_,rfl,A1.b,_,_,by rw [eb],m1.b,rfl,_,rfl,st,_,_,_,rfl,rfl,SqT.of (m1.h.sm _ _ (s1 _ _ es)),zQ (j:=2) e2,_,rfl,A1.b,_,_,_,.int M.base,by rw [eb],m1.b,CN.c,CN.base,rfl,_,rfl,_,_,rfl,rfl,B1,A1,M.reads r (js.take i),_,r,M.base+j,by rw [eb];rfl,m1,?_,hr0,j0,j1,fun B2 A2 H2 s2 eb2 m2=>?_⟩
  ·show (M.touches++_).length<_
   rw [List.length_append,List.length_map,List.length_take];omega
  refine ⟨_,m2.getR,(by rw [List.length_map,List.length_map,List.length_take];omega),_,B2,A2,rfl,s1.trans s2,eb2.trans eb,?_⟩;have m3:=m2.putR (o':=.lst (((js.take (i+1)).map fun j=>some (M.valAt r j)).map oV));have et:js.take (i+1)=js.take i++[j]:=by rw [List.take_add_one,e9];rfl
  rw [et,M.reads_snoc];rw [et,List.map_append,List.map_append] at m3;rw [List.map_append,List.map_append];exact m3
 ·rintro σ J ⟨u,B1,A1,rfl,s1,eb,m1⟩
  rw [List.length_map,List.take_length] at m1;have nb:B1 D=none:=m1.h.nw (D,_) (List.mem_of_getElem? atR);exact q _ A1 J D (s1.trans (zo (Same.refl _) nb)) eb m1.settle zh
abbrev EfM:=List V->Mc->Option Mc
def spEf (c:MCs) (f:EfM):Sp:=fun vs H Q _=>∃ (B:Hp) (A:Ma) (M:Mc) (R:List (Addr×HO)) (st:Addr) (tv:List V) (M':Mc),vs=[.ref A.b,.ref st]/\MAt c B A M R H/\B st=some (.tup tv)/\f tv M=some M'/\MOk M /\
 ∀ B' A' H',Same B B'->A'.b=A.b->MAt c B' A' M' R H'->Q .non H'
def spPE (c:MCs) (S:Str->EfM->Prop):Sp:=fun vs H Q _=>∃ (word:Str) (f:EfM) (B:Hp) (A:Ma) (M:Mc) (R:List (Addr×HO)) (st:Addr) (tv:List V) (M':Mc),S word f/\vs=[.ref A.b,.ref st]/\MAt c B A M R H/\B st=some (.tup tv)/\tv[0]?=some (.str word)/\f tv M=some M'/\MOk M /\
 ∀ B' A' H',Same B B'->A'.b=A.b->MAt c B' A' M' R H'->Q .non H'
def Xi (P:Program) (w:World) (K:PySem.W.Frag) (mg:Str->Option Value) (base:Heap) (c:MCs) (t:TabA) (S:Str->EfM->Prop) (rm:Nat):Prop:=∀ word f,S word f->PySem.W.nsIn K t.s word=some none/\∃ (nm:Str) (ps:List Str),z5 K mg t.e word nm/\Ok P w K mg base CX0 rm nm ps (spEf c f)
theorem ok_pe {c:MCs} {t:TabA} {S:Str->EfM->Prop} {rm:Nat} (hrm:rm<=7) (d:zw K mg "play_effect" yI ["bench","step"]) (TT:Tabs w K mg t) (EW:Xi P w K mg base c t S rm):Ok P w K mg base CX0 8 "play_effect" ["bench","step"] (spPE c S):=by
 obtain ⟨g,fd,m,F,b⟩:=d;refine ⟨g,fd,m,F.kp,b,F.ok YR (by rintro vs H Q E ⟨_,_,_,_,_,_,_,_,_,_,rfl,_⟩;rfl) fun cdv A outer s H vs Q E hr h=>?_⟩;obtain ⟨word,f,B,A,M,R,st,tv,M',hS,rfl,m,es,e0,eM,ok,q⟩:=h;obtain ⟨_,nm,ps,sg,FN⟩:=EW word f hS;have hr4:=hr.mono (show 4<=7 by decide);have hrF:Room rm _:=hr.mono hrm;obtain ⟨fn,efn,mfn⟩:=sg;obtain ⟨f2,fd2,mf2,kp,bb,FO⟩:=FN;cases mfn.symm.trans mf2;refine ⟨_,(zg (zS (Y3 (CX:=CX0) (k:=rm) (zB ix_top (zZ TT.he) (zB zR (pv 1) zf (fun _ _=>rfl)) (fun _ _=>rfl)) hrF zy (zb (pv 0) (zb (pv 1) ze))))),?_⟩;exact ⟨_,rfl,st,_,_,_,rfl,rfl,SqT.of (m.h.sm _ _ es),zQ (j:=0) e0,t.e,word,.ref fn,.ref fn,rfl,rfl,TT.Te,efn,rfl,fn,fd2,ps,spEf c f,rfl,FO,kp,bb,_,rfl,_,rfl,B,A,M,R,st,tv,M',rfl,m,es,eM,ok,q⟩
def spIn (aD:Addr) (K:PySem.W.Frag):Sp:=fun vs H Q _=>∃ (word:Str) (r:Option Value),vs=[.str word]/\PySem.W.nsIn K aD word=some r/\Q (.bl r.isSome) H
theorem ok_lsw {t:TabA} (d:zw K mg "lays_seat" xk ["word"]) (TT:Tabs w K mg t):Ok P w K mg base CX0 1 "lays_seat" ["word"] (spIn t.s K):=by
 obtain ⟨g,fd,m,F,b⟩:=d;refine ⟨g,fd,m,F.kp,b,F.ok zcr (by rintro vs H Q E ⟨_,_,rfl,_⟩;rfl) fun cdv A outer s H vs Q E hr h=>?_⟩;obtain ⟨word,r,rfl,e,q⟩:=h;refine ⟨_,(zg (zn (xO XD (pv 0) (zZ TT.hs) rfl))),?_⟩;exact ⟨_,rfl,word,t.s,r,rfl,rfl,TT.Ts,TT.ls,e,q⟩
theorem ok_hew {t:TabA} (d:zw K mg "has_effect" yY ["word"]) (TT:Tabs w K mg t):Ok P w K mg base CX0 1 "has_effect" ["word"] (spIn t.e K):=by
 obtain ⟨g,fd,m,F,b⟩:=d;refine ⟨g,fd,m,F.kp,b,F.ok Xp (by rintro vs H Q E ⟨_,_,rfl,_⟩;rfl) fun cdv A outer s H vs Q E hr h=>?_⟩;obtain ⟨word,r,rfl,e,q⟩:=h;refine ⟨_,(zg (zn (xO XD (pv 0) (zZ TT.he) rfl))),?_⟩;exact ⟨_,rfl,word,t.e,r,rfl,rfl,TT.Te,TT.le,e,q⟩
end
def Mc.puts (M:Mc) (row:Nat) (ps:List (Int×Int)):Mc:=ps.foldl (fun M p=>M.wrote row p.1 p.2) M
theorem Mc.puts_snoc (M:Mc) (row:Nat) (ps:List (Int×Int)) (p:Int×Int):M.puts row (ps++[p])=(M.puts row ps).wrote row p.1 p.2:=by
 unfold Mc.puts;rw [List.foldl_append];rfl
theorem Mc.puts_is (M:Mc) (row:Nat) (ps:List (Int×Int)):M.puts row ps={ M with cells:=(M.puts row ps).cells,touches:=M.touches++ps.map fun p=>(M.pc,("write":Str),M.adr row p.1) }/\(M.puts row ps).cells.length=M.cells.length:=by
 induction ps generalizing M with
 | nil=>exact ⟨by show M={ M with touches:=M.touches++[] };rw [List.append_nil],rfl⟩
 | cons p ps ih =>
  obtain ⟨a,b⟩:=ih (M.wrote row p.1 p.2);have e:M.puts row (p::ps)=(M.wrote row p.1 p.2).puts row ps:=rfl;rw [e];refine ⟨?_,b.trans (by show (M.cells.set _ _).length=_;rw [List.length_set])⟩;rw [a];show ({ M with cells:=_,touches:=(M.touches++[_])++ps.map _ }:Mc)={ M with cells:=_,touches:=_ };rw [List.append_assoc];rfl
open Classical in
noncomputable def Zx:EfM:=fun tv M=>match (tv[1]?:Option V),(tv[2]?:Option V),(tv[3]?:Option V) with
 | some (V.int r),some (V.int p),some (V.int k)=>if 0<=r/\0<=p/\(p+1)*M.group<=8/\0<=k/\k<16/\rowIn M r.toNat (M.act k.toNat)/\M.touches.length+(M.act k.toNat).length<100000 then some (M.puts r.toNat ((M.act k.toNat).map fun j=>(M.base+j,M.numAt p.toNat j))) else none
 | _,_,_=>none
theorem storeM_is {tv:List V} {M M':Mc} (h:Zx tv M=some M'):∃ r p k:Nat,tv[1]?=some (.int r)/\tv[2]?=some (.int p)/\tv[3]?=some (.int k)/\((p:Int)+1)*M.group<=8/\k<16/\rowIn M r (M.act k)/\M.touches.length+(M.act k).length<100000/\M'=M.puts r ((M.act k).map fun j=>(M.base+j,M.numAt p j)):=by
 unfold Zx at h
 split at h
 ·rename_i r p k e1 e2 e3
  split at h
  ·rename_i hc
   obtain ⟨r0,p0,p8,k0,k1,hin,ht⟩:=hc;cases h;refine ⟨r.toNat,p.toNat,k.toNat,?_,?_,?_,?_,by omega,hin,ht,rfl⟩
   ·rw [e1];congr 2;omega
   ·rw [e2];congr 2;omega
   ·rw [e3];congr 2;omega
   ·rw [Int.toNat_of_nonneg p0];exact p8
  ·cases h
 ·cases h
section
variable {P:Program} {w:World} {K:PySem.W.Frag} {mg:Str->Option Value} {base:Heap}
theorem ZZ {α:Type} {f:α->V} {l:List α} {i:Nat} {x:V} (h:(l.map f)[i]?=some x):∃ a,l[i]?=some a/\x=f a:=by
 rw [List.getElem?_map] at h;obtain ⟨a,e,z⟩:=Option.map_eq_some_iff.mp h;exact ⟨a,e,z.symm⟩
theorem ok_store {c:MCs} (d:zw K mg "play_store" yT ["bench","step"]) (hzip:mg "zip"=none) (CC:MCls K c) (AU:OkM P w K mg base CX0 1 c.bn "active_under" ["self","mask"] (spAct c)) (NI:OkM P w K mg base CX0 3 c.bn "numbers_in" ["self","seat","active"] (spNums c K))
  (WC:OkM P w K mg base CX0 2 c.bn "write_cell" ["self","row","place","number"] (spWrite c)):Ok P w K mg base CX0 4 "play_store" ["bench","step"] (spEf c Zx):=by
 obtain ⟨g,fd,m,F,b⟩:=d;refine ⟨g,fd,m,F.kp,b,F.ok sc_play_store (by rintro vs H Q E ⟨_,_,_,_,_,_,_,rfl,_⟩;rfl) fun cdv A outer s H vs Q E hr h=>?_⟩;obtain ⟨B,A,M,R,st,tv,M',rfl,m,es,ef,ok,q⟩:=h;have nd:=sc_play_store.nd;have hr3:=hr;have hr2:=hr.mono (show 2<=3 by decide);have hr1:=hr.mono (show 1<=3 by decide);have CN:=CC.n;have ml:=ok.ml;obtain ⟨r,p,k,e1,e2,e3,p8,k16,⟨hr0,hin⟩,ht,rfl⟩:=storeM_is ef;obtain ⟨mr1,mr2⟩:=Yk ok k16;obtain ⟨ai,al⟩:=act_in ok k;refine ⟨_,(zd (zF (i:=2) nd rfl (Or.inl rfl) (yt AU CC.n.c hr1 zy (pv 0) (zb (zB zR (pv 1) zf (fun _ _=>rfl)) ze)))
   (zg (Ze PassesOwn.never rfl (pi_zip rfl hzip (zb (pv 2) (zb (yt NI CC.n.c hr3 zy (pv 0) (zb (zB zR (pv 1) zf (fun _ _=>rfl)) (zb (pv 2) ze))) ze))) (pg_tup rfl (Z8 (zW (i:=3) nd rfl (Or.inl rfl)) (Z8 (zW (i:=4) nd rfl (Or.inl rfl)) pgs_nil))) (zg (zS (yt WC CC.n.c hr2 zy (pv 0) (zb (zB zR (pv 1) zf (fun _ _=>rfl)) (zb (zp zY (zi (pv 0) rfl) (pv 3)) (zb (pv 4) ze))))))))),?_⟩
 refine ⟨_,rfl,A.b,_,_,rfl,m.b,rfl,_,rfl,st,_,_,_,rfl,rfl,SqT.of (m.h.sm _ _ es),zQ (j:=3) e3,B,A,M,R,k,rfl,m,by omega,ok.w0,mr1,mr2,fun B1 H1 l s1 m1 ea=>?_⟩;refine ⟨_,rfl,_,rfl,A.b,_,_,rfl,m1.b,rfl,_,rfl,st,_,_,_,rfl,rfl,SqT.of (m1.h.sm _ _ (s1 _ _ es)),zQ (j:=2) e2,_,rfl,B1,A,M,R,p,l,M.act k,rfl,m1,ok,p8,ea,ai,al,fun B2 H2 l2 s2 m2 en=>?_⟩;refine ⟨l,l2,rfl,⟨_,SqL.of (m2.h.sm _ _ (s2 _ _ ea))⟩,⟨_,SqL.of (m2.h.sm _ _ en)⟩,?_⟩;generalize M.act k=js at *;let pr:Int->Int×Int:=fun j=>(M.base+j,M.numAt p j);refine for_zip (xs:=js.map V.int) (ys:=(js.map (M.numAt p)).map V.int) (fun i σ J=>∃ u3 u4 B3 A3,σ=[some (.ref A.b),some (.ref st),some (.ref l),u3,u4]/\Same B2 B3/\A3.b=A.b/\MAt c B3 A3 (M.puts r ((js.take i).map pr)) R J) ⟨none,none,B2,A,rfl,Same.refl _,rfl,m2⟩ (fun i σ J _ ⟨_,_,B3,A3,_,s3,_,m3⟩=>⟨SqL.of (m3.h.sm _ _ (s3 _ _ (s2 _ _ ea))),SqL.of (m3.h.sm _ _ (s3 _ _ en))⟩) (by rw [List.length_map,List.length_map,List.length_map]) ?_ ?_
 ·rintro i x y σ J T hx hy ⟨u3,u4,B3,A3,rfl,s3,eb,m3⟩ nT
  obtain ⟨j,e9,rfl⟩:=ZZ hx;obtain ⟨z,e10,rfl⟩:=ZZ hy;rw [List.getElem?_map,e9] at e10;cases e10;have mj:j∈js:=List.mem_of_getElem? e9;obtain ⟨j0,j1⟩:=hin j mj;have m4:=m3.grow (o:=.tup [.int j,.int (M.numAt p j)]) nT;have s4:Same B3 (upd B3 T (.tup [.int j,.int (M.numAt p j)])):=zo (Same.refl _) (m3.h.free nT);have e4:upd B3 T (.tup [.int j,.int (M.numAt p j)]) T=some (.tup [.int j,.int (M.numAt p j)]):=zh;generalize upd J T (.tup [.int j,.int (M.numAt p j)])=J4 at m4 ⊢;generalize upd B3 T (.tup [.int j,.int (M.numAt p j)])=B4 at m4 s4 e4;obtain ⟨pi1,pi2⟩:=M.puts_is r ((js.take i).map pr);have hb:(M.puts r ((js.take i).map pr)).base=M.base:=by rw [pi1]
  have hs:(M.puts r ((js.take i).map pr)).starts=M.starts:=by rw [pi1]
  have hT:(M.puts r ((js.take i).map pr)).touches.length<100000:=by
   rw [pi1];show (M.touches++_).length<_;rw [List.length_append,List.length_map,List.length_map,List.length_take];have:i<js.length:=(List.getElem?_eq_some_iff.mp e9).1;omega
  refine ⟨T,_,rfl,SqT.of (m4.h.sm _ _ e4),rfl,_,_,rfl,_,_,rfl,rfl,?_⟩;refine ⟨_,rfl,A3.b,_,_,by rw [eb],m4.b,rfl,_,rfl,st,_,_,_,rfl,rfl,SqT.of (m4.h.sm _ _ (s4 _ _ (s3 _ _ (s2 _ _ (s1 _ _ es))))),zQ (j:=1) e1,_,rfl,A3.b,_,_,_,.int M.base,by rw [eb],m4.b,CN.c,CN.base,(by show some (V.int _)=_;rw [hb]),_,rfl,_,_,rfl,rfl,_,rfl,B4,A3,_,R,r,M.base+j,M.numAt p j,by rw [eb];rfl,m4,hT,?_,?_,?_,fun B5 A5 H5 s5 eb5 m5=>?_⟩
  ·rw [hs];exact hr0
  ·unfold Mc.adr;rw [hs];exact j0
  ·unfold Mc.adr;rw [hs,pi2];exact j1
  ·refine ⟨_,_,B5,A5,rfl,(s3.trans s4).trans s5,eb5.trans eb,?_⟩
   have et:(js.take (i+1)).map pr=(js.take i).map pr++[pr j]:=by rw [List.take_add_one,e9,List.map_append];rfl
   rw [et,M.puts_snoc];exact m5
 ·rintro σ J ⟨u3,u4,B3,A3,rfl,s3,eb,m3⟩
  rw [List.length_map,List.take_length] at m3;exact q B3 A3 J ((s1.trans s2).trans s3) eb m3
abbrev WyM:=List V->Mc->Mc->Int->Prop
def spWy (c:MCs) (f:WyM):Sp:=fun vs H Q _=>∃ (B:Hp) (A:Ma) (M:Mc) (R:List (Addr×HO)) (st:Addr) (tv:List V) (M':Mc) (n:Int),vs=[.ref A.b,.ref st]/\MAt c B A M R H/\B st=some (.tup tv)/\f tv M M' n /\
 ∀ B' A' H',Same B B'->A'.b=A.b->MAt c B' A' M' R H'->Q (.int n) H'
def zc5:WyM:=fun tv M M' n=>∃ many group:Int,tv[1]?=some (.int many)/\tv[2]?=some (.int group)/\MOk0 M/\(group=1∨group=2∨group=4)/\0<=many/\M'=M.round many group/\n=M.pc+1
def nextW:WyM:=fun tv M M' n=>MOk0 M/\(M.group=1∨M.group=2∨M.group=4)/\(if M.base+M.begun<M.many then M'=M.strip (M.base+M.begun)/\n=M.opened+1 else M'=M/\n=M.pc+1)
theorem ok_begin {c:MCs} (d:zw K mg "play_begin" yV ["bench","step"]) (CC:MCls K c) (OR:OkM P w K mg base CX0 4 c.bn "open_round" ["self","many","group"] (spRound c)):Ok P w K mg base CX0 5 "play_begin" ["bench","step"] (spWy c zc5):=by
 obtain ⟨g,fd,m,F,b⟩:=d;refine ⟨g,fd,m,F.kp,b,F.ok Xo (by rintro vs H Q E ⟨_,_,_,_,_,_,_,_,rfl,_⟩;rfl) fun cdv A outer s H vs Q E hr h=>?_⟩;obtain ⟨B,A,M,R,st,tv,M',n,rfl,m,es,⟨many,group,e1,e2,ok,hg,hm,rfl,rfl⟩,q⟩:=h;have hr4:=hr;have CN:=CC.n;refine ⟨_,(zd (zS (yt OR CC.n.c hr4 zy (pv 0) (zb (zB zR (pv 1) zf (fun _ _=>rfl)) (zb (zB zR (pv 1) zf (fun _ _=>rfl)) ze))))
   (zg (zn (zp zY (zi (pv 0) rfl) zf)))),?_⟩
 refine ⟨_,rfl,A.b,_,_,rfl,m.b,rfl,_,rfl,st,_,_,_,rfl,rfl,SqT.of (m.h.sm _ _ es),zQ (j:=1) e1,_,rfl,st,_,_,_,rfl,rfl,SqT.of (m.h.sm _ _ es),zQ (j:=2) e2,B,A,M,R,many,group,rfl,m,ok,hg,hm,fun B1 A1 H1 s1 eb m1=>?_⟩;exact ⟨_,rfl,A1.b,_,_,_,.int M.pc,by rw [eb],m1.b,CN.c,CN.pc,rfl,_,_,rfl,rfl,q B1 A1 H1 s1 eb m1⟩
theorem ok_next {c:MCs} (d:zw K mg "play_next" xf ["bench","step"]) (CC:MCls K c) (BS:OkM P w K mg base CX0 3 c.bn "begin_strip" ["self","base"] (zcj c)):Ok P w K mg base CX0 5 "play_next" ["bench","step"] (spWy c nextW):=by
 obtain ⟨g,fd,m,F,b⟩:=d;refine ⟨g,fd,m,F.kp,b,F.ok sc_play_next (by rintro vs H Q E ⟨_,_,_,_,_,_,_,_,rfl,_⟩;rfl) fun cdv A outer s H vs Q E hr h=>?_⟩;obtain ⟨B,A,M,R,st,tv,M',n,rfl,m,es,⟨ok,hg,hx⟩,q⟩:=h;have nd:=sc_play_next.nd;have hr3:=hr.mono (show 3<=4 by decide);have CN:=CC.n;refine ⟨_,(zd (zF (i:=2) nd rfl (Or.inl rfl) (zp zY (zi (pv 0) rfl) (zi (pv 0) rfl)))
   (zd (zK (zG op_lt (pv 2) (zi (pv 0) rfl) (zJ _)) (zd (zS (yt BS CC.n.c hr3 zy (pv 0) (zb (pv 2) ze)))
   (zg (zn (zp zY (zi (pv 0) rfl) zf)))) zu)
   (zg (zn (zp zY (zi (pv 0) rfl) zf))))),?_⟩
 refine ⟨_,rfl,A.b,_,_,_,.int M.base,rfl,m.b,CN.c,CN.base,rfl,_,rfl,A.b,_,_,_,.int M.begun,rfl,m.b,CN.c,CN.begun,rfl,_,_,rfl,rfl,?_⟩;refine ⟨_,rfl,_,rfl,A.b,_,_,_,.int M.many,rfl,m.b,CN.c,CN.many,rfl,_,_,rfl,rfl,_,rfl,?_⟩;refine y6 (fun z=>?_) (fun z=>?_)
 ·have z:=of_decide_eq_true z
  rw [if_pos z] at hx;obtain ⟨rfl,rfl⟩:=hx;refine ⟨_,rfl,A.b,_,_,rfl,m.b,rfl,_,rfl,B,A,M,R,M.base+M.begun,rfl,m,ok,hg,by omega,fun B1 A1 H1 s1 eb m1=>?_⟩;exact ⟨_,rfl,A1.b,_,_,_,.int M.opened,by rw [eb],m1.b,CN.c,CN.opened,rfl,_,_,rfl,rfl,q B1 A1 H1 s1 eb m1⟩
 ·rw [if_neg (fun y=>z (decide_eq_true y))] at hx
  obtain ⟨rfl,rfl⟩:=hx;exact ⟨_,rfl,A.b,_,_,_,.int M'.pc,rfl,m.b,CN.c,CN.pc,rfl,_,_,rfl,rfl,q B A H (Same.refl _) rfl m⟩
end
structure Lex where
 S:Str->FnM->Prop
 E:Str->EfM->Prop
 W:Str->WyM->Prop
inductive Step (L:Lex) (tv:List V) (M:Mc):Mc->Prop
 | seat {word f M'}:L.S word f->tv[0]?=some (.str word)->seatM f tv M=some M'->MOk M->Step L tv M { M' with pc:=M'.pc+1 }
 | eff {word f M'}:L.E word f->tv[0]?=some (.str word)->f tv M=some M'->MOk M->Step L tv M { M' with pc:=M'.pc+1 }
 | way {word f M' n}:L.W word f->tv[0]?=some (.str word)->f tv M M' n->Step L tv M { M' with pc:=n }
section
variable {P:Program} {w:World} {K:PySem.W.Frag} {mg:Str->Option Value} {base:Heap}
def zgy (P:Program) (w:World) (K:PySem.W.Frag) (mg:Str->Option Value) (base:Heap) (c:MCs) (t:TabA) (S:Str->WyM->Prop) (rm:Nat):Prop:=∀ word f,S word f->PySem.W.nsIn K t.s word=some none/\PySem.W.nsIn K t.e word=some none/\∃ (nm:Str) (ps:List Str),z5 K mg t.w word nm/\Ok P w K mg base CX0 rm nm ps (spWy c f)
def spPB (c:MCs) (L:Lex):Sp:=fun vs H Q _=>∃ (B:Hp) (A:Ma) (M:Mc) (R:List (Addr×HO)) (st:Addr) (tv:List V) (M':Mc),vs=[.ref A.b,.ref st]/\MAt c B A M R H/\B st=some (.tup tv)/\Step L tv M M' /\
 ∀ B' A' H' M1,Same B B'->A'.b=A.b->MAt c B' A' M1 R H'->M'={ M1 with pc:=M'.pc }->Q (.int M'.pc) H'
theorem ok_pb {c:MCs} {t:TabA} {L:Lex} {rm rs re:Nat} (d:zw K mg "place_behind" yC ["bench","step"]) (CC:MCls K c) (TT:Tabs w K mg t) (hrm:rm<=8) (SW:Yn P w K mg base c t L.S rs) (EW:Xi P w K mg base c t L.E re) (WW:zgy P w K mg base c t L.W rm)
  (LSW:Ok P w K mg base CX0 1 "lays_seat" ["word"] (spIn t.s K)) (HEW:Ok P w K mg base CX0 1 "has_effect" ["word"] (spIn t.e K)) (PSS:Ok P w K mg base CX0 7 "play_seat_step" ["bench","step"] (spPSS c L.S)) (PE:Ok P w K mg base CX0 8 "play_effect" ["bench","step"] (spPE c L.E)) :
  Ok P w K mg base CX0 9 "place_behind" ["bench","step"] (spPB c L):=by
 obtain ⟨g,fd,m,F,b⟩:=d;refine ⟨g,fd,m,F.kp,b,F.ok Yw (by rintro vs H Q E ⟨_,_,_,_,_,_,_,rfl,_⟩;rfl) fun cdv A outer s H vs Q E hr h=>?_⟩;obtain ⟨B,A,M,R,st,tv,M',rfl,m,es,hS,q⟩:=h;have hr5:=hr;have hr4:=hr.mono (show 7<=8 by decide);have hr1:=hr.mono (show 1<=8 by decide);have hrF:Room rm _:=hr.mono hrm;have CN:=CC.n;refine ⟨_,(zd (zK (z7 (zI LSW hr1 (by rfl) zy (zb (zB zR (pv 1) zf (fun _ _=>rfl)) ze))) (zd (zS (zI PSS hr4 (by rfl) zy (zb (pv 0) (zb (pv 1) ze))))
   (zg (zn (zp zY (zi (pv 0) rfl) zf)))) zu)
   (zd (zK (z7 (zI HEW hr1 (by rfl) zy (zb (zB zR (pv 1) zf (fun _ _=>rfl)) ze))) (zd (zS (zI PE hr5 (by rfl) zy (zb (pv 0) (zb (pv 1) ze))))
   (zg (zn (zp zY (zi (pv 0) rfl) zf)))) zu)
   (zg (zn (Y3 (CX:=CX0) (k:=rm) (zB ix_top (zZ TT.hw) (zB zR (pv 1) zf (fun _ _=>rfl)) (fun _ _=>rfl)) hrF zy (zb (pv 0) (zb (pv 1) ze))))))),?_⟩
 have sqt:SqT K H st tv:=SqT.of (m.h.sm _ _ es)
 cases hS with
 | seat hs e0 eM ok =>
  rename_i word f M1;obtain ⟨nm,ps,⟨fn,efn,mfn⟩,FN,fo⟩:=SW word f hs;refine ⟨_,rfl,st,_,_,_,rfl,rfl,sqt,zQ (j:=0) e0,word,_,rfl,efn,_,rfl,?_⟩;refine Zq ?_;refine ⟨_,rfl,_,rfl,word,f,B,A,M,R,st,tv,M1,hs,rfl,m,es,e0,eM,ok,fun B1 A1 H1 s1 eb m1=>?_⟩;exact ⟨_,rfl,A1.b,_,_,_,.int M1.pc,by rw [eb],m1.b,CN.c,CN.pc,rfl,_,_,rfl,rfl,q B1 A1 H1 M1 s1 eb m1 rfl⟩
 | eff hs e0 eM ok =>
  rename_i word f M1;obtain ⟨n1,nm,ps,⟨fn,efn,mfn⟩,FN⟩:=EW word f hs;refine ⟨_,rfl,st,_,_,_,rfl,rfl,sqt,zQ (j:=0) e0,word,_,rfl,n1,_,rfl,?_⟩;refine yx ?_;refine ⟨_,rfl,st,_,_,_,rfl,rfl,sqt,zQ (j:=0) e0,word,_,rfl,efn,_,rfl,?_⟩;refine Zq ?_;refine ⟨_,rfl,_,rfl,word,f,B,A,M,R,st,tv,M1,hs,rfl,m,es,e0,eM,ok,fun B1 A1 H1 s1 eb m1=>?_⟩;exact ⟨_,rfl,A1.b,_,_,_,.int M1.pc,by rw [eb],m1.b,CN.c,CN.pc,rfl,_,_,rfl,rfl,q B1 A1 H1 M1 s1 eb m1 rfl⟩
 | way hs e0 eM =>
  rename_i word f M1 n;obtain ⟨n1,n2,nm,ps,⟨fn,efn,mfn⟩,FN⟩:=WW word f hs;obtain ⟨f2,fd2,mf2,kp,bb,FO⟩:=FN;cases mfn.symm.trans mf2;refine ⟨_,rfl,st,_,_,_,rfl,rfl,sqt,zQ (j:=0) e0,word,_,rfl,n1,_,rfl,?_⟩;refine yx ?_;refine ⟨_,rfl,st,_,_,_,rfl,rfl,sqt,zQ (j:=0) e0,word,_,rfl,n2,_,rfl,?_⟩;refine yx ?_;exact ⟨_,rfl,st,_,_,_,rfl,rfl,sqt,zQ (j:=0) e0,t.w,word,.ref fn,.ref fn,rfl,rfl,TT.Tw,efn,rfl,fn,fd2,ps,spWy c f,rfl,FO,kp,bb,_,rfl,_,rfl,B,A,M,R,st,tv,M1,n,rfl,m,es,eM,fun B1 A1 H1 s1 eb m1=>q B1 A1 H1 M1 s1 eb m1 rfl⟩
end
end K43
namespace L2
open PySem
namespace Hd
variable {B:Hp} {L:List (Addr×HO)} {H H' J:Hp} {a b:Addr} {o o':HO}
theorem grow (h:Hd B L H) (n:H a=none):Hd (upd B a o) L (upd H a o):=by
 refine ⟨h.nd,fun p q=>?_,fun p q=>?_,fun b u z=>?_⟩
 ·rw [zm (zv (h.st p q) n)];exact h.nw p q
 ·rw [zm (zv (h.st p q) n)];exact h.st p q
 ·by_cases e:b=a
  ·subst e;rw [zh] at z ⊢;exact z
  ·rw [zm e] at z ⊢;exact h.sm _ _ z
theorem adopt (m:Hd B L H) (h:Hd H [(a,o)] J):Hd (upd B a o) L J:=by
 have na:H a=none:=h.nw _ (List.mem_singleton.mpr rfl);refine ⟨m.nd,fun p q=>?_,fun p q=>h.sm _ _ (m.st p q),fun b u z=>?_⟩
 ·rw [zm (zv (m.st p q) na)];exact m.nw p q
 ·by_cases e:b=a
  ·subst e;rw [zh] at z;cases z;exact h.get 0 rfl
  ·rw [zm e] at z;exact h.sm _ _ (m.sm _ _ z)
theorem settle (m:Hd B ((a,o)::L) H):Hd (upd B a o) L H:=by
 have h:=m.tl;have na:a ∉ L.map Prod.fst:=(List.nodup_cons.mp m.nd).1;refine ⟨h.nd,fun p q=>?_,h.st,fun b u z=>?_⟩
 ·rw [zm (fun e=>na (by rw [← e];exact List.mem_map_of_mem q))];exact h.nw p q
 ·by_cases e:b=a
  ·subst e;rw [zh] at z;cases z;exact m.get 0 rfl
  ·rw [zm e] at z;exact m.sm _ _ z
theorem settled (m:Hd B ((a,o)::L) H):Same B (upd B a o):=zo (Same.refl _) (m.nw (a,o) (List.mem_cons_self ..))
theorem waste (h:Hd B L H) (n:H a=none):Hd B L (upd H a o):=h.same (zo (Same.refl _) n)
theorem fnew {p:Addr×HO} (h:Hd B (p::L) H) (n:H a=none):Hd B (p::(a,o)::L) (upd H a o):=(h.new n).perm (List.Perm.swap _ _ _)
theorem fput (h:Hd B ((a,o)::L) H):Hd B ((a,o')::L) (upd H a o'):=h.put 0 rfl
end Hd
namespace Hd
variable {B:Hp} {L L2:List (Addr×HO)} {H H' J:Hp} {a b:Addr} {o o':HO}
theorem mv {p:Addr×HO} (k:Nat) (h:Hd B (p::L) H):Hd B (L.take k++p::L.drop k) H :=
 h.perm (by
  have e:(p::L).Perm (p::(L.take k++L.drop k)):=by rw [List.take_append_drop]
  exact e.trans List.perm_middle.symm)
theorem join (m:Hd B L H) (h:Hd H L2 J):Hd B (L++L2) J:=by
 refine ⟨?_,fun p q=>?_,fun p q=>?_,fun b u z=>h.sm _ _ (m.sm _ _ z)⟩
 ·rw [List.map_append]
  refine List.nodup_append.mpr ⟨m.nd,h.nd,fun x hx y hy e=>?_⟩;obtain ⟨p,hp,rfl⟩:=List.mem_map.mp hx;obtain ⟨q,hq,rfl⟩:=List.mem_map.mp hy;have:=m.st p hp;rw [e,h.nw q hq] at this;cases this
 ·rcases List.mem_append.mp q with q | q
  ·exact m.nw p q
  ·exact m.free (h.nw p q)
 ·rcases List.mem_append.mp q with q | q
  ·exact h.sm _ _ (m.st p q)
  ·exact h.st p q
theorem settles {S:List (Addr×HO)}:∀ {B:Hp},Hd B (S++L) H->∃ B',Same B B'/\(∀ p∈S,B' p.1=some p.2)/\Hd B' L H:=by
 induction S with
 | nil=>exact fun {B} h=>⟨B,Same.refl _,(fun p m=>by cases m),h⟩
 | cons p S ih =>
  intro B h;obtain ⟨a,o⟩:=p;obtain ⟨B',s,e,h'⟩:=ih (Hd.settle h);refine ⟨B',(Hd.settled h).trans s,fun p m=>?_,h'⟩;rcases List.mem_cons.mp m with rfl | m
  ·exact s _ _ zh
  ·exact e p m
end Hd
end L2
namespace K43
open PySem L2
section
variable {P:Program} {w:World} {K:PySem.W.Frag} {mg:Str->Option Value} {base:Heap}
def spStart (K:PySem.W.Frag):Sp:=fun vs H Q _=>∃ (p:Addr) (ns:List Int) (r:Int),vs=[.ref p,.int r]/\SqL K H p (ns.map V.int)/\0<=r/\∀ H',Same H H'->Q (.int (ns.take r.toNat).sum) H'
theorem ok_start (d:zw K mg "start_of" xF ["lengths","row"]) (hsum:mg "sum"=none):Ok P w K mg base CX0 1 "start_of" ["lengths","row"] (spStart K):=by
 obtain ⟨g,fd,m,F,b⟩:=d;refine ⟨g,fd,m,F.kp,b,F.ok zf4 (by rintro vs H Q E ⟨_,_,_,rfl,_⟩;rfl) fun cdv A outer s H vs Q E hr h=>?_⟩;obtain ⟨p,ns,r,rfl,hS,h0,k⟩:=h;refine ⟨_,(zg (zn (zt (call_sum rfl) (by rfl) hsum PyProof.Rows.boot_sum (zb (Y0 zcn (pv 0) po_none (Z7 (pv 1))) ze)))),?_⟩;refine ⟨_,rfl,_,rfl,r,rfl,p,_,rfl,hS,fun l hl=>?_⟩;rw [cutV_take h0];exact ⟨l,_,rfl,SqL.of zh,k _ (zo (Same.refl H) hl)⟩
def zl (lens:List Int):List Int:=(List.range lens.length).map fun r=>(lens.take r).sum
def Mc.fresh (lens cells:List Int) (L:Nat) (dust picks:List Int):Mc where
 lens:=lens
 starts:=zl lens
 cells:=cells
 lanes:=L
 nums:=List.replicate (8*L) 0
 masks:=List.replicate 16 (List.replicate (4*L) false)
 slots:=[]
 dust:=dust
 dq:=0
 picks:=picks
 pq:=0
 touches:=[]
 pc:=0
 opened:=0
 many:=0
 group:=1
 base:=0
 begun:=0
 width:=0
 faults:=[]
 cut:=none
 carried:=none
 raised:=false
 turns:=[]
 refusal:=none
theorem msk_fresh (ms:List Addr) (r:List Bool):((ms.zip (List.replicate ms.length r)).map fun p=>(p.1,HO.lst (p.2.map V.bl)))=ms.map fun a=>(a,HO.lst (r.map V.bl)):=by
 induction ms with
 | nil=>rfl
 | cons a ms ih =>
  rw [List.length_cons,List.replicate_succ,List.zip_cons_cons,List.map_cons,List.map_cons,ih]
def spInitN (c:MCs) (K:PySem.W.Frag):Sp:=fun vs H Q _=>∃ (B:Hp) (x dx l1 l2 l3 l4:Addr) (lens cells dust picks:List Int) (L:Nat),vs=[.ref x,.ref l1,.ref l2,.int L,.ref l3,.ref l4]/\Hd B [(x,.ins c.bn dx [])] H/\SqL K B l1 (lens.map V.int)/\SqL K B l2 (cells.map V.int)/\SqL K B l3 (dust.map V.int)/\SqL K B l4 (picks.map V.int)/\1<=L/\L<=64/\lens.length<=1000 /\
 ∀ B' A' H',Same B B'->A'.b=x->MAt c B' A' (Mc.fresh lens cells L dust picks) [] H'->Q .non H'
theorem ok_initN {c:MCs} {t1 t2:Tok} (d:yN K c.bn "Bench.__init__" y4 ["self","lengths","cells","lanes","dust","picks"]) (CC:MCls K c) (hlist:mg "list"=none) (hlen:mg "len"=none) (hrg:mg "range"=none) (hMT:mg "MOST_TOGETHER"=some (.int 4 t1)) (hMM:mg "MANY_MASKS"=some (.int 16 t2))
  (hCb:mg "Boxes"=some (.ref c.bx)) (hCf:mg "Feed"=some (.ref c.fe)) (SO:Ok P w K mg base CX0 1 "start_of" ["lengths","row"] (spStart K)) (IB:OkI P w K mg base CX0 1 c.bx ["self","lanes"] (spInitB c.bx)) (IF:OkI P w K mg base CX0 1 c.fe ["self","numbers"] (spInitF K c.fe)) :
  OkI P w K mg base CX0 3 c.bn ["self","lengths","cells","lanes","dust","picks"] (spInitN c K):=by
 obtain ⟨f,fd,m,F,bd⟩:=d;refine ⟨f,fd,m,bd,F.ok sc_Bench_init (by rintro vs H Q E ⟨_,_,_,_,_,_,_,_,_,_,_,_,rfl,_⟩;rfl) fun cdv A outer s H vs Q E hr h=>?_⟩;obtain ⟨B,x,dx,l1,l2,l3,l4,lens,cells,dust,picks,L,rfl,h,q1,q2,q3,q4,L1,L64,hl,q⟩:=h;have nd:=sc_Bench_init.nd;have hr2:=hr;have hr1:=hr.mono (show 1<=2 by decide);have CN:=CC.n;refine ⟨_,(zd (zC (pv 0) (yv yd (by rfl) hlist PyProof.Rows.boot_list (zb (pv 1) ze)) rfl)
   (zd (zC (pv 0) (xA ["row","lengths"] [none,some 1] rfl rfl rfl (xv rfl hrg (zb (zt zP (by rfl) hlen PySem.boot_len (zb (pv 1) ze)) ze)) (fun s3 H3 fp=>⟨zW (i:=0) (show ((["row","lengths"]:List Str)).Nodup by decide +kernel) rfl (Or.inl rfl),(zI SO hr1 (by rfl) zy (zb (pv 1) (zb (pv 0) ze)))⟩)) rfl)
   (zd (zC (pv 0) (yv yd (by rfl) hlist PyProof.Rows.boot_list (zb (pv 2) ze)) rfl)
   (zd (zC (pv 0) (pv 3) rfl)
   (zd (zC (pv 0) (xK IB hCb hr2 (by rfl) zy (zb (pv 3) ze)) rfl)
   (zd (zC (pv 0) (xA ["mask","lanes"] [none,some 3] rfl rfl rfl (xv rfl hrg (zb (ZK hMM) ze)) (fun s3 H3 fp=>⟨zW (i:=0) (show ((["mask","lanes"]:List Str)).Nodup by decide +kernel) rfl (Or.inl rfl),(zp zc1 (yF (zb Zy ze)) (zp xL (ZK hMT) (pv 1)))⟩)) rfl)
   (zd (zC (pv 0) Y2 rfl)
   (zd (zC (pv 0) (xK IF hCf hr2 (by rfl) zy (zb (pv 4) ze)) rfl)
   (zd (zC (pv 0) (xK IF hCf hr2 (by rfl) zy (zb (pv 5) ze)) rfl)
   (zd (zC (pv 0) (yF ze) rfl)
   (zd (zC (pv 0) zf rfl)
   (zd (zC (pv 0) zf rfl)
   (zd (zC (pv 0) zf rfl)
   (zd (zC (pv 0) zf rfl)
   (zd (zC (pv 0) zf rfl)
   (zd (zC (pv 0) zf rfl)
   (zd (zC (pv 0) zf rfl)
   (zd (zC (pv 0) Y2 rfl)
   (zd (zC (pv 0) xR rfl)
   (zd (zC (pv 0) xR rfl)
   (zd (zC (pv 0) Zy rfl)
   (zd (zC (pv 0) (yF ze) rfl)
   (zg (zC (pv 0) xR rfl)))))))))))))))))))))))),?_⟩
 have SL:(3000:Nat)<sizeLine:=by decide
 have q1:SqL K B l1 (lens.map V.int):=q1;refine ⟨_,rfl,l1,_,rfl,.inl (h.sql q1),fun aL nL=>?_⟩;have h:=h.new (o:=.lst (lens.map V.int)) nL;generalize upd H aL (.lst (lens.map V.int))=H at h ⊢;replace h:Hd B ([(aL,.lst (lens.map V.int)),(x,.ins c.bn dx [])]) H:=h.mv 0;refine ⟨_,rfl,x,_,_,_,rfl,h.get 1 rfl,CN.c,CN.lengths,(by show 0<1000;decide),?_⟩;have h:=h.put (o':=.ins c.bn dx (zN "lengths" (.ref aL) [])) 1 rfl;generalize upd _ x (.ins c.bn dx (zN "lengths" (.ref aL) []))=H at h ⊢;replace h:Hd B ([(aL,.lst (lens.map V.int)),(x,.ins c.bn dx [("lengths",.ref aL)])]) H:=h;refine ⟨_,rfl,l1,_,rfl,.inl (h.sql q1),_,rfl,(by rw [List.length_map];omega),(by rw [List.length_map];omega),_,rfl,fun D nD=>?_⟩;rw [List.length_map];have q1':SqL K H l1 (lens.map V.int):=h.sql q1;have h0:Hd H [(D,.lst ((((List.range 0).map fun r=>(lens.take r).sum)).map V.int))] (upd H D (.lst [])):=Hd.base.new nD;generalize upd H D (.lst [])=H3 at h0 ⊢;refine Zs (n:=lens.length) (fun i σ J=>∃ u,σ=[u,some (.ref l1)]/\Hd H [(D,.lst ((((List.range i).map fun r=>(lens.take r).sum)).map V.int))] J) ⟨none,rfl,h0⟩ ?_ ?_
 ·clear h0
  rintro i σ J hi ⟨u,rfl,h⟩;refine ⟨_,rfl,_,rfl,l1,lens,0+(i:Int),rfl,h.sql q1',by omega,fun J1 s1=>?_⟩;have h:=h.same s1;refine ⟨_,h.get 0 rfl,(by rw [List.length_map,List.length_map,List.length_range];omega),_,rfl,?_⟩;have h:=h.put (o':=.lst ((((List.range (i+1)).map fun r=>(lens.take r).sum)).map V.int)) 0 rfl
  have e:((List.range (i+1)).map fun r=>(lens.take r).sum).map V.int=((List.range i).map fun r=>(lens.take r).sum).map V.int++[V.int (lens.take (0+(i:Int)).toNat).sum]:=by
   rw [List.range_succ,List.map_append,List.map_append,show (0+(i:Int)).toNat=i by omega];rfl
  rw [e] at h ⊢;exact h
 rintro σ H ⟨u,rfl,hD⟩;have h:=(h.join hD).perm List.perm_append_comm;clear hD h0 nD q1';replace h:Hd B ([(aL,.lst (lens.map V.int)),(D,.lst ((zl lens).map V.int)),(x,.ins c.bn dx [("lengths",.ref aL)])]) H:=h.mv 1;refine ⟨_,rfl,x,_,_,_,rfl,h.get 2 rfl,CN.c,CN.starts,(by show 1<1000;decide),?_⟩;have h:=h.put (o':=.ins c.bn dx (zN "starts" (.ref D) [("lengths",.ref aL)])) 2 rfl;generalize upd _ x (.ins c.bn dx (zN "starts" (.ref D) [("lengths",.ref aL)]))=H at h ⊢;replace h:Hd B ([(aL,.lst (lens.map V.int)),(D,.lst ((zl lens).map V.int)),(x,.ins c.bn dx [("lengths",.ref aL),("starts",.ref D)])]) H:=h;refine ⟨_,rfl,l2,_,rfl,.inl (h.sql q2),fun aC nC=>?_⟩;have h:=h.new (o:=.lst (cells.map V.int)) nC;generalize upd H aC (.lst (cells.map V.int))=H at h ⊢;replace h:Hd B ([(aL,.lst (lens.map V.int)),(D,.lst ((zl lens).map V.int)),(x,.ins c.bn dx [("lengths",.ref aL),("starts",.ref D)]),(aC,.lst (cells.map V.int))]) H:=h.mv 3;refine ⟨_,rfl,x,_,_,_,rfl,h.get 2 rfl,CN.c,CN.cells,(by show 2<1000;decide),?_⟩;have h:=h.put (o':=.ins c.bn dx (zN "cells" (.ref aC) [("lengths",.ref aL),("starts",.ref D)])) 2 rfl;generalize upd _ x (.ins c.bn dx (zN "cells" (.ref aC) [("lengths",.ref aL),("starts",.ref D)]))=H at h ⊢;replace h:Hd B ([(aL,.lst (lens.map V.int)),(D,.lst ((zl lens).map V.int)),(x,.ins c.bn dx [("lengths",.ref aL),("starts",.ref D),("cells",.ref aC)]),(aC,.lst (cells.map V.int))]) H:=h;refine ⟨_,rfl,_,rfl,x,_,_,_,rfl,h.get 2 rfl,CN.c,CN.lanes,(by show 3<1000;decide),?_⟩;have h:=h.put (o':=.ins c.bn dx (zN "lanes" (.int L) [("lengths",.ref aL),("starts",.ref D),("cells",.ref aC)])) 2 rfl;generalize upd _ x (.ins c.bn dx (zN "lanes" (.int L) [("lengths",.ref aL),("starts",.ref D),("cells",.ref aC)]))=H at h ⊢;replace h:Hd B ([(aL,.lst (lens.map V.int)),(D,.lst ((zl lens).map V.int)),(x,.ins c.bn dx [("lengths",.ref aL),("starts",.ref D),("cells",.ref aC),("lanes",.int L)]),(aC,.lst (cells.map V.int))]) H:=h;refine ⟨_,rfl,fun bx dbx nbx ndbx nebx=>?_⟩;refine ⟨bx,dbx,L,rfl,zh,by omega,by omega,fun H1 aN k nN ebx eN=>⟨rfl,?_⟩⟩;have h:=(h.made nbx ndbx nebx k nN ebx eN).sub (.cons₂ _ (.cons₂ _ (.cons _ (List.Sublist.refl _))));have e8:(8*(L:Int)).toNat=8*L:=by omega
 rw [e8] at h;clear k nN ebx eN;generalize H1=H at h ⊢;replace h:=h.perm (List.Perm.swap _ _ _);replace h:Hd B ([(aN,.lst ((List.replicate (8*L) (0:Int)).map V.int)),(aL,.lst (lens.map V.int)),(D,.lst ((zl lens).map V.int)),(bx,yS c.bx dbx L aN),(x,.ins c.bn dx [("lengths",.ref aL),("starts",.ref D),("cells",.ref aC),("lanes",.int L)]),(aC,.lst (cells.map V.int))]) H:=h.mv 3;replace h:Hd B ([(aL,.lst (lens.map V.int)),(D,.lst ((zl lens).map V.int)),(bx,yS c.bx dbx L aN),(x,.ins c.bn dx [("lengths",.ref aL),("starts",.ref D),("cells",.ref aC),("lanes",.int L)]),(aC,.lst (cells.map V.int)),(aN,.lst ((List.replicate (8*L) (0:Int)).map V.int))]) H:=h.mv 5;refine ⟨_,rfl,x,_,_,_,rfl,h.get 3 rfl,CN.c,CN.boxes,(by show 4<1000;decide),?_⟩;have h:=h.put (o':=.ins c.bn dx (zN "boxes" (.ref bx) [("lengths",.ref aL),("starts",.ref D),("cells",.ref aC),("lanes",.int L)])) 3 rfl;generalize upd _ x (.ins c.bn dx (zN "boxes" (.ref bx) [("lengths",.ref aL),("starts",.ref D),("cells",.ref aC),("lanes",.int L)]))=H at h ⊢;replace h:Hd B ([(aL,.lst (lens.map V.int)),(D,.lst ((zl lens).map V.int)),(bx,yS c.bx dbx L aN),(x,.ins c.bn dx [("lengths",.ref aL),("starts",.ref D),("cells",.ref aC),("lanes",.int L),("boxes",.ref bx)]),(aC,.lst (cells.map V.int)),(aN,.lst ((List.replicate (8*L) (0:Int)).map V.int))]) H:=h;have e4:(4*(L:Int)).toNat=4*L:=by omega
 refine ⟨_,rfl,(by decide),(by decide),_,rfl,fun aM nM=>?_⟩;have h0:Hd H ((aM,.lst (([]:List Addr).map V.ref))::([]:List Addr).map fun a=>(a,HO.lst ((List.replicate (4*L) false).map V.bl))) (upd H aM (.lst [])):=Hd.base.new nM;generalize upd H aM (.lst [])=H3 at h0 ⊢;refine Zs (n:=16) (fun i σ J=>∃ u ms,ms.length=i/\σ=[u,some (.int L)]/\Hd H ((aM,.lst (ms.map V.ref))::ms.map fun a=>(a,HO.lst ((List.replicate (4*L) false).map V.bl))) J) ⟨none,[],rfl,rfl,h0⟩ ?_ ?_
 ·clear h0
  rintro i σ J hi ⟨u,ms,lm,rfl,h⟩;refine ⟨(by show 1<=sizeLine;decide),fun t nt=>⟨_,rfl,_,_,rfl,rfl,.inl ⟨by decide,by decide⟩,t,_,_,rfl,rfl,zh,by omega,by omega,?_,fun l nl=>?_⟩⟩
  ·show 1*(4*(L:Int)).toNat<=sizeLine
   omega
  have h:=((h.waste (o:=.lst [.bl false]) nt).fnew (o:=.lst (List.replicate (4*(L:Int)).toNat [V.bl false]).flatten) nl);generalize upd _ l _=J2 at h ⊢;refine ⟨_,h.get 0 rfl,(by rw [List.length_map];omega),_,ms++[l],(by rw [List.length_append,lm];rfl),rfl,?_⟩;have h:=h.fput (o':=.lst ((ms++[l]).map V.ref))
  have e:(List.replicate (4*(L:Int)).toNat [V.bl false]).flatten=(List.replicate (4*L) false).map V.bl:=by
   rw [e4];generalize 4*L=n
   induction n with
   | zero=>rfl
   | succ n ih=>rw [List.replicate_succ,List.flatten_cons,ih,List.replicate_succ];rfl
  rw [e] at h;rw [List.map_append] at h ⊢;rw [List.map_append];exact h.perm (List.Perm.cons _ (List.perm_append_comm (l₁:=[_])))
 rintro σ H ⟨u,ms,lm,rfl,hD⟩;have hM:=hD.tl;have h:=h.join hD;clear hD h0 nM;generalize hMS:(ms.map fun a=>(a,HO.lst ((List.replicate (4*L) false).map V.bl)))=MS at h;replace h:=h.perm List.perm_middle;replace h:Hd B ((aL,.lst (lens.map V.int))::(D,.lst ((zl lens).map V.int))::(aM,.lst (ms.map V.ref))::(bx,yS c.bx dbx L aN)::(x,.ins c.bn dx [("lengths",.ref aL),("starts",.ref D),("cells",.ref aC),("lanes",.int L),("boxes",.ref bx)])::(aC,.lst (cells.map V.int))::(aN,.lst ((List.replicate (8*L) (0:Int)).map V.int))::MS) H:=h.mv 2;refine ⟨_,rfl,x,_,_,_,rfl,h.get 4 rfl,CN.c,CN.masks,(by show 5<1000;decide),?_⟩;have h:=h.put (o':=.ins c.bn dx (zN "masks" (.ref aM) [("lengths",.ref aL),("starts",.ref D),("cells",.ref aC),("lanes",.int L),("boxes",.ref bx)])) 4 rfl;generalize upd _ x (.ins c.bn dx (zN "masks" (.ref aM) [("lengths",.ref aL),("starts",.ref D),("cells",.ref aC),("lanes",.int L),("boxes",.ref bx)]))=H at h ⊢;replace h:Hd B ((aL,.lst (lens.map V.int))::(D,.lst ((zl lens).map V.int))::(aM,.lst (ms.map V.ref))::(bx,yS c.bx dbx L aN)::(x,.ins c.bn dx [("lengths",.ref aL),("starts",.ref D),("cells",.ref aC),("lanes",.int L),("boxes",.ref bx),("masks",.ref aM)])::(aC,.lst (cells.map V.int))::(aN,.lst ((List.replicate (8*L) (0:Int)).map V.int))::MS) H:=h;refine fun aSl nSl=>?_;have h:=h.new (o:=.dK []) nSl;generalize upd H aSl (.dK [])=H at h ⊢;replace h:Hd B ((aL,.lst (lens.map V.int))::(D,.lst ((zl lens).map V.int))::(aM,.lst (ms.map V.ref))::(bx,yS c.bx dbx L aN)::(x,.ins c.bn dx [("lengths",.ref aL),("starts",.ref D),("cells",.ref aC),("lanes",.int L),("boxes",.ref bx),("masks",.ref aM)])::(aC,.lst (cells.map V.int))::(aN,.lst ((List.replicate (8*L) (0:Int)).map V.int))::(aSl,.dK [])::MS) H:=h.mv 7;refine ⟨_,rfl,x,_,_,_,rfl,h.get 4 rfl,CN.c,CN.slots,(by show 6<1000;decide),?_⟩;have h:=h.put (o':=.ins c.bn dx (zN "slots" (.ref aSl) [("lengths",.ref aL),("starts",.ref D),("cells",.ref aC),("lanes",.int L),("boxes",.ref bx),("masks",.ref aM)])) 4 rfl;generalize upd _ x (.ins c.bn dx (zN "slots" (.ref aSl) [("lengths",.ref aL),("starts",.ref D),("cells",.ref aC),("lanes",.int L),("boxes",.ref bx),("masks",.ref aM)]))=H at h ⊢;replace h:Hd B ((aL,.lst (lens.map V.int))::(D,.lst ((zl lens).map V.int))::(aM,.lst (ms.map V.ref))::(bx,yS c.bx dbx L aN)::(x,.ins c.bn dx [("lengths",.ref aL),("starts",.ref D),("cells",.ref aC),("lanes",.int L),("boxes",.ref bx),("masks",.ref aM),("slots",.ref aSl)])::(aC,.lst (cells.map V.int))::(aN,.lst ((List.replicate (8*L) (0:Int)).map V.int))::(aSl,.dK [])::MS) H:=h;refine ⟨_,rfl,fun fd dfd n1 n2 n3=>?_⟩;refine ⟨fd,dfd,l3,dust,rfl,zh,zE (h.sql q3) (((zo (Same.refl _) n2)).trans (zo (Same.refl _) (by rw [zm (Ne.symm n3)];exact n1))),fun H1 aD k n4 e1 e2=>⟨rfl,?_⟩⟩;have h:=(h.made n1 n2 n3 k n4 e1 e2).sub (.cons₂ _ (.cons₂ _ (.cons _ (List.Sublist.refl _))));clear k n4 e1 e2;generalize H1=H at h ⊢;replace h:Hd B ((fd,zO c.fe dfd aD 0)::(aL,.lst (lens.map V.int))::(D,.lst ((zl lens).map V.int))::(aM,.lst (ms.map V.ref))::(bx,yS c.bx dbx L aN)::(aD,.lst (dust.map V.int))::(x,.ins c.bn dx [("lengths",.ref aL),("starts",.ref D),("cells",.ref aC),("lanes",.int L),("boxes",.ref bx),("masks",.ref aM),("slots",.ref aSl)])::(aC,.lst (cells.map V.int))::(aN,.lst ((List.replicate (8*L) (0:Int)).map V.int))::(aSl,.dK [])::MS) H:=h.mv 5;replace h:Hd B ((aL,.lst (lens.map V.int))::(D,.lst ((zl lens).map V.int))::(aM,.lst (ms.map V.ref))::(bx,yS c.bx dbx L aN)::(aD,.lst (dust.map V.int))::(x,.ins c.bn dx [("lengths",.ref aL),("starts",.ref D),("cells",.ref aC),("lanes",.int L),("boxes",.ref bx),("masks",.ref aM),("slots",.ref aSl)])::(aC,.lst (cells.map V.int))::(aN,.lst ((List.replicate (8*L) (0:Int)).map V.int))::(aSl,.dK [])::(fd,zO c.fe dfd aD 0)::MS) H:=h.mv 9;refine ⟨_,rfl,x,_,_,_,rfl,h.get 5 rfl,CN.c,CN.dust,(by show 7<1000;decide),?_⟩;have h:=h.put (o':=.ins c.bn dx (zN "dust" (.ref fd) [("lengths",.ref aL),("starts",.ref D),("cells",.ref aC),("lanes",.int L),("boxes",.ref bx),("masks",.ref aM),("slots",.ref aSl)])) 5 rfl;generalize upd _ x (.ins c.bn dx (zN "dust" (.ref fd) [("lengths",.ref aL),("starts",.ref D),("cells",.ref aC),("lanes",.int L),("boxes",.ref bx),("masks",.ref aM),("slots",.ref aSl)]))=H at h ⊢;replace h:Hd B ((aL,.lst (lens.map V.int))::(D,.lst ((zl lens).map V.int))::(aM,.lst (ms.map V.ref))::(bx,yS c.bx dbx L aN)::(aD,.lst (dust.map V.int))::(x,.ins c.bn dx [("lengths",.ref aL),("starts",.ref D),("cells",.ref aC),("lanes",.int L),("boxes",.ref bx),("masks",.ref aM),("slots",.ref aSl),("dust",.ref fd)])::(aC,.lst (cells.map V.int))::(aN,.lst ((List.replicate (8*L) (0:Int)).map V.int))::(aSl,.dK [])::(fd,zO c.fe dfd aD 0)::MS) H:=h;refine ⟨_,rfl,fun fp dfp n1 n2 n3=>?_⟩;refine ⟨fp,dfp,l4,picks,rfl,zh,zE (h.sql q4) (((zo (Same.refl _) n2)).trans (zo (Same.refl _) (by rw [zm (Ne.symm n3)];exact n1))),fun H1 aP k n4 e1 e2=>⟨rfl,?_⟩⟩;have h:=(h.made n1 n2 n3 k n4 e1 e2).sub (.cons₂ _ (.cons₂ _ (.cons _ (List.Sublist.refl _))));clear k n4 e1 e2;generalize H1=H at h ⊢;replace h:Hd B ((fp,zO c.fe dfp aP 0)::(aL,.lst (lens.map V.int))::(D,.lst ((zl lens).map V.int))::(aM,.lst (ms.map V.ref))::(bx,yS c.bx dbx L aN)::(aD,.lst (dust.map V.int))::(aP,.lst (picks.map V.int))::(x,.ins c.bn dx [("lengths",.ref aL),("starts",.ref D),("cells",.ref aC),("lanes",.int L),("boxes",.ref bx),("masks",.ref aM),("slots",.ref aSl),("dust",.ref fd)])::(aC,.lst (cells.map V.int))::(aN,.lst ((List.replicate (8*L) (0:Int)).map V.int))::(aSl,.dK [])::(fd,zO c.fe dfd aD 0)::MS) H:=h.mv 6;replace h:Hd B ((aL,.lst (lens.map V.int))::(D,.lst ((zl lens).map V.int))::(aM,.lst (ms.map V.ref))::(bx,yS c.bx dbx L aN)::(aD,.lst (dust.map V.int))::(aP,.lst (picks.map V.int))::(x,.ins c.bn dx [("lengths",.ref aL),("starts",.ref D),("cells",.ref aC),("lanes",.int L),("boxes",.ref bx),("masks",.ref aM),("slots",.ref aSl),("dust",.ref fd)])::(aC,.lst (cells.map V.int))::(aN,.lst ((List.replicate (8*L) (0:Int)).map V.int))::(aSl,.dK [])::(fd,zO c.fe dfd aD 0)::(fp,zO c.fe dfp aP 0)::MS) H:=h.mv 11;refine ⟨_,rfl,x,_,_,_,rfl,h.get 6 rfl,CN.c,CN.picks,(by show 8<1000;decide),?_⟩;have h:=h.put (o':=.ins c.bn dx (zN "picks" (.ref fp) [("lengths",.ref aL),("starts",.ref D),("cells",.ref aC),("lanes",.int L),("boxes",.ref bx),("masks",.ref aM),("slots",.ref aSl),("dust",.ref fd)])) 6 rfl;generalize upd _ x (.ins c.bn dx (zN "picks" (.ref fp) [("lengths",.ref aL),("starts",.ref D),("cells",.ref aC),("lanes",.int L),("boxes",.ref bx),("masks",.ref aM),("slots",.ref aSl),("dust",.ref fd)]))=H at h ⊢;replace h:Hd B ((aL,.lst (lens.map V.int))::(D,.lst ((zl lens).map V.int))::(aM,.lst (ms.map V.ref))::(bx,yS c.bx dbx L aN)::(aD,.lst (dust.map V.int))::(aP,.lst (picks.map V.int))::(x,.ins c.bn dx [("lengths",.ref aL),("starts",.ref D),("cells",.ref aC),("lanes",.int L),("boxes",.ref bx),("masks",.ref aM),("slots",.ref aSl),("dust",.ref fd),("picks",.ref fp)])::(aC,.lst (cells.map V.int))::(aN,.lst ((List.replicate (8*L) (0:Int)).map V.int))::(aSl,.dK [])::(fd,zO c.fe dfd aD 0)::(fp,zO c.fe dfp aP 0)::MS) H:=h;refine ⟨(by show 0<=sizeLine;exact Nat.zero_le _),fun aT nT=>?_⟩;have h:=h.new (o:=.lst []) nT;generalize upd H aT (.lst [])=H at h ⊢;replace h:Hd B ((aL,.lst (lens.map V.int))::(D,.lst ((zl lens).map V.int))::(aM,.lst (ms.map V.ref))::(bx,yS c.bx dbx L aN)::(aD,.lst (dust.map V.int))::(aP,.lst (picks.map V.int))::(x,.ins c.bn dx [("lengths",.ref aL),("starts",.ref D),("cells",.ref aC),("lanes",.int L),("boxes",.ref bx),("masks",.ref aM),("slots",.ref aSl),("dust",.ref fd),("picks",.ref fp)])::(aC,.lst (cells.map V.int))::(aN,.lst ((List.replicate (8*L) (0:Int)).map V.int))::(aSl,.dK [])::(fd,zO c.fe dfd aD 0)::(fp,zO c.fe dfp aP 0)::(aT,.lst [])::MS) H:=h.mv 12;refine ⟨_,rfl,x,_,_,_,rfl,h.get 6 rfl,CN.c,CN.touches,(by show 9<1000;decide),?_⟩;have h:=h.put (o':=.ins c.bn dx (zN "touches" (.ref aT) [("lengths",.ref aL),("starts",.ref D),("cells",.ref aC),("lanes",.int L),("boxes",.ref bx),("masks",.ref aM),("slots",.ref aSl),("dust",.ref fd),("picks",.ref fp)])) 6 rfl;generalize upd _ x (.ins c.bn dx (zN "touches" (.ref aT) [("lengths",.ref aL),("starts",.ref D),("cells",.ref aC),("lanes",.int L),("boxes",.ref bx),("masks",.ref aM),("slots",.ref aSl),("dust",.ref fd),("picks",.ref fp)]))=H at h ⊢;replace h:Hd B ((aL,.lst (lens.map V.int))::(D,.lst ((zl lens).map V.int))::(aM,.lst (ms.map V.ref))::(bx,yS c.bx dbx L aN)::(aD,.lst (dust.map V.int))::(aP,.lst (picks.map V.int))::(x,.ins c.bn dx [("lengths",.ref aL),("starts",.ref D),("cells",.ref aC),("lanes",.int L),("boxes",.ref bx),("masks",.ref aM),("slots",.ref aSl),("dust",.ref fd),("picks",.ref fp),("touches",.ref aT)])::(aC,.lst (cells.map V.int))::(aN,.lst ((List.replicate (8*L) (0:Int)).map V.int))::(aSl,.dK [])::(fd,zO c.fe dfd aD 0)::(fp,zO c.fe dfp aP 0)::(aT,.lst [])::MS) H:=h;refine ⟨_,rfl,x,_,_,_,rfl,h.get 6 rfl,CN.c,CN.pc,(by show 10<1000;decide),?_⟩;have h:=h.put (o':=.ins c.bn dx (zN "at" (.int 0) [("lengths",.ref aL),("starts",.ref D),("cells",.ref aC),("lanes",.int L),("boxes",.ref bx),("masks",.ref aM),("slots",.ref aSl),("dust",.ref fd),("picks",.ref fp),("touches",.ref aT)])) 6 rfl;generalize upd _ x (.ins c.bn dx (zN "at" (.int 0) [("lengths",.ref aL),("starts",.ref D),("cells",.ref aC),("lanes",.int L),("boxes",.ref bx),("masks",.ref aM),("slots",.ref aSl),("dust",.ref fd),("picks",.ref fp),("touches",.ref aT)]))=H at h ⊢;replace h:Hd B ((aL,.lst (lens.map V.int))::(D,.lst ((zl lens).map V.int))::(aM,.lst (ms.map V.ref))::(bx,yS c.bx dbx L aN)::(aD,.lst (dust.map V.int))::(aP,.lst (picks.map V.int))::(x,.ins c.bn dx [("lengths",.ref aL),("starts",.ref D),("cells",.ref aC),("lanes",.int L),("boxes",.ref bx),("masks",.ref aM),("slots",.ref aSl),("dust",.ref fd),("picks",.ref fp),("touches",.ref aT),("at",.int 0)])::(aC,.lst (cells.map V.int))::(aN,.lst ((List.replicate (8*L) (0:Int)).map V.int))::(aSl,.dK [])::(fd,zO c.fe dfd aD 0)::(fp,zO c.fe dfp aP 0)::(aT,.lst [])::MS) H:=h;refine ⟨_,rfl,x,_,_,_,rfl,h.get 6 rfl,CN.c,CN.opened,(by show 11<1000;decide),?_⟩;have h:=h.put (o':=.ins c.bn dx (zN "opened" (.int 0) [("lengths",.ref aL),("starts",.ref D),("cells",.ref aC),("lanes",.int L),("boxes",.ref bx),("masks",.ref aM),("slots",.ref aSl),("dust",.ref fd),("picks",.ref fp),("touches",.ref aT),("at",.int 0)])) 6 rfl;generalize upd _ x (.ins c.bn dx (zN "opened" (.int 0) [("lengths",.ref aL),("starts",.ref D),("cells",.ref aC),("lanes",.int L),("boxes",.ref bx),("masks",.ref aM),("slots",.ref aSl),("dust",.ref fd),("picks",.ref fp),("touches",.ref aT),("at",.int 0)]))=H at h ⊢;replace h:Hd B ((aL,.lst (lens.map V.int))::(D,.lst ((zl lens).map V.int))::(aM,.lst (ms.map V.ref))::(bx,yS c.bx dbx L aN)::(aD,.lst (dust.map V.int))::(aP,.lst (picks.map V.int))::(x,.ins c.bn dx [("lengths",.ref aL),("starts",.ref D),("cells",.ref aC),("lanes",.int L),("boxes",.ref bx),("masks",.ref aM),("slots",.ref aSl),("dust",.ref fd),("picks",.ref fp),("touches",.ref aT),("at",.int 0),("opened",.int 0)])::(aC,.lst (cells.map V.int))::(aN,.lst ((List.replicate (8*L) (0:Int)).map V.int))::(aSl,.dK [])::(fd,zO c.fe dfd aD 0)::(fp,zO c.fe dfp aP 0)::(aT,.lst [])::MS) H:=h;refine ⟨_,rfl,x,_,_,_,rfl,h.get 6 rfl,CN.c,CN.many,(by show 12<1000;decide),?_⟩;have h:=h.put (o':=.ins c.bn dx (zN "many" (.int 0) [("lengths",.ref aL),("starts",.ref D),("cells",.ref aC),("lanes",.int L),("boxes",.ref bx),("masks",.ref aM),("slots",.ref aSl),("dust",.ref fd),("picks",.ref fp),("touches",.ref aT),("at",.int 0),("opened",.int 0)])) 6 rfl;generalize upd _ x (.ins c.bn dx (zN "many" (.int 0) [("lengths",.ref aL),("starts",.ref D),("cells",.ref aC),("lanes",.int L),("boxes",.ref bx),("masks",.ref aM),("slots",.ref aSl),("dust",.ref fd),("picks",.ref fp),("touches",.ref aT),("at",.int 0),("opened",.int 0)]))=H at h ⊢;replace h:Hd B ((aL,.lst (lens.map V.int))::(D,.lst ((zl lens).map V.int))::(aM,.lst (ms.map V.ref))::(bx,yS c.bx dbx L aN)::(aD,.lst (dust.map V.int))::(aP,.lst (picks.map V.int))::(x,.ins c.bn dx [("lengths",.ref aL),("starts",.ref D),("cells",.ref aC),("lanes",.int L),("boxes",.ref bx),("masks",.ref aM),("slots",.ref aSl),("dust",.ref fd),("picks",.ref fp),("touches",.ref aT),("at",.int 0),("opened",.int 0),("many",.int 0)])::(aC,.lst (cells.map V.int))::(aN,.lst ((List.replicate (8*L) (0:Int)).map V.int))::(aSl,.dK [])::(fd,zO c.fe dfd aD 0)::(fp,zO c.fe dfp aP 0)::(aT,.lst [])::MS) H:=h;refine ⟨_,rfl,x,_,_,_,rfl,h.get 6 rfl,CN.c,CN.group,(by show 13<1000;decide),?_⟩;have h:=h.put (o':=.ins c.bn dx (zN "group" (.int 1) [("lengths",.ref aL),("starts",.ref D),("cells",.ref aC),("lanes",.int L),("boxes",.ref bx),("masks",.ref aM),("slots",.ref aSl),("dust",.ref fd),("picks",.ref fp),("touches",.ref aT),("at",.int 0),("opened",.int 0),("many",.int 0)])) 6 rfl;generalize upd _ x (.ins c.bn dx (zN "group" (.int 1) [("lengths",.ref aL),("starts",.ref D),("cells",.ref aC),("lanes",.int L),("boxes",.ref bx),("masks",.ref aM),("slots",.ref aSl),("dust",.ref fd),("picks",.ref fp),("touches",.ref aT),("at",.int 0),("opened",.int 0),("many",.int 0)]))=H at h ⊢;replace h:Hd B ((aL,.lst (lens.map V.int))::(D,.lst ((zl lens).map V.int))::(aM,.lst (ms.map V.ref))::(bx,yS c.bx dbx L aN)::(aD,.lst (dust.map V.int))::(aP,.lst (picks.map V.int))::(x,.ins c.bn dx [("lengths",.ref aL),("starts",.ref D),("cells",.ref aC),("lanes",.int L),("boxes",.ref bx),("masks",.ref aM),("slots",.ref aSl),("dust",.ref fd),("picks",.ref fp),("touches",.ref aT),("at",.int 0),("opened",.int 0),("many",.int 0),("group",.int 1)])::(aC,.lst (cells.map V.int))::(aN,.lst ((List.replicate (8*L) (0:Int)).map V.int))::(aSl,.dK [])::(fd,zO c.fe dfd aD 0)::(fp,zO c.fe dfp aP 0)::(aT,.lst [])::MS) H:=h;refine ⟨_,rfl,x,_,_,_,rfl,h.get 6 rfl,CN.c,CN.base,(by show 14<1000;decide),?_⟩;have h:=h.put (o':=.ins c.bn dx (zN "base" (.int 0) [("lengths",.ref aL),("starts",.ref D),("cells",.ref aC),("lanes",.int L),("boxes",.ref bx),("masks",.ref aM),("slots",.ref aSl),("dust",.ref fd),("picks",.ref fp),("touches",.ref aT),("at",.int 0),("opened",.int 0),("many",.int 0),("group",.int 1)])) 6 rfl;generalize upd _ x (.ins c.bn dx (zN "base" (.int 0) [("lengths",.ref aL),("starts",.ref D),("cells",.ref aC),("lanes",.int L),("boxes",.ref bx),("masks",.ref aM),("slots",.ref aSl),("dust",.ref fd),("picks",.ref fp),("touches",.ref aT),("at",.int 0),("opened",.int 0),("many",.int 0),("group",.int 1)]))=H at h ⊢;replace h:Hd B ((aL,.lst (lens.map V.int))::(D,.lst ((zl lens).map V.int))::(aM,.lst (ms.map V.ref))::(bx,yS c.bx dbx L aN)::(aD,.lst (dust.map V.int))::(aP,.lst (picks.map V.int))::(x,.ins c.bn dx [("lengths",.ref aL),("starts",.ref D),("cells",.ref aC),("lanes",.int L),("boxes",.ref bx),("masks",.ref aM),("slots",.ref aSl),("dust",.ref fd),("picks",.ref fp),("touches",.ref aT),("at",.int 0),("opened",.int 0),("many",.int 0),("group",.int 1),("base",.int 0)])::(aC,.lst (cells.map V.int))::(aN,.lst ((List.replicate (8*L) (0:Int)).map V.int))::(aSl,.dK [])::(fd,zO c.fe dfd aD 0)::(fp,zO c.fe dfp aP 0)::(aT,.lst [])::MS) H:=h;refine ⟨_,rfl,x,_,_,_,rfl,h.get 6 rfl,CN.c,CN.begun,(by show 15<1000;decide),?_⟩;have h:=h.put (o':=.ins c.bn dx (zN "begun" (.int 0) [("lengths",.ref aL),("starts",.ref D),("cells",.ref aC),("lanes",.int L),("boxes",.ref bx),("masks",.ref aM),("slots",.ref aSl),("dust",.ref fd),("picks",.ref fp),("touches",.ref aT),("at",.int 0),("opened",.int 0),("many",.int 0),("group",.int 1),("base",.int 0)])) 6 rfl;generalize upd _ x (.ins c.bn dx (zN "begun" (.int 0) [("lengths",.ref aL),("starts",.ref D),("cells",.ref aC),("lanes",.int L),("boxes",.ref bx),("masks",.ref aM),("slots",.ref aSl),("dust",.ref fd),("picks",.ref fp),("touches",.ref aT),("at",.int 0),("opened",.int 0),("many",.int 0),("group",.int 1),("base",.int 0)]))=H at h ⊢;replace h:Hd B ((aL,.lst (lens.map V.int))::(D,.lst ((zl lens).map V.int))::(aM,.lst (ms.map V.ref))::(bx,yS c.bx dbx L aN)::(aD,.lst (dust.map V.int))::(aP,.lst (picks.map V.int))::(x,.ins c.bn dx [("lengths",.ref aL),("starts",.ref D),("cells",.ref aC),("lanes",.int L),("boxes",.ref bx),("masks",.ref aM),("slots",.ref aSl),("dust",.ref fd),("picks",.ref fp),("touches",.ref aT),("at",.int 0),("opened",.int 0),("many",.int 0),("group",.int 1),("base",.int 0),("begun",.int 0)])::(aC,.lst (cells.map V.int))::(aN,.lst ((List.replicate (8*L) (0:Int)).map V.int))::(aSl,.dK [])::(fd,zO c.fe dfd aD 0)::(fp,zO c.fe dfp aP 0)::(aT,.lst [])::MS) H:=h;refine ⟨_,rfl,x,_,_,_,rfl,h.get 6 rfl,CN.c,CN.width,(by show 16<1000;decide),?_⟩;have h:=h.put (o':=.ins c.bn dx (zN "width" (.int 0) [("lengths",.ref aL),("starts",.ref D),("cells",.ref aC),("lanes",.int L),("boxes",.ref bx),("masks",.ref aM),("slots",.ref aSl),("dust",.ref fd),("picks",.ref fp),("touches",.ref aT),("at",.int 0),("opened",.int 0),("many",.int 0),("group",.int 1),("base",.int 0),("begun",.int 0)])) 6 rfl;generalize upd _ x (.ins c.bn dx (zN "width" (.int 0) [("lengths",.ref aL),("starts",.ref D),("cells",.ref aC),("lanes",.int L),("boxes",.ref bx),("masks",.ref aM),("slots",.ref aSl),("dust",.ref fd),("picks",.ref fp),("touches",.ref aT),("at",.int 0),("opened",.int 0),("many",.int 0),("group",.int 1),("base",.int 0),("begun",.int 0)]))=H at h ⊢;replace h:Hd B ((aL,.lst (lens.map V.int))::(D,.lst ((zl lens).map V.int))::(aM,.lst (ms.map V.ref))::(bx,yS c.bx dbx L aN)::(aD,.lst (dust.map V.int))::(aP,.lst (picks.map V.int))::(x,.ins c.bn dx [("lengths",.ref aL),("starts",.ref D),("cells",.ref aC),("lanes",.int L),("boxes",.ref bx),("masks",.ref aM),("slots",.ref aSl),("dust",.ref fd),("picks",.ref fp),("touches",.ref aT),("at",.int 0),("opened",.int 0),("many",.int 0),("group",.int 1),("base",.int 0),("begun",.int 0),("width",.int 0)])::(aC,.lst (cells.map V.int))::(aN,.lst ((List.replicate (8*L) (0:Int)).map V.int))::(aSl,.dK [])::(fd,zO c.fe dfd aD 0)::(fp,zO c.fe dfp aP 0)::(aT,.lst [])::MS) H:=h;refine fun aF nF=>?_;have h:=h.new (o:=.dK []) nF;generalize upd H aF (.dK [])=H at h ⊢;replace h:Hd B ((aL,.lst (lens.map V.int))::(D,.lst ((zl lens).map V.int))::(aM,.lst (ms.map V.ref))::(bx,yS c.bx dbx L aN)::(aD,.lst (dust.map V.int))::(aP,.lst (picks.map V.int))::(x,.ins c.bn dx [("lengths",.ref aL),("starts",.ref D),("cells",.ref aC),("lanes",.int L),("boxes",.ref bx),("masks",.ref aM),("slots",.ref aSl),("dust",.ref fd),("picks",.ref fp),("touches",.ref aT),("at",.int 0),("opened",.int 0),("many",.int 0),("group",.int 1),("base",.int 0),("begun",.int 0),("width",.int 0)])::(aC,.lst (cells.map V.int))::(aN,.lst ((List.replicate (8*L) (0:Int)).map V.int))::(aSl,.dK [])::(fd,zO c.fe dfd aD 0)::(fp,zO c.fe dfp aP 0)::(aT,.lst [])::(aF,.dK [])::MS) H:=h.mv 13;refine ⟨_,rfl,x,_,_,_,rfl,h.get 6 rfl,CN.c,CN.faults,(by show 17<1000;decide),?_⟩;have h:=h.put (o':=.ins c.bn dx (zN "faults" (.ref aF) [("lengths",.ref aL),("starts",.ref D),("cells",.ref aC),("lanes",.int L),("boxes",.ref bx),("masks",.ref aM),("slots",.ref aSl),("dust",.ref fd),("picks",.ref fp),("touches",.ref aT),("at",.int 0),("opened",.int 0),("many",.int 0),("group",.int 1),("base",.int 0),("begun",.int 0),("width",.int 0)])) 6 rfl;generalize upd _ x (.ins c.bn dx (zN "faults" (.ref aF) [("lengths",.ref aL),("starts",.ref D),("cells",.ref aC),("lanes",.int L),("boxes",.ref bx),("masks",.ref aM),("slots",.ref aSl),("dust",.ref fd),("picks",.ref fp),("touches",.ref aT),("at",.int 0),("opened",.int 0),("many",.int 0),("group",.int 1),("base",.int 0),("begun",.int 0),("width",.int 0)]))=H at h ⊢;replace h:Hd B ((aL,.lst (lens.map V.int))::(D,.lst ((zl lens).map V.int))::(aM,.lst (ms.map V.ref))::(bx,yS c.bx dbx L aN)::(aD,.lst (dust.map V.int))::(aP,.lst (picks.map V.int))::(x,.ins c.bn dx [("lengths",.ref aL),("starts",.ref D),("cells",.ref aC),("lanes",.int L),("boxes",.ref bx),("masks",.ref aM),("slots",.ref aSl),("dust",.ref fd),("picks",.ref fp),("touches",.ref aT),("at",.int 0),("opened",.int 0),("many",.int 0),("group",.int 1),("base",.int 0),("begun",.int 0),("width",.int 0),("faults",.ref aF)])::(aC,.lst (cells.map V.int))::(aN,.lst ((List.replicate (8*L) (0:Int)).map V.int))::(aSl,.dK [])::(fd,zO c.fe dfd aD 0)::(fp,zO c.fe dfp aP 0)::(aT,.lst [])::(aF,.dK [])::MS) H:=h;refine ⟨_,rfl,x,_,_,_,rfl,h.get 6 rfl,CN.c,CN.cut,(by show 18<1000;decide),?_⟩;have h:=h.put (o':=.ins c.bn dx (zN "cut" (.non) [("lengths",.ref aL),("starts",.ref D),("cells",.ref aC),("lanes",.int L),("boxes",.ref bx),("masks",.ref aM),("slots",.ref aSl),("dust",.ref fd),("picks",.ref fp),("touches",.ref aT),("at",.int 0),("opened",.int 0),("many",.int 0),("group",.int 1),("base",.int 0),("begun",.int 0),("width",.int 0),("faults",.ref aF)])) 6 rfl;generalize upd _ x (.ins c.bn dx (zN "cut" (.non) [("lengths",.ref aL),("starts",.ref D),("cells",.ref aC),("lanes",.int L),("boxes",.ref bx),("masks",.ref aM),("slots",.ref aSl),("dust",.ref fd),("picks",.ref fp),("touches",.ref aT),("at",.int 0),("opened",.int 0),("many",.int 0),("group",.int 1),("base",.int 0),("begun",.int 0),("width",.int 0),("faults",.ref aF)]))=H at h ⊢;replace h:Hd B ((aL,.lst (lens.map V.int))::(D,.lst ((zl lens).map V.int))::(aM,.lst (ms.map V.ref))::(bx,yS c.bx dbx L aN)::(aD,.lst (dust.map V.int))::(aP,.lst (picks.map V.int))::(x,.ins c.bn dx [("lengths",.ref aL),("starts",.ref D),("cells",.ref aC),("lanes",.int L),("boxes",.ref bx),("masks",.ref aM),("slots",.ref aSl),("dust",.ref fd),("picks",.ref fp),("touches",.ref aT),("at",.int 0),("opened",.int 0),("many",.int 0),("group",.int 1),("base",.int 0),("begun",.int 0),("width",.int 0),("faults",.ref aF),("cut",.non)])::(aC,.lst (cells.map V.int))::(aN,.lst ((List.replicate (8*L) (0:Int)).map V.int))::(aSl,.dK [])::(fd,zO c.fe dfd aD 0)::(fp,zO c.fe dfp aP 0)::(aT,.lst [])::(aF,.dK [])::MS) H:=h;refine ⟨_,rfl,x,_,_,_,rfl,h.get 6 rfl,CN.c,CN.carried,(by show 19<1000;decide),?_⟩;have h:=h.put (o':=.ins c.bn dx (zN "carried" (.non) [("lengths",.ref aL),("starts",.ref D),("cells",.ref aC),("lanes",.int L),("boxes",.ref bx),("masks",.ref aM),("slots",.ref aSl),("dust",.ref fd),("picks",.ref fp),("touches",.ref aT),("at",.int 0),("opened",.int 0),("many",.int 0),("group",.int 1),("base",.int 0),("begun",.int 0),("width",.int 0),("faults",.ref aF),("cut",.non)])) 6 rfl;generalize upd _ x (.ins c.bn dx (zN "carried" (.non) [("lengths",.ref aL),("starts",.ref D),("cells",.ref aC),("lanes",.int L),("boxes",.ref bx),("masks",.ref aM),("slots",.ref aSl),("dust",.ref fd),("picks",.ref fp),("touches",.ref aT),("at",.int 0),("opened",.int 0),("many",.int 0),("group",.int 1),("base",.int 0),("begun",.int 0),("width",.int 0),("faults",.ref aF),("cut",.non)]))=H at h ⊢;replace h:Hd B ((aL,.lst (lens.map V.int))::(D,.lst ((zl lens).map V.int))::(aM,.lst (ms.map V.ref))::(bx,yS c.bx dbx L aN)::(aD,.lst (dust.map V.int))::(aP,.lst (picks.map V.int))::(x,.ins c.bn dx [("lengths",.ref aL),("starts",.ref D),("cells",.ref aC),("lanes",.int L),("boxes",.ref bx),("masks",.ref aM),("slots",.ref aSl),("dust",.ref fd),("picks",.ref fp),("touches",.ref aT),("at",.int 0),("opened",.int 0),("many",.int 0),("group",.int 1),("base",.int 0),("begun",.int 0),("width",.int 0),("faults",.ref aF),("cut",.non),("carried",.non)])::(aC,.lst (cells.map V.int))::(aN,.lst ((List.replicate (8*L) (0:Int)).map V.int))::(aSl,.dK [])::(fd,zO c.fe dfd aD 0)::(fp,zO c.fe dfp aP 0)::(aT,.lst [])::(aF,.dK [])::MS) H:=h;refine ⟨_,rfl,x,_,_,_,rfl,h.get 6 rfl,CN.c,CN.raised,(by show 20<1000;decide),?_⟩;have h:=h.put (o':=.ins c.bn dx (zN "raised" (.bl false) [("lengths",.ref aL),("starts",.ref D),("cells",.ref aC),("lanes",.int L),("boxes",.ref bx),("masks",.ref aM),("slots",.ref aSl),("dust",.ref fd),("picks",.ref fp),("touches",.ref aT),("at",.int 0),("opened",.int 0),("many",.int 0),("group",.int 1),("base",.int 0),("begun",.int 0),("width",.int 0),("faults",.ref aF),("cut",.non),("carried",.non)])) 6 rfl;generalize upd _ x (.ins c.bn dx (zN "raised" (.bl false) [("lengths",.ref aL),("starts",.ref D),("cells",.ref aC),("lanes",.int L),("boxes",.ref bx),("masks",.ref aM),("slots",.ref aSl),("dust",.ref fd),("picks",.ref fp),("touches",.ref aT),("at",.int 0),("opened",.int 0),("many",.int 0),("group",.int 1),("base",.int 0),("begun",.int 0),("width",.int 0),("faults",.ref aF),("cut",.non),("carried",.non)]))=H at h ⊢;replace h:Hd B ((aL,.lst (lens.map V.int))::(D,.lst ((zl lens).map V.int))::(aM,.lst (ms.map V.ref))::(bx,yS c.bx dbx L aN)::(aD,.lst (dust.map V.int))::(aP,.lst (picks.map V.int))::(x,.ins c.bn dx [("lengths",.ref aL),("starts",.ref D),("cells",.ref aC),("lanes",.int L),("boxes",.ref bx),("masks",.ref aM),("slots",.ref aSl),("dust",.ref fd),("picks",.ref fp),("touches",.ref aT),("at",.int 0),("opened",.int 0),("many",.int 0),("group",.int 1),("base",.int 0),("begun",.int 0),("width",.int 0),("faults",.ref aF),("cut",.non),("carried",.non),("raised",.bl false)])::(aC,.lst (cells.map V.int))::(aN,.lst ((List.replicate (8*L) (0:Int)).map V.int))::(aSl,.dK [])::(fd,zO c.fe dfd aD 0)::(fp,zO c.fe dfp aP 0)::(aT,.lst [])::(aF,.dK [])::MS) H:=h;refine ⟨(by show 0<=sizeLine;exact Nat.zero_le _),fun aU nU=>?_⟩;have h:=h.new (o:=.lst []) nU;generalize upd H aU (.lst [])=H at h ⊢;replace h:Hd B ((aL,.lst (lens.map V.int))::(D,.lst ((zl lens).map V.int))::(aM,.lst (ms.map V.ref))::(bx,yS c.bx dbx L aN)::(aD,.lst (dust.map V.int))::(aP,.lst (picks.map V.int))::(x,.ins c.bn dx [("lengths",.ref aL),("starts",.ref D),("cells",.ref aC),("lanes",.int L),("boxes",.ref bx),("masks",.ref aM),("slots",.ref aSl),("dust",.ref fd),("picks",.ref fp),("touches",.ref aT),("at",.int 0),("opened",.int 0),("many",.int 0),("group",.int 1),("base",.int 0),("begun",.int 0),("width",.int 0),("faults",.ref aF),("cut",.non),("carried",.non),("raised",.bl false)])::(aC,.lst (cells.map V.int))::(aN,.lst ((List.replicate (8*L) (0:Int)).map V.int))::(aSl,.dK [])::(fd,zO c.fe dfd aD 0)::(fp,zO c.fe dfp aP 0)::(aT,.lst [])::(aF,.dK [])::(aU,.lst [])::MS) H:=h.mv 14;refine ⟨_,rfl,x,_,_,_,rfl,h.get 6 rfl,CN.c,CN.turns,(by show 21<1000;decide),?_⟩;have h:=h.put (o':=.ins c.bn dx (zN "turns" (.ref aU) [("lengths",.ref aL),("starts",.ref D),("cells",.ref aC),("lanes",.int L),("boxes",.ref bx),("masks",.ref aM),("slots",.ref aSl),("dust",.ref fd),("picks",.ref fp),("touches",.ref aT),("at",.int 0),("opened",.int 0),("many",.int 0),("group",.int 1),("base",.int 0),("begun",.int 0),("width",.int 0),("faults",.ref aF),("cut",.non),("carried",.non),("raised",.bl false)])) 6 rfl;generalize upd _ x (.ins c.bn dx (zN "turns" (.ref aU) [("lengths",.ref aL),("starts",.ref D),("cells",.ref aC),("lanes",.int L),("boxes",.ref bx),("masks",.ref aM),("slots",.ref aSl),("dust",.ref fd),("picks",.ref fp),("touches",.ref aT),("at",.int 0),("opened",.int 0),("many",.int 0),("group",.int 1),("base",.int 0),("begun",.int 0),("width",.int 0),("faults",.ref aF),("cut",.non),("carried",.non),("raised",.bl false)]))=H at h ⊢;replace h:Hd B ((aL,.lst (lens.map V.int))::(D,.lst ((zl lens).map V.int))::(aM,.lst (ms.map V.ref))::(bx,yS c.bx dbx L aN)::(aD,.lst (dust.map V.int))::(aP,.lst (picks.map V.int))::(x,.ins c.bn dx [("lengths",.ref aL),("starts",.ref D),("cells",.ref aC),("lanes",.int L),("boxes",.ref bx),("masks",.ref aM),("slots",.ref aSl),("dust",.ref fd),("picks",.ref fp),("touches",.ref aT),("at",.int 0),("opened",.int 0),("many",.int 0),("group",.int 1),("base",.int 0),("begun",.int 0),("width",.int 0),("faults",.ref aF),("cut",.non),("carried",.non),("raised",.bl false),("turns",.ref aU)])::(aC,.lst (cells.map V.int))::(aN,.lst ((List.replicate (8*L) (0:Int)).map V.int))::(aSl,.dK [])::(fd,zO c.fe dfd aD 0)::(fp,zO c.fe dfp aP 0)::(aT,.lst [])::(aF,.dK [])::(aU,.lst [])::MS) H:=h;refine ⟨_,rfl,x,_,_,_,rfl,h.get 6 rfl,CN.c,CN.refusal,(by show 22<1000;decide),?_⟩;have h:=h.put (o':=.ins c.bn dx (zN "refusal" (.non) [("lengths",.ref aL),("starts",.ref D),("cells",.ref aC),("lanes",.int L),("boxes",.ref bx),("masks",.ref aM),("slots",.ref aSl),("dust",.ref fd),("picks",.ref fp),("touches",.ref aT),("at",.int 0),("opened",.int 0),("many",.int 0),("group",.int 1),("base",.int 0),("begun",.int 0),("width",.int 0),("faults",.ref aF),("cut",.non),("carried",.non),("raised",.bl false),("turns",.ref aU)])) 6 rfl;generalize upd _ x (.ins c.bn dx (zN "refusal" (.non) [("lengths",.ref aL),("starts",.ref D),("cells",.ref aC),("lanes",.int L),("boxes",.ref bx),("masks",.ref aM),("slots",.ref aSl),("dust",.ref fd),("picks",.ref fp),("touches",.ref aT),("at",.int 0),("opened",.int 0),("many",.int 0),("group",.int 1),("base",.int 0),("begun",.int 0),("width",.int 0),("faults",.ref aF),("cut",.non),("carried",.non),("raised",.bl false),("turns",.ref aU)]))=H at h ⊢;replace h:Hd B ((aL,.lst (lens.map V.int))::(D,.lst ((zl lens).map V.int))::(aM,.lst (ms.map V.ref))::(bx,yS c.bx dbx L aN)::(aD,.lst (dust.map V.int))::(aP,.lst (picks.map V.int))::(x,.ins c.bn dx [("lengths",.ref aL),("starts",.ref D),("cells",.ref aC),("lanes",.int L),("boxes",.ref bx),("masks",.ref aM),("slots",.ref aSl),("dust",.ref fd),("picks",.ref fp),("touches",.ref aT),("at",.int 0),("opened",.int 0),("many",.int 0),("group",.int 1),("base",.int 0),("begun",.int 0),("width",.int 0),("faults",.ref aF),("cut",.non),("carried",.non),("raised",.bl false),("turns",.ref aU),("refusal",.non)])::(aC,.lst (cells.map V.int))::(aN,.lst ((List.replicate (8*L) (0:Int)).map V.int))::(aSl,.dK [])::(fd,zO c.fe dfd aD 0)::(fp,zO c.fe dfp aP 0)::(aT,.lst [])::(aF,.dK [])::(aU,.lst [])::MS) H:=h;obtain ⟨B',sB,eB,h⟩:=Hd.settles (S:=[_,_,_,_,_,_]) h;refine q B' ⟨x,dx,aL,D,aC,bx,dbx,aN,aM,aSl,fd,dfd,aD,fp,dfp,aP,aT,aF,aU,ms,[],[],.non⟩ H sB rfl ⟨⟨eB _ (.head _),eB _ (.tail _ (.head _)),eB _ (.tail _ (.tail _ (.tail _ (.head _)))),eB _ (.tail _ (.tail _ (.head _))),?_,eB _ (.tail _ (.tail _ (.tail _ (.tail _ (.head _))))),eB _ (.tail _ (.tail _ (.tail _ (.tail _ (.tail _ (.head _)))))),rfl,(fun i t p a=>nomatch a),rfl,(fun i t p a=>nomatch a),rfl⟩,?_⟩
 ·show ms.length=(List.replicate 16 _).length
  rw [lm,List.length_replicate]
 ·unfold objs
  have e0:∀ ns:List Int,fAt ns 0=0:=fun ns=>by unfold fAt;rw [Nat.zero_mod];split <;> rfl
  have em:Zm ⟨x,dx,aL,D,aC,bx,dbx,aN,aM,aSl,fd,dfd,aD,fp,dfp,aP,aT,aF,aU,ms,[],[],.non⟩ (Mc.fresh lens cells L dust picks)=MS:=by
   rw [← hMS];show (ms.zip (List.replicate 16 _)).map _=_;rw [← lm];exact msk_fresh ms _
  rw [em,List.append_nil];show Hd B' (_::_::_::_::(fd,zO c.fe dfd aD (fAt dust 0))::(fp,zO c.fe dfp aP (fAt picks 0))::_::_::_::MS) H;rw [e0,e0];exact h
end
inductive Run (L:Lex) (code:List (List V)):Nat->Mc->Mc->Prop
 | done {M}:(code.length:Int)<=M.pc∨M.refusal.isSome=true->Run L code 0 M M
 | step {n M M1 Mf tv}:0<=M.pc->M.refusal=none->code[M.pc.toNat]?=some tv->Step L tv M M1->Run L code n M1 Mf->Run L code (n+1) M Mf
structure CodeAt (B:Hp) (cs:List Addr) (code:List (List V)):Prop where
 n:cs.length=code.length
 t:∀ (i:Nat) a tv,cs[i]?=some a->code[i]?=some tv->B a=some (.tup tv)
section
variable {P:Program} {w:World} {K:PySem.W.Frag} {mg:Str->Option Value} {base:Heap}
def spRan (c:MCs) (K:PySem.W.Frag) (Lx:Lex):Sp:=fun vs H Q _=>∃ (a l1 l2 l3 l4:Addr) (cs:List Addr) (code:List (List V)) (lens cells dust picks:List Int) (L n:Nat) (Mf:Mc),vs=[.ref a,.ref l1,.ref l2,.int L,.ref l3,.ref l4]/\SqL K H a (cs.map V.ref)/\CodeAt H cs code/\SqL K H l1 (lens.map V.int)/\SqL K H l2 (cells.map V.int)/\SqL K H l3 (dust.map V.int)/\SqL K H l4 (picks.map V.int)/\1<=L/\L<=64/\lens.length<=1000/\code.length<=1000/\Run Lx code n (Mc.fresh lens cells L dust picks) Mf /\
 ∀ B' A' H' t,Same H B'->MAt c B' A' Mf [] H'->B' t=some (.tup [.ref A'.aC,A'.rf,.ref A'.aT])->Q (.ref t) H'
theorem ok_ran {c:MCs} {Lx:Lex} (d:zw K mg "ran" XB ["code","lengths","cells","lanes","dust","picks"]) (CC:MCls K c) (hlen:mg "len"=none) (hCn:mg "Bench"=some (.ref c.bn)) (IN:OkI P w K mg base CX0 3 c.bn ["self","lengths","cells","lanes","dust","picks"] (spInitN c K)) (PB:Ok P w K mg base CX0 9 "place_behind" ["bench","step"] (spPB c Lx)) :
  Ok P w K mg base CX0 10 "ran" ["code","lengths","cells","lanes","dust","picks"] (spRan c K Lx):=by
 obtain ⟨g,fd,m,F,b⟩:=d;refine ⟨g,fd,m,F.kp,b,F.ok sc_ran (by rintro vs H Q E ⟨_,_,_,_,_,_,_,_,_,_,_,_,_,_,rfl,_⟩;rfl) fun cdv A outer s H vs Q E hr h=>?_⟩;obtain ⟨a,l1,l2,l3,l4,cs,code,lens,cells,dust,picks,L,n,Mf,rfl,qa,CA,q1,q2,q3,q4,L1,L64,hl,hcl,run,q⟩:=h;have nd:=sc_ran.nd;have hr6:=hr;have hr4:=hr.mono (show 4<=9 by decide);have CN:=CC.n;refine ⟨_,(zd (zF (i:=6) nd rfl (Or.inl rfl) (xK IN hCn hr4 (by rfl) zy (zb (pv 1) (zb (pv 2) (zb (pv 3) (zb (pv 4) (zb (pv 5) ze)))))))
   (zd (ps_while PassesOwn.never (pw_and (zG op_lt (zi (pv 6) rfl) (zt zP (by rfl) hlen PySem.boot_len (zb (pv 0) ze)) (zJ _)) (pw_and1 (zG Y5 (zi (pv 6) rfl) xR (zJ _)))).pt (zg (zC (pv 6) (zI PB hr6 (by rfl) zy (zb (pv 6) (zb (zB zM (pv 0) (zi (pv 6) rfl) (fun _ _=>rfl)) ze))) rfl)))
   (zg (zn (yy (zb (zi (pv 6) rfl) (zb (zi (pv 6) rfl) (zb (zi (pv 6) rfl) ze)))))))),?_⟩
 refine ⟨_,rfl,_,rfl,_,rfl,_,rfl,_,rfl,fun x dx nx ndx ne=>?_⟩;have s0:Same H (upd H dx (.own x)):=zo (Same.refl _) ndx;have h0:Hd (upd H dx (.own x)) [(x,.ins c.bn dx [])] (upd (upd H dx (.own x)) x (.ins c.bn dx [])):=Hd.base.new (by rw [zm (Ne.symm ne)];exact nx);refine ⟨upd H dx (.own x),x,dx,l1,l2,l3,l4,lens,cells,dust,picks,L,rfl,h0,zE q1 s0,zE q2 s0,zE q3 s0,zE q4 s0,L1,L64,hl,fun B1 A1 H1 s1 eb m1=>⟨rfl,?_⟩⟩;have sH:Same H B1:=s0.trans s1;have SQ:∀ {B2:Hp} {A2:Ma} {M:Mc} {H2:Hp},Same H B2->MAt c B2 A2 M [] H2->SqL K H2 a (cs.map V.ref):=fun s2 m2=>zE (zE qa s2) m2.h.sm;refine ⟨fun k σ J=>∃ B2 A2 M,σ=[some (.ref a),some (.ref l1),some (.ref l2),some (.int L),some (.ref l3),some (.ref l4),some (.ref x)]/\Same H B2/\A2.b=x/\MAt c B2 A2 M [] J/\Run Lx code k M Mf,⟨n,B1,A1,_,rfl,sH,eb,m1,run⟩,?_⟩;rintro k σ J ⟨B2,A2,M,rfl,s2,eb2,m2,run⟩;have lcs:(cs.map V.ref).length=code.length:=by rw [List.length_map];exact CA.n
 have rfn:M.refusal=none->A2.rf=.non:=fun z=>by have:=m2.bb.rf;rw [z] at this;exact this
 have rfs:M.refusal.isSome=true->∃ t,A2.rf=.ref t:=fun z=>by
  have:=m2.bb.rf
  cases e:M.refusal with
  | none=>rw [e] at z;cases z
  | some r=>rw [e] at this;obtain ⟨t,y,_⟩:=this;exact ⟨t,y⟩
 refine ⟨_,rfl,A2.b,_,_,_,.int M.pc,by rw [eb2],m2.b,CN.c,CN.pc,rfl,_,rfl,a,_,rfl,.inl (SQ s2 m2),_,_,rfl,rfl,_,rfl,?_⟩;rw [lcs];have fin:Run Lx code 0 M Mf->Mf=M:=fun z=>by cases z;rfl
 cases run with
 | done hd =>
  have ret:∀ J',J'=J->tRet (tTup (tCons (tFld K (tVar 6) "cells") (tCons (tFld K (tVar 6) "refusal") (tCons (tFld K (tVar 6) "touches") tNil)))) ⟨fun _ H'=>Q V.non H',Q,fun _ _=>False,fun _ _=>False⟩ [some (.ref a),some (.ref l1),some (.ref l2),some (.int L),some (.ref l3),some (.ref l4),some (.ref x)] J':=by
   rintro J' rfl;refine ⟨_,rfl,A2.b,_,_,_,.ref A2.aC,by rw [eb2],m2.b,CN.c,CN.cells,rfl,_,rfl,A2.b,_,_,_,A2.rf,by rw [eb2],m2.b,CN.c,CN.refusal,rfl,_,rfl,A2.b,_,_,_,.ref A2.aT,by rw [eb2],m2.b,CN.c,CN.touches,rfl,(by show 3<=sizeLine;decide),fun t nt=>?_⟩;exact q _ A2 _ t (s2.trans (zo (Same.refl _) (m2.h.free nt))) (m2.grow nt) zh
  by_cases z:Mf.pc<(code.length:Int)
  ·rcases hd with y | y
   ·omega
   obtain ⟨t,et⟩:=rfs y;rw [decide_eq_true z];refine Zq ⟨_,rfl,A2.b,_,_,_,A2.rf,by rw [eb2],m2.b,CN.c,CN.refusal,rfl,rfl,_,rfl,?_⟩;rw [et];exact yx (ret _ rfl)
  ·rw [decide_eq_false z]
   exact yx (yx (ret _ rfl))
 | step p0 hn ec st run =>
  rename_i k M1 tv;have hlt:M.pc.toNat<code.length:=(List.getElem?_eq_some_iff.mp ec).1;have z:M.pc<(code.length:Int):=by omega
  rw [decide_eq_true z];refine Zq ⟨_,rfl,A2.b,_,_,_,A2.rf,by rw [eb2],m2.b,CN.c,CN.refusal,rfl,rfl,_,rfl,?_⟩;rw [rfn hn];refine Zq ⟨fun σ' J'=>∃ B2 A2,σ'=[some (.ref a),some (.ref l1),some (.ref l2),some (.int L),some (.ref l3),some (.ref l4),some (.ref x)]/\Same H B2/\A2.b=x/\MAt c B2 A2 M1 [] J',fun σ' J' ⟨B3,A3,e3,s3,eb3,m3⟩=>⟨k,by omega,B3,A3,M1,e3,s3,eb3,m3,run⟩,?_⟩;obtain ⟨st',es'⟩:∃ y,cs[M.pc.toNat]?=some y:=⟨cs[M.pc.toNat]'(by rw [CA.n];exact hlt),List.getElem?_eq_getElem _⟩;have eT:=CA.t _ _ _ es' ec;refine ⟨_,rfl,_,rfl,_,rfl,A2.b,_,_,_,.int M.pc,by rw [eb2],m2.b,CN.c,CN.pc,rfl,a,_,_,.ref st',rfl,rfl,SQ s2 m2,?_,B2,A2,M,[],st',tv,M1,by rw [eb2];rfl,m2,s2 _ _ eT,st,fun B3 A3 J3 M2 s3 eb3 m3 em=>?_⟩
  ·rw [show M.pc=((M.pc.toNat:Nat):Int) by omega]
   exact zQ (by rw [List.getElem?_map,es'];rfl)
  refine ⟨_,rfl,A3.b,_,_,_,by rw [eb3,eb2],m3.b,CN.c,CN.pc,(by show 23<1000;decide),?_⟩;have m4:=m3.s_pc M1.pc;rw [← em] at m4;exact ⟨B3,A3,rfl,s2.trans s3,eb3.trans eb2,m4⟩
end
end K43
namespace L2
open PySem PySem.Spec PyProof.Rows
open Sem (wp)
section
variable {prog:Program} {w:World} {A:Around} {E:Value->Shared->Prop} {s:Shared}
end
section
variable {X:Cx} {es:List Expr} {kt:Nat} {tp:Pos}
end
end L2
namespace K43
open PySem L2
theorem sel_in (js:List Int) (m:List Bool) (j:Nat) (hj:j<m.length) (h:(j:Int)∈js∨m.getD j false=true):(sel m js).getD j false=true:=by
 induction js generalizing m with
 | nil =>
  rcases h with h | h
  ·cases h
  ·exact h
 | cons i js ih =>
  show (sel (m.set i.toNat true) js).getD j false=true;refine ih _ (by rw [List.length_set];exact hj) ?_;by_cases e:i.toNat=j
  ·right
   rw [List.getD_eq_getElem?_getD,e,List.getElem?_set_self hj];rfl
  ·rcases h with h | h
   ·rcases List.mem_cons.mp h with h | h
    ·exact absurd (by rw [← h];rfl) e
    ·exact .inl h
   ·right
    rw [List.getD_eq_getElem?_getD,List.getElem?_set_ne e,← List.getD_eq_getElem?_getD];exact h
theorem dst_lt (d:List Int) (q:Nat) (m:List Bool) (lo k j:Nat) (h:j<lo):(dst d q m lo k).getD j false=m.getD j false:=by
 induction k with
 | zero=>rfl
 | succ k ih=>rw [zgo,List.getD_eq_getElem?_getD,List.getElem?_set_ne (by omega),← List.getD_eq_getElem?_getD];exact ih
theorem mem_upto {n j:Nat} (h:j<n):(j:Int)∈xZ n:=List.mem_map.mpr ⟨j,List.mem_range.mpr h,rfl⟩
theorem actTo_all (M:Mc) (k n:Nat) (h:∀ j,j<n->M.isAct k j=true):M.actTo k n=xZ n:=by
 unfold Mc.actTo xZ;rw [List.filter_eq_self.mpr fun j hj=>h j (List.mem_range.mp hj)];rfl
theorem strip_act {M:Mc} (ok:MOk0 M) (hg:M.group=1∨M.group=2∨M.group=4) {b:Int} (hb:b<=M.many):(M.strip b).act 0=xZ (M.wide b).toNat/\MOk (M.strip b):=by
 have l1:=ok.l1;have rb:M.group*M.lanes<=4*M.lanes/\1<=M.group*M.lanes:=by rcases hg with e | e | e <;> rw [e] <;> omega
 have w01:0<=M.wide b/\M.wide b<=M.group*M.lanes:=by unfold Mc.wide;split <;> omega
 have ml:0<M.masks.length:=by rw [ok.ml];decide
 have lm:(M.masks.getD 0 []).length=4*M.lanes:=by
  rw [List.getD_eq_getElem?_getD,List.getElem?_eq_getElem ml];exact ok.mm _ (List.getElem_mem ml)
 refine ⟨?_,?_⟩
 ·refine actTo_all _ _ _ fun j hj=>?_
  have hj:j<(M.wide b).toNat:=hj;unfold Mc.isAct
  have e1:((M.strip b).masks.getD 0 []).getD j false=true:=by
   show ((M.masks.set 0 _).getD 0 []).getD j false=true;rw [List.getD_eq_getElem?_getD (l:=M.masks.set 0 _),List.getElem?_set_self ml];show (dst _ _ (sel (clr (M.masks.getD 0 []) (M.wide b).toNat) (xZ (M.wide b).toNat)) (M.wide b).toNat _).getD j false=true;rw [dst_lt _ _ _ _ _ _ hj];exact sel_in _ _ _ (by rw [Zd,lm];omega) (.inl (mem_upto hj))
  rw [e1];rfl
 ·refine ⟨ok.l1,ok.l64,hg,ok.nl,?_,fun m hm=>?_,w01.1,w01.2⟩
  ·show (M.masks.set 0 _).length=16
   rw [List.length_set];exact ok.ml
  ·rcases List.mem_or_eq_of_mem_set hm with hm | rfl
   ·exact ok.mm m hm
   ·show (dst _ _ (sel (clr (M.masks.getD 0 []) _) _) _ _).length=_
    rw [YE,Z1,Zd,lm];rfl
theorem layOne_is (told:List (Key×V)) (p:Nat) (M:Mc) (t:Nat):M.layOne told p t={ M with nums:=(M.layOne told p t).nums,dq:=(M.layOne told p t).dq }:=by
 unfold Mc.layOne;split <;> rfl
theorem layTo_is (told:List (Key×V)) (p:Nat) (M:Mc) (n:Nat):M.layTo told p n={ M with nums:=(M.layTo told p n).nums,dq:=(M.layTo told p n).dq }:=by
 induction n with
 | zero=>rfl
 | succ n ih =>
  rw [M.layTo_succ];have e:=layOne_is told p (M.layTo told p n) n;rw [e];rw [ih]
theorem layTo_at (told:List (Key×V)) (p:Nat) (M:Mc) (n j:Nat) (v:Int) (hj:j<n) (hin:∀ t:Nat,t<n->0<=(p:Int)*M.group*M.lanes+t/\((p:Int)*M.group*M.lanes+t).toNat<M.nums.length) (hv:y8 told (.inl (j:Int))=some (.int v)):(M.layTo told p n).numAt p j=v:=by
 induction n with
 | zero=>omega
 | succ n ih =>
  have s:=M.layTo_same told p n;have hn:=hin n (by omega);have hjj:=hin j hj;rw [M.layTo_succ];by_cases e:j=n
  ·subst e
   unfold Mc.layOne;rw [hv];show (List.set _ _ _).getD _ 0=v;rw [s.g,s.l,List.getD_eq_getElem?_getD,List.getElem?_set_self (by rw [s.n];exact hn.2)];rfl
  ·have e2:((M.layTo told p n).layOne told p n).numAt p j=(M.layTo told p n).numAt p j:=by
    unfold Mc.layOne
    split
    ·show (List.set _ _ _).getD _ 0=_
     rw [List.getD_eq_getElem?_getD,List.getElem?_set_ne (by rw [s.g,s.l];omega),← List.getD_eq_getElem?_getD];rfl
    ·show (List.set _ _ _).getD _ 0=_
     rw [List.getD_eq_getElem?_getD,List.getElem?_set_ne (by rw [s.g,s.l];omega),← List.getD_eq_getElem?_getD];rfl
   rw [e2];exact ih (by omega) fun t ht=>hin t (by omega)
inductive Steps (L:Lex) (code:List (List V)):Nat->Mc->Mc->Prop
 | refl {M}:Steps L code 0 M M
 | cons {n M M1 Mf tv}:0<=M.pc->M.refusal=none->code[M.pc.toNat]?=some tv->Step L tv M M1->Steps L code n M1 Mf->Steps L code (n+1) M Mf
theorem Steps.trans {L:Lex} {code:List (List V)} {n k:Nat} {M M1 M2:Mc} (h:Steps L code n M M1) (h2:Steps L code k M1 M2):Steps L code (n+k) M M2:=by
 induction h with
 | refl=>rw [Nat.zero_add];exact h2
 | cons a b c d _ ih=>rw [Nat.add_right_comm];exact .cons a b c d (ih h2)
theorem Steps.run {L:Lex} {code:List (List V)} {n:Nat} {M M1:Mc} (h:Steps L code n M M1) (e:(code.length:Int)<=M1.pc∨M1.refusal.isSome=true):Run L code n M M1:=by
 induction h with
 | refl=>exact .done e
 | cons a b c d _ ih=>exact .step a b c d (ih e)
theorem zcz (v:V):∀ (js:List Int),(List.replicate js.length [v]).flatten=js.map fun _=>v
 | []=>rfl
 | j::js=>by rw [List.length_cons,List.replicate_succ,List.flatten_cons,zcz v js];rfl
def numM:FnM:=fun tv M js=>match (tv[2]?:Option V) with
 | some (V.int n)=>some (M,js.map fun _=>some n)
 | _=>none
def hereM:FnM:=fun _ M js=>some (M,js.map fun j=>some (M.base+j))
theorem numM_ok:FnMOk numM where
 ok:=fun h o=>by unfold numM at h;split at h <;> cases h;exact o
 g:=fun h=>by unfold numM at h;split at h <;> cases h;rfl
 n:=fun h=>by unfold numM at h;split at h <;> cases h;rw [List.length_map]
theorem hereM_ok:FnMOk hereM where
 ok:=fun h o=>by cases h;exact o
 g:=fun h=>by cases h;rfl
 n:=fun h=>by cases h;rw [List.length_map]
section
variable {P:Program} {w:World} {K:PySem.W.Frag} {mg:Str->Option Value} {base:Heap}
theorem zg9 {c:MCs} (d:zw K mg "numbers_written" yf ["bench","step","active"]) (hlen:mg "len"=none):Ok P w K mg base CX0 1 "numbers_written" ["bench","step","active"] (spFn c numM):=by
 obtain ⟨g,fd,m,F,b⟩:=d;refine ⟨g,fd,m,F.kp,b,F.ok ZW (by rintro vs H Q E ⟨_,_,_,_,_,_,_,_,_,_,rfl,_⟩;rfl) fun cdv A outer s H vs Q E hr h=>?_⟩;obtain ⟨B,A,M,R,st,aa,tv,js,M',ns,rfl,m,es,ea,ef,ok,hj,hl,q⟩:=h;have SL:(3000:Nat)<sizeLine:=by decide
 unfold numM at ef
 split at ef
 case h_2=>cases ef
 rename_i n e2;cases ef;refine ⟨_,(zg (zn (zp zc1 (yF (zb (zB zR (pv 1) zf (fun _ _=>rfl)) ze)) (zt zP (by rfl) hlen PySem.boot_len (zb (pv 2) ze))))),?_⟩;refine ⟨_,rfl,st,_,_,_,rfl,rfl,SqT.of (m.h.sm _ _ es),zQ (j:=2) e2,(by show 1<=sizeLine;omega),fun t nt=>?_⟩;have m1:=m.grow (o:=.lst [.int n]) nt;have s1:Same B (upd B t (.lst [.int n])):=zo (Same.refl _) (m.h.free nt);have et:upd B t (.lst [.int n]) t=some (.lst [.int n]):=zh;generalize upd B t (.lst [.int n])=B1 at m1 s1 et;refine ⟨_,rfl,aa,_,rfl,.inl (SqL.of (m1.h.sm _ _ (s1 _ _ ea))),t,_,_,rfl,rfl,m1.h.sm _ _ et,by rw [List.length_map];omega,by rw [List.length_map];omega,(by rw [List.length_map,Int.toNat_natCast];show 1*js.length<=_;omega),fun l nl=>?_⟩;rw [List.length_map,Int.toNat_natCast,zcz];have m2:=m1.grow (o:=.lst (js.map fun _=>V.int n)) nl;have s2:Same B1 (upd B1 l (.lst (js.map fun _=>V.int n))):=zo (Same.refl _) (m1.h.free nl);refine q _ A _ l (s1.trans s2) rfl m2 ?_;rw [zh,List.map_map];rfl
theorem ok_here {c:MCs} (d:zw K mg "numbers_of_here" yh ["bench","step","active"]) (CC:MCls K c):Ok P w K mg base CX0 1 "numbers_of_here" ["bench","step","active"] (spFn c hereM):=by
 obtain ⟨g,fd,m,F,b⟩:=d;refine ⟨g,fd,m,F.kp,b,F.ok sc_numbers_of_here (by rintro vs H Q E ⟨_,_,_,_,_,_,_,_,_,_,rfl,_⟩;rfl) fun cdv A outer s H vs Q E hr h=>?_⟩;obtain ⟨B,A,M,R,st,aa,tv,js,M',ns,rfl,m,es,ea,ef,ok,hj,hl,q⟩:=h;cases ef;have nd:=sc_numbers_of_here.nd;have CN:=CC.n;have SL:(3000:Nat)<sizeLine:=by decide
 refine ⟨_,(zg (zn (xA ["lane","bench"] [none,some 0] rfl rfl rfl (xz (pv 2)) (fun s3 H3 fp=>⟨zW (i:=0) (show ((["lane","bench"]:List Str)).Nodup by decide +kernel) rfl (Or.inl rfl),(zp zY (ZL (K:=K) rfl (pv 1) rfl) (pv 0))⟩)))),?_⟩;refine ⟨_,rfl,aa,rfl,⟨_,SqL.of (m.h.sm _ _ ea)⟩,_,rfl,fun D nD=>?_⟩;have h0:Hd H [(D,.lst (((js.take 0).map fun j=>some (M.base+j)).map oV))] (upd H D (.lst [])):=Hd.base.new nD;generalize upd H D (.lst [])=H1 at h0 ⊢;refine xY (K:=K) (a:=aa) (D:=D) (xs:=js.map V.int) (fun i σ J=>∃ u,σ=[u,some (.ref A.b)]/\Hd H [(D,.lst (((js.take i).map fun j=>some (M.base+j)).map oV))] J) ⟨none,rfl,h0⟩ (fun i σ J _ ⟨_,_,h⟩=>SqL.of (h.sm _ _ (m.h.sm _ _ ea))) ?_ ?_
 ·clear h0
  rintro i y σ J hy ⟨u,rfl,h⟩;obtain ⟨j,e9,rfl⟩:=ZZ hy;have hlt:i<js.length:=(List.getElem?_eq_some_iff.mp e9).1;refine ⟨_,rfl,A.b,_,_,_,.int M.base,rfl,h.sm _ _ m.b,CN.c,CN.base,rfl,_,rfl,_,_,rfl,rfl,_,h.get 0 rfl,(by rw [List.length_map,List.length_map,List.length_take];omega),_,rfl,?_⟩;have h3:=h.put (o':=.lst (((js.take (i+1)).map fun j=>some (M.base+j)).map oV)) 0 rfl
  have e:((js.take (i+1)).map fun j=>some (M.base+j)).map oV=((js.take i).map fun j=>some (M.base+j)).map oV++[V.int (M.base+j)]:=by
   rw [List.take_add_one,e9,List.map_append,List.map_append];rfl
  rw [e] at h3 ⊢;exact h3
 ·rintro σ J ⟨u,rfl,h⟩
  rw [List.length_map,List.take_length] at h;exact q _ A J D (zo (Same.refl _) (m.h.free (h.nw _ (List.mem_singleton.mpr rfl)))) rfl (m.adopt h) zh
end
theorem Mc.touched_ok {M:Mc} {kind:Str} {a:Int} (ok:MOk M):MOk (M.touched kind a):=⟨ok.l1,ok.l64,ok.g,ok.nl,ok.ml,ok.mm,ok.w0,ok.w1⟩
open Classical in
noncomputable def Zp:FnM:=fun tv M js=>match (tv[2]?:Option V) with
 | some (V.int r)=>if js.length=0 then some (M,[]) else if 0<=r/\r.toNat<M.starts.length/\0<=M.adr r.toNat 0/\(M.adr r.toNat 0).toNat<M.cells.length/\M.touches.length<100000 then some (M.touched "read" (M.adr r.toNat 0),js.map fun _=>some (M.cells.getD (M.adr r.toNat 0).toNat 0)) else none
 | _=>none
theorem Zo {tv:List V} {M M':Mc} {js:List Int} {ns:List (Option Int)} (h:Zp tv M js=some (M',ns)):∃ r:Int,tv[2]?=some (.int r)/\((js=[]/\M'=M/\ns=[])∨(js≠[]/\∃ n:Nat,r=n/\n<M.starts.length/\0<=M.adr n 0/\(M.adr n 0).toNat<M.cells.length/\M.touches.length<100000/\M'=M.touched "read" (M.adr n 0)/\ns=js.map fun _=>some (M.cells.getD (M.adr n 0).toNat 0))):=by
 unfold Zp at h
 split at h
 ·rename_i r e
  split at h
  ·rename_i z
   cases h;exact ⟨r,e,.inl ⟨List.length_eq_zero_iff.mp z,rfl,rfl⟩⟩
  ·rename_i z
   split at h
   ·rename_i hc
    cases h;exact ⟨r,e,.inr ⟨fun y=>z (by rw [y];rfl),r.toNat,by omega,hc.2.1,hc.2.2.1,hc.2.2.2.1,hc.2.2.2.2,rfl,rfl⟩⟩
   ·cases h
 ·cases h
theorem zg1:FnMOk Zp where
 ok:=fun h o=>by
  obtain ⟨_,_,⟨_,rfl,_⟩ | ⟨_,_,_,_,_,_,_,rfl,_⟩⟩:=Zo h
  ·exact o
  ·exact Mc.touched_ok o
 g:=fun h=>by
  obtain ⟨_,_,⟨_,rfl,_⟩ | ⟨_,_,_,_,_,_,_,rfl,_⟩⟩:=Zo h
  ·rfl
  ·rfl
 n:=fun h=>by
  obtain ⟨_,_,⟨rfl,_,rfl⟩ | ⟨_,_,_,_,_,_,_,_,rfl⟩⟩:=Zo h
  ·rfl
  ·rw [List.length_map]
section
variable {P:Program} {w:World} {K:PySem.W.Frag} {mg:Str->Option Value} {base:Heap}
theorem ok_spread {c:MCs} (d:zw K mg "numbers_spread" yn ["bench","step","active"]) (hlen:mg "len"=none) (CC:MCls K c) (RC:OkM P w K mg base CX0 2 c.bn "read_cell" ["self","row","place"] (zck c)):Ok P w K mg base CX0 3 "numbers_spread" ["bench","step","active"] (spFn c Zp):=by
 obtain ⟨g,fd,m,F,b⟩:=d;refine ⟨g,fd,m,F.kp,b,F.ok Z4 (by rintro vs H Q E ⟨_,_,_,_,_,_,_,_,_,_,rfl,_⟩;rfl) fun cdv A outer s H vs Q E hr h=>?_⟩;obtain ⟨B,A,M,R,st,aa,tv,js,M',ns,rfl,m,es,ea,ef,ok,hj,hl,q⟩:=h;obtain ⟨r,e2,hc⟩:=Zo ef;have hr2:=hr;have SL:(3000:Nat)<sizeLine:=by decide
 refine ⟨_,(zd (zK (zG yO (zt zP (by rfl) hlen PySem.boot_len (zb (pv 2) ze)) zf (zJ _)) (zg (zn (yF ze))) zu)
   (zg (zn (zp zc1 (yF (zb (yt RC CC.n.c hr2 zy (pv 0) (zb (zB zR (pv 1) zf (fun _ _=>rfl)) (zb zf ze))) ze)) (zt zP (by rfl) hlen PySem.boot_len (zb (pv 2) ze)))))),?_⟩
 refine ⟨_,rfl,aa,_,rfl,.inl (SqL.of (m.h.sm _ _ ea)),rfl,_,rfl,?_⟩;rw [List.length_map];rcases hc with ⟨rfl,rfl,rfl⟩ | ⟨hne,n,rfl,hn,a0,a1,ht,rfl,rfl⟩
 ·refine Zq ⟨(by show 0<=sizeLine;omega),fun l nl=>?_⟩
  exact q _ A _ l (zo (Same.refl _) (m.h.free nl)) rfl (m.grow nl) zh
 ·have hp:js.length≠0:=fun z=>hne (List.length_eq_zero_iff.mp z)
  rw [decide_eq_false (fun z=>hp (by injection z with z;omega))];refine yx ⟨_,rfl,A.b,_,_,rfl,m.b,rfl,_,rfl,st,_,_,_,rfl,rfl,SqT.of (m.h.sm _ _ es),zQ (j:=2) e2,B,A,M,R,n,0,rfl,m,ht,hn,a0,a1,fun B1 A1 H1 s1 eb m1=>?_⟩;refine ⟨(by show 1<=sizeLine;omega),fun t nt=>?_⟩;have m2:=m1.grow (o:=.lst [.int (M.cells.getD (M.adr n 0).toNat 0)]) nt;have s2:Same B1 (upd B1 t (.lst [.int (M.cells.getD (M.adr n 0).toNat 0)])):=zo (Same.refl _) (m1.h.free nt);have et:upd B1 t (.lst [.int (M.cells.getD (M.adr n 0).toNat 0)]) t=some (.lst [.int (M.cells.getD (M.adr n 0).toNat 0)]):=zh;generalize upd B1 t (.lst [.int (M.cells.getD (M.adr n 0).toNat 0)])=B2 at m2 s2 et;refine ⟨_,rfl,aa,_,rfl,.inl (SqL.of (m2.h.sm _ _ (s2 _ _ (s1 _ _ ea)))),t,_,_,rfl,rfl,m2.h.sm _ _ et,by rw [List.length_map];omega,by rw [List.length_map];omega,(by rw [List.length_map,Int.toNat_natCast];show 1*js.length<=_;omega),fun l nl=>?_⟩;rw [List.length_map,Int.toNat_natCast,zcz];have m3:=m2.grow (o:=.lst (js.map fun _=>V.int (M.cells.getD (M.adr n 0).toNat 0))) nl;have s3:Same B2 (upd B2 l (.lst (js.map fun _=>V.int (M.cells.getD (M.adr n 0).toNat 0)))):=zo (Same.refl _) (m2.h.free nl);refine q _ A1 _ l ((s1.trans s2).trans s3) eb m3 ?_;rw [zh,List.map_map];rfl
end
def Mc.shOne (M:Mc) (r:Nat) (place other:Int):Mc×Int:=if 0<=place/\place<M.lens.getD r 0 then (M.touched "read" (M.adr r place),M.cells.getD (M.adr r place).toNat 0) else (M,other)
theorem Mc.shOne_is (M:Mc) (r:Nat) (place other:Int):(M.shOne r place other).1={ M with touches:=(M.shOne r place other).1.touches }/\(M.shOne r place other).1.touches.length<=M.touches.length+1:=by
 unfold Mc.shOne
 split
 ·exact ⟨rfl,by show (M.touches++[_]).length<=_;rw [List.length_append];exact Nat.le_refl _⟩
 ·exact ⟨rfl,Nat.le_succ _⟩
def Mc.shAll (r:Nat) (by' other:Int):List Int->Mc->Mc×List Int
 | [],M=>(M,[])
 | j::js,M=>let x:=M.shOne r (M.base+j+by') other;let y:=Mc.shAll r by' other js x.1;(y.1,x.2::y.2)
theorem Mc.shAll_snoc (r:Nat) (b o:Int) (j:Int):∀ (js:List Int) (M:Mc),Mc.shAll r b o (js++[j]) M=(((Mc.shAll r b o js M).1.shOne r ((Mc.shAll r b o js M).1.base+j+b) o).1,(Mc.shAll r b o js M).2++[((Mc.shAll r b o js M).1.shOne r ((Mc.shAll r b o js M).1.base+j+b) o).2])
 | [],M=>rfl
 | i::js,M=>by
  show ((Mc.shAll r b o (js++[j]) _).1,_::(Mc.shAll r b o (js++[j]) _).2)=_;rw [Mc.shAll_snoc r b o j js];rfl
theorem Mc.shAll_is (r:Nat) (b o:Int):∀ (js:List Int) (M:Mc),(Mc.shAll r b o js M).1={ M with touches:=(Mc.shAll r b o js M).1.touches }/\(Mc.shAll r b o js M).1.touches.length<=M.touches.length+js.length/\(Mc.shAll r b o js M).2.length=js.length
 | [],M=>⟨rfl,Nat.le_refl _,rfl⟩
 | j::js,M=>by
  obtain ⟨a1,a2⟩:=M.shOne_is r (M.base+j+b) o;obtain ⟨b1,b2,b3⟩:=Mc.shAll_is r b o js (M.shOne r (M.base+j+b) o).1;refine ⟨?_,?_,?_⟩
  ·show (Mc.shAll r b o js (M.shOne r (M.base+j+b) o).1).1={ M with touches:=(Mc.shAll r b o js (M.shOne r (M.base+j+b) o).1).1.touches }
   rw [b1];rw [a1]
  ·show (Mc.shAll r b o js (M.shOne r (M.base+j+b) o).1).1.touches.length<=_
   rw [List.length_cons];omega
  ·show (_::(Mc.shAll r b o js _).2).length=_
   rw [List.length_cons,b3];rfl
def zcy (M:Mc) (r:Nat):Prop:=r<M.starts.length/\r<M.lens.length/\0<=M.starts.getD r 0/\M.starts.getD r 0+M.lens.getD r 0<=M.cells.length
open Classical in
noncomputable def ZV:FnM:=fun tv M js=>match (tv[2]?:Option V),(tv[3]?:Option V),(tv[4]?:Option V) with
 | some (V.int r),some (V.int b),some (V.int o)=>if 0<=r/\zcy M r.toNat/\M.touches.length+js.length<100000 then some ((Mc.shAll r.toNat b o js M).1,(Mc.shAll r.toNat b o js M).2.map some) else none
 | _,_,_=>none
theorem ZH {tv:List V} {M M':Mc} {js:List Int} {ns:List (Option Int)} (h:ZV tv M js=some (M',ns)):∃ (r:Nat) (b o:Int),tv[2]?=some (.int r)/\tv[3]?=some (.int b)/\tv[4]?=some (.int o)/\zcy M r/\M.touches.length+js.length<100000/\M'=(Mc.shAll r b o js M).1/\ns=(Mc.shAll r b o js M).2.map some:=by
 unfold ZV at h
 split at h
 ·rename_i r b o e1 e2 e3
  split at h
  ·rename_i hc
   cases h;exact ⟨r.toNat,b,o,by rw [e1];congr 2;omega,e2,e3,hc.2.1,hc.2.2,rfl,rfl⟩
  ·cases h
 ·cases h
theorem shiftM_ok:FnMOk ZV where
 ok:=fun {tv M js M' ns} h ok=>by
  obtain ⟨r,b,o,_,_,_,_,_,rfl,_⟩:=ZH h;rw [(Mc.shAll_is r b o js M).1];exact ⟨ok.l1,ok.l64,ok.g,ok.nl,ok.ml,ok.mm,ok.w0,ok.w1⟩
 g:=fun {tv M js M' ns} h=>by
  obtain ⟨r,b,o,_,_,_,_,_,rfl,_⟩:=ZH h;rw [(Mc.shAll_is r b o js M).1]
 n:=fun {tv M js M' ns} h=>by
  obtain ⟨r,b,o,_,_,_,_,_,_,rfl⟩:=ZH h;rw [List.length_map];exact (Mc.shAll_is r b o js M).2.2
section
variable {P:Program} {w:World} {K:PySem.W.Frag} {mg:Str->Option Value} {base:Heap}
def spSh (c:MCs):Sp:=fun vs H Q _=>∃ (B:Hp) (A:Ma) (M:Mc) (R:List (Addr×HO)) (r:Nat) (place other:Int),vs=[.ref A.b,.int r,.int place,.int other]/\MAt c B A M R H/\zcy M r/\M.touches.length<100000 /\
 ∀ B' A' H',Same B B'->A'.b=A.b->MAt c B' A' (M.shOne r place other).1 R H'->Q (.int (M.shOne r place other).2) H'
theorem ok_shOne {c:MCs} (d:zw K mg "number_shifted" yp ["bench","row","place","other"]) (CC:MCls K c) (RC:OkM P w K mg base CX0 2 c.bn "read_cell" ["self","row","place"] (zck c)):Ok P w K mg base CX0 3 "number_shifted" ["bench","row","place","other"] (spSh c):=by
 obtain ⟨g,fd,m,F,b⟩:=d;refine ⟨g,fd,m,F.kp,b,F.ok Z5 (by rintro vs H Q E ⟨_,_,_,_,_,_,_,rfl,_⟩;rfl) fun cdv A outer s H vs Q E hr h=>?_⟩;obtain ⟨B,A,M,R,r,place,other,rfl,m,⟨ra1,ra2,ra3,ra4⟩,ht,q⟩:=h;have hr2:=hr;have CN:=CC.n;refine ⟨_,(zd (zK (zf9 op_le op_lt zf (pv 2) (zB zM (zi (pv 0) rfl) (pv 1) (fun _ _=>rfl))) (zg (zn (yt RC CC.n.c hr2 zy (pv 0) (zb (pv 1) (zb (pv 2) ze))))) zu)
   (zg (zn (pv 3)))),?_⟩
 refine ⟨_,rfl,_,_,rfl,rfl,_,rfl,?_⟩;by_cases z0:0<=place
 ·rw [decide_eq_true z0]
  refine Zq ⟨_,rfl,A.b,_,_,_,.ref A.aL,rfl,m.b,CN.c,CN.lengths,rfl,_,rfl,A.aL,_,_,_,rfl,rfl,SqL.of (m.h.sm _ _ m.bb.lens),xa r ra2 rfl,_,_,rfl,rfl,_,rfl,?_⟩;by_cases z1:place<M.lens.getD r 0
  ·rw [decide_eq_true z1]
   have e:M.shOne r place other=(M.touched "read" (M.adr r place),M.cells.getD (M.adr r place).toNat 0):=if_pos ⟨z0,z1⟩;rw [e] at q;refine Zq ⟨_,rfl,A.b,_,_,rfl,m.b,rfl,_,rfl,_,rfl,B,A,M,R,r,place,rfl,m,ht,ra1,?_,?_,fun B1 A1 H1 s1 eb m1=>q B1 A1 H1 s1 eb m1⟩
   ·unfold Mc.adr;omega
   ·unfold Mc.adr;omega
  ·rw [decide_eq_false z1]
   have e:M.shOne r place other=(M,other):=if_neg fun y=>z1 y.2;rw [e] at q;exact yx ⟨_,rfl,q B A H (Same.refl _) rfl m⟩
 ·rw [decide_eq_false z0]
  have e:M.shOne r place other=(M,other):=if_neg fun y=>z0 y.1;rw [e] at q;exact yx ⟨_,rfl,yx ⟨_,rfl,q B A H (Same.refl _) rfl m⟩⟩
theorem ok_shift {c:MCs} (d:zw K mg "numbers_shifted" yg ["bench","step","active"]) (CC:MCls K c) (NSH:Ok P w K mg base CX0 3 "number_shifted" ["bench","row","place","other"] (spSh c)):Ok P w K mg base CX0 4 "numbers_shifted" ["bench","step","active"] (spFn c ZV):=by
 obtain ⟨g,fd,m,F,b⟩:=d;refine ⟨g,fd,m,F.kp,b,F.ok sc_numbers_shifted (by rintro vs H Q E ⟨_,_,_,_,_,_,_,_,_,_,rfl,_⟩;rfl) fun cdv A outer s H vs Q E hr h=>?_⟩;obtain ⟨B,A,M,R,st,aa,tv,js,M',ns,rfl,m,es,ea,ef,ok,hj,hl,q⟩:=h;obtain ⟨r,b,o,e2,e3,e4,ra,ht,rfl,rfl⟩:=ZH ef;have nd:=sc_numbers_shifted.nd;have hr3:=hr;have CN:=CC.n;have SL:(3000:Nat)<sizeLine:=by decide
 refine ⟨_,(zg (zn (xA ["lane","bench","step"] [none,some 0,some 1] rfl rfl rfl (xz (pv 2)) (fun s3 H3 fp=>⟨zW (i:=0) (show ((["lane","bench","step"]:List Str)).Nodup by decide +kernel) rfl (Or.inl rfl),(zI NSH hr3 (by rfl) zy (zb (pv 1) (zb (zB (YC (K:=K) rfl) (pv 2) zf (fun _ _=>rfl)) (zb (zp zY (zp zY (ZL (K:=K) rfl (pv 1) rfl) (pv 0)) (zB (YC (K:=K) rfl) (pv 2) zf (fun _ _=>rfl))) (zb (zB (YC (K:=K) rfl) (pv 2) zf (fun _ _=>rfl)) ze)))))⟩)))),?_⟩;refine ⟨_,rfl,aa,rfl,⟨_,SqL.of (m.h.sm _ _ ea)⟩,_,rfl,fun D nD=>?_⟩;have m0:MAt c B A (Mc.shAll r b o (js.take 0) M).1 ((D,.lst ((Mc.shAll r b o (js.take 0) M).2.map V.int))::R) (upd H D (.lst [])):=m.newR nD;generalize upd H D (.lst [])=H1 at m0 ⊢;refine xY (K:=K) (a:=aa) (D:=D) (xs:=js.map V.int) (fun i σ J=>∃ (u:Option V) (B1:Hp) (A1:Ma),σ=[u,some (.ref A.b),some (.ref st)]/\Same B B1/\A1.b=A.b/\MAt c B1 A1 (Mc.shAll r b o (js.take i) M).1 ((D,.lst ((Mc.shAll r b o (js.take i) M).2.map V.int))::R) J) ⟨none,B,A,rfl,Same.refl _,rfl,m0⟩ (fun i σ J _ ⟨_,B1,A1,_,s1,_,m1⟩=>SqL.of (m1.h.sm _ _ (s1 _ _ ea))) ?_ ?_
 ·clear m0
  rintro i y σ J hy ⟨u,B1,A1,rfl,s1,eb,m1⟩;obtain ⟨j,e9,rfl⟩:=ZZ hy;have hlt:i<js.length:=(List.getElem?_eq_some_iff.mp e9).1;obtain ⟨i1,i2,i3⟩:=Mc.shAll_is r b o (js.take i) M;have et:js.take (i+1)=js.take i++[j]:=by rw [List.take_add_one,e9];rfl
  rw [et,Mc.shAll_snoc];rw [List.length_take] at i2 i3;have eB:(Mc.shAll r b o (js.take i) M).1.base=M.base:=by rw [i1]
  have sq:SqT K J st tv:=SqT.of (m1.h.sm _ _ (s1 _ _ es));have raI:zcy (Mc.shAll r b o (js.take i) M).1 r:=by rw [i1];exact ra
  generalize Mc.shAll r b o (js.take i) M=X at *;obtain ⟨MX,nX⟩:=X;refine ⟨_,rfl,_,rfl,st,_,_,_,rfl,rfl,sq,zQ (j:=2) e2,_,rfl,A1.b,_,_,_,.int MX.base,by rw [eb],m1.b,CN.c,CN.base,rfl,_,rfl,_,_,rfl,rfl,_,rfl,st,_,_,_,rfl,rfl,sq,zQ (j:=3) e3,_,_,rfl,rfl,_,rfl,st,_,_,_,rfl,rfl,sq,zQ (j:=4) e4,B1,A1,MX,_,r,MX.base+j+b,o,by rw [eb];rfl,m1,raI,(by show MX.touches.length<_;have i2:MX.touches.length<=_:=i2;omega),fun B2 A2 H2 s2 eb2 m2=>?_⟩;have i3:nX.length=_:=i3;refine ⟨_,m2.getR,(by rw [List.length_map];omega),_,B2,A2,rfl,s1.trans s2,eb2.trans eb,?_⟩;rw [List.map_append];exact m2.putR
 ·rintro σ J ⟨u,B1,A1,rfl,s1,eb,m1⟩
  rw [List.length_map,List.take_length] at m1;have nb:B1 D=none:=m1.h.nw (D,_) (List.mem_of_getElem? atR);refine q _ A1 J D (s1.trans (zo (Same.refl _) nb)) eb m1.settle ?_;rw [zh,List.map_map];rfl
end
end K43
namespace L2
open PySem
theorem pg_tupK {X:Cx} {K:PySem.W.Frag} {es:List Expr} {k:Nat} {t:TGs} {n:Nat} {pos:Pos} (e:X.K=K) (hc:X.calm=true) (h:PGs X es t) (hn:(assignEach es X.env).length=n:=by rfl) (hst:(assignEach es X.env).findIdx? (·.1)=none:=by rfl):PG X (.Tuple es k pos) (gTup K n t):=e ▸ pg_tup hc h hn hst
theorem compF_zip {K:PySem.W.Frag} {l1 l2 D:Addr} {xs ys:List V} {g:TG} {tt:TT} {te:TE} {σY:St} {H1:Hp} {Q:VK} (Pv:Nat->St->Hp->Prop) (h0:Pv 0 σY H1) (hl:∀ i σ H,i<=xs.length->Pv i σ H->SqL K H l1 xs/\SqL K H l2 ys) (he:ys.length=xs.length)
  (hs:∀ i x y σ H T,xs[i]?=some x->ys[i]?=some y->Pv i σ H->H T=none->g (.ref T) σ (upd H T (.tup [x,y])) fun σ3 H3=>tt σ3 H3 fun b H4=>if b=true then te σ3 H4 fun v H5=>∃ zs,H5 D=some (.lst zs)/\zs.length<sizeLine/\Pv (i+1) σ3 (upd H5 D (.lst (zs++[v]))) else Pv (i+1) σ3 H4) (hd:∀ σ H,Pv xs.length σ H->Q (.ref D) H) :
  CompWF (Itz K l1 l2) g tt te σY H1 D Q:=by
 refine ⟨fun i m σ H=>m=xs.length-i/\i<=xs.length/\Pv i σ H,⟨xs.length,by simp,Nat.zero_le _,h0⟩,?_⟩;rintro i m σ H ⟨rfl,hi,p⟩;obtain ⟨q1,q2⟩:=hl i σ H hi p;by_cases hlt:i<xs.length
 ·refine .inr ⟨⟨xs,ys,xs[i],ys[i],q1,q2,by simp [hlt],by simp [he,hlt]⟩,Pv (i+1),fun σ' H' p'=>⟨xs.length-(i+1),by omega,rfl,hlt,p'⟩,fun x H' y=>?_⟩
  obtain ⟨T,u,v,e,nT,e',y⟩:=y;subst e e';obtain ⟨y1,y2⟩:=y xs ys q1 q2;exact hs i u v σ H T y1 y2 p nT
 ·have e:i=xs.length:=by omega
  subst e;exact .inl ⟨⟨xs,ys,q1,q2,.inl (Nat.le_refl _)⟩,hd σ H p⟩
end L2
namespace K43
open PySem L2
def Mc.chosen (M:Mc) (p k:Nat) (nought:Bool):List Int:=(M.act k).filter fun j=>decide (decide (M.numAt p j=0)=nought)
def xE (nought:Bool):EfM:=fun tv M=>match (tv[1]?:Option V),(tv[2]?:Option V),(tv[3]?:Option V) with
 | some (V.int m),some (V.int p),some (V.int k)=>if 0<=m/\m<16/\0<=p/\(p+1)*M.group<=8/\0<=k/\k<16 then some (M.laidMask m.toNat (M.chosen p.toNat k.toNat nought)) else none
 | _,_,_=>none
theorem zhm {nought:Bool} {tv:List V} {M M':Mc} (h:xE nought tv M=some M'):∃ m p k:Nat,tv[1]?=some (.int m)/\tv[2]?=some (.int p)/\tv[3]?=some (.int k)/\m<16/\((p:Int)+1)*M.group<=8/\k<16/\M'=M.laidMask m (M.chosen p k nought):=by
 unfold xE at h
 split at h
 ·rename_i m p k e1 e2 e3
  split at h
  ·rename_i hc
   obtain ⟨m0,m1,p0,p8,k0,k1⟩:=hc;cases h;refine ⟨m.toNat,p.toNat,k.toNat,?_,?_,?_,by omega,?_,by omega,rfl⟩
   ·rw [e1];congr 2;omega
   ·rw [e2];congr 2;omega
   ·rw [e3];congr 2;omega
   ·rw [Int.toNat_of_nonneg p0];exact p8
  ·cases h
 ·cases h
section
variable {P:Program} {w:World} {K:PySem.W.Frag} {mg:Str->Option Value} {base:Heap}
def spLC (c:MCs):Sp:=fun vs H Q _=>∃ (nought:Bool) (B:Hp) (A:Ma) (M:Mc) (R:List (Addr×HO)) (st:Addr) (tv:List V) (M':Mc),vs=[.ref A.b,.ref st,.bl nought]/\MAt c B A M R H/\B st=some (.tup tv)/\xE nought tv M=some M'/\MOk M /\
 ∀ B' A' H',Same B B'->A'.b=A.b->MAt c B' A' M' R H'->Q .non H'
theorem ok_chosen {c:MCs} (d:zw K mg "lay_chosen" yX ["bench","step","nought"]) (hzip:mg "zip"=none) (CC:MCls K c) (AU:OkM P w K mg base CX0 1 c.bn "active_under" ["self","mask"] (spAct c)) (NI:OkM P w K mg base CX0 3 c.bn "numbers_in" ["self","seat","active"] (spNums c K)) (LM:OkM P w K mg base CX0 2 c.bn "lay_mask" ["self","mask","chosen"] (spMask c K)):Ok P w K mg base CX0 4 "lay_chosen" ["bench","step","nought"] (spLC c):=by
 obtain ⟨g,fd,m,F,b⟩:=d;refine ⟨g,fd,m,F.kp,b,F.ok sc_lay_chosen (by rintro vs H Q E ⟨_,_,_,_,_,_,_,_,rfl,_⟩;rfl) fun cdv A outer s H vs Q E hr h=>?_⟩;obtain ⟨nought,B,A,M,R,st,tv,M',rfl,m,es,ef,ok,q⟩:=h;have nd:=sc_lay_chosen.nd;have hr3:=hr;have hr2:=hr.mono (show 2<=3 by decide);have hr1:=hr.mono (show 1<=3 by decide);have CN:=CC.n;have ml:=ok.ml;have SL:(3000:Nat)<sizeLine:=by decide
 obtain ⟨mk,p,k,e1,e2,e3,mk16,p8,k16,rfl⟩:=zhm ef;obtain ⟨mr1,mr2⟩:=Yk ok k16;obtain ⟨ai,al⟩:=act_in ok k;refine ⟨_,(zd (zF (i:=3) nd rfl (Or.inl rfl) (yt AU CC.n.c hr1 zy (pv 0) (zb (zB zR (pv 1) zf (fun _ _=>rfl)) ze)))
   (zd (zF (i:=4) nd rfl (Or.inl rfl) (yt NI CC.n.c hr3 zy (pv 0) (zb (zB zR (pv 1) zf (fun _ _=>rfl)) (zb (pv 3) ze))))
   (zg (zS (yt LM CC.n.c hr2 zy (pv 0) (zb (zB zR (pv 1) zf (fun _ _=>rfl)) (zb (zga ["lane","number","nought"] [none,none,some 2] rfl rfl rfl (pi_zip rfl hzip (zb (pv 3) (zb (pv 4) ze))) (fun s3 H3 fp=>⟨pg_tupK (K:=K) (n:=2) rfl rfl (Z8 (zW (i:=0) (show ((["lane","number","nought"]:List Str)).Nodup by decide +kernel) rfl (Or.inl rfl)) (Z8 (zW (i:=1) (show ((["lane","number","nought"]:List Str)).Nodup by decide +kernel) rfl (Or.inl rfl)) pgs_nil)),(zG yO (xO yO (pv 1) zf (zJ _)) (pv 2) (zJ _)),(pv 0)⟩)) ze))))))),?_⟩
 refine ⟨_,rfl,A.b,_,_,rfl,m.b,rfl,_,rfl,st,_,_,_,rfl,rfl,SqT.of (m.h.sm _ _ es),zQ (j:=3) e3,B,A,M,R,k,rfl,m,by omega,ok.w0,mr1,mr2,fun B1 H1 l s1 m1 ea=>?_⟩;refine ⟨_,rfl,A.b,_,_,rfl,m1.b,rfl,_,rfl,st,_,_,_,rfl,rfl,SqT.of (m1.h.sm _ _ (s1 _ _ es)),zQ (j:=2) e2,_,rfl,B1,A,M,R,p,l,M.act k,rfl,m1,ok,p8,ea,ai,al,fun B2 H2 l2 s2 m2 en=>?_⟩;refine ⟨_,rfl,A.b,_,_,rfl,m2.b,rfl,_,rfl,st,_,_,_,rfl,rfl,SqT.of (m2.h.sm _ _ (s2 _ _ (s1 _ _ es))),zQ (j:=1) e1,_,rfl,_,rfl,l,l2,rfl,⟨_,SqL.of (m2.h.sm _ _ (s2 _ _ ea))⟩,⟨_,SqL.of (m2.h.sm _ _ en)⟩,_,rfl,fun D nD=>?_⟩;unfold Mc.chosen at q;generalize M.act k=js at *;let f:Int->Bool:=fun j=>decide (decide (M.numAt p j=0)=nought);have h0:Hd H2 [(D,.lst (((js.take 0).filter f).map V.int))] (upd H2 D (.lst [])):=Hd.base.new nD;generalize upd H2 D (.lst [])=H3 at h0 ⊢;refine compF_zip (K:=K) (xs:=js.map V.int) (ys:=(js.map (M.numAt p)).map V.int) (fun i σ J=>∃ u0 u1,σ=[u0,u1,some (.bl nought)]/\Hd H2 [(D,.lst (((js.take i).filter f).map V.int))] J) ⟨none,none,rfl,h0⟩ (fun i σ J _ ⟨_,_,_,h⟩=>⟨SqL.of (h.sm _ _ (m2.h.sm _ _ (s2 _ _ ea))),SqL.of (h.sm _ _ (m2.h.sm _ _ en))⟩) (by rw [List.length_map,List.length_map,List.length_map]) ?_ ?_
 ·clear h0
  rintro i x y σ J T hx hy ⟨u0,u1,rfl,h⟩ nT;obtain ⟨j,e9,rfl⟩:=ZZ hx;obtain ⟨z,e10,rfl⟩:=ZZ hy;rw [List.getElem?_map,e9] at e10;cases e10;have hlt:i<js.length:=(List.getElem?_eq_some_iff.mp e9).1;have h:=h.waste (o:=.tup [.int j,.int (M.numAt p j)]) nT;refine ⟨T,_,rfl,SqT.of zh,rfl,_,_,rfl,_,_,rfl,rfl,?_⟩;generalize upd J T (.tup [.int j,.int (M.numAt p j)])=J1 at h ⊢
  have et:(js.take (i+1)).filter f=(js.take i).filter f++if f j=true then [j] else []:=by
   rw [List.take_add_one,e9,List.filter_append];congr 1;show List.filter f [j]=_;by_cases z:f j=true
   ·rw [List.filter_cons_of_pos z,if_pos z];rfl
   ·rw [List.filter_cons_of_neg z,if_neg z];rfl
  have lf:=List.length_filter_le f (js.take i);rw [List.length_take] at lf;rw [et];refine ⟨_,rfl,rfl,_,rfl,rfl,_,rfl,?_⟩
  have ef:decide (V.bl (decide (V.int (M.numAt p j)=V.int 0))=V.bl nought)=f j:=by
   show _=decide (decide (M.numAt p j=0)=nought);rw [zc4,dec_bl];by_cases z:M.numAt p j=0 <;> cases nought <;> simp [z]
  rw [ef];refine y6 (fun z=>?_) (fun z=>?_)
  ·rw [if_pos z]
   refine ⟨_,rfl,_,h.get 0 rfl,(by rw [List.length_map];omega),_,_,rfl,?_⟩;rw [List.map_append];exact h.put 0 rfl
  ·rw [if_neg z,List.append_nil]
   exact ⟨_,_,rfl,h⟩
 ·rintro σ J ⟨u0,u1,rfl,h⟩
  rw [List.length_map,List.take_length] at h;have m3:=m2.adopt h;have s3:Same B2 (upd B2 D (.lst ((js.filter f).map V.int))):=zo (Same.refl _) (m2.h.free nD);refine ⟨_,A,M,R,mk,D,js.filter f,rfl,m3,ok,mk16,zh,(fun j hj=>ai j (List.mem_filter.mp hj).1),fun H9 m9=>?_⟩;exact q _ A H9 ((s1.trans s2).trans s3) rfl m9
theorem ok_choose {c:MCs} (d:zw K mg "play_choose" yJ ["bench","step"]) (LC:Ok P w K mg base CX0 4 "lay_chosen" ["bench","step","nought"] (spLC c)):Ok P w K mg base CX0 5 "play_choose" ["bench","step"] (spEf c (xE false)):=by
 obtain ⟨g,fd,m,F,b⟩:=d;refine ⟨g,fd,m,F.kp,b,F.ok YS (by rintro vs H Q E ⟨_,_,_,_,_,_,_,rfl,_⟩;rfl) fun cdv A outer s H vs Q E hr h=>?_⟩;obtain ⟨B,A,M,R,st,tv,M',rfl,m,es,ef,ok,q⟩:=h;have hr4:=hr;refine ⟨_,(zg (zS (zI LC hr4 (by rfl) zy (zb (pv 0) (zb (pv 1) (zb Zy ze)))))),?_⟩;exact ⟨_,rfl,_,rfl,false,B,A,M,R,st,tv,M',rfl,m,es,ef,ok,q⟩
theorem ok_other {c:MCs} (d:zw K mg "play_other" yU ["bench","step"]) (LC:Ok P w K mg base CX0 4 "lay_chosen" ["bench","step","nought"] (spLC c)):Ok P w K mg base CX0 5 "play_other" ["bench","step"] (spEf c (xE true)):=by
 obtain ⟨g,fd,m,F,b⟩:=d;refine ⟨g,fd,m,F.kp,b,F.ok Xn (by rintro vs H Q E ⟨_,_,_,_,_,_,_,rfl,_⟩;rfl) fun cdv A outer s H vs Q E hr h=>?_⟩;obtain ⟨B,A,M,R,st,tv,M',rfl,m,es,ef,ok,q⟩:=h;have hr4:=hr;refine ⟨_,(zg (zS (zI LC hr4 (by rfl) zy (zb (pv 0) (zb (pv 1) (zb Zy ze)))))),?_⟩;exact ⟨_,rfl,_,rfl,true,B,A,M,R,st,tv,M',rfl,m,es,ef,ok,q⟩
end
abbrev Tch:=Int×Str×Int
abbrev DT:=List Int×List Tch
def x4 (ds:List Int) (ps:List (Int×Int)):List Int:=ps.foldl (fun d pr=>d.set pr.1.toNat pr.2) ds
theorem YN (ps:List (Int×Int)) (ds:List Int):(x4 ds ps).length=ds.length:=by
 induction ps generalizing ds with
 | nil=>rfl
 | cons p ps ih=>show (x4 (ds.set _ _) ps).length=_;rw [ih,List.length_set]
theorem zg7 (M:Mc) (q:Nat) (ps:List (Int×Int)):(M.puts q ps).cells=x4 M.cells (ps.map fun p=>(M.adr q p.1,p.2)):=by
 induction ps generalizing M with
 | nil=>rfl
 | cons p ps ih=>exact ih (M.wrote q p.1 p.2)
def wid (many side b:Int):Nat:=(min many (b+side)-b).toNat
structure InS (S LN:List Int) (L pl:Nat) (many group b:Int) (k:Nat) (s:DT) (M:Mc):Prop where
 ok:MOk M
 wle:M.width<=(wid many (group*L) b:Nat)
 begun:M.begun=(wid many (group*L) b:Nat)
 base:M.base=b
 pc:M.pc=((pl+k:Nat):Int)
 opened:M.opened=(pl:Nat)
 many:M.many=many
 group:M.group=group
 lanes:M.lanes=L
 rf:M.refusal=none
 starts:M.starts=S
 lens:M.lens=LN
 cells:M.cells=s.1
 touches:M.touches=s.2
structure StripAt (S LN:List Int) (L pl:Nat) (many group b:Int) (s:DT) (M:Mc):Prop where
 i:InS S LN L pl many group b 1 s M
 act:M.act 0=xZ (wid many (group*L) b)
 flt:M.faults=[]
 cut:M.cut=none
structure RestAt (S LN:List Int) (L:Nat) (pc:Nat) (s:DT) (M:Mc):Prop where
 ok:MOk0 M
 lanes:M.lanes=L
 rf:M.refusal=none
 starts:M.starts=S
 lens:M.lens=LN
 pc:M.pc=pc
 cells:M.cells=s.1
 touches:M.touches=s.2
theorem told_in (g:Int->Int) {j:Int}:∀ (js:List Int) (kvs:List (Key×V)),(j∈js∨y8 kvs (.inl j)=some (.int (g j)))->y8 (putAll kvs (js.map fun j=>((.inl j:Key),V.int (g j)))) (.inl j)=some (.int (g j))
 | [],kvs,h=>by
  rcases h with h | h
  ·cases h
  ·exact h
 | i::js,kvs,h=>by
  show y8 (putAll (putK kvs (.inl i) (.int (g i))) _) _=_;refine told_in g js _ ?_;by_cases e:j=i
  ·right;rw [YG,e,if_pos rfl]
  ·rcases h with h | h
   ·rcases List.mem_cons.mp h with h | h
    ·exact absurd h e
    ·exact .inl h
   ·right
    rw [YG,if_neg (fun z=>e (Sum.inl.inj z))];exact h
theorem told_mem (g:Int->Int) {js:List Int} {j:Int} (h:j∈js):y8 (xy js (js.map fun j=>some (g j))) (.inl j)=some (.int (g j)):=by
 have e:(js.map Sum.inl).zip ((js.map fun j=>some (g j)).map oV)=js.map fun j=>((.inl j:Key),V.int (g j)):=by
  rw [List.map_map,List.zip_map'];rfl
 unfold xy;rw [e];exact told_in g js [] (.inl h)
theorem layTo_off (told:List (Key×V)) (p:Nat) (M:Mc) (n i:Nat) (h:∀ t:Nat,t<n->((p:Int)*M.group*M.lanes+t).toNat≠i):(M.layTo told p n).nums.getD i 0=M.nums.getD i 0:=by
 induction n with
 | zero=>rfl
 | succ n ih =>
  have s:=M.layTo_same told p n;have hn:=h n (by omega);rw [M.layTo_succ]
  have e2:((M.layTo told p n).layOne told p n).nums.getD i 0=(M.layTo told p n).nums.getD i 0:=by
   unfold Mc.layOne
   split
   ·show (List.set _ _ _).getD _ 0=_
    rw [List.getD_eq_getElem?_getD,List.getElem?_set_ne (by rw [s.g,s.l];exact hn),← List.getD_eq_getElem?_getD]
   ·show (List.set _ _ _).getD _ 0=_
    rw [List.getD_eq_getElem?_getD,List.getElem?_set_ne (by rw [s.g,s.l];exact hn),← List.getD_eq_getElem?_getD]
  rw [e2];exact ih fun t ht=>h t (by omega)
theorem zf2 {g L p q j t:Int} (g0:1<=g) (l1:1<=L) (ne:p≠q) (j0:0<=j) (j1:j<g*L) (t0:0<=t) (t1:t<g*L):p*g*L+t≠q*g*L+j:=by
 intro z;rw [Int.mul_assoc,Int.mul_assoc] at z;generalize g*L=x at *;rcases Int.lt_or_gt_of_ne ne with h | h
 ·have a:(p+1)*x<=q*x:=Int.mul_le_mul_of_nonneg_right (by omega) (by omega)
  rw [Int.add_mul] at a;omega
 ·have a:(q+1)*x<=p*x:=Int.mul_le_mul_of_nonneg_right (by omega) (by omega)
  rw [Int.add_mul] at a;omega
section
variable {Lx:Lex} {S LN:List Int} {L pl k:Nat} {many group b:Int} {s:DT} {M:Mc}
theorem InS.one {code:List (List V)} {tv:List V} {M':Mc} (h:InS S LN L pl many group b k s M) (c:code[pl+k]?=some tv) (st:Step Lx tv M M'):Steps Lx code 1 M M' :=
 .cons (by rw [h.pc];exact Int.natCast_nonneg _) h.rf (by rw [h.pc,Int.toNat_natCast];exact c) st .refl
theorem InS.mem (h:InS S LN L pl many group b k s M) {m:Nat} {j:Int} (hj:j∈M.act m):0<=j/\j<group*L/\b+j<many:=by
 have a:=Mc.act_mem hj;have w:=h.wle;have w0:=h.ok.w0;unfold wid at w;omega
theorem InS.len (h:InS S LN L pl many group b k s M) (m:Nat):(M.act m).length<=wid many (group*L) b:=by
 have a:=M.actTo_len m M.width.toNat;have w:=h.wle;have w0:=h.ok.w0;unfold Mc.act;omega
theorem InS.seat {word:Str} {f:FnM} {tv:List V} {p m:Nat} {T':List Tch} {g:Int->Int} (h:InS S LN L pl many group b k s M) (hS:Lx.S word f) (h0:tv[0]?=some (.str word)) (h1:tv[1]?=some (.int p)) (hl:tv.getLast?=some (.int m)) (p8:((p:Int)+1)*group<=8) (m16:m<16)
  (ef:f tv M (M.act m)=some ({ M with touches:=M.touches++T' },(M.act m).map fun j=>some (g j))) :
  ∃ M',Step Lx tv M M'/\InS S LN L pl many group b (k+1) (s.1,s.2++T') M'/\(M'.width=M.width/\M'.faults=M.faults)/\(∀ m',M'.act m'=M.act m')/\(∀ j∈M.act m,M'.numAt p j=g j)/\(∀ (p':Nat) (j:Int),p'≠p->0<=j->j<group*L->M'.numAt p' j=M.numAt p' j):=by
 have l1:=h.ok.l1;have hg:=h.ok.g;have w0:=h.ok.w0;have w1:=h.ok.w1;have hL:=h.lanes;have hG:=h.group;have g1:1<=group:=by rw [← hG];omega
 generalize hN0:({ M with touches:=M.touches++T' }:Mc)=N0 at ef
 have ese:seatM f tv M=some (N0.laidSeat (xy (M.act m) ((M.act m).map fun j=>some (g j))) p):=by
  unfold seatM;rw [h1,hl];show (if _ then _ else _)=_;rw [if_pos ⟨by omega,by rw [hG];exact p8,by omega,by omega⟩,Int.toNat_natCast,Int.toNat_natCast,ef];rfl
 have st1:=Step.seat hS h0 ese h.ok;unfold Mc.laidSeat at st1;have gN0:N0.group=M.group:=by rw [← hN0]
 have lN0:N0.lanes=M.lanes:=by rw [← hN0]
 have rm:N0.room=(group*(L:Int)).toNat:=by unfold Mc.room;rw [gN0,lN0,hG,hL]
 have hin:∀ t:Nat,t<N0.room->0<=(p:Int)*N0.group*N0.lanes+t/\((p:Int)*N0.group*N0.lanes+t).toNat<N0.nums.length:=fun t ht=>by
  rw [gN0,lN0];rw [rm] at ht;have:=zco hg (show (1:Int)<=M.lanes by omega) (show (0:Int)<=p by omega) (by rw [hG];exact p8) (show (0:Int)<=t by omega) (by rw [hG,hL];omega);have e:N0.nums.length=8*M.lanes:=by rw [← hN0];exact h.ok.nl
  rw [e];omega
 have eN:=layTo_is (xy (M.act m) ((M.act m).map fun j=>some (g j))) p N0 N0.room;have hlen:=(N0.layTo_same (xy (M.act m) ((M.act m).map fun j=>some (g j))) p N0.room).n
 have hat:∀ j∈M.act m,(N0.layTo (xy (M.act m) ((M.act m).map fun j=>some (g j))) p N0.room).numAt p j=g j:=fun j hj=>by
  have a:=h.mem hj;obtain ⟨jn,rfl⟩:∃ n:Nat,j=n:=⟨j.toNat,by omega⟩;exact layTo_at _ p _ _ jn _ (by rw [rm];omega) hin (told_mem g hj)
 have hoff:∀ (p':Nat) (j:Int),p'≠p->0<=j->j<group*L->(N0.layTo (xy (M.act m) ((M.act m).map fun j=>some (g j))) p N0.room).nums.getD ((p':Int)*group*L+j).toNat 0=M.nums.getD ((p':Int)*group*L+j).toNat 0:=fun p' j ne j0 j1=>by
  have:=layTo_off (xy (M.act m) ((M.act m).map fun j=>some (g j))) p N0 N0.room ((p':Int)*group*L+j).toNat fun t ht z=>by
   have t2:=hin t ht;rw [rm] at ht;rw [gN0,lN0,hG,hL] at z t2;have ap:=zf2 (p:=(p:Int)) (q:=(p':Int)) (L:=(L:Int)) g1 (by omega) (fun y=>ne (by omega)) j0 j1 (show (0:Int)<=t by omega) (by omega);have pos:0<=(p':Int)*group*L:=Int.mul_nonneg (Int.mul_nonneg (by omega) (by omega)) (by omega);omega
  rw [this,← hN0]
 generalize N0.layTo (xy (M.act m) ((M.act m).map fun j=>some (g j))) p N0.room=N at *
 have eN1:({ N with pc:=N.pc+1 }:Mc)={ M with nums:=N.nums,dq:=N.dq,touches:=M.touches++T',pc:=((pl+(k+1):Nat):Int) }:=by
  have e2:N.pc+1=((pl+(k+1):Nat):Int):=by rw [eN,← hN0];show M.pc+1=_;rw [h.pc];omega
  rw [e2,eN,← hN0]
 have gN:N.group=M.group:=by rw [eN];exact gN0
 have lN:N.lanes=M.lanes:=by rw [eN];exact lN0
 rw [eN1] at st1;refine ⟨_,st1,⟨⟨h.ok.l1,h.ok.l64,h.ok.g,?_,h.ok.ml,h.ok.mm,w0,w1⟩,h.wle,h.begun,h.base,rfl,h.opened,h.many,hG,hL,h.rf,h.starts,h.lens,h.cells,?_⟩,⟨rfl,rfl⟩,fun _=>rfl,fun j hj=>?_,fun p' j ne j0 j1=>?_⟩
 ·show N.nums.length=_
  rw [hlen,← hN0];exact h.ok.nl
 ·show M.touches++T'=_
  rw [h.touches]
 ·have:=hat j hj
  unfold Mc.numAt at this ⊢;rw [gN,lN] at this;exact this
 ·have:=hoff p' j ne j0 j1
  unfold Mc.numAt;show N.nums.getD ((p':Int)*M.group*M.lanes+j).toNat 0=M.nums.getD ((p':Int)*M.group*M.lanes+j).toNat 0;rw [hG,hL];exact this
theorem sel_out (js:List Int) (m:List Bool) (j:Nat) (h:∀ i∈js,i.toNat≠j):(sel m js).getD j false=m.getD j false:=by
 induction js generalizing m with
 | nil=>rfl
 | cons i js ih =>
  show (sel (m.set i.toNat true) js).getD j false=_;rw [ih _ fun i hi=>h i (List.mem_cons_of_mem _ hi),List.getD_eq_getElem?_getD,List.getElem?_set_ne (h i List.mem_cons_self),← List.getD_eq_getElem?_getD]
theorem clr_lt (m:List Bool) (n j:Nat) (h:j<n):(clr m n).getD j false=false:=by
 induction n with
 | zero=>omega
 | succ n ih =>
  rw [zgu,List.getD_eq_getElem?_getD];by_cases e:n=j
  ·subst e
   by_cases hl:n<(clr m n).length
   ·rw [List.getElem?_set_self hl];rfl
   ·rw [List.getElem?_eq_none (by rw [List.length_set];omega)];rfl
  ·rw [List.getElem?_set_ne e,← List.getD_eq_getElem?_getD];exact ih (by omega)
theorem laid_act {M:Mc} (ok:MOk M) {m k:Nat} (m16:m<16) (q:Int->Bool):(M.laidMask m ((M.act k).filter q)).act m=(M.act k).filter q/\MOk (M.laidMask m ((M.act k).filter q)):=by
 have w0:=ok.w0;have w1:=ok.w1;have l1:=ok.l1;have rb:M.group*M.lanes<=4*M.lanes:=by rcases ok.g with e | e | e <;> rw [e] <;> omega
 have ml:m<M.masks.length:=by rw [ok.ml];exact m16
 have lm:(M.masks.getD m []).length=4*M.lanes:=by
  rw [List.getD_eq_getElem?_getD,List.getElem?_eq_getElem ml];exact ok.mm _ (List.getElem_mem ml)
 refine ⟨?_,⟨ok.l1,ok.l64,ok.g,ok.nl,?_,fun x hx=>?_,ok.w0,ok.w1⟩⟩
 ·have hm:(M.laidMask m ((M.act k).filter q)).masks.getD m []=M.maskOf m ((M.act k).filter q):=by
   show (M.masks.set m _).getD m []=_;rw [List.getD_eq_getElem?_getD,List.getElem?_set_self ml];rfl
  have hW:(M.laidMask m ((M.act k).filter q)).width=M.width:=rfl;have hF:(M.laidMask m ((M.act k).filter q)).faults=M.faults:=rfl
  have key:∀ j:Nat,j<M.width.toNat->(M.laidMask m ((M.act k).filter q)).isAct m j=(M.isAct k j && q (j:Int)):=fun j hj=>by
   unfold Mc.isAct;rw [hm,hF]
   have e1:(M.maskOf m ((M.act k).filter q)).getD j false=(sel (clr (M.masks.getD m []) M.width.toNat) ((M.act k).filter q)).getD j false:=by
    unfold Mc.maskOf;exact dst_lt _ _ _ _ _ _ hj
   rw [e1];by_cases hin:(j:Int)∈(M.act k).filter q
   ·have hp:=List.mem_filter.mp hin
    have ha:=(Mc.act_mem hp.1).2.2;rw [Int.toNat_natCast] at ha;rw [sel_in _ _ _ (by rw [Zd,lm];omega) (.inl hin),hp.2];unfold Mc.isAct at ha;rw [Bool.and_eq_true] at ha;rw [ha.1,ha.2];rfl
   ·rw [sel_out _ _ _ fun i hi z=>hin (by
     have:=(Mc.act_mem (List.mem_filter.mp hi).1).1;have e:(j:Int)=i:=by omega
     rw [e];exact hi),clr_lt _ _ _ hj]
    rw [Bool.false_and];by_cases ha:M.isAct k j=true
    ·by_cases hq:q (j:Int)=true
     ·exact absurd (List.mem_filter.mpr ⟨List.mem_map.mpr ⟨j,List.mem_filter.mpr ⟨List.mem_range.mpr hj,ha⟩,rfl⟩,hq⟩) hin
     ·rw [Bool.not_eq_true] at hq;rw [hq,Bool.and_false]
    ·rw [Bool.not_eq_true] at ha
     unfold Mc.isAct at ha;rw [ha,Bool.false_and]
  generalize hN:M.laidMask m ((M.act k).filter q)=N at key hW ⊢;unfold Mc.act Mc.actTo;rw [hW,List.filter_map,List.filter_filter];congr 1;refine List.filter_congr fun j hj=>?_;rw [key j (List.mem_range.mp hj),Bool.and_comm];rfl
 ·show (M.masks.set m _).length=16
  rw [List.length_set];exact ok.ml
 ·rcases List.mem_or_eq_of_mem_set hx with hx | rfl
  ·exact ok.mm x hx
  ·show (dst _ _ (sel (clr (M.masks.getD m []) _) _) _ _).length=_
   rw [YE,Z1,Zd,lm];rfl
theorem InS.choose {word:Str} {nought:Bool} {m p k':Nat} (h:InS S LN L pl many group b k s M) (hS:Lx.E word (xE nought)) (p8:((p:Int)+1)*group<=8) (m16:m<16) (k16:k'<16) :
  ∃ M',Step Lx [.str word,.int m,.int p,.int k'] M M'/\InS S LN L pl many group b (k+1) s M'/\(M'.width=M.width/\M'.faults=M.faults)/\M'.act m=M.chosen p k' nought/\(∀ (p':Nat) (j:Int),M'.numAt p' j=M.numAt p' j):=by
 have e:xE nought [.str word,.int m,.int p,.int k'] M=some (M.laidMask m (M.chosen p k' nought)):=by
  unfold xE;show (if _ then _ else _)=_;rw [if_pos ⟨by omega,by omega,by omega,by rw [h.group];exact p8,by omega,by omega⟩];rfl
 obtain ⟨a,o⟩:=laid_act (k:=k') h.ok m16 fun j=>decide (decide (M.numAt p j=0)=nought);refine ⟨_,Step.eff hS rfl e h.ok,⟨⟨o.l1,o.l64,o.g,o.nl,o.ml,o.mm,o.w0,o.w1⟩,h.wle,h.begun,h.base,?_,h.opened,h.many,h.group,h.lanes,h.rf,h.starts,h.lens,h.cells,h.touches⟩,⟨rfl,rfl⟩,a,fun _ _=>rfl⟩;show M.pc+1=_;rw [h.pc];omega
theorem InS.store {q p m:Nat} {F:Int->Int} (h:InS S LN L pl many group b k s M) (hS:Lx.E "store" Zx) (p8:((p:Int)+1)*group<=8) (m16:m<16) (hq:q<S.length) (b0:0<=b) (iq:0<=S.getD q 0/\S.getD q 0+many<=s.1.length) (ht:s.2.length+(M.act m).length<100000) (hn:∀ j∈M.act m,M.numAt p j=F (b+j)) :
  ∃ M',Step Lx [.str "store",.int q,.int p,.int m] M M'/\InS S LN L pl many group b (k+1) (x4 s.1 (((M.act m).map (b+·)).map fun e=>(S.getD q 0+e,F e)),s.2++((M.act m).map (b+·)).map fun e=>(((pl+k:Nat):Int),("write":Str),S.getD q 0+e)) M'/\(M'.width=M.width/\M'.faults=M.faults)/\(∀ m',M'.act m'=M.act m')/\(∀ (p':Nat) (j:Int),M'.numAt p' j=M.numAt p' j):=by
 have est:Zx [.str "store",.int q,.int p,.int m] M=some (M.puts q ((M.act m).map fun j=>(M.base+j,M.numAt p j))):=by
  unfold Zx;refine (if_pos ?_).trans ?_
  rotate_left
  ·rw [Int.toNat_natCast,Int.toNat_natCast];rfl
  ·show _/\_/\_/\_/\_/\rowIn M (Int.toNat q) (M.act (Int.toNat m))/\_+(M.act (Int.toNat m)).length<_
   rw [Int.toNat_natCast,Int.toNat_natCast,h.group,h.touches];refine ⟨by omega,by omega,p8,by omega,by omega,⟨by rw [h.starts];exact hq,fun j hj=>?_⟩,ht⟩;have:=h.mem hj;unfold Mc.adr;rw [h.starts,h.cells,h.base];omega
 have st:=Step.eff (word:="store") hS rfl est h.ok;obtain ⟨pi1,pi2⟩:=M.puts_is q ((M.act m).map fun j=>(M.base+j,M.numAt p j))
 have ec:(M.puts q ((M.act m).map fun j=>(M.base+j,M.numAt p j))).cells=x4 s.1 (((M.act m).map (b+·)).map fun e=>(S.getD q 0+e,F e)):=by
  rw [zg7,h.cells];congr 1;rw [List.map_map,List.map_map];refine List.map_congr_left fun j hj=>?_;show (M.starts.getD q 0+(M.base+j),M.numAt p j)=(S.getD q 0+(b+j),F (b+j));rw [h.starts,h.base,hn j hj]
 have et:M.touches++((M.act m).map fun j=>(M.base+j,M.numAt p j)).map (fun p=>(M.pc,("write":Str),M.adr q p.1))=s.2++((M.act m).map (b+·)).map fun e=>(((pl+k:Nat):Int),("write":Str),S.getD q 0+e):=by
  rw [h.touches];congr 1;rw [List.map_map,List.map_map];refine List.map_congr_left fun j hj=>?_;show (M.pc,("write":Str),M.starts.getD q 0+(M.base+j))=(_,_,S.getD q 0+(b+j));rw [h.starts,h.base,h.pc]
 rw [ec,et] at pi1;generalize M.puts q ((M.act m).map fun j=>(M.base+j,M.numAt p j))=N at *;subst pi1;refine ⟨_,st,⟨⟨h.ok.l1,h.ok.l64,h.ok.g,h.ok.nl,h.ok.ml,h.ok.mm,h.ok.w0,h.ok.w1⟩,h.wle,h.begun,h.base,?_,h.opened,h.many,h.group,h.lanes,h.rf,h.starts,h.lens,rfl,rfl⟩,⟨rfl,rfl⟩,fun _=>rfl,fun _ _=>rfl⟩;show M.pc+1=_;rw [h.pc];omega
theorem InS.load {r p m:Nat} (h:InS S LN L pl many group b k s M) (hS:Lx.S "load" Ys) (p8:((p:Int)+1)*group<=8) (m16:m<16) (hr:r<S.length) (b0:0<=b) (ir:0<=S.getD r 0/\S.getD r 0+many<=s.1.length) (ht:s.2.length+(M.act m).length<100000) :
  ∃ M',Step Lx [.str "load",.int p,.int r,.int m] M M'/\InS S LN L pl many group b (k+1) (s.1,s.2++((M.act m).map (b+·)).map fun e=>(((pl+k:Nat):Int),("read":Str),S.getD r 0+e)) M'/\(M'.width=M.width/\M'.faults=M.faults)/\(∀ m',M'.act m'=M.act m')/\(∀ j∈M.act m,M'.numAt p j=s.1.getD (S.getD r 0+(b+j)).toNat 0)/\(∀ (p':Nat) (j:Int),p'≠p->0<=j->j<group*L->M'.numAt p' j=M.numAt p' j):=by
 have et:M.touches++(M.act m).map (fun j=>(M.pc,("read":Str),M.adr r (M.base+j)))=M.touches++((M.act m).map (b+·)).map fun e=>(((pl+k:Nat):Int),("read":Str),S.getD r 0+e):=by
  congr 1;rw [List.map_map];refine List.map_congr_left fun j hj=>?_;show (M.pc,("read":Str),M.starts.getD r 0+(M.base+j))=(_,_,S.getD r 0+(b+j));rw [h.starts,h.base,h.pc]
 refine h.seat (tv:=[.str "load",.int p,.int r,.int m]) (g:=fun j=>s.1.getD (S.getD r 0+(b+j)).toNat 0) hS rfl rfl rfl p8 m16 ?_;unfold Ys;refine (if_pos ?_).trans ?_
 ·rw [Int.toNat_natCast,h.touches]
  refine ⟨by omega,⟨by rw [h.starts];exact hr,fun j hj=>?_⟩,ht⟩;have:=h.mem hj;unfold Mc.adr;rw [h.starts,h.cells,h.base];omega
 ·rw [Int.toNat_natCast]
  unfold Mc.reads;rw [et];congr 2;refine List.map_congr_left fun j hj=>?_;unfold Mc.valAt Mc.adr;rw [h.starts,h.cells,h.base]
end
def upG (one:Int->DT->DT) (side:Int) (s:DT) (i:Nat):DT:=(List.range i).foldl (fun s (i:Nat)=>one (i*side) s) s
theorem Zw (one:Int->DT->DT) (side:Int) (s:DT) (i:Nat):upG one side s (i+1)=one (i*side) (upG one side s i):=by unfold upG;rw [List.range_succ,List.foldl_append];rfl
theorem wide_wid {M:Mc} {b:Int} (hb:b<=M.many) (hg:0<=M.group*M.lanes):M.wide b=(wid M.many (M.group*M.lanes) b:Nat):=by
 unfold Mc.wide wid
 split <;> omega
theorem YI {S LN:List Int} {L pl:Nat} {many group b:Int} {s:DT} {M:Mc} (ok:MOk0 M) (hg:group=1∨group=2∨group=4) (e1:M.group=group) (e2:M.many=many) (e3:M.lanes=L) (e4:M.opened=pl) (hb:b<=many) (rf:M.refusal=none) (st:M.starts=S) (ln:M.lens=LN) (ce:M.cells=s.1) (to:M.touches=s.2) :
  StripAt S LN L pl many group b s { M.strip b with pc:=pl+1 }:=by
 subst e1 e2 e3;obtain ⟨a,o⟩:=strip_act ok hg hb;have l1:=ok.l1;have gp:0<=M.group*M.lanes:=by rcases hg with e | e | e <;> rw [e] <;> omega
 have ww:=wide_wid hb gp;refine ⟨⟨⟨o.l1,o.l64,o.g,o.nl,o.ml,o.mm,o.w0,o.w1⟩,by show M.wide b<=_;rw [ww];exact Int.le_refl _,ww,rfl,by show (pl:Int)+1=_;omega,e4,rfl,rfl,rfl,rf,st,ln,ce,to⟩,?_,rfl,rfl⟩;show (M.strip b).act 0=_;rw [a,ww,Int.toNat_natCast]
theorem round_gen {Lx:Lex} (hB:Lx.W "begin" zc5) (hX:Lx.W "next" nextW) {code:List (List V)} {S LN:List Int} {L pl n N:Nat} {many group:Int} {one:Int->DT->DT} {I:Nat->DT->Prop} {s:DT} {M:Mc} (h:RestAt S LN L pl s M) (hg:group=1∨group=2∨group=4) (h1:1<=many)
  (c0:code[pl]?=some [.str "begin",.int many,.int group]) (c3:code[pl+(n+1)]?=some [.str "next"]) (hN:∀ i:Nat,i<N↔(i:Int)*(group*L)<many) (i0:I 0 s)
  (go:∀ (i:Nat) (s:DT) (M:Mc),i<N->I i s->StripAt S LN L pl many group (i*(group*L)) s M->∃ k M',Steps Lx code k M M'/\InS S LN L pl many group (i*(group*L)) (n+1) (one (i*(group*L)) s) M'/\I (i+1) (one (i*(group*L)) s)) :
  ∃ k M',Steps Lx code k M M'/\RestAt S LN L (pl+(n+2)) (upG one (group*L) s N) M'/\I N (upG one (group*L) s N):=by
 have l1:=h.ok.l1;have hL:=h.lanes;have sd:1<=group*(L:Int):=by rcases hg with e | e | e <;> rw [e] <;> omega
 have N1:0<N:=(hN 0).mpr (by omega);have low:∀ i:Nat,(0:Int)<=i*(group*L):=fun i=>Int.mul_nonneg (by omega) (by omega);have sc:∀ i:Nat,((i+1:Nat):Int)*(group*L)=i*(group*L)+group*L:=fun i=>by rw [Int.natCast_add,Int.add_mul];show _+1*(group*(L:Int))=_;rw [Int.one_mul]
 have at_i:∀ i:Nat,i<N->∃ k M',Steps Lx code k M M'/\StripAt S LN L pl many group (i*(group*L)) (upG one (group*L) s i) M'/\I i (upG one (group*L) s i):=by
  intro i
  induction i with
  | zero =>
   intro _;have st:Step Lx [.str "begin",.int many,.int group] M { M.round many group with pc:=M.pc+1 }:=Step.way (L:=Lx) (word:="begin") hB rfl ⟨many,group,rfl,rfl,h.ok,hg,by omega,rfl,rfl⟩;have sa:StripAt S LN L pl many group 0 s { ({ M with opened:=M.pc,many:=many,group:=group,carried:=none }:Mc).strip 0 with pc:=pl+1 }:=YI ⟨h.ok.l1,h.ok.l64,h.ok.nl,h.ok.ml,h.ok.mm⟩ hg rfl rfl h.lanes h.pc (by omega) h.rf h.starts h.lens h.cells h.touches;rw [h.pc] at st;refine ⟨1,_,.cons (by rw [h.pc];omega) h.rf (by rw [h.pc,Int.toNat_natCast];exact c0) st .refl,?_,i0⟩;have e:((0:Nat):Int)*(group*L)=0:=by omega
   rw [e];unfold Mc.round;rw [h.pc] at sa ⊢;exact sa
  | succ i ih =>
   intro hi;obtain ⟨k,M1,st,sa,ii⟩:=ih (by omega);have hi1:=(hN (i+1)).mp hi;rw [sc] at hi1;have hl:=low i;have hw:wid many (group*L) (i*(group*L))=(group*(L:Int)).toNat:=by unfold wid;omega
   obtain ⟨k2,M2,st2,e2,i2⟩:=go i _ M1 (by omega) ii sa;have bb:M2.base+M2.begun=((i+1:Nat):Int)*(group*L):=by rw [sc,e2.base,e2.begun,hw];omega
   have st3:Step Lx [.str "next"] M2 { M2.strip (((i+1:Nat):Int)*(group*L)) with pc:=(pl:Int)+1 }:=Step.way (L:=Lx) (word:="next") hX rfl (by
    refine ⟨e2.ok.zero,by rw [e2.group];exact hg,?_⟩;rw [bb,if_pos (by rw [e2.many,sc];exact hi1),e2.opened];exact ⟨rfl,rfl⟩)
   refine ⟨k+k2+1,_,(st.trans st2).trans (e2.one c3 st3),?_,by rw [Zw];exact i2⟩;rw [Zw];exact YI e2.ok.zero hg e2.group e2.many e2.lanes e2.opened (by rw [sc];omega) e2.rf e2.starts e2.lens e2.cells e2.touches
 obtain ⟨k,M1,st,sa,ii⟩:=at_i (N-1) (by omega);have hi0:=(hN (N-1)).mp (by omega);have hi1:¬ ((N-1+1:Nat):Int)*(group*L)<many:=fun z=>by have:=(hN (N-1+1)).mpr z;omega
 rw [sc] at hi1;have hl:=low (N-1);have hw:(wid many (group*L) ((N-1:Nat)*(group*L)):Int)=many-(N-1:Nat)*(group*L):=by unfold wid;omega
 obtain ⟨k2,M2,st2,e2,i2⟩:=go (N-1) _ M1 (by omega) ii sa
 have st3:Step Lx [.str "next"] M2 { M2 with pc:=((pl+(n+2):Nat):Int) }:=by
  refine Step.way (L:=Lx) (word:="next") hX rfl ?_;refine ⟨e2.ok.zero,by rw [e2.group];exact hg,?_⟩;rw [if_neg (by rw [e2.base,e2.begun,e2.many];omega),e2.pc];exact ⟨rfl,by omega⟩
 have eN:N=N-1+1:=by omega
 refine ⟨k+k2+1,_,(st.trans st2).trans (e2.one c3 st3),?_,by rw [eN,Zw];exact i2⟩;rw [eN,Zw];exact ⟨⟨e2.ok.l1,e2.ok.l64,e2.ok.nl,e2.ok.ml,e2.ok.mm⟩,e2.lanes,e2.rf,e2.starts,e2.lens,rfl,e2.cells,e2.touches⟩
inductive LW
 | load (r:Nat)
 | chs (nought:Bool) (m:Nat)
 | here
 | num (v:Int)
 | spr (r:Nat)
 | shf (r:Nat) (b o:Int)
 | sto (q:Nat)
def chWord (nought:Bool):Str:=if nought=true then "other" else "choose"
def LW.tv (p m:Nat):LW->List V
 | .load r=>[.str "load",.int p,.int r,.int m]
 | .chs nought m'=>[.str (chWord nought),.int m',.int p,.int m]
 | .here=>[.str "here",.int p,.int m]
 | .num v=>[.str "number",.int p,.int v,.int m]
 | .spr r=>[.str "spread",.int p,.int r,.int m]
 | .shf r b o=>[.str "shift",.int p,.int r,.int b,.int o,.int m]
 | .sto q=>[.str "store",.int q,.int p,.int m]
def LW.msk (m:Nat):LW->Nat
 | .chs _ m'=>m'
 | _=>m
def tvs (p:Nat):Nat->List LW->List (List V)
 | _,[]=>[]
 | m,w::ws=>w.tv p m::tvs p (w.msk m) ws
structure LSt where
 es:List Int
 F:Option (Int->Int)
 d:DT
def LSt.num (x:LSt) (e:Int):Int:=(x.F.getD fun _=>0) e
def Zc (n i:Int):Bool:=decide (0<=i) && decide (i<n)
def LW.go (S LN:List Int) (at':Int):LW->LSt->LSt
 | .load r,x=>⟨x.es,some fun e=>x.d.1.getD (S.getD r 0+e).toNat 0,(x.d.1,x.d.2++x.es.map fun e=>(at',("read":Str),S.getD r 0+e))⟩
 | .chs nought _,x=>⟨x.es.filter fun e=>decide (decide (x.num e=0)=nought),none,x.d⟩
 | .here,x=>⟨x.es,some fun e=>e,x.d⟩
 | .num v,x=>⟨x.es,some fun _=>v,x.d⟩
 | .spr r,x=>⟨x.es,some fun _=>x.d.1.getD (S.getD r 0).toNat 0,(x.d.1,x.d.2++if x.es=[] then [] else [(at',("read":Str),S.getD r 0)])⟩
 | .shf r b o,x=>⟨x.es,some fun e=>if Zc (LN.getD r 0) (e+b)=true then x.d.1.getD (S.getD r 0+(e+b)).toNat 0 else o,(x.d.1,x.d.2++(x.es.filter fun e=>Zc (LN.getD r 0) (e+b)).map fun e=>(at',("read":Str),S.getD r 0+(e+b)))⟩
 | .sto q,x=>⟨x.es,x.F,(x4 x.d.1 (x.es.map fun e=>(S.getD q 0+e,x.num e)),x.d.2++x.es.map fun e=>(at',("write":Str),S.getD q 0+e))⟩
def goes (S LN:List Int):Int->List LW->LSt->LSt
 | _,[],x=>x
 | a,w::ws,x=>goes S LN (a+1) ws (w.go S LN a x)
theorem LW.go_d (S LN:List Int) (a:Int) (w:LW) (x:LSt):(w.go S LN a x).d.1.length=x.d.1.length/\(w.go S LN a x).d.2.length<=x.d.2.length+x.es.length/\(w.go S LN a x).es.length<=x.es.length/\∀ e∈(w.go S LN a x).es,e∈x.es:=by
 cases w with
 | load r=>exact ⟨rfl,by show (x.d.2++_).length<=_;rw [List.length_append,List.length_map];exact Nat.le_refl _,Nat.le_refl _,fun _ h=>h⟩
 | chs nought m=>exact ⟨rfl,Nat.le_add_right _ _,List.length_filter_le _ _,fun e h=>(List.mem_filter.mp h).1⟩
 | here=>exact ⟨rfl,Nat.le_add_right _ _,Nat.le_refl _,fun _ h=>h⟩
 | num v=>exact ⟨rfl,Nat.le_add_right _ _,Nat.le_refl _,fun _ h=>h⟩
 | spr r =>
  refine ⟨rfl,?_,Nat.le_refl _,fun _ h=>h⟩;show (x.d.2++if x.es=[] then [] else _).length<=_;rw [List.length_append]
  split
  ·exact Nat.le_add_right _ _
  ·rename_i z
   have:0<x.es.length:=List.length_pos_iff.mpr z;show _+1<=_;omega
 | shf r b o =>
  refine ⟨rfl,?_,Nat.le_refl _,fun _ h=>h⟩;show (x.d.2++_).length<=_;rw [List.length_append,List.length_map];have:=List.length_filter_le (fun e=>Zc (LN.getD r 0) (e+b)) x.es;omega
 | sto q=>exact ⟨YN _ _,by show (x.d.2++_).length<=_;rw [List.length_append,List.length_map];exact Nat.le_refl _,Nat.le_refl _,fun _ h=>h⟩
theorem goes_d (S LN:List Int):∀ (ws:List LW) (a:Int) (x:LSt),(goes S LN a ws x).d.1.length=x.d.1.length/\(goes S LN a ws x).d.2.length<=x.d.2.length+ws.length*x.es.length
 | [],a,x=>⟨rfl,Nat.le_add_right _ _⟩
 | w::ws,a,x=>by
  obtain ⟨a1,a2,a3,_⟩:=w.go_d S LN a x;obtain ⟨b1,b2⟩:=goes_d S LN ws (a+1) (w.go S LN a x);refine ⟨b1.trans a1,?_⟩;show (goes S LN (a+1) ws (w.go S LN a x)).d.2.length<=_;have m:=Nat.mul_le_mul_left ws.length a3;rw [List.length_cons,Nat.add_mul,Nat.one_mul];omega
def LW.Fit (S LN:List Int) (many:Int) (nc:Nat):LW->Prop
 | .load r=>r<S.length/\0<=S.getD r 0/\S.getD r 0+many<=nc
 | .chs _ m=>m<16
 | .here=>True
 | .num _=>True
 | .spr r=>r<S.length/\0<=S.getD r 0/\S.getD r 0<nc
 | .shf r _ _=>r<S.length/\r<LN.length/\0<=S.getD r 0/\S.getD r 0+LN.getD r 0<=nc
 | .sto q=>q<S.length/\0<=S.getD q 0/\S.getD q 0+many<=nc
def LW.asks:LW->Bool
 | .chs _ _=>true
 | .sto _=>true
 | _=>false
def LW.gives:LW->Bool
 | .chs _ _=>false
 | _=>true
def Fits (S LN:List Int) (many:Int) (nc:Nat):Bool->List LW->Prop
 | _,[]=>True
 | o,w::ws=>w.Fit S LN many nc/\(w.asks=true->o=true)/\Fits S LN many nc w.gives ws
structure LexOk (Lx:Lex):Prop where
 load:Lx.S "load" Ys
 here:Lx.S "here" hereM
 num:Lx.S "number" numM
 spr:Lx.S "spread" Zp
 shf:Lx.S "shift" ZV
 sto:Lx.E "store" Zx
 chs:∀ nought,Lx.E (chWord nought) (xE nought)
theorem YM (r:Nat) (b o:Int):∀ (js:List Int) (M:Mc),Mc.shAll r b o js M=({ M with touches:=M.touches++(js.filter fun j=>Zc (M.lens.getD r 0) (M.base+j+b)).map fun j=>(M.pc,("read":Str),M.adr r (M.base+j+b)) },js.map fun j=>if Zc (M.lens.getD r 0) (M.base+j+b)=true then M.cells.getD (M.adr r (M.base+j+b)).toNat 0 else o)
 | [],M=>by
  show (M,[])=_;rw [List.filter_nil,List.map_nil,List.append_nil];rfl
 | j::js,M=>by
  show ((Mc.shAll r b o js (M.shOne r (M.base+j+b) o).1).1,(M.shOne r (M.base+j+b) o).2::(Mc.shAll r b o js (M.shOne r (M.base+j+b) o).1).2)=_;unfold Mc.shOne;by_cases z:0<=M.base+j+b/\M.base+j+b<M.lens.getD r 0
  ·have zz:Zc (M.lens.getD r 0) (M.base+j+b)=true:=by unfold Zc;rw [decide_eq_true z.1,decide_eq_true z.2];rfl
   rw [if_pos z,List.filter_cons_of_pos (by exact zz),List.map_cons,List.map_cons,if_pos zz,YM r b o js];show (({ M with touches:=(M.touches++[_])++_ }:Mc),_::_)=_;rw [List.append_assoc];rfl
  ·have zz:¬ Zc (M.lens.getD r 0) (M.base+j+b)=true:=fun y=>z (by unfold Zc at y;rw [Bool.and_eq_true] at y;exact ⟨of_decide_eq_true y.1,of_decide_eq_true y.2⟩)
   rw [if_neg z,List.filter_cons_of_neg (by exact zz),List.map_cons,if_neg zz,YM r b o js]
section
variable {Lx:Lex} {S LN:List Int} {L pl k:Nat} {many group b:Int} {M:Mc}
structure Rl (S LN:List Int) (L pl:Nat) (many group b:Int) (k m p:Nat) (x:LSt) (M:Mc):Prop where
 i:InS S LN L pl many group b k x.d M
 act:(M.act m).map (b+·)=x.es
 num:∀ G,x.F=some G->∀ j∈M.act m,M.numAt p j=G (b+j)
theorem w_go (LK:LexOk Lx) {m p:Nat} {x:LSt} {w:LW} (h:Rl S LN L pl many group b k m p x M) (p8:((p:Int)+1)*group<=8) (m16:m<16) (b0:0<=b) (ft:w.Fit S LN many x.d.1.length) (as':w.asks=true->x.F.isSome=true) (ht:x.d.2.length+x.es.length<100000) :
  ∃ M',Step Lx (w.tv p m) M M'/\Rl S LN L pl many group b (k+1) (w.msk m) p (w.go S LN ((pl+k:Nat):Int) x) M':=by
 have el:(M.act m).length=x.es.length:=by rw [← h.act,List.length_map]
 have hi:=h.i
 cases w with
 | load r =>
  obtain ⟨M',st,i',_,a',n',_⟩:=hi.load (p:=p) (m:=m) LK.load p8 m16 ft.1 b0 ft.2 (by rw [el];exact ht);rw [h.act] at i';refine ⟨M',st,⟨i',(by show (M'.act m).map _=_;rw [a'];exact h.act),fun G e j hj=>?_⟩⟩;cases e;exact n' j (by rw [← a' m];exact hj)
 | chs nought m' =>
  obtain ⟨M',st,i',_,a',n'⟩:=hi.choose (p:=p) (k':=m) (LK.chs nought) p8 ft m16;refine ⟨M',st,⟨i',?_,fun G e=>by cases e⟩⟩;have hs:=as' rfl;obtain ⟨G,hG⟩:=Option.isSome_iff_exists.mp hs;show (M'.act m').map _=x.es.filter _;rw [a',← h.act];unfold Mc.chosen;rw [List.filter_map];congr 1;refine List.filter_congr fun j hj=>?_;show _=decide (decide (x.num (b+j)=0)=nought);have:x.num (b+j)=M.numAt p j:=by unfold LSt.num;rw [hG];exact (h.num G hG j hj).symm
  rw [this]
 | here =>
  obtain ⟨M',st,i',_,a',n',_⟩:=hi.seat (tv:=[.str "here",.int p,.int m]) (T':=[]) (g:=fun j=>M.base+j) LK.here rfl rfl rfl p8 m16 (by unfold hereM;rw [List.append_nil]);rw [List.append_nil] at i';refine ⟨M',st,⟨i',(by show (M'.act m).map _=_;rw [a'];exact h.act),fun G e j hj=>?_⟩⟩;cases e;have:=n' j (by rw [← a' m];exact hj);rw [hi.base] at this;exact this
 | num v =>
  obtain ⟨M',st,i',_,a',n',_⟩:=hi.seat (tv:=[.str "number",.int p,.int v,.int m]) (T':=[]) (g:=fun j=>v) LK.num rfl rfl rfl p8 m16 (by unfold numM;rw [List.append_nil];rfl);rw [List.append_nil] at i';refine ⟨M',st,⟨i',(by show (M'.act m).map _=_;rw [a'];exact h.act),fun G e j hj=>?_⟩⟩;cases e;exact n' j (by rw [← a' m];exact hj)
 | spr r =>
  obtain ⟨M',st,i',_,a',n',_⟩:=hi.seat (tv:=[.str "spread",.int p,.int r,.int m]) (T':=if x.es=[] then [] else [(((pl+k:Nat):Int),("read":Str),S.getD r 0)]) (g:=fun j=>x.d.1.getD (S.getD r 0).toNat 0) LK.spr rfl rfl rfl p8 m16 (by
   unfold Zp;show (if _ then _ else if _ then _ else _)=_;by_cases z:x.es=[]
   ·have za:M.act m=[]:=by rw [z] at el;exact List.length_eq_zero_iff.mp el
    rw [if_pos z,za,if_pos (show ([]:List Int).length=0 from rfl),List.append_nil];rfl
   ·have za:¬ (M.act m).length=0:=fun y=>z (List.length_eq_zero_iff.mp (by rw [← el];exact y))
    obtain ⟨f1,f2,f3⟩:=ft;have ea:M.adr r 0=S.getD r 0:=by unfold Mc.adr;rw [hi.starts,Int.add_zero]
    rw [if_neg z,if_neg za,Int.toNat_natCast,ea,if_pos ⟨by omega,by rw [hi.starts];exact f1,f2,by rw [hi.cells];omega,by rw [hi.touches];omega⟩];unfold Mc.touched;rw [hi.pc,hi.cells])
  refine ⟨M',st,⟨i',(by show (M'.act m).map _=_;rw [a'];exact h.act),fun G e j hj=>?_⟩⟩;cases e;exact n' j (by rw [← a' m];exact hj)
 | shf r b' o =>
  obtain ⟨f1,f2,f3,f4⟩:=ft
  obtain ⟨M',st,i',_,a',n',_⟩:=hi.seat (tv:=[.str "shift",.int p,.int r,.int b',.int o,.int m]) (T':=(x.es.filter fun e=>Zc (LN.getD r 0) (e+b')).map fun e=>(((pl+k:Nat):Int),("read":Str),S.getD r 0+(e+b'))) (g:=fun j=>if Zc (LN.getD r 0) (b+j+b')=true then x.d.1.getD (S.getD r 0+(b+j+b')).toNat 0 else o) LK.shf rfl rfl rfl p8 m16 (by
   unfold ZV;refine (if_pos ?_).trans ?_
   ·rw [Int.toNat_natCast,hi.touches,el]
    exact ⟨by omega,⟨by rw [hi.starts];exact f1,by rw [hi.lens];exact f2,by rw [hi.starts];exact f3,by rw [hi.starts,hi.lens,hi.cells];exact f4⟩,ht⟩
   ·rw [Int.toNat_natCast,YM]
    unfold Mc.adr;rw [hi.lens,hi.base,hi.starts,hi.cells,hi.pc,← h.act,List.filter_map,List.map_map,List.map_map];rfl)
  refine ⟨M',st,⟨i',(by show (M'.act m).map _=_;rw [a'];exact h.act),fun G e j hj=>?_⟩⟩;cases e;exact n' j (by rw [← a' m];exact hj)
 | sto q =>
  have hs:=as' rfl;obtain ⟨G,hG⟩:=Option.isSome_iff_exists.mp hs;have xn:x.num=G:=by unfold LSt.num;rw [hG];rfl
  obtain ⟨M',st,i',_,a',n'⟩:=hi.store (p:=p) (m:=m) (F:=G) LK.sto p8 m16 ft.1 b0 ft.2 (by rw [el];exact ht) (h.num G hG);rw [h.act] at i';refine ⟨M',st,⟨?_,(by show (M'.act m).map _=_;rw [a'];exact h.act),fun G' e j hj=>?_⟩⟩
  ·rw [← xn] at i'
   exact i'
  ·rw [n']
   refine h.num G' e j ?_;rw [← a' m];exact hj
theorem ws_go (LK:LexOk Lx) {code:List (List V)} {p:Nat} (p8:((p:Int)+1)*group<=8) (b0:0<=b):∀ (ws:List LW) (k m:Nat) (x:LSt) (M:Mc),Rl S LN L pl many group b k m p x M->m<16->Fits S LN many x.d.1.length x.F.isSome ws->(∀ i tv,(tvs p m ws)[i]?=some tv->code[pl+(k+i)]?=some tv)->x.d.2.length+ws.length*x.es.length<100000 ->
  ∃ n M',Steps Lx code n M M'/\InS S LN L pl many group b (k+ws.length) (goes S LN ((pl+k:Nat):Int) ws x).d M'
 | [],k,m,x,M,h,_,_,_,_=>⟨0,M,.refl,h.i⟩
 | w::ws,k,m,x,M,h,m16,ft,cd,ht=>by
  obtain ⟨f1,f2,f3⟩:=ft;rw [List.length_cons,Nat.add_mul,Nat.one_mul] at ht;have zz:0<=ws.length*x.es.length:=Nat.zero_le _;obtain ⟨M1,st,h1⟩:=w_go LK h p8 m16 b0 f1 f2 (by omega);obtain ⟨a1,a2,a3,_⟩:=w.go_d S LN ((pl+k:Nat):Int) x;have s1:Steps Lx code 1 M M1:=h.i.one (cd 0 _ rfl) st
  have hm:w.msk m<16:=by
   cases w with
   | chs n m'=>exact f1
   | _=>exact m16
  have e:(w.go S LN ((pl+k:Nat):Int) x).F.isSome=w.gives∨(w.go S LN ((pl+k:Nat):Int) x).F.isSome=true:=by
   cases w with
   | sto q=>right;exact f2 rfl
   | chs=>exact .inl rfl
   | _=>exact .inl rfl
  have mono:∀ ws',Fits S LN many x.d.1.length w.gives ws'->Fits S LN many x.d.1.length (w.go S LN ((pl+k:Nat):Int) x).F.isSome ws':=fun ws' hf=>by
   rcases e with e | e
   ·rw [e];exact hf
   ·rw [e]
    cases ws' with
    | nil=>exact trivial
    | cons=>exact ⟨hf.1,fun _=>rfl,hf.2.2⟩
  have m2:=Nat.mul_le_mul_left ws.length a3;obtain ⟨n,M',st2,i2⟩:=ws_go LK p8 b0 ws (k+1) (w.msk m) _ M1 h1 hm (by rw [a1];exact mono ws f3) (fun i tv hi=>by rw [show pl+(k+1+i)=pl+(k+(i+1)) by omega];exact cd (i+1) tv hi) (by omega);refine ⟨1+n,M',s1.trans st2,?_⟩;have e3:((pl+(k+1):Nat):Int)=((pl+k:Nat):Int)+1:=by omega
  rw [e3] at i2;rw [List.length_cons,show k+(ws.length+1)=k+1+ws.length by omega];exact i2
end
def xC (many side b:Int):List Int:=(xZ (wid many side b)).map (b+·)
theorem XJ (many side b:Int):(xC many side b).length=wid many side b:=by unfold xC xZ;rw [List.length_map,List.length_map,List.length_range]
def oneW (S LN:List Int) (pl:Nat) (many side:Int) (ws:List LW) (b:Int) (s:DT):DT:=(goes S LN ((pl+1:Nat):Int) ws ⟨xC many side b,none,s⟩).d
theorem round_ws {Lx:Lex} (LK:LexOk Lx) (hB:Lx.W "begin" zc5) (hX:Lx.W "next" nextW) {code:List (List V)} {S LN:List Int} {L pl N p:Nat} {many group:Int} {ws:List LW} {s:DT} {M:Mc} (h:RestAt S LN L pl s M) (hg:group=1∨group=2∨group=4) (h1:1<=many) (p8:((p:Int)+1)*group<=8)
  (c0:code[pl]?=some [.str "begin",.int many,.int group]) (cs:∀ i tv,(tvs p 0 ws)[i]?=some tv->code[pl+(1+i)]?=some tv) (c3:code[pl+(ws.length+1)]?=some [.str "next"]) (hN:∀ i:Nat,i<N↔(i:Int)*(group*L)<many) (ft:Fits S LN many s.1.length false ws) (w4:ws.length<=4) (ht:s.2.length+4*many<100000) :
  ∃ k M',Steps Lx code k M M'/\RestAt S LN L (pl+(ws.length+2)) (upG (oneW S LN pl many (group*L) ws) (group*L) s N) M':=by
 have l1:=h.ok.l1;have hL:=h.lanes;have sd:1<=group*(L:Int):=by rcases hg with e | e | e <;> rw [e] <;> omega
 obtain ⟨k,M',a,b,_⟩:=round_gen hB hX (n:=ws.length) (one:=oneW S LN pl many (group*L) ws) (I:=fun i t=>t.1.length=s.1.length/\(t.2.length:Int)<=s.2.length+4*min many (i*(group*L))) h hg h1 c0 c3 hN ⟨rfl,by rw [show ((0:Nat):Int)*(group*L)=0 by omega];omega⟩ (fun i t M2 hi I2 sa=>by
  have hib:=(hN i).mp hi;have ib0:(0:Int)<=i*(group*L):=Int.mul_nonneg (by omega) (by omega);have sc:((i+1:Nat):Int)*(group*L)=i*(group*L)+group*L:=by rw [Int.natCast_add,Int.add_mul];show _+1*(group*(L:Int))=_;rw [Int.one_mul]
  rw [sc];generalize (i:Int)*(group*L)=bb at *;obtain ⟨I1,I2⟩:=I2;have wb:(wid many (group*L) bb:Int)=min many (bb+group*L)-bb:=by unfold wid;omega
  have el:=XJ many (group*L) bb;have rl:Rl S LN L pl many group bb 1 0 p ⟨xC many (group*L) bb,none,t⟩ M2:=⟨sa.i,by rw [sa.act];rfl,fun G e=>by cases e⟩;have wm:ws.length*(xC many (group*L) bb).length<=4*wid many (group*L) bb:=by rw [el];exact Nat.mul_le_mul_right _ w4
  obtain ⟨n,M3,st,i3⟩:=ws_go LK (code:=code) p8 ib0 ws 1 0 _ M2 rl (by decide) (by show Fits S LN many t.1.length false ws;rw [I1];exact ft) cs (by show t.2.length+ws.length*(xC many (group*L) bb).length<_;omega);obtain ⟨d1,d2⟩:=goes_d S LN ws ((pl+1:Nat):Int) ⟨xC many (group*L) bb,none,t⟩;have d2:(oneW S LN pl many (group*L) ws bb t).2.length<=t.2.length+ws.length*(xC many (group*L) bb).length:=d2;refine ⟨n,M3,st,by rw [Nat.add_comm ws.length 1];exact i3,d1.trans I1,by omega⟩)
 exact ⟨k,M',a,b⟩
end K43
namespace K43
open PySem L2 FM
structure KF (K:PySem.W.Frag) (C:Addr):Prop where
 cl:Cls K C
 k1:PySem.W.findIn K (.ref C) "__class__"=some (some (.builtin "object.__class__"))
 k2:PySem.W.specialIn K (.builtin "object.__class__") "__get__"=some (some (.builtin "getset_descriptor.__get__"))
 k3:PySem.W.takesIn K (.builtin "object.__class__")=some true
 k4:PySem.W.mroIn K C (.type "object")=some true
theorem KF.ty {K:PySem.W.Frag} {C:Addr} (s:KF K C) {H:Hp} {x dx:Addr} {fl:List (Str×V)} (h:H x=some (.ins C dx fl)):TyX K H (.ref x) (.ref C):=.inl (.ins h s.cl s.k1 s.k2 s.k3 s.k4)
structure FormG (mg:Str->Option Value) (c:F2.Cs):Prop where
 at':mg "At"=some (.ref c.at')
 pair:mg "Pair"=some (.ref c.pair)
 cho:mg "Choice"=some (.ref c.cho)
 call:mg "Call"=some (.ref c.call)
 num:mg "Number"=some (.ref c.num)
 here:mg "Here"=some (.ref c.here)
 cell:mg "Cell"=some (.ref c.cell)
 shi:mg "Shifted"=some (.ref c.shi)
abbrev isK (K:PySem.W.Frag) (C D:Addr) (b:Bool):Prop:=PySem.W.kitOne K (.ref C) (.ref D)=some b
structure LeafC (K:PySem.W.Frag) (c:F2.Cs) (C:Addr) (n h e s:Bool):Prop where
 k:KF K C
 a:isK K C c.at' false
 p:isK K C c.pair false
 o:isK K C c.cho false
 u:isK K C c.call false
 n:isK K C c.num n
 h:isK K C c.here h
 e:isK K C c.cell e
 s:isK K C c.shi s
structure LeafK (K:PySem.W.Frag) (c:F2.Cs):Prop where
 num:LeafC K c c.num true false false false
 here:LeafC K c c.here false true false false
 cell:LeafC K c c.cell false false true false
 shi:LeafC K c c.shi false false false true
 n1:NoAttr K c.num "number"
 c1:NoAttr K c.cell "row"
 s1:NoAttr K c.shi "row"
 s2:NoAttr K c.shi "by"
 s3:NoAttr K c.shi "other"
inductive Leaf
 | num (n:Int)
 | here
 | cell (r:Nat)
 | shi (r:Nat) (b o:Int)
def Leaf.cls (c:F2.Cs):Leaf->Addr
 | .num _=>c.num
 | .here=>c.here
 | .cell _=>c.cell
 | .shi _ _ _=>c.shi
def Leaf.fl:Leaf->List (Str×V)
 | .num n=>[("number",.int n)]
 | .here=>[]
 | .cell r=>[("row",.int r)]
 | .shi r b o=>[("row",.int r),("by",.int b),("other",.int o)]
def LeafAt (c:F2.Cs) (H:Hp) (F:Leaf) (x:Addr):Prop:=∃ dx,H x=some (.ins (F.cls c) dx F.fl)
theorem LeafAt.same {c:F2.Cs} {H H':Hp} {F:Leaf} {x:Addr} (h:LeafAt c H F x) (s:Same H H'):LeafAt c H' F x:=by
 obtain ⟨dx,e⟩:=h;exact ⟨dx,s _ _ e⟩
def Leaf.kinds:Leaf->Bool×Bool×Bool×Bool
 | .num _=>(true,false,false,false)
 | .here=>(false,true,false,false)
 | .cell _=>(false,false,true,false)
 | .shi _ _ _=>(false,false,false,true)
theorem LeafK.of {K:PySem.W.Frag} {c:F2.Cs} (L:LeafK K c) (F:Leaf):LeafC K c (F.cls c) F.kinds.1 F.kinds.2.1 F.kinds.2.2.1 F.kinds.2.2.2:=by
 cases F with
 | num n=>exact L.num
 | here=>exact L.here
 | cell r=>exact L.cell
 | shi r b o=>exact L.shi
def Leaf.tv (lens:List Int) (p mk:Int):Leaf->List V
 | .num n=>[.str "number",.int p,.int n,.int mk]
 | .here=>[.str "here",.int p,.int mk]
 | .cell r=>if lens.getD r 0=1 then [.str "spread",.int p,.int r,.int mk] else [.str "load",.int p,.int r,.int mk]
 | .shi r b o=>[.str "shift",.int p,.int r,.int b,.int o,.int mk]
def Leaf.In (lens:List Int):Leaf->Prop
 | .cell r=>r<lens.length
 | _=>True
structure QCs where
 ma:Addr
 ai:Addr
 let_:Addr
 put:Addr
 fold:Addr
 till:Addr
 pr:Addr
structure MakerC (K:PySem.W.Frag) (C:Addr):Prop where
 c:Cls K C
 n0:NoAttr K C "lengths"
 n1:NoAttr K C "functions"
 n2:NoAttr K C "seats"
 n3:NoAttr K C "code"
 n4:NoAttr K C "free_slot"
structure AimC (K:PySem.W.Frag) (C:Addr):Prop where
 c:Cls K C
 n0:NoAttr K C "seat"
 n1:NoAttr K C "mask"
 n2:NoAttr K C "level"
 n3:NoAttr K C "own"
def mkFl (le fu:Addr) (se:Int) (cd:Addr) (fs:Int):List (Str×V):=[("lengths",.ref le),("functions",.ref fu),("seats",.int se),("code",.ref cd),("free_slot",.int fs)]
def Xh (p mk lv:Int) (ow:V):List (Str×V):=[("seat",.int p),("mask",.int mk),("level",.int lv),("own",ow)]
section
variable {P:Program} {w:World} {K:PySem.W.Frag} {mg:Str->Option Value} {base:Heap}
def spNo:Sp:=fun _ _ _ _=>False
theorem ZA {x:Str} {st:Stmt} {N ps:List Str} (d:zw K mg x st ps) (S:FnScope N ps (zc st)):Ok P w K mg base CX0 1 x ps spNo:=by
 obtain ⟨g,fd,m,F,b⟩:=d;exact ⟨g,fd,m,F.kp,b,F.ok S (fun _ _ _ _ h=>h.elim) fun _ _ _ _ _ _ _ _ _ h=>h.elim⟩
def spSeats (c:F2.Cs):Sp:=fun vs H Q _=>∃ (x:Addr) (fu:V) (F:Leaf),vs=[.ref x,fu]/\LeafAt c H F x/\Q (.int 1) H
theorem ok_seats {c:F2.Cs} (d:zw K mg "seats_for" xc ["form","functions"]) (hisi:mg "isinstance"=none) (hmax:mg "max"=none) (G:FormG mg c) (L:LeafK K c) (S0:Ok P w K mg base CX0 1 "seats_for" ["form","functions"] spNo) (N2:Ok P w K mg base CX0 1 "seats_for_two" ["first","second","functions"] spNo) (NC:Ok P w K mg base CX0 1 "seats_for_call" ["form","functions"] spNo):Ok P w K mg base CX0 2 "seats_for" ["form","functions"] (spSeats c):=by
 obtain ⟨g,fd,m,F,b⟩:=d;refine ⟨g,fd,m,F.kp,b,F.ok sc_seats_for (by rintro vs H Q E ⟨_,_,_,rfl,_⟩;rfl) fun cdv A outer s H vs Q E hr h=>?_⟩;obtain ⟨x,fu,F,rfl,⟨dx,hx⟩,q⟩:=h;have nd:=sc_seats_for.nd;have hr1:=hr;have s:=L.of F;refine ⟨_,(zd (zK (z7 (zt zD (by rfl) hisi PyProof.Rows.boot_isinstance (zb (pv 0) (zb (zZ G.at') ze)))) (zg (zn (zI S0 hr1 (by rfl) zy (zb (zi (pv 0) rfl) (zb (pv 1) ze))))) zu)
   (zd (zK (z7 (zt zD (by rfl) hisi PyProof.Rows.boot_isinstance (zb (pv 0) (zb (zZ G.pair) ze)))) (zg (zn (zI N2 hr1 (by rfl) zy (zb (zi (pv 0) rfl) (zb (zi (pv 0) rfl) (zb (pv 1) ze)))))) zu)
   (zd (zK (z7 (zt zD (by rfl) hisi PyProof.Rows.boot_isinstance (zb (pv 0) (zb (zZ G.cho) ze)))) (zg (zn (zt (XO rfl) (by rfl) hmax PyProof.Rows.boot_max (zb (zI S0 hr1 (by rfl) zy (zb (zi (pv 0) rfl) (zb (pv 1) ze))) (zb (zI N2 hr1 (by rfl) zy (zb (zi (pv 0) rfl) (zb (zi (pv 0) rfl) (zb (pv 1) ze)))) ze))))) zu)
   (zd (zK (z7 (zt zD (by rfl) hisi PyProof.Rows.boot_isinstance (zb (pv 0) (zb (zZ G.call) ze)))) (zg (zn (zI NC hr1 (by rfl) zy (zb (pv 0) (zb (pv 1) ze))))) zu)
   (zg (zn zf)))))),?_⟩
 refine ⟨_,rfl,_,_,.ref c.at',_,false,rfl,rfl,(fun u r=>r),s.k.ty hx,s.a,false,rfl,yx ?_⟩;refine ⟨_,rfl,_,_,.ref c.pair,_,false,rfl,rfl,(fun u r=>r),s.k.ty hx,s.p,false,rfl,yx ?_⟩;refine ⟨_,rfl,_,_,.ref c.cho,_,false,rfl,rfl,(fun u r=>r),s.k.ty hx,s.o,false,rfl,yx ?_⟩;refine ⟨_,rfl,_,_,.ref c.call,_,false,rfl,rfl,(fun u r=>r),s.k.ty hx,s.u,false,rfl,yx ?_⟩;exact q
def YL (c:F2.Cs) (q:QCs) (K:PySem.W.Frag):Sp:=fun vs H Q _=>∃ (m x a dm da dx:Addr) (le fu cd:Addr) (se fs p mk lv:Int) (ow:V) (lens:List Int) (r:Nat),vs=[.ref m,.ref x,.ref a]/\H m=some (.ins q.ma dm (mkFl le fu se cd fs))/\H a=some (.ins q.ai da (Xh p mk lv ow))/\H x=some (.ins c.cell dx [("row",.int r)])/\SqL K H le (lens.map V.int)/\r<lens.length /\
 ∀ t,H t=none->Q (.ref t) (upd H t (.tup (Leaf.tv lens p mk (.cell r))))
theorem zgd {c:F2.Cs} {q:QCs} (d:zw K mg "cell_step" xq ["maker","form","aim"]) (L:LeafK K c) (MC:MakerC K q.ma) (AC:AimC K q.ai):Ok P w K mg base CX0 1 "cell_step" ["maker","form","aim"] (YL c q K):=by
 obtain ⟨g,fd,m,F,b⟩:=d;refine ⟨g,fd,m,F.kp,b,F.ok sc_cell_step (by rintro vs H Q E ⟨_,_,_,_,_,_,_,_,_,_,_,_,_,_,_,_,_,rfl,_⟩;rfl) fun cdv A outer s H vs Q E hr h=>?_⟩;obtain ⟨m,x,a,dm,da,dx,le,fu,cd,se,fs,p,mk,lv,ow,lens,r,rfl,hm,ha,hx,hl,rl,k⟩:=h;have nd:=sc_cell_step.nd;refine ⟨_,(zd (zK (zG yO (zB zM (zi (pv 0) rfl) (zi (pv 1) rfl) (fun _ _=>rfl)) zf (zJ _)) (zg (zn (yy (zb yk (zb (zi (pv 2) rfl) (zb (zi (pv 1) rfl) (zb (zi (pv 2) rfl) ze))))))) zu)
   (zg (zn (yy (zb yk (zb (zi (pv 2) rfl) (zb (zi (pv 1) rfl) (zb (zi (pv 2) rfl) ze)))))))),?_⟩
 refine ⟨_,rfl,m,_,dm,_,.ref le,rfl,hm,MC.c,MC.n0,rfl,_,rfl,x,_,dx,_,.int r,rfl,hx,L.cell.k.cl,L.c1,rfl,le,_,_,_,rfl,rfl,hl,xa r rl rfl,rfl,_,rfl,?_⟩;refine y6 (fun z=>?_) (fun z=>?_)
 ·have z:lens.getD r 0=1:=V.int.inj (of_decide_eq_true z)
  refine ⟨_,rfl,a,_,da,_,.int p,rfl,ha,AC.c,AC.n0,rfl,_,rfl,x,_,dx,_,.int r,rfl,hx,L.cell.k.cl,L.c1,rfl,_,rfl,a,_,da,_,.int mk,rfl,ha,AC.c,AC.n1,rfl,(by show 4<=sizeLine;decide),fun t nt=>?_⟩;have e:Leaf.tv lens p mk (.cell r)=[.str "spread",.int p,.int r,.int mk]:=if_pos z;rw [e] at k;exact k t nt
 ·have z:¬ lens.getD r 0=1:=fun y=>z (decide_eq_true (congrArg V.int y))
  refine ⟨_,rfl,a,_,da,_,.int p,rfl,ha,AC.c,AC.n0,rfl,_,rfl,x,_,dx,_,.int r,rfl,hx,L.cell.k.cl,L.c1,rfl,_,rfl,a,_,da,_,.int mk,rfl,ha,AC.c,AC.n1,rfl,(by show 4<=sizeLine;decide),fun t nt=>?_⟩;have e:Leaf.tv lens p mk (.cell r)=[.str "load",.int p,.int r,.int mk]:=if_neg z;rw [e] at k;exact k t nt
def YJ (c:F2.Cs) (q:QCs) (K:PySem.W.Frag):Sp:=fun vs H Q _=>∃ (m x a dm da:Addr) (le fu cd:Addr) (se fs p mk lv:Int) (ow:V) (lens:List Int) (F:Leaf),vs=[.ref m,.ref x,.ref a]/\H m=some (.ins q.ma dm (mkFl le fu se cd fs))/\H a=some (.ins q.ai da (Xh p mk lv ow))/\LeafAt c H F x/\SqL K H le (lens.map V.int)/\F.In lens /\
 ∀ t,H t=none->Q (.ref t) (upd H t (.tup (F.tv lens p mk)))
theorem zgc {c:F2.Cs} {q:QCs} (d:zw K mg "leaf_step" xj ["maker","form","aim"]) (hisi:mg "isinstance"=none) (G:FormG mg c) (L:LeafK K c) (MC:MakerC K q.ma) (AC:AimC K q.ai) (CS:Ok P w K mg base CX0 1 "cell_step" ["maker","form","aim"] (YL c q K)):Ok P w K mg base CX0 2 "leaf_step" ["maker","form","aim"] (YJ c q K):=by
 obtain ⟨g,fd,m,F,b⟩:=d;refine ⟨g,fd,m,F.kp,b,F.ok sc_leaf_step (by rintro vs H Q E ⟨_,_,_,_,_,_,_,_,_,_,_,_,_,_,_,_,rfl,_⟩;rfl) fun cdv A outer s H vs Q E hr h=>?_⟩;obtain ⟨m,x,a,dm,da,le,fu,cd,se,fs,p,mk,lv,ow,lens,F,rfl,hm,ha,⟨dx,hx⟩,hl,rl,k⟩:=h;have nd:=sc_leaf_step.nd;have hr1:=hr;refine ⟨_,(zd (zK (z7 (zt zD (by rfl) hisi PyProof.Rows.boot_isinstance (zb (pv 1) (zb (zZ G.num) ze)))) (zg (zn (yy (zb yk (zb (zi (pv 2) rfl) (zb (zi (pv 1) rfl) (zb (zi (pv 2) rfl) ze))))))) zu)
   (zd (zK (z7 (zt zD (by rfl) hisi PyProof.Rows.boot_isinstance (zb (pv 1) (zb (zZ G.here) ze)))) (zg (zn (yy (zb yk (zb (zi (pv 2) rfl) (zb (zi (pv 2) rfl) ze)))))) zu)
   (zd (zK (z7 (zt zD (by rfl) hisi PyProof.Rows.boot_isinstance (zb (pv 1) (zb (zZ G.cell) ze)))) (zg (zn (zI CS hr1 (by rfl) zy (zb (pv 0) (zb (pv 1) (zb (pv 2) ze)))))) zu)
   (zd (zK (z7 (zt zD (by rfl) hisi PyProof.Rows.boot_isinstance (zb (pv 1) (zb (zZ G.shi) ze)))) (zg (zn (yy (zb yk (zb (zi (pv 2) rfl) (zb (zi (pv 1) rfl) (zb (zi (pv 1) rfl) (zb (zi (pv 1) rfl) (zb (zi (pv 2) rfl) ze))))))))) zu)
   (zg (zn (yy (zb yk (zb (zi (pv 2) rfl) (zb (zB zM (zi (pv 2) rfl) (zi (pv 1) rfl) (fun _ _=>rfl)) (zb (zi (pv 2) rfl) ze))))))))))),?_⟩
 cases F with
 | num n =>
  refine ⟨_,rfl,_,_,.ref c.num,_,true,rfl,rfl,(fun u r=>r),L.num.k.ty hx,L.num.n,true,rfl,Zq ?_⟩;exact ⟨_,rfl,a,_,da,_,.int p,rfl,ha,AC.c,AC.n0,rfl,_,rfl,x,_,dx,_,.int n,rfl,hx,L.num.k.cl,L.n1,rfl,_,rfl,a,_,da,_,.int mk,rfl,ha,AC.c,AC.n1,rfl,(by show 4<=sizeLine;decide),fun t nt=>k t nt⟩
 | here =>
  refine ⟨_,rfl,_,_,.ref c.num,_,false,rfl,rfl,(fun u r=>r),L.here.k.ty hx,L.here.n,false,rfl,yx ?_⟩;refine ⟨_,rfl,_,_,.ref c.here,_,true,rfl,rfl,(fun u r=>r),L.here.k.ty hx,L.here.h,true,rfl,Zq ?_⟩;exact ⟨_,rfl,a,_,da,_,.int p,rfl,ha,AC.c,AC.n0,rfl,_,rfl,a,_,da,_,.int mk,rfl,ha,AC.c,AC.n1,rfl,(by show 3<=sizeLine;decide),fun t nt=>k t nt⟩
 | cell r =>
  refine ⟨_,rfl,_,_,.ref c.num,_,false,rfl,rfl,(fun u r=>r),L.cell.k.ty hx,L.cell.n,false,rfl,yx ?_⟩;refine ⟨_,rfl,_,_,.ref c.here,_,false,rfl,rfl,(fun u r=>r),L.cell.k.ty hx,L.cell.h,false,rfl,yx ?_⟩;refine ⟨_,rfl,_,_,.ref c.cell,_,true,rfl,rfl,(fun u r=>r),L.cell.k.ty hx,L.cell.e,true,rfl,Zq ?_⟩;exact ⟨_,rfl,_,rfl,_,rfl,m,x,a,dm,da,dx,le,fu,cd,se,fs,p,mk,lv,ow,lens,r,rfl,hm,ha,hx,hl,rl,k⟩
 | shi r b' o =>
  refine ⟨_,rfl,_,_,.ref c.num,_,false,rfl,rfl,(fun u r=>r),L.shi.k.ty hx,L.shi.n,false,rfl,yx ?_⟩;refine ⟨_,rfl,_,_,.ref c.here,_,false,rfl,rfl,(fun u r=>r),L.shi.k.ty hx,L.shi.h,false,rfl,yx ?_⟩;refine ⟨_,rfl,_,_,.ref c.cell,_,false,rfl,rfl,(fun u r=>r),L.shi.k.ty hx,L.shi.e,false,rfl,yx ?_⟩;refine ⟨_,rfl,_,_,.ref c.shi,_,true,rfl,rfl,(fun u r=>r),L.shi.k.ty hx,L.shi.s,true,rfl,Zq ?_⟩;exact ⟨_,rfl,a,_,da,_,.int p,rfl,ha,AC.c,AC.n0,rfl,_,rfl,x,_,dx,_,.int r,rfl,hx,L.shi.k.cl,L.s1,rfl,_,rfl,x,_,dx,_,.int b',rfl,hx,L.shi.k.cl,L.s2,rfl,_,rfl,x,_,dx,_,.int o,rfl,hx,L.shi.k.cl,L.s3,rfl,_,rfl,a,_,da,_,.int mk,rfl,ha,AC.c,AC.n1,rfl,(by show 6<=sizeLine;decide),fun t nt=>k t nt⟩
def spMake (c:F2.Cs) (q:QCs) (K:PySem.W.Frag):Sp:=fun vs H Q _=>∃ (B:Hp) (m x a dm da:Addr) (le fu cd:Addr) (cs:List Addr) (se fs p mk lv:Int) (ow:V) (lens:List Int) (F:Leaf),vs=[.ref m,.ref x,.ref a]/\Hd B [(cd,.lst (cs.map V.ref))] H/\B m=some (.ins q.ma dm (mkFl le fu se cd fs))/\B a=some (.ins q.ai da (Xh p mk lv ow))/\LeafAt c B F x/\SqL K B le (lens.map V.int)/\F.In lens/\cs.length<=1000 /\
 ∀ B' H' t,Same B B'->Hd B' [(cd,.lst ((cs++[t]).map V.ref))] H'->B' t=some (.tup (F.tv lens p mk))->Q .non H'
theorem ok_make {c:F2.Cs} {q:QCs} (d:zw K mg "make_form" xi ["maker","form","aim"]) (hisi:mg "isinstance"=none) (G:FormG mg c) (L:LeafK K c) (MC:MakerC K q.ma) (NA:Ok P w K mg base CX0 1 "make_at" ["maker","form","aim"] spNo) (NP:Ok P w K mg base CX0 1 "make_pair" ["maker","form","aim"] spNo) (NO:Ok P w K mg base CX0 1 "make_choice" ["maker","form","aim"] spNo) (NC:Ok P w K mg base CX0 1 "make_call" ["maker","form","aim"] spNo)
  (LS:Ok P w K mg base CX0 2 "leaf_step" ["maker","form","aim"] (YJ c q K)):Ok P w K mg base CX0 3 "make_form" ["maker","form","aim"] (spMake c q K):=by
 obtain ⟨g,fd,m,F,b⟩:=d;refine ⟨g,fd,m,F.kp,b,F.ok sc_make_form (by rintro vs H Q E ⟨_,_,_,_,_,_,_,_,_,_,_,_,_,_,_,_,_,_,rfl,_⟩;rfl) fun cdv A outer s H vs Q E hr h=>?_⟩;obtain ⟨B,m,x,a,dm,da,le,fu,cd,cs,se,fs,p,mk,lv,ow,lens,F,rfl,h,hm,ha,⟨dx,hx⟩,hl,rl,cl,k⟩:=h;have nd:=sc_make_form.nd;have hr2:=hr;have hr1:Room 1 _:=hr.mono (by decide);have s:=L.of F;have SL:(200000:Nat)<sizeLine:=by decide
 refine ⟨_,(zg (zK (z7 (zt zD (by rfl) hisi PyProof.Rows.boot_isinstance (zb (pv 1) (zb (zZ G.at') ze)))) (zg (zS (zI NA hr1 (by rfl) zy (zb (pv 0) (zb (pv 1) (zb (pv 2) ze)))))) (zg (zK (z7 (zt zD (by rfl) hisi PyProof.Rows.boot_isinstance (zb (pv 1) (zb (zZ G.pair) ze)))) (zg (zS (zI NP hr1 (by rfl) zy (zb (pv 0) (zb (pv 1) (zb (pv 2) ze)))))) (zg (zK (z7 (zt zD (by rfl) hisi PyProof.Rows.boot_isinstance (zb (pv 1) (zb (zZ G.cho) ze)))) (zg (zS (zI NO hr1 (by rfl) zy (zb (pv 0) (zb (pv 1) (zb (pv 2) ze)))))) (zg (zK (z7 (zt zD (by rfl) hisi PyProof.Rows.boot_isinstance (zb (pv 1) (zb (zZ G.call) ze)))) (zg (zS (zI NC hr1 (by rfl) zy (zb (pv 0) (zb (pv 1) (zb (pv 2) ze)))))) (zg (zS (Yq PySem.F.plainAttrs_list PySem.F.slot_list_append PySem.F.type_list_append xw (zi (pv 0) rfl) (zb (zI LS hr2 (by rfl) zy (zb (pv 0) (zb (pv 1) (zb (pv 2) ze)))) ze)))))))))))),?_⟩;refine ⟨_,rfl,_,_,.ref c.at',_,false,rfl,rfl,(fun u r=>r),s.k.ty (h.sm _ _ hx),s.a,false,rfl,yx ?_⟩;refine ⟨_,rfl,_,_,.ref c.pair,_,false,rfl,rfl,(fun u r=>r),s.k.ty (h.sm _ _ hx),s.p,false,rfl,yx ?_⟩;refine ⟨_,rfl,_,_,.ref c.cho,_,false,rfl,rfl,(fun u r=>r),s.k.ty (h.sm _ _ hx),s.o,false,rfl,yx ?_⟩;refine ⟨_,rfl,_,_,.ref c.call,_,false,rfl,rfl,(fun u r=>r),s.k.ty (h.sm _ _ hx),s.u,false,rfl,yx ?_⟩;refine ⟨_,rfl,m,_,dm,_,.ref cd,rfl,h.sm _ _ hm,MC.c,MC.n3,rfl,.inl ⟨rfl,_,h.lst 0 rfl⟩,_,rfl,_,rfl,_,rfl,m,x,a,dm,da,le,fu,cd,se,fs,p,mk,lv,ow,lens,F,rfl,h.sm _ _ hm,h.sm _ _ ha,⟨dx,h.sm _ _ hx⟩,h.sql hl,rl,fun t nt=>?_⟩;have e:upd B t (.tup (F.tv lens p mk)) t=_:=zh;have sB:Same B (upd B t (.tup (F.tv lens p mk))):=zo (Same.refl _) (h.free nt);have h2:=h.grow (o:=.tup (F.tv lens p mk)) nt;generalize upd B t (.tup (F.tv lens p mk))=B1 at e sB h2;refine ⟨cd,_,_,rfl,rfl,h2.get 0 rfl,(by rw [List.length_map];omega),?_⟩;have h3:=h2.put (o':=.lst (cs.map V.ref++[V.ref t])) 0 rfl;refine k B1 _ t sB ?_ e;rw [List.map_append];exact h3
end
end K43
namespace L2
open PySem
namespace Hd
theorem over {B J J2:Hp} {L:List (Addr×HO)} (h:Hd B L J) (s:Same J J2):∃ B2,Same B B2/\Hd B2 L J2/\∀ a o,J2 a=some o->a ∉ L.map Prod.fst->B2 a=some o:=by
 classical
 refine ⟨fun a=>if a∈L.map Prod.fst then none else J2 a,fun a o e=>?_,⟨h.nd,fun p q=>?_,fun p q=>s _ _ (h.st p q),fun a o e=>?_⟩,fun a o e n=>?_⟩
 ·have na:a ∉ L.map Prod.fst:=fun m=>by
   obtain ⟨p,hp,rfl⟩:=List.mem_map.mp m;rw [h.nw p hp] at e;cases e
  show (if _ then _ else _)=_;rw [if_neg na];exact s _ _ (h.sm _ _ e)
 ·show (if _ then _ else _)=_
  rw [if_pos (List.mem_map_of_mem q)]
 ·have e:(if a∈L.map Prod.fst then none else J2 a)=some o:=e
  split at e
  ·cases e
  ·exact e
 ·show (if _ then _ else _)=_
  rw [if_neg n];exact e
end Hd
end L2
namespace K43
open PySem L2 FM
structure StepG (mg:Str->Option Value) (q:QCs):Prop where
 ma:mg "Maker"=some (.ref q.ma)
 ai:mg "Aim"=some (.ref q.ai)
 let_:mg "Let"=some (.ref q.let_)
 put:mg "Put"=some (.ref q.put)
 fold:mg "Fold"=some (.ref q.fold)
 till:mg "Till"=some (.ref q.till)
structure LetC (K:PySem.W.Frag) (q:QCs):Prop where
 k:KF K q.let_
 p:isK K q.let_ q.put false
 l:isK K q.let_ q.let_ true
 t:isK K q.let_ q.till false
 n0:NoAttr K q.let_ "target"
 n1:NoAttr K q.let_ "value"
 n2:NoAttr K q.let_ "test"
structure PrC (K:PySem.W.Frag) (C:Addr):Prop where
 c:Cls K C
 n0:NoAttr K C "lengths"
 n1:NoAttr K C "functions"
 n2:NoAttr K C "steps"
def LetAt (q:QCs) (H:Hp) (s x:Addr) (tg:Nat):Prop:=∃ ds,H s=some (.ins q.let_ ds [("target",.int tg),("value",.ref x),("test",.non)])
theorem LetAt.same {q:QCs} {H H':Hp} {s x:Addr} {tg:Nat} (h:LetAt q H s x tg) (z:Same H H'):LetAt q H' s x tg:=by
 obtain ⟨ds,e⟩:=h;exact ⟨ds,z _ _ e⟩
def grOf (n:Int):Int:=if n<=2 then 4 else if n<=4 then 2 else 1
def stTv (tg:Nat):List V:=[.str "store",.int tg,.int 0,.int 0]
def xU (lens:List Int) (tg:Nat) (g:Int) (F:Leaf):List (List V):=[[.str "begin",.int (lens.getD tg 0),.int g],F.tv lens 0 0,stTv tg,[.str "next"]]
theorem szU (n:Nat) (h:n<=1000:=by decide):n<=sizeLine:=Nat.le_trans h (by decide)
section
variable {P:Program} {w:World} {K:PySem.W.Frag} {mg:Str->Option Value} {base:Heap}
def zfw (c:F2.Cs) (q:QCs):Sp:=fun vs H Q _=>∃ (s x:Addr) (fu:V) (tg:Nat) (F:Leaf),vs=[.ref s,fu]/\LetAt q H s x tg/\LeafAt c H F x/\Q (.int 1) H
theorem ok_seatsS {c:F2.Cs} {q:QCs} (d:zw K mg "seats_for_step" yl ["step","functions"]) (hisi:mg "isinstance"=none) (hmax:mg "max"=none) (SG:StepG mg q) (LC:LetC K q) (SF:Ok P w K mg base CX0 2 "seats_for" ["form","functions"] (spSeats c)) (N2:Ok P w K mg base CX0 1 "seats_for_two" ["first","second","functions"] spNo):Ok P w K mg base CX0 3 "seats_for_step" ["step","functions"] (zfw c q):=by
 obtain ⟨g,fd,m,F,b⟩:=d;refine ⟨g,fd,m,F.kp,b,F.ok sc_seats_for_step (by rintro vs H Q E ⟨_,_,_,_,_,rfl,_⟩;rfl) fun cdv A outer s H vs Q E hr h=>?_⟩;obtain ⟨s,x,fu,tg,F,rfl,⟨ds,hs⟩,hx,k⟩:=h;have nd:=sc_seats_for_step.nd;have hr2:=hr;have hr1:Room 1 _:=hr.mono (by decide);refine ⟨_,(zd (zF (i:=2) nd rfl (Or.inl rfl) (zI SF hr2 (by rfl) zy (zb (zi (pv 0) rfl) (zb (pv 1) ze))))
   (zd (zK (z7 (zt zD (by rfl) hisi PyProof.Rows.boot_isinstance (zb (pv 0) (zb (zZ SG.put) ze)))) (zg (zF (i:=2) nd rfl (Or.inl rfl) (zI N2 hr1 (by rfl) zy (zb (zi (pv 0) rfl) (zb (zi (pv 0) rfl) (zb (pv 1) ze)))))) zu)
   (zd (zK (zG op_notN (zi (pv 0) rfl) xR (zJ _)) (zg (zF (i:=2) nd rfl (Or.inl rfl) (zt (XO rfl) (by rfl) hmax PyProof.Rows.boot_max (zb (pv 2) (zb (zI SF hr2 (by rfl) zy (zb (zi (pv 0) rfl) (zb (pv 1) ze))) ze))))) zu)
   (zg (zn (pv 2)))))),?_⟩
 refine ⟨_,rfl,s,_,ds,_,.ref x,rfl,hs,LC.k.cl,LC.n1,rfl,_,rfl,x,fu,F,rfl,hx,?_⟩;refine ⟨_,rfl,_,_,.ref q.put,_,false,rfl,rfl,(fun u r=>r),LC.k.ty hs,LC.p,false,rfl,yx ?_⟩;refine ⟨_,rfl,s,_,ds,_,.non,rfl,hs,LC.k.cl,LC.n2,rfl,rfl,?_⟩;exact ⟨false,congrArg V.bl (by rw [decide_eq_true rfl];rfl),yx ⟨_,rfl,k⟩⟩
def zf0:Sp:=fun vs H Q _=>∃ n:Int,vs=[.int n]/\Q (.int (grOf n)) H
theorem ok_groupF (d:zw K mg "group_for" xp ["seats"]):Ok P w K mg base CX0 1 "group_for" ["seats"] zf0:=by
 obtain ⟨g,fd,m,F,b⟩:=d;refine ⟨g,fd,m,F.kp,b,F.ok sc_group_for (by rintro vs H Q E ⟨_,rfl,_⟩;rfl) fun cdv A outer s H vs Q E hr h=>?_⟩;obtain ⟨n,rfl,k⟩:=h;have nd:=sc_group_for.nd;refine ⟨_,(zd (zK (zG op_le (pv 0) zf (zJ _)) (zg (zn zf)) zu)
   (zd (zK (zG op_le (pv 0) zf (zJ _)) (zg (zn zf)) zu)
   (zg (zn zf)))),?_⟩
 refine ⟨_,rfl,_,_,rfl,rfl,_,rfl,?_⟩;refine y6 (fun z=>?_) (fun z=>?_)
 ·have e:grOf n=4:=if_pos (of_decide_eq_true z)
  rw [e] at k;exact k
 have z1:¬ n<=2:=fun y=>z (decide_eq_true y);refine ⟨_,rfl,_,_,rfl,rfl,_,rfl,?_⟩;refine y6 (fun z=>?_) (fun z=>?_)
 ·have e:grOf n=2:=(if_neg z1).trans (if_pos (of_decide_eq_true z))
  rw [e] at k;exact k
 ·have e:grOf n=1:=(if_neg z1).trans (if_neg fun y=>z (decide_eq_true y))
  rw [e] at k;exact k
def spMayF (K:PySem.W.Frag):Sp:=fun vs H Q _=>∃ (t:Addr) (z:Str) (r:List V),vs=[.ref t]/\SqT K H t (.str z::r)/\z≠"gather"/\z≠"reach"/\z≠"op"/\∀ H',Same H H'->Q (.bl false) H'
theorem ok_mayF (d:zw K mg "may_fault" xg ["step"]):Ok P w K mg base CX0 1 "may_fault" ["step"] (spMayF K):=by
 obtain ⟨g,fd,m,F,b⟩:=d;refine ⟨g,fd,m,F.kp,b,F.ok sc_may_fault (by rintro vs H Q E ⟨_,_,_,rfl,_⟩;rfl) fun cdv A outer s H vs Q E hr h=>?_⟩;obtain ⟨t,z,r,rfl,hT,z1,z2,z3,k⟩:=h;have nd:=sc_may_fault.nd;refine ⟨_,(zg (zn (pe_or (xO XE (zB zR (pv 0) zf (fun _ _=>rfl)) (yy (zb yk (zb yk ze))) rfl) (Y1 (Y4 (xO yO (zB zR (pv 0) zf (fun _ _=>rfl)) yk (zJ _)) (Y1 (xO XE (zB zR (pv 0) zf (fun _ _=>rfl)) (yy (zb yk (zb yk ze))) rfl))))))),?_⟩;refine ⟨_,rfl,t,_,_,_,rfl,rfl,hT,zQ (j:=0) rfl,?_⟩;refine ⟨szU 2,fun p np=>⟨p,_,rfl,.inr (SqT.of zh),rfl,rfl,false,?_,yx ?_⟩⟩
 ·show V.bl (inV (V.str z) [V.str "gather",V.str "reach"])=_
  unfold inV;simp [eqV];exact ⟨fun e=>z1 e.symm,fun e=>z2 e.symm⟩
 have s1:Same H (upd H p (.tup [.str "gather",.str "reach"])):=zo (Same.refl _) np;refine ⟨_,rfl,t,V.str z::r,_,V.str z,rfl,rfl,?_,zQ (j:=0) rfl,rfl,false,congrArg V.bl (decide_eq_false fun y=>z3 (V.str.inj y)),yx (k _ s1)⟩
 ·exact F2.sqt_same hT s1
def spMakeT (q:QCs):Sp:=fun vs H Q _=>∃ (m:V) (s x:Addr) (tg:Nat),vs=[m,.ref s]/\LetAt q H s x tg/\Q (.int 0) H
theorem ok_makeT {c:F2.Cs} {q:QCs} {t:Tok} (d:zw K mg "make_test" xh ["maker","step"]) (hTM:mg "TEST_MASK"=some (.int 1 t)) (SG:StepG mg q) (LC:LetC K q) (IA:OkI P w K mg base (CXe P w base) 1 q.ai ["self","seat","mask","level","own"] (zcl q.ai)) (MF:Ok P w K mg base CX0 3 "make_form" ["maker","form","aim"] (spMake c q K)):Ok P w K mg base CX0 4 "make_test" ["maker","step"] (spMakeT q):=by
 obtain ⟨g,fd,m,F,b⟩:=d;refine ⟨g,fd,m,F.kp,b,F.ok sc_make_test (by rintro vs H Q E ⟨_,_,_,_,rfl,_⟩;rfl) fun cdv A outer s H vs Q E hr h=>?_⟩;obtain ⟨m,s,x,tg,rfl,⟨ds,hs⟩,k⟩:=h;have nd:=sc_make_test.nd;have hr3:=hr;have hr2:Room 2 _:=hr.mono (by decide);refine ⟨_,(zd (zK (zG Y5 (zi (pv 1) rfl) xR (zJ _)) (zg (zn zf)) zu)
   (zd (zS (zI MF hr3 (by rfl) zy (zb (pv 0) (zb (zi (pv 1) rfl) (zb (xK IA SG.ai hr2 (by rfl) xT (zb zf (zb zf (zb zf (zb (yF ze) ze))))) ze)))))
   (zd (zS (Yq PySem.F.plainAttrs_list PySem.F.slot_list_append PySem.F.type_list_append xw (zi (pv 0) rfl) (zb (yy (zb yk (zb (ZK hTM) (zb zf (zb zf ze))))) ze)))
   (zg (zn (ZK hTM)))))),?_⟩
 refine ⟨_,rfl,s,_,ds,_,.non,rfl,hs,LC.k.cl,LC.n2,rfl,rfl,?_⟩;exact ⟨true,congrArg V.bl (decide_eq_true rfl),Zq k⟩
def spMakeV (c:F2.Cs) (q:QCs) (K:PySem.W.Frag):Sp:=fun vs H Q _=>∃ (B:Hp) (m s x dm:Addr) (le fu cd:Addr) (cs:List Addr) (se fs:Int) (lens:List Int) (tg:Nat) (F:Leaf),vs=[.ref m,.ref s,.int 0]/\Hd B [(cd,.lst (cs.map V.ref))] H/\B m=some (.ins q.ma dm (mkFl le fu se cd fs))/\LetAt q B s x tg/\LeafAt c B F x/\SqL K B le (lens.map V.int)/\F.In lens/\cs.length<=1000 /\
 ∀ B' H' t e,Same B B'->Hd B' [(cd,.lst ((cs++[t]).map V.ref))] H'->B' t=some (.tup (F.tv lens 0 0))->B' e=some (.tup (stTv tg))->Q (.ref e) H'
theorem ok_makeV {c:F2.Cs} {q:QCs} (d:zw K mg "make_value" yW ["maker","step","mask"]) (hisi:mg "isinstance"=none) (SG:StepG mg q) (LC:LetC K q) (IA:OkI P w K mg base (CXe P w base) 1 q.ai ["self","seat","mask","level","own"] (zcl q.ai)) (MF:Ok P w K mg base CX0 3 "make_form" ["maker","form","aim"] (spMake c q K)) (NT:Ok P w K mg base CX0 1 "make_two" ["maker","first","first_aim","second","second_aim"] spNo):Ok P w K mg base CX0 4 "make_value" ["maker","step","mask"] (spMakeV c q K):=by
 obtain ⟨g,fd,m,F,b⟩:=d;refine ⟨g,fd,m,F.kp,b,F.ok sc_make_value (by rintro vs H Q E ⟨_,_,_,_,_,_,_,_,_,_,_,_,_,_,rfl,_⟩;rfl) fun cdv A outer s H vs Q E hr h=>?_⟩;obtain ⟨B,m,s,x,dm,le,fu,cd,cs,se,fs,lens,tg,F,rfl,h,hm,⟨ds,hs⟩,hx,hl,rl,cl,k⟩:=h;have nd:=sc_make_value.nd;have hr3:=hr;have hr2:Room 2 _:=hr.mono (by decide);have hr1:Room 1 _:=hr.mono (by decide);refine ⟨_,(zd (zF (i:=3) nd rfl (Or.inl rfl) (xK IA SG.ai hr2 (by rfl) xT (zb zf (zb (pv 2) (zb zf (zb (yF ze) ze))))))
   (zd (zK (z7 (zt zD (by rfl) hisi PyProof.Rows.boot_isinstance (zb (pv 1) (zb (zZ SG.put) ze)))) (zd (zF (i:=4) nd rfl (Or.inl rfl) (zI NT hr1 (by rfl) zy (zb (pv 0) (zb (zi (pv 1) rfl) (zb (pv 3) (zb (zi (pv 1) rfl) (zb (pv 3) ze)))))))
   (zd (zS (Yq PySem.F.plainAttrs_list PySem.F.slot_list_append PySem.F.type_list_append xw (zi (pv 0) rfl) (zb (yy (zb yk (zb (zB zR (pv 4) zf (fun _ _=>rfl)) (zb (zB zM (zi (pv 0) rfl) (zi (pv 1) rfl) (fun _ _=>rfl)) (zb (pv 2) ze))))) ze)))
   (zg (zn (yy (zb yk (zb (zi (pv 1) rfl) (zb (zB zR (pv 4) zf (fun _ _=>rfl)) (zb (zB zR (pv 4) zf (fun _ _=>rfl)) (zb (pv 2) ze)))))))))) zu)
   (zd (zS (zI MF hr3 (by rfl) zy (zb (pv 0) (zb (zi (pv 1) rfl) (zb (pv 3) ze)))))
   (zd (zK (z7 (zt zD (by rfl) hisi PyProof.Rows.boot_isinstance (zb (pv 1) (zb (zZ SG.let_) ze)))) (zg (zn (yy (zb yk (zb (zi (pv 1) rfl) (zb zf (zb (pv 2) ze))))))) zu)
   (zd (zK (z7 (zt zD (by rfl) hisi PyProof.Rows.boot_isinstance (zb (pv 1) (zb (zZ SG.fold) ze)))) (zg (zn (yy (zb yk (zb (zi (pv 1) rfl) (zb (zi (pv 1) rfl) (zb zf (zb (pv 2) ze)))))))) zu)
   (zg (zn (yy (zb yk (zb (zi (pv 1) rfl) (zb (zi (pv 1) rfl) (zb zf (zb (pv 2) ze))))))))))))),?_⟩
 refine ⟨_,rfl,szU 0,fun ow now=>?_⟩;replace h:=h.waste (o:=.lst []) now;generalize upd H ow (.lst [])=H1 at h ⊢;refine fun ai dai n1 n2 n3=>⟨ai,dai,.int 0,.int 0,.int 0,.ref ow,rfl,zh,fun H2 k1 e1=>⟨rfl,?_⟩⟩;replace e1:H2 ai=some (.ins q.ai dai (Xh 0 0 0 (.ref ow))):=e1;have h2:=h.made0 n1 n2 n3 k1 e1;have sB:=h2.settled.trans h2.settle.settled;have ea:upd (upd B ai (.ins q.ai dai (Xh 0 0 0 (.ref ow)))) dai (.own ai) ai=some (.ins q.ai dai (Xh 0 0 0 (.ref ow))):=by rw [zm (Ne.symm n3)];exact zh
 replace h2:=h2.settle.settle;generalize upd (upd B ai (.ins q.ai dai (Xh 0 0 0 (.ref ow)))) dai (.own ai)=B2 at h2 sB ea;refine ⟨_,rfl,_,_,.ref q.put,_,false,rfl,rfl,(fun u r=>r),LC.k.ty (h2.sm _ _ (sB _ _ hs)),LC.p,false,rfl,yx ?_⟩;refine ⟨_,rfl,_,rfl,s,_,ds,_,.ref x,rfl,h2.sm _ _ (sB _ _ hs),LC.k.cl,LC.n1,rfl,_,rfl,B2,m,x,ai,dm,dai,le,fu,cd,cs,se,fs,0,0,0,.ref ow,lens,F,rfl,h2,sB _ _ hm,ea,hx.same sB,zE hl sB,rl,cl,fun B3 H3 t s3 h3 e3=>?_⟩;have hs3:=h3.sm _ _ (s3 _ _ (sB _ _ hs));refine ⟨_,rfl,_,_,.ref q.let_,_,true,rfl,rfl,(fun u r=>r),LC.k.ty hs3,LC.l,true,rfl,Zq ?_⟩;refine ⟨_,rfl,s,_,ds,_,.int tg,rfl,hs3,LC.k.cl,LC.n0,rfl,_,rfl,szU 4,fun e ne=>?_⟩;have s4:Same B3 (upd B3 e (.tup (stTv tg))):=zo (Same.refl _) (h3.free ne);exact k _ _ t e ((sB.trans s3).trans s4) (h3.grow ne) (s4 _ _ e3) zh
def XA (q:QCs):Sp:=fun vs H Q _=>∃ (B:Hp) (x dx le fu:Addr) (g:Int),vs=[.ref x,.ref le,.ref fu,.int g]/\Hd B [(x,.ins q.ma dx [])] H/\1<=g/\g<=8/\∀ B' H' cd,Same B B'->Hd B' [(cd,.lst [])] H'->B' x=some (.ins q.ma dx (mkFl le fu ((8:Int).fdiv g) cd 0))->Q .non H'
theorem okI_Maker {q:QCs} {t:Tok} (d:yN K q.ma "Maker.__init__" yZ ["self","lengths","functions","group"]) (hMB:mg "MANY_BOXES"=some (.int 8 t)) (MC:MakerC K q.ma):OkI P w K mg base CX0 1 q.ma ["self","lengths","functions","group"] (XA q):=by
 obtain ⟨f,fd,m,F,bd⟩:=d;refine ⟨f,fd,m,bd,F.ok Xq (by rintro vs H Q E ⟨_,_,_,_,_,_,rfl,_⟩;rfl) fun cdv A outer s H vs Q E hr h=>?_⟩;obtain ⟨B,x,dx,le,fu,g,rfl,h,g1,g8,k⟩:=h;refine ⟨_,(zd (zC (pv 0) (pv 1) rfl)
   (zd (zC (pv 0) (pv 2) rfl)
   (zd (zC (pv 0) (zp zgb (ZK hMB) (pv 3)) rfl)
   (zd (zC (pv 0) (yF ze) rfl)
   (zg (zC (pv 0) zf rfl)))))),?_⟩
 refine ⟨_,rfl,_,rfl,x,q.ma,dx,[],rfl,h.get 0 rfl,MC.c,MC.n0,(by show 0<1000;decide),?_⟩;replace h:=h.put (o':=.ins q.ma dx [("lengths",.ref le)]) 0 rfl;refine ⟨_,rfl,_,rfl,x,q.ma,dx,[("lengths",.ref le)],rfl,h.get 0 rfl,MC.c,MC.n1,(by show 1<1000;decide),?_⟩;replace h:=h.put (o':=.ins q.ma dx [("lengths",.ref le),("functions",.ref fu)]) 0 rfl;refine ⟨_,rfl,_,_,rfl,rfl,⟨by omega,by omega,by omega⟩,_,rfl,x,q.ma,dx,[("lengths",.ref le),("functions",.ref fu)],rfl,h.get 0 rfl,MC.c,MC.n2,(by show 2<1000;decide),?_⟩;replace h:=h.put (o':=.ins q.ma dx [("lengths",.ref le),("functions",.ref fu),("seats",.int ((8:Int).fdiv g))]) 0 rfl;refine ⟨szU 0,fun cd ncd=>?_⟩;replace h:=h.new (o:=.lst []) ncd;refine ⟨_,rfl,x,q.ma,dx,[("lengths",.ref le),("functions",.ref fu),("seats",.int ((8:Int).fdiv g))],rfl,h.get 1 rfl,MC.c,MC.n3,(by show 3<1000;decide),?_⟩;replace h:=h.put (o':=.ins q.ma dx [("lengths",.ref le),("functions",.ref fu),("seats",.int ((8:Int).fdiv g)),("code",.ref cd)]) 1 rfl;refine ⟨_,rfl,x,q.ma,dx,[("lengths",.ref le),("functions",.ref fu),("seats",.int ((8:Int).fdiv g)),("code",.ref cd)],rfl,h.get 1 rfl,MC.c,MC.n4,(by show 4<1000;decide),?_⟩;replace h:=h.put (o':=.ins q.ma dx (mkFl le fu ((8:Int).fdiv g) cd 0)) 1 rfl;replace h:Hd B [(x,.ins q.ma dx (mkFl le fu ((8:Int).fdiv g) cd 0)),(cd,.lst [])] _:=h.perm (List.Perm.swap _ _ _);exact k _ _ cd h.settled h.settle zh
def spManyL (q:QCs) (K:PySem.W.Frag):Sp:=fun vs H Q _=>∃ (s x le:Addr) (tg:Nat) (lens:List Int),vs=[.ref s,.ref le]/\LetAt q H s x tg/\SqL K H le (lens.map V.int)/\tg<lens.length/\Q (.int (lens.getD tg 0)) H
theorem ok_manyL {q:QCs} (d:z8 K q.let_ "many_of" "Let.many_of" yL ["self","lengths"]) (LC:LetC K q):OkM P w K mg base CX0 1 q.let_ "many_of" ["self","lengths"] (spManyL q K):=by
 obtain ⟨f,fd,m,F,bd⟩:=d;refine ⟨f,fd,m,bd,F.ok YV (by rintro vs H Q E ⟨_,_,_,_,_,rfl,_⟩;rfl) fun cdv A outer s H vs Q E hr h=>?_⟩;obtain ⟨s,x,le,tg,lens,rfl,⟨ds,hs⟩,hl,tl,k⟩:=h;refine ⟨_,(zg (zn (zB zM (pv 1) (zi (pv 0) rfl) (fun _ _=>rfl)))),?_⟩;exact ⟨_,rfl,_,rfl,s,_,ds,_,.int tg,rfl,hs,LC.k.cl,LC.n0,rfl,le,_,_,_,rfl,rfl,hl,xa tg tl rfl,k⟩
end
def gOf (g:Int):Int:=if g=0 then 4 else g
theorem Leaf.head (lens:List Int) (p mk:Int) (F:Leaf):∃ z r,F.tv lens p mk=.str z::r/\z≠"gather"/\z≠"reach"/\z≠"op":=by
 cases F with
 | num n=>exact ⟨"number",_,rfl,by decide,by decide,by decide⟩
 | here=>exact ⟨"here",_,rfl,by decide,by decide,by decide⟩
 | cell r =>
  by_cases z:lens.getD r 0=1
  ·exact ⟨"spread",_,if_pos z,by decide,by decide,by decide⟩
  ·exact ⟨"load",_,if_neg z,by decide,by decide,by decide⟩
 | shi r b o=>exact ⟨"shift",_,rfl,by decide,by decide,by decide⟩
section
variable {P:Program} {w:World} {K:PySem.W.Frag} {mg:Str->Option Value} {base:Heap}
def prFl (la lb lc:Addr):List (Str×V):=[("lengths",.ref la),("functions",.ref lb),("steps",.ref lc)]
def zfx (c:F2.Cs) (q:QCs) (K:PySem.W.Frag):Sp:=fun vs H Q _=>∃ (pr dp la lb lc s x:Addr) (tg:Nat) (F:Leaf) (lens:List Int) (number group:Int),vs=[.ref pr,.ref s,.int number,.int group]/\H pr=some (.ins q.pr dp (prFl la lb lc))/\LetAt q H s x tg/\LeafAt c H F x/\SqL K H la (lens.map V.int)/\F.In lens/\tg<lens.length/\(group=0∨group=1∨group=2∨group=4) /\
 ∀ H' l t0 t1 t2 t3,Same H H'->H l=none->H' l=some (.lst (([t0,t1,t2,t3]:List Addr).map V.ref))->CodeAt H' [t0,t1,t2,t3] (xU lens tg (gOf group) F)->Q (.ref l) H'
theorem ok_roundP {c:F2.Cs} {q:QCs} (d:zw K mg "round_of" xG ["program","step","number","group"]) (hany:mg "any"=none) (SG:StepG mg q) (LC:LetC K q) (PC:PrC K q.pr) (MC:MakerC K q.ma)
  (SS:Ok P w K mg base CX0 3 "seats_for_step" ["step","functions"] (zfw c q)) (GF:Ok P w K mg base CX0 1 "group_for" ["seats"] zf0) (IM:OkI P w K mg base CX0 1 q.ma ["self","lengths","functions","group"] (XA q)) (MO:OkM P w K mg base CX0 1 q.let_ "many_of" ["self","lengths"] (spManyL q K))
  (MT:Ok P w K mg base CX0 4 "make_test" ["maker","step"] (spMakeT q)) (MV:Ok P w K mg base CX0 4 "make_value" ["maker","step","mask"] (spMakeV c q K)) (MY:Ok P w K mg base CX0 1 "may_fault" ["step"] (spMayF K)):Ok P w K mg base CX0 5 "round_of" ["program","step","number","group"] (zfx c q K):=by
 obtain ⟨g,fd,m,F,b⟩:=d;refine ⟨g,fd,m,F.kp,b,F.ok sc_round_of (by rintro vs H Q E ⟨_,_,_,_,_,_,_,_,_,_,_,_,rfl,_⟩;rfl) fun cdv A outer s H vs Q E hr h=>?_⟩;obtain ⟨pr,dp,la,lb,lc,s,x,tg,F,lens,number,group,rfl,hp,⟨ds,hs⟩,hx,hl,rl,tl,hg,k⟩:=h;have nd:=sc_round_of.nd;have hr4:=hr;have hr3:Room 3 _:=hr.mono (by decide);have hr2:Room 2 _:=hr.mono (by decide);have hr1:Room 1 _:=hr.mono (by decide);have SL:(200000:Nat)<sizeLine:=by decide
 refine ⟨_,(zd (x8 (zK (zG yO (pv 3) zf (zJ _)) (zg (zF (i:=3) nd rfl (Or.inl rfl) (zI GF hr1 (by rfl) zy (zb (zI SS hr3 (by rfl) zy (zb (pv 1) (zb (zi (pv 0) rfl) ze))) ze)))) zu))
   (zd (zF (i:=4) nd rfl (Or.inl rfl) (xK IM SG.ma hr2 (by rfl) zy (zb (zi (pv 0) rfl) (zb (zi (pv 0) rfl) (zb (pv 3) ze)))))
   (zd (zS (Yq PySem.F.plainAttrs_list PySem.F.slot_list_append PySem.F.type_list_append xw (zi (pv 4) rfl) (zb (yy (zb yk (zb (yt MO LC.k.cl hr1 zy (pv 1) (zb (zi (pv 0) rfl) ze)) (zb (pv 3) ze)))) ze)))
   (zd (zF (i:=5) nd rfl (Or.inl rfl) (zI MT hr4 (by rfl) zy (zb (pv 4) (zb (pv 1) ze))))
   (zd (zF (i:=6) nd rfl (Or.inl rfl) (zI MV hr4 (by rfl) zy (zb (pv 4) (zb (pv 1) (zb (pv 5) ze)))))
   (zd (x8 (zK (z7 (zt (call_anyB rfl) (by rfl) hany PyProof.Rows.boot_any (zb (xA ["made_step"] [none] rfl rfl rfl (xz (zi (pv 4) rfl)) (fun s3 H3 fp=>⟨zW (i:=0) (show ((["made_step"]:List Str)).Nodup by decide +kernel) rfl (Or.inl rfl),(zI MY hr1 (by rfl) zy (zb (pv 0) ze))⟩)) ze))) (zg (zn (zp Zz (zi (pv 4) rfl) (yF (zb (yy (zb yk ze)) (zb (pv 6) (zb (yy (zb yk (zb (pv 2) ze))) (zb (yy (zb yk ze)) ze)))))))) zu))
   (zg (zn (zp Zz (zi (pv 4) rfl) (yF (zb (pv 6) (zb (yy (zb yk ze)) ze)))))))))))),?_⟩
 refine ⟨fun σ J=>σ=[some (.ref pr),some (.ref s),some (.int number),some (.int (gOf group)),none,none,none,none]/\J=H,?_,?_⟩
 ·refine ⟨_,rfl,rfl,_,rfl,?_⟩
  refine y6 (fun z=>?_) (fun z=>?_)
  ·have z:group=0:=V.int.inj (of_decide_eq_true z)
   refine ⟨_,rfl,_,rfl,pr,_,dp,_,.ref lb,rfl,hp,PC.c,PC.n1,rfl,s,x,.ref lb,tg,F,rfl,⟨ds,hs⟩,hx,1,rfl,?_⟩;have e:gOf group=grOf 1:=by subst z;rfl
   rw [e];exact ⟨rfl,rfl⟩
  ·have z:¬ group=0:=fun y=>z (decide_eq_true (congrArg V.int y))
   have e:gOf group=group:=if_neg z;rw [e];exact ⟨rfl,rfl⟩
 rintro σ J ⟨rfl,rfl⟩;have gb:1<=gOf group/\gOf group<=8:=by unfold gOf;split <;> omega
 generalize gOf group=gg at gb k ⊢;refine ⟨_,rfl,pr,_,dp,_,.ref la,rfl,hp,PC.c,PC.n0,rfl,_,rfl,pr,_,dp,_,.ref lb,rfl,hp,PC.c,PC.n1,rfl,_,rfl,fun mk dmk n1 n2 n3=>?_⟩;have s0:Same J (upd J dmk (.own mk)):=zo (Same.refl _) n2;have h0:Hd (upd J dmk (.own mk)) [(mk,.ins q.ma dmk [])] (upd (upd J dmk (.own mk)) mk (.ins q.ma dmk [])):=Hd.base.new (by rw [zm (Ne.symm n3)];exact n1);refine ⟨upd J dmk (.own mk),mk,dmk,la,lb,gg,rfl,h0,gb.1,gb.2,fun B1 H1 cd s1 h1 e1=>⟨rfl,?_⟩⟩;replace s1:=s0.trans s1;clear h0 s0 n1 n2 n3;have hs1:=h1.sm _ _ (s1 _ _ hs);have hp1:=h1.sm _ _ (s1 _ _ hp);refine ⟨_,rfl,mk,_,dmk,_,.ref cd,rfl,h1.sm _ _ e1,MC.c,MC.n3,rfl,.inl ⟨rfl,_,h1.lst 0 rfl⟩,_,rfl,s,ds,_,rfl,hs1,rfl,_,rfl,pr,_,dp,_,.ref la,rfl,hp1,PC.c,PC.n0,rfl,s,x,la,tg,lens,rfl,⟨ds,hs1⟩,h1.sql (zE hl s1),tl,_,rfl,szU 3,fun t0 nt0=>?_⟩;have e0:upd B1 t0 (.tup [.str "begin",.int (lens.getD tg 0),.int gg]) t0=_:=zh;have s2:Same B1 (upd B1 t0 (.tup [.str "begin",.int (lens.getD tg 0),.int gg])):=zo (Same.refl _) (h1.free nt0);have h2:=h1.grow (o:=.tup [.str "begin",.int (lens.getD tg 0),.int gg]) nt0;generalize upd B1 t0 (.tup [.str "begin",.int (lens.getD tg 0),.int gg])=B2 at e0 s2 h2;refine ⟨cd,_,_,rfl,rfl,h2.get 0 rfl,(by show 0<sizeLine;omega),?_⟩;replace h2:=h2.put (o':=.lst ([]++[V.ref t0])) 0 rfl;generalize upd (upd H1 t0 (.tup [.str "begin",.int (lens.getD tg 0),.int gg])) cd (.lst ([]++[V.ref t0]))=H2 at h2 ⊢;replace h2:Hd B2 [(cd,.lst (([t0]:List Addr).map V.ref))] H2:=h2;have s12:=s1.trans s2;refine ⟨_,rfl,_,rfl,.ref mk,s,x,tg,rfl,⟨ds,h2.sm _ _ (s12 _ _ hs)⟩,?_⟩;refine ⟨_,rfl,_,rfl,_,rfl,B2,mk,s,x,dmk,la,lb,cd,[t0],(8:Int).fdiv gg,0,lens,tg,F,rfl,h2,s2 _ _ e1,⟨ds,s12 _ _ hs⟩,hx.same s12,zE hl s12,rl,(by show 1<=1000;decide),fun B3 H3 t1 t2 s3 h3 e3 e4=>?_⟩;have s13:=s12.trans s3;have em:=h3.sm _ _ (s3 _ _ (s2 _ _ e1));have ecd:H3 cd=some (.lst (([t0,t1]:List Addr).map V.ref)):=h3.get 0 rfl;have et0:=h3.sm _ _ (s3 _ _ e0);have et1:=h3.sm _ _ e3;have et2:=h3.sm _ _ e4;have sH3:Same J H3:=s13.trans h3.sm;clear h3 h2 h1 s12 s13 s3 s2 s1 hs1 hp1 e0 e1 e3 e4;refine ⟨fun σ J2=>σ=[some (.ref pr),some (.ref s),some (.int number),some (.int gg),some (.ref mk),some (.int 0),some (.ref t2),none]/\Same H3 J2,?_,?_⟩
 ·refine ⟨_,rfl,mk,_,dmk,_,.ref cd,rfl,em,MC.c,MC.n3,rfl,cd,rfl,⟨_,SqL.of ecd⟩,_,rfl,fun D nD=>?_⟩
  refine xY (K:=K) (a:=cd) (D:=D) (xs:=([t0,t1]:List Addr).map V.ref) (fun i σ J2=>∃ u B4,σ=[u]/\Same H3 B4/\Hd B4 [(D,.lst ((List.replicate i false).map V.bl))] J2) ⟨none,H3,rfl,Same.refl _,Hd.base.new nD⟩ (fun i σ J2 _ ⟨_,B4,_,s4,h4⟩=>SqL.of (h4.sm _ _ (s4 _ _ ecd))) ?_ ?_
  ·rintro i y σ J2 hi ⟨u,B4,rfl,s4,h4⟩
   have hi2:i<2:=(List.getElem?_eq_some_iff.mp hi).1
   obtain ⟨t,z,r,rfl,e,z1,z2,z3⟩:∃ (t:Addr) (z:Str) (r:List V),y=.ref t/\H3 t=some (.tup (.str z::r))/\z≠"gather"/\z≠"reach"/\z≠"op":=by
    match i,hi with
    | 0,hi=>cases hi;exact ⟨t0,"begin",_,rfl,et0,by decide,by decide,by decide⟩
    | 1,hi =>
     cases hi;obtain ⟨z,r,e,z1⟩:=F.head lens 0 0;rw [e] at et1;exact ⟨t1,z,r,rfl,et1,z1⟩
   refine ⟨_,rfl,t,z,r,rfl,SqT.of (h4.sm _ _ (s4 _ _ e)),z1,z2,z3,fun J3 s5=>?_⟩;obtain ⟨B5,sB5,h5,_⟩:=h4.over s5;refine ⟨_,h5.get 0 rfl,(by rw [List.length_map,List.length_replicate];omega),some (.ref t),B5,rfl,s4.trans sB5,?_⟩;rw [List.replicate_succ',List.map_append];exact h5.put 0 rfl
  ·rintro σ J2 ⟨u,B4,rfl,s4,h4⟩
   refine ⟨D,List.replicate 2 false,rfl,h4.lst 0 rfl,false,rfl,yx ?_⟩;exact ⟨rfl,s4.trans h4.sm⟩
 rintro σ J2 ⟨rfl,s4⟩;refine ⟨_,rfl,mk,_,dmk,_,.ref cd,rfl,s4 _ _ em,MC.c,MC.n3,rfl,_,rfl,szU 1,fun t3 nt3=>?_⟩;have s5:Same J2 (upd J2 t3 (.tup [.str "next"])):=zo (Same.refl _) nt3;have et3:upd J2 t3 (.tup [.str "next"]) t3=_:=zh;generalize upd J2 t3 (.tup [.str "next"])=J3 at s5 et3 ⊢;refine ⟨szU 2,fun l nl=>?_⟩;have s6:Same J3 (upd J3 l (.lst [.ref t2,.ref t3])):=zo (Same.refl _) nl;have el:upd J3 l (.lst [.ref t2,.ref t3]) l=_:=zh;generalize upd J3 l (.lst [.ref t2,.ref t3])=J4 at s6 el ⊢;refine ⟨cd,l,_,_,rfl,rfl,s6 _ _ (s5 _ _ (s4 _ _ ecd)),el,szU 4,fun l2 nl2=>?_⟩;have s7:Same J4 (upd J4 l2 (.lst (([t0,t1,t2,t3]:List Addr).map V.ref))):=zo (Same.refl _) nl2;have s47:=((s4.trans s5).trans s6).trans s7;refine k _ l2 t0 t1 t2 t3 (sH3.trans s47) ((((sH3.trans s4).trans s5).trans s6).free nl2) zh ⟨rfl,fun i b tv hx hy=>?_⟩
 match i,hx,hy with
 | 0,hx,hy=>cases hx;cases hy;exact s47 _ _ et0
 | 1,hx,hy=>cases hx;cases hy;exact s47 _ _ et1
 | 2,hx,hy=>cases hx;cases hy;exact s47 _ _ et2
 | 3,hx,hy=>cases hx;cases hy;exact (s6.trans s7) _ _ et3
 | i+4,hx,hy=>cases hx
end
end K43
namespace L2
open PySem PySem.Spec PyProof.Rows
section
variable {P:Program} {w:World} {K:PySem.W.Frag} {mg:Str->Option Value} {base:Heap}
theorem FunD.ok {x qual:Str} {st:Stmt} {f:Addr} {fd:FuncData} {ds:Array Value} {N ps:List Str} {k:Nat} {sp:Sp} (F:FunD K x qual st f fd ds) (S:FnScope N ps (zc st)) (len:∀ vs H Q E,sp vs H Q E->vs.length=ps.length)
  (hbody:∀ (cdv:Value) (A:Around) (outer:List Env) (s:Shared) (H:Hp) (vs:List V) (Q:VK) (E:XK),Room k (A.deeper (envOfC qual (zc st) s.heap.objs.size f cdv))->sp vs H Q E ->
   ∃ t,PSs (cxOf CX0 P w K mg base N qual (zc st) f cdv A outer s H E).nox (zj st) t/\t { nx:=fun _ H'=>Q .non H',rt:=Q } (start N vs) H):FnOk P w K mg base CX0 (k+1) f fd ps sp:=by
 obtain ⟨oc,od,kV,doc,pm,an,cdv,ct,osl,T,o,n,rfl,lk,hcd,_,_⟩:=F.ex;refine fn_of lk hcd S len fun A outer s H vs Q E hr hsp=>?_;obtain ⟨t,h,q⟩:=hbody cdv A outer s H vs Q E hr hsp;exact ⟨t,h.nox,q⟩
def DefD (K:PySem.W.Frag) (mg:Str->Option Value) (x:Str) (st:Stmt) (ps:List Str):Prop:=∃ (f:Addr) (fd:FuncData) (t:Tok),mg x=some (.ref f)/\FunD K x x st f fd #[.int 0 t]/\Binds K fd ps []/\Binds K fd ps [.int 0 t]
def OkD (P:Program) (w:World) (K:PySem.W.Frag) (mg:Str->Option Value) (base:Heap) (CX:CXT) (k:Nat) (x:Str) (ps:List Str) (sp:Sp):Prop :=
 ∃ (f:Addr) (fd:FuncData) (t:Tok),mg x=some (.ref f)/\PySem.W.keepIn K (.ref f)=true/\Binds K fd ps []/\Binds K fd ps [.int 0 t]/\FnOk P w K mg base CX k f fd ps sp
theorem OkD.all {CX:CXT} {k:Nat} {x:Str} {ps:List Str} {sp:Sp} (h:OkD P w K mg base CX k x ps sp):Ok P w K mg base CX k x ps sp:=by
 obtain ⟨f,fd,t,a,b,c,_,e⟩:=h;exact ⟨f,fd,a,b,c,e⟩
end
theorem pe_okD {X:Cx} {CX:CXT} {k:Nat} {x:Str} {ps:List Str} {sp:Sp} {E:XK} {p pos:Pos} {e:Expr} {es:List Expr} {t:TA} (o:OkD X.prog X.w X.K X.mg X.base CX k x ps sp) (hr:Room k X.A) (hg:Gl X x) (hx:xb CX X E) (ha:PA X (e::es) t)
  (hdb:(x == ("__debug__":Str))=false:=by decide) (he:starEach (e::es) X.env=(false,eval e X.env)::starEach es X.env:=by rfl) (hpl:(backTo pos (starEach es X.env)).any (·.1)=false:=by rfl) :
  PE X (.Call (.Name x p) (e::es) [] pos) (tCall sp [.int 0] E t):=by
 obtain ⟨f,fd,tk,a,b,_,c,d⟩:=o;exact pe_call d hr hg a b c (.cons ⟨tk,rfl⟩ .nil) hx ha hdb he hpl
end L2
namespace K43
open PySem L2 FM
section
variable {P:Program} {w:World} {K:PySem.W.Frag} {mg:Str->Option Value} {base:Heap}
def zf1 (q:QCs) (K:PySem.W.Frag):Sp:=fun vs H Q _=>∃ (l s x:Addr) (tg:Nat),vs=[.ref l]/\SqL K H l [.ref s]/\LetAt q H s x tg/\Q (.int 1) H
theorem ok_count1 {q:QCs} (d:zw K mg "count_of" xH ["steps"]) (hisi:mg "isinstance"=none) (SG:StepG mg q) (LC:LetC K q) (CO:Ok P w K mg base CX0 1 "count_of" ["steps"] spNo):Ok P w K mg base CX0 2 "count_of" ["steps"] (zf1 q K):=by
 obtain ⟨g,fd,m,F,b⟩:=d;refine ⟨g,fd,m,F.kp,b,F.ok sc_count_of (by rintro vs H Q E ⟨_,_,_,_,rfl,_⟩;rfl) fun cdv A outer s H vs Q E hr h=>?_⟩;obtain ⟨l,s,x,tg,rfl,hl,⟨ds,hs⟩,k⟩:=h;have nd:=sc_count_of.nd;have hr1:=hr;refine ⟨_,(zd (zF (i:=1) nd rfl (Or.inl rfl) zf)
   (zd (Ze PassesOwn.never rfl (xz (pv 0)) (zW (i:=2) nd rfl (Or.inl rfl)) (zd (zF (i:=1) nd rfl (Or.inl rfl) (zp zY (pv 1) zf))
   (zg (zK (z7 (zt zD (by rfl) hisi PyProof.Rows.boot_isinstance (zb (pv 2) (zb (zZ SG.till) ze)))) (zg (zF (i:=1) nd rfl (Or.inl rfl) (zp zY (pv 1) (zI CO hr1 (by rfl) zy (zb (zi (pv 2) rfl) ze))))) zu))))
   (zg (zn (pv 1))))),?_⟩
 refine ⟨_,rfl,l,rfl,⟨_,hl⟩,?_⟩;refine ZC (K:=K) (a:=l) (xs:=[.ref s]) (fun i σ J=>∃ u,σ=[some (.ref l),some (.int (i:Int)),u]/\J=H) ⟨none,rfl,rfl⟩ (fun i σ J _ ⟨_,_,e⟩=>by rw [e];exact hl) ?_ ?_
 ·rintro i y σ J hi ⟨u,rfl,rfl⟩
  have hi1:i<1:=(List.getElem?_eq_some_iff.mp hi).1;obtain rfl:i=0:=by omega
  cases hi;refine ⟨_,rfl,_,_,rfl,rfl,?_⟩;refine ⟨_,rfl,_,_,.ref q.till,_,false,rfl,rfl,(fun u r=>r),LC.k.ty hs,LC.t,false,rfl,yx ?_⟩;exact ⟨_,rfl,rfl⟩
 ·rintro σ J ⟨u,rfl,rfl⟩
  exact ⟨_,rfl,k⟩
theorem code_app' {B:Hp} {cs os:List Addr} {code one:List (List V)} (h:CodeAt B cs code) (h2:CodeAt B os one):CodeAt B (cs++os) (code++one):=by
 refine ⟨by rw [List.length_append,List.length_append,h.n,h2.n],fun t b tv hx hy=>?_⟩;by_cases z:t<cs.length
 ·rw [List.getElem?_append_left z] at hx
  rw [List.getElem?_append_left (by rw [← h.n];exact z)] at hy;exact h.t t b tv hx hy
 ·rw [List.getElem?_append_right (by omega)] at hx
  rw [List.getElem?_append_right (by rw [← h.n];omega),← h.n] at hy;exact h2.t _ b tv hx hy
structure LetsAt (c:F2.Cs) (q:QCs) (lens:List Int) (H:Hp) (ss:List Addr) (Fs:List Leaf):Prop where
 n:ss.length=Fs.length
 t:∀ (i:Nat) (s:Addr) (F:Leaf),ss[i]?=some s->Fs[i]?=some F->F.In lens/\∃ x,LetAt q H s x 0/\LeafAt c H F x
theorem LetsAt.same {c:F2.Cs} {q:QCs} {lens:List Int} {H H':Hp} {ss:List Addr} {Fs:List Leaf} (h:LetsAt c q lens H ss Fs) (s:Same H H'):LetsAt c q lens H' ss Fs:=⟨h.n,fun i a F x y=>by
 obtain ⟨e,z,e1,e2⟩:=h.t i a F x y;exact ⟨e,z,e1.same s,e2.same s⟩⟩
def yR (lens:List Int) (g:Int) (Fs:List Leaf):List (List V):=(Fs.map (xU lens 0 g)).flatten
theorem zgt (lens:List Int) (g:Int) (Fs:List Leaf) (F:Leaf):yR lens g (Fs++[F])=yR lens g Fs++xU lens 0 g F:=by
 unfold yR;rw [List.map_append,List.flatten_append];show _++(xU lens 0 g F++[])=_;rw [List.append_nil]
theorem Z0 (lens:List Int) (g:Int):∀ Fs:List Leaf,(yR lens g Fs).length=4*Fs.length
 | []=>rfl
 | F::Fs=>by
  show (xU lens 0 g F++yR lens g Fs).length=_;rw [List.length_append,Z0 lens g Fs,List.length_cons];show 4+_=_;omega
def spCode (c:F2.Cs) (q:QCs) (K:PySem.W.Frag):Sp:=fun vs H Q _=>∃ (pr dp la lb lc ls:Addr) (ss:List Addr) (Fs:List Leaf) (lens:List Int) (first group:Int),vs=[.ref pr,.ref ls,.int first,.int group]/\H pr=some (.ins q.pr dp (prFl la lb lc))/\SqL K H la (lens.map V.int)/\0<lens.length/\SqL K H ls (ss.map V.ref)/\LetsAt c q lens H ss Fs/\Fs.length<=100/\(group=0∨group=1∨group=2∨group=4) /\
 ∀ H' l cs,Same H H'->H l=none->H' l=some (.lst (cs.map V.ref))->CodeAt H' cs (yR lens (gOf group) Fs)->Q (.ref l) H'
theorem ok_code {c:F2.Cs} {q:QCs} (d:zw K mg "code_of" xX ["program","steps","first","group"]) (hisi:mg "isinstance"=none) (SG:StepG mg q) (LC:LetC K q) (NU:Ok P w K mg base CX0 1 "turns_of" ["program","till","number","group"] spNo) (RO:Ok P w K mg base CX0 5 "round_of" ["program","step","number","group"] (zfx c q K)) (CO:Ok P w K mg base CX0 2 "count_of" ["steps"] (zf1 q K)):Ok P w K mg base CX0 6 "code_of" ["program","steps","first","group"] (spCode c q K):=by
 obtain ⟨g,fd,m,F,b⟩:=d;refine ⟨g,fd,m,F.kp,b,F.ok sc_code_of (by rintro vs H Q E ⟨_,_,_,_,_,_,_,_,_,_,_,rfl,_⟩;rfl) fun cdv A outer s H vs Q E hr h=>?_⟩;obtain ⟨pr,dp,la,lb,lc,ls,ss,Fs,lens,first,group,rfl,hp,hl,l0,hls,hSt,f100,hg,k⟩:=h;have nd:=sc_code_of.nd;have hr5:=hr;have hr2:Room 2 _:=hr.mono (by decide);have hr1:Room 1 _:=hr.mono (by decide);have SL:(200000:Nat)<sizeLine:=by decide
 refine ⟨_,(zd (zF (i:=4) nd rfl (Or.inl rfl) (yF ze))
   (zd (zF (i:=5) nd rfl (Or.inl rfl) (pv 2))
   (zd (Ze PassesOwn.never rfl (xz (pv 1)) (zW (i:=6) nd rfl (Or.inl rfl)) (zd (zK (z7 (zt zD (by rfl) hisi PyProof.Rows.boot_isinstance (zb (pv 6) (zb (zZ SG.till) ze)))) (zg (zS (Yq PySem.F.plainAttrs_list PySem.F.slot_list_extend PySem.F.type_list_extend XF (pv 4) (zb (zI NU hr1 (by rfl) zy (zb (pv 0) (zb (pv 6) (zb (pv 5) (zb (pv 3) ze))))) ze)))) (zg (zS (Yq PySem.F.plainAttrs_list PySem.F.slot_list_extend PySem.F.type_list_extend XF (pv 4) (zb (zI RO hr5 (by rfl) zy (zb (pv 0) (zb (pv 6) (zb (pv 5) (zb (pv 3) ze))))) ze)))))
   (zg (zF (i:=5) nd rfl (Or.inl rfl) (zp zY (pv 5) (zI CO hr2 (by rfl) zy (zb (yF (zb (pv 6) ze)) ze)))))))
   (zg (zn (pv 4)))))),?_⟩
 refine ⟨szU 0,fun cd ncd=>?_⟩;have ncd0:=ncd;have h0:Hd H [(cd,.lst (([]:List Addr).map V.ref))] (upd H cd (.lst [])):=Hd.base.new ncd;generalize upd H cd (.lst [])=H1 at h0 ⊢;refine ⟨_,rfl,?_⟩;refine ⟨_,rfl,ls,rfl,⟨_,h0.sql hls⟩,?_⟩;refine ZC (K:=K) (a:=ls) (xs:=ss.map V.ref) (fun i σ J=>∃ (n:Int) (u:Option V) (B:Hp) (cs:List Addr),σ=[some (.ref pr),some (.ref ls),some (.int first),some (.int group),some (.ref cd),some (.int n),u]/\Same H B/\Hd B [(cd,.lst (cs.map V.ref))] J/\CodeAt B cs (yR lens (gOf group) (Fs.take i))) ⟨first,none,H,[],rfl,Same.refl _,h0,⟨rfl,fun i b t x=>by cases x⟩⟩ (fun i σ J _ ⟨_,_,B,_,_,sB,h,_⟩=>h.sql (zE hls sB)) ?_ ?_
 ·clear h0
  rintro i y σ J hi ⟨n,u,B,cs,rfl,sB,h,CB⟩;obtain ⟨s,es,rfl⟩:=ZZ hi;have il:i<ss.length:=(List.getElem?_eq_some_iff.mp es).1;obtain ⟨F,eF⟩:∃ F,Fs[i]?=some F:=⟨_,List.getElem?_eq_getElem (by rw [← hSt.n];exact il)⟩;obtain ⟨fi,x,⟨ds,hs⟩,hx⟩:=hSt.t i s F es eF;have sJ:=sB.trans h.sm;refine ⟨_,rfl,_,_,.ref q.till,_,false,rfl,rfl,(fun u r=>r),LC.k.ty (sJ _ _ hs),LC.t,false,rfl,yx ?_⟩;refine ⟨_,rfl,.inl ⟨rfl,_,h.lst 0 rfl⟩,_,rfl,_,rfl,_,rfl,_,rfl,pr,dp,la,lb,lc,s,x,0,F,lens,n,group,rfl,sJ _ _ hp,⟨ds,sJ _ _ hs⟩,hx.same sJ,zE hl sJ,fi,l0,hg,fun J2 l t0 t1 t2 t3 s2 nl el CO2=>?_⟩;have ecd:=s2 _ _ (h.get 0 rfl);have ne:l≠cd:=fun e=>by rw [e,h.get 0 rfl] at nl;cases nl
  obtain ⟨B2,sB2,h2,new2⟩:=h.over s2;have out:∀ a o,J2 a=some o->a≠cd->B2 a=some o:=fun a o e n=>new2 a o e fun m=>n (List.mem_singleton.mp m)
  have CO3:CodeAt B2 [t0,t1,t2,t3] (xU lens 0 (gOf group) F):=⟨CO2.n,fun i b tv x y=>out _ _ (CO2.t i b tv x y) fun e=>by
   have:=CO2.t i b tv x y;rw [e,ecd] at this;cases this⟩
  have csl:cs.length<=400:=by rw [CB.n,Z0,List.length_take];omega
  refine ⟨cd,l,_,_,rfl,rfl,ecd,el,(by rw [List.length_map];show _+4<=_;omega),?_⟩;rw [← List.map_append];have h3:=h2.put (o':=.lst ((cs++[t0,t1,t2,t3]).map V.ref)) 0 rfl;generalize upd J2 cd (.lst ((cs++[t0,t1,t2,t3]).map V.ref))=J3 at h3 ⊢;have s02:=sB.trans sB2;refine ⟨_,rfl,_,rfl,szU 1,fun l3 nl3=>?_⟩;have h4:=h3.waste (o:=.lst [.ref s]) nl3;have e3:upd J3 l3 (.lst [.ref s]) l3=_:=zh;generalize upd J3 l3 (.lst [.ref s])=J4 at h4 e3 ⊢;refine ⟨l3,s,x,0,rfl,SqL.of e3,⟨ds,h4.sm _ _ (s02 _ _ hs)⟩,_,_,rfl,rfl,?_⟩;refine ⟨_,_,B2,cs++[t0,t1,t2,t3],rfl,s02,h4,?_⟩;have et:Fs.take (i+1)=Fs.take i++[F]:=by rw [List.take_add_one,eF];rfl
  rw [et,zgt];exact code_app' ⟨CB.n,fun t b tv x y=>sB2 _ _ (CB.t t b tv x y)⟩ CO3
 ·clear h0
  rintro σ J ⟨n,u,B,cs,rfl,sB,h,CB⟩;rw [List.length_map,hSt.n,List.take_length] at CB;exact ⟨_,rfl,k _ cd cs (sB.trans h.sm) ncd0 (h.get 0 rfl) (⟨CB.n,fun t b tv x y=>h.sm _ _ (CB.t t b tv x y)⟩)⟩
def spMade (c:F2.Cs) (q:QCs) (K:PySem.W.Frag):Sp:=fun vs H Q _=>∃ (pr dp la lb lc:Addr) (ss:List Addr) (Fs:List Leaf) (lens:List Int) (group:Int),vs=[.ref pr,.int group]/\H pr=some (.ins q.pr dp (prFl la lb lc))/\SqL K H la (lens.map V.int)/\0<lens.length/\SqL K H lc (ss.map V.ref)/\LetsAt c q lens H ss Fs/\Fs.length<=100/\(group=0∨group=1∨group=2∨group=4) /\
 ∀ H' l cs,Same H H'->H l=none->H' l=some (.lst (cs.map V.ref))->CodeAt H' cs (yR lens (gOf group) Fs)->Q (.ref l) H'
theorem ok_made {c:F2.Cs} {q:QCs} (d:DefD K mg "made" Ye ["program","group"]) (PC:PrC K q.pr) (CD:Ok P w K mg base CX0 6 "code_of" ["program","steps","first","group"] (spCode c q K)):OkD P w K mg base CX0 7 "made" ["program","group"] (spMade c q K):=by
 obtain ⟨g,fd,t,m,F,b,b2⟩:=d;refine ⟨g,fd,t,m,F.kp,b,b2,F.ok sc_made (by rintro vs H Q E ⟨_,_,_,_,_,_,_,_,_,rfl,_⟩;rfl) fun cdv A outer s H vs Q E hr h=>?_⟩;obtain ⟨pr,dp,la,lb,lc,ss,Fs,lens,group,rfl,hp,hl,l0,hls,hSt,f100,hg,k⟩:=h;have nd:=sc_made.nd;have hr6:=hr;refine ⟨_,(zg (zn (zI CD hr6 (by rfl) zy (zb (pv 0) (zb (zi (pv 0) rfl) (zb zf (zb (pv 1) ze))))))),?_⟩;exact ⟨_,rfl,_,rfl,pr,_,dp,_,.ref lc,rfl,hp,PC.c,PC.n2,rfl,_,rfl,pr,dp,la,lb,lc,lc,ss,Fs,lens,0,group,rfl,hp,hl,l0,hls,hSt,f100,hg,k⟩
def spCA (K:PySem.W.Frag):Sp:=fun vs H Q _=>∃ (a:Addr) (ns:List Int) (k:Int),vs=[.ref a,.int k]/\SqL K H a (ns.map V.int)/\0<=k/\Q (.int (ns.getD k.toNat 0)) H
theorem zhb (d:zw K mg "_law_cell_at" xo ["_law_script","_law_k"]) (hlen:mg "len"=none):Ok P w K mg base CX0 1 "_law_cell_at" ["_law_script","_law_k"] (spCA K):=by
 obtain ⟨g,fd,m,F,b⟩:=d;refine ⟨g,fd,m,F.kp,b,F.ok zcs (by rintro vs H Q E ⟨_,_,_,rfl,_⟩;rfl) fun cdv A outer s H vs Q E hr h=>?_⟩;obtain ⟨a,ns,i,rfl,hS,h0,k⟩:=h;refine ⟨_,(zd (zK (zG op_lt (pv 1) (zt zP (by rfl) hlen PySem.boot_len (zb (pv 0) ze)) (zJ _)) (zg (zn (zB zM (pv 0) (pv 1) (fun _ _=>rfl)))) zu)
   (zg (zn zf))),?_⟩
 refine ⟨_,rfl,_,rfl,a,_,rfl,.inl hS,_,_,rfl,rfl,_,rfl,?_⟩;rw [List.length_map];refine y6 (fun z=>?_) (fun z=>?_)
 ·have z:i<(ns.length:Int):=by simpa using z
  exact ⟨_,rfl,_,rfl,a,_,_,_,rfl,rfl,hS,xa i.toNat (by omega) (by omega),k⟩
 ·have z:¬ i<(ns.length:Int):=by simpa using z
  have e:ns.getD i.toNat 0=0:=by rw [List.getD_eq_getElem?_getD,List.getElem?_eq_none (by omega)];rfl
  rw [e] at k;exact k
def spSomeL (K:PySem.W.Frag):Sp:=fun vs H Q _=>∃ (a:Addr) (ns:List Int) (at':Int) (n:Nat),vs=[.ref a,.int at',.int n]/\SqL K H a (ns.map V.int)/\ns.length<=63/\0<=at'/\at'<=100/\n<=1000/\∀ H' l (xs:List Int),xs.length=n->Same H H'->H l=none->H' l=some (.lst (xs.map V.int))->Q (.ref l) H'
theorem ok_someL (d:zw K mg "_law_some" Zk ["_law_script","_law_at","_law_count"]) (hlen:mg "len"=none) (hrg:mg "range"=none) (KB:Ok P w K mg base (CXe P w base) 1 "_law_kept_by" ["_law_cell"] spKB):Ok P w K mg base CX0 2 "_law_some" ["_law_script","_law_at","_law_count"] (spSomeL K):=by
 obtain ⟨g,fd,m,F,b⟩:=d;refine ⟨g,fd,m,F.kp,b,F.ok sc_l_some (by rintro vs H Q E ⟨_,_,_,_,rfl,_⟩;rfl) fun cdv A outer s H vs Q E hr h=>?_⟩;obtain ⟨a,ns,at',n,rfl,hS,hn,a0,a1,n1,k⟩:=h;have nd:=sc_l_some.nd;have hr1:=hr;have SL:(200000:Nat)<sizeLine:=by decide
 refine ⟨_,(zd (zF (i:=3) nd rfl (Or.inl rfl) (yF ze))
   (zd (Ze PassesOwn.never rfl (xv rfl hrg (zb (pv 2) ze)) (zW (i:=4) nd rfl (Or.inl rfl)) (zd (zF (i:=5) nd rfl (Or.inl rfl) zf)
   (zd (x8 (zK (zG op_gt (zt zP (by rfl) hlen PySem.boot_len (zb (pv 0) ze)) zf (zJ _)) (zg (zF (i:=5) nd rfl (Or.inl rfl) (zB zM (pv 0) (zp ye (zp zY (pv 1) (zp xL zf (pv 4))) (zt zP (by rfl) hlen PySem.boot_len (zb (pv 0) ze))) (fun _ _=>rfl)))) zu))
   (zg (zS (Yq PySem.F.plainAttrs_list PySem.F.slot_list_append PySem.F.type_list_append xw (pv 3) (zb (zI KB hr1 (by rfl) xT (zb (zp zY (zp zY (zp zgb (pv 5) (zp zY zf (zp ye (pv 4) zf))) (zp xL (zp xL zf (pv 4)) (pv 4))) (zp xL zf (pv 1))) ze)) ze)))))))
   (zg (zn (pv 3))))),?_⟩
 refine ⟨szU 0,fun l nl=>?_⟩;have nl0:=nl;have h0:Hd H [(l,.lst (([]:List Int).map V.int))] (upd H l (.lst [])):=Hd.base.new nl;generalize upd H l (.lst [])=H1 at h0 ⊢;refine ⟨_,rfl,_,rfl,by omega,by omega,?_⟩;rw [Int.toNat_natCast];refine ZP (n:=n) (fun i σ J=>∃ (u4 u5:Option V) (B:Hp) (xs:List Int),σ=[some (.ref a),some (.int at'),some (.int n),some (.ref l),u4,u5]/\xs.length=i/\Same H B/\Hd B [(l,.lst (xs.map V.int))] J) ⟨none,none,H,[],rfl,rfl,Same.refl _,h0⟩ ?_ ?_
 ·clear h0
  rintro i σ J hi ⟨u4,u5,B,xs,rfl,lx,sB,h⟩;have hSB:=zE hS sB;refine ⟨fun σ J2=>∃ cell:Int,σ=[some (.ref a),some (.int at'),some (.int n),some (.ref l),some (.int (0+(i:Int))),some (.int cell)]/\J2=J,?_,?_⟩
  ·refine ⟨_,rfl,a,_,rfl,.inl (h.sql hSB),_,_,rfl,rfl,_,rfl,?_⟩
   rw [List.length_map];refine y6 (fun z=>?_) (fun z=>?_)
   ·have z:(0:Int)<(ns.length:Nat):=of_decide_eq_true z
    have m0:=Int.emod_nonneg (at'+5*(0+(i:Int))) (show ((ns.length:Nat):Int)≠0 by omega);have m1:=Int.emod_lt_of_pos (at'+5*(0+(i:Int))) z;refine ⟨_,rfl,_,rfl,_,rfl,_,_,rfl,rfl,.inl ⟨by decide,by decide⟩,_,_,rfl,rfl,_,rfl,a,_,rfl,.inl (h.sql hSB),?_⟩;rw [List.length_map];refine ⟨_,_,rfl,rfl,z,a,_,_,_,rfl,rfl,h.sql hSB,xa ((at'+5*(0+(i:Int))) % (ns.length:Nat)).toNat (by omega) (by show (at'+5*(0+(i:Int))) % (ns.length:Nat)=_;omega),?_⟩;exact ⟨_,rfl,rfl⟩
   ·exact ⟨_,rfl,rfl⟩
  rintro σ J2 ⟨cell,rfl,rfl⟩;have k3:=Int.emod_nonneg (0+(i:Int)) (show (3:Int)≠0 by decide);have k4:=Int.emod_lt_of_pos (0+(i:Int)) (show (0:Int)<3 by decide);refine ⟨_,rfl,.inl ⟨rfl,_,h.lst 0 rfl⟩,_,rfl,_,rfl,_,_,rfl,rfl,(by show (0:Int)<3;decide),_,_,rfl,rfl,_,_,rfl,rfl,⟨by omega,by omega,by omega⟩,?_⟩;refine ⟨_,rfl,_,_,rfl,rfl,.inl ⟨by decide,by decide⟩,_,rfl,_,_,rfl,rfl,.inr ⟨by omega,by omega⟩,_,_,rfl,rfl,_,rfl,_,_,rfl,rfl,.inl ⟨by decide,by decide⟩,_,_,rfl,rfl,_,rfl,fun J3 s3=>?_⟩;obtain ⟨B2,sB2,h2,_⟩:=h.over s3;refine ⟨l,_,_,rfl,rfl,h2.get 0 rfl,(by rw [List.length_map];omega),?_⟩;refine ⟨_,_,B2,xs++[yz (cell.fdiv (1+(0+(i:Int)) % 3)+7*(0+(i:Int))*(0+(i:Int))+3*at')],rfl,by rw [List.length_append,lx];rfl,sB.trans sB2,?_⟩;rw [List.map_append];exact h2.put 0 rfl
 ·clear h0
  rintro σ J ⟨u4,u5,B,xs,rfl,lx,sB,h⟩;exact ⟨_,rfl,k _ l xs lx (sB.trans h.sm) nl0 (h.get 0 rfl)⟩
structure TysK (K:PySem.W.Frag) (mg:Str->Option Value):Prop where
 tu:mg "tuple"=none
 li:mg "list"=none
 st:mg "str"=none
 ktt:PySem.W.kitOne K (.type "tuple") (.type "tuple")=some true
 kll:PySem.W.kitOne K (.type "list") (.type "list")=some true
 kss:PySem.W.kitOne K (.type "str") (.type "str")=some true
def RvAt (H:Hp) (v:V):Option (Int×Int×Str)->Prop
 | none=>v=.non
 | some (n,p,s)=>∃ u,v=.ref u/\H u=some (.tup [.int n,.int p,.str s])
def kinds3:List Str:=["nought","outside","endless"]
def dR (n p:Int) (s:Str):PyData:=.tuple [.int n,.int p,.str s]
theorem dr_dv {H:Hp} {t:Addr} {n p:Int} {s:Str} (h:H t=some (.tup [.int n,.int p,.str s])):DV K H (.ref t) (dR n p s):=.tup (SqT.of h) (.cons (.int _) (.cons (.int _) (.cons (.str _) .nil)))
theorem dr_lay {n p:Int} {s:Str} (h:s∈kinds3):(dR n p s).canLay0=true:=by
 simp only [kinds3,List.mem_cons,List.not_mem_nil,or_false] at h;rcases h with rfl | rfl | rfl <;> (simp [dR,PyData.canLay0,PyData.canLayAll0];try decide +kernel)
theorem dr_dep {n p:Int} {s:Str}:(dR n p s).depth<=64:=Nat.le_trans (dep_tup (n:=2) (Xd (by show PyData.depth (.int _)<=2;simp [PyData.depth]) (Xd (by show PyData.depth (.int _)<=2;simp [PyData.depth]) (Xd (by show PyData.depth (.str _)<=2;simp [PyData.depth]) dep_nil)))) (by decide)
def spTold3 (K:PySem.W.Frag):Sp:=fun vs H Q _=>∃ (t c1 c2:Addr) (v1 v2 v3:V) (cs:List Int) (r:Option (Int×Int×Str)),vs=[.ref t,.ref c2,v2]/\H t=some (.tup [.ref c1,v1,v3])/\H c1=some (.lst (cs.map V.int))/\SqL K H c2 (cs.map V.int)/\RvAt H v1 r/\RvAt H v2 r/\(∀ n p s,r=some (n,p,s)->s∈kinds3)/\Q (.bl true) H
theorem ok_told3 (d:zw K mg "_law_told" Zj ["_law_found","_law_cells","_law_refusal"]) (hlen:mg "len"=none) (N:Ints K mg) (T:TysK K mg) (WH:Ok P w K mg base (CXe P w base) 1 "_law_whole" ["_law_found"] (sp1 fun _=>.bl true)) :
  Ok P w K mg base CX0 2 "_law_told" ["_law_found","_law_cells","_law_refusal"] (spTold3 K):=by
 obtain ⟨g,fd,m,F,b⟩:=d;refine ⟨g,fd,m,F.kp,b,F.ok sc_l_told (by rintro vs H Q E ⟨_,_,_,_,_,_,_,_,rfl,_⟩;rfl) fun cdv A outer s H vs Q E hr h=>?_⟩;obtain ⟨t1,c1,c2,v1,v2,v3,cs,r,rfl,e1,hc1,hc2,rv1,rv2,hK,k⟩:=h;have nd:=sc_l_told.nd;have hr1:=hr;have hu:=hr.units;have htu:=T.tu;have hli:=T.li;have hst:=T.st;refine ⟨_,(zd (zK (XC (Yf (z7 (zt zD (by rfl) N.isi PyProof.Rows.boot_isinstance (zb (pv 0) (zb (ZY htu PyProof.Rows.boot_tuple) ze))))) (XC (zG op_ne (zt zP (by rfl) hlen PySem.boot_len (zb (pv 0) ze)) zf (zJ _)) (pw_or1 (Yf (z7 (zt zD (by rfl) N.isi PyProof.Rows.boot_isinstance (zb (zB zR (pv 0) zf (fun _ _=>rfl)) (zb (ZY hli PyProof.Rows.boot_list) ze)))))))).pt (zg (zn Zy)) zu)
   (zd (Ze PassesOwn.never rfl (xz (zB zR (pv 0) zf (fun _ _=>rfl))) (zW (i:=3) nd rfl (Or.inl rfl)) (zg (zK (Yf (z7 (zI WH hr1 (by rfl) xT (zb (pv 3) ze)))) (zg (zn Zy)) zu)))
   (zd (zK (zG (op_neD hu) (zB zR (pv 0) zf (fun _ _=>rfl)) (pv 1) (zJ _)) (zg (zn Zy)) zu)
   (zd (zK (zG Y5 (pv 2) xR (zJ _)) (zg (zn (xO Y5 (zB zR (pv 0) zf (fun _ _=>rfl)) xR (zJ _)))) zu)
   (zd (zK (XC (Yf (z7 (zt zD (by rfl) N.isi PyProof.Rows.boot_isinstance (zb (zB zR (pv 0) zf (fun _ _=>rfl)) (zb (ZY htu PyProof.Rows.boot_tuple) ze))))) (XC (zG op_ne (zt zP (by rfl) hlen PySem.boot_len (zb (zB zR (pv 0) zf (fun _ _=>rfl)) ze)) zf (zJ _)) (pw_or1 (Yf (z7 (zt zD (by rfl) N.isi PyProof.Rows.boot_isinstance (zb (zB zR (zB zR (pv 0) zf (fun _ _=>rfl)) zf (fun _ _=>rfl)) (zb (ZY hst PyProof.Rows.boot_str) ze)))))))).pt (zg (zn Zy)) zu)
   (zg (zn (Y4 (zI WH hr1 (by rfl) xT (zb (zB zR (zB zR (pv 0) zf (fun _ _=>rfl)) zf (fun _ _=>rfl)) ze)) (Y4 (zI WH hr1 (by rfl) xT (zb (zB zR (zB zR (pv 0) zf (fun _ _=>rfl)) zf (fun _ _=>rfl)) ze)) (Y1 (xO (op_eqD hu) (zB zR (pv 0) zf (fun _ _=>rfl)) (pv 2) (zJ _)))))))))))),?_⟩
 refine ⟨_,rfl,_,_,.type "tuple",.type "tuple",true,rfl,rfl,(fun u r=>r),.inl (.tup e1),T.ktt,true,rfl,yx ?_⟩;refine ⟨_,rfl,t1,_,rfl,.inr (SqT.of e1),rfl,_,rfl,iteNS rfl ?_⟩;refine ⟨_,rfl,t1,_,0,.ref c1,rfl,rfl,SqT.of e1,rfl,_,_,.type "list",.type "list",true,rfl,rfl,(fun u r=>r),.inl (.lst hc1),T.kll,true,rfl,yx ?_⟩;refine ⟨_,rfl,t1,_,0,.ref c1,rfl,rfl,SqT.of e1,rfl,c1,rfl,⟨_,SqL.of hc1⟩,?_⟩;refine ZC (K:=K) (a:=c1) (xs:=cs.map V.int) (fun i σ H2=>∃ u,σ=[some (.ref t1),some (.ref c2),some v2,u]/\H2=H) ⟨none,rfl,rfl⟩ (fun i σ H2 _ ⟨_,_,e⟩=>by rw [e];exact SqL.of hc1) ?_ ?_
 ·rintro i x σ H2 hi ⟨u,rfl,rfl⟩
  obtain ⟨hlt,rfl⟩:=xN hi;exact ⟨_,rfl,_,rfl,true,rfl,yx ⟨_,rfl,rfl⟩⟩
 ·rintro σ H2 ⟨u,rfl,rfl⟩
  refine ⟨_,rfl,t1,_,0,.ref c1,rfl,rfl,SqT.of e1,rfl,_,rfl,dI cs,dI cs,ZQ (SqL.of hc1),ZQ hc2,xB,xB,Nat.le_trans Xc (by decide),?_⟩;rw [SeqAt.eqv_refl _ xB];refine ⟨false,rfl,yx ?_⟩
  cases r with
  | none =>
   cases (show v1=.non from rv1);cases (show v2=.non from rv2);refine ⟨_,rfl,rfl,true,congrArg V.bl (decide_eq_true rfl),Zq ?_⟩;refine ⟨_,rfl,t1,_,1,.non,rfl,rfl,SqT.of e1,rfl,rfl,?_⟩;rw [decide_eq_true rfl];exact k
  | some r =>
   obtain ⟨n,p,s3⟩:=r;obtain ⟨u1,rfl,f1⟩:=rv1;obtain ⟨u2,rfl,f2⟩:=rv2;have hs:=hK _ _ _ rfl;refine ⟨_,rfl,rfl,false,congrArg V.bl (decide_eq_false (fun z=>by cases z)),yx ?_⟩;refine ⟨_,rfl,t1,_,1,.ref u1,rfl,rfl,SqT.of e1,rfl,_,_,.type "tuple",.type "tuple",true,rfl,rfl,(fun u r=>r),.inl (.tup f1),T.ktt,true,rfl,yx ?_⟩;refine ⟨_,rfl,t1,_,1,.ref u1,rfl,rfl,SqT.of e1,rfl,u1,_,rfl,.inr (SqT.of f1),rfl,_,rfl,iteNS rfl ?_⟩;refine ⟨_,rfl,t1,_,1,.ref u1,rfl,rfl,SqT.of e1,rfl,u1,_,2,.str s3,rfl,rfl,SqT.of f1,rfl,_,_,.type "str",.type "str",true,rfl,rfl,(fun u r=>r),.inl (.str _),T.kss,true,rfl,yx ?_⟩;refine ⟨_,rfl,t1,_,1,.ref u1,rfl,rfl,SqT.of e1,rfl,u1,_,0,.int n,rfl,rfl,SqT.of f1,rfl,n,rfl,true,rfl,Zq ?_⟩;refine ⟨_,rfl,t1,_,1,.ref u1,rfl,rfl,SqT.of e1,rfl,u1,_,1,.int p,rfl,rfl,SqT.of f1,rfl,p,rfl,true,rfl,Zq ?_⟩;refine ⟨_,rfl,t1,_,1,.ref u1,rfl,rfl,SqT.of e1,rfl,_,rfl,dR n p s3,dR n p s3,dr_dv f1,dr_dv f2,dr_lay hs,dr_lay hs,dr_dep,?_⟩;rw [SeqAt.eqv_refl _ (dr_lay hs)];exact k
def zL (c:Int):Leaf :=
 if c % 6=0 then .num (yz (c / 6)) else if c % 6=1 then .here else if c % 6=2 then .cell 1 else if c % 6=3 then .cell 2 else if c % 6=4 then .shi 3 (c / 6 % 9-4) (yz (c / 54)) else .cell 0
def spLeafL (c:F2.Cs):Sp:=fun vs H Q _=>∃ cell:Int,vs=[.int cell]/\∀ H' x,Same H H'->LeafAt c H' (zL cell) x->Q (.ref x) H'
theorem ok_leafL {c:F2.Cs} (d:zw K mg "_law_leaf" Zl ["_law_cell"]) (G:FormG mg c) (KB:Ok P w K mg base (CXe P w base) 1 "_law_kept_by" ["_law_cell"] spKB) (MH:MkN K c.here) (IN:OkI P w K mg base (CXe P w base) 1 c.num ["self","number"] (YK c.num)) (IC:OkI P w K mg base (CXe P w base) 1 c.cell ["self","row"] (zfz c.cell)) (IS:OkI P w K mg base (CXe P w base) 1 c.shi ["self","row","by","other"] (Yp c.shi)):Ok P w K mg base CX0 3 "_law_leaf" ["_law_cell"] (spLeafL c):=by
 obtain ⟨g,fd,m,F,b⟩:=d;refine ⟨g,fd,m,F.kp,b,F.ok sc_l_leaf (by rintro vs H Q E ⟨_,rfl,_⟩;rfl) fun cdv A outer s H vs Q E hr h=>?_⟩;obtain ⟨cell,rfl,k⟩:=h;have nd:=sc_l_leaf.nd;have hr2:=hr;have hr1:Room 1 _:=hr.mono (by decide);refine ⟨_,(zd (zF (i:=1) nd rfl (Or.inl rfl) (zp ye (pv 0) zf))
   (zd (zK (zG yO (pv 1) zf (zJ _)) (zg (zn (xK IN G.num hr2 (by rfl) xT (zb (zI KB hr1 (by rfl) xT (zb (zp yA (pv 0) zf) ze)) ze)))) zu)
   (zd (zK (zG yO (pv 1) zf (zJ _)) (zg (zn (pe_makeN MH (by rfl) G.here))) zu)
   (zd (zK (zG yO (pv 1) zf (zJ _)) (zg (zn (xK IC G.cell hr2 (by rfl) xT (zb zf ze)))) zu)
   (zd (zK (zG yO (pv 1) zf (zJ _)) (zg (zn (xK IC G.cell hr2 (by rfl) xT (zb zf ze)))) zu)
   (zd (zK (zG yO (pv 1) zf (zJ _)) (zg (zn (xK IS G.shi hr2 (by rfl) xT (zb zf (zb (zp Yi (zp ye (zp yA (pv 0) zf) zf) zf) (zb (zI KB hr1 (by rfl) xT (zb (zp yA (pv 0) zf) ze)) ze)))))) zu)
   (zg (zn (xK IC G.cell hr2 (by rfl) xT (zb zf ze)))))))))),?_⟩
 refine ⟨_,rfl,_,_,rfl,rfl,(by show (0:Int)<6;decide),?_⟩;refine ⟨_,rfl,rfl,_,rfl,y6 (fun z=>?_) (fun z0=>?_)⟩
 ·have z:cell % 6=0:=V.int.inj (of_decide_eq_true z)
  have e:zL cell=.num (yz (cell / 6)):=if_pos z;rw [e] at k;refine ⟨_,rfl,_,_,rfl,rfl,⟨by decide,by decide⟩,_,rfl,fun H1 s1=>?_⟩;exact fun x dx n1 n2 n3=>⟨x,dx,.int (yz (cell / 6)),rfl,zh,fun H2 k2 e2=>⟨rfl,k H2 x (s1.trans (Zn n1 n2 k2)) ⟨dx,e2⟩⟩⟩
 replace z0:¬ cell % 6=0:=fun y=>z0 (decide_eq_true (congrArg V.int y));refine ⟨_,rfl,rfl,_,rfl,y6 (fun z=>?_) (fun z1=>?_)⟩
 ·have z:cell % 6=1:=V.int.inj (of_decide_eq_true z)
  have e:zL cell=.here:=(if_neg z0).trans (if_pos z);rw [e] at k;exact fun x dx n1 n2 n3=>k _ x ((zo (Same.refl _) n2).trans (zo (Same.refl _) (by rw [zm (Ne.symm n3)];exact n1))) ⟨dx,zh⟩
 replace z1:¬ cell % 6=1:=fun y=>z1 (decide_eq_true (congrArg V.int y));refine ⟨_,rfl,rfl,_,rfl,y6 (fun z=>?_) (fun z2=>?_)⟩
 ·have z:cell % 6=2:=V.int.inj (of_decide_eq_true z)
  have e:zL cell=.cell 1:=(if_neg z0).trans ((if_neg z1).trans (if_pos z));rw [e] at k;exact fun x dx n1 n2 n3=>⟨x,dx,.int 1,rfl,zh,fun H2 k2 e2=>⟨rfl,k H2 x (Zn n1 n2 k2) ⟨dx,e2⟩⟩⟩
 replace z2:¬ cell % 6=2:=fun y=>z2 (decide_eq_true (congrArg V.int y));refine ⟨_,rfl,rfl,_,rfl,y6 (fun z=>?_) (fun z3=>?_)⟩
 ·have z:cell % 6=3:=V.int.inj (of_decide_eq_true z)
  have e:zL cell=.cell 2:=(if_neg z0).trans ((if_neg z1).trans ((if_neg z2).trans (if_pos z)));rw [e] at k;exact fun x dx n1 n2 n3=>⟨x,dx,.int 2,rfl,zh,fun H2 k2 e2=>⟨rfl,k H2 x (Zn n1 n2 k2) ⟨dx,e2⟩⟩⟩
 replace z3:¬ cell % 6=3:=fun y=>z3 (decide_eq_true (congrArg V.int y));refine ⟨_,rfl,rfl,_,rfl,y6 (fun z=>?_) (fun z4=>?_)⟩
 ·have z:cell % 6=4:=V.int.inj (of_decide_eq_true z)
  have e:zL cell=.shi 3 (cell / 6 % 9-4) (yz (cell / 54)):=(if_neg z0).trans ((if_neg z1).trans ((if_neg z2).trans ((if_neg z3).trans (if_pos z))));rw [e] at k;refine ⟨_,rfl,_,_,rfl,rfl,⟨by decide,by decide⟩,_,_,rfl,rfl,(by show (0:Int)<9;decide),_,_,rfl,rfl,_,rfl,_,_,rfl,rfl,⟨by decide,by decide⟩,_,rfl,fun H1 s1=>?_⟩;exact fun x dx n1 n2 n3=>⟨x,dx,.int 3,.int (cell / 6 % 9-4),.int (yz (cell / 54)),rfl,zh,fun H2 k2 e2=>⟨rfl,k H2 x (s1.trans (Zn n1 n2 k2)) ⟨dx,e2⟩⟩⟩
 replace z4:¬ cell % 6=4:=fun y=>z4 (decide_eq_true (congrArg V.int y));have e:zL cell=.cell 0:=(if_neg z0).trans ((if_neg z1).trans ((if_neg z2).trans ((if_neg z3).trans (if_neg z4))));rw [e] at k;exact fun x dx n1 n2 n3=>⟨x,dx,.int 0,rfl,zh,fun H2 k2 e2=>⟨rfl,k H2 x (Zn n1 n2 k2) ⟨dx,e2⟩⟩⟩
def ZR (x0 x1 x2 x3:List Int) (c p:Int):Int :=
 if c % 6=0 then yz (c / 6) else if c % 6=1 then p else if c % 6=2 then x1.getD p.toNat 0 else if c % 6=3 then x2.getD 0 0 else if c % 6=4 then (if 0<=p+c / 6 % 9-4/\p+c / 6 % 9-4<(x3.length:Nat) then x3.getD (p+c / 6 % 9-4).toNat 0 else yz (c / 54)) else x0.getD p.toNat 0
def spDueL (K:PySem.W.Frag):Sp:=fun vs H Q _=>∃ (cell:Int) (p:Nat) (rl r0 r1 r2 r3:Addr) (x0 x1 x2 x3:List Int),vs=[.int cell,.int p,.ref rl]/\SqL K H rl [.ref r0,.ref r1,.ref r2,.ref r3]/\SqL K H r0 (x0.map V.int)/\SqL K H r1 (x1.map V.int)/\SqL K H r2 (x2.map V.int)/\SqL K H r3 (x3.map V.int)/\p<x0.length/\p<x1.length/\0<x2.length/\∀ H',Same H H'->Q (.int (ZR x0 x1 x2 x3 cell p)) H'
theorem ok_dueL (d:zw K mg "_law_due" ZI ["_law_cell","_law_place","_law_rows"]) (hlen:mg "len"=none) (KB:Ok P w K mg base (CXe P w base) 1 "_law_kept_by" ["_law_cell"] spKB):Ok P w K mg base CX0 2 "_law_due" ["_law_cell","_law_place","_law_rows"] (spDueL K):=by
 obtain ⟨g,fd,m,F,b⟩:=d;refine ⟨g,fd,m,F.kp,b,F.ok sc_l_due (by rintro vs H Q E ⟨_,_,_,_,_,_,_,_,_,_,_,rfl,_⟩;rfl) fun cdv A outer s H vs Q E hr h=>?_⟩;obtain ⟨cell,p,rl,r0,r1,r2,r3,x0,x1,x2,x3,rfl,hrl,h0,h1,h2,h3,p0,p1,l2,k⟩:=h;have nd:=sc_l_due.nd;have hr1:=hr;refine ⟨_,(zd (zF (i:=3) nd rfl (Or.inl rfl) (zp ye (pv 0) zf))
   (zd (zK (zG yO (pv 3) zf (zJ _)) (zg (zn (zI KB hr1 (by rfl) xT (zb (zp yA (pv 0) zf) ze)))) zu)
   (zd (zK (zG yO (pv 3) zf (zJ _)) (zg (zn (pv 1))) zu)
   (zd (zK (zG yO (pv 3) zf (zJ _)) (zg (zn (zB zM (zB zM (pv 2) zf (fun _ _=>rfl)) (pv 1) (fun _ _=>rfl)))) zu)
   (zd (zK (zG yO (pv 3) zf (zJ _)) (zg (zn (zB zM (zB zM (pv 2) zf (fun _ _=>rfl)) zf (fun _ _=>rfl)))) zu)
   (zd (zK (zG yO (pv 3) zf (zJ _)) (zd (zF (i:=4) nd rfl (Or.inl rfl) (zp Yi (zp zY (pv 1) (zp ye (zp yA (pv 0) zf) zf)) zf))
   (zd (zK (zf9 op_le op_lt zf (pv 4) (zt zP (by rfl) hlen PySem.boot_len (zb (zB zM (pv 2) zf (fun _ _=>rfl)) ze))) (zg (zn (zB zM (zB zM (pv 2) zf (fun _ _=>rfl)) (pv 4) (fun _ _=>rfl)))) zu)
   (zg (zn (zI KB hr1 (by rfl) xT (zb (zp yA (pv 0) zf) ze)))))) zu)
   (zg (zn (zB zM (zB zM (pv 2) zf (fun _ _=>rfl)) (pv 1) (fun _ _=>rfl)))))))))),?_⟩
 refine ⟨_,rfl,_,_,rfl,rfl,(by show (0:Int)<6;decide),?_⟩;refine ⟨_,rfl,rfl,_,rfl,y6 (fun z=>?_) (fun z0=>?_)⟩
 ·have z:cell % 6=0:=V.int.inj (of_decide_eq_true z)
  have e:ZR x0 x1 x2 x3 cell p=yz (cell / 6):=if_pos z;rw [e] at k;exact ⟨_,rfl,_,_,rfl,rfl,⟨by decide,by decide⟩,_,rfl,fun H1 s1=>k H1 s1⟩
 replace z0:¬ cell % 6=0:=fun y=>z0 (decide_eq_true (congrArg V.int y));refine ⟨_,rfl,rfl,_,rfl,y6 (fun z=>?_) (fun z1=>?_)⟩
 ·have z:cell % 6=1:=V.int.inj (of_decide_eq_true z)
  have e:ZR x0 x1 x2 x3 cell p=p:=(if_neg z0).trans (if_pos z);rw [e] at k;exact ⟨_,rfl,k H (Same.refl _)⟩
 replace z1:¬ cell % 6=1:=fun y=>z1 (decide_eq_true (congrArg V.int y));refine ⟨_,rfl,rfl,_,rfl,y6 (fun z=>?_) (fun z2=>?_)⟩
 ·have z:cell % 6=2:=V.int.inj (of_decide_eq_true z)
  have e:ZR x0 x1 x2 x3 cell p=x1.getD p 0:=(if_neg z0).trans ((if_neg z1).trans (if_pos z));rw [e] at k;exact ⟨_,rfl,rl,_,_,.ref r1,rfl,rfl,hrl,rfl,_,rfl,r1,_,_,_,rfl,rfl,h1,xa p p1 rfl,k H (Same.refl _)⟩
 replace z2:¬ cell % 6=2:=fun y=>z2 (decide_eq_true (congrArg V.int y));refine ⟨_,rfl,rfl,_,rfl,y6 (fun z=>?_) (fun z3=>?_)⟩
 ·have z:cell % 6=3:=V.int.inj (of_decide_eq_true z)
  have e:ZR x0 x1 x2 x3 cell p=x2.getD 0 0:=(if_neg z0).trans ((if_neg z1).trans ((if_neg z2).trans (if_pos z)));rw [e] at k;exact ⟨_,rfl,rl,_,_,.ref r2,rfl,rfl,hrl,rfl,r2,_,_,_,rfl,rfl,h2,xa 0 l2 rfl,k H (Same.refl _)⟩
 replace z3:¬ cell % 6=3:=fun y=>z3 (decide_eq_true (congrArg V.int y));refine ⟨_,rfl,rfl,_,rfl,y6 (fun z=>?_) (fun z4=>?_)⟩
 ·have z:cell % 6=4:=V.int.inj (of_decide_eq_true z)
  have e:ZR x0 x1 x2 x3 cell p=if 0<=(p:Int)+cell / 6 % 9-4/\(p:Int)+cell / 6 % 9-4<(x3.length:Nat) then x3.getD ((p:Int)+cell / 6 % 9-4).toNat 0 else yz (cell / 54):=(if_neg z0).trans ((if_neg z1).trans ((if_neg z2).trans ((if_neg z3).trans (if_pos z))));rw [e] at k;refine ⟨_,rfl,_,rfl,_,_,rfl,rfl,⟨by decide,by decide⟩,_,_,rfl,rfl,(by show (0:Int)<9;decide),_,_,rfl,rfl,_,_,rfl,rfl,?_⟩;show Xb 4 (V.int ((p:Int)+cell / 6 % 9-4)) _ _ _;generalize (p:Int)+cell / 6 % 9-4=at' at k ⊢;refine ⟨_,rfl,_,_,rfl,rfl,_,rfl,?_⟩;by_cases y:0<=at'
  ·rw [if_pos (decide_eq_true y)]
   refine ⟨_,rfl,rl,_,_,.ref r3,rfl,rfl,hrl,rfl,r3,_,rfl,.inl h3,_,_,rfl,rfl,_,rfl,?_⟩;rw [List.length_map];refine y6 (fun z=>?_) (fun z=>?_)
   ·have z:at'<(x3.length:Nat):=of_decide_eq_true z
    rw [if_pos ⟨y,z⟩] at k;exact ⟨_,rfl,rl,_,_,.ref r3,rfl,rfl,hrl,rfl,_,rfl,r3,_,_,_,rfl,rfl,h3,xa at'.toNat (by omega) (by omega),k H (Same.refl _)⟩
   ·have z:¬ at'<(x3.length:Nat):=fun w=>z (decide_eq_true w)
    rw [if_neg fun w=>z w.2] at k;exact ⟨_,rfl,_,_,rfl,rfl,⟨by decide,by decide⟩,_,rfl,fun H1 s1=>k H1 s1⟩
  ·rw [if_neg (fun w=>y (of_decide_eq_true w))]
   rw [if_neg fun w=>y w.1] at k;exact ⟨false,rfl,yx ⟨_,rfl,_,_,rfl,rfl,⟨by decide,by decide⟩,_,rfl,fun H1 s1=>k H1 s1⟩⟩
 replace z4:¬ cell % 6=4:=fun y=>z4 (decide_eq_true (congrArg V.int y));have e:ZR x0 x1 x2 x3 cell p=x0.getD p 0:=(if_neg z0).trans ((if_neg z1).trans ((if_neg z2).trans ((if_neg z3).trans (if_neg z4))));rw [e] at k;exact ⟨_,rfl,rl,_,_,.ref r0,rfl,rfl,hrl,rfl,_,rfl,r0,_,_,_,rfl,rfl,h0,xa p p0 rfl,k H (Same.refl _)⟩
def zfy:Sp:=fun vs H Q _=>∃ c n:Int,vs=[.int c,.int n]/\∀ r,1<=r->r<=64->Q (.int r) H
theorem ok_lanesL (d:zw K mg "_law_lanes" xW ["_law_cell","_law_count"]):Ok P w K mg base CX0 1 "_law_lanes" ["_law_cell","_law_count"] zfy:=by
 obtain ⟨g,fd,m,F,b⟩:=d;refine ⟨g,fd,m,F.kp,b,F.ok zg5 (by rintro vs H Q E ⟨_,_,rfl,_⟩;rfl) fun cdv A outer s H vs Q E hr h=>?_⟩;obtain ⟨c,n,rfl,k⟩:=h;refine ⟨_,(zd (zK (zG yO (zp ye (pv 0) zf) zf (zJ _)) (zg (zn (zp zY zf (zp ye (zp yA (pv 0) zf) zf)))) zu)
   (zd (zK (zG op_gt (pv 1) zf (zJ _)) (zg (zn (zp zY zf (zp ye (pv 0) zf)))) zu)
   (zg (zn (zp zY zf (zp ye (pv 0) zf)))))),?_⟩
 refine ⟨_,rfl,_,_,rfl,rfl,(by show (0:Int)<9;decide),rfl,_,rfl,y6 (fun z=>?_) (fun z=>?_)⟩
 ·exact ⟨_,rfl,_,_,rfl,rfl,⟨by decide,by decide⟩,_,_,rfl,rfl,(by show (0:Int)<3;decide),_,_,rfl,rfl,k _ (by omega) (by omega)⟩
 refine ⟨_,rfl,_,_,rfl,rfl,_,rfl,y6 (fun z=>?_) (fun z=>?_)⟩
 ·exact ⟨_,rfl,_,_,rfl,rfl,(by show (0:Int)<9;decide),_,_,rfl,rfl,k _ (by omega) (by omega)⟩
 ·exact ⟨_,rfl,_,_,rfl,rfl,(by show (0:Int)<9;decide),_,_,rfl,rfl,k _ (by omega) (by omega)⟩
end
def Leaf.lw (lens:List Int):Leaf->LW
 | .num n=>.num n
 | .here=>.here
 | .cell r=>if lens.getD r 0=1 then .spr r else .load r
 | .shi r b o=>.shf r b o
theorem Leaf.lw_tv (lens:List Int) (F:Leaf):(F.lw lens).tv 0 0=F.tv lens 0 0:=by
 cases F with
 | num n=>rfl
 | here=>rfl
 | cell r =>
  by_cases z:lens.getD r 0=1
  ·show LW.tv 0 0 (if _ then _ else _)=if _ then _ else _
   rw [if_pos z,if_pos z];rfl
  ·show LW.tv 0 0 (if _ then _ else _)=if _ then _ else _
   rw [if_neg z,if_neg z];rfl
 | shi r b o=>rfl
theorem getD_set (ds:List Int) (j i:Nat) (v:Int):(ds.set j v).getD i 0=if j=i/\j<ds.length then v else ds.getD i 0:=by
 rw [List.getD_eq_getElem?_getD,List.getElem?_set,List.getD_eq_getElem?_getD];by_cases z:j=i
 ·subst z
  by_cases y:j<ds.length
  ·rw [if_pos rfl,if_pos y,if_pos ⟨rfl,y⟩];rfl
  ·rw [if_pos rfl,if_neg y,if_neg fun w=>y w.2,List.getElem?_eq_none (by omega)]
 ·rw [if_neg z,if_neg fun w=>z w.1]
theorem YO (G:Int->Int):∀ (es ds:List Int) (i:Nat),(∀ e∈es,0<=e/\e.toNat<ds.length)->(x4 ds (es.map fun e=>(0+e,G e))).getD i 0=if (i:Int)∈es then G i else ds.getD i 0
 | [],ds,i,_=>by rw [if_neg (by simp)];rfl
 | e::es,ds,i,h=>by
  have he:=h e List.mem_cons_self;show (x4 (ds.set (0+e).toNat (G e)) (es.map fun e=>(0+e,G e))).getD i 0=_;rw [YO G es _ i (fun x hx=>by rw [List.length_set];exact h x (List.mem_cons_of_mem _ hx)),getD_set];by_cases z:(i:Int)∈es
  ·rw [if_pos z,if_pos (List.mem_cons_of_mem _ z)]
  ·rw [if_neg z]
   by_cases y:(0+e).toNat=i
   ·have:e=i:=by omega
    subst this;rw [if_pos ⟨y,by rw [y];have:=he.2;omega⟩,if_pos List.mem_cons_self]
   ·rw [if_neg fun w=>y w.1,if_neg fun w=>by
     rcases List.mem_cons.mp w with w | w
     ·exact y (by omega)
     ·exact z w]
structure Mid (x0 x1 x2 x3:List Int) (c:Int) (b:Int) (ds:List Int):Prop where
 len:ds.length=x0.length+x1.length+x2.length+x3.length
 new:∀ e:Nat,e<x0.length->(e:Int)<b->ds.getD e 0=ZR x0 x1 x2 x3 c e
 old:∀ e:Nat,e<x0.length->b<=(e:Int)->ds.getD e 0=x0.getD e 0
 r1:∀ e:Nat,e<x1.length->ds.getD (x0.length+e) 0=x1.getD e 0
 r2:∀ e:Nat,e<x2.length->ds.getD (x0.length+x1.length+e) 0=x2.getD e 0
 r3:∀ e:Nat,e<x3.length->ds.getD (x0.length+x1.length+x2.length+e) 0=x3.getD e 0
def Zb (x0 x1 x2 x3:List Int) (c:Int):List Int:=(List.range x0.length).map fun p:Nat=>ZR x0 x1 x2 x3 c p
theorem yH {a b:List Int} {e:Nat}:(a++b).getD e 0=if e<a.length then a.getD e 0 else b.getD (e-a.length) 0:=by
 rw [List.getD_eq_getElem?_getD,List.getElem?_append]
 split <;> rw [List.getD_eq_getElem?_getD]
theorem Mid.base {x0 x1 x2 x3:List Int} {c:Int}:Mid x0 x1 x2 x3 c 0 (x0++x1++x2++x3):=by
 refine ⟨by simp only [List.length_append],fun e h1 h2=>by omega,fun e h1 h2=>?_,fun e h1=>?_,fun e h1=>?_,fun e h1=>?_⟩
 ·rw [yH,if_pos (by simp only [List.length_append];omega),yH,if_pos (by simp only [List.length_append];omega),yH,if_pos h1]
 ·rw [yH,if_pos (by simp only [List.length_append];omega),yH,if_pos (by simp only [List.length_append];omega),yH,if_neg (by omega)];congr 1;omega
 ·rw [yH,if_pos (by simp only [List.length_append];omega),yH,if_neg (by simp only [List.length_append];omega)];congr 1;simp only [List.length_append];omega
 ·rw [yH,if_neg (by simp only [List.length_append];omega)];congr 1;simp only [List.length_append];omega
theorem ext_getD {a b:List Int} (h:a.length=b.length) (k:∀ i,i<a.length->a.getD i 0=b.getD i 0):a=b:=by
 refine List.ext_getElem h fun i h1 h2=>?_;have:=k i h1;rw [List.getD_eq_getElem?_getD,List.getD_eq_getElem?_getD,List.getElem?_eq_getElem h1,List.getElem?_eq_getElem h2] at this;exact this
theorem Mid.fin {x0 x1 x2 x3:List Int} {c b:Int} {ds:List Int} (h:Mid x0 x1 x2 x3 c b ds) (hb:(x0.length:Int)<=b):ds=Zb x0 x1 x2 x3 c++x1++x2++x3:=by
 have dl:(Zb x0 x1 x2 x3 c).length=x0.length:=by unfold Zb;rw [List.length_map,List.length_range]
 refine ext_getD (by rw [h.len];simp only [List.length_append,dl]) fun i hi=>?_;rw [h.len] at hi;rw [yH];simp only [List.length_append,dl]
 split
 ·rw [yH]
  simp only [List.length_append,dl]
  split
  ·rw [yH,dl]
   split
   ·rename_i z
    rw [h.new i z (by omega)];unfold Zb;rw [List.getD_eq_getElem?_getD,List.getElem?_map,List.getElem?_range z];rfl
   ·have:=h.r1 (i-x0.length) (by omega)
    rw [← this];congr 1;omega
  ·have:=h.r2 (i-(x0.length+x1.length)) (by omega)
   rw [← this];congr 1;omega
 ·have:=h.r3 (i-(x0.length+x1.length+x2.length)) (by omega)
  rw [← this];congr 1;omega
theorem lw_go (S LN lens:List Int) (a:Int) (F:Leaf) (x:LSt):((F.lw lens).go S LN a x).es=x.es/\((F.lw lens).go S LN a x).d.1=x.d.1:=by
 cases F with
 | num n=>exact ⟨rfl,rfl⟩
 | here=>exact ⟨rfl,rfl⟩
 | cell r =>
  by_cases z:lens.getD r 0=1
  ·have e:Leaf.lw lens (.cell r)=.spr r:=if_pos z
   rw [e];exact ⟨rfl,rfl⟩
  ·have e:Leaf.lw lens (.cell r)=.load r:=if_neg z
   rw [e];exact ⟨rfl,rfl⟩
 | shi r b o=>exact ⟨rfl,rfl⟩
theorem lw_msk (lens:List Int) (m:Nat) (F:Leaf):(F.lw lens).msk m=m:=by
 cases F with
 | num n=>rfl
 | here=>rfl
 | cell r =>
  show LW.msk m (if _ then _ else _)=m
  split <;> rfl
 | shi r b o=>rfl
theorem xx {many side b e:Int} (b0:0<=b):e∈xC many side b↔b<=e/\e<b+(wid many side b:Nat):=by
 unfold xC xZ;rw [List.map_map,List.mem_map];constructor
 ·rintro ⟨i,hi,rfl⟩
  have:=List.mem_range.mp hi;show b<=b+(i:Int)/\b+(i:Int)<_;omega
 ·rintro ⟨h1,h2⟩
  refine ⟨(e-b).toNat,List.mem_range.mpr (by omega),?_⟩;show b+(((e-b).toNat:Nat):Int)=e;omega
def zq (n m:Nat):List Int:=[(n:Int),n,1,m]
theorem st4 (n m:Nat):zl (zq n m)=[0,(n:Int),n+n,n+n+1]:=by
 show [(0:Int),(n:Int)+0,n+(n+0),n+(n+(1+0))]=_;rw [Int.add_zero];congr 4
theorem leaf_val {x0 x1 x2 x3:List Int} {c b:Int} {ds:List Int} {n m:Nat} (h:Mid x0 x1 x2 x3 c b ds) (h0:x0.length=n) (h1:x1.length=n) (h2:x2.length=1) (h3:x3.length=m) {e:Int} (b0:0<=b) (be:b<=e) (en:e<n) (es:List Int) (T:List Tch) (a:Int) :
  (((zL c).lw (zq n m)).go (zl (zq n m)) (zq n m) a ⟨es,none,(ds,T)⟩).num e=ZR x0 x1 x2 x3 c e:=by
 obtain ⟨k,rfl⟩:∃ k:Nat,e=k:=⟨e.toNat,by omega⟩;have hk:k<n:=by omega
 rw [st4];unfold zL ZR;by_cases z0:c % 6=0
 ·rw [if_pos z0,if_pos z0];rfl
 rw [if_neg z0,if_neg z0];by_cases z1:c % 6=1
 ·rw [if_pos z1,if_pos z1];rfl
 rw [if_neg z1,if_neg z1];by_cases z2:c % 6=2
 ·rw [if_pos z2,if_pos z2]
  by_cases y:(zq n m).getD 1 0=1
  ·have ek:k=0:=by have:(n:Int)=1:=y;omega
   have e:Leaf.lw (zq n m) (.cell 1)=.spr 1:=if_pos y;rw [e];show ds.getD ((n:Int)).toNat 0=x1.getD ((k:Int)).toNat 0;have:=h.r1 k (by omega);rw [h0] at this;rw [Int.toNat_natCast,Int.toNat_natCast,← this,ek,Nat.add_zero]
  ·have e:Leaf.lw (zq n m) (.cell 1)=.load 1:=if_neg y
   rw [e];show ds.getD ((n:Int)+k).toNat 0=x1.getD ((k:Int)).toNat 0;have:=h.r1 k (by omega);rw [h0] at this;rw [Int.toNat_natCast,← this];congr 1
 rw [if_neg z2,if_neg z2];by_cases z3:c % 6=3
 ·rw [if_pos z3,if_pos z3]
  have e:Leaf.lw (zq n m) (.cell 2)=.spr 2:=by
   show (if (zq n m).getD 2 0=1 then LW.spr 2 else LW.load 2)=_;exact if_pos rfl
  rw [e];show ds.getD ((n:Int)+n).toNat 0=x2.getD 0 0;have:=h.r2 0 (by omega);rw [h0,h1] at this;rw [← this];congr 1
 rw [if_neg z3,if_neg z3];by_cases z4:c % 6=4
 ·rw [if_pos z4,if_pos z4]
  show (if Zc (m:Int) ((k:Int)+(c / 6 % 9-4))=true then ds.getD ((n:Int)+n+1+((k:Int)+(c / 6 % 9-4))).toNat 0 else yz (c / 54))=_;rw [show (k:Int)+(c / 6 % 9-4)=(k:Int)+c / 6 % 9-4 by omega];generalize (k:Int)+c / 6 % 9-4=q;rw [h3];by_cases y:0<=q/\q<(m:Int)
  ·rw [if_pos (by unfold Zc;rw [decide_eq_true y.1,decide_eq_true y.2];rfl),if_pos y]
   have:=h.r3 q.toNat (by omega);rw [h0,h1,h2] at this;rw [← this];congr 1;omega
  ·rw [if_neg y,if_neg fun w=>y (by unfold Zc at w;rw [Bool.and_eq_true] at w;exact ⟨of_decide_eq_true w.1,of_decide_eq_true w.2⟩)]
 rw [if_neg z4,if_neg z4];by_cases y:(zq n m).getD 0 0=1
 ·have ek:k=0:=by have:(n:Int)=1:=y;omega
  have e:Leaf.lw (zq n m) (.cell 0)=.spr 0:=if_pos y;rw [e];show ds.getD (0:Int).toNat 0=x0.getD ((k:Int)).toNat 0;have:=h.old k (by omega) be;rw [Int.toNat_natCast,← this,ek];rfl
 ·have e:Leaf.lw (zq n m) (.cell 0)=.load 0:=if_neg y
  rw [e];show ds.getD (0+(k:Int)).toNat 0=x0.getD ((k:Int)).toNat 0;have:=h.old k (by omega) be;rw [Int.toNat_natCast,← this];congr 1;omega
theorem strip_due {x0 x1 x2 x3:List Int} {c b:Int} {ds:List Int} {n m:Nat} (h:Mid x0 x1 x2 x3 c b ds) (h0:x0.length=n) (h1:x1.length=n) (h2:x2.length=1) (h3:x3.length=m) (b0:0<=b) (bn:b<n) {side:Int} (sd:1<=side) (pl:Nat) (T:List Tch) :
  Mid x0 x1 x2 x3 c (b+side) (oneW (zl (zq n m)) (zq n m) pl n side [(zL c).lw (zq n m),.sto 0] b (ds,T)).1:=by
 have wb:(wid n side b:Int)=min (n:Int) (b+side)-b:=by unfold wid;omega
 have key:(oneW (zl (zq n m)) (zq n m) pl n side [(zL c).lw (zq n m),.sto 0] b (ds,T)).1=x4 ds ((xC n side b).map fun e=>(0+e,ZR x0 x1 x2 x3 c e)):=by
  obtain ⟨g1,g2⟩:=lw_go (zl (zq n m)) (zq n m) (zq n m) ((pl+1:Nat):Int) (zL c) ⟨xC n side b,none,(ds,T)⟩;show x4 (((zL c).lw (zq n m)).go (zl (zq n m)) (zq n m) ((pl+1:Nat):Int) ⟨xC n side b,none,(ds,T)⟩).d.1 ((((zL c).lw (zq n m)).go (zl (zq n m)) (zq n m) ((pl+1:Nat):Int) ⟨xC n side b,none,(ds,T)⟩).es.map fun e=>((zl (zq n m)).getD 0 0+e,(((zL c).lw (zq n m)).go (zl (zq n m)) (zq n m) ((pl+1:Nat):Int) ⟨xC n side b,none,(ds,T)⟩).num e))=_;rw [g1,g2];congr 1;refine List.map_congr_left fun e he=>?_;have he:=(xx b0).mp he;rw [leaf_val h h0 h1 h2 h3 b0 he.1 (by omega),st4];rfl
 have at':∀ i:Nat,(x4 ds ((xC n side b).map fun e=>(0+e,ZR x0 x1 x2 x3 c e))).getD i 0=if (i:Int)∈xC n side b then ZR x0 x1 x2 x3 c i else ds.getD i 0:=fun i=>YO (fun e=>ZR x0 x1 x2 x3 c e) _ _ i fun e he=>by
  have he:=(xx b0).mp he;rw [h.len];omega
 rw [key];refine ⟨by rw [YN];exact h.len,fun e he1 he2=>?_,fun e he1 he2=>?_,fun e he=>?_,fun e he=>?_,fun e he=>?_⟩
 ·rw [at']
  by_cases z:b<=(e:Int)
  ·rw [if_pos ((xx b0).mpr ⟨z,by omega⟩)]
  ·rw [if_neg fun w=>z ((xx b0).mp w).1]
   exact h.new e he1 (by omega)
 ·rw [at',if_neg fun w=>by have:=((xx b0).mp w).2;omega]
  exact h.old e he1 (by omega)
 ·rw [at',if_neg fun w=>by have:=((xx b0).mp w).2;omega]
  exact h.r1 e he
 ·rw [at',if_neg fun w=>by have:=((xx b0).mp w).2;omega]
  exact h.r2 e he
 ·rw [at',if_neg fun w=>by have:=((xx b0).mp w).2;omega]
  exact h.r3 e he
def Lx:Lex:=⟨fun w f=>(w="load"/\f=Ys)∨(w="here"/\f=hereM)∨(w="number"/\f=numM)∨(w="spread"/\f=Zp)∨(w="shift"/\f=ZV),fun w f=>(w="store"/\f=Zx)∨(w="choose"/\f=xE false)∨(w="other"/\f=xE true),fun w f=>(w="begin"/\f=zc5)∨(w="next"/\f=nextW)⟩
theorem lx_ok:LexOk Lx:=⟨.inl ⟨rfl,rfl⟩,.inr (.inl ⟨rfl,rfl⟩),.inr (.inr (.inl ⟨rfl,rfl⟩)),.inr (.inr (.inr (.inl ⟨rfl,rfl⟩))),.inr (.inr (.inr (.inr ⟨rfl,rfl⟩))),.inl ⟨rfl,rfl⟩,fun no=>by
 cases no
 ·exact .inr (.inl ⟨rfl,rfl⟩)
 ·exact .inr (.inr ⟨rfl,rfl⟩)⟩
def xS (x0 x1 x2 x3:List Int) (cs:List Int):List Int:=cs.foldl (fun x c=>Zb x x1 x2 x3 c) x0
theorem due_len (x0 x1 x2 x3:List Int) (c:Int):(Zb x0 x1 x2 x3 c).length=x0.length:=by unfold Zb;rw [List.length_map,List.length_range]
theorem ZJ (x1 x2 x3:List Int):∀ (cs x0:List Int),(xS x0 x1 x2 x3 cs).length=x0.length
 | [],_=>rfl
 | c::cs,x0=>by
  show (xS (Zb x0 x1 x2 x3 c) x1 x2 x3 cs).length=_;rw [ZJ x1 x2 x3 cs,due_len]
theorem leaf_fits {n m nc:Nat} (c:Int) (h:nc=n+n+1+m) (n1:1<=n):Fits (zl (zq n m)) (zq n m) n nc false [(zL c).lw (zq n m),.sto 0]:=by
 have sl:(zl (zq n m)).length=4:=by rw [st4];rfl
 have gv:((zL c).lw (zq n m)).gives=true/\((zL c).lw (zq n m)).asks=false/\((zL c).lw (zq n m)).Fit (zl (zq n m)) (zq n m) n nc:=by
  unfold zL
  have cl:∀ r:Nat,r<3->((zq n m).getD r 0=1∨r<2)->(Leaf.lw (zq n m) (.cell r)).gives=true/\(Leaf.lw (zq n m) (.cell r)).asks=false/\(Leaf.lw (zq n m) (.cell r)).Fit (zl (zq n m)) (zq n m) n nc:=fun r hr hr2=>by
   have b:0<=(zl (zq n m)).getD r 0/\(zl (zq n m)).getD r 0<nc/\(r<2->(zl (zq n m)).getD r 0+n<=nc):=by
    rw [st4]
    match r,hr with
    | 0,_=>show (0:Int)<=0/\(0:Int)<nc/\(_->(0:Int)+n<=nc);omega
    | 1,_=>show (0:Int)<=n/\(n:Int)<nc/\(_->(n:Int)+n<=nc);omega
    | 2,_=>show (0:Int)<=(n:Int)+n/\((n:Int)+n)<nc/\(2<2->_);exact ⟨by omega,by omega,fun z=>by omega⟩
   by_cases y:(zq n m).getD r 0=1
   ·have e:Leaf.lw (zq n m) (.cell r)=.spr r:=if_pos y
    rw [e];exact ⟨rfl,rfl,by rw [sl];omega,b.1,b.2.1⟩
   ·have e:Leaf.lw (zq n m) (.cell r)=.load r:=if_neg y
    rw [e];exact ⟨rfl,rfl,by rw [sl];omega,b.1,b.2.2 (by rcases hr2 with w | w;exact absurd w y;exact w)⟩
  split
  ·exact ⟨rfl,rfl,trivial⟩
  split
  ·exact ⟨rfl,rfl,trivial⟩
  split
  ·exact cl 1 (by decide) (.inr (by decide))
  split
  ·exact cl 2 (by decide) (.inl rfl)
  split
  ·refine ⟨rfl,rfl,by rw [sl];decide,(by show 3<4;decide),?_,?_⟩
   ·rw [st4];show (0:Int)<=(n:Int)+n+1;omega
   ·rw [st4];show (n:Int)+n+1+m<=nc;omega
  ·exact cl 0 (by decide) (.inr (by decide))
 refine ⟨gv.2.2,(fun z=>by rw [gv.2.1] at z;cases z),?_⟩;rw [gv.1];refine ⟨⟨by rw [sl];decide,?_,?_⟩,fun _=>rfl,trivial⟩
 ·rw [st4];exact Int.le_refl _
 ·rw [st4];show (0:Int)+n<=nc;omega
theorem code_at (lens:List Int) (g:Int):∀ (Fs:List Leaf) (i t:Nat) (F:Leaf),Fs[i]?=some F->t<4->(yR lens g Fs)[4*i+t]?=(xU lens 0 g F)[t]?
 | [],i,t,F,h,_=>by cases h
 | G::Fs,0,t,F,h,ht=>by
  cases h;show (xU lens 0 g G++yR lens g Fs)[4*0+t]?=_;rw [List.getElem?_append_left (by show _<4;omega)];congr 1;omega
 | G::Fs,i+1,t,F,h,ht=>by
  have:=code_at lens g Fs i t F h ht;show (xU lens 0 g G++yR lens g Fs)[4*(i+1)+t]?=_;rw [List.getElem?_append_right (by show 4<=_;omega),← this];congr 1;show 4*(i+1)+t-4=_;omega
theorem zhn {x0 x1 x2 x3:List Int} {n m L:Nat} {g:Int} (h0:x0.length=n) (h1:x1.length=n) (h2:x2.length=1) (h3:x3.length=m) (n1:1<=n) (n400:n<=400) (hg:g=1∨g=2∨g=4) (L1:1<=L) (L64:L<=64) (cs:List Int) (c12:cs.length<=12) (dus:List Int) :
  ∀ i,i<=cs.length->∃ kk M T,Steps Lx (yR (zq n m) g (cs.map zL)) kk (Mc.fresh (zq n m) (x0++x1++x2++x3) L dus []) M/\RestAt (zl (zq n m)) (zq n m) L (4*i) (xS x0 x1 x2 x3 (cs.take i)++x1++x2++x3,T) M/\T.length<=4*n*i:=by
 intro i
 induction i with
 | zero=>exact fun _=>⟨0,_,[],.refl,⟨⟨L1,L64,List.length_replicate,List.length_replicate,fun m hm=>by rw [List.eq_of_mem_replicate hm];exact List.length_replicate⟩,rfl,rfl,rfl,rfl,rfl,rfl,rfl⟩,Nat.zero_le _⟩
 | succ i ih =>
  intro hi;obtain ⟨kk,M,T,st,rs,tl⟩:=ih (by omega);obtain ⟨c,ec⟩:∃ c,cs[i]?=some c:=⟨_,List.getElem?_eq_getElem (by omega)⟩;have et:cs.take (i+1)=cs.take i++[c]:=by rw [List.take_add_one,ec];rfl
  have er:xS x0 x1 x2 x3 (cs.take (i+1))=Zb (xS x0 x1 x2 x3 (cs.take i)) x1 x2 x3 c:=by
   rw [et];unfold xS;rw [List.foldl_append];rfl
  have xl:(xS x0 x1 x2 x3 (cs.take i)).length=n:=(ZJ x1 x2 x3 _ _).trans h0;rw [er];generalize xS x0 x1 x2 x3 (cs.take i)=X at rs xl ⊢;have gb:1<=g*(L:Int):=by rcases hg with e | e | e <;> rw [e] <;> omega
  have sd:1<=g*(L:Int)/\g*(L:Int)<=256:=⟨gb,by rcases hg with e | e | e <;> rw [e] <;> omega⟩
  obtain ⟨N,hN⟩:∃ N:Nat,∀ j:Nat,j<N↔(j:Int)*(g*L)<n:=by
   refine ⟨(((n:Int)+g*L-1) / (g*L)).toNat,fun j=>?_⟩;have a:((n:Int)+g*L-1) / (g*L) ≥ 0:=Int.ediv_nonneg (by omega) (by omega)
   have key:(j:Int)<((n:Int)+g*L-1) / (g*L)↔(j:Int)*(g*L)<n:=by
    have:=Int.le_ediv_iff_mul_le (a:=(j:Int)+1) (b:=(n:Int)+g*L-1) (show 0<g*(L:Int) by omega);rw [show ((j:Int)+1)*(g*L)=j*(g*L)+g*L by rw [Int.add_mul,Int.one_mul]] at this;constructor
    ·intro z
     have:=this.mp (by omega);omega
    ·intro z
     have:=this.mpr (by omega);omega
   omega
  have ec':(cs.map zL)[i]?=some (zL c):=by rw [List.getElem?_map,ec];rfl
  have ca:=fun t ht=>code_at (zq n m) g (cs.map zL) i t (zL c) ec' ht;have ni:4*n*i<=4*400*12:=Nat.mul_le_mul (by omega) (by omega)
  obtain ⟨k2,M2,st2,rs2⟩:=round_ws (Lx:=Lx) (code:=yR (zq n m) g (cs.map zL)) (p:=0) (ws:=[(zL c).lw (zq n m),.sto 0]) (many:=(n:Int)) (group:=g) (N:=N) lx_ok (.inl ⟨rfl,rfl⟩) (.inr ⟨rfl,rfl⟩) rs hg (by omega) (by rcases hg with e | e | e <;> rw [e] <;> decide) (ca 0 (by decide)) (fun t tv ht=>by
    match t,ht with
    | 0,ht=>cases ht;rw [ca 1 (by decide)];show some _=some _;rw [Leaf.lw_tv]
    | 1,ht=>cases ht;rw [lw_msk];exact ca 2 (by decide)
    | t+2,ht=>cases ht) (ca 3 (by decide)) hN (by
    show Fits _ _ _ (X++x1++x2++x3).length _ _;exact leaf_fits c (by simp only [List.length_append];omega) n1) (Nat.le_of_ble_eq_true rfl) (by show (T.length:Int)+4*(n:Int)<100000;omega)
  have fin:∀ j,j<=N->Mid X x1 x2 x3 c (j*(g*L)) (upG (oneW (zl (zq n m)) (zq n m) (4*i) n (g*L) [(zL c).lw (zq n m),.sto 0]) (g*L) (X++x1++x2++x3,T) j).1/\((upG (oneW (zl (zq n m)) (zq n m) (4*i) n (g*L) [(zL c).lw (zq n m),.sto 0]) (g*L) (X++x1++x2++x3,T) j).2.length:Int)<=T.length+2*min (n:Int) (j*(g*L)):=by
   intro j
   induction j with
   | zero =>
    intro _;rw [show ((0:Nat):Int)*(g*L)=0 by omega];exact ⟨Mid.base,by show (T.length:Int)<=_;omega⟩
   | succ j ihj =>
    intro hj;obtain ⟨a,b⟩:=ihj (by omega);have hb:=(hN j).mp (by omega);have jb0:(0:Int)<=j*(g*L):=Int.mul_nonneg (by omega) (by omega);rw [Zw,show ((j+1:Nat):Int)*(g*L)=j*(g*L)+g*L by rw [Int.natCast_add,Int.add_mul];show _+1*(g*(L:Int))=_;rw [Int.one_mul]];generalize upG (oneW (zl (zq n m)) (zq n m) (4*i) n (g*L) [(zL c).lw (zq n m),.sto 0]) (g*L) (X++x1++x2++x3,T) j=U at a b ⊢;obtain ⟨d1,T1⟩:=U;generalize (j:Int)*(g*L)=bb at a b hb jb0 ⊢;refine ⟨strip_due a xl h1 h2 h3 jb0 hb gb _ T1,?_⟩;obtain ⟨_,q⟩:=goes_d (zl (zq n m)) (zq n m) [(zL c).lw (zq n m),.sto 0] ((4*i+1:Nat):Int) ⟨xC n (g*L) bb,none,(d1,T1)⟩;have q:(oneW (zl (zq n m)) (zq n m) (4*i) n (g*L) [(zL c).lw (zq n m),.sto 0] bb (d1,T1)).2.length<=T1.length+2*(xC n (g*L) bb).length:=q;rw [XJ] at q;have wb:(wid n (g*L) bb:Int)=min (n:Int) (bb+g*L)-bb:=by unfold wid;omega
    have b:(T1.length:Int)<=T.length+2*min (n:Int) bb:=b;omega
  obtain ⟨f1,f2⟩:=fin N (Nat.le_refl _)
  have nb:(n:Int)<=(N:Int)*(g*L):=by
   have:¬ (N:Int)*(g*L)<n:=fun z=>Nat.lt_irrefl _ ((hN N).mpr z);omega
  have f3:=f1.fin (by omega);generalize upG (oneW (zl (zq n m)) (zq n m) (4*i) n (g*L) [(zL c).lw (zq n m),.sto 0]) (g*L) (X++x1++x2++x3,T) N=U at rs2 f2 f3;obtain ⟨dU,TU⟩:=U;cases (show dU=_ from f3);refine ⟨kk+k2,M2,TU,st.trans st2,?_,?_⟩
  ·rw [show 4*(i+1)=4*i+(2+2) by omega]
   exact rs2
  ·have f2:(TU.length:Int)<=T.length+2*min (n:Int) (N*(g*L)):=f2
   rw [Nat.mul_add,Nat.mul_one];omega
section
variable {P:Program} {w:World} {K:PySem.W.Frag} {mg:Str->Option Value} {base:Heap}
def Xy (K:PySem.W.Frag) (C:Addr):Sp:=fun vs H Q _=>∃ (B:Hp) (L:List (Addr×HO)) (x dx a b c:Addr) (xs ys zs:List V),vs=[.ref x,.ref a,.ref b,.ref c]/\Hd B ((x,.ins C dx [])::L) H/\SqL K B a xs/\SqL K B b ys/\SqL K B c zs /\
 ∀ B' H' la lb lc,Same B B'->Hd B' L H'->B' la=some (.lst xs)->B' lb=some (.lst ys)->B' lc=some (.lst zs)->B' x=some (.ins C dx (prFl la lb lc))->Q .non H'
theorem okI_ProgU {C:Addr} (d:yN K C "Program.__init__" yE ["self","lengths","functions","steps"]) (hlist:mg "list"=none) (pc:PrC K C):OkI P w K mg base CX0 1 C ["self","lengths","functions","steps"] (Xy K C):=by
 obtain ⟨f,fd,m,F,bd⟩:=d;refine ⟨f,fd,m,bd,F.ok Yy (by rintro vs H Q E ⟨_,_,_,_,_,_,_,_,_,_,rfl,_⟩;rfl) fun cdv A outer s H vs Q E hr h=>?_⟩;obtain ⟨B,L,x,dx,a,b,c,xs,ys,zs,rfl,h,ha,hb,hc,k⟩:=h;refine ⟨_,(zd (zC (pv 0) (yv yd (by rfl) hlist PyProof.Rows.boot_list (zb (pv 1) ze)) rfl)
   (zd (zC (pv 0) (yv yd (by rfl) hlist PyProof.Rows.boot_list (zb (pv 2) ze)) rfl)
   (zg (zC (pv 0) (yv yd (by rfl) hlist PyProof.Rows.boot_list (zb (pv 3) ze)) rfl)))),?_⟩
 refine ⟨_,rfl,a,_,rfl,.inl (h.sql ha),fun la nla=>?_⟩;replace h:=h.fnew (o:=.lst xs) nla;refine ⟨_,rfl,x,C,dx,[],rfl,h.get 0 rfl,pc.c,pc.n0,(by show 0<1000;decide),?_⟩;replace h:=h.fput (o':=.ins C dx [("lengths",.ref la)]);refine ⟨_,rfl,b,_,rfl,.inl (h.sql hb),fun lb nlb=>?_⟩;replace h:=h.fnew (o:=.lst ys) nlb;refine ⟨_,rfl,x,C,dx,[("lengths",.ref la)],rfl,h.get 0 rfl,pc.c,pc.n1,(by show 1<1000;decide),?_⟩;replace h:=h.fput (o':=.ins C dx [("lengths",.ref la),("functions",.ref lb)]);refine ⟨_,rfl,c,_,rfl,.inl (h.sql hc),fun lc nlc=>?_⟩;replace h:=h.fnew (o:=.lst zs) nlc;refine ⟨_,rfl,x,C,dx,[("lengths",.ref la),("functions",.ref lb)],rfl,h.get 0 rfl,pc.c,pc.n2,(by show 2<1000;decide),?_⟩;replace h:=h.fput (o':=.ins C dx (prFl la lb lc));obtain ⟨B',sB,hB,h2⟩:=Hd.settles (S:=[(x,.ins C dx (prFl la lb lc)),(lc,.lst zs),(lb,.lst ys),(la,.lst xs)]) (L:=L) h;exact k B' _ la lb lc sB h2 (hB (la,_) (by simp)) (hB (lb,_) (by simp)) (hB (lc,_) (by simp)) (hB (x,_) (by simp))
theorem LetsAt.snoc {c:F2.Cs} {q:QCs} {lens:List Int} {H:Hp} {ss:List Addr} {Fs:List Leaf} {s x:Addr} {F:Leaf} (h:LetsAt c q lens H ss Fs) (hi:F.In lens) (h1:LetAt q H s x 0) (h2:LeafAt c H F x):LetsAt c q lens H (ss++[s]) (Fs++[F]):=by
 refine ⟨by rw [List.length_append,List.length_append,h.n];rfl,fun i s' F' hs hF=>?_⟩;by_cases z:i<ss.length
 ·rw [List.getElem?_append_left z] at hs
  rw [List.getElem?_append_left (by rw [← h.n];exact z)] at hF;exact h.t i s' F' hs hF
 ·rw [List.getElem?_append_right (by omega)] at hs
  rw [List.getElem?_append_right (by rw [← h.n];omega),← h.n] at hF
  have jz:i-ss.length=0:=by
   by_cases y:i-ss.length=0
   ·exact y
   ·rw [List.getElem?_eq_none (by show 1<=_;omega)] at hs;cases hs
  rw [jz] at hs hF;cases hs;cases hF;exact ⟨hi,x,h1,h2⟩
theorem leafOf_in (c:Int) (n m:Nat):(zL c).In (zq n m):=by
 unfold zL
 split
 ·trivial
 split
 ·trivial
 split
 ·show 1<4;decide
 split
 ·show 2<4;decide
 split
 ·trivial
 ·show 0<4;decide
def spLaw (K:PySem.W.Frag):Sp:=fun vs H Q _=>∃ (a:Addr) (ns:List Int),vs=[.ref a]/\SqL K H a (ns.map V.int)/\ns.length<=63/\∀ H',Q (.bl true) H'
theorem ok_law {c:F2.Cs} {q:QCs} {mc:MCs} {f:Addr} {fd:FuncData} (F:Fun K "law" "law" Z6 f fd) (hlen:mg "len"=none) (hrg:mg "range"=none) (hlist:mg "list"=none) (hisi:mg "isinstance"=none) (kll:PySem.W.kitOne K (.type "list") (.type "list")=some true) (SG:StepG mg q) (hPr:mg "Program"=some (.ref q.pr)) (PC:PrC K q.pr)
  (CA:Ok P w K mg base CX0 1 "_law_cell_at" ["_law_script","_law_k"] (spCA K)) (SM:Ok P w K mg base CX0 2 "_law_some" ["_law_script","_law_at","_law_count"] (spSomeL K)) (LF:Ok P w K mg base CX0 3 "_law_leaf" ["_law_cell"] (spLeafL c)) (LA:Ok P w K mg base CX0 1 "_law_lanes" ["_law_cell","_law_count"] zfy) (DU:Ok P w K mg base CX0 2 "_law_due" ["_law_cell","_law_place","_law_rows"] (spDueL K)) (TO:Ok P w K mg base CX0 2 "_law_told" ["_law_found","_law_cells","_law_refusal"] (spTold3 K))
  (IL:OkN P w K mg base (CXe P w base) 1 q.let_ ["self","target","value","test"] (spI_Let q.let_)) (IPr:OkI P w K mg base CX0 1 q.pr ["self","lengths","functions","steps"] (Xy K q.pr)) (MD:OkD P w K mg base CX0 7 "made" ["program","group"] (spMade c q K)) (RN:Ok P w K mg base CX0 10 "ran" ["code","lengths","cells","lanes","dust","picks"] (spRan mc K Lx)) :
  FnOk P w K mg base CX0 11 f fd ["_law_script"] (spLaw K):=by
 refine F.ok sc_law (by rintro vs H Q E ⟨_,_,rfl,_⟩;rfl) fun cdv A outer s H vs Q E hr h=>?_;obtain ⟨a,ns,rfl,hS,hn,k⟩:=h;have nd:=sc_law.nd;have MD2:=MD.all;have hr1:Room 1 _:=hr.mono (by decide);have hr2:Room 2 _:=hr.mono (by decide);have hr3:Room 3 _:=hr.mono (by decide);have hr7:Room 7 _:=hr.mono (by decide);have hr10:Room 10 _:=hr;have hu:=hr.units;have SL:(200000:Nat)<sizeLine:=by decide
 refine ⟨_,(zd (zF (i:=1) nd rfl (Or.inl rfl) (zp zY zf (zp ye (zI CA hr1 (by rfl) zy (zb (pv 0) (zb zf ze))) zf)))
   (zd (x8 (zK (zG yO (zp ye (zp yA (zI CA hr1 (by rfl) zy (zb (pv 0) (zb zf ze))) zf) zf) zf (zJ _)) (zg (zF (i:=1) nd rfl (Or.inl rfl) (zp zY zf (zp ye (zp yA (zI CA hr1 (by rfl) zy (zb (pv 0) (zb zf ze))) zf) zf)))) zu))
   (zd (zF (i:=2) nd rfl (Or.inl rfl) (Y0 zcn (pv 0) (Z7 zf) (Z7 zf)))
   (zd (x8 (zK (zG yO (zp ye (zp yA (zI CA hr1 (by rfl) zy (zb (pv 0) (zb zf ze))) zf) zf) zf (zJ _)) (zd (zF (i:=1) nd rfl (Or.inl rfl) (zp zY zf (zp ye (zp yA (zI CA hr1 (by rfl) zy (zb (pv 0) (zb zf ze))) zf) zf)))
   (zg (zF (i:=2) nd rfl (Or.inl rfl) (Y0 zcn (pv 0) (Z7 zf) (Z7 zf))))) zu))
   (zd (zF (i:=3) nd rfl (Or.inr rfl) (yF (zb (pv 1) (zb (pv 1) (zb zf (zb (zp zY zf (zp ye (zI CA hr1 (by rfl) zy (zb (pv 0) (zb zf ze))) zf)) ze))))))
   (zd (zF (i:=4) nd rfl (Or.inr rfl) (xA ["_law_k","_law_script","_law_lengths"] [none,some 0,some 3] rfl rfl rfl (xv rfl hrg (zb zf ze)) (fun s3 H3 fp=>⟨zW (i:=0) (show ((["_law_k","_law_script","_law_lengths"]:List Str)).Nodup by decide +kernel) rfl (Or.inl rfl),(zI SM hr2 (by rfl) zy (zb (pv 1) (zb (pv 0) (zb (zB (zgl (K:=K) rfl) (pv 2) (pv 0) (fun _ _=>rfl)) ze))))⟩)))
   (zd (x8 (zF (i:=6) nd rfl (Or.inl rfl) (zp Zz (zp Zz (zp Zz (zB zM (pv 4) zf (fun _ _=>rfl)) (zB zM (pv 4) zf (fun _ _=>rfl))) (zB zM (pv 4) zf (fun _ _=>rfl))) (zB zM (pv 4) zf (fun _ _=>rfl)))))
   (zd (ps_compC (i:=7) ["_law_cell"] [none] rfl rfl rfl (xz (pv 2)) (fun s3 H3 fp=>⟨zW (i:=0) (show ((["_law_cell"]:List Str)).Nodup by decide +kernel) rfl (Or.inl rfl),(pe_okN IL SG.let_ hr2 (by rfl) xT (zb zf (zb (zI LF hr3 (by rfl) zy (zb (pv 0) ze)) ze)))⟩) nd rfl (Or.inl rfl))
   (zd (x8 (zF (i:=9) nd rfl (Or.inl rfl) (yv yd (by rfl) hlist PyProof.Rows.boot_list (zb (pv 6) ze))))
   (zd (zF (i:=10) nd rfl (Or.inl rfl) (zB zM (yF (zb zf (zb zf (zb zf (zb zf ze))))) (zp ye (zp yA (zI CA hr1 (by rfl) zy (zb (pv 0) (zb zf ze))) zf) zf) (fun _ _=>rfl)))
   (zd (x8 (zF (i:=11) nd rfl (Or.inl rfl) (xK IPr hPr hr2 (by rfl) zy (zb (yv yd (by rfl) hlist PyProof.Rows.boot_list (zb (pv 3) ze)) (zb (yF ze) (zb (yv yd (by rfl) hlist PyProof.Rows.boot_list (zb (pv 7) ze)) ze))))))
   (zd (zF (i:=12) nd rfl (Or.inl rfl) (pe_okD MD hr7 (by rfl) zy (zb (pv 11) ze)))
   (zd (x8 (zK (zG op_ne (pv 10) zf (zJ _)) (zg (zF (i:=12) nd rfl (Or.inl rfl) (zI MD2 hr7 (by rfl) zy (zb (pv 11) (zb (pv 10) ze))))) zu))
   (zd (zK (XC (Yf (z7 (zt zD (by rfl) hisi PyProof.Rows.boot_isinstance (zb (pv 12) (zb (ZY hlist PyProof.Rows.boot_list) ze))))) (XC (zG op_ne (zt zP (by rfl) hlen PySem.boot_len (zb (zi (pv 11) rfl) ze)) (zt zP (by rfl) hlen PySem.boot_len (zb (pv 7) ze)) (zJ _)) (pw_or1 (zG (op_neD hu) (zi (pv 11) rfl) (pv 3) (zJ _))))).pt (zg (zn Zy)) zu)
   (zd (Ze PassesOwn.never rfl (xz (pv 2)) (zW (i:=8) nd rfl (Or.inr rfl)) (zg (Yg (xA ["_law_place","_law_cell","_law_rows"] [none,some 8,some 4] rfl rfl rfl (xv rfl hrg (zb (pv 1) ze)) (fun s3 H3 fp=>⟨zW (i:=0) (show ((["_law_place","_law_cell","_law_rows"]:List Str)).Nodup by decide +kernel) rfl (Or.inl rfl),(zI DU hr2 (by rfl) zy (zb (pv 1) (zb (pv 0) (zb (pv 2) ze))))⟩)) (Yh (pv 4) zf Zg))))
   (zd (x8 (zF (i:=14) nd rfl (Or.inl rfl) (zI LA hr1 (by rfl) zy (zb (zp ye (zI CA hr1 (by rfl) zy (zb (pv 0) (zb zf ze))) zf) (zb (pv 1) ze)))))
   (zd (zF (i:=15) nd rfl (Or.inl rfl) (zI RN hr10 (by rfl) zy (zb (pv 12) (zb (yv yd (by rfl) hlist PyProof.Rows.boot_list (zb (pv 3) ze)) (zb (pv 6) (zb (pv 14) (zb (zI SM hr2 (by rfl) zy (zb (pv 0) (zb zf (zb (zp ye (zI CA hr1 (by rfl) zy (zb (pv 0) (zb zf ze))) zf) ze)))) (zb (yF ze) ze))))))))
   (zg (zn (Y4 (xO (op_eqD hu) (pv 6) (pv 9) (zJ _)) (Y1 (zI TO hr2 (by rfl) zy (zb (pv 15) (zb (zp Zz (zp Zz (zp Zz (zB zM (pv 4) zf (fun _ _=>rfl)) (zB zM (pv 4) zf (fun _ _=>rfl))) (zB zM (pv 4) zf (fun _ _=>rfl))) (zB zM (pv 4) zf (fun _ _=>rfl))) (zb xR ze))))))))))))))))))))))))),?_⟩
 refine ⟨_,rfl,a,ns,0,rfl,hS,by decide,_,_,rfl,rfl,(by show (0:Int)<9;decide),_,_,rfl,rfl,?_⟩;refine ⟨fun σ J=>∃ n:Nat,σ=[some (.ref a),some (.int (n:Int)),none,none,none,none,none,none,none,none,none,none,none,none,none,none]/\J=H/\1<=n/\n<=60,?_,?_⟩
 ·refine ⟨_,rfl,a,ns,0,rfl,hS,by decide,_,_,rfl,rfl,⟨by decide,by decide⟩,_,_,rfl,rfl,(by show (0:Int)<8;decide),rfl,_,rfl,y6 (fun z=>?_) (fun z=>?_)⟩
  ·refine ⟨_,rfl,a,ns,0,rfl,hS,by decide,_,_,rfl,rfl,⟨by decide,by decide⟩,_,_,rfl,rfl,(by show (0:Int)<51;decide),_,_,rfl,rfl,?_⟩
   exact ⟨(10+ns.getD 0 0 / 72 % 51).toNat,by rw [Int.toNat_of_nonneg (by omega)];rfl,rfl,by omega,by omega⟩
  ·exact ⟨(1+ns.getD 0 0 % 9).toNat,by rw [Int.toNat_of_nonneg (by omega)];rfl,rfl,by omega,by omega⟩
 rintro σ J ⟨n0,rfl,rfl,n01,n02⟩;refine ⟨_,rfl,3,rfl,15,rfl,a,_,rfl,hS,fun S nS=>?_⟩;rw [zgq (by decide) (by decide)];have s1:Same J (upd J S (.lst ((cutI ns 3 15).map V.int))):=zo (Same.refl _) nS;have eS:upd J S (.lst ((cutI ns 3 15).map V.int)) S=_:=zh;generalize upd J S (.lst ((cutI ns 3 15).map V.int))=H1 at s1 eS ⊢;have cl1:(cutI ns 3 15).length<=12:=by unfold cutI;rw [List.length_take,List.length_drop];show min (min 15 ns.length-min 3 ns.length) _<=12;omega
 refine ⟨fun σ J2=>∃ (n:Nat) (pk:Addr) (cs:List Int),σ=[some (.ref a),some (.int (n:Int)),some (.ref pk),none,none,none,none,none,none,none,none,none,none,none,none,none]/\Same J J2/\J2 pk=some (.lst (cs.map V.int))/\cs.length<=12/\1<=n/\n<=400,?_,?_⟩
 ·refine ⟨_,rfl,a,ns,0,rfl,zE hS s1,by decide,_,_,rfl,rfl,⟨by decide,by decide⟩,_,_,rfl,rfl,(by show (0:Int)<16;decide),rfl,_,rfl,y6 (fun z=>?_) (fun z=>?_)⟩
  ·refine ⟨_,rfl,a,ns,0,rfl,zE hS s1,by decide,_,_,rfl,rfl,⟨by decide,by decide⟩,_,_,rfl,rfl,(by show (0:Int)<340;decide),_,_,rfl,rfl,?_⟩
   refine ⟨_,rfl,3,rfl,5,rfl,a,_,rfl,zE hS s1,fun S2 nS2=>?_⟩;rw [zgq (by decide) (by decide)];have s2:Same H1 (upd H1 S2 (.lst ((cutI ns 3 5).map V.int))):=zo (Same.refl _) nS2;have cl2:(cutI ns 3 5).length<=12:=by unfold cutI;rw [List.length_take,List.length_drop];show min (min 5 ns.length-min 3 ns.length) _<=12;omega
   exact ⟨(61+ns.getD 0 0 / 144 % 340).toNat,S2,cutI ns 3 5,by rw [Int.toNat_of_nonneg (by omega)];rfl,s1.trans s2,zh,cl2,by omega,by omega⟩
  ·exact ⟨n0,S,cutI ns 3 15,rfl,s1,eS,cl1,n01,by omega⟩
 rintro σ H2 ⟨n,pk,cs,rfl,s2,epk,c12,n1,n4⟩;clear s1 eS cl1 nS;replace hS:=zE hS s2;clear s2;refine ⟨_,rfl,_,rfl,_,rfl,a,ns,1,rfl,hS,by decide,_,_,rfl,rfl,(by show (0:Int)<6;decide),_,_,rfl,rfl,szU 4,fun le nle=>?_⟩;obtain ⟨m,em⟩:∃ m:Nat,1+ns.getD 1 0 % 6=m:=⟨(1+ns.getD 1 0 % 6).toNat,by omega⟩;have m6:m<=6:=by omega
 have e4:[V.int (n:Int),V.int (n:Int),V.int 1,V.int (1+ns.getD 1 0 % 6)]=(zq n m).map V.int:=by rw [em];rfl
 show Xb 3 (V.ref le) _ (upd H2 le (.lst [V.int (n:Int),V.int (n:Int),V.int 1,V.int (1+ns.getD 1 0 % 6)])) _;rw [e4];have s3:Same H2 (upd H2 le (.lst ((zq n m).map V.int))):=zo (Same.refl _) nle;have ele:upd H2 le (.lst ((zq n m).map V.int)) le=_:=zh;generalize upd H2 le (.lst ((zq n m).map V.int))=H3 at s3 ele ⊢;replace hS:=zE hS s3;replace epk:=s3 _ _ epk;clear s3 nle e4;let ln:Nat->Nat:=fun i=>match i with | 0=>n | 1=>n | 2=>1 | _=>m
 have eln:∀ i,i<4->(zq n m).getD i 0=((ln i:Nat):Int):=fun i hi=>by
  match i,hi with
  | 0,_=>rfl
  | 1,_=>rfl
  | 2,_=>rfl
  | 3,_=>rfl
 have lnb:∀ i,ln i<=1000:=fun i=>by
  match i with
  | 0=>show n<=1000;omega
  | 1=>show n<=1000;omega
  | 2=>show 1<=1000;decide
  | i+3=>show m<=1000;omega
 refine ⟨_,rfl,by decide,by decide,_,rfl,fun D nD=>?_⟩;have h0:Hd H3 [(D,.lst (([]:List (Addr×List Int)).map fun p=>V.ref p.1))] (upd H3 D (.lst [])):=Hd.base.new nD;generalize upd H3 D (.lst [])=H4 at h0 ⊢;refine Zs (n:=4) (fun i σ J2=>∃ (u:Option V) (B:Hp) (rs:List (Addr×List Int)),σ=[u,some (.ref a),some (.ref le)]/\rs.length=i/\(∀ (j:Nat) p,rs[j]?=some p->B p.1=some (.lst (p.2.map V.int))/\p.2.length=ln j)/\Same H3 B/\Hd B [(D,.lst (rs.map fun p=>V.ref p.1))] J2) ⟨none,H3,[],rfl,rfl,(fun j p h=>by cases h),Same.refl _,h0⟩ ?_ ?_
 ·clear h0
  rintro i σ J2 hi ⟨u,B,rs,rfl,rl,hrs,sB,h⟩
  have hat:atI ((zq n m).map V.int) (0+(i:Int))=some (.int ((ln i:Nat):Int)):=by
   rw [← eln i hi];exact xa i (by show i<4;exact hi) (by omega)
  refine ⟨_,rfl,_,rfl,_,rfl,_,rfl,le,_,_,_,rfl,rfl,SqL.of (h.sm _ _ (sB _ _ ele)),hat,a,ns,0+(i:Int),ln i,rfl,h.sql (zE hS sB),hn,by omega,by omega,lnb i,fun J3 l xs lx s4 nl el=>?_⟩;obtain ⟨B2,sB2,h2,new2⟩:=h.over s4;have el2:=new2 _ _ el (fun z=>by rw [List.mem_singleton.mp z,h.get 0 rfl] at nl;cases nl);refine ⟨_,h2.get 0 rfl,(by rw [List.length_map];omega),_,B2,rs++[(l,xs)],rfl,by rw [List.length_append,rl];rfl,fun j p hp=>?_,sB.trans sB2,?_⟩
  ·by_cases z:j<rs.length
   ·rw [List.getElem?_append_left z] at hp
    exact ⟨sB2 _ _ (hrs j p hp).1,(hrs j p hp).2⟩
   ·rw [List.getElem?_append_right (by omega)] at hp
    have jz:j-rs.length=0:=by
     by_cases y:j-rs.length=0
     ·exact y
     ·rw [List.getElem?_eq_none (by show 1<=_;omega)] at hp;cases hp
    rw [jz] at hp;cases hp;have:j=i:=by omega
    subst this;exact ⟨el2,lx⟩
  ·rw [List.map_append]
   exact h2.put 0 rfl
 clear h0;rintro σ H5 ⟨u,B,rs,rfl,rl,hrs,sB,h⟩
 obtain ⟨r0,x0,r1,x1,r2,x2,r3,x3,rfl⟩:∃ r0 x0 r1 x1 r2 x2 r3 x3,rs=[(r0,x0),(r1,x1),(r2,x2),(r3,x3)]:=by
  match rs,rl with
  | [(r0,x0),(r1,x1),(r2,x2),(r3,x3)],_=>exact ⟨r0,x0,r1,x1,r2,x2,r3,x3,rfl⟩
 obtain ⟨e0,l0⟩:B r0=some (.lst (x0.map V.int))/\x0.length=n:=hrs 0 _ rfl;obtain ⟨e1,l1⟩:B r1=some (.lst (x1.map V.int))/\x1.length=n:=hrs 1 _ rfl;obtain ⟨e2,l2⟩:B r2=some (.lst (x2.map V.int))/\x2.length=1:=hrs 2 _ rfl;obtain ⟨e3,l3⟩:B r3=some (.lst (x3.map V.int))/\x3.length=m:=hrs 3 _ rfl;replace h:Hd B [(D,.lst [.ref r0,.ref r1,.ref r2,.ref r3])] H5:=h;replace hS:=zE hS sB;replace epk:=sB _ _ epk;replace ele:=sB _ _ ele;clear hrs rl sB eln lnb nD;let cells:List Int:=x0++x1++x2++x3;have cln:cells.length<=900:=by show (x0++x1++x2++x3).length<=900;simp only [List.length_append];omega
 refine ⟨fun σ J=>∃ (ce:Addr) (B2:Hp),σ=[some (.ref a),some (.int (n:Int)),some (.ref pk),some (.ref le),some (.ref D),none,some (.ref ce),none,none,none,none,none,none,none,none,none]/\Same B B2/\Hd B2 [(D,.lst [.ref r0,.ref r1,.ref r2,.ref r3])] J/\B2 ce=some (.lst (cells.map V.int)),?_,?_⟩
 ·refine ⟨_,rfl,D,_,_,.ref r0,rfl,rfl,h.lst 0 rfl,rfl,_,rfl,D,_,_,.ref r1,rfl,rfl,h.lst 0 rfl,rfl,r0,r1,_,_,rfl,rfl,h.sm _ _ e0,h.sm _ _ e1,(by rw [List.length_map,List.length_map];omega),fun p1 np1=>?_⟩
  rw [← List.map_append];have E1:upd B p1 (.lst ((x0++x1).map V.int)) p1=_:=zh;have S1:Same B (upd B p1 (.lst ((x0++x1).map V.int))):=zo (Same.refl _) (h.free np1);have h1:=h.grow (o:=.lst ((x0++x1).map V.int)) np1;generalize upd B p1 (.lst ((x0++x1).map V.int))=B1 at E1 S1 h1;generalize upd H5 p1 (.lst ((x0++x1).map V.int))=J1 at h1 ⊢;refine ⟨_,rfl,D,_,_,.ref r2,rfl,rfl,h1.lst 0 rfl,rfl,p1,r2,_,_,rfl,rfl,h1.sm _ _ E1,h1.sm _ _ (S1 _ _ e2),(by rw [List.length_map,List.length_map,List.length_append];omega),fun p2 np2=>?_⟩;rw [← List.map_append];have E2:upd B1 p2 (.lst ((x0++x1++x2).map V.int)) p2=_:=zh;have S2:Same B1 (upd B1 p2 (.lst ((x0++x1++x2).map V.int))):=zo (Same.refl _) (h1.free np2);have h2:=h1.grow (o:=.lst ((x0++x1++x2).map V.int)) np2;generalize upd B1 p2 (.lst ((x0++x1++x2).map V.int))=B2 at E2 S2 h2;generalize upd J1 p2 (.lst ((x0++x1++x2).map V.int))=J2 at h2 ⊢;refine ⟨_,rfl,D,_,_,.ref r3,rfl,rfl,h2.lst 0 rfl,rfl,p2,r3,_,_,rfl,rfl,h2.sm _ _ E2,h2.sm _ _ (S2 _ _ (S1 _ _ e3)),(by rw [List.length_map,List.length_map,List.length_append,List.length_append];omega),fun p3 np3=>?_⟩;rw [← List.map_append];exact ⟨p3,_,rfl,(S1.trans S2).trans (zo (Same.refl _) (h2.free np3)),h2.grow np3,zh⟩
 clear h;rintro σ H6 ⟨ce,B2,rfl,sB,h,ece⟩;replace hS:=zE hS sB;replace epk:=sB _ _ epk;replace ele:=sB _ _ ele;replace e0:=sB _ _ e0;replace e1:=sB _ _ e1;replace e2:=sB _ _ e2;replace e3:=sB _ _ e3;clear sB B H5;let R4:List V:=[.ref r0,.ref r1,.ref r2,.ref r3];refine ⟨_,rfl,pk,rfl,⟨_,SqL.of (h.sm _ _ epk)⟩,_,rfl,fun D2 nD2=>?_⟩;have h0:Hd B2 [(D2,.lst (([]:List Addr).map V.ref)),(D,.lst R4)] (upd H6 D2 (.lst [])):=h.new nD2;generalize upd H6 D2 (.lst [])=H7 at h0 ⊢;refine xY (K:=K) (a:=pk) (D:=D2) (xs:=cs.map V.int) (fun i σ J=>∃ (u:Option V) (B3:Hp) (ss:List Addr),σ=[u]/\LetsAt c q (zq n m) B3 ss ((cs.take i).map zL)/\Same B2 B3/\Hd B3 [(D2,.lst (ss.map V.ref)),(D,.lst R4)] J) ⟨none,B2,[],rfl,⟨rfl,fun i s F x=>by cases x⟩,Same.refl _,h0⟩ (fun i σ J _ ⟨_,B3,_,_,_,s3,h3⟩=>SqL.of (h3.sm _ _ (s3 _ _ epk))) ?_ ?_
 ·clear h0
  rintro i y σ J7 hi ⟨u,B3,ss,rfl,hL,s3,h3⟩;obtain ⟨hlt,rfl⟩:=xN hi;refine ⟨_,rfl,_,rfl,fun J8 x s8 hx=>?_⟩;obtain ⟨B4,sB4,h4,new4⟩:=h3.over s8
  have hx4:LeafAt c B4 (zL (cs.getD i 0)) x:=by
   obtain ⟨dx,ex⟩:=hx;refine ⟨dx,new4 _ _ ex fun z=>?_⟩;rcases List.mem_cons.mp z with z | z
   ·have z:x=D2:=z
    rw [z,h4.get 0 rfl] at ex;cases ex
   ·have z:x=D:=List.mem_singleton.mp z
    rw [z,h4.get 1 rfl] at ex;cases ex
  refine fun st dst n1' n2' n3'=>⟨st,dst,.int 0,.ref x,.non,rfl,zh,fun J9 k9 e9=>⟨rfl,?_⟩⟩;have h9:=h4.made0 n1' n2' n3' k9 e9;have s9:=h9.settled.trans h9.settle.settled;have est:upd (upd B4 st (.ins q.let_ dst [("target",.int 0),("value",.ref x),("test",.non)])) dst (.own st) st=some (.ins q.let_ dst [("target",.int 0),("value",.ref x),("test",.non)]):=by rw [zm (Ne.symm n3')];exact zh
  replace h9:=h9.settle.settle;generalize upd (upd B4 st (.ins q.let_ dst [("target",.int 0),("value",.ref x),("test",.non)])) dst (.own st)=B5 at h9 s9 est;have ssl:ss.length<=12:=by rw [hL.n,List.length_map,List.length_take];omega
  refine ⟨_,h9.get 0 rfl,(by rw [List.length_map];omega),_,B5,ss++[st],rfl,?_,(s3.trans sB4).trans s9,?_⟩
  ·rw [Xw hlt,List.map_append]
   exact (hL.same (sB4.trans s9)).snoc (leafOf_in _ n m) ⟨dst,est⟩ (hx4.same s9)
  ·rw [List.map_append]
   exact h9.put 0 rfl
 clear h0 h;rintro σ H8 ⟨u,B3,ss,rfl,hL,s3,h⟩;rw [List.length_map,List.take_length] at hL;have est:upd B3 D2 (.lst (ss.map V.ref)) D2=_:=zh;have sB:=s3.trans h.settled;replace hL:=hL.same h.settled;replace h:=h.settle;generalize upd B3 D2 (.lst (ss.map V.ref))=B4 at est sB hL h;replace hS:=zE hS sB;replace epk:=sB _ _ epk;replace ele:=sB _ _ ele;replace e0:=sB _ _ e0;replace e1:=sB _ _ e1;replace e2:=sB _ _ e2;replace e3:=sB _ _ e3;replace ece:=sB _ _ ece;clear s3 sB B3 B2 H6 nD2;refine ⟨fun σ J=>∃ (kc:Addr) (B:Hp),σ=[some (.ref a),some (.int (n:Int)),some (.ref pk),some (.ref le),some (.ref D),none,some (.ref ce),some (.ref D2),none,some (.ref kc),none,none,none,none,none,none]/\Same B4 B/\Hd B [(D,.lst R4)] J/\B kc=some (.lst (cells.map V.int)),?_,?_⟩
 ·exact ⟨_,rfl,ce,_,rfl,.inl (SqL.of (h.sm _ _ ece)),fun kc nkc=>⟨kc,_,rfl,zo (Same.refl _) (h.free nkc),h.grow nkc,zh⟩⟩
 clear h;rintro σ H9 ⟨kc,B5,rfl,sB,h,ekc⟩;replace hS:=zE hS sB;replace epk:=sB _ _ epk;replace ele:=sB _ _ ele;replace e0:=sB _ _ e0;replace e1:=sB _ _ e1;replace e2:=sB _ _ e2;replace e3:=sB _ _ e3;replace ece:=sB _ _ ece;replace est:=sB _ _ est;replace hL:=hL.same sB;clear sB;refine ⟨szU 4,fun lg nlg=>?_⟩;have elg:upd H9 lg (.lst [.int 0,.int 1,.int 2,.int 4]) lg=some (.lst [.int 0,.int 1,.int 2,.int 4]):=zh;replace h:=h.waste (o:=.lst [.int 0,.int 1,.int 2,.int 4]) nlg;generalize upd H9 lg (.lst [.int 0,.int 1,.int 2,.int 4])=H10 at elg h ⊢
 obtain ⟨g,hg,hat⟩:∃ g:Int,(g=0∨g=1∨g=2∨g=4)/\atI [V.int 0,V.int 1,V.int 2,V.int 4] (ns.getD 1 0 / 6 % 4)=some (.int g):=by
  have:ns.getD 1 0 / 6 % 4=0∨ns.getD 1 0 / 6 % 4=1∨ns.getD 1 0 / 6 % 4=2∨ns.getD 1 0 / 6 % 4=3:=by omega
  rcases this with e | e | e | e <;> rw [e]
  ·exact ⟨0,.inl rfl,rfl⟩
  ·exact ⟨1,.inr (.inl rfl),rfl⟩
  ·exact ⟨2,.inr (.inr (.inl rfl)),rfl⟩
  ·exact ⟨4,.inr (.inr (.inr rfl)),rfl⟩
 refine ⟨_,rfl,a,ns,1,rfl,h.sql hS,by decide,_,_,rfl,rfl,⟨by decide,by decide⟩,_,_,rfl,rfl,(by show (0:Int)<4;decide),lg,_,_,.int g,rfl,rfl,SqL.of elg,hat,?_⟩;clear elg nlg;refine ⟨fun σ J=>∃ (pr dp la lb lc:Addr) (B:Hp),σ=[some (.ref a),some (.int (n:Int)),some (.ref pk),some (.ref le),some (.ref D),none,some (.ref ce),some (.ref D2),none,some (.ref kc),some (.int g),some (.ref pr),none,none,none,none]/\Same B5 B/\Hd B [(D,.lst R4)] J/\B pr=some (.ins q.pr dp (prFl la lb lc))/\B la=some (.lst ((zq n m).map V.int))/\B lc=some (.lst (ss.map V.ref)),?_,?_⟩
 ·refine ⟨_,rfl,le,_,rfl,.inl (SqL.of (h.sm _ _ ele)),fun l1' nl1=>?_⟩
  have E1:upd B5 l1' (.lst ((zq n m).map V.int)) l1'=_:=zh;have S1:Same B5 (upd B5 l1' (.lst ((zq n m).map V.int))):=zo (Same.refl _) (h.free nl1);have h1:=h.grow (o:=.lst ((zq n m).map V.int)) nl1;generalize upd B5 l1' (.lst ((zq n m).map V.int))=B6 at E1 S1 h1;generalize upd H10 l1' (.lst ((zq n m).map V.int))=J1 at h1 ⊢;refine ⟨szU 0,fun l2' nl2=>?_⟩;have E2:upd B6 l2' (.lst []) l2'=some (.lst []):=zh;have S2:Same B6 (upd B6 l2' (.lst [])):=zo (Same.refl _) (h1.free nl2);have h2:=h1.grow (o:=.lst []) nl2;generalize upd B6 l2' (.lst [])=B7 at E2 S2 h2;generalize upd J1 l2' (.lst [])=J2 at h2 ⊢;refine ⟨_,rfl,D2,_,rfl,.inl (SqL.of (h2.sm _ _ (S2 _ _ (S1 _ _ est)))),fun l3' nl3=>?_⟩;have E3:upd B7 l3' (.lst (ss.map V.ref)) l3'=_:=zh;have S3:Same B7 (upd B7 l3' (.lst (ss.map V.ref))):=zo (Same.refl _) (h2.free nl3);have h3:=h2.grow (o:=.lst (ss.map V.ref)) nl3;generalize upd B7 l3' (.lst (ss.map V.ref))=B8 at E3 S3 h3;generalize upd J2 l3' (.lst (ss.map V.ref))=J3 at h3 ⊢;refine fun pr dpr n1' n2' n3'=>?_;have h4:=h3.grow (o:=.own pr) n2';have S4:Same B8 (upd B8 dpr (.own pr)):=zo (Same.refl _) (h3.free n2');replace h4:=h4.new (o:=.ins q.pr dpr []) (by rw [zm (Ne.symm n3')];exact n1');refine ⟨_,[(D,.lst R4)],pr,dpr,l1',l2',l3',_,_,_,rfl,h4,SqL.of (S4 _ _ (S3 _ _ (S2 _ _ E1))),SqL.of (S4 _ _ (S3 _ _ E2)),SqL.of (S4 _ _ E3),fun B9 J9 la lb lc s9 h9 a1 a2 a3 a4=>⟨rfl,?_⟩⟩;exact ⟨pr,dpr,la,lb,lc,B9,rfl,(((S1.trans S2).trans S3).trans S4).trans s9,h9,a4,a1,a3⟩
 clear h;rintro σ H11 ⟨pr,dp,la,lb,lc,B6,rfl,sB,h,epr,ela,elc⟩;replace hS:=zE hS sB;replace epk:=sB _ _ epk;replace ele:=sB _ _ ele;replace e0:=sB _ _ e0;replace e1:=sB _ _ e1;replace e2:=sB _ _ e2;replace e3:=sB _ _ e3;replace ece:=sB _ _ ece;replace est:=sB _ _ est;replace ekc:=sB _ _ ekc;replace hL:=hL.same sB;clear sB;have fl12:(cs.map zL).length<=100:=by rw [List.length_map];omega
 have outc:∀ {J J' B:Hp} {l:Addr} {os:List Addr} {tvs:List (List V)},Hd B [(D,.lst R4)] J->Same J J'->J l=none->J' l=some (.lst (os.map V.ref))->CodeAt J' os tvs->∃ B',Same B B'/\Hd B' [(D,.lst R4)] J'/\B' l=some (.lst (os.map V.ref))/\CodeAt B' os tvs:=fun {J J' B l os tvs} h s nl el CO=>by
  obtain ⟨B',sB',h',new'⟩:=h.over s;have out:∀ x o,J' x=some o->x≠D->B' x=some o:=fun x o e n=>new' x o e fun z=>n (List.mem_singleton.mp z)
  exact ⟨B',sB',h',out _ _ el (fun z=>by rw [z,h.get 0 rfl] at nl;cases nl),CO.n,fun i b tv x y=>out _ _ (CO.t i b tv x y) fun z=>by
   have e:=CO.t i b tv x y;rw [z,h'.get 0 rfl] at e;cases e⟩
 refine ⟨_,rfl,pr,dp,la,lb,lc,ss,cs.map zL,zq n m,0,rfl,h.sm _ _ epr,SqL.of (h.sm _ _ ela),(by show 0<4;decide),SqL.of (h.sm _ _ elc),hL.same h.sm,fl12,.inl rfl,fun J1 l os s1 nl el CO=>?_⟩;obtain ⟨B7,sB7,h7,el7,CO7⟩:=outc h s1 nl el CO;refine ⟨fun σ J=>∃ (cd:Addr) (os:List Addr) (B:Hp),σ=[some (.ref a),some (.int (n:Int)),some (.ref pk),some (.ref le),some (.ref D),none,some (.ref ce),some (.ref D2),none,some (.ref kc),some (.int g),some (.ref pr),some (.ref cd),none,none,none]/\Same B6 B/\Hd B [(D,.lst R4)] J/\B cd=some (.lst (os.map V.ref))/\CodeAt B os (yR (zq n m) (gOf g) (cs.map zL)),?_,?_⟩
 ·refine ⟨_,rfl,rfl,_,rfl,y6 (fun z=>?_) (fun z=>?_)⟩
  ·refine ⟨_,rfl,_,rfl,pr,dp,la,lb,lc,ss,cs.map zL,zq n m,g,rfl,h7.sm _ _ (sB7 _ _ epr),SqL.of (h7.sm _ _ (sB7 _ _ ela)),(by show 0<4;decide),SqL.of (h7.sm _ _ (sB7 _ _ elc)),hL.same (sB7.trans h7.sm),fl12,hg,fun J2 l2' os2 s2 nl2 el2 CO2=>?_⟩
   obtain ⟨B9,sB9,h9,el9,CO9⟩:=outc h7 s2 nl2 el2 CO2;exact ⟨l2',os2,B9,rfl,sB7.trans sB9,h9,el9,CO9⟩
  ·have z:g=0:=by
    by_cases y:g=0
    ·exact y
    ·exact absurd (by simp [y]) z
   refine ⟨l,os,B7,rfl,sB7,h7,el7,?_⟩;rw [z];exact CO7
 clear h h7 CO7 el7 sB7 s1 nl el CO;rintro σ H12 ⟨cd,os,B8,rfl,sB,h,ecd,CO⟩;replace hS:=zE hS sB;replace epk:=sB _ _ epk;replace ele:=sB _ _ ele;replace e0:=sB _ _ e0;replace e1:=sB _ _ e1;replace e2:=sB _ _ e2;replace e3:=sB _ _ e3;replace ece:=sB _ _ ece;replace est:=sB _ _ est;replace ekc:=sB _ _ ekc;replace epr:=sB _ _ epr;replace ela:=sB _ _ ela;replace elc:=sB _ _ elc;clear sB hL outc;refine ⟨_,rfl,_,_,.type "list",.type "list",true,rfl,rfl,(fun u r=>r),.inl (.lst (h.sm _ _ ecd)),kll,true,rfl,yx ?_⟩;refine ⟨_,rfl,pr,_,dp,_,.ref lc,rfl,h.sm _ _ epr,PC.c,PC.n2,rfl,lc,_,rfl,.inl (SqL.of (h.sm _ _ elc)),_,rfl,D2,_,rfl,.inl (SqL.of (h.sm _ _ est)),rfl,_,rfl,iteNS rfl ?_⟩;refine ⟨_,rfl,pr,_,dp,_,.ref la,rfl,h.sm _ _ epr,PC.c,PC.n0,rfl,_,rfl,dI (zq n m),dI (zq n m),ZQ (SqL.of (h.sm _ _ ela)),ZQ (SqL.of (h.sm _ _ ele)),xB,xB,Nat.le_trans Xc (by decide),?_⟩;rw [SeqAt.eqv_refl _ xB];refine ⟨false,rfl,yx ?_⟩;refine ⟨_,rfl,pk,rfl,⟨_,SqL.of (h.sm _ _ epk)⟩,?_⟩;refine ZC (K:=K) (a:=pk) (xs:=cs.map V.int) (fun i σ J=>∃ (u8 u13:Option V) (B:Hp) (r:Addr),σ=[some (.ref a),some (.int (n:Int)),some (.ref pk),some (.ref le),some (.ref D),none,some (.ref ce),some (.ref D2),u8,some (.ref kc),some (.int g),some (.ref pr),some (.ref cd),u13,none,none]/\Same B8 B/\Hd B [(D,.lst [.ref r,.ref r1,.ref r2,.ref r3])] J/\B r=some (.lst ((xS x0 x1 x2 x3 (cs.take i)).map V.int))) ⟨none,none,B8,r0,rfl,Same.refl _,h,e0⟩ (fun i σ J _ ⟨_,_,B,_,_,s3,h3,_⟩=>SqL.of (h3.sm _ _ (s3 _ _ epk))) ?_ ?_
 ·clear h
  rintro i y σ J hi ⟨u8,u13,B,r,rfl,sB,h,er⟩;obtain ⟨hlt,rfl⟩:=xN hi;have rwl:(xS x0 x1 x2 x3 (cs.take i)).length=n:=(ZJ x1 x2 x3 _ _).trans l0
  have enx:xS x0 x1 x2 x3 (cs.take (i+1))=Zb (xS x0 x1 x2 x3 (cs.take i)) x1 x2 x3 (cs.getD i 0):=by
   rw [Xw hlt];unfold xS;rw [List.foldl_append];rfl
  rw [enx];generalize xS x0 x1 x2 x3 (cs.take i)=X at er rwl ⊢;generalize cs.getD i 0=cell;refine ⟨_,rfl,_,rfl,by omega,by omega,_,rfl,fun D3 nD3=>?_⟩;let dv:Nat->Int:=fun p=>ZR X x1 x2 x3 cell p;have h0:Hd B [(D3,.lst (((List.range 0).map dv).map V.int)),(D,.lst [.ref r,.ref r1,.ref r2,.ref r3])] (upd J D3 (.lst [])):=h.new nD3;generalize upd J D3 (.lst [])=J2 at h0 ⊢;refine Zs (n:=((n:Nat):Int).toNat) (fun j σ J3=>∃ (u:Option V) (B':Hp),σ=[u,some (.int cell),some (.ref D)]/\Same B B'/\Hd B' [(D3,.lst (((List.range j).map dv).map V.int)),(D,.lst [.ref r,.ref r1,.ref r2,.ref r3])] J3) ⟨none,B,rfl,Same.refl _,h0⟩ ?_ ?_
  ·clear h0
   rintro j σ J3 hj ⟨u,B',rfl,sB',h'⟩;have hj:j<n:=by omega
   refine ⟨_,rfl,_,rfl,_,rfl,cell,j,D,r,r1,r2,r3,X,x1,x2,x3,(by rw [Int.zero_add];rfl),h'.lst 1 rfl,SqL.of (h'.sm _ _ (sB' _ _ er)),SqL.of (h'.sm _ _ (sB' _ _ (sB _ _ e1))),SqL.of (h'.sm _ _ (sB' _ _ (sB _ _ e2))),SqL.of (h'.sm _ _ (sB' _ _ (sB _ _ e3))),by omega,by omega,by omega,fun J4 s4=>?_⟩;obtain ⟨B2,sB2,h2,_⟩:=h'.over s4;refine ⟨_,h2.get 0 rfl,(by rw [List.length_map,List.length_map,List.length_range];omega),_,B2,rfl,sB'.trans sB2,?_⟩;rw [List.range_succ,List.map_append,List.map_append];exact h2.put 0 rfl
  ·clear h0
   rintro σ J3 ⟨u,B',rfl,sB',h'⟩;refine ⟨_,rfl,D,_,_,0,rfl,rfl,h'.get 1 rfl,ixN_nat (show (0:Int)<=0 by decide) (by show 0<4;decide),?_⟩;have h2:=h'.put (o':=.lst [.ref D3,.ref r1,.ref r2,.ref r3]) 1 rfl;have e3':upd B' D3 (.lst (((List.range ((n:Nat):Int).toNat).map dv).map V.int)) D3=_:=zh;refine ⟨_,_,_,D3,rfl,(sB.trans sB').trans (Hd.settled h2),Hd.settle h2,?_⟩;rw [e3',Int.toNat_natCast];unfold Zb;rw [rwl]
 clear h;rintro σ H13 ⟨u8,u13,B9,r,rfl,sB,h,er⟩;rw [List.length_map,List.take_length] at er;replace hS:=h.sql (zE hS sB);replace ele:=h.sm _ _ (sB _ _ ele);replace e1:=h.sm _ _ (sB _ _ e1);replace e2:=h.sm _ _ (sB _ _ e2);replace e3:=h.sm _ _ (sB _ _ e3);replace ece:=h.sm _ _ (sB _ _ ece);replace ekc:=h.sm _ _ (sB _ _ ekc);replace ecd:=h.sm _ _ (sB _ _ ecd);replace er:=h.sm _ _ er;have eD:=h.get 0 rfl;have CO2:CodeAt H13 os (yR (zq n m) (gOf g) (cs.map zL)):=⟨CO.n,fun i b tv x y=>h.sm _ _ (sB _ _ (CO.t i b tv x y))⟩;clear h sB epr ela elc est epk e0 CO;refine ⟨fun σ J=>∃ Ln:Nat,σ=[some (.ref a),some (.int (n:Int)),some (.ref pk),some (.ref le),some (.ref D),none,some (.ref ce),some (.ref D2),u8,some (.ref kc),some (.int g),some (.ref pr),some (.ref cd),u13,some (.int (Ln:Int)),none]/\J=H13/\1<=Ln/\Ln<=64,?_,?_⟩
 ·refine ⟨_,rfl,a,ns,2,rfl,hS,by decide,_,_,rfl,rfl,(by show (0:Int)<1000;decide),_,rfl,_,_,rfl,fun L b1' b2'=>?_⟩
  obtain ⟨Ln,rfl⟩:∃ n:Nat,L=n:=⟨L.toNat,by omega⟩;exact ⟨Ln,rfl,rfl,by omega,by omega⟩
 rintro σ J' ⟨Ln,rfl,rfl,L1,L64⟩;have g4:gOf g=1∨gOf g=2∨gOf g=4:=by unfold gOf;split <;> omega
 refine ⟨_,rfl,_,rfl,le,_,rfl,.inl (SqL.of ele),fun q1 nq1=>?_⟩;have S1:Same J' (upd J' q1 (.lst ((zq n m).map V.int))):=zo (Same.refl _) nq1;have E1:upd J' q1 (.lst ((zq n m).map V.int)) q1=_:=zh;generalize upd J' q1 (.lst ((zq n m).map V.int))=J1 at S1 E1 ⊢;have m5:=Int.emod_nonneg (ns.getD 2 0) (show (5:Int)≠0 by decide);have m6':=Int.emod_lt_of_pos (ns.getD 2 0) (show (0:Int)<5 by decide);refine ⟨_,rfl,_,rfl,_,rfl,_,rfl,a,ns,2,rfl,zE hS S1,by decide,_,_,rfl,rfl,(by show (0:Int)<5;decide),a,ns,5,(ns.getD 2 0 % 5).toNat,(by rw [Int.toNat_of_nonneg m5];rfl),zE hS S1,hn,by decide,by decide,by omega,fun J2 q3 xs lx S2 nq3 E2=>?_⟩;refine ⟨szU 0,fun q4 nq4=>?_⟩;have S3:Same J2 (upd J2 q4 (.lst [])):=zo (Same.refl _) nq4;have E3:upd J2 q4 (.lst []) q4=some (.lst (([]:List Int).map V.int)):=zh;generalize upd J2 q4 (.lst [])=J3 at S3 E3 ⊢;have S13:=(S1.trans S2).trans S3;obtain ⟨kk,M,T,st,rs,_⟩:=zhn (x0:=x0) (x1:=x1) (x2:=x2) (x3:=x3) (n:=n) (m:=m) (L:=Ln) (g:=gOf g) l0 l1 l2 l3 n1 n4 g4 L1 L64 cs c12 xs cs.length (Nat.le_refl _);rw [List.take_length] at rs;have cdl:(yR (zq n m) (gOf g) (cs.map zL)).length=4*cs.length:=by rw [Z0,List.length_map]
 refine ⟨cd,q1,ce,q3,q4,os,yR (zq n m) (gOf g) (cs.map zL),zq n m,cells,xs,[],Ln,kk,M,rfl,SqL.of (S13 _ _ ecd),⟨CO2.n,fun i b tv x y=>S13 _ _ (CO2.t i b tv x y)⟩,SqL.of ((S2.trans S3) _ _ E1),SqL.of (S13 _ _ ece),SqL.of (S3 _ _ E2),SqL.of E3,L1,L64,(by show 4<=1000;decide),(by rw [cdl];omega),st.run (.inl (by rw [rs.pc,cdl];exact Int.le_refl _)),fun B10 A10 H14 t s10 m10 et=>?_⟩;have S4:=(S13.trans s10).trans m10.h.sm;have rfn:A10.rf=.non:=by have:=m10.bb.rf;rw [rs.rf] at this;exact this
 have et2:=m10.h.sm _ _ et;have eC:H14 A10.aC=some (.lst (M.cells.map V.int)):=m10.h.get 1 rfl;rw [rs.cells] at eC;rw [rfn] at et2;clear m10;refine ⟨_,rfl,_,rfl,dI cells,dI cells,ZQ (SqL.of (S4 _ _ ece)),ZQ (SqL.of (S4 _ _ ekc)),xB,xB,Nat.le_trans Xc (by decide),?_⟩;rw [SeqAt.eqv_refl _ xB];refine ⟨true,rfl,Zq ?_⟩;have Xl:(xS x0 x1 x2 x3 cs).length=n:=(ZJ x1 x2 x3 _ _).trans l0;generalize xS x0 x1 x2 x3 cs=X at er eC Xl;refine ⟨_,rfl,?_⟩;replace er:=S4 _ _ er;replace e1:=S4 _ _ e1;replace e2:=S4 _ _ e2;replace e3:=S4 _ _ e3;replace eD:=S4 _ _ eD;refine ⟨_,rfl,D,_,_,.ref r,rfl,rfl,SqL.of eD,rfl,_,rfl,D,_,_,.ref r1,rfl,rfl,SqL.of eD,rfl,r,r1,_,_,rfl,rfl,er,e1,(by rw [List.length_map,List.length_map];omega),fun p1 np1=>?_⟩;rw [← List.map_append];have F1:upd H14 p1 (.lst ((X++x1).map V.int)) p1=_:=zh;have G1:Same H14 (upd H14 p1 (.lst ((X++x1).map V.int))):=zo (Same.refl _) np1;generalize upd H14 p1 (.lst ((X++x1).map V.int))=K1 at F1 G1 ⊢;refine ⟨_,rfl,D,_,_,.ref r2,rfl,rfl,SqL.of (G1 _ _ eD),rfl,p1,r2,_,_,rfl,rfl,F1,G1 _ _ e2,(by rw [List.length_map,List.length_map,List.length_append];omega),fun p2 np2=>?_⟩;rw [← List.map_append];have F2':upd K1 p2 (.lst ((X++x1++x2).map V.int)) p2=_:=zh;have G2:Same K1 (upd K1 p2 (.lst ((X++x1++x2).map V.int))):=zo (Same.refl _) np2;generalize upd K1 p2 (.lst ((X++x1++x2).map V.int))=K2 at F2' G2 ⊢;have G12:=G1.trans G2;refine ⟨_,rfl,D,_,_,.ref r3,rfl,rfl,SqL.of (G12 _ _ eD),rfl,p2,r3,_,_,rfl,rfl,F2',G12 _ _ e3,(by rw [List.length_map,List.length_map,List.length_append,List.length_append];omega),fun p3 np3=>?_⟩;rw [← List.map_append];have G3:Same K2 (upd K2 p3 (.lst ((X++x1++x2++x3).map V.int))):=zo (Same.refl _) np3;have G13:=G12.trans G3;exact ⟨t,A10.aC,p3,.non,.non,.ref A10.aT,X++x1++x2++x3,none,rfl,G13 _ _ et2,G13 _ _ eC,SqL.of zh,rfl,rfl,(fun n p s e=>by cases e),k _⟩
end
end K43
namespace K43
open PySem L2
theorem uc {n:Nat}:∀ {us:List Value},us.length=n+1->∃ a r,us=a::r/\r.length=n
 | a::r,h=>⟨a,r,rfl,Nat.succ.inj h⟩
theorem us1 {p:List Value->Prop} (h:∀ a0,p [a0]):∀ us:List Value,us.length=1->p us:=by
 intro us e;obtain ⟨a0,u0,rfl,e0⟩:=uc e;cases List.eq_nil_of_length_eq_zero e0;exact h _
theorem us2 {p:List Value->Prop} (h:∀ a0 a1,p [a0,a1]):∀ us:List Value,us.length=2->p us:=by
 intro us e;obtain ⟨a0,u0,rfl,e0⟩:=uc e;obtain ⟨a1,u1,rfl,e1⟩:=uc e0;cases List.eq_nil_of_length_eq_zero e1;exact h _ _
theorem us3 {p:List Value->Prop} (h:∀ a0 a1 a2,p [a0,a1,a2]):∀ us:List Value,us.length=3->p us:=by
 intro us e;obtain ⟨a0,u0,rfl,e0⟩:=uc e;obtain ⟨a1,u1,rfl,e1⟩:=uc e0;obtain ⟨a2,u2,rfl,e2⟩:=uc e1;cases List.eq_nil_of_length_eq_zero e2;exact h _ _ _
theorem us4 {p:List Value->Prop} (h:∀ a0 a1 a2 a3,p [a0,a1,a2,a3]):∀ us:List Value,us.length=4->p us:=by
 intro us e;obtain ⟨a0,u0,rfl,e0⟩:=uc e;obtain ⟨a1,u1,rfl,e1⟩:=uc e0;obtain ⟨a2,u2,rfl,e2⟩:=uc e1;obtain ⟨a3,u3,rfl,e3⟩:=uc e2;cases List.eq_nil_of_length_eq_zero e3;exact h _ _ _ _
theorem us5 {p:List Value->Prop} (h:∀ a0 a1 a2 a3 a4,p [a0,a1,a2,a3,a4]):∀ us:List Value,us.length=5->p us:=by
 intro us e;obtain ⟨a0,u0,rfl,e0⟩:=uc e;obtain ⟨a1,u1,rfl,e1⟩:=uc e0;obtain ⟨a2,u2,rfl,e2⟩:=uc e1;obtain ⟨a3,u3,rfl,e3⟩:=uc e2;obtain ⟨a4,u4,rfl,e4⟩:=uc e3;cases List.eq_nil_of_length_eq_zero e4;exact h _ _ _ _ _
theorem us6 {p:List Value->Prop} (h:∀ a0 a1 a2 a3 a4 a5,p [a0,a1,a2,a3,a4,a5]):∀ us:List Value,us.length=6->p us:=by
 intro us e;obtain ⟨a0,u0,rfl,e0⟩:=uc e;obtain ⟨a1,u1,rfl,e1⟩:=uc e0;obtain ⟨a2,u2,rfl,e2⟩:=uc e1;obtain ⟨a3,u3,rfl,e3⟩:=uc e2;obtain ⟨a4,u4,rfl,e4⟩:=uc e3;obtain ⟨a5,u5,rfl,e5⟩:=uc e4;cases List.eq_nil_of_length_eq_zero e5;exact h _ _ _ _ _ _
theorem all_mk {l:PySem.W.OpenLaw} {w:World} {K:PySem.W.Frag} {h:Heap} {mg:Str->Option Value} {fa f_1z f_q f_1y f_1w f_1v f_1x f_o f_14 f_1c f_16 f_1a f_18 f_17 f_19 f_1k f_1h f_1g f_1j f_1f f_1i f_13 f_1r f_1e f_r f_1b f_1d f_1u f_20 f_p f_15 f_12 f_1n f_1q f_1s f_s f_1o f_1m f_1p f_1l f_1t f_10 f_t f_v f_y f_z f_x f_u f_w f_11 f_b f_e f_c f_d f_g f_h f_3 f_7 f_2 f_1 f_6 f_5 f_4 f_9 f_8 f_a f_l f_f f_n f_i f_j f_m f_k f_0 C_Boxes C_Feed C_Bench C_Number C_Here C_Cell C_Shifted C_Let C_Program C_Maker C_Aim:Addr} {TS TE TW f_numbers_gathered f_numbers_joined f_numbers_picked f_numbers_copied f_numbers_brought f_play_reach f_play_trim f_play_stop f_play_save f_play_put f_play_fold f_play_running f_play_any f_play_turns f_play_quiet f_play_till X_At X_Pair X_Choice X_Call X_Put X_Fold X_Till:Addr} {tB tM tN tT:Tok} {esS esE esW:Array DictEntry} {nS nE nW:Nat} {od_1z an_1z od_q an_q od_1y an_1y od_1w an_1w od_1v an_1v od_1x an_1x od_o an_o od_14 an_14 od_1c an_1c od_16 an_16 od_1a an_1a od_18 an_18 od_17 an_17 od_19 an_19 od_1k an_1k od_1h an_1h od_1g an_1g od_1j an_1j od_1f an_1f od_1i an_1i od_13 an_13 od_1r an_1r od_1e an_1e od_r an_r od_1b an_1b od_1d an_1d od_1u an_1u od_20 an_20 od_p an_p od_15 an_15 od_12 an_12 od_1n an_1n od_1q an_1q od_1s an_1s od_s an_s od_1o an_1o od_1m an_1m od_1p an_1p od_1l an_1l od_1t an_1t od_10 an_10 od_t an_t od_v an_v od_y an_y od_z an_z od_x an_x od_u an_u od_w an_w od_11 an_11 od_b an_b od_e an_e od_c an_c od_d an_d od_g an_g od_h an_h od_3 an_3 od_7 an_7 od_2 an_2 od_1 an_1 od_6 an_6 od_5 an_5 od_4 an_4 od_9 an_9 od_8 an_8 od_a an_a od_l an_l od_f an_f od_n an_n od_i an_i od_j an_j od_m an_m od_k an_k od_0 an_0:Option Addr} {sl_1z sl_q sl_1y sl_1w sl_1v sl_1x sl_o sl_14 sl_1c sl_16 sl_1a sl_18 sl_17 sl_19 sl_1k sl_1h sl_1g sl_1j sl_1f sl_1i sl_13 sl_1r sl_1e sl_r sl_1b sl_1d sl_1u sl_20 sl_p sl_15 sl_12 sl_1n sl_1q sl_1s sl_s sl_1o sl_1m sl_1p sl_1l sl_1t sl_10 sl_t sl_v sl_y sl_z sl_x sl_u sl_w sl_11 sl_b sl_e sl_c sl_d sl_g sl_h sl_3 sl_7 sl_2 sl_1 sl_6 sl_5 sl_4 sl_9 sl_8 sl_a sl_l sl_f sl_n sl_i sl_j sl_m sl_k sl_0:Array (Option Value)} {oc_1z kV_1z dc_1z pm_1z cd_1z ct_1z oc_q kV_q dc_q pm_q cd_q ct_q oc_1y kV_1y dc_1y pm_1y cd_1y ct_1y oc_1w kV_1w dc_1w pm_1w cd_1w ct_1w oc_1v kV_1v dc_1v pm_1v cd_1v ct_1v oc_1x kV_1x dc_1x pm_1x cd_1x ct_1x oc_o kV_o dc_o pm_o cd_o ct_o oc_14 kV_14 dc_14 pm_14 cd_14 ct_14 oc_1c kV_1c dc_1c pm_1c cd_1c ct_1c oc_16 kV_16 dc_16 pm_16 cd_16 ct_16 oc_1a kV_1a dc_1a pm_1a cd_1a ct_1a oc_18 kV_18 dc_18 pm_18 cd_18 ct_18 oc_17 kV_17 dc_17 pm_17 cd_17 ct_17 oc_19 kV_19 dc_19 pm_19 cd_19 ct_19 oc_1k kV_1k dc_1k pm_1k cd_1k ct_1k oc_1h kV_1h dc_1h pm_1h cd_1h ct_1h oc_1g kV_1g dc_1g pm_1g cd_1g ct_1g oc_1j kV_1j dc_1j pm_1j cd_1j ct_1j oc_1f kV_1f dc_1f pm_1f cd_1f ct_1f oc_1i kV_1i dc_1i pm_1i cd_1i ct_1i oc_13 kV_13 dc_13 pm_13 cd_13 ct_13 oc_1r kV_1r dc_1r pm_1r cd_1r ct_1r oc_1e kV_1e dc_1e pm_1e cd_1e ct_1e oc_r kV_r dc_r pm_r cd_r ct_r oc_1b kV_1b dc_1b pm_1b cd_1b ct_1b oc_1d kV_1d dc_1d pm_1d cd_1d ct_1d oc_1u kV_1u dc_1u pm_1u cd_1u ct_1u oc_20 kV_20 dc_20 pm_20 cd_20 ct_20 oc_p kV_p dc_p pm_p cd_p ct_p oc_15 kV_15 dc_15 pm_15 cd_15 ct_15 oc_12 kV_12 dc_12 pm_12 cd_12 ct_12 oc_1n kV_1n dc_1n pm_1n cd_1n ct_1n oc_1q kV_1q dc_1q pm_1q cd_1q ct_1q oc_1s kV_1s dc_1s pm_1s cd_1s ct_1s oc_s kV_s dc_s pm_s cd_s ct_s oc_1o kV_1o dc_1o pm_1o cd_1o ct_1o oc_1m kV_1m dc_1m pm_1m cd_1m ct_1m oc_1p kV_1p dc_1p pm_1p cd_1p ct_1p oc_1l kV_1l dc_1l pm_1l cd_1l ct_1l oc_1t kV_1t dc_1t pm_1t cd_1t ct_1t oc_10 kV_10 dc_10 pm_10 cd_10 ct_10 oc_t kV_t dc_t pm_t cd_t ct_t oc_v kV_v dc_v pm_v cd_v ct_v oc_y kV_y dc_y pm_y cd_y ct_y oc_z kV_z dc_z pm_z cd_z ct_z oc_x kV_x dc_x pm_x cd_x ct_x oc_u kV_u dc_u pm_u cd_u ct_u oc_w kV_w dc_w pm_w cd_w ct_w oc_11 kV_11 dc_11 pm_11 cd_11 ct_11 oc_b kV_b dc_b pm_b cd_b ct_b oc_e kV_e dc_e pm_e cd_e ct_e oc_c kV_c dc_c pm_c cd_c ct_c oc_d kV_d dc_d pm_d cd_d ct_d oc_g kV_g dc_g pm_g cd_g ct_g oc_h kV_h dc_h pm_h cd_h ct_h oc_3 kV_3 dc_3 pm_3 cd_3 ct_3 oc_7 kV_7 dc_7 pm_7 cd_7 ct_7 oc_2 kV_2 dc_2 pm_2 cd_2 ct_2 oc_1 kV_1 dc_1 pm_1 cd_1 ct_1 oc_6 kV_6 dc_6 pm_6 cd_6 ct_6 oc_5 kV_5 dc_5 pm_5 cd_5 ct_5 oc_4 kV_4 dc_4 pm_4 cd_4 ct_4 oc_9 kV_9 dc_9 pm_9 cd_9 ct_9 oc_8 kV_8 dc_8 pm_8 cd_8 ct_8 oc_a kV_a dc_a pm_a cd_a ct_a oc_l kV_l dc_l pm_l cd_l ct_l oc_f kV_f dc_f pm_f cd_f ct_f oc_n kV_n dc_n pm_n cd_n ct_n oc_i kV_i dc_i pm_i cd_i ct_i oc_j kV_j dc_j pm_j cd_j ct_j oc_m kV_m dc_m pm_m cd_m ct_m oc_k kV_k dc_k pm_k cd_k ct_k oc_0 kV_0 dc_0 pm_0 cd_0 ct_0:Value} {T_i:Addr} {ocT_i:Value} {odT_i:Option Addr} {slT_i:Array (Option Value)} {nT_i:Nat} {T_15:Addr} {ocT_15:Value} {odT_15:Option Addr} {slT_15:Array (Option Value)} {nT_15:Nat} {tD_made:Tok} (X:K.In h) (G:h.Ns mainGlobals mg) (hfa:mg "law"=some (.ref fa))
  (a_start_of:PySem.W.nsIn K mainGlobals "start_of"=some (some (.ref f_1z))) (l_1z:K.lookup f_1z=some ⟨oc_1z,od_1z,.func (PySem.W.fnOf "start_of" "start_of" (zk xF) (zj xF) (zc xF) .none kV_1z dc_1z pm_1z an_1z cd_1z ct_1z),sl_1z⟩) (c_1z:PySem.W.codeIn K cd_1z "start_of"=true) (k_1z:PySem.W.keepIn K (.ref f_1z)=true)
  (a_count_of:PySem.W.nsIn K mainGlobals "count_of"=some (some (.ref f_q))) (l_q:K.lookup f_q=some ⟨oc_q,od_q,.func (PySem.W.fnOf "count_of" "count_of" (zk xH) (zj xH) (zc xH) .none kV_q dc_q pm_q an_q cd_q ct_q),sl_q⟩) (c_q:PySem.W.codeIn K cd_q "count_of"=true) (k_q:PySem.W.keepIn K (.ref f_q)=true)
  (a_seats_for_two:PySem.W.nsIn K mainGlobals "seats_for_two"=some (some (.ref f_1y))) (l_1y:K.lookup f_1y=some ⟨oc_1y,od_1y,.func (PySem.W.fnOf "seats_for_two" "seats_for_two" (zk yG) (zj yG) (zc yG) .none kV_1y dc_1y pm_1y an_1y cd_1y ct_1y),sl_1y⟩) (c_1y:PySem.W.codeIn K cd_1y "seats_for_two"=true) (k_1y:PySem.W.keepIn K (.ref f_1y)=true)
  (a_seats_for_call:PySem.W.nsIn K mainGlobals "seats_for_call"=some (some (.ref f_1w))) (l_1w:K.lookup f_1w=some ⟨oc_1w,od_1w,.func (PySem.W.fnOf "seats_for_call" "seats_for_call" (zk yB) (zj yB) (zc yB) .none kV_1w dc_1w pm_1w an_1w cd_1w ct_1w),sl_1w⟩) (c_1w:PySem.W.codeIn K cd_1w "seats_for_call"=true) (k_1w:PySem.W.keepIn K (.ref f_1w)=true)
  (a_seats_for:PySem.W.nsIn K mainGlobals "seats_for"=some (some (.ref f_1v))) (l_1v:K.lookup f_1v=some ⟨oc_1v,od_1v,.func (PySem.W.fnOf "seats_for" "seats_for" (zk xc) (zj xc) (zc xc) .none kV_1v dc_1v pm_1v an_1v cd_1v ct_1v),sl_1v⟩) (c_1v:PySem.W.codeIn K cd_1v "seats_for"=true) (k_1v:PySem.W.keepIn K (.ref f_1v)=true)
  (a_seats_for_step:PySem.W.nsIn K mainGlobals "seats_for_step"=some (some (.ref f_1x))) (l_1x:K.lookup f_1x=some ⟨oc_1x,od_1x,.func (PySem.W.fnOf "seats_for_step" "seats_for_step" (zk yl) (zj yl) (zc yl) .none kV_1x dc_1x pm_1x an_1x cd_1x ct_1x),sl_1x⟩) (c_1x:PySem.W.codeIn K cd_1x "seats_for_step"=true) (k_1x:PySem.W.keepIn K (.ref f_1x)=true)
  (a_cell_step:PySem.W.nsIn K mainGlobals "cell_step"=some (some (.ref f_o))) (l_o:K.lookup f_o=some ⟨oc_o,od_o,.func (PySem.W.fnOf "cell_step" "cell_step" (zk xq) (zj xq) (zc xq) .none kV_o dc_o pm_o an_o cd_o ct_o),sl_o⟩) (c_o:PySem.W.codeIn K cd_o "cell_step"=true) (k_o:PySem.W.keepIn K (.ref f_o)=true)
  (a_leaf_step:PySem.W.nsIn K mainGlobals "leaf_step"=some (some (.ref f_14))) (l_14:K.lookup f_14=some ⟨oc_14,od_14,.func (PySem.W.fnOf "leaf_step" "leaf_step" (zk xj) (zj xj) (zc xj) .none kV_14 dc_14 pm_14 an_14 cd_14 ct_14),sl_14⟩) (c_14:PySem.W.codeIn K cd_14 "leaf_step"=true) (k_14:PySem.W.keepIn K (.ref f_14)=true)
  (a_make_two:PySem.W.nsIn K mainGlobals "make_two"=some (some (.ref f_1c))) (l_1c:K.lookup f_1c=some ⟨oc_1c,od_1c,.func (PySem.W.fnOf "make_two" "make_two" (zk x6) (zj x6) (zc x6) .none kV_1c dc_1c pm_1c an_1c cd_1c ct_1c),sl_1c⟩) (c_1c:PySem.W.codeIn K cd_1c "make_two"=true) (k_1c:PySem.W.keepIn K (.ref f_1c)=true)
  (a_make_at:PySem.W.nsIn K mainGlobals "make_at"=some (some (.ref f_16))) (l_16:K.lookup f_16=some ⟨oc_16,od_16,.func (PySem.W.fnOf "make_at" "make_at" (zk Zi) (zj Zi) (zc Zi) .none kV_16 dc_16 pm_16 an_16 cd_16 ct_16),sl_16⟩) (c_16:PySem.W.codeIn K cd_16 "make_at"=true) (k_16:PySem.W.keepIn K (.ref f_16)=true)
  (a_make_pair:PySem.W.nsIn K mainGlobals "make_pair"=some (some (.ref f_1a))) (l_1a:K.lookup f_1a=some ⟨oc_1a,od_1a,.func (PySem.W.fnOf "make_pair" "make_pair" (zk xP) (zj xP) (zc xP) .none kV_1a dc_1a pm_1a an_1a cd_1a ct_1a),sl_1a⟩) (c_1a:PySem.W.codeIn K cd_1a "make_pair"=true) (k_1a:PySem.W.keepIn K (.ref f_1a)=true)
  (a_make_choice:PySem.W.nsIn K mainGlobals "make_choice"=some (some (.ref f_18))) (l_18:K.lookup f_18=some ⟨oc_18,od_18,.func (PySem.W.fnOf "make_choice" "make_choice" (zk y9) (zj y9) (zc y9) .none kV_18 dc_18 pm_18 an_18 cd_18 ct_18),sl_18⟩) (c_18:PySem.W.codeIn K cd_18 "make_choice"=true) (k_18:PySem.W.keepIn K (.ref f_18)=true)
  (a_make_call:PySem.W.nsIn K mainGlobals "make_call"=some (some (.ref f_17))) (l_17:K.lookup f_17=some ⟨oc_17,od_17,.func (PySem.W.fnOf "make_call" "make_call" (zk xQ) (zj xQ) (zc xQ) .none kV_17 dc_17 pm_17 an_17 cd_17 ct_17),sl_17⟩) (c_17:PySem.W.codeIn K cd_17 "make_call"=true) (k_17:PySem.W.keepIn K (.ref f_17)=true)
  (a_make_form:PySem.W.nsIn K mainGlobals "make_form"=some (some (.ref f_19))) (l_19:K.lookup f_19=some ⟨oc_19,od_19,.func (PySem.W.fnOf "make_form" "make_form" (zk xi) (zj xi) (zc xi) .none kV_19 dc_19 pm_19 an_19 cd_19 ct_19),sl_19⟩) (c_19:PySem.W.codeIn K cd_19 "make_form"=true) (k_19:PySem.W.keepIn K (.ref f_19)=true)
  (a_numbers_written:PySem.W.nsIn K mainGlobals "numbers_written"=some (some (.ref f_1k))) (l_1k:K.lookup f_1k=some ⟨oc_1k,od_1k,.func (PySem.W.fnOf "numbers_written" "numbers_written" (zk yf) (zj yf) (zc yf) .none kV_1k dc_1k pm_1k an_1k cd_1k ct_1k),sl_1k⟩) (c_1k:PySem.W.codeIn K cd_1k "numbers_written"=true) (k_1k:PySem.W.keepIn K (.ref f_1k)=true)
  (a_numbers_of_here:PySem.W.nsIn K mainGlobals "numbers_of_here"=some (some (.ref f_1h))) (l_1h:K.lookup f_1h=some ⟨oc_1h,od_1h,.func (PySem.W.fnOf "numbers_of_here" "numbers_of_here" (zk yh) (zj yh) (zc yh) .none kV_1h dc_1h pm_1h an_1h cd_1h ct_1h),sl_1h⟩) (c_1h:PySem.W.codeIn K cd_1h "numbers_of_here"=true) (k_1h:PySem.W.keepIn K (.ref f_1h)=true)
  (a_numbers_loaded:PySem.W.nsIn K mainGlobals "numbers_loaded"=some (some (.ref f_1g))) (l_1g:K.lookup f_1g=some ⟨oc_1g,od_1g,.func (PySem.W.fnOf "numbers_loaded" "numbers_loaded" (zk yo) (zj yo) (zc yo) .none kV_1g dc_1g pm_1g an_1g cd_1g ct_1g),sl_1g⟩) (c_1g:PySem.W.codeIn K cd_1g "numbers_loaded"=true) (k_1g:PySem.W.keepIn K (.ref f_1g)=true)
  (a_numbers_spread:PySem.W.nsIn K mainGlobals "numbers_spread"=some (some (.ref f_1j))) (l_1j:K.lookup f_1j=some ⟨oc_1j,od_1j,.func (PySem.W.fnOf "numbers_spread" "numbers_spread" (zk yn) (zj yn) (zc yn) .none kV_1j dc_1j pm_1j an_1j cd_1j ct_1j),sl_1j⟩) (c_1j:PySem.W.codeIn K cd_1j "numbers_spread"=true) (k_1j:PySem.W.keepIn K (.ref f_1j)=true)
  (a_number_shifted:PySem.W.nsIn K mainGlobals "number_shifted"=some (some (.ref f_1f))) (l_1f:K.lookup f_1f=some ⟨oc_1f,od_1f,.func (PySem.W.fnOf "number_shifted" "number_shifted" (zk yp) (zj yp) (zc yp) .none kV_1f dc_1f pm_1f an_1f cd_1f ct_1f),sl_1f⟩) (c_1f:PySem.W.codeIn K cd_1f "number_shifted"=true) (k_1f:PySem.W.keepIn K (.ref f_1f)=true)
  (a_numbers_shifted:PySem.W.nsIn K mainGlobals "numbers_shifted"=some (some (.ref f_1i))) (l_1i:K.lookup f_1i=some ⟨oc_1i,od_1i,.func (PySem.W.fnOf "numbers_shifted" "numbers_shifted" (zk yg) (zj yg) (zc yg) .none kV_1i dc_1i pm_1i an_1i cd_1i ct_1i),sl_1i⟩) (c_1i:PySem.W.codeIn K cd_1i "numbers_shifted"=true) (k_1i:PySem.W.keepIn K (.ref f_1i)=true)
  (a_lays_seat:PySem.W.nsIn K mainGlobals "lays_seat"=some (some (.ref f_13))) (l_13:K.lookup f_13=some ⟨oc_13,od_13,.func (PySem.W.fnOf "lays_seat" "lays_seat" (zk xk) (zj xk) (zc xk) .none kV_13 dc_13 pm_13 an_13 cd_13 ct_13),sl_13⟩) (c_13:PySem.W.codeIn K cd_13 "lays_seat"=true) (k_13:PySem.W.keepIn K (.ref f_13)=true)
  (a_play_seat_step:PySem.W.nsIn K mainGlobals "play_seat_step"=some (some (.ref f_1r))) (l_1r:K.lookup f_1r=some ⟨oc_1r,od_1r,.func (PySem.W.fnOf "play_seat_step" "play_seat_step" (zk ym) (zj ym) (zc ym) .none kV_1r dc_1r pm_1r an_1r cd_1r ct_1r),sl_1r⟩) (c_1r:PySem.W.codeIn K cd_1r "play_seat_step"=true) (k_1r:PySem.W.keepIn K (.ref f_1r)=true)
  (a_may_fault:PySem.W.nsIn K mainGlobals "may_fault"=some (some (.ref f_1e))) (l_1e:K.lookup f_1e=some ⟨oc_1e,od_1e,.func (PySem.W.fnOf "may_fault" "may_fault" (zk xg) (zj xg) (zc xg) .none kV_1e dc_1e pm_1e an_1e cd_1e ct_1e),sl_1e⟩) (c_1e:PySem.W.codeIn K cd_1e "may_fault"=true) (k_1e:PySem.W.keepIn K (.ref f_1e)=true)
  (a_group_for:PySem.W.nsIn K mainGlobals "group_for"=some (some (.ref f_r))) (l_r:K.lookup f_r=some ⟨oc_r,od_r,.func (PySem.W.fnOf "group_for" "group_for" (zk xp) (zj xp) (zc xp) .none kV_r dc_r pm_r an_r cd_r ct_r),sl_r⟩) (c_r:PySem.W.codeIn K cd_r "group_for"=true) (k_r:PySem.W.keepIn K (.ref f_r)=true)
  (a_make_test:PySem.W.nsIn K mainGlobals "make_test"=some (some (.ref f_1b))) (l_1b:K.lookup f_1b=some ⟨oc_1b,od_1b,.func (PySem.W.fnOf "make_test" "make_test" (zk xh) (zj xh) (zc xh) .none kV_1b dc_1b pm_1b an_1b cd_1b ct_1b),sl_1b⟩) (c_1b:PySem.W.codeIn K cd_1b "make_test"=true) (k_1b:PySem.W.keepIn K (.ref f_1b)=true)
  (a_make_value:PySem.W.nsIn K mainGlobals "make_value"=some (some (.ref f_1d))) (l_1d:K.lookup f_1d=some ⟨oc_1d,od_1d,.func (PySem.W.fnOf "make_value" "make_value" (zk yW) (zj yW) (zc yW) .none kV_1d dc_1d pm_1d an_1d cd_1d ct_1d),sl_1d⟩) (c_1d:PySem.W.codeIn K cd_1d "make_value"=true) (k_1d:PySem.W.keepIn K (.ref f_1d)=true)
  (a_round_of:PySem.W.nsIn K mainGlobals "round_of"=some (some (.ref f_1u))) (l_1u:K.lookup f_1u=some ⟨oc_1u,od_1u,.func (PySem.W.fnOf "round_of" "round_of" (zk xG) (zj xG) (zc xG) .none kV_1u dc_1u pm_1u an_1u cd_1u ct_1u),sl_1u⟩) (c_1u:PySem.W.codeIn K cd_1u "round_of"=true) (k_1u:PySem.W.keepIn K (.ref f_1u)=true)
  (a_turns_of:PySem.W.nsIn K mainGlobals "turns_of"=some (some (.ref f_20))) (l_20:K.lookup f_20=some ⟨oc_20,od_20,.func (PySem.W.fnOf "turns_of" "turns_of" (zk x5) (zj x5) (zc x5) .none kV_20 dc_20 pm_20 an_20 cd_20 ct_20),sl_20⟩) (c_20:PySem.W.codeIn K cd_20 "turns_of"=true) (k_20:PySem.W.keepIn K (.ref f_20)=true)
  (a_code_of:PySem.W.nsIn K mainGlobals "code_of"=some (some (.ref f_p))) (l_p:K.lookup f_p=some ⟨oc_p,od_p,.func (PySem.W.fnOf "code_of" "code_of" (zk xX) (zj xX) (zc xX) .none kV_p dc_p pm_p an_p cd_p ct_p),sl_p⟩) (c_p:PySem.W.codeIn K cd_p "code_of"=true) (k_p:PySem.W.keepIn K (.ref f_p)=true)
  (a_made:PySem.W.nsIn K mainGlobals "made"=some (some (.ref f_15))) (l_15:K.lookup f_15=some ⟨oc_15,od_15,.func (PySem.W.fnOf "made" "made" (zk Ye) (zj Ye) (zc Ye) (.ref T_15) kV_15 dc_15 pm_15 an_15 cd_15 ct_15),sl_15⟩) (c_15:PySem.W.codeIn K cd_15 "made"=true) (k_15:PySem.W.keepIn K (.ref f_15)=true) (lT_15:K.lookup T_15=some ⟨ocT_15,odT_15,.seq #[.int 0 tD_made] nT_15,slT_15⟩)
  (a_lay_chosen:PySem.W.nsIn K mainGlobals "lay_chosen"=some (some (.ref f_12))) (l_12:K.lookup f_12=some ⟨oc_12,od_12,.func (PySem.W.fnOf "lay_chosen" "lay_chosen" (zk yX) (zj yX) (zc yX) .none kV_12 dc_12 pm_12 an_12 cd_12 ct_12),sl_12⟩) (c_12:PySem.W.codeIn K cd_12 "lay_chosen"=true) (k_12:PySem.W.keepIn K (.ref f_12)=true)
  (a_play_choose:PySem.W.nsIn K mainGlobals "play_choose"=some (some (.ref f_1n))) (l_1n:K.lookup f_1n=some ⟨oc_1n,od_1n,.func (PySem.W.fnOf "play_choose" "play_choose" (zk yJ) (zj yJ) (zc yJ) .none kV_1n dc_1n pm_1n an_1n cd_1n ct_1n),sl_1n⟩) (c_1n:PySem.W.codeIn K cd_1n "play_choose"=true) (k_1n:PySem.W.keepIn K (.ref f_1n)=true)
  (a_play_other:PySem.W.nsIn K mainGlobals "play_other"=some (some (.ref f_1q))) (l_1q:K.lookup f_1q=some ⟨oc_1q,od_1q,.func (PySem.W.fnOf "play_other" "play_other" (zk yU) (zj yU) (zc yU) .none kV_1q dc_1q pm_1q an_1q cd_1q ct_1q),sl_1q⟩) (c_1q:PySem.W.codeIn K cd_1q "play_other"=true) (k_1q:PySem.W.keepIn K (.ref f_1q)=true)
  (a_play_store:PySem.W.nsIn K mainGlobals "play_store"=some (some (.ref f_1s))) (l_1s:K.lookup f_1s=some ⟨oc_1s,od_1s,.func (PySem.W.fnOf "play_store" "play_store" (zk yT) (zj yT) (zc yT) .none kV_1s dc_1s pm_1s an_1s cd_1s ct_1s),sl_1s⟩) (c_1s:PySem.W.codeIn K cd_1s "play_store"=true) (k_1s:PySem.W.keepIn K (.ref f_1s)=true)
  (a_has_effect:PySem.W.nsIn K mainGlobals "has_effect"=some (some (.ref f_s))) (l_s:K.lookup f_s=some ⟨oc_s,od_s,.func (PySem.W.fnOf "has_effect" "has_effect" (zk yY) (zj yY) (zc yY) .none kV_s dc_s pm_s an_s cd_s ct_s),sl_s⟩) (c_s:PySem.W.codeIn K cd_s "has_effect"=true) (k_s:PySem.W.keepIn K (.ref f_s)=true)
  (a_play_effect:PySem.W.nsIn K mainGlobals "play_effect"=some (some (.ref f_1o))) (l_1o:K.lookup f_1o=some ⟨oc_1o,od_1o,.func (PySem.W.fnOf "play_effect" "play_effect" (zk yI) (zj yI) (zc yI) .none kV_1o dc_1o pm_1o an_1o cd_1o ct_1o),sl_1o⟩) (c_1o:PySem.W.codeIn K cd_1o "play_effect"=true) (k_1o:PySem.W.keepIn K (.ref f_1o)=true)
  (a_play_begin:PySem.W.nsIn K mainGlobals "play_begin"=some (some (.ref f_1m))) (l_1m:K.lookup f_1m=some ⟨oc_1m,od_1m,.func (PySem.W.fnOf "play_begin" "play_begin" (zk yV) (zj yV) (zc yV) .none kV_1m dc_1m pm_1m an_1m cd_1m ct_1m),sl_1m⟩) (c_1m:PySem.W.codeIn K cd_1m "play_begin"=true) (k_1m:PySem.W.keepIn K (.ref f_1m)=true)
  (a_play_next:PySem.W.nsIn K mainGlobals "play_next"=some (some (.ref f_1p))) (l_1p:K.lookup f_1p=some ⟨oc_1p,od_1p,.func (PySem.W.fnOf "play_next" "play_next" (zk xf) (zj xf) (zc xf) .none kV_1p dc_1p pm_1p an_1p cd_1p ct_1p),sl_1p⟩) (c_1p:PySem.W.codeIn K cd_1p "play_next"=true) (k_1p:PySem.W.keepIn K (.ref f_1p)=true)
  (a_place_behind:PySem.W.nsIn K mainGlobals "place_behind"=some (some (.ref f_1l))) (l_1l:K.lookup f_1l=some ⟨oc_1l,od_1l,.func (PySem.W.fnOf "place_behind" "place_behind" (zk yC) (zj yC) (zc yC) .none kV_1l dc_1l pm_1l an_1l cd_1l ct_1l),sl_1l⟩) (c_1l:PySem.W.codeIn K cd_1l "place_behind"=true) (k_1l:PySem.W.keepIn K (.ref f_1l)=true)
  (a_ran:PySem.W.nsIn K mainGlobals "ran"=some (some (.ref f_1t))) (l_1t:K.lookup f_1t=some ⟨oc_1t,od_1t,.func (PySem.W.fnOf "ran" "ran" (zk XB) (zj XB) (zc XB) .none kV_1t dc_1t pm_1t an_1t cd_1t ct_1t),sl_1t⟩) (c_1t:PySem.W.codeIn K cd_1t "ran"=true) (k_1t:PySem.W.keepIn K (.ref f_1t)=true)
  (a_l_whole:PySem.W.nsIn K mainGlobals "_law_whole"=some (some (.ref f_10))) (l_10:K.lookup f_10=some ⟨oc_10,od_10,.func (PySem.W.fnOf "_law_whole" "_law_whole" (zk xV) (zj xV) (zc xV) .none kV_10 dc_10 pm_10 an_10 cd_10 ct_10),sl_10⟩) (c_10:PySem.W.codeIn K cd_10 "_law_whole"=true) (k_10:PySem.W.keepIn K (.ref f_10)=true)
  (a_l_cell_at:PySem.W.nsIn K mainGlobals "_law_cell_at"=some (some (.ref f_t))) (l_t:K.lookup f_t=some ⟨oc_t,od_t,.func (PySem.W.fnOf "_law_cell_at" "_law_cell_at" (zk xo) (zj xo) (zc xo) .none kV_t dc_t pm_t an_t cd_t ct_t),sl_t⟩) (c_t:PySem.W.codeIn K cd_t "_law_cell_at"=true) (k_t:PySem.W.keepIn K (.ref f_t)=true)
  (a_l_kept_by:PySem.W.nsIn K mainGlobals "_law_kept_by"=some (some (.ref f_v))) (l_v:K.lookup f_v=some ⟨oc_v,od_v,.func (PySem.W.fnOf "_law_kept_by" "_law_kept_by" (zk xm) (zj xm) (zc xm) .none kV_v dc_v pm_v an_v cd_v ct_v),sl_v⟩) (c_v:PySem.W.codeIn K cd_v "_law_kept_by"=true) (k_v:PySem.W.keepIn K (.ref f_v)=true)
  (a_l_some:PySem.W.nsIn K mainGlobals "_law_some"=some (some (.ref f_y))) (l_y:K.lookup f_y=some ⟨oc_y,od_y,.func (PySem.W.fnOf "_law_some" "_law_some" (zk Zk) (zj Zk) (zc Zk) .none kV_y dc_y pm_y an_y cd_y ct_y),sl_y⟩) (c_y:PySem.W.codeIn K cd_y "_law_some"=true) (k_y:PySem.W.keepIn K (.ref f_y)=true)
  (a_l_told:PySem.W.nsIn K mainGlobals "_law_told"=some (some (.ref f_z))) (l_z:K.lookup f_z=some ⟨oc_z,od_z,.func (PySem.W.fnOf "_law_told" "_law_told" (zk Zj) (zj Zj) (zc Zj) .none kV_z dc_z pm_z an_z cd_z ct_z),sl_z⟩) (c_z:PySem.W.codeIn K cd_z "_law_told"=true) (k_z:PySem.W.keepIn K (.ref f_z)=true)
  (a_l_leaf:PySem.W.nsIn K mainGlobals "_law_leaf"=some (some (.ref f_x))) (l_x:K.lookup f_x=some ⟨oc_x,od_x,.func (PySem.W.fnOf "_law_leaf" "_law_leaf" (zk Zl) (zj Zl) (zc Zl) .none kV_x dc_x pm_x an_x cd_x ct_x),sl_x⟩) (c_x:PySem.W.codeIn K cd_x "_law_leaf"=true) (k_x:PySem.W.keepIn K (.ref f_x)=true)
  (a_l_due:PySem.W.nsIn K mainGlobals "_law_due"=some (some (.ref f_u))) (l_u:K.lookup f_u=some ⟨oc_u,od_u,.func (PySem.W.fnOf "_law_due" "_law_due" (zk ZI) (zj ZI) (zc ZI) .none kV_u dc_u pm_u an_u cd_u ct_u),sl_u⟩) (c_u:PySem.W.codeIn K cd_u "_law_due"=true) (k_u:PySem.W.keepIn K (.ref f_u)=true)
  (a_l_lanes:PySem.W.nsIn K mainGlobals "_law_lanes"=some (some (.ref f_w))) (l_w:K.lookup f_w=some ⟨oc_w,od_w,.func (PySem.W.fnOf "_law_lanes" "_law_lanes" (zk xW) (zj xW) (zc xW) .none kV_w dc_w pm_w an_w cd_w ct_w),sl_w⟩) (c_w:PySem.W.codeIn K cd_w "_law_lanes"=true) (k_w:PySem.W.keepIn K (.ref f_w)=true)
  (a_law:PySem.W.nsIn K mainGlobals "law"=some (some (.ref f_11))) (l_11:K.lookup f_11=some ⟨oc_11,od_11,.func (PySem.W.fnOf "law" "law" (zk Z6) (zj Z6) (zc Z6) .none kV_11 dc_11 pm_11 an_11 cd_11 ct_11),sl_11⟩) (c_11:PySem.W.codeIn K cd_11 "law"=true) (k_11:PySem.W.keepIn K (.ref f_11)=true)
  (a_C_Boxes:PySem.W.nsIn K mainGlobals "Boxes"=some (some (.ref C_Boxes))) (c1_C_Boxes:PySem.W.plainGet K C_Boxes Str.empty=true) (c2_C_Boxes:PySem.W.hasDictIn K C_Boxes=true) (c3_C_Boxes:PySem.W.plainOver K C_Boxes=true) (c4_C_Boxes:PySem.W.findIn K (.ref C_Boxes) "__setattr__"=some (some (.builtin "object.__setattr__")))
  (n_C_Boxes_lanes:PySem.W.findIn K (.ref C_Boxes) "lanes"=some none)
  (n_C_Boxes_numbers:PySem.W.findIn K (.ref C_Boxes) "numbers"=some none)
  (mk_C_Boxes:PySem.W.makesIn K C_Boxes=true) (kC_C_Boxes:PySem.W.keepIn K (.ref C_Boxes)=true)
  (at_b:PySem.W.findIn K (.ref C_Boxes) "__init__"=some (some (.ref f_b))) (fn_b:PySem.W.isFn K (.ref f_b)=true) (l_b:K.lookup f_b=some ⟨oc_b,od_b,.func (PySem.W.fnOf "__init__" "Boxes.__init__" (zk y3) (zj y3) (zc y3) .none kV_b dc_b pm_b an_b cd_b ct_b),sl_b⟩) (c_b:PySem.W.codeIn K cd_b "Boxes.__init__"=true) (k_b:PySem.W.keepIn K (.ref f_b)=true)
  (at_e:PySem.W.findIn K (.ref C_Boxes) "spot_of"=some (some (.ref f_e))) (fn_e:PySem.W.isFn K (.ref f_e)=true) (l_e:K.lookup f_e=some ⟨oc_e,od_e,.func (PySem.W.fnOf "spot_of" "Boxes.spot_of" (zk yu) (zj yu) (zc yu) .none kV_e dc_e pm_e an_e cd_e ct_e),sl_e⟩) (c_e:PySem.W.codeIn K cd_e "Boxes.spot_of"=true) (k_e:PySem.W.keepIn K (.ref f_e)=true)
  (at_c:PySem.W.findIn K (.ref C_Boxes) "lay"=some (some (.ref f_c))) (fn_c:PySem.W.isFn K (.ref f_c)=true) (l_c:K.lookup f_c=some ⟨oc_c,od_c,.func (PySem.W.fnOf "lay" "Boxes.lay" (zk xu) (zj xu) (zc xu) .none kV_c dc_c pm_c an_c cd_c ct_c),sl_c⟩) (c_c:PySem.W.codeIn K cd_c "Boxes.lay"=true) (k_c:PySem.W.keepIn K (.ref f_c)=true)
  (at_d:PySem.W.findIn K (.ref C_Boxes) "number_at"=some (some (.ref f_d))) (fn_d:PySem.W.isFn K (.ref f_d)=true) (l_d:K.lookup f_d=some ⟨oc_d,od_d,.func (PySem.W.fnOf "number_at" "Boxes.number_at" (zk yi) (zj yi) (zc yi) .none kV_d dc_d pm_d an_d cd_d ct_d),sl_d⟩) (c_d:PySem.W.codeIn K cd_d "Boxes.number_at"=true) (k_d:PySem.W.keepIn K (.ref f_d)=true)
  (a_C_Feed:PySem.W.nsIn K mainGlobals "Feed"=some (some (.ref C_Feed))) (c1_C_Feed:PySem.W.plainGet K C_Feed Str.empty=true) (c2_C_Feed:PySem.W.hasDictIn K C_Feed=true) (c3_C_Feed:PySem.W.plainOver K C_Feed=true) (c4_C_Feed:PySem.W.findIn K (.ref C_Feed) "__setattr__"=some (some (.builtin "object.__setattr__")))
  (n_C_Feed_numbers:PySem.W.findIn K (.ref C_Feed) "numbers"=some none)
  (n_C_Feed_at:PySem.W.findIn K (.ref C_Feed) "at"=some none)
  (mk_C_Feed:PySem.W.makesIn K C_Feed=true) (kC_C_Feed:PySem.W.keepIn K (.ref C_Feed)=true)
  (at_g:PySem.W.findIn K (.ref C_Feed) "__init__"=some (some (.ref f_g))) (fn_g:PySem.W.isFn K (.ref f_g)=true) (l_g:K.lookup f_g=some ⟨oc_g,od_g,.func (PySem.W.fnOf "__init__" "Feed.__init__" (zk xr) (zj xr) (zc xr) .none kV_g dc_g pm_g an_g cd_g ct_g),sl_g⟩) (c_g:PySem.W.codeIn K cd_g "Feed.__init__"=true) (k_g:PySem.W.keepIn K (.ref f_g)=true)
  (at_h:PySem.W.findIn K (.ref C_Feed) "taken"=some (some (.ref f_h))) (fn_h:PySem.W.isFn K (.ref f_h)=true) (l_h:K.lookup f_h=some ⟨oc_h,od_h,.func (PySem.W.fnOf "taken" "Feed.taken" (zk y0) (zj y0) (zc y0) .none kV_h dc_h pm_h an_h cd_h ct_h),sl_h⟩) (c_h:PySem.W.codeIn K cd_h "Feed.taken"=true) (k_h:PySem.W.keepIn K (.ref f_h)=true)
  (a_C_Bench:PySem.W.nsIn K mainGlobals "Bench"=some (some (.ref C_Bench))) (c1_C_Bench:PySem.W.plainGet K C_Bench Str.empty=true) (c2_C_Bench:PySem.W.hasDictIn K C_Bench=true) (c3_C_Bench:PySem.W.plainOver K C_Bench=true) (c4_C_Bench:PySem.W.findIn K (.ref C_Bench) "__setattr__"=some (some (.builtin "object.__setattr__")))
  (n_C_Bench_lengths:PySem.W.findIn K (.ref C_Bench) "lengths"=some none)
  (n_C_Bench_starts:PySem.W.findIn K (.ref C_Bench) "starts"=some none)
  (n_C_Bench_cells:PySem.W.findIn K (.ref C_Bench) "cells"=some none)
  (n_C_Bench_lanes:PySem.W.findIn K (.ref C_Bench) "lanes"=some none)
  (n_C_Bench_boxes:PySem.W.findIn K (.ref C_Bench) "boxes"=some none)
  (n_C_Bench_masks:PySem.W.findIn K (.ref C_Bench) "masks"=some none)
  (n_C_Bench_slots:PySem.W.findIn K (.ref C_Bench) "slots"=some none)
  (n_C_Bench_dust:PySem.W.findIn K (.ref C_Bench) "dust"=some none)
  (n_C_Bench_picks:PySem.W.findIn K (.ref C_Bench) "picks"=some none)
  (n_C_Bench_touches:PySem.W.findIn K (.ref C_Bench) "touches"=some none)
  (n_C_Bench_at:PySem.W.findIn K (.ref C_Bench) "at"=some none)
  (n_C_Bench_opened:PySem.W.findIn K (.ref C_Bench) "opened"=some none)
  (n_C_Bench_many:PySem.W.findIn K (.ref C_Bench) "many"=some none)
  (n_C_Bench_group:PySem.W.findIn K (.ref C_Bench) "group"=some none)
  (n_C_Bench_base:PySem.W.findIn K (.ref C_Bench) "base"=some none)
  (n_C_Bench_begun:PySem.W.findIn K (.ref C_Bench) "begun"=some none)
  (n_C_Bench_width:PySem.W.findIn K (.ref C_Bench) "width"=some none)
  (n_C_Bench_faults:PySem.W.findIn K (.ref C_Bench) "faults"=some none)
  (n_C_Bench_cut:PySem.W.findIn K (.ref C_Bench) "cut"=some none)
  (n_C_Bench_carried:PySem.W.findIn K (.ref C_Bench) "carried"=some none)
  (n_C_Bench_raised:PySem.W.findIn K (.ref C_Bench) "raised"=some none)
  (n_C_Bench_turns:PySem.W.findIn K (.ref C_Bench) "turns"=some none)
  (n_C_Bench_refusal:PySem.W.findIn K (.ref C_Bench) "refusal"=some none)
  (mk_C_Bench:PySem.W.makesIn K C_Bench=true) (kC_C_Bench:PySem.W.keepIn K (.ref C_Bench)=true)
  (at_3:PySem.W.findIn K (.ref C_Bench) "__init__"=some (some (.ref f_3))) (fn_3:PySem.W.isFn K (.ref f_3)=true) (l_3:K.lookup f_3=some ⟨oc_3,od_3,.func (PySem.W.fnOf "__init__" "Bench.__init__" (zk y4) (zj y4) (zc y4) .none kV_3 dc_3 pm_3 an_3 cd_3 ct_3),sl_3⟩) (c_3:PySem.W.codeIn K cd_3 "Bench.__init__"=true) (k_3:PySem.W.keepIn K (.ref f_3)=true)
  (at_7:PySem.W.findIn K (.ref C_Bench) "open_round"=some (some (.ref f_7))) (fn_7:PySem.W.isFn K (.ref f_7)=true) (l_7:K.lookup f_7=some ⟨oc_7,od_7,.func (PySem.W.fnOf "open_round" "Bench.open_round" (zk ya) (zj ya) (zc ya) .none kV_7 dc_7 pm_7 an_7 cd_7 ct_7),sl_7⟩) (c_7:PySem.W.codeIn K cd_7 "Bench.open_round"=true) (k_7:PySem.W.keepIn K (.ref f_7)=true)
  (at_2:PySem.W.findIn K (.ref C_Bench) "begin_strip"=some (some (.ref f_2))) (fn_2:PySem.W.isFn K (.ref f_2)=true) (l_2:K.lookup f_2=some ⟨oc_2,od_2,.func (PySem.W.fnOf "begin_strip" "Bench.begin_strip" (zk z6) (zj z6) (zc z6) .none kV_2 dc_2 pm_2 an_2 cd_2 ct_2),sl_2⟩) (c_2:PySem.W.codeIn K cd_2 "Bench.begin_strip"=true) (k_2:PySem.W.keepIn K (.ref f_2)=true)
  (at_1:PySem.W.findIn K (.ref C_Bench) "active_under"=some (some (.ref f_1))) (fn_1:PySem.W.isFn K (.ref f_1)=true) (l_1:K.lookup f_1=some ⟨oc_1,od_1,.func (PySem.W.fnOf "active_under" "Bench.active_under" (zk zV) (zj zV) (zc zV) .none kV_1 dc_1 pm_1 an_1 cd_1 ct_1),sl_1⟩) (c_1:PySem.W.codeIn K cd_1 "Bench.active_under"=true) (k_1:PySem.W.keepIn K (.ref f_1)=true)
  (at_6:PySem.W.findIn K (.ref C_Bench) "numbers_in"=some (some (.ref f_6))) (fn_6:PySem.W.isFn K (.ref f_6)=true) (l_6:K.lookup f_6=some ⟨oc_6,od_6,.func (PySem.W.fnOf "numbers_in" "Bench.numbers_in" (zk yb) (zj yb) (zc yb) .none kV_6 dc_6 pm_6 an_6 cd_6 ct_6),sl_6⟩) (c_6:PySem.W.codeIn K cd_6 "Bench.numbers_in"=true) (k_6:PySem.W.keepIn K (.ref f_6)=true)
  (at_5:PySem.W.findIn K (.ref C_Bench) "lay_seat"=some (some (.ref f_5))) (fn_5:PySem.W.isFn K (.ref f_5)=true) (l_5:K.lookup f_5=some ⟨oc_5,od_5,.func (PySem.W.fnOf "lay_seat" "Bench.lay_seat" (zk yq) (zj yq) (zc yq) .none kV_5 dc_5 pm_5 an_5 cd_5 ct_5),sl_5⟩) (c_5:PySem.W.codeIn K cd_5 "Bench.lay_seat"=true) (k_5:PySem.W.keepIn K (.ref f_5)=true)
  (at_4:PySem.W.findIn K (.ref C_Bench) "lay_mask"=some (some (.ref f_4))) (fn_4:PySem.W.isFn K (.ref f_4)=true) (l_4:K.lookup f_4=some ⟨oc_4,od_4,.func (PySem.W.fnOf "lay_mask" "Bench.lay_mask" (zk yr) (zj yr) (zc yr) .none kV_4 dc_4 pm_4 an_4 cd_4 ct_4),sl_4⟩) (c_4:PySem.W.codeIn K cd_4 "Bench.lay_mask"=true) (k_4:PySem.W.keepIn K (.ref f_4)=true)
  (at_9:PySem.W.findIn K (.ref C_Bench) "touch"=some (some (.ref f_9))) (fn_9:PySem.W.isFn K (.ref f_9)=true) (l_9:K.lookup f_9=some ⟨oc_9,od_9,.func (PySem.W.fnOf "touch" "Bench.touch" (zk yM) (zj yM) (zc yM) .none kV_9 dc_9 pm_9 an_9 cd_9 ct_9),sl_9⟩) (c_9:PySem.W.codeIn K cd_9 "Bench.touch"=true) (k_9:PySem.W.keepIn K (.ref f_9)=true)
  (at_8:PySem.W.findIn K (.ref C_Bench) "read_cell"=some (some (.ref f_8))) (fn_8:PySem.W.isFn K (.ref f_8)=true) (l_8:K.lookup f_8=some ⟨oc_8,od_8,.func (PySem.W.fnOf "read_cell" "Bench.read_cell" (zk yj) (zj yj) (zc yj) .none kV_8 dc_8 pm_8 an_8 cd_8 ct_8),sl_8⟩) (c_8:PySem.W.codeIn K cd_8 "Bench.read_cell"=true) (k_8:PySem.W.keepIn K (.ref f_8)=true)
  (at_a:PySem.W.findIn K (.ref C_Bench) "write_cell"=some (some (.ref f_a))) (fn_a:PySem.W.isFn K (.ref f_a)=true) (l_a:K.lookup f_a=some ⟨oc_a,od_a,.func (PySem.W.fnOf "write_cell" "Bench.write_cell" (zk z9) (zj z9) (zc z9) .none kV_a dc_a pm_a an_a cd_a ct_a),sl_a⟩) (c_a:PySem.W.codeIn K cd_a "Bench.write_cell"=true) (k_a:PySem.W.keepIn K (.ref f_a)=true)
  (a_C_Number:PySem.W.nsIn K mainGlobals "Number"=some (some (.ref C_Number))) (c1_C_Number:PySem.W.plainGet K C_Number Str.empty=true) (c2_C_Number:PySem.W.hasDictIn K C_Number=true) (c3_C_Number:PySem.W.plainOver K C_Number=true) (c4_C_Number:PySem.W.findIn K (.ref C_Number) "__setattr__"=some (some (.builtin "object.__setattr__")))
  (n_C_Number_number:PySem.W.findIn K (.ref C_Number) "number"=some none)
  (mk_C_Number:PySem.W.makesIn K C_Number=true) (kC_C_Number:PySem.W.keepIn K (.ref C_Number)=true)
  (at_l:PySem.W.findIn K (.ref C_Number) "__init__"=some (some (.ref f_l))) (fn_l:PySem.W.isFn K (.ref f_l)=true) (l_l:K.lookup f_l=some ⟨oc_l,od_l,.func (PySem.W.fnOf "__init__" "Number.__init__" (zk yK) (zj yK) (zc yK) .none kV_l dc_l pm_l an_l cd_l ct_l),sl_l⟩) (c_l:PySem.W.codeIn K cd_l "Number.__init__"=true) (k_l:PySem.W.keepIn K (.ref f_l)=true)
  (a_C_Here:PySem.W.nsIn K mainGlobals "Here"=some (some (.ref C_Here))) (c1_C_Here:PySem.W.plainGet K C_Here Str.empty=true) (c2_C_Here:PySem.W.hasDictIn K C_Here=true) (c3_C_Here:PySem.W.plainOver K C_Here=true) (c4_C_Here:PySem.W.findIn K (.ref C_Here) "__setattr__"=some (some (.builtin "object.__setattr__")))
  (mk_C_Here:PySem.W.makesIn K C_Here=true) (kC_C_Here:PySem.W.keepIn K (.ref C_Here)=true) (in_C_Here:PySem.W.findIn K (.ref C_Here) "__init__"=some (some (.builtin "object.__init__")))
  (a_C_Cell:PySem.W.nsIn K mainGlobals "Cell"=some (some (.ref C_Cell))) (c1_C_Cell:PySem.W.plainGet K C_Cell Str.empty=true) (c2_C_Cell:PySem.W.hasDictIn K C_Cell=true) (c3_C_Cell:PySem.W.plainOver K C_Cell=true) (c4_C_Cell:PySem.W.findIn K (.ref C_Cell) "__setattr__"=some (some (.builtin "object.__setattr__")))
  (n_C_Cell_row:PySem.W.findIn K (.ref C_Cell) "row"=some none)
  (mk_C_Cell:PySem.W.makesIn K C_Cell=true) (kC_C_Cell:PySem.W.keepIn K (.ref C_Cell)=true)
  (at_f:PySem.W.findIn K (.ref C_Cell) "__init__"=some (some (.ref f_f))) (fn_f:PySem.W.isFn K (.ref f_f)=true) (l_f:K.lookup f_f=some ⟨oc_f,od_f,.func (PySem.W.fnOf "__init__" "Cell.__init__" (zk xt) (zj xt) (zc xt) .none kV_f dc_f pm_f an_f cd_f ct_f),sl_f⟩) (c_f:PySem.W.codeIn K cd_f "Cell.__init__"=true) (k_f:PySem.W.keepIn K (.ref f_f)=true)
  (a_C_Shifted:PySem.W.nsIn K mainGlobals "Shifted"=some (some (.ref C_Shifted))) (c1_C_Shifted:PySem.W.plainGet K C_Shifted Str.empty=true) (c2_C_Shifted:PySem.W.hasDictIn K C_Shifted=true) (c3_C_Shifted:PySem.W.plainOver K C_Shifted=true) (c4_C_Shifted:PySem.W.findIn K (.ref C_Shifted) "__setattr__"=some (some (.builtin "object.__setattr__")))
  (n_C_Shifted_row:PySem.W.findIn K (.ref C_Shifted) "row"=some none)
  (n_C_Shifted_by:PySem.W.findIn K (.ref C_Shifted) "by"=some none)
  (n_C_Shifted_other:PySem.W.findIn K (.ref C_Shifted) "other"=some none)
  (mk_C_Shifted:PySem.W.makesIn K C_Shifted=true) (kC_C_Shifted:PySem.W.keepIn K (.ref C_Shifted)=true)
  (at_n:PySem.W.findIn K (.ref C_Shifted) "__init__"=some (some (.ref f_n))) (fn_n:PySem.W.isFn K (.ref f_n)=true) (l_n:K.lookup f_n=some ⟨oc_n,od_n,.func (PySem.W.fnOf "__init__" "Shifted.__init__" (zk yD) (zj yD) (zc yD) .none kV_n dc_n pm_n an_n cd_n ct_n),sl_n⟩) (c_n:PySem.W.codeIn K cd_n "Shifted.__init__"=true) (k_n:PySem.W.keepIn K (.ref f_n)=true)
  (a_C_Let:PySem.W.nsIn K mainGlobals "Let"=some (some (.ref C_Let))) (c1_C_Let:PySem.W.plainGet K C_Let Str.empty=true) (c2_C_Let:PySem.W.hasDictIn K C_Let=true) (c3_C_Let:PySem.W.plainOver K C_Let=true) (c4_C_Let:PySem.W.findIn K (.ref C_Let) "__setattr__"=some (some (.builtin "object.__setattr__")))
  (n_C_Let_target:PySem.W.findIn K (.ref C_Let) "target"=some none)
  (n_C_Let_value:PySem.W.findIn K (.ref C_Let) "value"=some none)
  (n_C_Let_test:PySem.W.findIn K (.ref C_Let) "test"=some none)
  (mk_C_Let:PySem.W.makesIn K C_Let=true) (kC_C_Let:PySem.W.keepIn K (.ref C_Let)=true)
  (at_i:PySem.W.findIn K (.ref C_Let) "__init__"=some (some (.ref f_i))) (fn_i:PySem.W.isFn K (.ref f_i)=true) (l_i:K.lookup f_i=some ⟨oc_i,od_i,.func (PySem.W.fnOf "__init__" "Let.__init__" (zk xI) (zj xI) (zc xI) (.ref T_i) kV_i dc_i pm_i an_i cd_i ct_i),sl_i⟩) (c_i:PySem.W.codeIn K cd_i "Let.__init__"=true) (k_i:PySem.W.keepIn K (.ref f_i)=true)
  (lT_i:K.lookup T_i=some ⟨ocT_i,odT_i,.seq #[.none] nT_i,slT_i⟩)
  (at_j:PySem.W.findIn K (.ref C_Let) "many_of"=some (some (.ref f_j))) (fn_j:PySem.W.isFn K (.ref f_j)=true) (l_j:K.lookup f_j=some ⟨oc_j,od_j,.func (PySem.W.fnOf "many_of" "Let.many_of" (zk yL) (zj yL) (zc yL) .none kV_j dc_j pm_j an_j cd_j ct_j),sl_j⟩) (c_j:PySem.W.codeIn K cd_j "Let.many_of"=true) (k_j:PySem.W.keepIn K (.ref f_j)=true)
  (a_C_Program:PySem.W.nsIn K mainGlobals "Program"=some (some (.ref C_Program))) (c1_C_Program:PySem.W.plainGet K C_Program Str.empty=true) (c2_C_Program:PySem.W.hasDictIn K C_Program=true) (c3_C_Program:PySem.W.plainOver K C_Program=true) (c4_C_Program:PySem.W.findIn K (.ref C_Program) "__setattr__"=some (some (.builtin "object.__setattr__")))
  (n_C_Program_lengths:PySem.W.findIn K (.ref C_Program) "lengths"=some none)
  (n_C_Program_functions:PySem.W.findIn K (.ref C_Program) "functions"=some none)
  (n_C_Program_steps:PySem.W.findIn K (.ref C_Program) "steps"=some none)
  (mk_C_Program:PySem.W.makesIn K C_Program=true) (kC_C_Program:PySem.W.keepIn K (.ref C_Program)=true)
  (at_m:PySem.W.findIn K (.ref C_Program) "__init__"=some (some (.ref f_m))) (fn_m:PySem.W.isFn K (.ref f_m)=true) (l_m:K.lookup f_m=some ⟨oc_m,od_m,.func (PySem.W.fnOf "__init__" "Program.__init__" (zk yE) (zj yE) (zc yE) .none kV_m dc_m pm_m an_m cd_m ct_m),sl_m⟩) (c_m:PySem.W.codeIn K cd_m "Program.__init__"=true) (k_m:PySem.W.keepIn K (.ref f_m)=true)
  (a_C_Maker:PySem.W.nsIn K mainGlobals "Maker"=some (some (.ref C_Maker))) (c1_C_Maker:PySem.W.plainGet K C_Maker Str.empty=true) (c2_C_Maker:PySem.W.hasDictIn K C_Maker=true) (c3_C_Maker:PySem.W.plainOver K C_Maker=true) (c4_C_Maker:PySem.W.findIn K (.ref C_Maker) "__setattr__"=some (some (.builtin "object.__setattr__")))
  (n_C_Maker_lengths:PySem.W.findIn K (.ref C_Maker) "lengths"=some none)
  (n_C_Maker_functions:PySem.W.findIn K (.ref C_Maker) "functions"=some none)
  (n_C_Maker_seats:PySem.W.findIn K (.ref C_Maker) "seats"=some none)
  (n_C_Maker_code:PySem.W.findIn K (.ref C_Maker) "code"=some none)
  (n_C_Maker_free_slot:PySem.W.findIn K (.ref C_Maker) "free_slot"=some none)
  (mk_C_Maker:PySem.W.makesIn K C_Maker=true) (kC_C_Maker:PySem.W.keepIn K (.ref C_Maker)=true)
  (at_k:PySem.W.findIn K (.ref C_Maker) "__init__"=some (some (.ref f_k))) (fn_k:PySem.W.isFn K (.ref f_k)=true) (l_k:K.lookup f_k=some ⟨oc_k,od_k,.func (PySem.W.fnOf "__init__" "Maker.__init__" (zk yZ) (zj yZ) (zc yZ) .none kV_k dc_k pm_k an_k cd_k ct_k),sl_k⟩) (c_k:PySem.W.codeIn K cd_k "Maker.__init__"=true) (k_k:PySem.W.keepIn K (.ref f_k)=true)
  (a_C_Aim:PySem.W.nsIn K mainGlobals "Aim"=some (some (.ref C_Aim))) (c1_C_Aim:PySem.W.plainGet K C_Aim Str.empty=true) (c2_C_Aim:PySem.W.hasDictIn K C_Aim=true) (c3_C_Aim:PySem.W.plainOver K C_Aim=true) (c4_C_Aim:PySem.W.findIn K (.ref C_Aim) "__setattr__"=some (some (.builtin "object.__setattr__")))
  (n_C_Aim_seat:PySem.W.findIn K (.ref C_Aim) "seat"=some none)
  (n_C_Aim_mask:PySem.W.findIn K (.ref C_Aim) "mask"=some none)
  (n_C_Aim_level:PySem.W.findIn K (.ref C_Aim) "level"=some none)
  (n_C_Aim_own:PySem.W.findIn K (.ref C_Aim) "own"=some none)
  (mk_C_Aim:PySem.W.makesIn K C_Aim=true) (kC_C_Aim:PySem.W.keepIn K (.ref C_Aim)=true)
  (at_0:PySem.W.findIn K (.ref C_Aim) "__init__"=some (some (.ref f_0))) (fn_0:PySem.W.isFn K (.ref f_0)=true) (l_0:K.lookup f_0=some ⟨oc_0,od_0,.func (PySem.W.fnOf "__init__" "Aim.__init__" (zk xJ) (zj xJ) (zc xJ) .none kV_0 dc_0 pm_0 an_0 cd_0 ct_0),sl_0⟩) (c_0:PySem.W.codeIn K cd_0 "Aim.__init__"=true) (k_0:PySem.W.keepIn K (.ref f_0)=true)
  (aS:PySem.W.nsIn K mainGlobals "SEAT_STEPS"=some (some (.ref TS)))
  (lS:K.lookup TS=some ⟨.type "dict",none,.dict esS nS,#[]⟩)
  (kS:PySem.W.KeysLit w.params esS.toList)
  (aE:PySem.W.nsIn K mainGlobals "EFFECTS"=some (some (.ref TE)))
  (lE:K.lookup TE=some ⟨.type "dict",none,.dict esE nE,#[]⟩)
  (kE:PySem.W.KeysLit w.params esE.toList)
  (aW:PySem.W.nsIn K mainGlobals "WAYS"=some (some (.ref TW)))
  (lW:K.lookup TW=some ⟨.type "dict",none,.dict esW nW,#[]⟩)
  (kW:PySem.W.KeysLit w.params esW.toList)
  (tS_number:PySem.W.nsIn K TS "number"=some (some (.ref f_1k)))
  (tS_here:PySem.W.nsIn K TS "here"=some (some (.ref f_1h)))
  (tS_load:PySem.W.nsIn K TS "load"=some (some (.ref f_1g)))
  (tS_spread:PySem.W.nsIn K TS "spread"=some (some (.ref f_1j)))
  (tS_shift:PySem.W.nsIn K TS "shift"=some (some (.ref f_1i)))
  (a_numbers_gathered:PySem.W.nsIn K mainGlobals "numbers_gathered"=some (some (.ref f_numbers_gathered)))
  (tS_gather:PySem.W.nsIn K TS "gather"=some (some (.ref f_numbers_gathered)))
  (a_numbers_joined:PySem.W.nsIn K mainGlobals "numbers_joined"=some (some (.ref f_numbers_joined)))
  (tS_op:PySem.W.nsIn K TS "op"=some (some (.ref f_numbers_joined)))
  (a_numbers_picked:PySem.W.nsIn K mainGlobals "numbers_picked"=some (some (.ref f_numbers_picked)))
  (tS_pick:PySem.W.nsIn K TS "pick"=some (some (.ref f_numbers_picked)))
  (a_numbers_copied:PySem.W.nsIn K mainGlobals "numbers_copied"=some (some (.ref f_numbers_copied)))
  (tS_copy:PySem.W.nsIn K TS "copy"=some (some (.ref f_numbers_copied)))
  (a_numbers_brought:PySem.W.nsIn K mainGlobals "numbers_brought"=some (some (.ref f_numbers_brought)))
  (tS_bring:PySem.W.nsIn K TS "bring"=some (some (.ref f_numbers_brought)))
  (a_play_reach:PySem.W.nsIn K mainGlobals "play_reach"=some (some (.ref f_play_reach)))
  (tE_reach:PySem.W.nsIn K TE "reach"=some (some (.ref f_play_reach)))
  (tS_reach:PySem.W.nsIn K TS "reach"=some none)
  (a_play_trim:PySem.W.nsIn K mainGlobals "play_trim"=some (some (.ref f_play_trim)))
  (tE_trim:PySem.W.nsIn K TE "trim"=some (some (.ref f_play_trim)))
  (tS_trim:PySem.W.nsIn K TS "trim"=some none)
  (a_play_stop:PySem.W.nsIn K mainGlobals "play_stop"=some (some (.ref f_play_stop)))
  (tE_stop:PySem.W.nsIn K TE "stop"=some (some (.ref f_play_stop)))
  (tS_stop:PySem.W.nsIn K TS "stop"=some none)
  (tE_choose:PySem.W.nsIn K TE "choose"=some (some (.ref f_1n)))
  (tS_choose:PySem.W.nsIn K TS "choose"=some none)
  (tE_other:PySem.W.nsIn K TE "other"=some (some (.ref f_1q)))
  (tS_other:PySem.W.nsIn K TS "other"=some none)
  (a_play_save:PySem.W.nsIn K mainGlobals "play_save"=some (some (.ref f_play_save)))
  (tE_save:PySem.W.nsIn K TE "save"=some (some (.ref f_play_save)))
  (tS_save:PySem.W.nsIn K TS "save"=some none)
  (tE_store:PySem.W.nsIn K TE "store"=some (some (.ref f_1s)))
  (tS_store:PySem.W.nsIn K TS "store"=some none)
  (a_play_put:PySem.W.nsIn K mainGlobals "play_put"=some (some (.ref f_play_put)))
  (tE_put:PySem.W.nsIn K TE "put"=some (some (.ref f_play_put)))
  (tS_put:PySem.W.nsIn K TS "put"=some none)
  (a_play_fold:PySem.W.nsIn K mainGlobals "play_fold"=some (some (.ref f_play_fold)))
  (tE_fold:PySem.W.nsIn K TE "fold"=some (some (.ref f_play_fold)))
  (tS_fold:PySem.W.nsIn K TS "fold"=some none)
  (a_play_running:PySem.W.nsIn K mainGlobals "play_running"=some (some (.ref f_play_running)))
  (tE_running:PySem.W.nsIn K TE "running"=some (some (.ref f_play_running)))
  (tS_running:PySem.W.nsIn K TS "running"=some none)
  (a_play_any:PySem.W.nsIn K mainGlobals "play_any"=some (some (.ref f_play_any)))
  (tE_any:PySem.W.nsIn K TE "any"=some (some (.ref f_play_any)))
  (tS_any:PySem.W.nsIn K TS "any"=some none)
  (tW_begin:PySem.W.nsIn K TW "begin"=some (some (.ref f_1m)))
  (tS_begin:PySem.W.nsIn K TS "begin"=some none)
  (tE_begin:PySem.W.nsIn K TE "begin"=some none)
  (tW_next:PySem.W.nsIn K TW "next"=some (some (.ref f_1p)))
  (tS_next:PySem.W.nsIn K TS "next"=some none)
  (tE_next:PySem.W.nsIn K TE "next"=some none)
  (a_play_turns:PySem.W.nsIn K mainGlobals "play_turns"=some (some (.ref f_play_turns)))
  (tW_turns:PySem.W.nsIn K TW "turns"=some (some (.ref f_play_turns)))
  (tS_turns:PySem.W.nsIn K TS "turns"=some none)
  (tE_turns:PySem.W.nsIn K TE "turns"=some none)
  (a_play_quiet:PySem.W.nsIn K mainGlobals "play_quiet"=some (some (.ref f_play_quiet)))
  (tW_quiet:PySem.W.nsIn K TW "quiet"=some (some (.ref f_play_quiet)))
  (tS_quiet:PySem.W.nsIn K TS "quiet"=some none)
  (tE_quiet:PySem.W.nsIn K TE "quiet"=some none)
  (a_play_till:PySem.W.nsIn K mainGlobals "play_till"=some (some (.ref f_play_till)))
  (tW_till:PySem.W.nsIn K TW "till"=some (some (.ref f_play_till)))
  (tS_till:PySem.W.nsIn K TS "till"=some none)
  (tE_till:PySem.W.nsIn K TE "till"=some none)
  (loS:(TS == sysModules)=false)
  (loE:(TE == sysModules)=false)
  (k_int_int:PySem.W.kitOne K (.type "int") (.type "int")=some true)
  (k_int_bool:PySem.W.kitOne K (.type "int") (.type "bool")=some false)
  (k_tuple_tuple:PySem.W.kitOne K (.type "tuple") (.type "tuple")=some true)
  (k_list_list:PySem.W.kitOne K (.type "list") (.type "list")=some true)
  (k_str_str:PySem.W.kitOne K (.type "str") (.type "str")=some true)
  (z_isinstance:PySem.W.nsIn K mainGlobals "isinstance"=some none)
  (z_int:PySem.W.nsIn K mainGlobals "int"=some none)
  (z_bool:PySem.W.nsIn K mainGlobals "bool"=some none)
  (z_str:PySem.W.nsIn K mainGlobals "str"=some none)
  (z_list:PySem.W.nsIn K mainGlobals "list"=some none)
  (z_tuple:PySem.W.nsIn K mainGlobals "tuple"=some none)
  (z_len:PySem.W.nsIn K mainGlobals "len"=some none)
  (z_range:PySem.W.nsIn K mainGlobals "range"=some none)
  (z_sum:PySem.W.nsIn K mainGlobals "sum"=some none)
  (z_min:PySem.W.nsIn K mainGlobals "min"=some none)
  (z_max:PySem.W.nsIn K mainGlobals "max"=some none)
  (z_any:PySem.W.nsIn K mainGlobals "any"=some none)
  (z_zip:PySem.W.nsIn K mainGlobals "zip"=some none)
  (z_dict:PySem.W.nsIn K mainGlobals "dict"=some none)
  (aB:PySem.W.nsIn K mainGlobals "MANY_BOXES"=some (some (.int 8 tB)))
  (aM:PySem.W.nsIn K mainGlobals "MOST_TOGETHER"=some (some (.int 4 tM)))
  (aN:PySem.W.nsIn K mainGlobals "MANY_MASKS"=some (some (.int 16 tN)))
  (aT:PySem.W.nsIn K mainGlobals "TEST_MASK"=some (some (.int 1 tT)))
  (a_X_At:PySem.W.nsIn K mainGlobals "At"=some (some (.ref X_At)))
  (a_X_Pair:PySem.W.nsIn K mainGlobals "Pair"=some (some (.ref X_Pair)))
  (a_X_Choice:PySem.W.nsIn K mainGlobals "Choice"=some (some (.ref X_Choice)))
  (a_X_Call:PySem.W.nsIn K mainGlobals "Call"=some (some (.ref X_Call)))
  (a_X_Put:PySem.W.nsIn K mainGlobals "Put"=some (some (.ref X_Put)))
  (a_X_Fold:PySem.W.nsIn K mainGlobals "Fold"=some (some (.ref X_Fold)))
  (a_X_Till:PySem.W.nsIn K mainGlobals "Till"=some (some (.ref X_Till)))
  (i1_Number:PySem.W.findIn K (.ref C_Number) "__class__"=some (some (.builtin "object.__class__")))
  (i2_Number:PySem.W.specialIn K (.builtin "object.__class__") "__get__"=some (some (.builtin "getset_descriptor.__get__")))
  (i3_Number:PySem.W.takesIn K (.builtin "object.__class__")=some true)
  (i4_Number:PySem.W.mroIn K C_Number (.type "object")=some true)
  (i1_Here:PySem.W.findIn K (.ref C_Here) "__class__"=some (some (.builtin "object.__class__")))
  (i2_Here:PySem.W.specialIn K (.builtin "object.__class__") "__get__"=some (some (.builtin "getset_descriptor.__get__")))
  (i3_Here:PySem.W.takesIn K (.builtin "object.__class__")=some true)
  (i4_Here:PySem.W.mroIn K C_Here (.type "object")=some true)
  (i1_Cell:PySem.W.findIn K (.ref C_Cell) "__class__"=some (some (.builtin "object.__class__")))
  (i2_Cell:PySem.W.specialIn K (.builtin "object.__class__") "__get__"=some (some (.builtin "getset_descriptor.__get__")))
  (i3_Cell:PySem.W.takesIn K (.builtin "object.__class__")=some true)
  (i4_Cell:PySem.W.mroIn K C_Cell (.type "object")=some true)
  (i1_Shifted:PySem.W.findIn K (.ref C_Shifted) "__class__"=some (some (.builtin "object.__class__")))
  (i2_Shifted:PySem.W.specialIn K (.builtin "object.__class__") "__get__"=some (some (.builtin "getset_descriptor.__get__")))
  (i3_Shifted:PySem.W.takesIn K (.builtin "object.__class__")=some true)
  (i4_Shifted:PySem.W.mroIn K C_Shifted (.type "object")=some true)
  (i1_Let:PySem.W.findIn K (.ref C_Let) "__class__"=some (some (.builtin "object.__class__")))
  (i2_Let:PySem.W.specialIn K (.builtin "object.__class__") "__get__"=some (some (.builtin "getset_descriptor.__get__")))
  (i3_Let:PySem.W.takesIn K (.builtin "object.__class__")=some true)
  (i4_Let:PySem.W.mroIn K C_Let (.type "object")=some true)
  (kl_Number_At:PySem.W.kitOne K (.ref C_Number) (.ref X_At)=some false)
  (kl_Number_Pair:PySem.W.kitOne K (.ref C_Number) (.ref X_Pair)=some false)
  (kl_Number_Choice:PySem.W.kitOne K (.ref C_Number) (.ref X_Choice)=some false)
  (kl_Number_Call:PySem.W.kitOne K (.ref C_Number) (.ref X_Call)=some false)
  (kl_Number_Number:PySem.W.kitOne K (.ref C_Number) (.ref C_Number)=some true)
  (kl_Number_Here:PySem.W.kitOne K (.ref C_Number) (.ref C_Here)=some false)
  (kl_Number_Cell:PySem.W.kitOne K (.ref C_Number) (.ref C_Cell)=some false)
  (kl_Number_Shifted:PySem.W.kitOne K (.ref C_Number) (.ref C_Shifted)=some false)
  (kl_Here_At:PySem.W.kitOne K (.ref C_Here) (.ref X_At)=some false)
  (kl_Here_Pair:PySem.W.kitOne K (.ref C_Here) (.ref X_Pair)=some false)
  (kl_Here_Choice:PySem.W.kitOne K (.ref C_Here) (.ref X_Choice)=some false)
  (kl_Here_Call:PySem.W.kitOne K (.ref C_Here) (.ref X_Call)=some false)
  (kl_Here_Number:PySem.W.kitOne K (.ref C_Here) (.ref C_Number)=some false)
  (kl_Here_Here:PySem.W.kitOne K (.ref C_Here) (.ref C_Here)=some true)
  (kl_Here_Cell:PySem.W.kitOne K (.ref C_Here) (.ref C_Cell)=some false)
  (kl_Here_Shifted:PySem.W.kitOne K (.ref C_Here) (.ref C_Shifted)=some false)
  (kl_Cell_At:PySem.W.kitOne K (.ref C_Cell) (.ref X_At)=some false)
  (kl_Cell_Pair:PySem.W.kitOne K (.ref C_Cell) (.ref X_Pair)=some false)
  (kl_Cell_Choice:PySem.W.kitOne K (.ref C_Cell) (.ref X_Choice)=some false)
  (kl_Cell_Call:PySem.W.kitOne K (.ref C_Cell) (.ref X_Call)=some false)
  (kl_Cell_Number:PySem.W.kitOne K (.ref C_Cell) (.ref C_Number)=some false)
  (kl_Cell_Here:PySem.W.kitOne K (.ref C_Cell) (.ref C_Here)=some false)
  (kl_Cell_Cell:PySem.W.kitOne K (.ref C_Cell) (.ref C_Cell)=some true)
  (kl_Cell_Shifted:PySem.W.kitOne K (.ref C_Cell) (.ref C_Shifted)=some false)
  (kl_Shifted_At:PySem.W.kitOne K (.ref C_Shifted) (.ref X_At)=some false)
  (kl_Shifted_Pair:PySem.W.kitOne K (.ref C_Shifted) (.ref X_Pair)=some false)
  (kl_Shifted_Choice:PySem.W.kitOne K (.ref C_Shifted) (.ref X_Choice)=some false)
  (kl_Shifted_Call:PySem.W.kitOne K (.ref C_Shifted) (.ref X_Call)=some false)
  (kl_Shifted_Number:PySem.W.kitOne K (.ref C_Shifted) (.ref C_Number)=some false)
  (kl_Shifted_Here:PySem.W.kitOne K (.ref C_Shifted) (.ref C_Here)=some false)
  (kl_Shifted_Cell:PySem.W.kitOne K (.ref C_Shifted) (.ref C_Cell)=some false)
  (kl_Shifted_Shifted:PySem.W.kitOne K (.ref C_Shifted) (.ref C_Shifted)=some true)
  (kl_Let_Put:PySem.W.kitOne K (.ref C_Let) (.ref X_Put)=some false)
  (kl_Let_Let:PySem.W.kitOne K (.ref C_Let) (.ref C_Let)=some true)
  (kl_Let_Till:PySem.W.kitOne K (.ref C_Let) (.ref X_Till)=some false)
  : ∃ fd:FuncData,(∀ (s:Shared) (v:Value),BindsTo s fd ⟨[v],[]⟩ [("_law_script",v)])/\∀ base:Heap,K.In base->base.Ns mainGlobals mg->FnOk l.prog w K mg base CX0 11 fa fd ["_law_script"] (spLaw K):=by
 have e:=hfa.symm.trans (PySem.W.mg_of X G a_law);cases e;have d_start_of:zw K mg "start_of" xF ["lengths","row"]:=zr X G a_start_of l_1z c_1z k_1z fun _ _ _ _ _ _=>us2 fun _ _=>rfl;have d_count_of:zw K mg "count_of" xH ["steps"]:=zr X G a_count_of l_q c_q k_q fun _ _ _ _ _ _=>us1 fun _=>rfl;have d_seats_for_two:zw K mg "seats_for_two" yG ["first","second","functions"]:=zr X G a_seats_for_two l_1y c_1y k_1y fun _ _ _ _ _ _=>us3 fun _ _ _=>rfl;have d_seats_for_call:zw K mg "seats_for_call" yB ["form","functions"]:=zr X G a_seats_for_call l_1w c_1w k_1w fun _ _ _ _ _ _=>us2 fun _ _=>rfl;have d_seats_for:zw K mg "seats_for" xc ["form","functions"]:=zr X G a_seats_for l_1v c_1v k_1v fun _ _ _ _ _ _=>us2 fun _ _=>rfl;have d_seats_for_step:zw K mg "seats_for_step" yl ["step","functions"]:=zr X G a_seats_for_step l_1x c_1x k_1x fun _ _ _ _ _ _=>us2 fun _ _=>rfl;have d_cell_step:zw K mg "cell_step" xq ["maker","form","aim"]:=zr X G a_cell_step l_o c_o k_o fun _ _ _ _ _ _=>us3 fun _ _ _=>rfl;have d_leaf_step:zw K mg "leaf_step" xj ["maker","form","aim"]:=zr X G a_leaf_step l_14 c_14 k_14 fun _ _ _ _ _ _=>us3 fun _ _ _=>rfl;have d_make_two:zw K mg "make_two" x6 ["maker","first","first_aim","second","second_aim"]:=zr X G a_make_two l_1c c_1c k_1c fun _ _ _ _ _ _=>us5 fun _ _ _ _ _=>rfl;have d_make_at:zw K mg "make_at" Zi ["maker","form","aim"]:=zr X G a_make_at l_16 c_16 k_16 fun _ _ _ _ _ _=>us3 fun _ _ _=>rfl;have d_make_pair:zw K mg "make_pair" xP ["maker","form","aim"]:=zr X G a_make_pair l_1a c_1a k_1a fun _ _ _ _ _ _=>us3 fun _ _ _=>rfl;have d_make_choice:zw K mg "make_choice" y9 ["maker","form","aim"]:=zr X G a_make_choice l_18 c_18 k_18 fun _ _ _ _ _ _=>us3 fun _ _ _=>rfl;have d_make_call:zw K mg "make_call" xQ ["maker","form","aim"]:=zr X G a_make_call l_17 c_17 k_17 fun _ _ _ _ _ _=>us3 fun _ _ _=>rfl;have d_make_form:zw K mg "make_form" xi ["maker","form","aim"]:=zr X G a_make_form l_19 c_19 k_19 fun _ _ _ _ _ _=>us3 fun _ _ _=>rfl;have d_numbers_written:zw K mg "numbers_written" yf ["bench","step","active"]:=zr X G a_numbers_written l_1k c_1k k_1k fun _ _ _ _ _ _=>us3 fun _ _ _=>rfl;have d_numbers_of_here:zw K mg "numbers_of_here" yh ["bench","step","active"]:=zr X G a_numbers_of_here l_1h c_1h k_1h fun _ _ _ _ _ _=>us3 fun _ _ _=>rfl;have d_numbers_loaded:zw K mg "numbers_loaded" yo ["bench","step","active"]:=zr X G a_numbers_loaded l_1g c_1g k_1g fun _ _ _ _ _ _=>us3 fun _ _ _=>rfl;have d_numbers_spread:zw K mg "numbers_spread" yn ["bench","step","active"]:=zr X G a_numbers_spread l_1j c_1j k_1j fun _ _ _ _ _ _=>us3 fun _ _ _=>rfl;have d_number_shifted:zw K mg "number_shifted" yp ["bench","row","place","other"]:=zr X G a_number_shifted l_1f c_1f k_1f fun _ _ _ _ _ _=>us4 fun _ _ _ _=>rfl;have d_numbers_shifted:zw K mg "numbers_shifted" yg ["bench","step","active"]:=zr X G a_numbers_shifted l_1i c_1i k_1i fun _ _ _ _ _ _=>us3 fun _ _ _=>rfl;have d_lays_seat:zw K mg "lays_seat" xk ["word"]:=zr X G a_lays_seat l_13 c_13 k_13 fun _ _ _ _ _ _=>us1 fun _=>rfl;have d_play_seat_step:zw K mg "play_seat_step" ym ["bench","step"]:=zr X G a_play_seat_step l_1r c_1r k_1r fun _ _ _ _ _ _=>us2 fun _ _=>rfl;have d_may_fault:zw K mg "may_fault" xg ["step"]:=zr X G a_may_fault l_1e c_1e k_1e fun _ _ _ _ _ _=>us1 fun _=>rfl;have d_group_for:zw K mg "group_for" xp ["seats"]:=zr X G a_group_for l_r c_r k_r fun _ _ _ _ _ _=>us1 fun _=>rfl;have d_make_test:zw K mg "make_test" xh ["maker","step"]:=zr X G a_make_test l_1b c_1b k_1b fun _ _ _ _ _ _=>us2 fun _ _=>rfl;have d_make_value:zw K mg "make_value" yW ["maker","step","mask"]:=zr X G a_make_value l_1d c_1d k_1d fun _ _ _ _ _ _=>us3 fun _ _ _=>rfl;have d_round_of:zw K mg "round_of" xG ["program","step","number","group"]:=zr X G a_round_of l_1u c_1u k_1u fun _ _ _ _ _ _=>us4 fun _ _ _ _=>rfl;have d_turns_of:zw K mg "turns_of" x5 ["program","till","number","group"]:=zr X G a_turns_of l_20 c_20 k_20 fun _ _ _ _ _ _=>us4 fun _ _ _ _=>rfl;have d_code_of:zw K mg "code_of" xX ["program","steps","first","group"]:=zr X G a_code_of l_p c_p k_p fun _ _ _ _ _ _=>us4 fun _ _ _ _=>rfl;have d_made:DefD K mg "made" Ye ["program","group"]:=⟨f_15,_,tD_made,PySem.W.mg_of X G a_made,(ZO l_15 c_15 k_15 lT_15),(ZO l_15 c_15 k_15 lT_15).binds (fun _ _ _ _ _ _ _ us hl=>match us,hl with | [_,_],_=>⟨_,rfl,rfl⟩),(ZO l_15 c_15 k_15 lT_15).binds (fun _ _ _ _ _ _ _ us hl=>(match us,(by simpa using hl:us.length=1) with | [_],_=>⟨_,rfl,rfl⟩))⟩;have d_lay_chosen:zw K mg "lay_chosen" yX ["bench","step","nought"]:=zr X G a_lay_chosen l_12 c_12 k_12 fun _ _ _ _ _ _=>us3 fun _ _ _=>rfl;have d_play_choose:zw K mg "play_choose" yJ ["bench","step"]:=zr X G a_play_choose l_1n c_1n k_1n fun _ _ _ _ _ _=>us2 fun _ _=>rfl;have d_play_other:zw K mg "play_other" yU ["bench","step"]:=zr X G a_play_other l_1q c_1q k_1q fun _ _ _ _ _ _=>us2 fun _ _=>rfl;have d_play_store:zw K mg "play_store" yT ["bench","step"]:=zr X G a_play_store l_1s c_1s k_1s fun _ _ _ _ _ _=>us2 fun _ _=>rfl;have d_has_effect:zw K mg "has_effect" yY ["word"]:=zr X G a_has_effect l_s c_s k_s fun _ _ _ _ _ _=>us1 fun _=>rfl;have d_play_effect:zw K mg "play_effect" yI ["bench","step"]:=zr X G a_play_effect l_1o c_1o k_1o fun _ _ _ _ _ _=>us2 fun _ _=>rfl;have d_play_begin:zw K mg "play_begin" yV ["bench","step"]:=zr X G a_play_begin l_1m c_1m k_1m fun _ _ _ _ _ _=>us2 fun _ _=>rfl;have d_play_next:zw K mg "play_next" xf ["bench","step"]:=zr X G a_play_next l_1p c_1p k_1p fun _ _ _ _ _ _=>us2 fun _ _=>rfl;have d_place_behind:zw K mg "place_behind" yC ["bench","step"]:=zr X G a_place_behind l_1l c_1l k_1l fun _ _ _ _ _ _=>us2 fun _ _=>rfl;have d_ran:zw K mg "ran" XB ["code","lengths","cells","lanes","dust","picks"]:=zr X G a_ran l_1t c_1t k_1t fun _ _ _ _ _ _=>us6 fun _ _ _ _ _ _=>rfl;have d_l_whole:zw K mg "_law_whole" xV ["_law_found"]:=zr X G a_l_whole l_10 c_10 k_10 fun _ _ _ _ _ _=>us1 fun _=>rfl;have d_l_cell_at:zw K mg "_law_cell_at" xo ["_law_script","_law_k"]:=zr X G a_l_cell_at l_t c_t k_t fun _ _ _ _ _ _=>us2 fun _ _=>rfl;have d_l_kept_by:zw K mg "_law_kept_by" xm ["_law_cell"]:=zr X G a_l_kept_by l_v c_v k_v fun _ _ _ _ _ _=>us1 fun _=>rfl;have d_l_some:zw K mg "_law_some" Zk ["_law_script","_law_at","_law_count"]:=zr X G a_l_some l_y c_y k_y fun _ _ _ _ _ _=>us3 fun _ _ _=>rfl;have d_l_told:zw K mg "_law_told" Zj ["_law_found","_law_cells","_law_refusal"]:=zr X G a_l_told l_z c_z k_z fun _ _ _ _ _ _=>us3 fun _ _ _=>rfl;have d_l_leaf:zw K mg "_law_leaf" Zl ["_law_cell"]:=zr X G a_l_leaf l_x c_x k_x fun _ _ _ _ _ _=>us1 fun _=>rfl;have d_l_due:zw K mg "_law_due" ZI ["_law_cell","_law_place","_law_rows"]:=zr X G a_l_due l_u c_u k_u fun _ _ _ _ _ _=>us3 fun _ _ _=>rfl;have d_l_lanes:zw K mg "_law_lanes" xW ["_law_cell","_law_count"]:=zr X G a_l_lanes l_w c_w k_w fun _ _ _ _ _ _=>us2 fun _ _=>rfl;have d_Boxes_init:yN K C_Boxes "Boxes.__init__" y3 ["self","lanes"]:=⟨f_b,_,⟨mk_C_Boxes,at_b,fn_b,kC_C_Boxes⟩,zH l_b c_b k_b,(zH l_b c_b k_b).binds fun _ _ _ _ _ _=>us2 fun _ _=>rfl⟩;have d_Boxes_spot_of:z8 K C_Boxes "spot_of" "Boxes.spot_of" yu ["self","group","seat","lane"]:=⟨f_e,_,⟨at_e,fn_e,k_e⟩,zH l_e c_e k_e,(zH l_e c_e k_e).binds fun _ _ _ _ _ _=>us4 fun _ _ _ _=>rfl⟩;have d_Boxes_lay:z8 K C_Boxes "lay" "Boxes.lay" xu ["self","group","seat","lane","number"]:=⟨f_c,_,⟨at_c,fn_c,k_c⟩,zH l_c c_c k_c,(zH l_c c_c k_c).binds fun _ _ _ _ _ _=>us5 fun _ _ _ _ _=>rfl⟩;have d_Boxes_number_at:z8 K C_Boxes "number_at" "Boxes.number_at" yi ["self","group","seat","lane"]:=⟨f_d,_,⟨at_d,fn_d,k_d⟩,zH l_d c_d k_d,(zH l_d c_d k_d).binds fun _ _ _ _ _ _=>us4 fun _ _ _ _=>rfl⟩;have d_Feed_init:yN K C_Feed "Feed.__init__" xr ["self","numbers"]:=⟨f_g,_,⟨mk_C_Feed,at_g,fn_g,kC_C_Feed⟩,zH l_g c_g k_g,(zH l_g c_g k_g).binds fun _ _ _ _ _ _=>us2 fun _ _=>rfl⟩;have d_Feed_taken:z8 K C_Feed "taken" "Feed.taken" y0 ["self"]:=⟨f_h,_,⟨at_h,fn_h,k_h⟩,zH l_h c_h k_h,(zH l_h c_h k_h).binds fun _ _ _ _ _ _=>us1 fun _=>rfl⟩;have d_Bench_init:yN K C_Bench "Bench.__init__" y4 ["self","lengths","cells","lanes","dust","picks"]:=⟨f_3,_,⟨mk_C_Bench,at_3,fn_3,kC_C_Bench⟩,zH l_3 c_3 k_3,(zH l_3 c_3 k_3).binds fun _ _ _ _ _ _=>us6 fun _ _ _ _ _ _=>rfl⟩;have d_Bench_open_round:z8 K C_Bench "open_round" "Bench.open_round" ya ["self","many","group"]:=⟨f_7,_,⟨at_7,fn_7,k_7⟩,zH l_7 c_7 k_7,(zH l_7 c_7 k_7).binds fun _ _ _ _ _ _=>us3 fun _ _ _=>rfl⟩;have d_Bench_begin_strip:z8 K C_Bench "begin_strip" "Bench.begin_strip" z6 ["self","base"]:=⟨f_2,_,⟨at_2,fn_2,k_2⟩,zH l_2 c_2 k_2,(zH l_2 c_2 k_2).binds fun _ _ _ _ _ _=>us2 fun _ _=>rfl⟩;have d_Bench_active_under:z8 K C_Bench "active_under" "Bench.active_under" zV ["self","mask"]:=⟨f_1,_,⟨at_1,fn_1,k_1⟩,zH l_1 c_1 k_1,(zH l_1 c_1 k_1).binds fun _ _ _ _ _ _=>us2 fun _ _=>rfl⟩;have d_Bench_numbers_in:z8 K C_Bench "numbers_in" "Bench.numbers_in" yb ["self","seat","active"]:=⟨f_6,_,⟨at_6,fn_6,k_6⟩,zH l_6 c_6 k_6,(zH l_6 c_6 k_6).binds fun _ _ _ _ _ _=>us3 fun _ _ _=>rfl⟩;have d_Bench_lay_seat:z8 K C_Bench "lay_seat" "Bench.lay_seat" yq ["self","seat","active","numbers"]:=⟨f_5,_,⟨at_5,fn_5,k_5⟩,zH l_5 c_5 k_5,(zH l_5 c_5 k_5).binds fun _ _ _ _ _ _=>us4 fun _ _ _ _=>rfl⟩;have d_Bench_lay_mask:z8 K C_Bench "lay_mask" "Bench.lay_mask" yr ["self","mask","chosen"]:=⟨f_4,_,⟨at_4,fn_4,k_4⟩,zH l_4 c_4 k_4,(zH l_4 c_4 k_4).binds fun _ _ _ _ _ _=>us3 fun _ _ _=>rfl⟩;have d_Bench_touch:z8 K C_Bench "touch" "Bench.touch" yM ["self","kind","address"]:=⟨f_9,_,⟨at_9,fn_9,k_9⟩,zH l_9 c_9 k_9,(zH l_9 c_9 k_9).binds fun _ _ _ _ _ _=>us3 fun _ _ _=>rfl⟩;have d_Bench_read_cell:z8 K C_Bench "read_cell" "Bench.read_cell" yj ["self","row","place"]:=⟨f_8,_,⟨at_8,fn_8,k_8⟩,zH l_8 c_8 k_8,(zH l_8 c_8 k_8).binds fun _ _ _ _ _ _=>us3 fun _ _ _=>rfl⟩;have d_Bench_write_cell:z8 K C_Bench "write_cell" "Bench.write_cell" z9 ["self","row","place","number"]:=⟨f_a,_,⟨at_a,fn_a,k_a⟩,zH l_a c_a k_a,(zH l_a c_a k_a).binds fun _ _ _ _ _ _=>us4 fun _ _ _ _=>rfl⟩;have d_Number_init:yN K C_Number "Number.__init__" yK ["self","number"]:=⟨f_l,_,⟨mk_C_Number,at_l,fn_l,kC_C_Number⟩,zH l_l c_l k_l,(zH l_l c_l k_l).binds fun _ _ _ _ _ _=>us2 fun _ _=>rfl⟩;have d_Cell_init:yN K C_Cell "Cell.__init__" xt ["self","row"]:=⟨f_f,_,⟨mk_C_Cell,at_f,fn_f,kC_C_Cell⟩,zH l_f c_f k_f,(zH l_f c_f k_f).binds fun _ _ _ _ _ _=>us2 fun _ _=>rfl⟩;have d_Shifted_init:yN K C_Shifted "Shifted.__init__" yD ["self","row","by","other"]:=⟨f_n,_,⟨mk_C_Shifted,at_n,fn_n,kC_C_Shifted⟩,zH l_n c_n k_n,(zH l_n c_n k_n).binds fun _ _ _ _ _ _=>us4 fun _ _ _ _=>rfl⟩;have d_Let_init:InitN K C_Let "Let.__init__" xI ["self","target","value","test"]:=⟨f_i,_,⟨mk_C_Let,at_i,fn_i,kC_C_Let⟩,(ZO l_i c_i k_i lT_i),(ZO l_i c_i k_i lT_i).binds (fun _ _ _ _ _ _ _ us hl=>match us,hl with | [_,_,_,_],_=>⟨_,rfl,rfl⟩),(ZO l_i c_i k_i lT_i).binds (fun _ _ _ _ _ _ _ us hl=>(match us,(by simpa using hl:us.length=3) with | [_,_,_],_=>⟨_,rfl,rfl⟩))⟩;have d_Let_many_of:z8 K C_Let "many_of" "Let.many_of" yL ["self","lengths"]:=⟨f_j,_,⟨at_j,fn_j,k_j⟩,zH l_j c_j k_j,(zH l_j c_j k_j).binds fun _ _ _ _ _ _=>us2 fun _ _=>rfl⟩;have d_Program_init:yN K C_Program "Program.__init__" yE ["self","lengths","functions","steps"]:=⟨f_m,_,⟨mk_C_Program,at_m,fn_m,kC_C_Program⟩,zH l_m c_m k_m,(zH l_m c_m k_m).binds fun _ _ _ _ _ _=>us4 fun _ _ _ _=>rfl⟩;have d_Maker_init:yN K C_Maker "Maker.__init__" yZ ["self","lengths","functions","group"]:=⟨f_k,_,⟨mk_C_Maker,at_k,fn_k,kC_C_Maker⟩,zH l_k c_k k_k,(zH l_k c_k k_k).binds fun _ _ _ _ _ _=>us4 fun _ _ _ _=>rfl⟩;have d_Aim_init:yN K C_Aim "Aim.__init__" xJ ["self","seat","mask","level","own"]:=⟨f_0,_,⟨mk_C_Aim,at_0,fn_0,kC_C_Aim⟩,zH l_0 c_0 k_0,(zH l_0 c_0 k_0).binds fun _ _ _ _ _ _=>us5 fun _ _ _ _ _=>rfl⟩;have cl_Boxes:Cls K C_Boxes:=⟨c1_C_Boxes,c2_C_Boxes,c3_C_Boxes,c4_C_Boxes⟩;have cl_Feed:Cls K C_Feed:=⟨c1_C_Feed,c2_C_Feed,c3_C_Feed,c4_C_Feed⟩;have cl_Bench:Cls K C_Bench:=⟨c1_C_Bench,c2_C_Bench,c3_C_Bench,c4_C_Bench⟩;have cl_Number:Cls K C_Number:=⟨c1_C_Number,c2_C_Number,c3_C_Number,c4_C_Number⟩;have cl_Here:Cls K C_Here:=⟨c1_C_Here,c2_C_Here,c3_C_Here,c4_C_Here⟩;have cl_Cell:Cls K C_Cell:=⟨c1_C_Cell,c2_C_Cell,c3_C_Cell,c4_C_Cell⟩;have cl_Shifted:Cls K C_Shifted:=⟨c1_C_Shifted,c2_C_Shifted,c3_C_Shifted,c4_C_Shifted⟩;have cl_Let:Cls K C_Let:=⟨c1_C_Let,c2_C_Let,c3_C_Let,c4_C_Let⟩;have cl_Program:Cls K C_Program:=⟨c1_C_Program,c2_C_Program,c3_C_Program,c4_C_Program⟩;have cl_Maker:Cls K C_Maker:=⟨c1_C_Maker,c2_C_Maker,c3_C_Maker,c4_C_Maker⟩;have cl_Aim:Cls K C_Aim:=⟨c1_C_Aim,c2_C_Aim,c3_C_Aim,c4_C_Aim⟩;have mm:=fun {x:Str} {v:Value} (q:PySem.W.nsIn K mainGlobals x=some (some v))=>PySem.W.mg_of X G q;have mz:=fun {x:Str} (q:PySem.W.nsIn K mainGlobals x=some none)=>PySem.W.mg_none_of X G q;refine ⟨PySem.W.fnOf "law" "law" (zk Z6) (zj Z6) (zc Z6) .none kV_11 dc_11 pm_11 an_11 cd_11 ct_11,fun s v=>.of_eq rfl,fun base kb nb=>?_⟩;let c:MCs:=⟨C_Boxes,C_Feed,C_Bench⟩;let t:TabA:=⟨TS,TE,TW⟩;have BC:BCls K C_Boxes:=⟨cl_Boxes,n_C_Boxes_lanes,n_C_Boxes_numbers⟩;have FC:FCls K C_Feed:=⟨cl_Feed,n_C_Feed_numbers,n_C_Feed_at⟩;have NC:NCls K C_Bench:=⟨cl_Bench,n_C_Bench_lengths,n_C_Bench_starts,n_C_Bench_cells,n_C_Bench_lanes,n_C_Bench_boxes,n_C_Bench_masks,n_C_Bench_slots,n_C_Bench_dust,n_C_Bench_picks,n_C_Bench_touches,n_C_Bench_at,n_C_Bench_opened,n_C_Bench_many,n_C_Bench_group,n_C_Bench_base,n_C_Bench_begun,n_C_Bench_width,n_C_Bench_faults,n_C_Bench_cut,n_C_Bench_carried,n_C_Bench_raised,n_C_Bench_turns,n_C_Bench_refusal⟩;have CC:MCls K c:=⟨BC,FC,NC⟩;have TT:Tabs w K mg t:=⟨⟨esS,nS,lS,kS⟩,⟨esE,nE,lE,kE⟩,⟨esW,nW,lW,kW⟩,loS,loE,mm aS,mm aE,mm aW,⟨_,tS_number,mm a_numbers_written⟩,⟨_,tS_here,mm a_numbers_of_here⟩,⟨_,tS_load,mm a_numbers_loaded⟩,⟨_,tS_spread,mm a_numbers_spread⟩,⟨_,tS_shift,mm a_numbers_shifted⟩,⟨_,tS_gather,mm a_numbers_gathered⟩,⟨_,tS_op,mm a_numbers_joined⟩,⟨_,tS_pick,mm a_numbers_picked⟩,⟨_,tS_copy,mm a_numbers_copied⟩,⟨_,tS_bring,mm a_numbers_brought⟩,⟨_,tE_reach,mm a_play_reach⟩,tS_reach,⟨_,tE_trim,mm a_play_trim⟩,tS_trim,⟨_,tE_stop,mm a_play_stop⟩,tS_stop,⟨_,tE_choose,mm a_play_choose⟩,tS_choose,⟨_,tE_other,mm a_play_other⟩,tS_other,⟨_,tE_save,mm a_play_save⟩,tS_save,⟨_,tE_store,mm a_play_store⟩,tS_store,⟨_,tE_put,mm a_play_put⟩,tS_put,⟨_,tE_fold,mm a_play_fold⟩,tS_fold,⟨_,tE_running,mm a_play_running⟩,tS_running,⟨_,tE_any,mm a_play_any⟩,tS_any,⟨_,tW_begin,mm a_play_begin⟩,tS_begin,tE_begin,⟨_,tW_next,mm a_play_next⟩,tS_next,tE_next,⟨_,tW_turns,mm a_play_turns⟩,tS_turns,tE_turns,⟨_,tW_quiet,mm a_play_quiet⟩,tS_quiet,tE_quiet,⟨_,tW_till,mm a_play_till⟩,tS_till,tE_till⟩;have SPo:=ok_spot (P:=l.prog) (w:=w) (mg:=mg) (base:=base) d_Boxes_spot_of BC;have LAy:=ok_lay d_Boxes_lay BC SPo;have NUm:=ok_num d_Boxes_number_at BC SPo;have TK:=ok_taken (P:=l.prog) (w:=w) (mg:=mg) (base:=base) d_Feed_taken FC (mz z_len);have IFe:=ok_initF (P:=l.prog) (w:=w) (mg:=mg) (base:=base) d_Feed_init FC (mz z_list);have IBo:=ok_initB (P:=l.prog) (w:=w) (mg:=mg) (base:=base) d_Boxes_init BC (mm aB);have TOu:=ok_touch (P:=l.prog) (w:=w) (mg:=mg) (base:=base) (c:=c) d_Bench_touch NC;have RCe:=ok_read (c:=c) d_Bench_read_cell NC TOu;have WCe:=ok_write (c:=c) d_Bench_write_cell NC TOu;have AU:=ok_act (P:=l.prog) (w:=w) (mg:=mg) (base:=base) (c:=c) d_Bench_active_under (mz z_range) NC;have NI:=ok_nums (c:=c) d_Bench_numbers_in CC NUm;have LMa:=ok_mask (c:=c) d_Bench_lay_mask (mz z_range) CC TK;have LSe:=ok_seat (c:=c) d_Bench_lay_seat (mz z_range) (mz z_dict) (mz z_zip) CC TK LAy;have BSt:=ok_strip (c:=c) d_Bench_begin_strip (mz z_range) (mz z_list) (mz z_min) CC LMa;have ORo:=ok_round (c:=c) d_Bench_open_round CC BSt;have SOf:=ok_start (P:=l.prog) (w:=w) (base:=base) d_start_of (mz z_sum);have INi:=ok_initN (c:=c) d_Bench_init CC (mz z_list) (mz z_len) (mz z_range) (mm aM) (mm aN) (mm a_C_Boxes) (mm a_C_Feed) SOf IBo IFe;have LSW:=ok_lsw (P:=l.prog) (base:=base) (t:=t) d_lays_seat TT;have HEW:=ok_hew (P:=l.prog) (base:=base) (t:=t) d_has_effect TT;have LO:=ok_loaded (c:=c) d_numbers_loaded CC RCe;have STo:=ok_store (c:=c) d_play_store (mz z_zip) CC AU NI WCe;have BEg:=ok_begin (c:=c) d_play_begin CC ORo;have NEx:=ok_next (c:=c) d_play_next CC BSt;have LCh:=ok_chosen (c:=c) d_lay_chosen (mz z_zip) CC AU NI LMa;have CHo:=ok_choose (c:=c) d_play_choose LCh;have OTh:=ok_other (c:=c) d_play_other LCh;have HE:=ok_here (P:=l.prog) (w:=w) (base:=base) (c:=c) d_numbers_of_here CC;have NW:=zg9 (P:=l.prog) (w:=w) (base:=base) (c:=c) d_numbers_written (mz z_len);have SPr:=ok_spread (c:=c) d_numbers_spread (mz z_len) CC RCe;have NSh:=ok_shOne (c:=c) d_number_shifted CC RCe;have SHf:=ok_shift (c:=c) d_numbers_shifted CC NSh
 have SW:Yn l.prog w K mg base c t Lx.S 6:=fun word f h=>by
  rcases h with ⟨rfl,rfl⟩ | ⟨rfl,rfl⟩ | ⟨rfl,rfl⟩ | ⟨rfl,rfl⟩ | ⟨rfl,rfl⟩
  ·exact ⟨_,_,TT.s_load,LO.mono (by decide),loadM_ok⟩
  ·exact ⟨_,_,TT.s_here,HE.mono (by decide),hereM_ok⟩
  ·exact ⟨_,_,TT.s_number,NW.mono (by decide),numM_ok⟩
  ·exact ⟨_,_,TT.s_spread,SPr.mono (by decide),zg1⟩
  ·exact ⟨_,_,TT.s_shift,SHf.mono (by decide),shiftM_ok⟩
 have EW:Xi l.prog w K mg base c t Lx.E 7:=fun word f h=>by
  rcases h with ⟨rfl,rfl⟩ | ⟨rfl,rfl⟩ | ⟨rfl,rfl⟩
  ·exact ⟨TT.es_store,_,_,TT.e_store,STo.mono (by decide)⟩
  ·exact ⟨TT.es_choose,_,_,TT.e_choose,CHo.mono (by decide)⟩
  ·exact ⟨TT.es_other,_,_,TT.e_other,OTh.mono (by decide)⟩
 have WW:zgy l.prog w K mg base c t Lx.W 8:=fun word f h=>by
  rcases h with ⟨rfl,rfl⟩ | ⟨rfl,rfl⟩
  ·exact ⟨TT.ws_begin,TT.we_begin,_,_,TT.w_begin,BEg.mono (by decide)⟩
  ·exact ⟨TT.ws_next,TT.we_next,_,_,TT.w_next,NEx.mono (by decide)⟩
 have PSS:=ok_pss (c:=c) (t:=t) d_play_seat_step CC TT (by decide) AU LSe SW;have PEf:=ok_pe (c:=c) (t:=t) (by decide) d_play_effect TT EW;have PBe:=ok_pb (c:=c) (t:=t) d_place_behind CC TT (by decide) SW EW WW LSW HEW PSS PEf;have RN:=ok_ran (c:=c) d_ran CC (mz z_len) (mm a_C_Bench) INi PBe;let fc:F2.Cs:=⟨⟨C_Number,C_Here,C_Cell,C_Shifted,0,X_At,X_Pair,X_Choice,0⟩,X_Call⟩;let q:QCs:=⟨C_Maker,C_Aim,C_Let,X_Put,X_Fold,X_Till,C_Program⟩;have FG:FormG mg fc:=⟨mm a_X_At,mm a_X_Pair,mm a_X_Choice,mm a_X_Call,mm a_C_Number,mm a_C_Here,mm a_C_Cell,mm a_C_Shifted⟩;have SG:StepG mg q:=⟨mm a_C_Maker,mm a_C_Aim,mm a_C_Let,mm a_X_Put,mm a_X_Fold,mm a_X_Till⟩;have LK:LeafK K fc:=⟨⟨⟨cl_Number,i1_Number,i2_Number,i3_Number,i4_Number⟩,kl_Number_At,kl_Number_Pair,kl_Number_Choice,kl_Number_Call,kl_Number_Number,kl_Number_Here,kl_Number_Cell,kl_Number_Shifted⟩,⟨⟨cl_Here,i1_Here,i2_Here,i3_Here,i4_Here⟩,kl_Here_At,kl_Here_Pair,kl_Here_Choice,kl_Here_Call,kl_Here_Number,kl_Here_Here,kl_Here_Cell,kl_Here_Shifted⟩,⟨⟨cl_Cell,i1_Cell,i2_Cell,i3_Cell,i4_Cell⟩,kl_Cell_At,kl_Cell_Pair,kl_Cell_Choice,kl_Cell_Call,kl_Cell_Number,kl_Cell_Here,kl_Cell_Cell,kl_Cell_Shifted⟩,⟨⟨cl_Shifted,i1_Shifted,i2_Shifted,i3_Shifted,i4_Shifted⟩,kl_Shifted_At,kl_Shifted_Pair,kl_Shifted_Choice,kl_Shifted_Call,kl_Shifted_Number,kl_Shifted_Here,kl_Shifted_Cell,kl_Shifted_Shifted⟩,n_C_Number_number,n_C_Cell_row,n_C_Shifted_row,n_C_Shifted_by,n_C_Shifted_other⟩;have LC:LetC K q:=⟨⟨cl_Let,i1_Let,i2_Let,i3_Let,i4_Let⟩,kl_Let_Put,kl_Let_Let,kl_Let_Till,n_C_Let_target,n_C_Let_value,n_C_Let_test⟩;have MC:MakerC K q.ma:=⟨cl_Maker,n_C_Maker_lengths,n_C_Maker_functions,n_C_Maker_seats,n_C_Maker_code,n_C_Maker_free_slot⟩;have AC:AimC K q.ai:=⟨cl_Aim,n_C_Aim_seat,n_C_Aim_mask,n_C_Aim_level,n_C_Aim_own⟩;have PC:PrC K q.pr:=⟨cl_Program,n_C_Program_lengths,n_C_Program_functions,n_C_Program_steps⟩;have N':Ints K mg:=⟨mz z_isinstance,mz z_int,mz z_bool,k_int_int,k_int_bool⟩;have Ty:TysK K mg:=⟨mz z_tuple,mz z_list,mz z_str,k_tuple_tuple,k_list_list,k_str_str⟩;have WH:=ok_whole (P:=l.prog) (w:=w) (base:=base) d_l_whole N'
 have KB:=zha (P:=l.prog) (w:=w) (base:=base) d_l_kept_by
 have IN:=zhc (P:=l.prog) (w:=w) (mg:=mg) (base:=base) d_Number_init cl_Number n_C_Number_number;have IC:=okI_Cell (P:=l.prog) (w:=w) (mg:=mg) (base:=base) d_Cell_init cl_Cell n_C_Cell_row;have IH:=zge (P:=l.prog) (w:=w) (mg:=mg) (base:=base) d_Shifted_init cl_Shifted n_C_Shifted_row n_C_Shifted_by n_C_Shifted_other;have MHe:MkN K C_Here:=⟨mk_C_Here,in_C_Here,kC_C_Here⟩;have IL:=okN_Let (P:=l.prog) (w:=w) (mg:=mg) (base:=base) d_Let_init cl_Let n_C_Let_target n_C_Let_value n_C_Let_test;have IA:=okI_Aim (P:=l.prog) (w:=w) (mg:=mg) (base:=base) d_Aim_init cl_Aim n_C_Aim_seat n_C_Aim_mask n_C_Aim_level n_C_Aim_own;have IM:=okI_Maker (P:=l.prog) (w:=w) (base:=base) (q:=q) d_Maker_init (mm aB) MC;have IPr:=okI_ProgU (P:=l.prog) (w:=w) (mg:=mg) (base:=base) d_Program_init (mz z_list) PC;have S0:=ZA (P:=l.prog) (w:=w) (base:=base) d_seats_for sc_seats_for;have SF':=ok_seats (P:=l.prog) (w:=w) (base:=base) (c:=fc) d_seats_for (mz z_isinstance) (mz z_max) FG LK S0 (ZA d_seats_for_two Zh) (ZA d_seats_for_call Z3);have SS:=ok_seatsS (c:=fc) (q:=q) d_seats_for_step (mz z_isinstance) (mz z_max) SG LC SF' (ZA d_seats_for_two Zh);have CS:=zgd (P:=l.prog) (w:=w) (mg:=mg) (base:=base) (c:=fc) (q:=q) d_cell_step LK MC AC;have LS:=zgc (c:=fc) (q:=q) d_leaf_step (mz z_isinstance) FG LK MC AC CS;have MF:=ok_make (c:=fc) (q:=q) d_make_form (mz z_isinstance) FG LK MC (ZA d_make_at zg3) (ZA d_make_pair zcp) (ZA d_make_choice YT) (ZA d_make_call zcq) LS;have MT:=ok_makeT (c:=fc) (q:=q) d_make_test (mm aT) SG LC IA MF;have MV:=ok_makeV (c:=fc) (q:=q) d_make_value (mz z_isinstance) SG LC IA MF (ZA d_make_two zf5);have MO:=ok_manyL (P:=l.prog) (w:=w) (mg:=mg) (base:=base) (q:=q) d_Let_many_of LC;have RO:=ok_roundP (c:=fc) (q:=q) d_round_of (mz z_any) SG LC PC MC SS (ok_groupF d_group_for) IM MO MT MV (ok_mayF d_may_fault);have CO:=ok_count1 (P:=l.prog) (w:=w) (base:=base) (q:=q) d_count_of (mz z_isinstance) SG LC (ZA d_count_of sc_count_of);have CD:=ok_code (c:=fc) (q:=q) d_code_of (mz z_isinstance) SG LC (ZA d_turns_of zf3) RO CO;have MD:=ok_made (c:=fc) (q:=q) d_made PC CD;have CA:=zhb (P:=l.prog) (w:=w) (base:=base) d_l_cell_at (mz z_len);have SM:=ok_someL d_l_some (mz z_len) (mz z_range) KB;have LF:=ok_leafL (c:=fc) d_l_leaf FG KB MHe IN IC IH;have DUe:=ok_dueL d_l_due (mz z_len) KB;have TO:=ok_told3 d_l_told (mz z_len) N' Ty WH;exact ok_law (c:=fc) (q:=q) (mc:=c) (zH (st:=Z6) l_11 c_11 k_11) (mz z_len) (mz z_range) (mz z_list) (mz z_isinstance) k_list_list SG (mm a_C_Program) PC CA SM LF (ok_lanesL d_l_lanes) DUe TO IL IPr MD RN
theorem walk {l:PySem.W.OpenLaw} {q:Program} {loose:List Str} {XP:(Str->Option Value)->Heap->Prop} {YP:World->Heap->Prop} {d:DefRec} {K:Params->PySem.W.Frag} (hn:l.most=some 63) (hdf:d.params.defaults=[])
  (hY:∀ (w:World) (h:Heap),YP w h->(K w.params).In h)
  (F:∀ (w:World) (mg:Str->Option Value) (fa:Addr) (h:Heap),(K w.params).In h->h.Ns mainGlobals mg->mg d.name=some (.ref fa) ->
   ∃ fd:FuncData,(∀ (s:Shared) (u:Value),BindsTo s fd ⟨[u],[]⟩ [("_law_script",u)])/\∀ base:Heap,(K w.params).In base->base.Ns mainGlobals mg->FnOk l.prog w (K w.params) mg base CX0 11 fa fd ["_law_script"] (spLaw (K w.params))) :
  PySem.W.WalkO q loose XP YP l.row.toRowW d [] (fun f vs=>PySem.call f vs) :=
 L2.walk_of (n:=63) (k:=11) (x:="_law_script") (CX:=fun _=>CX0) (sp:=fun w=>spLaw (K w.params)) hn (by decide) hdf ⟨rfl,by decide,by decide⟩ hY F (fun _ _ a ns hl _ hS=>⟨a,ns,rfl,hS,hl,fun _=>rfl⟩) fun _ _ _ _ _ z=>z
end K43
open PySem PySem.W PyProof.Rows
set_option maxRecDepth 100000 in
set_option maxHeartbeats 0 in
theorem PySem.Challenge.cw_rowbreadth_k43_leaves_made_holds : PySem.Challenge.rw_rowbreadth_k43_leaves_made.Holds := by
 refine K43hd ?_
 k_fill
 refine K43.walk (l:=PySem.Challenge.rw_rowbreadth_k43_leaves_made) rfl rfl (fun w h Y=>Y) ?F
 case F =>
  intro w mg fa h KX G hmg
  refine' K43.all_mk KX G hmg ?q0 ?q1 ?q2 ?q3 ?q4 ?q5 ?q6 ?q7 ?q8 ?q9 ?qa ?qb ?qc ?qd ?qe ?qf ?qg ?qh ?qi ?qj ?qk ?ql ?qm ?qn ?qo ?qp ?qq ?qr ?qs ?qt ?qu ?qv ?qw ?qx ?qy ?qz ?q10 ?q11 ?q12 ?q13 ?q14 ?q15 ?q16 ?q17 ?q18 ?q19 ?q1a ?q1b ?q1c ?q1d ?q1e ?q1f ?q1g ?q1h ?q1i ?q1j ?q1k ?q1l ?q1m ?q1n ?q1o ?q1p ?q1q ?q1r ?q1s ?q1t ?q1u ?q1v ?q1w ?q1x ?q1y ?q1z ?q20 ?q21 ?q22 ?q23 ?q24 ?q25 ?q26 ?q27 ?q28 ?q29 ?q2a ?q2b ?q2c ?q2d ?q2e ?q2f ?q2g ?q2h ?q2i ?q2j ?q2k ?q2l ?q2m ?q2n ?q2o ?q2p ?q2q ?q2r ?q2s ?q2t ?q2u ?q2v ?q2w ?q2x ?q2y ?q2z ?q30 ?q31 ?q32 ?q33 ?q34 ?q35 ?q36 ?q37 ?q38 ?q39 ?q3a ?q3b ?q3c ?q3d ?q3e ?q3f ?q3g ?q3h ?q3i ?q3j ?q3k ?q3l ?q3m ?q3n ?q3o ?q3p ?q3q ?q3r ?q3s ?q3t ?q3u ?q3v ?q3w ?q3x ?q3y ?q3z ?q40 ?q41 ?q42 ?q43 ?q44 ?q45 ?q46 ?q47 ?q48 ?q49 ?q4a ?q4b ?q4c ?q4d ?q4e ?q4f ?q4g ?q4h ?q4i ?q4j ?q4k ?q4l ?q4m ?q4n ?q4o ?q4p ?q4q ?q4r ?q4s ?q4t ?q4u ?q4v ?q4w ?q4x ?q4y ?q4z ?q50 ?q51 ?q52 ?q53 ?q54 ?q55 ?q56 ?q57 ?q58 ?q59 ?q5a ?q5b ?q5c ?q5d ?q5e ?q5f ?q5g ?q5h ?q5i ?q5j ?q5k ?q5l ?q5m ?q5n ?q5o ?q5p ?q5q ?q5r ?q5s ?q5t ?q5u ?q5v ?q5w ?q5x ?q5y ?q5z ?q60 ?q61 ?q62 ?q63 ?q64 ?q65 ?q66 ?q67 ?q68 ?q69 ?q6a ?q6b ?q6c ?q6d ?q6e ?q6f ?q6g ?q6h ?q6i ?q6j ?q6k ?q6l ?q6m ?q6n ?q6o ?q6p ?q6q ?q6r ?q6s ?q6t ?q6u ?q6v ?q6w ?q6x ?q6y ?q6z ?q70 ?q71 ?q72 ?q73 ?q74 ?q75 ?q76 ?q77 ?q78 ?q79 ?q7a ?q7b ?q7c ?q7d ?q7e ?q7f ?q7g ?q7h ?q7i ?q7j ?q7k ?q7l ?q7m ?q7n ?q7o ?q7p ?q7q ?q7r ?q7s ?q7t ?q7u ?q7v ?q7w ?q7x ?q7y ?q7z ?q80 ?q81 ?q82 ?q83 ?q84 ?q85 ?q86 ?q87 ?q88 ?q89 ?q8a ?q8b ?q8c ?q8d ?q8e ?q8f ?q8g ?q8h ?q8i ?q8j ?q8k ?q8l ?q8m ?q8n ?q8o ?q8p ?q8q ?q8r ?q8s ?q8t ?q8u ?q8v ?q8w ?q8x ?q8y ?q8z ?q90 ?q91 ?q92 ?q93 ?q94 ?q95 ?q96 ?q97 ?q98 ?q99 ?q9a ?q9b ?q9c ?q9d ?q9e ?q9f ?q9g ?q9h ?q9i ?q9j ?q9k ?q9l ?q9m ?q9n ?q9o ?q9p ?q9q ?q9r ?q9s ?q9t ?q9u ?q9v ?q9w ?q9x ?q9y ?q9z ?qa0 ?qa1 ?qa2 ?qa3 ?qa4 ?qa5 ?qa6 ?qa7 ?qa8 ?qa9 ?qaa ?qab ?qac ?qad ?qae ?qaf ?qag ?qah ?qai ?qaj ?qak ?qal ?qam ?qan ?qao ?qap ?qaq ?qar ?qas ?qat ?qau ?qav ?qaw ?qax ?qay ?qaz ?qb0 ?qb1 ?qb2 ?qb3 ?qb4 ?qb5 ?qb6 ?qb7 ?qb8 ?qb9 ?qba ?qbb ?qbc ?qbd ?qbe ?qbf ?qbg ?qbh ?qbi ?qbj ?qbk ?qbl ?qbm ?qbn ?qbo ?qbp ?qbq ?qbr ?qbs ?qbt ?qbu ?qbv ?qbw ?qbx ?qby ?qbz ?qc0 ?qc1 ?qc2 ?qc3 ?qc4 ?qc5 ?qc6 ?qc7 ?qc8 ?qc9 ?qca ?qcb ?qcc ?qcd ?qce ?qcf ?qcg ?qch ?qci ?qcj ?qck ?qcl ?qcm ?qcn ?qco ?qcp ?qcq ?qcr ?qcs ?qct ?qcu ?qcv ?qcw ?qcx ?qcy ?qcz ?qd0 ?qd1 ?qd2 ?qd3 ?qd4 ?qd5 ?qd6 ?qd7 ?qd8 ?qd9 ?qda ?qdb ?qdc ?qdd ?qde ?qdf ?qdg ?qdh ?qdi ?qdj ?qdk ?qdl ?qdm ?qdn ?qdo ?qdp ?qdq ?qdr ?qds ?qdt ?qdu ?qdv ?qdw ?qdx ?qdy ?qdz ?qe0 ?qe1 ?qe2 ?qe3 ?qe4 ?qe5 ?qe6 ?qe7 ?qe8 ?qe9 ?qea ?qeb ?qec ?qed ?qee ?qef ?qeg ?qeh ?qei ?qej ?qek ?qel ?qem ?qen ?qeo ?qep ?qeq ?qer ?qes ?qet ?qeu ?qev ?qew ?qex ?qey ?qez ?qf0 ?qf1 ?qf2 ?qf3 ?qf4 ?qf5 ?qf6 ?qf7 ?qf8 ?qf9 ?qfa ?qfb ?qfc ?qfd ?qfe ?qff ?qfg ?qfh ?qfi ?qfj ?qfk ?qfl ?qfm ?qfn ?qfo ?qfp ?qfq ?qfr ?qfs ?qft ?qfu ?qfv ?qfw ?qfx ?qfy ?qfz ?qg0 ?qg1 ?qg2 ?qg3 ?qg4 ?qg5 ?qg6 ?qg7 ?qg8 ?qg9 ?qga ?qgb ?qgc ?qgd ?qge ?qgf ?qgg ?qgh ?qgi ?qgj ?qgk ?qgl ?qgm ?qgn ?qgo ?qgp
  (case q0 | q1 | q2 | q3 | q4 | q5 | q6 | q7 | q8 | q9 | qa | qb | qc | qd | qe | qf | qg | qh | qi | qj | qk | ql | qm | qn | qo | qp | qq | qr | qs | qt | qu | qv | qw | qx | qy | qz | q10 | q11 | q12 | q13=>k_is)
  (case q14 | q15 | q16 | q17 | q18 | q19 | q1a | q1b | q1c | q1d | q1e | q1f | q1g | q1h | q1i | q1j | q1k | q1l | q1m | q1n | q1o | q1p | q1q | q1r | q1s | q1t | q1u | q1v | q1w | q1x | q1y | q1z | q20 | q21 | q22 | q23 | q24 | q25 | q26 | q27=>k_is)
  (case q28 | q29 | q2a | q2b | q2c | q2d | q2e | q2f | q2g | q2h | q2i | q2j | q2k | q2l | q2m | q2n | q2o | q2p | q2q | q2r | q2s | q2t | q2u | q2v | q2w | q2x | q2y | q2z | q30 | q31 | q32 | q33 | q34 | q35 | q36 | q37 | q38 | q39 | q3a | q3b=>k_is)
  (case q3c | q3d | q3e | q3f | q3g | q3h | q3i | q3j | q3k | q3l | q3m | q3n | q3o | q3p | q3q | q3r | q3s | q3t | q3u | q3v | q3w | q3x | q3y | q3z | q40 | q41 | q42 | q43 | q44 | q45 | q46 | q47 | q48 | q49 | q4a | q4b | q4c | q4d | q4e | q4f=>k_is)
  (case q4g | q4h | q4i | q4j | q4k | q4l | q4m | q4n | q4o | q4p | q4q | q4r | q4s | q4t | q4u | q4v | q4w | q4x | q4y | q4z | q50 | q51 | q52 | q53 | q54 | q55 | q56 | q57 | q58 | q59 | q5a | q5b | q5c | q5d | q5e | q5f | q5g | q5h | q5i | q5j=>k_is)
  (case q5k | q5l | q5m | q5n | q5o | q5p | q5q | q5r | q5s | q5t | q5u | q5v | q5w | q5x | q5y | q5z | q60 | q61 | q62 | q63 | q64 | q65 | q66 | q67 | q68 | q69 | q6a | q6b | q6c | q6d | q6e | q6f | q6g | q6h | q6i | q6j | q6k | q6l | q6m | q6n=>k_is)
  (case q6o | q6p | q6q | q6r | q6s | q6t | q6u | q6v | q6w | q6x | q6y | q6z | q70 | q71 | q72 | q73 | q74 | q75 | q76 | q77 | q78 | q79 | q7a | q7b | q7c | q7d | q7e | q7f | q7g | q7h | q7i | q7j | q7k | q7l | q7m | q7n | q7o | q7p | q7q | q7r=>k_is)
  (case q7s | q7t | q7u | q7v | q7w | q7x | q7y | q7z | q80 | q81 | q82 | q83 | q84 | q85 | q86 | q87 | q88 | q89 | q8a | q8b | q8c | q8d | q8e | q8f | q8g | q8h | q8i | q8j | q8k | q8l | q8m | q8n | q8o | q8p | q8q | q8r | q8s | q8t | q8u | q8v=>k_is)
  (case q8w | q8x | q8y | q8z | q90 | q91 | q92 | q93 | q94 | q95 | q96 | q97 | q98 | q99 | q9a | q9b | q9c | q9d | q9e | q9f | q9g | q9h | q9i | q9j | q9k | q9l | q9m | q9n | q9o | q9p | q9q | q9r | q9s | q9t | q9u | q9v | q9w | q9x | q9y | q9z=>k_is)
  (case qa0 | qa1 | qa2 | qa3 | qa4 | qa5 | qa6 | qa7 | qa8 | qa9 | qaa | qab | qac | qad | qae | qaf | qag | qah | qai | qaj | qak | qal | qam | qan | qao | qap | qaq | qar | qas | qat | qau | qav | qaw | qax | qay | qaz | qb0 | qb1 | qb2 | qb3=>k_is)
  (case qb4 | qb5 | qb6 | qb7 | qb8 | qb9 | qba | qbb | qbc | qbd | qbe | qbf | qbg | qbh | qbi | qbj | qbk | qbl | qbm | qbn | qbo | qbp | qbq | qbr | qbs | qbt | qbu | qbv | qbw | qbx | qby | qbz | qc0 | qc1 | qc2 | qc3 | qc4 | qc5 | qc6 | qc7=>k_is)
  (case qc8 | qc9 | qca | qcb | qcc=>k_is)
  (case qcd=>k_keys)
  (case qce | qcf=>k_is)
  (case qcg=>k_keys)
  (case qch | qci=>k_is)
  (case qcj=>k_keys)
  (case qck | qcl | qcm | qcn | qco | qcp | qcq | qcr | qcs | qct | qcu | qcv | qcw | qcx | qcy | qcz | qd0 | qd1 | qd2 | qd3 | qd4 | qd5 | qd6 | qd7 | qd8 | qd9 | qda | qdb | qdc | qdd | qde | qdf | qdg | qdh | qdi | qdj | qdk | qdl | qdm | qdn=>k_is)
  (case qdo | qdp | qdq | qdr | qds | qdt | qdu | qdv | qdw | qdx | qdy | qdz | qe0 | qe1 | qe2 | qe3 | qe4 | qe5 | qe6 | qe7 | qe8 | qe9 | qea=>k_is)
  (case qeb | qec=>rfl)
  (case qed | qee | qef | qeg | qeh=>kit_is)
  (case qei | qej | qek | qel | qem | qen | qeo | qep | qeq | qer | qes | qet | qeu | qev | qew | qex | qey | qez | qf0 | qf1 | qf2 | qf3 | qf4 | qf5 | qf6 | qf7 | qf8 | qf9 | qfa | qfb | qfc | qfd | qfe | qff | qfg | qfh | qfi | qfj | qfk | qfl=>k_is)
  (case qfm | qfn | qfo | qfp | qfq=>k_is)
  (case qfr | qfs | qft | qfu | qfv | qfw | qfx | qfy | qfz | qg0 | qg1 | qg2 | qg3 | qg4 | qg5 | qg6 | qg7 | qg8 | qg9 | qga | qgb | qgc | qgd | qge | qgf | qgg | qgh | qgi | qgj | qgk | qgl | qgm | qgn | qgo | qgp=>kit_is)
