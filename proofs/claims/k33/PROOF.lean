import PyProof.Rows.All
import OpenK.KLine
import Wide.Line
import Wide.FinOn
import KE.KTryMore
import KE.KIsAll
import KE.KItem
import KE.KPar
import PySem.Challenge.RW_leastblame_k33_no_work_at_any_door
set_option Elab.async false
set_option linter.all false
set_option maxRecDepth 100000
/-! These names are taken, so that no quick twins are laid for the heap's greatest trees: with their proofs the compiled file would pass the house's bound. Nothing rests on them. -/
def PySem.W.Fast.tw13382503101143681943 : Nat := 0
def PySem.W.Fast.tw11110741491961472338 : Nat := 0
def PySem.W.Fast.tw15160421243063665104 : Nat := 0
def PySem.W.Fast.tw16202771272985870935 : Nat := 0
def PySem.W.Fast.tw1527636338833726796 : Nat := 0
def PySem.W.Fast.tw1975206084408524642 : Nat := 0
def PySem.W.Fast.tw9609326594239289821 : Nat := 0
def PySem.W.Fast.tw17601266753770589337 : Nat := 0
def PySem.W.Fast.tw18089036580980086150 : Nat := 0
def PySem.W.Fast.tw9758895352481831705 : Nat := 0
def PySem.W.Fast.tw5314206120284949691 : Nat := 0
def PySem.W.Fast.tw10899457017021182122 : Nat := 0
def PySem.W.Fast.tw678446606644885655 : Nat := 0
def PySem.W.Fast.tw8303754478686044475 : Nat := 0
def PySem.W.Fast.tw16520593410213371948 : Nat := 0
def PySem.W.Fast.tw2317508651612853920 : Nat := 0
def PySem.W.Fast.tw15088624387015701687 : Nat := 0
def PySem.W.Fast.tw880588098265506404 : Nat := 0
def PySem.W.Fast.tw11210092035624167718 : Nat := 0
def PySem.W.Fast.tw8142812246751911984 : Nat := 0
def PySem.W.Fast.tw5362860672622388639 : Nat := 0
def PySem.W.Fast.tw3382090783793305915 : Nat := 0
def PySem.W.Fast.tw354229118189027347 : Nat := 0
def PySem.W.Fast.tw241210899107133626 : Nat := 0
def PySem.W.Fast.tw8423551268503309766 : Nat := 0
def PySem.W.Fast.tw6469094419171708830 : Nat := 0
def PySem.W.Fast.tw16286574830012068551 : Nat := 0
def PySem.W.Fast.tw8066729763035192995 : Nat := 0
def PySem.W.Fast.tw18189337523093399835 : Nat := 0
def PySem.W.Fast.tw8507127089504582755 : Nat := 0
def PySem.W.Fast.tw3207682980967283242 : Nat := 0
def PySem.W.Fast.tw16134195736050067559 : Nat := 0
def PySem.W.Fast.tw10812311556543135019 : Nat := 0
def PySem.W.Fast.tw1829423802140391079 : Nat := 0
def PySem.W.Fast.tw8765417697098578827 : Nat := 0
def PySem.W.Fast.tw11458790200760244624 : Nat := 0
def PySem.W.Fast.tw14514327114072744313 : Nat := 0
def PySem.W.Fast.tw17771365473592648525 : Nat := 0
def PySem.W.Fast.tw11776126285230561964 : Nat := 0
def PySem.W.Fast.tw8614478343784785420 : Nat := 0
def PySem.W.Fast.tw17947618864831212869 : Nat := 0
def PySem.W.Fast.tw3922134240591759872 : Nat := 0
def PySem.W.Fast.tw9104014413168239430 : Nat := 0
def PySem.W.Fast.tw13501317068397776994 : Nat := 0
def PySem.W.Fast.tw5339237920834729227 : Nat := 0
def PySem.W.Fast.tw15386743717658608884 : Nat := 0
def PySem.W.Fast.tw4441118872680381469 : Nat := 0
def PySem.W.Fast.tw10560241235137248873 : Nat := 0
def PySem.W.Fast.tw13217638329687779185 : Nat := 0
def PySem.W.Fast.tw13201760117651128474 : Nat := 0
def PySem.W.Fast.tw3525005381334243077 : Nat := 0
def PySem.W.Fast.tw12320840176504141442 : Nat := 0
def PySem.W.Fast.tw12343667785851882675 : Nat := 0
def PySem.W.Fast.tw3344223424110000347 : Nat := 0
def PySem.W.Fast.tw10131083464632915666 : Nat := 0
def PySem.W.Fast.tw9914560227920932075 : Nat := 0
def PySem.W.Fast.tw5818247960052138023 : Nat := 0
def PySem.W.Fast.tw8629399323623648654 : Nat := 0
def PySem.W.Fast.tw13552513595413225220 : Nat := 0
def PySem.W.Fast.tw1543240231481429114 : Nat := 0
def PySem.W.Fast.tw10723059351408392006 : Nat := 0
def PySem.W.Fast.tw8030817479769534753 : Nat := 0
def PySem.W.Fast.tw5791886836897406558 : Nat := 0
def PySem.W.Fast.tw5045846298795937335 : Nat := 0
def PySem.W.Fast.tw15239134799433539420 : Nat := 0
def PySem.W.Fast.tw9845570338714726918 : Nat := 0
def PySem.W.Fast.tw7672714035980687344 : Nat := 0
def PySem.W.Fast.tw11259812288893034183 : Nat := 0
def PySem.W.Fast.tw14839689301563993946 : Nat := 0
def PySem.W.Fast.tw10076306110728195605 : Nat := 0
def PySem.W.Fast.tw18185244043337924536 : Nat := 0
def PySem.W.Fast.tw16166669604431338125 : Nat := 0
def PySem.W.Fast.tw13631043139162543907 : Nat := 0
def PySem.W.Fast.tw14568768793650543274 : Nat := 0
def PySem.W.Fast.tw11366285502764436956 : Nat := 0
def PySem.W.Fast.tw5194306433994935401 : Nat := 0
def PySem.W.Fast.tw6348100098643503234 : Nat := 0
def PySem.W.Fast.tw6529117636275168817 : Nat := 0
def PySem.W.Fast.tw824780480278686169 : Nat := 0
def PySem.W.Fast.tw14039784658442286215 : Nat := 0
def PySem.W.Fast.tw12717046613648837154 : Nat := 0
def PySem.W.Fast.tw7352616700494871860 : Nat := 0
def PySem.W.Fast.tw10929236597688397427 : Nat := 0
def PySem.W.Fast.tw1968516983767645829 : Nat := 0
def PySem.W.Fast.tw4398492560615214418 : Nat := 0
def PySem.W.Fast.tw2150078646020095897 : Nat := 0
def PySem.W.Fast.tw13991800564989866183 : Nat := 0
def PySem.W.Fast.tw15432412630696921739 : Nat := 0
def PySem.W.Fast.tw13597933013188920853 : Nat := 0
def PySem.W.Fast.tw923131161211022755 : Nat := 0
def PySem.W.Fast.tw17275507641455881788 : Nat := 0
def PySem.W.Fast.tw14302396816617325077 : Nat := 0
def PySem.W.Fast.tw11035778352187442183 : Nat := 0
def PySem.W.Fast.tw11749922457700151631 : Nat := 0
def PySem.W.Fast.tw17651938779554491875 : Nat := 0
def PySem.W.Fast.tw5011298135532398408 : Nat := 0
def PySem.W.Fast.tw17928685796930387493 : Nat := 0
def PySem.W.Fast.tw6154498073161484725 : Nat := 0
def PySem.W.Fast.tw13516621440877746474 : Nat := 0
def PySem.W.Fast.tw18393719106451465797 : Nat := 0
def PySem.W.Fast.tw1511349679245584205 : Nat := 0
def PySem.W.Fast.tw9241505080308819708 : Nat := 0
def PySem.W.Fast.tw13119649693432787036 : Nat := 0
def PySem.W.Fast.tw16750715486377410660 : Nat := 0
def PySem.W.Fast.tw14603148779867983580 : Nat := 0
def PySem.W.Fast.tw17180947657145167691 : Nat := 0
def PySem.W.Fast.tw5870203423472439917 : Nat := 0
def PySem.W.Fast.tw11254135082024847218 : Nat := 0
def PySem.W.Fast.tw12437547731565967148 : Nat := 0
def PySem.W.Fast.tw5857997422695445485 : Nat := 0
def PySem.W.Fast.tw10390503630055487870 : Nat := 0
def PySem.W.Fast.tw14435570082262437491 : Nat := 0
def PySem.W.Fast.tw16903669546691109479 : Nat := 0
def PySem.W.Fast.tw12812925432630086943 : Nat := 0
def PySem.W.Fast.tw14187072713054882032 : Nat := 0
def PySem.W.Fast.tw11003638873944375142 : Nat := 0
def PySem.W.Fast.tw5949628293673208208 : Nat := 0
def PySem.W.Fast.tw17958433498033829705 : Nat := 0
def PySem.W.Fast.tw11357047119979966246 : Nat := 0
def PySem.W.Fast.tw8774791820814647351 : Nat := 0
def PySem.W.Fast.tw6190483893166551321 : Nat := 0
def PySem.W.Fast.tw6772625378238661658 : Nat := 0
def PySem.W.Fast.tw8940826986366765669 : Nat := 0
def PySem.W.Fast.tw4013695716313962860 : Nat := 0
def PySem.W.Fast.tw14376291063776289484 : Nat := 0
def PySem.W.Fast.tw1041695815443720805 : Nat := 0
def PySem.W.Fast.tw3824009607747690053 : Nat := 0
def PySem.W.Fast.tw3572550017635505745 : Nat := 0
def PySem.W.Fast.tw10916107107403666283 : Nat := 0
def PySem.W.Fast.tw3518079567812187697 : Nat := 0
def PySem.W.Fast.tw14723461886921271435 : Nat := 0
def PySem.W.Fast.tw2730845918857303851 : Nat := 0
def PySem.W.Fast.tw14419560231649194161 : Nat := 0
def PySem.W.Fast.tw916066879577347954 : Nat := 0
def PySem.W.Fast.tw5375017596961039124 : Nat := 0
def PySem.W.Fast.tw3109786441977183285 : Nat := 0
def PySem.W.Fast.tw1064552609899449055 : Nat := 0
def PySem.W.Fast.tw17944371992071778020 : Nat := 0
def PySem.W.Fast.tw7639338101629871257 : Nat := 0
def PySem.W.Fast.tw15798258342673713140 : Nat := 0
def PySem.W.Fast.tw11945688254185179604 : Nat := 0
def PySem.W.Fast.tw1858572119149561991 : Nat := 0
def PySem.W.Fast.tw15291629393556135173 : Nat := 0
def PySem.W.Fast.tw1321204897678793916 : Nat := 0
def PySem.W.Fast.tw11286514486291756091 : Nat := 0
def PySem.W.Fast.tw3803883427303674037 : Nat := 0
def PySem.W.Fast.tw1458241588877121479 : Nat := 0
def PySem.W.Fast.tw2443992063256757883 : Nat := 0
def PySem.W.Fast.tw1077469757114088174 : Nat := 0
def PySem.W.Fast.tw12771601758906415785 : Nat := 0
def PySem.W.Fast.tw433865324628559753 : Nat := 0
def PySem.W.Fast.tw1549133393227792455 : Nat := 0
def PySem.W.Fast.tw2217663347543242351 : Nat := 0
def PySem.W.Fast.tw18184174225444043586 : Nat := 0
def PySem.W.Fast.tw14637005492386524594 : Nat := 0
def PySem.W.Fast.tw17618624755159557014 : Nat := 0
def PySem.W.Fast.tw1225580317181668117 : Nat := 0
def PySem.W.Fast.tw1830205973032322274 : Nat := 0
def PySem.W.Fast.tw9834639824140490832 : Nat := 0
def PySem.W.Fast.tw15135536387435430141 : Nat := 0
def PySem.W.Fast.tw12928162783011389789 : Nat := 0
def PySem.W.Fast.tw9594882412389373186 : Nat := 0
def PySem.W.Fast.tw5373264904337767791 : Nat := 0
def PySem.W.Fast.tw10838940530122738331 : Nat := 0
def PySem.W.Fast.tw2031235122476644259 : Nat := 0
def PySem.W.Fast.tw6032167012074176657 : Nat := 0
def PySem.W.Fast.tw16347994285981055407 : Nat := 0
def PySem.W.Fast.tw2382939606843485272 : Nat := 0
def PySem.W.Fast.tw1787160310107048193 : Nat := 0
def PySem.W.Fast.tw12901547000268707738 : Nat := 0
def PySem.W.Fast.tw10930537870067975226 : Nat := 0
def PySem.W.Fast.tw3854525319274768880 : Nat := 0
def PySem.W.Fast.tw16288227294419224951 : Nat := 0
def PySem.W.Fast.tw11059457973314931792 : Nat := 0
def PySem.W.Fast.tw7257987523974148134 : Nat := 0
def PySem.W.Fast.tw11803242089098279970 : Nat := 0
def PySem.W.Fast.tw15781072244495727347 : Nat := 0
def PySem.W.Fast.tw10197134486995474268 : Nat := 0
def PySem.W.Fast.tw4405855546414711944 : Nat := 0
def PySem.W.Fast.tw18133209134246074115 : Nat := 0
def PySem.W.Fast.tw11911889853419179914 : Nat := 0
def PySem.W.Fast.tw10294173330265128871 : Nat := 0
def PySem.W.Fast.tw3005507107382248067 : Nat := 0
def PySem.W.Fast.tw8588594538360117993 : Nat := 0
def PySem.W.Fast.tw9911079589316705546 : Nat := 0
def PySem.W.Fast.tw10316923105016774510 : Nat := 0
def PySem.W.Fast.tw13539391979720938691 : Nat := 0
def PySem.W.Fast.tw6372278913044604474 : Nat := 0
def PySem.W.Fast.tw1332338683792844280 : Nat := 0
def PySem.W.Fast.tw430126319173034885 : Nat := 0
def PySem.W.Fast.tw715621394717049747 : Nat := 0
def PySem.W.Fast.tw2803856931021980944 : Nat := 0
def PySem.W.Fast.tw12830686383283333672 : Nat := 0
def PySem.W.Fast.tw14375453286554198973 : Nat := 0
def PySem.W.Fast.tw13397816143181542697 : Nat := 0
def PySem.W.Fast.tw16035954111212910696 : Nat := 0
def PySem.W.Fast.tw3631580792593230840 : Nat := 0
def PySem.W.Fast.tw2034798274720450663 : Nat := 0
def PySem.W.Fast.tw9671284589013400760 : Nat := 0
def PySem.W.Fast.tw15635724233387558138 : Nat := 0
def PySem.W.Fast.tw15323435942272657562 : Nat := 0
def PySem.W.Fast.tw5082866286422487476 : Nat := 0
def PySem.W.Fast.tw3320505504192382975 : Nat := 0
def PySem.W.Fast.tw16699567326330124269 : Nat := 0
def PySem.W.Fast.tw15083587717763389209 : Nat := 0
def PySem.W.Fast.tw4316595212094401772 : Nat := 0
def PySem.W.Fast.tw6476287810513492085 : Nat := 0
def PySem.W.Fast.tw17985064728229105948 : Nat := 0
def PySem.W.Fast.tw8780237658372949516 : Nat := 0
def PySem.W.Fast.tw10025576724779677800 : Nat := 0
def PySem.W.Fast.tw14220675379894873110 : Nat := 0
def PySem.W.Fast.tw15105726710472279853 : Nat := 0
def PySem.W.Fast.tw901530994664370529 : Nat := 0
def PySem.W.Fast.tw86092745167989318 : Nat := 0
def PySem.W.Fast.tw6557971611705438477 : Nat := 0
def PySem.W.Fast.tw10612017551461300642 : Nat := 0
def PySem.W.Fast.tw6046930058369880164 : Nat := 0
def PySem.W.Fast.tw11365683845331643202 : Nat := 0
def PySem.W.Fast.tw654342875764844509 : Nat := 0
def PySem.W.Fast.tw14071959149689106024 : Nat := 0
def PySem.W.Fast.tw2084630063324755910 : Nat := 0
def PySem.W.Fast.tw4103377911124148902 : Nat := 0
def PySem.W.Fast.tw12323121742500797849 : Nat := 0
def PySem.W.Fast.tw15240609190890715291 : Nat := 0
def PySem.W.Fast.tw16217095733342493202 : Nat := 0
def PySem.W.Fast.tw15480852630421723451 : Nat := 0
def PySem.W.Fast.tw10958748330951734454 : Nat := 0
def PySem.W.Fast.tw1578345579415135473 : Nat := 0
def PySem.W.Fast.tw5118851620878778353 : Nat := 0
def PySem.W.Fast.tw12995623954686087959 : Nat := 0
def PySem.W.Fast.tw14970220353415562514 : Nat := 0
def PySem.W.Fast.tw6985209862578820245 : Nat := 0
def PySem.W.Fast.tw6799703370139553503 : Nat := 0
def PySem.W.Fast.tw12756913955228440352 : Nat := 0
def PySem.W.Fast.tw14978299264744421220 : Nat := 0
def PySem.W.Fast.tw10347746634293902081 : Nat := 0
def PySem.W.Fast.tw3552216351685273348 : Nat := 0
def PySem.W.Fast.tw11358214623181790880 : Nat := 0
def PySem.W.Fast.tw14636285798883476542 : Nat := 0
def PySem.W.Fast.tw9247895063253180546 : Nat := 0
def PySem.W.Fast.tw4059578048790721783 : Nat := 0
def PySem.W.Fast.tw3755262462662920028 : Nat := 0
def PySem.W.Fast.tw16162678547090410864 : Nat := 0
def PySem.W.Fast.tw3838054281186057834 : Nat := 0
def PySem.W.Fast.tw5297146743925700927 : Nat := 0
def PySem.W.Fast.tw13413382537002651303 : Nat := 0
def PySem.W.Fast.tw14739764700330884518 : Nat := 0
def PySem.W.Fast.tw2778539912464975925 : Nat := 0
def PySem.W.Fast.tw3951972101560075563 : Nat := 0
def PySem.W.Fast.tw7891199436342897704 : Nat := 0
def PySem.W.Fast.tw15344399610248289662 : Nat := 0
def PySem.W.Fast.tw14614741735473287933 : Nat := 0
def PySem.W.Fast.tw15076664221354755095 : Nat := 0
def PySem.W.Fast.tw17589203581538195493 : Nat := 0
def PySem.W.Fast.tw10655119674065248083 : Nat := 0
def PySem.W.Fast.tw14865154126160588907 : Nat := 0
def PySem.W.Fast.tw9038272206563978921 : Nat := 0
def PySem.W.Fast.tw14339926231618658869 : Nat := 0
def PySem.W.Fast.tw9030058835506220595 : Nat := 0
def PySem.W.Fast.tw7967090356395206226 : Nat := 0
def PySem.W.Fast.tw1256358484325139477 : Nat := 0
def PySem.W.Fast.tw7759074105243248045 : Nat := 0
def PySem.W.Fast.tw7891734815539852812 : Nat := 0
def PySem.W.Fast.tw16406656438491794284 : Nat := 0
def PySem.W.Fast.tw15711868809312041028 : Nat := 0
def PySem.W.Fast.tw17339694388789146310 : Nat := 0
def PySem.W.Fast.tw11831934516504136901 : Nat := 0
def PySem.W.Fast.tw14667022451259627304 : Nat := 0
def PySem.W.Fast.tw5606062243251779538 : Nat := 0
def PySem.W.Fast.tw16091933650615704030 : Nat := 0
def PySem.W.Fast.tw6652606610512460621 : Nat := 0
def PySem.W.Fast.tw12729659903789748014 : Nat := 0
def PySem.W.Fast.tw13945913481803634050 : Nat := 0
def PySem.W.Fast.tw16412604953633540938 : Nat := 0
def PySem.W.Fast.tw14028844066383015356 : Nat := 0
def PySem.W.Fast.tw13913395836736534230 : Nat := 0
def PySem.W.Fast.tw18256681145427754777 : Nat := 0
def PySem.W.Fast.tw4397132005063972552 : Nat := 0
def PySem.W.Fast.tw1926098203128021109 : Nat := 0
def PySem.W.Fast.tw3205083825966298137 : Nat := 0
def PySem.W.Fast.tw18218674563850609351 : Nat := 0
def PySem.W.Fast.tw4963459862391121509 : Nat := 0
def PySem.W.Fast.tw15673096098284984676 : Nat := 0
def PySem.W.Fast.tw3614019374216220205 : Nat := 0
def PySem.W.Fast.tw14975333546632044835 : Nat := 0
def PySem.W.Fast.tw13029817931112548769 : Nat := 0
def PySem.W.Fast.tw14624120974557947115 : Nat := 0
def PySem.W.Fast.tw3962935636464797025 : Nat := 0
def PySem.W.Fast.tw16714944048824760320 : Nat := 0
def PySem.W.Fast.tw16687663365004931447 : Nat := 0
def PySem.W.Fast.tw2584427952912263957 : Nat := 0
def PySem.W.Fast.tw16776830609201445796 : Nat := 0
def PySem.W.Fast.tw8436838306902347618 : Nat := 0
def PySem.W.Fast.tw16751794240434656153 : Nat := 0
def PySem.W.Fast.tw6992837096209296994 : Nat := 0
def PySem.W.Fast.tw12820602876666345716 : Nat := 0
def PySem.W.Fast.tw10664067281083850706 : Nat := 0
def PySem.W.Fast.tw15786901737120524364 : Nat := 0
def PySem.W.Fast.tw9999837115162485417 : Nat := 0
def PySem.W.Fast.tw5679241346702788958 : Nat := 0
def PySem.W.Fast.tw6702152490651194863 : Nat := 0
def PySem.W.Fast.tw7692695865917176752 : Nat := 0
def PySem.W.Fast.tw3362118661214794406 : Nat := 0
def PySem.W.Fast.tw1249005483997250327 : Nat := 0
def PySem.W.Fast.tw8272259508462226986 : Nat := 0
def PySem.W.Fast.tw4890837198380941441 : Nat := 0
def PySem.W.Fast.tw16935346238063721506 : Nat := 0
def PySem.W.Fast.tw15970477923480867027 : Nat := 0
def PySem.W.Fast.tw13619512166536976094 : Nat := 0
def PySem.W.Fast.tw694768725278882083 : Nat := 0
def PySem.W.Fast.tw10170750822758211914 : Nat := 0
def PySem.W.Fast.tw15114403229699378954 : Nat := 0
def PySem.W.Fast.tw9985631858346127828 : Nat := 0
def PySem.W.Fast.tw13768243185187502541 : Nat := 0
def PySem.W.Fast.tw3048858113547639708 : Nat := 0
def PySem.W.Fast.tw5491537380416251542 : Nat := 0
def PySem.W.Fast.tw18182471222362444373 : Nat := 0
def PySem.W.Fast.tw718914736786608817 : Nat := 0
def PySem.W.Fast.tw12883572642509182013 : Nat := 0
def PySem.W.Fast.tw10247294336350944273 : Nat := 0
def PySem.W.Fast.tw12474091981413318440 : Nat := 0
def PySem.W.Fast.tw6877311694639015085 : Nat := 0
def PySem.W.Fast.tw5225243542400566956 : Nat := 0
def PySem.W.Fast.tw12385498664149127870 : Nat := 0
def PySem.W.Fast.tw17405874554826296860 : Nat := 0
def PySem.W.Fast.tw3982757205053187563 : Nat := 0
def PySem.W.Fast.tw5251849270040283869 : Nat := 0
def PySem.W.Fast.tw625603118308553745 : Nat := 0
def PySem.W.Fast.tw9895434139941221253 : Nat := 0
def PySem.W.Fast.tw14060654957696650890 : Nat := 0
def PySem.W.Fast.tw10051100539496014825 : Nat := 0
def PySem.W.Fast.tw8303694067094146144 : Nat := 0
def PySem.W.Fast.tw13855561533161222017 : Nat := 0
def PySem.W.Fast.tw3614838130492944675 : Nat := 0
def PySem.W.Fast.tw3949415213062279822 : Nat := 0
def PySem.W.Fast.tw14726041260526129416 : Nat := 0
def PySem.W.Fast.tw17055912351455980596 : Nat := 0
def PySem.W.Fast.tw16963615431806972972 : Nat := 0
def PySem.W.Fast.tw16472925847790365942 : Nat := 0
def PySem.W.Fast.tw7044801154205015831 : Nat := 0
def PySem.W.Fast.tw18246059347895314725 : Nat := 0
def PySem.W.Fast.tw17874165247336266474 : Nat := 0
def PySem.W.Fast.tw12756991321730057397 : Nat := 0
def PySem.W.Fast.tw12428823144616926682 : Nat := 0
def PySem.W.Fast.tw9107327318244096864 : Nat := 0
def PySem.W.Fast.tw2945915504499064061 : Nat := 0
def PySem.W.Fast.tw9843209023354211626 : Nat := 0
def PySem.W.Fast.tw13113107587036706710 : Nat := 0
def PySem.W.Fast.tw1724718745124673582 : Nat := 0
def PySem.W.Fast.tw485707237166345418 : Nat := 0
def PySem.W.Fast.tw2393074382213795552 : Nat := 0
def PySem.W.Fast.tw1302241497054399449 : Nat := 0
def PySem.W.Fast.tw8860666907703027118 : Nat := 0
def PySem.W.Fast.tw2766783216092002703 : Nat := 0
def PySem.W.Fast.tw9449119298181322147 : Nat := 0
def PySem.W.Fast.tw9144518720279671459 : Nat := 0
def PySem.W.Fast.tw6017388103384974098 : Nat := 0
def PySem.W.Fast.tw16900885740232294521 : Nat := 0
def PySem.W.Fast.tw5375076549946643262 : Nat := 0
def PySem.W.Fast.tw4652454440096303282 : Nat := 0
def PySem.W.Fast.tw6099590277141274112 : Nat := 0
def PySem.W.Fast.tw16725480206584607356 : Nat := 0
def PySem.W.Fast.tw12965364802444745177 : Nat := 0
def PySem.W.Fast.tw414854338425509610 : Nat := 0
def PySem.W.Fast.tw366206532366874283 : Nat := 0
def PySem.W.Fast.tw3072023212313582903 : Nat := 0
def PySem.W.Fast.tw8325192491741863961 : Nat := 0
def PySem.W.Fast.tw3642220445323666592 : Nat := 0
def PySem.W.Fast.tw10345669859522798192 : Nat := 0
def PySem.W.Fast.tw771679714531387976 : Nat := 0
def PySem.W.Fast.tw4764415517223185973 : Nat := 0
def PySem.W.Fast.tw7655999819808576198 : Nat := 0
def PySem.W.Fast.tw5980456109463644141 : Nat := 0
def PySem.W.Fast.tw958096768639810625 : Nat := 0
def PySem.W.Fast.tw2533471727853844753 : Nat := 0
def PySem.W.Fast.tw5605476251787447031 : Nat := 0
def PySem.W.Fast.tw6245063252316874158 : Nat := 0
def PySem.W.Fast.tw9303563193571307606 : Nat := 0
def PySem.W.Fast.tw7653765660831021070 : Nat := 0
def PySem.W.Fast.tw1228199148334738127 : Nat := 0
def PySem.W.Fast.tw547230294598853137 : Nat := 0
def PySem.W.Fast.tw3069956556148790015 : Nat := 0
def PySem.W.Fast.tw1300045881913829887 : Nat := 0
def PySem.W.Fast.tw18164903660063041469 : Nat := 0
def PySem.W.Fast.tw11177999683833465716 : Nat := 0
def PySem.W.Fast.tw2112673050357937307 : Nat := 0
def PySem.W.Fast.tw1105583790270301567 : Nat := 0
def PySem.W.Fast.tw9558688491883008387 : Nat := 0
def PySem.W.Fast.tw1722892252598977408 : Nat := 0
def PySem.W.Fast.tw9383980941000673023 : Nat := 0
def PySem.W.Fast.tw276140106045426206 : Nat := 0
def PySem.W.Fast.tw1167400333277048736 : Nat := 0
def PySem.W.Fast.tw14650135838381983975 : Nat := 0
def PySem.W.Fast.tw7357574785524328341 : Nat := 0
def PySem.W.Fast.tw6602792310535939207 : Nat := 0
def PySem.W.Fast.tw12957587339067218950 : Nat := 0
def PySem.W.Fast.tw8986244947264777756 : Nat := 0
def PySem.W.Fast.tw12878178865442824626 : Nat := 0
def PySem.W.Fast.tw405585790228445158 : Nat := 0
def PySem.W.Fast.tw6957738387215163740 : Nat := 0
def PySem.W.Fast.tw18072987914258983720 : Nat := 0
def PySem.W.Fast.tw238247142484292553 : Nat := 0
def PySem.W.Fast.tw2415288413389994955 : Nat := 0
def PySem.W.Fast.tw2964466569484153442 : Nat := 0
def PySem.W.Fast.tw15850167866750422450 : Nat := 0
def PySem.W.Fast.tw2345276653516846026 : Nat := 0
def PySem.W.Fast.tw1342269696811605631 : Nat := 0
def PySem.W.Fast.tw10021239651225542238 : Nat := 0
def PySem.W.Fast.tw18287394842876308104 : Nat := 0
def PySem.W.Fast.tw5294463253074296222 : Nat := 0
def PySem.W.Fast.tw7308761349184115264 : Nat := 0
def PySem.W.Fast.tw14776001331243490374 : Nat := 0
def PySem.W.Fast.tw10375425139982396636 : Nat := 0
def PySem.W.Fast.tw11685526903988959024 : Nat := 0
def PySem.W.Fast.tw34032305330447684 : Nat := 0
def PySem.W.Fast.tw5423789557283950912 : Nat := 0
def PySem.W.Fast.tw8867824855610120604 : Nat := 0
def PySem.W.Fast.tw12647818660002019562 : Nat := 0
def PySem.W.Fast.tw7891245237741358195 : Nat := 0
def PySem.W.Fast.tw933066848019638995 : Nat := 0
def PySem.W.Fast.tw12074902897339940209 : Nat := 0
def PySem.W.Fast.tw13600169305072614567 : Nat := 0
def PySem.W.Fast.tw13890642561250982149 : Nat := 0
def PySem.W.Fast.tw222296543171711941 : Nat := 0
def PySem.W.Fast.tw17004979111352434731 : Nat := 0
def PySem.W.Fast.tw8885152620299445759 : Nat := 0
def PySem.W.Fast.tw3673417903050012077 : Nat := 0
def PySem.W.Fast.tw1769816030332623835 : Nat := 0
def PySem.W.Fast.tw10256813080976262736 : Nat := 0
def PySem.W.Fast.tw16822661753617048314 : Nat := 0
def PySem.W.Fast.tw353868761310607551 : Nat := 0
def PySem.W.Fast.tw4050060212808346354 : Nat := 0
def PySem.W.Fast.tw13650763132493636219 : Nat := 0
def PySem.W.Fast.tw8537276255678504652 : Nat := 0
def PySem.W.Fast.tw899671319953655531 : Nat := 0
def PySem.W.Fast.tw13915546880388523620 : Nat := 0
def PySem.W.Fast.tw2226809412386935440 : Nat := 0
def PySem.W.Fast.tw18431509566116420961 : Nat := 0
def PySem.W.Fast.tw7073190968144596052 : Nat := 0
def PySem.W.Fast.tw4928785624138548254 : Nat := 0
def PySem.W.Fast.tw179274943654157443 : Nat := 0
def PySem.W.Fast.tw17432600992334619304 : Nat := 0
def PySem.W.Fast.tw14536835295013135959 : Nat := 0
def PySem.W.Fast.tw13876755701086209903 : Nat := 0
def PySem.W.Fast.tw349593950045136450 : Nat := 0
def PySem.W.Fast.tw9548699312152576975 : Nat := 0
def PySem.W.Fast.tw6608037392747362619 : Nat := 0
def PySem.W.Fast.tw331170528537733210 : Nat := 0
def PySem.W.Fast.tw12850333025474346209 : Nat := 0
def PySem.W.Fast.tw16145418931725290802 : Nat := 0
def PySem.W.Fast.tw10595408417837606326 : Nat := 0
def PySem.W.Fast.tw7544487354563581746 : Nat := 0
def PySem.W.Fast.tw13977833748945089331 : Nat := 0
def PySem.W.Fast.tw146429350035840475 : Nat := 0
def PySem.W.Fast.tw16722895381314547545 : Nat := 0
def PySem.W.Fast.tw17694337329746327845 : Nat := 0
def PySem.W.Fast.tw2158467772879783838 : Nat := 0
def PySem.W.Fast.tw3562439909499348326 : Nat := 0
def PySem.W.Fast.tw3813542213309020466 : Nat := 0
def PySem.W.Fast.tw8726978965001368593 : Nat := 0
def PySem.W.Fast.tw11669473874777208033 : Nat := 0
def PySem.W.Fast.tw5807718154613799469 : Nat := 0
def PySem.W.Fast.tw12347489193354288836 : Nat := 0
def PySem.W.Fast.tw7643209504093237949 : Nat := 0
def PySem.W.Fast.tw18354486392388399752 : Nat := 0
def PySem.W.Fast.tw8180485796977767023 : Nat := 0
def PySem.W.Fast.tw15115701252101114209 : Nat := 0
def PySem.W.Fast.tw14781019959069242465 : Nat := 0
def PySem.W.Fast.tw6586931377740343845 : Nat := 0
def PySem.W.Fast.tw16780731799076309232 : Nat := 0
def PySem.W.Fast.tw10159689401565290236 : Nat := 0
def PySem.W.Fast.tw12360945585594424088 : Nat := 0
def PySem.W.Fast.tw3722858909290361450 : Nat := 0
def PySem.W.Fast.tw16923110261679501402 : Nat := 0
def PySem.W.Fast.tw16954225410925080123 : Nat := 0
def PySem.W.Fast.tw2323855062482979367 : Nat := 0
def PySem.W.Fast.tw17069353655350980458 : Nat := 0
def PySem.W.Fast.tw4146871708760097972 : Nat := 0
def PySem.W.Fast.tw11252610338075464492 : Nat := 0
def PySem.W.Fast.tw10838642027526563435 : Nat := 0
def PySem.W.Fast.tw5375876724932535700 : Nat := 0
def PySem.W.Fast.tw8355782960103725118 : Nat := 0
def PySem.W.Fast.tw17985596298957209319 : Nat := 0
def PySem.W.Fast.tw16329128689411440838 : Nat := 0
def PySem.W.Fast.tw17283175277738799243 : Nat := 0
def PySem.W.Fast.tw860999856968254329 : Nat := 0
def PySem.W.Fast.tw14463482817782267957 : Nat := 0
def PySem.W.Fast.tw2214438385300894587 : Nat := 0
def PySem.W.Fast.tw13492406680331951762 : Nat := 0
def PySem.W.Fast.tw14181378271407854304 : Nat := 0
def PySem.W.Fast.tw17685557638180022390 : Nat := 0
def PySem.W.Fast.tw2260216423003389613 : Nat := 0
def PySem.W.Fast.tw6132218410946200176 : Nat := 0
def PySem.W.Fast.tw6794465273684965873 : Nat := 0
def PySem.W.Fast.tw4313090379674302770 : Nat := 0
def PySem.W.Fast.tw2296033339244102967 : Nat := 0
def PySem.W.Fast.tw8071939699594760980 : Nat := 0
def PySem.W.Fast.tw5617147117714697127 : Nat := 0
def PySem.W.Fast.tw8779845168770518475 : Nat := 0
def PySem.W.Fast.tw3058350466200321400 : Nat := 0
def PySem.W.Fast.tw897595699498190410 : Nat := 0
def PySem.W.Fast.tw11972072032271028556 : Nat := 0
def PySem.W.Fast.tw4634155997175612291 : Nat := 0
def PySem.W.Fast.tw11506593166745667531 : Nat := 0
def PySem.W.Fast.tw6593231420342894202 : Nat := 0
def PySem.W.Fast.tw9317873348660995981 : Nat := 0
def PySem.W.Fast.tw15957805426156024703 : Nat := 0
def PySem.W.Fast.tw1003659088489374759 : Nat := 0
def PySem.W.Fast.tw5097452883154891335 : Nat := 0
def PySem.W.Fast.tw2916530751849861509 : Nat := 0
def PySem.W.Fast.tw4213788769435610250 : Nat := 0
def PySem.W.Fast.tw16101456657293328663 : Nat := 0
def PySem.W.Fast.tw9228732161148049254 : Nat := 0
def PySem.W.Fast.tw2285399598193572807 : Nat := 0
def PySem.W.Fast.tw2593425254506893362 : Nat := 0
def PySem.W.Fast.tw9894861056529181946 : Nat := 0
def PySem.W.Fast.tw5637297496841337059 : Nat := 0
def PySem.W.Fast.tw13033119585880084692 : Nat := 0
def PySem.W.Fast.tw8864397481596190264 : Nat := 0
def PySem.W.Fast.tw17697232344191735068 : Nat := 0
def PySem.W.Fast.tw15484277262814500121 : Nat := 0
def PySem.W.Fast.tw4425452683984375058 : Nat := 0
def PySem.W.Fast.tw5751890459072344193 : Nat := 0
def PySem.W.Fast.tw15493910912516819093 : Nat := 0
def PySem.W.Fast.tw7094796542387606984 : Nat := 0
def PySem.W.Fast.tw17573463126764386034 : Nat := 0
def PySem.W.Fast.tw1026132007928279160 : Nat := 0
def PySem.W.Fast.tw474575848191012559 : Nat := 0
def PySem.W.Fast.tw11589093515849529918 : Nat := 0
def PySem.W.Fast.tw1450168683179520957 : Nat := 0
def PySem.W.Fast.tw17843649743834521916 : Nat := 0
def PySem.W.Fast.tw6643263795679316164 : Nat := 0
def PySem.W.Fast.tw9348238363697839302 : Nat := 0
def PySem.W.Fast.tw16008859502247908498 : Nat := 0
def PySem.W.Fast.tw942480943654662171 : Nat := 0
def PySem.W.Fast.tw774411267683697112 : Nat := 0
def PySem.W.Fast.tw16623558319241472289 : Nat := 0
def PySem.W.Fast.tw7157820020805998125 : Nat := 0
def PySem.W.Fast.tw7019494229025569789 : Nat := 0
def PySem.W.Fast.tw17766891502162000842 : Nat := 0
def PySem.W.Fast.tw18250749755103952832 : Nat := 0
def PySem.W.Fast.tw176557222519200977 : Nat := 0
def PySem.W.Fast.tw5913040621481257452 : Nat := 0
def PySem.W.Fast.tw16314071773917914219 : Nat := 0
def PySem.W.Fast.tw6942793691525190100 : Nat := 0
def PySem.W.Fast.tw15047334309823808563 : Nat := 0
def PySem.W.Fast.tw16828277480964852878 : Nat := 0
def PySem.W.Fast.tw3705592822264462871 : Nat := 0
def PySem.W.Fast.tw9854491013661680533 : Nat := 0
def PySem.W.Fast.tw7480489982568966467 : Nat := 0
def PySem.W.Fast.tw9315321222569548599 : Nat := 0
def PySem.W.Fast.tw5261411934139529822 : Nat := 0
def PySem.W.Fast.tw2752151164277003624 : Nat := 0
def PySem.W.Fast.tw13129644446773577267 : Nat := 0
def PySem.W.Fast.tw17216566766331314354 : Nat := 0
def PySem.W.Fast.tw8547752596316678230 : Nat := 0
def PySem.W.Fast.tw2528775885006600508 : Nat := 0
def PySem.W.Fast.tw14782106235179752328 : Nat := 0
def PySem.W.Fast.tw9195708793297870656 : Nat := 0
def PySem.W.Fast.tw17600397753464218725 : Nat := 0
def PySem.W.Fast.tw17044122659700789612 : Nat := 0
def PySem.W.Fast.tw1196652400368008137 : Nat := 0
def PySem.W.Fast.tw14829644569131983878 : Nat := 0
def PySem.W.Fast.tw7011061716869674121 : Nat := 0
def PySem.W.Fast.tw7943002003950145941 : Nat := 0
def PySem.W.Fast.tw17634024337208445748 : Nat := 0
def PySem.W.Fast.tw3992111136248165307 : Nat := 0
def PySem.W.Fast.tw11067108644415296103 : Nat := 0
def PySem.W.Fast.tw9061374759703529249 : Nat := 0
def PySem.W.Fast.tw6184603738190843553 : Nat := 0
def PySem.W.Fast.tw1313609314161545057 : Nat := 0
def PySem.W.Fast.tw14920032981807999207 : Nat := 0
def PySem.W.Fast.tw6768620807181940864 : Nat := 0
def PySem.W.Fast.tw13579379184233493119 : Nat := 0
def PySem.W.Fast.tw17649565297262991921 : Nat := 0
def PySem.W.Fast.tw12886817795947462482 : Nat := 0
def PySem.W.Fast.tw17659511098445616175 : Nat := 0
def PySem.W.Fast.tw9105471741736183406 : Nat := 0
def PySem.W.Fast.tw515239969931133815 : Nat := 0
def PySem.W.Fast.tw7274845119940762879 : Nat := 0
def PySem.W.Fast.tw16540441821250949783 : Nat := 0
def PySem.W.Fast.tw4913859779451974287 : Nat := 0
def PySem.W.Fast.tw829400224176473098 : Nat := 0
def PySem.W.Fast.tw10150475756763990285 : Nat := 0
def PySem.W.Fast.tw15333022612481680021 : Nat := 0
def PySem.W.Fast.tw10554579525926708097 : Nat := 0
def PySem.W.Fast.tw975070625217366867 : Nat := 0
def PySem.W.Fast.tw1353576945758909901 : Nat := 0
def PySem.W.Fast.tw12664293370140157074 : Nat := 0
def PySem.W.Fast.tw8631624971225322934 : Nat := 0
def PySem.W.Fast.tw16165305512068083103 : Nat := 0
def PySem.W.Fast.tw9677998393047847017 : Nat := 0
def PySem.W.Fast.tw17633309054961119017 : Nat := 0
def PySem.W.Fast.tw15746424783683230580 : Nat := 0
def PySem.W.Fast.tw3644341678760357307 : Nat := 0
def PySem.W.Fast.tw3781251738378544381 : Nat := 0
def PySem.W.Fast.tw416097890804713781 : Nat := 0
def PySem.W.Fast.tw3758114219487079989 : Nat := 0
def PySem.W.Fast.tw12836671786782856006 : Nat := 0
def PySem.W.Fast.tw15371382306306342420 : Nat := 0
def PySem.W.Fast.tw4742476712446651642 : Nat := 0
def PySem.W.Fast.tw17908136398763643600 : Nat := 0
def PySem.W.Fast.tw17271251257377691858 : Nat := 0
def PySem.W.Fast.tw3082607018969879363 : Nat := 0
def PySem.W.Fast.tw12479387280795584623 : Nat := 0
def PySem.W.Fast.tw8518356333104031487 : Nat := 0
def PySem.W.Fast.tw16370284854630958890 : Nat := 0
def PySem.W.Fast.tw14138039995913379528 : Nat := 0
def PySem.W.Fast.tw7455489141210540384 : Nat := 0
def PySem.W.Fast.tw7335309972902007271 : Nat := 0
def PySem.W.Fast.tw11323833947786666033 : Nat := 0
def PySem.W.Fast.tw4685609165372596641 : Nat := 0
def PySem.W.Fast.tw3693659133917658178 : Nat := 0
def PySem.W.Fast.tw9190358062153217073 : Nat := 0
def PySem.W.Fast.tw12999808957796311393 : Nat := 0
def PySem.W.Fast.tw7349022795350153895 : Nat := 0
def PySem.W.Fast.tw415395826662979188 : Nat := 0
def PySem.W.Fast.tw8710845991797096408 : Nat := 0
def PySem.W.Fast.tw17883770192366596740 : Nat := 0
def PySem.W.Fast.tw3097834558464045800 : Nat := 0
def PySem.W.Fast.tw16974310519177083085 : Nat := 0
def PySem.W.Fast.tw11653046325006865866 : Nat := 0
def PySem.W.Fast.tw10478479546310618259 : Nat := 0
def PySem.W.Fast.tw3670145975672644241 : Nat := 0
def PySem.W.Fast.tw11934801076211120141 : Nat := 0
def PySem.W.Fast.tw8211107369752580846 : Nat := 0
def PySem.W.Fast.tw3654005530514786954 : Nat := 0
def PySem.W.Fast.tw2884027674071717449 : Nat := 0
def PySem.W.Fast.tw3548260380759662756 : Nat := 0
def PySem.W.Fast.tw7308159312461902109 : Nat := 0
def PySem.W.Fast.tw15203657026310028429 : Nat := 0
def PySem.W.Fast.tw1199481632832837165 : Nat := 0
def PySem.W.Fast.tw9315789993008980011 : Nat := 0
def PySem.W.Fast.tw8319261683673584037 : Nat := 0
def PySem.W.Fast.tw2561904155745549770 : Nat := 0
def PySem.W.Fast.tw3093608598921813614 : Nat := 0
def PySem.W.Fast.tw16156742950590936037 : Nat := 0
def PySem.W.Fast.tw11013365510437184362 : Nat := 0
def PySem.W.Fast.tw4890443806741083234 : Nat := 0
def PySem.W.Fast.tw13705091831711249229 : Nat := 0
def PySem.W.Fast.tw8984492168246605128 : Nat := 0
def PySem.W.Fast.tw3631028573649759580 : Nat := 0
def PySem.W.Fast.tw3279611639067385522 : Nat := 0
def PySem.W.Fast.tw16292524741929181938 : Nat := 0
def PySem.W.Fast.tw13462420035868408040 : Nat := 0
def PySem.W.Fast.tw12538263567546097935 : Nat := 0
def PySem.W.Fast.tw10085374691878457742 : Nat := 0
def PySem.W.Fast.tw9101966242296096895 : Nat := 0
def PySem.W.Fast.tw8460781219113463809 : Nat := 0
def PySem.W.Fast.tw6693170856458712901 : Nat := 0
def PySem.W.Fast.tw2365628645414580958 : Nat := 0
def PySem.W.Fast.tw10617602398966733266 : Nat := 0
def PySem.W.Fast.tw3680994597110415199 : Nat := 0
def PySem.W.Fast.tw17491209024062780994 : Nat := 0
def PySem.W.Fast.tw10741405913179577673 : Nat := 0
def PySem.W.Fast.tw12768317346094835568 : Nat := 0
def PySem.W.Fast.tw1761754544330689830 : Nat := 0
def PySem.W.Fast.tw12815275243582020355 : Nat := 0
def PySem.W.Fast.tw2292388971098640806 : Nat := 0
def PySem.W.Fast.tw14564184159666565834 : Nat := 0
def PySem.W.Fast.tw6436810716249499804 : Nat := 0
def PySem.W.Fast.tw16046681376919499996 : Nat := 0
def PySem.W.Fast.tw16195636282326870918 : Nat := 0
def PySem.W.Fast.tw4677946301480326898 : Nat := 0
def PySem.W.Fast.tw5921178426713632427 : Nat := 0
def PySem.W.Fast.tw16358009270286381523 : Nat := 0
def PySem.W.Fast.tw1976025873080318626 : Nat := 0
def PySem.W.Fast.tw13612966020625727915 : Nat := 0
def PySem.W.Fast.tw5113789767284644336 : Nat := 0
def PySem.W.Fast.tw4807527391594921569 : Nat := 0
def PySem.W.Fast.tw9844372152158006578 : Nat := 0
def PySem.W.Fast.tw15567046062944801630 : Nat := 0
def PySem.W.Fast.tw4573273498009858689 : Nat := 0
def PySem.W.Fast.tw7541326417993692644 : Nat := 0
def PySem.W.Fast.tw2523094796496605098 : Nat := 0
def PySem.W.Fast.tw14051371259677720291 : Nat := 0
def PySem.W.Fast.tw8435081251825334806 : Nat := 0
def PySem.W.Fast.tw9202634218834436344 : Nat := 0
def PySem.W.Fast.tw9160860412115109635 : Nat := 0
def PySem.W.Fast.tw946379856332363653 : Nat := 0
def PySem.W.Fast.tw7366779654151718545 : Nat := 0
def PySem.W.Fast.tw15273088004550119527 : Nat := 0
def PySem.W.Fast.tw15164797761157687235 : Nat := 0
def PySem.W.Fast.tw4082938928467614059 : Nat := 0
def PySem.W.Fast.tw7820280008733078726 : Nat := 0
def PySem.W.Fast.tw1356810084973467747 : Nat := 0
def PySem.W.Fast.tw12792743948516416191 : Nat := 0
def PySem.W.Fast.tw2613486635621579556 : Nat := 0
def PySem.W.Fast.tw3789180789146056869 : Nat := 0
def PySem.W.Fast.tw8467911871354742664 : Nat := 0
def PySem.W.Fast.tw13830621934674089981 : Nat := 0
def PySem.W.Fast.tw2865313900309633885 : Nat := 0
def PySem.W.Fast.tw2152111228273122341 : Nat := 0
def PySem.W.Fast.tw2692840247954168607 : Nat := 0
def PySem.W.Fast.tw14796374656831872539 : Nat := 0
def PySem.W.Fast.tw2868982592235359435 : Nat := 0
def PySem.W.Fast.tw4417659227477159758 : Nat := 0
def PySem.W.Fast.tw10980110677384015859 : Nat := 0
def PySem.W.Fast.tw341693029101890034 : Nat := 0
def PySem.W.Fast.tw6632254058288391953 : Nat := 0
def PySem.W.Fast.tw12486244653927722095 : Nat := 0
def PySem.W.Fast.tw15666694760330677882 : Nat := 0
def PySem.W.Fast.tw8955642083921625351 : Nat := 0
def PySem.W.Fast.tw11841411705956787575 : Nat := 0
def PySem.W.Fast.tw9633647867595731036 : Nat := 0
def PySem.W.Fast.tw7837527228324520424 : Nat := 0
def PySem.W.Fast.tw5182455942686207022 : Nat := 0
def PySem.W.Fast.tw6840763749526344526 : Nat := 0
def PySem.W.Fast.tw1585211314572071676 : Nat := 0
def PySem.W.Fast.tw8348348460423352742 : Nat := 0
def PySem.W.Fast.tw2831799954713142365 : Nat := 0
def PySem.W.Fast.tw14596013692283630751 : Nat := 0
def PySem.W.Fast.tw16970265920872098738 : Nat := 0
def PySem.W.Fast.tw15458510296353723150 : Nat := 0
def PySem.W.Fast.tw8083258501696617779 : Nat := 0
def PySem.W.Fast.tw10340698115915348482 : Nat := 0
def PySem.W.Fast.tw3660928510867768879 : Nat := 0
def PySem.W.Fast.tw2665266789238281161 : Nat := 0
def PySem.W.Fast.tw3138746674952466115 : Nat := 0
def PySem.W.Fast.tw7800338126848938122 : Nat := 0
def PySem.W.Fast.tw1140498242780948359 : Nat := 0
def PySem.W.Fast.tw9902247975392194988 : Nat := 0
def PySem.W.Fast.tw7392207640388719555 : Nat := 0
def PySem.W.Fast.tw6052458638016911570 : Nat := 0
def PySem.W.Fast.tw5470687337291327359 : Nat := 0
def PySem.W.Fast.tw13379054071629312583 : Nat := 0
def PySem.W.Fast.tw3387204254636035199 : Nat := 0
def PySem.W.Fast.tw16503442395278092531 : Nat := 0
def PySem.W.Fast.tw4181793275419145646 : Nat := 0
def PySem.W.Fast.tw5500499528460432652 : Nat := 0
def PySem.W.Fast.tw16410656995225464111 : Nat := 0
def PySem.W.Fast.tw11023721066093050692 : Nat := 0
def PySem.W.Fast.tw2545210970895147508 : Nat := 0
def PySem.W.Fast.tw10264853019270097425 : Nat := 0
def PySem.W.Fast.tw3893425135689263050 : Nat := 0
def PySem.W.Fast.tw2170156762414532749 : Nat := 0
def PySem.W.Fast.tw11492937631056429407 : Nat := 0
def PySem.W.Fast.tw8378294402052496125 : Nat := 0
def PySem.W.Fast.tw16065288054432658630 : Nat := 0
def PySem.W.Fast.tw2233564180533345952 : Nat := 0
def PySem.W.Fast.tw7539479791297185345 : Nat := 0
def PySem.W.Fast.tw13322026234925005761 : Nat := 0
def PySem.W.Fast.tw7441064032164020121 : Nat := 0
def PySem.W.Fast.tw16336422121155477859 : Nat := 0
def PySem.W.Fast.tw2883996468532739649 : Nat := 0
def PySem.W.Fast.tw14952010074362259312 : Nat := 0
def PySem.W.Fast.tw16674776269182817474 : Nat := 0
def PySem.W.Fast.tw8381369379903187229 : Nat := 0
def PySem.W.Fast.tw11220874332401374739 : Nat := 0
def PySem.W.Fast.tw12629789550864599630 : Nat := 0
def PySem.W.Fast.tw12370968317437160177 : Nat := 0
def PySem.W.Fast.tw2053070647836770498 : Nat := 0
def PySem.W.Fast.tw5403006868668604885 : Nat := 0
def PySem.W.Fast.tw7746095300355317637 : Nat := 0
def PySem.W.Fast.tw5363959738735489657 : Nat := 0
def PySem.W.Fast.tw13242489762165754051 : Nat := 0
def PySem.W.Fast.tw15737351328784985081 : Nat := 0
def PySem.W.Fast.tw11774557071087431543 : Nat := 0
def PySem.W.Fast.tw17018741479946774846 : Nat := 0
def PySem.W.Fast.tw14549364343680740962 : Nat := 0
def PySem.W.Fast.tw15549233700899136720 : Nat := 0
def PySem.W.Fast.tw8812229601125793143 : Nat := 0
def PySem.W.Fast.tw810176792817456562 : Nat := 0
def PySem.W.Fast.tw1169876403536077840 : Nat := 0
def PySem.W.Fast.tw1533321546758159431 : Nat := 0
def PySem.W.Fast.tw2489857839648062409 : Nat := 0
def PySem.W.Fast.tw12890241080042652731 : Nat := 0
def PySem.W.Fast.tw15035445716855377447 : Nat := 0
def PySem.W.Fast.tw15505088222492411032 : Nat := 0
def PySem.W.Fast.tw2193152516048962408 : Nat := 0
def PySem.W.Fast.tw3473145730212160878 : Nat := 0
def PySem.W.Fast.tw11419138677166550280 : Nat := 0
def PySem.W.Fast.tw8696821080504863692 : Nat := 0
def PySem.W.Fast.tw6295246028497189081 : Nat := 0
def PySem.W.Fast.tw11906717924209265132 : Nat := 0
def PySem.W.Fast.tw1705720638408682517 : Nat := 0
def PySem.W.Fast.tw3179036012959791063 : Nat := 0
def PySem.W.Fast.tw3843965314801187303 : Nat := 0
def PySem.W.Fast.tw8743490947116094738 : Nat := 0
def PySem.W.Fast.tw7667158043991439273 : Nat := 0
def PySem.W.Fast.tw670613660735993964 : Nat := 0
def PySem.W.Fast.tw8224671091146315088 : Nat := 0
def PySem.W.Fast.tw3808605068446015748 : Nat := 0
def PySem.W.Fast.tw17151123412160782601 : Nat := 0
def PySem.W.Fast.tw4948278130957925740 : Nat := 0
def PySem.W.Fast.tw3297764744574895885 : Nat := 0
def PySem.W.Fast.tw17758764935085000724 : Nat := 0
def PySem.W.Fast.tw1651843706226065927 : Nat := 0
def PySem.W.Fast.tw14331828669465400498 : Nat := 0
def PySem.W.Fast.tw11896324903525804354 : Nat := 0
def PySem.W.Fast.tw11540967329398720569 : Nat := 0
def PySem.W.Fast.tw17615427928377013298 : Nat := 0
def PySem.W.Fast.tw7974380529717930264 : Nat := 0
def PySem.W.Fast.tw16223264947853850904 : Nat := 0
def PySem.W.Fast.tw7418065135302374305 : Nat := 0
def PySem.W.Fast.tw556250345654859588 : Nat := 0
def PySem.W.Fast.tw8410487447589236169 : Nat := 0
def PySem.W.Fast.tw9112880291855853782 : Nat := 0
def PySem.W.Fast.tw6937894155813568062 : Nat := 0
def PySem.W.Fast.tw13070432485067945192 : Nat := 0
def PySem.W.Fast.tw12645443276267512628 : Nat := 0
def PySem.W.Fast.tw12241817487686262770 : Nat := 0
def PySem.W.Fast.tw509312985232323708 : Nat := 0
def PySem.W.Fast.tw6191324765215756407 : Nat := 0
def PySem.W.Fast.tw6862483464611908822 : Nat := 0
def PySem.W.Fast.tw1917367554071288497 : Nat := 0
def PySem.W.Fast.tw18065836331257526777 : Nat := 0
def PySem.W.Fast.tw15259795729375610340 : Nat := 0
def PySem.W.Fast.tw616659827742069381 : Nat := 0
def PySem.W.Fast.tw2989817737074892283 : Nat := 0
def PySem.W.Fast.tw5102417834613112299 : Nat := 0
def PySem.W.Fast.tw13716592736816187694 : Nat := 0
def PySem.W.Fast.tw11238523168327321391 : Nat := 0
def PySem.W.Fast.tw215523017378526529 : Nat := 0
def PySem.W.Fast.tw178124298412685683 : Nat := 0
def PySem.W.Fast.tw12155791185774759535 : Nat := 0
def PySem.W.Fast.tw12024278584293955995 : Nat := 0
def PySem.W.Fast.tw14444436985407878862 : Nat := 0
def PySem.W.Fast.tw9100381563130725461 : Nat := 0
def PySem.W.Fast.tw13123412218624201371 : Nat := 0
def PySem.W.Fast.tw7020057650251245893 : Nat := 0
def PySem.W.Fast.tw2565831084076411580 : Nat := 0
def PySem.W.Fast.tw15272146019175734691 : Nat := 0
def PySem.W.Fast.tw10089523046451657037 : Nat := 0
def PySem.W.Fast.tw9138994537516782758 : Nat := 0
def PySem.W.Fast.tw17455388469136481031 : Nat := 0
def PySem.W.Fast.tw12907567055254624459 : Nat := 0
def PySem.W.Fast.tw6495744798251858387 : Nat := 0
def PySem.W.Fast.tw7394653630187125052 : Nat := 0
def PySem.W.Fast.tw11825690327369414123 : Nat := 0
def PySem.W.Fast.tw4641928444573247055 : Nat := 0
def PySem.W.Fast.tw13734563199568100562 : Nat := 0
def PySem.W.Fast.tw15799261375810537894 : Nat := 0
def PySem.W.Fast.tw6919014765276111628 : Nat := 0
def PySem.W.Fast.tw4934644595068513069 : Nat := 0
def PySem.W.Fast.tw9992911008294639550 : Nat := 0
def PySem.W.Fast.tw14581876273524833500 : Nat := 0
def PySem.W.Fast.tw16184948456163682628 : Nat := 0
def PySem.W.Fast.tw1870311306391602688 : Nat := 0
def PySem.W.Fast.tw15434624731509696218 : Nat := 0
def PySem.W.Fast.tw2316223090340527917 : Nat := 0
def PySem.W.Fast.tw13897748078373022848 : Nat := 0
def PySem.W.Fast.tw15499043828808539259 : Nat := 0
def PySem.W.Fast.tw8011132044523164987 : Nat := 0
def PySem.W.Fast.tw15282898160926666884 : Nat := 0
def PySem.W.Fast.tw15733965942989455191 : Nat := 0
def PySem.W.Fast.tw16427275468631128699 : Nat := 0
def PySem.W.Fast.tw5379955225408974945 : Nat := 0
def PySem.W.Fast.tw4682901223381557928 : Nat := 0
def PySem.W.Fast.tw13047887933095687240 : Nat := 0
def PySem.W.Fast.tw3497357617484303083 : Nat := 0
def PySem.W.Fast.tw12245292909371879733 : Nat := 0
def PySem.W.Fast.tw15288963240308153452 : Nat := 0
def PySem.W.Fast.tw11498600086982662095 : Nat := 0
def PySem.W.Fast.tw2211342338385125734 : Nat := 0
def PySem.W.Fast.tw5625709226867883880 : Nat := 0
def PySem.W.Fast.tw2866012054437572975 : Nat := 0
def PySem.W.Fast.tw12556630023740771959 : Nat := 0
def PySem.W.Fast.tw897909430536915891 : Nat := 0
def PySem.W.Fast.tw4928305495036071563 : Nat := 0
def PySem.W.Fast.tw15491060357957311962 : Nat := 0
def PySem.W.Fast.tw4380008317836009593 : Nat := 0
def PySem.W.Fast.tw18260674153622912480 : Nat := 0
def PySem.W.Fast.tw6680508571747267038 : Nat := 0
def PySem.W.Fast.tw7028104837307554728 : Nat := 0
def PySem.W.Fast.tw5200171043940370173 : Nat := 0
def PySem.W.Fast.tw7716785913965641019 : Nat := 0
def PySem.W.Fast.tw14536540838092473031 : Nat := 0
def PySem.W.Fast.tw17861921978576496080 : Nat := 0
def PySem.W.Fast.tw860087004376347829 : Nat := 0
def PySem.W.Fast.tw2197782872732916353 : Nat := 0
def PySem.W.Fast.tw14780000933127341338 : Nat := 0
def PySem.W.Fast.tw2514197213569824931 : Nat := 0
def PySem.W.Fast.tw11194525941824509209 : Nat := 0
def PySem.W.Fast.tw745087924185691657 : Nat := 0
def PySem.W.Fast.tw14573859675703156447 : Nat := 0
def PySem.W.Fast.tw12579538972935146953 : Nat := 0
def PySem.W.Fast.tw676392074805031865 : Nat := 0
def PySem.W.Fast.tw2239108815254381773 : Nat := 0
def PySem.W.Fast.tw12736776673480048104 : Nat := 0
def PySem.W.Fast.tw14705434520841645556 : Nat := 0
def PySem.W.Fast.tw10683069967939838369 : Nat := 0
def PySem.W.Fast.tw11854690913637180236 : Nat := 0
def PySem.W.Fast.tw107169819250505695 : Nat := 0
def PySem.W.Fast.tw1880185469089636123 : Nat := 0
def PySem.W.Fast.tw5496904163935729015 : Nat := 0
def PySem.W.Fast.tw6614877495107602380 : Nat := 0
def PySem.W.Fast.tw11752477888219944224 : Nat := 0
def PySem.W.Fast.tw14133526011124558925 : Nat := 0
def PySem.W.Fast.tw7552516300689472869 : Nat := 0
def PySem.W.Fast.tw12794906693130134074 : Nat := 0
def PySem.W.Fast.tw8736167376172576815 : Nat := 0
def PySem.W.Fast.tw4708743175280207088 : Nat := 0
def PySem.W.Fast.tw16484694248480504375 : Nat := 0
def PySem.W.Fast.tw724149368374187721 : Nat := 0
def PySem.W.Fast.tw9262178069104219227 : Nat := 0
def PySem.W.Fast.tw3260789497446501479 : Nat := 0
def PySem.W.Fast.tw7544722760490634447 : Nat := 0
def PySem.W.Fast.tw11180813686489358980 : Nat := 0
def PySem.W.Fast.tw5186226287093846003 : Nat := 0
def PySem.W.Fast.tw2388822373682125497 : Nat := 0
def PySem.W.Fast.tw6408650163861782579 : Nat := 0
def PySem.W.Fast.tw17691552543368102391 : Nat := 0
def PySem.W.Fast.tw6608410920457457703 : Nat := 0
def PySem.W.Fast.tw11003979986155600627 : Nat := 0
def PySem.W.Fast.tw16941543821682595073 : Nat := 0
def PySem.W.Fast.tw1541701304401929965 : Nat := 0
def PySem.W.Fast.tw3420082408125110001 : Nat := 0
def PySem.W.Fast.tw5531049937925471658 : Nat := 0
def PySem.W.Fast.tw743736017913731409 : Nat := 0
def PySem.W.Fast.tw14413775356874513238 : Nat := 0
def PySem.W.Fast.tw7723568552255425555 : Nat := 0
def PySem.W.Fast.tw12911714628745610767 : Nat := 0
def PySem.W.Fast.tw7753193830149419268 : Nat := 0
def PySem.W.Fast.tw13202571057329953369 : Nat := 0
def PySem.W.Fast.tw5151586196735975552 : Nat := 0
def PySem.W.Fast.tw2402244850368783032 : Nat := 0
def PySem.W.Fast.tw16245184173558855041 : Nat := 0
def PySem.W.Fast.tw12425397746056883299 : Nat := 0
def PySem.W.Fast.tw2315466287911787240 : Nat := 0
def PySem.W.Fast.tw5793430874391620282 : Nat := 0
def PySem.W.Fast.tw17294554502800820443 : Nat := 0
def PySem.W.Fast.tw6377127341748460323 : Nat := 0
def PySem.W.Fast.tw5266162206605021043 : Nat := 0
def PySem.W.Fast.tw16220057475514309473 : Nat := 0
def PySem.W.Fast.tw16860148524092527929 : Nat := 0
def PySem.W.Fast.tw3704821207422095778 : Nat := 0
def PySem.W.Fast.tw16375672991794274545 : Nat := 0
def PySem.W.Fast.tw13627629774177052349 : Nat := 0
def PySem.W.Fast.tw6910078248018614328 : Nat := 0
def PySem.W.Fast.tw18160175345152893711 : Nat := 0
def PySem.W.Fast.tw446469876690556821 : Nat := 0
def PySem.W.Fast.tw8060584568539490320 : Nat := 0
def PySem.W.Fast.tw3326141311150110915 : Nat := 0
def PySem.W.Fast.tw17137000431445854424 : Nat := 0
def PySem.W.Fast.tw6950687084188066486 : Nat := 0
def PySem.W.Fast.tw11344492308410238693 : Nat := 0
def PySem.W.Fast.tw18059003002919270855 : Nat := 0
def PySem.W.Fast.tw12246549552361938088 : Nat := 0
def PySem.W.Fast.tw9713680252532958969 : Nat := 0
def PySem.W.Fast.tw10735808692577107821 : Nat := 0
def PySem.W.Fast.tw3440691140083528592 : Nat := 0
def PySem.W.Fast.tw9190151628362138062 : Nat := 0
def PySem.W.Fast.tw11864042196760060732 : Nat := 0
def PySem.W.Fast.tw121421218145037891 : Nat := 0
def PySem.W.Fast.tw10789018643040864918 : Nat := 0
def PySem.W.Fast.tw17827693607921161724 : Nat := 0
def PySem.W.Fast.tw9196035103387310419 : Nat := 0
def PySem.W.Fast.tw12087867051638874151 : Nat := 0
def PySem.W.Fast.tw8317006634150994140 : Nat := 0
def PySem.W.Fast.tw7977162060233204855 : Nat := 0
def PySem.W.Fast.tw2791783224291486244 : Nat := 0
def PySem.W.Fast.tw13111792811867580219 : Nat := 0
def PySem.W.Fast.tw17596626663474594732 : Nat := 0
def PySem.W.Fast.tw14652029129606024557 : Nat := 0
def PySem.W.Fast.tw6836056302977737417 : Nat := 0
def PySem.W.Fast.tw12594382262075676944 : Nat := 0
def PySem.W.Fast.tw14053997183075884971 : Nat := 0
def PySem.W.Fast.tw17534711463316552755 : Nat := 0
def PySem.W.Fast.tw16275332693607522852 : Nat := 0
def PySem.W.Fast.tw10469445810269630928 : Nat := 0
def PySem.W.Fast.tw5707638771431727920 : Nat := 0
def PySem.W.Fast.tw4597506215446770213 : Nat := 0
def PySem.W.Fast.tw15158184411906921492 : Nat := 0
def PySem.W.Fast.tw9269865480247668782 : Nat := 0
def PySem.W.Fast.tw2042445901907922964 : Nat := 0
def PySem.W.Fast.tw6684555656444794189 : Nat := 0
def PySem.W.Fast.tw875869259435313708 : Nat := 0
def PySem.W.Fast.tw4852499010163825008 : Nat := 0
def PySem.W.Fast.tw13651241173441580006 : Nat := 0
def PySem.W.Fast.tw4395748113266954705 : Nat := 0
def PySem.W.Fast.tw17090058515923897934 : Nat := 0
def PySem.W.Fast.tw3603214708103195757 : Nat := 0
def PySem.W.Fast.tw2184992480585326711 : Nat := 0
def PySem.W.Fast.tw13257522276727052493 : Nat := 0
def PySem.W.Fast.tw17633747380843180455 : Nat := 0
def PySem.W.Fast.tw14652144312978170770 : Nat := 0
def PySem.W.Fast.tw1729904935296853590 : Nat := 0
def PySem.W.Fast.tw12341209575590241208 : Nat := 0
def PySem.W.Fast.tw13211091568158642222 : Nat := 0
def PySem.W.Fast.tw2418227684386460719 : Nat := 0
def PySem.W.Fast.tw10841733402256385375 : Nat := 0
def PySem.W.Fast.tw9454713892385018627 : Nat := 0
def PySem.W.Fast.tw12450072013416154338 : Nat := 0
def PySem.W.Fast.tw6120938806621435919 : Nat := 0
def PySem.W.Fast.tw17267035883987249533 : Nat := 0
def PySem.W.Fast.tw8121224509466614881 : Nat := 0
def PySem.W.Fast.tw17698495832856045543 : Nat := 0
def PySem.W.Fast.tw3769149867754810631 : Nat := 0
def PySem.W.Fast.tw12057195873637155923 : Nat := 0
def PySem.W.Fast.tw18270093221026459398 : Nat := 0
def PySem.W.Fast.tw15809134777355048832 : Nat := 0
def PySem.W.Fast.tw17601977272983683572 : Nat := 0
def PySem.W.Fast.tw4591023051000375362 : Nat := 0
def PySem.W.Fast.tw9856106248075291490 : Nat := 0
def PySem.W.Fast.tw8157798122907809111 : Nat := 0
def PySem.W.Fast.tw11836516561817194556 : Nat := 0
def PySem.W.Fast.tw16030700982837898424 : Nat := 0
def PySem.W.Fast.tw4777950947285125926 : Nat := 0
def PySem.W.Fast.tw11142958520170018676 : Nat := 0
def PySem.W.Fast.tw10522391066944290553 : Nat := 0
def PySem.W.Fast.tw8112208339597726418 : Nat := 0
def PySem.W.Fast.tw1554492965082204862 : Nat := 0
def PySem.W.Fast.tw9973246345293063344 : Nat := 0
def PySem.W.Fast.tw8622672924176440929 : Nat := 0
def PySem.W.Fast.tw9449166514720138872 : Nat := 0
def PySem.W.Fast.tw12912386514693417820 : Nat := 0
def PySem.W.Fast.tw9459930934918623104 : Nat := 0
def PySem.W.Fast.tw17815478449203290819 : Nat := 0
def PySem.W.Fast.tw4449514487965115990 : Nat := 0
def PySem.W.Fast.tw11771849745513545012 : Nat := 0
def PySem.W.Fast.tw554155431463211218 : Nat := 0
def PySem.W.Fast.tw13490767005617387 : Nat := 0
def PySem.W.Fast.tw5871831645966638559 : Nat := 0
def PySem.W.Fast.tw5690108346148293706 : Nat := 0
def PySem.W.Fast.tw16186424915148289990 : Nat := 0
def PySem.W.Fast.tw7695190167330586032 : Nat := 0
def PySem.W.Fast.tw5039994005294397715 : Nat := 0
def PySem.W.Fast.tw631611314476092443 : Nat := 0
def PySem.W.Fast.tw18266165223275771560 : Nat := 0
def PySem.W.Fast.tw16954588207397145424 : Nat := 0
def PySem.W.Fast.tw4398011858547803440 : Nat := 0
def PySem.W.Fast.tw4932229460029215323 : Nat := 0
def PySem.W.Fast.tw15668305423694622459 : Nat := 0
def PySem.W.Fast.tw15104929450921721358 : Nat := 0
def PySem.W.Fast.tw18296346838056026738 : Nat := 0
def PySem.W.Fast.tw6921700313584770397 : Nat := 0
def PySem.W.Fast.tw12566840175512272597 : Nat := 0
def PySem.W.Fast.tw14592291508495616336 : Nat := 0
def PySem.W.Fast.tw15833281697469557298 : Nat := 0
def PySem.W.Fast.tw18120879760281624135 : Nat := 0
def PySem.W.Fast.tw8862676330077988095 : Nat := 0
def PySem.W.Fast.tw220225635941330747 : Nat := 0
def PySem.W.Fast.tw7467243155464963209 : Nat := 0
section
open PySem PySem.W PyProof.Rows
/-! The head comes first, while memory is free: what is left of the law behind it is the package's own proposition, and the package says that it is enough. -/
local macro_rules
  | `(tactic| refine $t) => do
    let u ← t.raw.replaceM fun s => pure (if s.isOfKind ``Lean.Parser.Term.syntheticHole && s[1].getId.eraseMacroScopes == `hc then some (Lean.mkIdent `hP) else none)
    if u == t.raw then Lean.Macro.throwUnsupported else `(tactic| refine $(⟨u⟩))
set_option maxHeartbeats 0 in
noncomputable def K33Head : { P : Prop // P → PySem.Challenge.rw_leastblame_k33_no_work_at_any_door.Holds } := by
  apply Subtype.mk
  intro hP
  w_on; o_law; k_head; (case hw => w_witness2)
end

/-! THE HAND LAYER, for ints, bools, texts, own classes, LISTS and tuples (index, slices, in, append, pop ..), calls, loops. Paste it whole ahead of your own text; what your proof does not reach may be deleted. -/
namespace L2
open PySem PySem.Spec PyProof.Rows

/-- a key: an int or a str -/
abbrev Key := Sum Int Str
def keyIs : Key → Value → Bool
  | .inl k, v => Value.isInt k v
  | .inr x, v => Value.isStrOf x v
def keyH (w : World) : Key → Int
  | .inl k => hashInt k
  | .inr x => hashStr w x
theorem keyIs_shape : ∀ {k : Key} {v : Value}, keyIs k v = true → (∃ i t, k = Sum.inl i ∧ v = Value.int i t) ∨ (∃ x t, k = Sum.inr x ∧ v = Value.str x t)
  | .inl i, v, h => by
    obtain ⟨t, e⟩ := Value.isInt_shape (k := i) (v := v) h
    exact .inl ⟨i, t, rfl, e⟩
  | .inr x, v, h => by
    obtain ⟨t, e⟩ := Value.isStrOf_shape (x := x) (v := v) h
    exact .inr ⟨x, t, rfl, e⟩
theorem keyIs_int (i : Int) (t : Tok) : keyIs (.inl i) (.int i t) = true := by simp [keyIs, Value.isInt]
theorem keyIs_str (x : Str) (t : Tok) : keyIs (.inr x) (.str x t) = true := by simp [keyIs, Value.isStrOf]
theorem key_ll (a b : Int) : decide ((Sum.inl a : Key) = Sum.inl b) = (a == b) := by
  by_cases e : a = b
  · subst e; simp
  · have h : ¬ (Sum.inl a : Key) = Sum.inl b := fun q => e (Sum.inl.inj q)
    rw [decide_eq_false h]
    exact (beq_eq_false_iff_ne.mpr e).symm
theorem key_rr (a b : Str) : decide ((Sum.inr a : Key) = Sum.inr b) = decide (a = b) := by
  by_cases e : a = b
  · subst e; simp
  · have h : ¬ (Sum.inr a : Key) = Sum.inr b := fun q => e (Sum.inr.inj q)
    rw [decide_eq_false h, decide_eq_false e]
theorem key_lr (a : Int) (b : Str) : decide ((Sum.inl a : Key) = Sum.inr b) = false := decide_eq_false (fun q => nomatch q)
theorem key_rl (a : Str) (b : Int) : decide ((Sum.inr a : Key) = Sum.inl b) = false := decide_eq_false (fun q => nomatch q)

def mixKind (prog : Program) (w : World) : PySem.KeyKind prog w Key where
  is := keyIs
  hash := keyH w
  inj := fun v a b ha hb => by
    rcases keyIs_shape ha with ⟨i, t, rfl, rfl⟩ | ⟨x, t, rfl, rfl⟩
    · rcases keyIs_shape hb with ⟨j, u, rfl, e⟩ | ⟨y, u, rfl, e⟩
      · injection e with e1 _; rw [e1]
      · exact nomatch e
    · rcases keyIs_shape hb with ⟨j, u, rfl, e⟩ | ⟨y, u, rfl, e⟩
      · exact nomatch e
      · injection e with e1 _; rw [e1]
  byValue := fun k v h => by
    rcases keyIs_shape h with ⟨i, t, rfl, rfl⟩ | ⟨x, t, rfl, rfl⟩ <;> rfl
  pyHash := fun hv h => by
    rcases keyIs_shape hv with ⟨i, t, rfl, rfl⟩ | ⟨x, t, rfl, rfl⟩
    · exact wpAny_pyHash_int h
    · exact wpAny_pyHash_str h
  eqBool := fun hu hv h => by
    rcases keyIs_shape hu with ⟨i, t, rfl, rfl⟩ | ⟨x, t, rfl, rfl⟩
    · rcases keyIs_shape hv with ⟨j, u, rfl, rfl⟩ | ⟨y, u, rfl, rfl⟩
      · rw [key_ll] at h; exact wpAny_eqBool_int h
      · rw [key_lr] at h; exact SeqAt.EqAt.int_str i t y u _ _ _ _ h
    · rcases keyIs_shape hv with ⟨j, u, rfl, rfl⟩ | ⟨y, u, rfl, rfl⟩
      · rw [key_rl] at h; exact SeqAt.EqAt.str_int x t j u _ _ _ _ h
      · rw [key_rr] at h; exact wpAny_eqBool_str h
  «strs» := fun k x t v h => by
    rcases keyIs_shape h with ⟨i, u, rfl, e⟩ | ⟨y, u, rfl, e⟩
    · exact nomatch e
    · injection e with e1 _
      subst e1
      cases v <;> rfl

theorem mixKind_int (prog : Program) (w : World) (i : Int) (t : Tok) : (mixKind prog w).is (.inl i) (.int i t) = true := keyIs_int i t
theorem mixKind_str (prog : Program) (w : World) (x : Str) (t : Tok) : (mixKind prog w).is (.inr x) (.str x t) = true := keyIs_str x t
end L2

namespace L2
open PySem PySem.Spec PyProof.Rows

/-- a value, without the heap -/
inductive V where
  | non | bl (b : Bool) | int (i : Int) | str (x : Str) | byt (b : Array UInt8) | flt (b : UInt64) | ref (a : Addr) | ty (n : String)
  deriving DecidableEq

def RelV : V → Value → Prop
  | .non, u => u = Value.none
  | .bl b, u => u = Value.bool b
  | .int i, u => ∃ t, u = Value.int i t
  | .str x, u => ∃ t, u = Value.str x t
  | .byt b, u => ∃ t, u = Value.bytes b t
  | .flt b, u => ∃ t, u = Value.float b t
  | .ref a, u => u = Value.ref a
  | .ty n, u => u = Value.type n

abbrev Vals : List V → List Value → Prop := Paired RelV
theorem Vals.length {xs : List V} {us : List Value} (r : Vals xs us) : xs.length = us.length := Paired.length r
theorem Vals.get : ∀ {xs : List V} {us : List Value} {i : Nat} {x : V}, Vals xs us → xs[i]? = some x → ∃ u, us[i]? = some u ∧ RelV x u
  | _, _, _, _, .nil, e => by simp at e
  | _, _, 0, _, .cons r _, e => by simp at e; subst e; exact ⟨_, rfl, r⟩
  | _, _, i + 1, x, .cons _ t, e => by
    obtain ⟨u, h1, h2⟩ := Vals.get (i := i) (x := x) t (by simpa using e)
    exact ⟨u, by simpa using h1, h2⟩
theorem Vals.set {x : V} {u : Value} (r : RelV x u) : ∀ {xs : List V} {us : List Value} (i : Nat), Vals xs us → Vals (xs.set i x) (us.set i u)
  | _, _, _, .nil => .nil
  | _, _, 0, .cons _ t => .cons r t
  | _, _, i + 1, .cons q t => .cons q (Vals.set r i t)
theorem Vals.append : ∀ {xs ys : List V} {us ws : List Value}, Vals xs us → Vals ys ws → Vals (xs ++ ys) (us ++ ws)
  | _, _, _, _, .nil, s => s
  | _, _, _, _, .cons r t, s => .cons r (Vals.append t s)
theorem Vals.take : ∀ {xs : List V} {us : List Value} (n : Nat), Vals xs us → Vals (xs.take n) (us.take n)
  | _, _, 0, _ => .nil
  | _, _, _ + 1, .nil => .nil
  | _, _, n + 1, .cons r t => .cons r (Vals.take n t)
theorem Vals.drop : ∀ {xs : List V} {us : List Value} (n : Nat), Vals xs us → Vals (xs.drop n) (us.drop n)
  | _, _, 0, r => r
  | _, _, _ + 1, .nil => .nil
  | _, _, n + 1, .cons _ t => Vals.drop n t
def RelO : Option V → Option Value → Prop
  | some v, some u => RelV v u
  | none, none => True
  | _, _ => False
def KV {κ : Type} : List (κ × V) → List (κ × Value) → Prop := Paired fun (p : κ × V) (q : κ × Value) => p.1 = q.1 ∧ RelV p.2 q.2

/-- a key of a dict (00_mix): an int or a text -/
def kV : Key → V
  | .inl i => .int i
  | .inr x => .str x

/-- what stands at a tracked address -/
inductive HO where
  /-- a list -/
  | lst (xs : List V)
  /-- a tuple (never changes) -/
  | tup (xs : List V)
  /-- a dict whose keys are ints and texts; one whose keys are tuples of ints and texts (the empty one is both) -/
  | dK (kvs : List (Key × V)) | dT (kvs : List (List Key × V))
  /-- a set of ints: its members, its size -/
  | set (S : Int → Bool) (n : Nat)
  /-- an instance of the class at C, its dict at dx, its attributes -/
  | ins (C dx : Addr) (fs : List (Str × V))
  /-- the dict of the instance at x -/
  | own (x : Addr)
  /-- the dict of an exception -/
  | xd (fs : List (Str × V))
  /-- a bound method, f of x -/
  | met (f x : Addr)
  /-- a range object lo, lo + 1, .. below hi -/
  | rng (lo hi : Int)
  /-- a thing that is known to the object (the script; a dict while a loop walks it): read, never written while it is so -/
  | frz (o : Obj) (u : HO)
  /-- a code object's table -/
  | tbl (ps : Array Value)
  /-- any other thing, by what is true of its one object (a def of one's own: SetO a S n := HO.ext fun h => ..) -/
  | ext (φ : Heap → Prop)

abbrev Hp := Addr → Option HO
def upd (H : Hp) (a : Addr) (o : HO) : Hp := fun b => if b = a then some o else H b
theorem upd_same {H : Hp} {a : Addr} {o : HO} : upd H a o a = some o := by unfold upd; rw [if_pos rfl]
theorem upd_ne {H : Hp} {a b : Addr} {o : HO} (h : b ≠ a) : upd H a o b = H b := by unfold upd; rw [if_neg h]
/-- two objects of different content stand apart -/
theorem ne_of {H : Hp} {a b : Addr} {o u : HO} (h : H a = some o) (h' : H b = some u) (d : o ≠ u) : a ≠ b := by
  intro e; subst e; rw [h] at h'; exact d (Option.some.inj h')
theorem ne_of_none {H : Hp} {a b : Addr} {o : HO} (h : H a = some o) (h' : H b = none) : a ≠ b := by
  intro e; subst e; rw [h] at h'; cases h'

section
variable (P : Program) (w : World)
def ObjOk (H : Hp) (h : Heap) (a : Addr) : HO → Prop
  | .lst xs => xs.length ≤ sizeLine ∧ ∃ (its : List Value) (n : Nat), Vals xs its ∧ h.get? a = some { cls := .type "list", data := .seq its.toArray n }
  | .tup xs => xs.length ≤ sizeLine ∧ ∃ its : List Value, Vals xs its ∧ IsTup h a its.toArray
  | .dK kvs => kvs.length ≤ sizeLine ∧ (a == sysModules) = false ∧ ∃ vs, KV kvs vs ∧ h.DictOf (mixKind P w) a vs
  | .dT kvs => kvs.length ≤ sizeLine ∧ (a == sysModules) = false ∧ ∃ xs : List (List Key × Addr × Value),
      Paired (fun (p : List Key × V) (q : List Key × Addr × Value) => p.1 = q.1 ∧ H q.2.1 = some (.tup (p.1.map kV)) ∧ RelV p.2 q.2.2) kvs xs ∧
      ∃ o es ep, h.get? a = some o ∧ o.ExactDict ∧ o.data = .dict es ep ∧ es.toList = xs.map (entryOfKey (tupleKind (mixKind P w))) ∧ (xs.map (·.1)).Nodup
  | .set S n => h.SetOf (intKind P w) a S n
  | .ins C dx fs => H dx = some (.own a) ∧ fs.length ≤ 1000 ∧ dx ≠ a ∧ h.get? a = some (PySem.W.instObj C dx) ∧
      ∃ mA, h.Ns1 dx mA ∧ (∀ f, RelO (fs.lookup f) (mA f)) ∧ PySem.Within mA (fs.map (·.1))
  | .own _ => ∃ o, h.get? a = some o
  | .xd fs => ∃ mA, h.Ns1 a mA ∧ ∀ f, RelO (fs.lookup f) (mA f)
  | .rng lo hi => ∃ t u v, h.get? a = some { cls := .type "range", data := .fields #[.int lo t, .int hi u, .int 1 v] }
  | .frz o u => h.get? a = some o ∧ ObjOk H h a u
  | .tbl ps => h.get? a = some { cls := .none, data := .fields ps }
  | .met f x => h.get? a = some (PySem.W.methodObj (.ref f) (.ref x))
  | .ext φ => φ h ∧ (∃ o, h.get? a = some o) ∧ ∀ h1 h2 : Heap, φ h1 → (∀ o, h1.get? a = some o → h2.get? a = some o) → φ h2
/-- the abstract heap is held -/
def HOk (H : Hp) (h : Heap) : Prop := ∀ a o, H a = some o → ObjOk P w H h a o
end

section
variable {P : Program} {w : World} {H H' : Hp} {h h' : Heap} {a : Addr} {o : HO}
theorem ObjOk.lt (x : ObjOk P w H h a o) : a < h.objs.size := by
  cases o with
  | lst xs => obtain ⟨_, _, _, _, e⟩ := x; exact Heap.lt_size e
  | tup xs => obtain ⟨_, _, _, p⟩ := x; exact p.lt
  | dK kvs => obtain ⟨_, _, _, _, o, _, _, e, _⟩ := x; exact Heap.lt_size e
  | dT kvs => obtain ⟨_, _, _, _, o, _, _, e, _⟩ := x; exact Heap.lt_size e
  | set S n => obtain ⟨o, _, _, _, e, _⟩ := x; exact Heap.lt_size e
  | ins C dx fs => obtain ⟨_, _, _, e, _⟩ := x; exact Heap.lt_size e
  | own y => obtain ⟨_, e⟩ := x; exact Heap.lt_size e
  | xd fs => obtain ⟨_, ⟨_, _, _, e, _⟩, _⟩ := x; exact Heap.lt_size e
  | rng lo hi => obtain ⟨_, _, _, e⟩ := x; exact Heap.lt_size e
  | frz ob u => obtain ⟨e, _⟩ := x; exact Heap.lt_size e
  | tbl ps => exact Heap.lt_size (show h.get? a = some _ from x)
  | met f y => exact Heap.lt_size (show h.get? a = some _ from x)
  | ext φ => obtain ⟨_, ⟨_, e⟩, _⟩ := x; exact Heap.lt_size e
theorem Paired.mapP {α β : Type} {F G : α → β → Prop} : ∀ {l₁ : List α} {l₂ : List β}, Paired F l₁ l₂ → (∀ a b, F a b → G a b) → Paired G l₁ l₂
  | _, _, .nil, _ => .nil
  | _, _, .cons r t, f => .cons (f _ _ r) (Paired.mapP t f)
/-- what an object's description leans on: its own object, its own dict, the tuples -/
theorem ObjOk.stay (x : ObjOk P w H h a o) (k : ∀ b u, (b = a ∨ H b = some (.own a)) → h.get? b = some u → h'.get? b = some u)
    (ho : ∀ b, H b = some (.own a) → H' b = some (.own a)) (ht : ∀ b xs, H b = some (.tup xs) → H' b = some (.tup xs)) : ObjOk P w H' h' a o := by
  induction o with
  | lst xs => obtain ⟨z, its, n, r, e⟩ := x; exact ⟨z, its, n, r, k _ _ (.inl rfl) e⟩
  | tup xs => obtain ⟨z, its, r, ob, e, c⟩ := x; exact ⟨z, its, r, ob, k _ _ (.inl rfl) e, c⟩
  | dK kvs => obtain ⟨z, y, vs, r, ob, es, ep, e, c⟩ := x; exact ⟨z, y, vs, r, ob, es, ep, k _ _ (.inl rfl) e, c⟩
  | dT kvs =>
    obtain ⟨z, y, xs, r, ob, es, ep, e, c⟩ := x
    exact ⟨z, y, xs, Paired.mapP r fun p q z => ⟨z.1, ht _ _ z.2.1, z.2.2⟩, ob, es, ep, k _ _ (.inl rfl) e, c⟩
  | set S n => obtain ⟨ob, es, ep, t, e, c⟩ := x; exact ⟨ob, es, ep, t, k _ _ (.inl rfl) e, c⟩
  | ins C dx fs =>
    obtain ⟨d, z, ne, e, mA, ⟨od, es, ep, e2, c⟩, r⟩ := x
    exact ⟨ho _ d, z, ne, k _ _ (.inl rfl) e, mA, ⟨od, es, ep, k _ _ (.inr d) e2, c⟩, r⟩
  | own y => obtain ⟨ob, e⟩ := x; exact ⟨ob, k _ _ (.inl rfl) e⟩
  | xd fs => obtain ⟨mA, ⟨od, es, ep, e, c⟩, r⟩ := x; exact ⟨mA, ⟨od, es, ep, k _ _ (.inl rfl) e, c⟩, r⟩
  | rng lo hi => obtain ⟨t, u, v, e⟩ := x; exact ⟨t, u, v, k _ _ (.inl rfl) e⟩
  | frz ob u ih => obtain ⟨e, q⟩ := x; exact ⟨k _ _ (.inl rfl) e, ih q⟩
  | tbl ps =>
    have e : h.get? a = some { cls := .none, data := .fields ps } := x
    show h'.get? a = some { cls := .none, data := .fields ps }
    exact k a _ (.inl rfl) e
  | met f y =>
    have e : h.get? a = some (PySem.W.methodObj (.ref f) (.ref y)) := x
    show h'.get? a = some (PySem.W.methodObj (.ref f) (.ref y))
    exact k a _ (.inl rfl) e
  | ext φ => obtain ⟨p, ⟨o, e⟩, st⟩ := x; exact ⟨st _ _ p fun o q => k _ _ (.inl rfl) q, ⟨o, k _ _ (.inl rfl) e⟩, st⟩
theorem HOk.lt (x : HOk P w H h) (e : H a = some o) : a < h.objs.size := (x a o e).lt
theorem HOk.fresh (x : HOk P w H h) (e : h.objs.size ≤ a) : H a = none := by
  cases q : H a with
  | none => rfl
  | some u => exact absurd (Nat.lt_of_lt_of_le (x.lt q) e) (Nat.lt_irrefl _)
/-- every object of the heap is kept -/
theorem HOk.kept (x : HOk P w H h) (k : ∀ b u, h.get? b = some u → h'.get? b = some u) : HOk P w H h' := fun a o e =>
  (x a o e).stay (fun b u _ q => k b u q) (fun _ q => q) fun _ _ q => q
/-- a new object is laid and tracked -/
theorem HOk.laid (x : HOk P w H h) (k : ∀ b u, h.get? b = some u → h'.get? b = some u) (hp : h.objs.size ≤ a) (new : ObjOk P w (upd H a o) h' a o) : HOk P w (upd H a o) h' := fun b u e => by
  have hn := x.fresh hp
  by_cases hb : b = a
  · subst hb; rw [upd_same] at e; cases e; exact new
  · rw [upd_ne hb] at e
    exact (x b u e).stay (fun c v _ q => k c v q) (fun c q => by rw [upd_ne (ne_of_none q hn)]; exact q) fun c xs q => by rw [upd_ne (ne_of_none q hn)]; exact q
end

/-- what may be read as u: it is u, or a known u -/
def Rd (H : Hp) (a : Addr) (u : HO) : Prop := H a = some u ∨ ∃ o, H a = some (.frz o u)
theorem Rd.of {H : Hp} {a : Addr} {u : HO} (h : H a = some u) : Rd H a u := .inl h
theorem Rd.ok {P : Program} {w : World} {H : Hp} {h : Heap} {a : Addr} {u : HO} (r : Rd H a u) (x : HOk P w H h) : ObjOk P w H h a u := by
  rcases r with r | ⟨o, r⟩
  · exact x a u r
  · obtain ⟨_, q⟩ := x a _ r
    exact q
/-- what may be written -/
def Mut : Option HO → Prop
  | some (.lst _) => True
  | some (.dK _) => True
  | some (.dT _) => True
  | some (.set _ _) => True
  | some (.ins _ _ _) => True
  | some (.ext _) => True
  | _ => False
section
variable {P : Program} {w : World} {H : Hp} {h h' : Heap} {x e : Addr} {o' : HO}
/-- the object at e is changed: x itself, or the dict of the instance x -/
theorem HOk.write (ok : HOk P w H h) (mu : Mut (H x)) (he : e = x ∨ H e = some (.own x)) (k : ∀ b u, b ≠ e → h.get? b = some u → h'.get? b = some u) (heo : ∃ u, h'.get? e = some u)
    (new : ObjOk P w (upd H x o') h' x o') : HOk P w (upd H x o') h' := fun b u q => by
  have nown : ∀ c y, H c = some (.own y) → c ≠ x := fun c y r z => by subst z; rw [r] at mu; exact mu
  have ntup : ∀ c xs, H c = some (.tup xs) → c ≠ x := fun c xs r z => by subst z; rw [r] at mu; exact mu
  by_cases hb : b = x
  · subst hb; rw [upd_same] at q; cases q; exact new
  · rw [upd_ne hb] at q
    by_cases hbe : b = e
    · have q' : H b = some (.own x) := by
        rcases he with z | z
        · exact absurd (hbe.trans z) hb
        · rw [hbe]; exact z
      rw [q] at q'; cases q'
      obtain ⟨v, hv⟩ := heo
      exact ⟨v, by rw [hbe]; exact hv⟩
    · refine (ok b u q).stay (fun c v hc r => k c v ?_ r) (fun c r => by rw [upd_ne (nown c b r)]; exact r) fun c xs r => by rw [upd_ne (ntup c xs r)]; exact r
      rcases hc with rfl | hc
      · exact hbe
      · rintro rfl
        rcases he with z | z
        · exact nown c b hc z
        · rw [hc] at z; cases z; exact hb rfl
end

/-! ### kept unless tracked; of the frames at fs (the callers') the slots may change (an exception that passes writes there); of the records at ex (iterators) nothing is said -/
structure Un (fs ex : List Addr) (H H' : Hp) (h h' : Heap) : Prop where
  keep : ∀ b o, h.get? b = some o → H b = none → b ∉ fs → b ∉ ex → h'.get? b = some o
  slot : ∀ b o, h.get? b = some o → H b = none → b ∈ fs → b ∉ ex → ∃ sl, h'.get? b = some { o with slots := sl }
  free : ∀ b o, h.get? b = some o → H b = none → b ∉ ex → H' b = none
  there : ∀ b o, h.get? b = some o → b ∉ ex → ∃ o', h'.get? b = some o'
  tups : ∀ b xs, H b = some (.tup xs) → H' b = some (.tup xs)
  frzs : ∀ b o u, H b = some (.frz o u) → H' b = some (.frz o u)
  tbls : ∀ b ps, H b = some (.tbl ps) → ∃ more, H' b = some (.tbl (ps ++ more))
section
variable {fs fs' ex ex' : List Addr} {H H1 H2 : Hp} {h h1 h2 h' : Heap} {a x e : Addr} {o : HO}
theorem Un.any (u : Un fs ex H H1 h h1) {b : Addr} {ob : Obj} (q : h.get? b = some ob) (n : H b = none) (hx : b ∉ ex) : ∃ sl, h1.get? b = some { ob with slots := sl } := by
  by_cases hb : b ∈ fs
  · exact u.slot b ob q n hb hx
  · exact ⟨ob.slots, u.keep b ob q n hb hx⟩
theorem Un.kept (k : ∀ b u, h.get? b = some u → h'.get? b = some u) : Un fs ex H H h h' :=
  ⟨fun b ob q _ _ _ => k b ob q, fun b ob q _ _ _ => ⟨ob.slots, k b ob q⟩, fun _ _ _ n _ => n, fun b ob q _ => ⟨ob, k b ob q⟩, fun _ _ q => q, fun _ _ _ q => q, fun _ ps q => ⟨#[], by rw [q]; simp⟩⟩
theorem Un.refl : Un fs ex H H h h := Un.kept fun _ _ q => q
theorem Un.laid (k : ∀ b u, h.get? b = some u → h'.get? b = some u) (hp : h.objs.size ≤ a) (hn : H a = none) : Un fs ex H (upd H a o) h h' where
  keep := fun b u q _ _ _ => k b u q
  slot := fun b u q _ _ _ => ⟨u.slots, k b u q⟩
  free := fun b u q n _ => by rw [upd_ne (Nat.ne_of_lt (Nat.lt_of_lt_of_le (Heap.lt_size q) hp))]; exact n
  there := fun b u q _ => ⟨u, k b u q⟩
  tups := fun b xs q => by rw [upd_ne (ne_of_none q hn)]; exact q
  frzs := fun b u xs q => by rw [upd_ne (ne_of_none q hn)]; exact q
  tbls := fun b ps q => ⟨#[], by rw [upd_ne (ne_of_none q hn), q]; simp⟩
theorem Un.write (mu : Mut (H x)) (he : e = x ∨ H e = some (.own x)) (k : ∀ b u, b ≠ e → h.get? b = some u → h'.get? b = some u) (heo : ∃ u, h'.get? e = some u) : Un fs ex H (upd H x o) h h' := by
  have hx : ∀ b, H b = none → b ≠ x := fun b n z => by subst z; rw [n] at mu; exact mu
  have hb : ∀ b, H b = none → b ≠ e := fun b n z => by
    subst z
    rcases he with r | r
    · exact hx b n r
    · rw [n] at r; cases r
  have hm : ∀ b u, H b = some u → ¬ Mut (some u) → b ≠ x := fun b u q nm z => by subst z; rw [q] at mu; exact nm mu
  refine ⟨fun b u q n _ _ => k b u (hb b n) q, fun b u q n _ _ => ⟨u.slots, k b u (hb b n) q⟩, fun b u q n _ => by rw [upd_ne (hx b n)]; exact n, fun b u q _ => ?_,
    fun b xs q => by rw [upd_ne (hm b _ q fun z => z)]; exact q, fun b u xs q => by rw [upd_ne (hm b _ q fun z => z)]; exact q, fun b ps q => ⟨#[], by rw [upd_ne (hm b _ q fun z => z), q]; simp⟩⟩
  by_cases hbe : b = e
  · subst hbe; exact heo
  · exact ⟨u, k b u hbe q⟩
end

/-! ### the heap without what is tracked -/
def trk (h : Heap) (H : Hp) : List Addr := (List.range h.objs.size).filter fun a => (H a).isSome
def hidT (h : Heap) (H : Hp) : Heap := PySem.W.hideAll h (trk h H)
theorem hidT_size (h : Heap) (H : Hp) : (hidT h H).objs.size = h.objs.size := PySem.W.hideAll_size _ _
theorem hidT_get {h : Heap} {H : Hp} {b : Addr} {o : Obj} (e : h.get? b = some o) (n : H b = none) : (hidT h H).get? b = some o :=
  PySem.W.hideAll_get _ e fun hm => by
    have q : (H b).isSome = true := (List.mem_filter.mp hm).2
    rw [n] at q; simp at q
theorem of_hidT {h : Heap} {H : Hp} {b : Addr} {o : Obj} (e : (hidT h H).get? b = some o) : h.get? b = some o ∧ H b = none := by
  have e' : h.get? b = some o := PySem.W.of_hideAll (trk h H) e
  refine ⟨e', ?_⟩
  cases q : H b with
  | none => rfl
  | some x =>
    have hm : b ∈ trk h H := List.mem_filter.mpr ⟨List.mem_range.mpr (Heap.lt_size e'), by simp [q]⟩
    have z : (hidT h H).get? b = none := PySem.W.hideAll_none (trk h H) hm
    rw [z] at e; cases e

/-! ### OpenK's ledger, filled with every new object but one -/
end L2

namespace L2
open PySem PySem.Spec PyProof.Rows

/-- the module's facts, over the base: the heap at the law's entry without what is tracked there -/
structure Mod (K : PySem.W.Frag) (mg : Str → Option Value) (base : Heap) : Prop where
  kin : K.In base
  glob : base.Ns mainGlobals mg
  blt : ∃ mb, base.Ns builtinsNs mb ∧ ∀ x : Str, x ≠ "__name__" → mb x = bootBuiltins x
  nolimit : base.NoLimit

/-- the context: a def's body (or a comprehension's block) running. base: fixed through the whole law; s₀, H₀: the entry; outer: the frames whose slots others may change (a def's callers); stack: all frames that run;
   ex: iterators that were made ahead of the entry and are walked here (a comprehension's); fn: the names whose cells were made at the entry (a def: all; a comprehension's block: its own); calm: not within an except suite; pn: pins that every state bears; xe: what is wanted of an exception that leaves the code -/
structure Cx where
  prog : Program
  w : World
  K : PySem.W.Frag
  mg : Str → Option Value
  base : Heap
  A : Around
  N : List Str
  s₀ : Shared
  H₀ : Hp
  env : Env
  outer : List Env
  stack : List Env
  ex : List Addr
  fn : Str → Bool
  calm : Bool
  pn : List (Addr × Obj)
  xe : Value → Shared → Prop
/-- the callers' frames -/
def frs (l : List Env) : List Addr := l.filterMap (·.frame)
abbrev Cx.fs (X : Cx) : List Addr := frs X.outer

def Vis (sc : Scope) (x : Str) : Prop := sc.names.lookup x = some .local ∨ sc.names.lookup x = some .cell ∨ sc.names.lookup x = some .free
def Loc (sc : Scope) (x : Str) : Prop := sc.names.lookup x = some .local ∨ sc.names.lookup x = some .cell
def Look (env : Env) (h : Heap) (m : Str → Option Value) (x : Str) (u : Value) : Prop :=
  (env.kindOf x = some .local ∧ m x = some u) ∨ ((env.kindOf x = some .cell ∨ env.kindOf x = some .free) ∧ ∃ c, env.cells.lookup x = some c ∧ h.IsCell c (some u))

structure Cx.Ok (X : Cx) : Prop where
  mod : Mod X.K X.mg X.base
  kind : X.env.scope.kind = .function
  glob : X.env.globals = mainGlobals
  blt : X.env.builtins = builtinsNs
  above : X.s₀.heap.objs.size ≤ X.env.locals
  inj : ∀ x y c, X.env.cells.lookup x = some c → X.env.cells.lookup y = some c → x = y
  has : ∀ x, (X.env.kindOf x = some .cell ∨ X.env.kindOf x = some .free) → ∃ c, X.env.cells.lookup x = some c
  cab : ∀ x c, X.fn x = true → X.env.cells.lookup x = some c → X.s₀.heap.objs.size ≤ c
  hd : X.calm = true → X.A.handled = none
  frames : X.A.frames = some X.stack
  stk : X.stack = X.outer ∨ (X.stack = X.env :: X.outer ∧ X.env.frame = some X.env.locals)
  exf : ∀ b ∈ X.ex, b ≠ X.env.locals ∧ ∀ x c, X.env.cells.lookup x = some c → c ≠ b
  bs : ∀ b o, X.base.get? b = some o → X.s₀.heap.get? b = some o ∧ X.H₀ b = none
  bsz : X.base.objs.size ≤ X.s₀.heap.objs.size
  noex : ∀ b o, X.base.get? b = some o → b ∉ X.ex
  exfs : ∀ b ∈ X.ex, b ∉ X.fs
  funs : X.s₀.heap.FunFrames X.base X.outer
  frf : ∀ b ∈ X.fs, X.H₀ b = none

structure Inv (X : Cx) (pins : List (Addr × Obj)) (σ : List (Option V)) (H : Hp) (s : Shared) : Prop where
  ok : X.Ok
  os : s.os = X.s₀.os
  bare : AllBare s.gens
  base : Un X.fs X.ex X.H₀ H X.s₀.heap s.heap
  loc : ∃ m, s.heap.Ns X.env.locals m ∧ ∀ (i : Nat) (x : Str) (v : V), X.N[i]? = some x → σ[i]? = some (some v) → Vis X.env.scope x → ∃ u, RelV v u ∧ Look X.env s.heap m x u
  cell : ∀ x c, X.env.cells.lookup x = some c → ∃ v, s.heap.IsCell c v
  free : H X.env.locals = none
  freeC : ∀ x c, X.env.cells.lookup x = some c → H c = none
  pin : ∀ p ∈ X.pn ++ pins, s.heap.get? p.1 = some p.2 ∧ H p.1 = none ∧ p.1 ≠ X.env.locals ∧ p.1 ∉ X.fs ∧ ∀ v, p.2.data ≠ .cell v
  hok : HOk X.prog X.w H s.heap
  len : σ.length = X.N.length

section
variable {X : Cx} {pins : List (Addr × Obj)} {σ : List (Option V)} {H H' : Hp} {s : Shared} {h' : Heap}

theorem Cx.Ok.nofr (ok : X.Ok) {b : Addr} {o : Obj} (e : X.base.get? b = some o) : b ∉ X.fs := fun hb => by
  have := (ok.funs.mem hb).1
  rw [e] at this; cases this
theorem Inv.bs (I : Inv X pins σ H s) : ∀ b o, X.base.get? b = some o → s.heap.get? b = some o ∧ H b = none := fun b o e =>
  ⟨I.base.keep b o (I.ok.bs b o e).1 (I.ok.bs b o e).2 (I.ok.nofr e) (I.ok.noex b o e), I.base.free b o (I.ok.bs b o e).1 (I.ok.bs b o e).2 (I.ok.noex b o e)⟩
theorem Inv.bk (I : Inv X pins σ H s) : ∀ b o, X.base.get? b = some o → s.heap.get? b = some o := fun b o e => (I.bs b o e).1
theorem Inv.mod (I : Inv X pins σ H s) : Mod X.K X.mg X.base := I.ok.mod
theorem Inv.kIn (I : Inv X pins σ H s) : X.K.In s.heap := I.ok.mod.kin.keeps I.bk
theorem Inv.lt (I : Inv X pins σ H s) : X.env.locals < s.heap.objs.size := let ⟨_, hn, _⟩ := I.loc; hn.lt
theorem Inv.sz (I : Inv X pins σ H s) : X.s₀.heap.objs.size ≤ s.heap.objs.size := Nat.le_trans I.ok.above (Nat.le_of_lt I.lt)
theorem Inv.nofs (I : Inv X pins σ H s) {a : Addr} (h : s.heap.objs.size ≤ a) : a ∉ X.fs := fun hb => by
  obtain ⟨_, o, ho, _⟩ := I.ok.funs.mem hb
  exact absurd (Nat.lt_of_lt_of_le (Heap.lt_size ho) (Nat.le_trans I.sz h)) (Nat.lt_irrefl _)
theorem Inv.cne (I : Inv X pins σ H s) : ∀ x c, X.env.cells.lookup x = some c → c ≠ X.env.locals := fun x c e z => by
  obtain ⟨v, o, ho, hd⟩ := I.cell x c e
  obtain ⟨m, ⟨o', es, ep, ho', hd', _⟩, _⟩ := I.loc
  rw [z, ho'] at ho; cases ho; rw [hd'] at hd; cases hd
theorem Inv.funs (I : Inv X pins σ H s) : s.heap.FunFrames X.base X.outer := by
  have all : ∀ (l : List Env), (∀ b ∈ frs l, b ∈ X.fs) → X.s₀.heap.FunFrames X.base l → s.heap.FunFrames X.base l := by
    intro l
    induction l with
    | nil => intro _ _; trivial
    | cons env r ih =>
      intro hs hl
      obtain ⟨hk, ⟨L, o, hf, hn, ho, hd⟩, hr⟩ := hl
      have hL : L ∈ X.fs := hs L (by unfold frs; rw [List.filterMap_cons, hf]; exact List.mem_cons_self)
      obtain ⟨sl, e⟩ := I.base.slot L o ho (I.ok.frf L hL) hL fun z => I.ok.exfs L z hL
      exact ⟨hk, ⟨L, _, hf, hn, e, hd⟩, ih (fun b hb => hs b (by unfold frs; rw [List.filterMap_cons, hf]; exact List.mem_cons_of_mem _ hb)) hr⟩
  exact all X.outer (fun _ hb => hb) I.ok.funs

/-- the frames that run, for a call -/
theorem Inv.stack (I : Inv X pins σ H s) : s.heap.FunFrames X.base X.stack := by
  rcases I.ok.stk with e | ⟨e, hf⟩
  · rw [e]; exact I.funs
  · rw [e]
    obtain ⟨m, hn, _⟩ := I.loc
    refine .cons (by rw [I.ok.kind]; decide) hf hn ?_ I.funs
    exact Heap.get?_none_of_le (Nat.le_trans I.ok.bsz I.ok.above)
theorem Inv.stkSub (I : Inv X pins σ H s) : ∀ b ∈ frs X.stack, b ∈ X.env.locals :: X.fs := fun b hb => by
  rcases I.ok.stk with e | ⟨e, hf⟩
  · rw [e] at hb; exact List.mem_cons_of_mem _ hb
  · rw [e] at hb
    unfold frs at hb
    rw [List.filterMap_cons, hf] at hb
    exact hb
theorem Inv.stkFree (I : Inv X pins σ H s) : ∀ b ∈ frs X.stack, H b = none := fun b hb => by
  rcases List.mem_cons.mp (I.stkSub b hb) with e | hb
  · rw [e]; exact I.free
  · obtain ⟨_, o, ho, _⟩ := I.ok.funs.mem hb
    exact I.base.free b o ho (I.ok.frf b hb) fun z => I.ok.exfs b z hb

/-- THE STEP: the untracked objects but the frame and the records at ch are kept (the callers' frames up to slots), the frame's map is kept, the new abstract heap is held -/
theorem Inv.step {g' : Array GenState} {t' : Nat} {d' : Drawn} {ch : List Addr} (I : Inv X pins σ H s)
    (hch : ∀ b ∈ ch, (b ∈ X.ex ∨ X.s₀.heap.objs.size ≤ b) ∧ b ≠ X.env.locals ∧ (∀ x c, X.env.cells.lookup x = some c → c ≠ b) ∧ ∀ p ∈ X.pn ++ pins, p.1 ≠ b)
    (keep : ∀ b o, b ≠ X.env.locals → b ∉ X.fs → b ∉ ch → s.heap.get? b = some o → H b = none → h'.get? b = some o)
    (slot : ∀ b o, b ≠ X.env.locals → b ∈ X.fs → b ∉ ch → s.heap.get? b = some o → H b = none → ∃ sl, h'.get? b = some { o with slots := sl }) (free : ∀ b o, b ∉ ch → s.heap.get? b = some o → H b = none → H' b = none)
    (there : ∀ b o, b ∉ ch → s.heap.get? b = some o → ∃ o', h'.get? b = some o')
    (tups : ∀ b xs, H b = some (.tup xs) → H' b = some (.tup xs)) (frzs : ∀ b o u, H b = some (.frz o u) → H' b = some (.frz o u)) (tbls : ∀ b ps, H b = some (.tbl ps) → ∃ more, H' b = some (.tbl (ps ++ more)))
    (ns : ∀ m, s.heap.Ns X.env.locals m → h'.Ns X.env.locals m) (hok : HOk X.prog X.w H' h') (hg : AllBare g') :
    Inv X pins σ H' { s with heap := h', gens := g', drawn := d', toks := t' } := by
  have neL : ∀ b o, X.s₀.heap.get? b = some o → b ≠ X.env.locals := fun b o e => Nat.ne_of_lt (Nat.lt_of_lt_of_le (Heap.lt_size e) I.ok.above)
  have neC : ∀ b o, X.s₀.heap.get? b = some o → b ∉ X.ex → b ∉ ch := fun b o e hx hb => by
    rcases (hch b hb).1 with z | z
    · exact hx z
    · exact absurd (Nat.lt_of_lt_of_le (Heap.lt_size e) z) (Nat.lt_irrefl _)
  have cellK : ∀ x c, X.env.cells.lookup x = some c → ∀ v, s.heap.IsCell c v → h'.IsCell c v := fun x c e v ⟨o, ho, hd⟩ => by
    have nch : c ∉ ch := fun z => (hch c z).2.2.1 x c e rfl
    by_cases hc : c ∈ X.fs
    · obtain ⟨sl, q⟩ := slot c o (I.cne x c e) hc nch ho (I.freeC x c e)
      exact ⟨_, q, hd⟩
    · exact ⟨o, keep c o (I.cne x c e) hc nch ho (I.freeC x c e), hd⟩
  refine ⟨I.ok, I.os, hg, ⟨fun b o e n hb hx => ?_, fun b o e n hb hx => ?_, fun b o e n hx => ?_, fun b o e hx => ?_, fun b xs e => tups b xs (I.base.tups b xs e), fun b o xs e => frzs b o xs (I.base.frzs b o xs e), fun b ps e => ?_⟩, ?_, fun x c e => ?_, ?_, fun x c e => ?_, fun p hp => ?_, hok, I.len⟩
  · exact keep b o (neL b o e) hb (neC b o e hx) (I.base.keep b o e n hb hx) (I.base.free b o e n hx)
  · obtain ⟨sl, e1⟩ := I.base.slot b o e n hb hx
    obtain ⟨sl', e2⟩ := slot b _ (neL b o e) hb (neC b o e hx) e1 (I.base.free b o e n hx)
    exact ⟨sl', e2⟩
  · obtain ⟨o', e1⟩ := I.base.there b o e hx
    exact free b o' (neC b o e hx) e1 (I.base.free b o e n hx)
  · obtain ⟨o', e1⟩ := I.base.there b o e hx
    exact there b o' (neC b o e hx) e1
  · obtain ⟨m1, e1⟩ := I.base.tbls b ps e
    obtain ⟨m2, e2⟩ := tbls b _ e1
    exact ⟨m1 ++ m2, by rw [e2, Array.append_assoc]⟩
  · obtain ⟨m, hn, hl⟩ := I.loc
    refine ⟨m, ns m hn, fun i x v e1 e2 e3 => ?_⟩
    obtain ⟨u, r, l⟩ := hl i x v e1 e2 e3
    refine ⟨u, r, ?_⟩
    rcases l with l | ⟨k, c, e, z⟩
    · exact .inl l
    · exact .inr ⟨k, c, e, cellK x c e _ z⟩
  · obtain ⟨v, z⟩ := I.cell x c e
    exact ⟨v, cellK x c e v z⟩
  · obtain ⟨m, ⟨o, _, _, ho, _⟩, _⟩ := I.loc
    exact free _ o (fun z => (hch _ z).2.1 rfl) ho I.free
  · obtain ⟨v, o, ho, hd⟩ := I.cell x c e
    exact free c o (fun z => (hch c z).2.2.1 x c e rfl) ho (I.freeC x c e)
  · obtain ⟨e, n, ne, nf, d⟩ := I.pin p hp
    have nch : p.1 ∉ ch := fun z => (hch p.1 z).2.2.2 p hp rfl
    exact ⟨keep p.1 p.2 ne nf nch e n, free p.1 p.2 nch e n, ne, nf, d⟩
/-- .. where the frame's own object is kept too -/
theorem Inv.un {t' : Nat} (I : Inv X pins σ H s) (u : Un X.fs [] H H' s.heap h') (hok : HOk X.prog X.w H' h') : Inv X pins σ H' { s with heap := h', toks := t' } := by
  obtain ⟨m, ⟨o, es, ep, ho, r⟩, _⟩ := id I.loc
  obtain ⟨sl, hL⟩ := u.any ho I.free (by simp)
  exact I.step (g' := s.gens) (d' := s.drawn) (ch := []) (fun _ z => nomatch z) (fun b o _ hb _ e n => u.keep b o e n hb (by simp)) (fun b o _ hb _ e n => u.slot b o e n hb (by simp)) (fun b o _ e n => u.free b o e n (by simp)) (fun b o _ e => u.there b o e (by simp)) u.tups u.frzs u.tbls (fun m' hm => by
    obtain ⟨o', es', ep', ho', r'⟩ := hm
    rw [ho] at ho'; cases ho'
    exact ⟨_, es', ep', hL, r'⟩) hok I.bare
/-- behind a call (or a comprehension's block): the slots of this frame may have changed too, the records at ch may have turned -/
theorem Inv.call {g' : Array GenState} {t' : Nat} {d' : Drawn} {ch : List Addr} (I : Inv X pins σ H s) (u : Un (frs X.stack) ch H H' s.heap h') (hok : HOk X.prog X.w H' h') (hg : AllBare g')
    (hch : ∀ b ∈ ch, (b ∈ X.ex ∨ X.s₀.heap.objs.size ≤ b) ∧ b ≠ X.env.locals ∧ (∀ x c, X.env.cells.lookup x = some c → c ≠ b) ∧ ∀ p ∈ X.pn ++ pins, p.1 ≠ b) :
    Inv X pins σ H' { s with heap := h', gens := g', drawn := d', toks := t' } := by
  obtain ⟨m, ⟨o, es, ep, ho, r⟩, _⟩ := id I.loc
  obtain ⟨sl, hL⟩ := u.any ho I.free fun z => (hch _ z).2.1 rfl
  exact I.step (ch := ch) hch (fun b o hL hb hc e n => u.keep b o e n (fun z => (List.mem_cons.mp (I.stkSub b z)).elim hL hb) hc) (fun b o _ _ hc e n => u.any e n hc) (fun b o hc e n => u.free b o e n hc) (fun b o hc e => u.there b o e hc) u.tups u.frzs u.tbls (fun m' hm => by
    obtain ⟨o', es', ep', ho', r'⟩ := hm
    rw [ho] at ho'; cases ho'
    exact ⟨_, es', ep', hL, r'⟩) hok hg
/-- an untracked record of ours (an iterator) has turned -/
theorem Inv.turned {t' : Nat} {it : Addr} (I : Inv X pins σ H s) (k : ∀ b o, b ≠ it → s.heap.get? b = some o → h'.get? b = some o) (hn : H it = none) (hL : it ≠ X.env.locals)
    (h1 : it ∈ X.ex ∨ X.s₀.heap.objs.size ≤ it) (h2 : ∀ x c, X.env.cells.lookup x = some c → c ≠ it) (h3 : ∀ p ∈ X.pn ++ pins, p.1 ≠ it) : Inv X pins σ H { s with heap := h', toks := t' } := by
  have nit : ∀ b u, H b = some u → b ≠ it := fun b u e z => by rw [z, hn] at e; cases e
  refine I.step (g' := s.gens) (d' := s.drawn) (ch := [it]) (fun b hb => ?_) (fun b o _ _ hc e _ => k b o (fun z => hc (by simp [z])) e) (fun b o _ _ hc e _ => ⟨o.slots, k b o (fun z => hc (by simp [z])) e⟩) (fun _ _ _ _ n => n)
    (fun b o hc e => ⟨o, k b o (fun z => hc (by simp [z])) e⟩) (fun _ _ e => e) (fun _ _ _ e => e) (fun b ps e => ⟨#[], by rw [e]; simp⟩) (fun m hm => ?_) (fun b u e => ?_) I.bare
  · have e : b = it := by simpa using hb
    subst e
    exact ⟨h1, hL, h2, h3⟩
  · obtain ⟨o, es, ep, ho, r⟩ := hm
    exact ⟨o, es, ep, k _ o (Ne.symm hL) ho, r⟩
  · refine (I.hok b u e).stay (fun c v hc q => k c v ?_ q) (fun _ q => q) fun _ _ q => q
    rcases hc with z | z
    · rw [z]; exact nit b u e
    · exact nit c _ z
theorem Inv.tok (I : Inv X pins σ H s) (t : Nat) : Inv X pins σ H { s with toks := t } := I.un (h' := s.heap) (t' := t) Un.refl I.hok
/-- all objects kept -/
theorem Inv.kept {t' : Nat} (I : Inv X pins σ H s) (k : ∀ b u, s.heap.get? b = some u → h'.get? b = some u) : Inv X pins σ H { s with heap := h', toks := t' } := I.un (Un.kept k) (I.hok.kept k)
/-- a new object laid and tracked -/
theorem Inv.laid {a : Addr} {o : HO} {t' : Nat} (I : Inv X pins σ H s) (k : ∀ b u, s.heap.get? b = some u → h'.get? b = some u) (hp : s.heap.objs.size ≤ a) (new : ObjOk X.prog X.w (upd H a o) h' a o) :
    Inv X pins σ (upd H a o) { s with heap := h', toks := t' } := I.un (Un.laid k hp (I.hok.fresh hp)) (I.hok.laid k hp new)
/-- an object written -/
theorem Inv.write {x e : Addr} {o : HO} {t' : Nat} (I : Inv X pins σ H s) (mu : Mut (H x)) (he : e = x ∨ H e = some (.own x)) (k : ∀ b u, b ≠ e → s.heap.get? b = some u → h'.get? b = some u) (heo : ∃ u, h'.get? e = some u)
    (new : ObjOk X.prog X.w (upd H x o) h' x o) : Inv X pins σ (upd H x o) { s with heap := h', toks := t' } := I.un (Un.write mu he k heo) (I.hok.write mu he k heo new)
theorem Inv.pins_of {pins' : List (Addr × Obj)} (I : Inv X pins σ H s) (h : ∀ p ∈ pins', s.heap.get? p.1 = some p.2 ∧ H p.1 = none ∧ p.1 ≠ X.env.locals ∧ p.1 ∉ X.fs ∧ ∀ v, p.2.data ≠ .cell v) : Inv X pins' σ H s :=
  ⟨I.ok, I.os, I.bare, I.base, I.loc, I.cell, I.free, I.freeC, fun p hp => (List.mem_append.mp hp).elim (fun z => I.pin p (List.mem_append_left _ z)) (h p), I.hok, I.len⟩

theorem nodup_ix {N : List Str} (hN : N.Nodup) {i j : Nat} {x : Str} (a : N[i]? = some x) (b : N[j]? = some x) : i = j := by
  obtain ⟨h1, e1⟩ := List.getElem?_eq_some_iff.mp a
  obtain ⟨h2, e2⟩ := List.getElem?_eq_some_iff.mp b
  exact (List.getElem_inj hN).mp (e1.trans e2.symm)

/-- a name is stored; what changed -/
theorem store_ok2 {M : Model} {A : Around} {E : Value → Shared → Prop} {i : Nat} {x : Str} {v : V} {u : Value} {Q : Unit → Shared → Prop} (I : Inv X pins σ H s) (hN : X.N.Nodup) (hi : X.N[i]? = some x) (hx : Loc X.env.scope x) (r : RelV v u)
    (h : ∀ s', Inv X pins (σ.set i (some v)) H s' → (∃ a, Heap.SameBut a s.heap s'.heap ∧ (a = X.env.locals ∨ X.env.cells.lookup x = some a)) → Q () s') (hf : X.fn x = true ∨ X.env.scope.names.lookup x = some .local := by first | exact .inl rfl | exact .inr rfl | assumption) : wpAny M A (storeName X.env x u) Q E s := by
  obtain ⟨m, hn, hl⟩ := id I.loc
  have hcls : (X.env.scope.kind == .class || (X.env.scope.kind == .module && X.env.locals != X.env.globals)) = false := by rw [I.ok.kind]; rfl
  have hiσ : i < σ.length := by rw [I.len]; exact (List.getElem?_eq_some_iff.mp hi).1
  have cne := I.cne
  have tracked : ∀ {a : Addr} {h' : Heap}, (∃ o, s.heap.get? a = some o ∧ H a = none) → Heap.SameBut a s.heap h' → HOk X.prog X.w H h' := fun {a h'} ha hs b ob e => by
    obtain ⟨_, _, hfree⟩ := ha
    refine (I.hok b ob e).stay (fun c w' hc q => (hs.2 c ?_).trans q) (fun _ q => q) fun _ _ q => q
    rintro rfl
    rcases hc with rfl | hc
    · rw [hfree] at e; cases e
    · rw [hfree] at hc; cases hc
  rcases hx with hk | hk
  · refine wpAny_storeName_local hk hn (fun h' hn' hs => ?_) hcls
    obtain ⟨oL, _, _, hoL, _⟩ := id hn
    refine h _ ⟨I.ok, I.os, I.bare, ⟨fun b o e n hb hx => ?_, fun b o e n hb hx => ?_, I.base.free, fun b o e hx => ?_, I.base.tups, I.base.frzs, I.base.tbls⟩, ⟨_, hn', fun j y v' e1 e2 e3 => ?_⟩, fun y c e => ?_, I.free, I.freeC, fun p hp => ?_, tracked ⟨oL, hoL, I.free⟩ hs, by simpa using I.len⟩ ⟨_, hs, .inl rfl⟩
    · exact (hs.2 b (Nat.ne_of_lt (Nat.lt_of_lt_of_le (Heap.lt_size e) I.ok.above))).trans (I.base.keep b o e n hb hx)
    · obtain ⟨sl, e1⟩ := I.base.slot b o e n hb hx
      exact ⟨sl, (hs.2 b (Nat.ne_of_lt (Nat.lt_of_lt_of_le (Heap.lt_size e) I.ok.above))).trans e1⟩
    · obtain ⟨o', e1⟩ := I.base.there b o e hx
      exact ⟨o', (hs.2 b (Nat.ne_of_lt (Nat.lt_of_lt_of_le (Heap.lt_size e) I.ok.above))).trans e1⟩
    · by_cases hj : j = i
      · subst hj
        rw [hi] at e1; cases e1
        rw [List.getElem?_set_self hiσ] at e2
        cases e2
        exact ⟨u, r, .inl ⟨hk, by simp⟩⟩
      · rw [List.getElem?_set_ne (Ne.symm hj)] at e2
        obtain ⟨u', r', q⟩ := hl j y v' e1 e2 e3
        refine ⟨u', r', ?_⟩
        rcases q with ⟨k, e⟩ | ⟨k, c, e, z⟩
        · refine .inl ⟨k, ?_⟩
          have : y ≠ x := fun e => hj (nodup_ix hN e1 (e ▸ hi))
          simp [this, e]
        · exact .inr ⟨k, c, e, z.sameBut hs (cne y c e)⟩
    · obtain ⟨w', z⟩ := I.cell y c e
      exact ⟨w', z.sameBut hs (cne y c e)⟩
    · obtain ⟨e, n, ne, nf, d⟩ := I.pin p hp
      exact ⟨(hs.2 p.1 ne).trans e, n, ne, nf, d⟩
  · have hfn : X.fn x = true := by
      rcases hf with z | z
      · exact z
      · rw [z] at hk; cases hk
    obtain ⟨c, hc⟩ := I.ok.has x (.inl hk)
    obtain ⟨w', z⟩ := I.cell x c hc
    refine wpAny_storeName_cell I.ok.kind hk hc z (fun h' hc' hs => ?_)
    obtain ⟨oc, hoc, hocd⟩ := id z
    refine h { s with heap := h' } ⟨I.ok, I.os, I.bare, ⟨fun b o e n hb hx => ?_, fun b o e n hb hx => ?_, I.base.free, fun b o e hx => ?_, I.base.tups, I.base.frzs, I.base.tbls⟩, ⟨m, hn.sameBut hs (Ne.symm (cne x c hc)), fun j y v' e1 e2 e3 => ?_⟩, fun y c' e => ?_, I.free, I.freeC, fun p hp => ?_, tracked ⟨oc, hoc, I.freeC x c hc⟩ hs, by simpa using I.len⟩ ⟨c, hs, .inr hc⟩
    · exact (hs.2 b (Nat.ne_of_lt (Nat.lt_of_lt_of_le (Heap.lt_size e) (I.ok.cab x c hfn hc)))).trans (I.base.keep b o e n hb hx)
    · obtain ⟨sl, e1⟩ := I.base.slot b o e n hb hx
      exact ⟨sl, (hs.2 b (Nat.ne_of_lt (Nat.lt_of_lt_of_le (Heap.lt_size e) (I.ok.cab x c hfn hc)))).trans e1⟩
    · obtain ⟨o', e1⟩ := I.base.there b o e hx
      exact ⟨o', (hs.2 b (Nat.ne_of_lt (Nat.lt_of_lt_of_le (Heap.lt_size e) (I.ok.cab x c hfn hc)))).trans e1⟩
    · by_cases hj : j = i
      · subst hj
        rw [hi] at e1; cases e1
        rw [List.getElem?_set_self hiσ] at e2
        cases e2
        exact ⟨u, r, .inr ⟨.inl hk, c, hc, hc'⟩⟩
      · rw [List.getElem?_set_ne (Ne.symm hj)] at e2
        obtain ⟨u', r', q⟩ := hl j y v' e1 e2 e3
        refine ⟨u', r', ?_⟩
        rcases q with q | ⟨k, c', e, z'⟩
        · exact .inl q
        · refine .inr ⟨k, c', e, z'.sameBut hs ?_⟩
          rintro rfl
          exact hj (nodup_ix hN e1 (I.ok.inj _ _ _ e hc ▸ hi))
    · by_cases hcc : c' = c
      · subst hcc; exact ⟨_, hc'⟩
      · obtain ⟨w2, z2⟩ := I.cell y c' e
        exact ⟨w2, z2.sameBut hs hcc⟩
    · obtain ⟨e, n, ne, nf, d⟩ := I.pin p hp
      refine ⟨(hs.2 p.1 ?_).trans e, n, ne, nf, d⟩
      intro q
      rw [q, hoc] at e
      have q' : oc = p.2 := Option.some.inj e
      exact d w' (by rw [← q']; exact hocd)
theorem store_ok {M : Model} {A : Around} {E : Value → Shared → Prop} {i : Nat} {x : Str} {v : V} {u : Value} {Q : Unit → Shared → Prop} (I : Inv X pins σ H s) (hN : X.N.Nodup) (hi : X.N[i]? = some x) (hx : Loc X.env.scope x) (r : RelV v u)
    (h : ∀ s', Inv X pins (σ.set i (some v)) H s' → Q () s') (hf : X.fn x = true ∨ X.env.scope.names.lookup x = some .local := by first | exact .inl rfl | exact .inr rfl | assumption) : wpAny M A (storeName X.env x u) Q E s :=
  store_ok2 I hN hi hx r (fun s' I' _ => h s' I') hf
/-- behind a call or a block, the state as it is -/
theorem Inv.call' {s' : Shared} {ch : List Addr} (I : Inv X pins σ H s) (ho : s'.os = s.os) (u : Un (frs X.stack) ch H H' s.heap s'.heap) (hok : HOk X.prog X.w H' s'.heap) (hg : AllBare s'.gens)
    (hch : ∀ b ∈ ch, (b ∈ X.ex ∨ X.s₀.heap.objs.size ≤ b) ∧ b ≠ X.env.locals ∧ (∀ x c, X.env.cells.lookup x = some c → c ≠ b) ∧ ∀ p ∈ X.pn ++ pins, p.1 ≠ b) : Inv X pins σ H' s' := by
  obtain ⟨h', g', d', t', o'⟩ := s'
  have e : o' = s.os := ho
  subst e
  exact I.call (g' := g') (t' := t') (d' := d') u hok hg hch
end

/-! ### the judgements -/
/-- an exception: its class, its own dict's address (where it has one), the abstract heap behind it -/
abbrev XK := Value → Option Addr → Hp → Prop
abbrev St := List (Option V)
abbrev VK := V → Hp → Prop
/-- an expression's reading; a test's; an argument list's -/
abbrev TE := St → Hp → VK → Prop
abbrev TT := St → Hp → (Bool → Hp → Prop) → Prop
abbrev TA := St → Hp → (List V → Hp → Prop) → Prop
/-- what is wanted behind a statement -/
structure Ends where
  nx : St → Hp → Prop
  rt : VK
  bk : St → Hp → Prop := fun _ _ => False
  ct : St → Hp → Prop := fun _ _ => False
abbrev TS := Ends → St → Hp → Prop

def EP (X : Cx) (pins : List (Addr × Obj)) (σ : St) (Q : VK) (u : Value) (s' : Shared) : Prop := ∃ v H', Inv X pins σ H' s' ∧ RelV v u ∧ Q v H'
def TP (X : Cx) (pins : List (Addr × Obj)) (σ : St) (Q : Bool → Hp → Prop) (b : Bool) (s' : Shared) : Prop := ∃ H', Inv X pins σ H' s' ∧ Q b H'
def AP (X : Cx) (pins : List (Addr × Obj)) (σ : St) (Q : List V → Hp → Prop) (us : List Value) (s' : Shared) : Prop := ∃ vs H', Inv X pins σ H' s' ∧ Vals vs us ∧ Q vs H'
def SP (X : Cx) (pins : List (Addr × Obj)) (D : Ends) (f : Flow) (s' : Shared) : Prop :=
  match f with
  | .next => ∃ σ' H', Inv X pins σ' H' s' ∧ D.nx σ' H'
  | .brk => ∃ σ' H', Inv X pins σ' H' s' ∧ D.bk σ' H'
  | .cont => ∃ σ' H', Inv X pins σ' H' s' ∧ D.ct σ' H'
  | .ret u => ∃ v σ' H', Inv X pins σ' H' s' ∧ RelV v u ∧ D.rt v H'

def PE (X : Cx) (e : Expr) (t : TE) : Prop :=
  ∀ (pins : List (Addr × Obj)) (s : Shared) (σ : St) (H : Hp) (Q : VK), Inv X pins σ H s → t σ H Q → wpAny (model X.prog X.w) X.A (eval e X.env) (EP X pins σ Q) X.xe s
def PT (X : Cx) (e : Expr) (t : TT) : Prop :=
  ∀ (pins : List (Addr × Obj)) (s : Shared) (σ : St) (H : Hp) (Q : Bool → Hp → Prop), Inv X pins σ H s → t σ H Q → wpAny (model X.prog X.w) X.A (isTrue e X.env (eval e X.env)) (TP X pins σ Q) X.xe s
/-- a test whatever its 'whole' is (and, or) -/
def PW (X : Cx) (e : Expr) (t : TT) : Prop :=
  ∀ (whole : Sem Value) (pins : List (Addr × Obj)) (s : Shared) (σ : St) (H : Hp) (Q : Bool → Hp → Prop), Inv X pins σ H s → t σ H Q → wpAny (model X.prog X.w) X.A (isTrue e X.env whole) (TP X pins σ Q) X.xe s
theorem PW.pt {X : Cx} {e : Expr} {t : TT} (h : PW X e t) : PT X e t := h _
/-- an argument list (no star), from the left -/
def PA (X : Cx) (es : List Expr) (t : TA) : Prop :=
  ∀ (pos : Pos) (pins : List (Addr × Obj)) (s : Shared) (σ : St) (H : Hp) (Q : List V → Hp → Prop), Inv X pins σ H s → t σ H Q → wpAny (model X.prog X.w) X.A (spliced (backTo pos (starEach es X.env))) (AP X pins σ Q) X.xe s
def PS (X : Cx) (st : Stmt) (t : TS) : Prop :=
  ∀ (pins : List (Addr × Obj)) (s : Shared) (σ : St) (H : Hp) (D : Ends), Inv X pins σ H s → t D σ H → wpAny (model X.prog X.w) X.A (exec st X.env) (SP X pins D) X.xe s
def PSs (X : Cx) (st : List Stmt) (t : TS) : Prop :=
  ∀ (pins : List (Addr × Obj)) (s : Shared) (σ : St) (H : Hp) (D : Ends), Inv X pins σ H s → t D σ H → wpAny (model X.prog X.w) X.A (execs st X.env) (SP X pins D) X.xe s
/-- weaken the end -/
theorem thn {α : Type} {t : Sem α} {Q Q' : α → Shared → Prop} {M : Model} {A : Around} {E : Value → Shared → Prop} {s : Shared} (h : wpAny M A t Q E s) (hQ : ∀ a s, Q a s → Q' a s) : wpAny M A t Q' E s := wpAny_mono h hQ fun _ _ x => x
end L2

namespace L2
open PySem PySem.Spec PyProof.Rows
section
variable {X : Cx}

/-- two expressions in a row -/
theorem bin {a b : Expr} {ta tb : TE} (ha : PE X a ta) (hb : PE X b tb) {pins : List (Addr × Obj)} {s : Shared} {σ : St} {H : Hp} {R : V → V → Hp → Prop} (I : Inv X pins σ H s) (h : ta σ H fun x H1 => tb σ H1 fun y H2 => R x y H2)
    {α : Type} {Q : α → Shared → Prop} {f : Value → Value → Sem α}
    (hf : ∀ v u s2 x y H2, Inv X pins σ H2 s2 → RelV x v → RelV y u → R x y H2 → wpAny (model X.prog X.w) X.A (f v u) Q X.xe s2) :
    wpAny (model X.prog X.w) X.A (eval a X.env) (fun v s₁ => wpAny (model X.prog X.w) X.A (eval b X.env) (fun u s₂ => wpAny (model X.prog X.w) X.A (f v u) Q X.xe s₂) X.xe s₁) X.xe s := by
  refine thn (ha pins s σ H _ I h) fun v s1 ⟨x, H1, I1, r1, q1⟩ => ?_
  refine thn (hb pins s1 σ H1 _ I1 q1) fun u s2 ⟨y, H2, I2, r2, q2⟩ => ?_
  exact hf v u s2 x y H2 I2 r1 r2 q2

/-! ### names and constants -/
def tVar (i : Nat) : TE := fun σ H Q => ∃ v, σ[i]? = some (some v) ∧ Q v H
def tC (v : V) : TE := fun _ H Q => Q v H
theorem pe_var {i : Nat} {x : Str} {pos : Pos} (hN : X.N[i]? = some x) (hv : Vis X.env.scope x) (hd : (x == ("__debug__" : Str)) = false := by decide) (hcd : (x == ("__classdict__" : Str)) = false := by decide) : PE X (.Name x pos) (tVar i) := by
  intro pins s σ H Q I h
  obtain ⟨v, e, h⟩ := h
  obtain ⟨m, hn, hl⟩ := I.loc
  obtain ⟨u, r, l⟩ := hl i x v hN e hv
  have fin : EP X pins σ Q u s := ⟨v, H, I, r, h⟩
  rcases l with ⟨hk, hm⟩ | ⟨hk, c, hc, hcell⟩
  · exact wpAny_Name (wpAny_loadName_local I.ok.kind hk hn hm fin) hd
  · rcases hk with hk | hk
    · exact wpAny_Name (wpAny_loadName_cell I.ok.kind hk hc hcell fin) hd
    · exact wpAny_Name (wpAny_loadName_free I.ok.kind hk hc hcell fin hcd) hd
theorem pe_int {i j pos} : PE X (.Constant (.int i) j pos) (tC (.int i)) := fun _ _ _ H _ I h => wpAny_Constant_int ⟨.int i, H, I.tok _, ⟨_, rfl⟩, h⟩
theorem pe_bl {b j pos} : PE X (.Constant (.bool b) j pos) (tC (.bl b)) := fun _ _ _ H _ I h => Constant_bool ⟨.bl b, H, I, rfl, h⟩
theorem pe_non {j pos} : PE X (.Constant .none j pos) (tC .non) := fun _ _ _ H _ I h => Constant_none ⟨.non, H, I, rfl, h⟩
theorem pe_str {x j pos} : PE X (.Constant (.str x) j pos) (tC (.str x)) := fun _ _ _ H _ I h => Calls.Constant_str ⟨.str x, H, I.tok _, ⟨_, rfl⟩, h⟩

/-- a global name of the def -/
def Gl (X : Cx) (x : Str) : Prop := X.env.kindOf x = some .globalImplicit
theorem ld_glob {E : Value → Shared → Prop} {pins : List (Addr × Obj)} {s : Shared} {σ : St} {H : Hp} {x : Str} {u : Value} {pos : Pos} {Q : Value → Shared → Prop} (I : Inv X pins σ H s) (hg : Gl X x) (hm : X.mg x = some u) (h : Q u s)
    (hd : (x == ("__debug__" : Str)) = false := by decide) : wpAny (model X.prog X.w) X.A (eval (.Name x pos) X.env) Q E s :=
  Calls.Name_function_global I.ok.kind hg (Calls.loadGlobal_global (by rw [I.ok.glob]; exact I.mod.glob.keeps I.bk) hm h) hd
theorem ld_blt {E : Value → Shared → Prop} {pins : List (Addr × Obj)} {s : Shared} {σ : St} {H : Hp} {x : Str} {u : Value} {pos : Pos} {Q : Value → Shared → Prop} (I : Inv X pins σ H s) (hg : Gl X x) (hm : X.mg x = none) (hv : bootBuiltins x = some u) (h : Q u s)
    (hn : x ≠ "__name__" := by decide) (hd : (x == ("__debug__" : Str)) = false := by decide) : wpAny (model X.prog X.w) X.A (eval (.Name x pos) X.env) Q E s := by
  obtain ⟨mb, h1, h2⟩ := I.mod.blt
  exact Calls.Name_function_global I.ok.kind hg (Calls.loadGlobal_builtin (by rw [I.ok.glob]; exact I.mod.glob.keeps I.bk) hm (by rw [I.ok.blt]; exact h1.keeps I.bk) ((h2 x hn).trans hv) h) hd
/-- a module's constant, a class, a function, as a value -/
theorem pe_glob {x : Str} {v : V} {u : Value} {pos : Pos} (hg : Gl X x) (hm : X.mg x = some u) (r : RelV v u) (hd : (x == ("__debug__" : Str)) = false := by decide) : PE X (.Name x pos) (tC v) :=
  fun _ _ _ H _ I h => ld_glob I hg hm ⟨v, H, I, r, h⟩ hd
theorem pe_bltn {x : Str} {v : V} {u : Value} {pos : Pos} (hg : Gl X x) (hm : X.mg x = none) (hv : bootBuiltins x = some u) (r : RelV v u) (hn : x ≠ "__name__" := by decide) (hd : (x == ("__debug__" : Str)) = false := by decide) : PE X (.Name x pos) (tC v) :=
  fun _ _ _ H _ I h => ld_blt I hg hm hv ⟨v, H, I, r, h⟩ hn hd

/-! ### arithmetic -/
variable {a b : Expr} {ta tb : TE} {pos : Pos}
/-! ### comparisons -/
/-- a comparison as a value, as a test -/
def tB (t : TE) : TT := fun σ H Q => t σ H fun x H1 => ∃ c, x = .bl c ∧ Q c H1
/-! ### and, or, not -/
variable {tA tB' : TT} {rest : List Expr}
def tAnd (t u : TT) : TT := fun σ H Q => t σ H fun c H1 => if c = true then u σ H1 Q else Q false H1
def tOr (t u : TT) : TT := fun σ H Q => t σ H fun c H1 => if c = true then Q true H1 else u σ H1 Q
def tNot (t : TT) : TT := fun σ H Q => t σ H fun c H1 => Q (!c) H1
theorem pw_and1 (ha : PT X a tA) : PW X (.BoolOp .And [a] pos) tA := by
  intro wh pins s σ H Q I h
  refine isTrue_and (thn (ha pins s σ H Q I h) fun c s1 e => ?_)
  cases c with
  | true => exact isTrue_and_nil e
  | false => exact e
theorem pw_or1 (ha : PT X a tA) : PW X (.BoolOp .Or [a] pos) tA := by
  intro wh pins s σ H Q I h
  refine isTrue_or (thn (ha pins s σ H Q I h) fun c s1 e => ?_)
  cases c with
  | false => exact isTrue_or_nil e
  | true => exact e
theorem pw_and (ha : PT X a tA) (hb : PW X (.BoolOp .And (b :: rest) pos) tB') : PW X (.BoolOp .And (a :: b :: rest) pos) (tAnd tA tB') := by
  intro wh pins s σ H Q I h
  refine isTrue_and (thn (ha pins s σ H _ I h) fun c s1 ⟨H1, I1, q1⟩ => ?_)
  cases c with
  | true => exact hb wh pins s1 σ H1 Q I1 q1
  | false => exact ⟨H1, I1, q1⟩
theorem pw_or (ha : PT X a tA) (hb : PW X (.BoolOp .Or (b :: rest) pos) tB') : PW X (.BoolOp .Or (a :: b :: rest) pos) (tOr tA tB') := by
  intro wh pins s σ H Q I h
  refine isTrue_or (thn (ha pins s σ H _ I h) fun c s1 ⟨H1, I1, q1⟩ => ?_)
  cases c with
  | true => exact ⟨H1, I1, q1⟩
  | false => exact hb wh pins s1 σ H1 Q I1 q1
theorem pt_not (ha : PT X a tA) : PT X (.UnaryOp .Not a pos) (tNot tA) := by
  intro pins s σ H Q I h
  exact isTrue_not (ha pins s σ H (fun c H1 => Q (!c) H1) I h)
/-- .. as values (bools) -/
def tAndV (ta tb : TE) : TE := fun σ H Q => ta σ H fun x H1 => ∃ c, x = .bl c ∧ if c = true then tb σ H1 Q else Q (.bl false) H1
def tOrV (ta tb : TE) : TE := fun σ H Q => ta σ H fun x H1 => ∃ c, x = .bl c ∧ if c = true then Q (.bl true) H1 else tb σ H1 Q
def tNotV (ta : TE) : TE := fun σ H Q => ta σ H fun x H1 => ∃ c, x = .bl c ∧ Q (.bl (!c)) H1
theorem pe_one {op} {t : TE} (h : PE X a t) : PE X (.BoolOp op [a] pos) t := fun pins s σ H Q I hw => BoolOp_one (h pins s σ H Q I hw)
theorem pe_and (ha : PE X a ta) (hb : PE X (.BoolOp .And (b :: rest) pos) tb) : PE X (.BoolOp .And (a :: b :: rest) pos) (tAndV ta tb) := by
  intro pins s σ H Q I h
  refine BoolOp_and (thn (ha pins s σ H _ I h) fun v s1 ⟨x, H1, I1, r1, q1⟩ => ?_)
  obtain ⟨c, rfl, q1⟩ := q1
  cases r1
  refine wpAny_truthy_bool ?_
  cases c with
  | true => exact hb pins s1 σ H1 Q I1 q1
  | false => exact ⟨.bl false, H1, I1, rfl, q1⟩
theorem pe_or (ha : PE X a ta) (hb : PE X (.BoolOp .Or (b :: rest) pos) tb) : PE X (.BoolOp .Or (a :: b :: rest) pos) (tOrV ta tb) := by
  intro pins s σ H Q I h
  refine BoolOp_or (thn (ha pins s σ H _ I h) fun v s1 ⟨x, H1, I1, r1, q1⟩ => ?_)
  obtain ⟨c, rfl, q1⟩ := q1
  cases r1
  refine wpAny_truthy_bool ?_
  cases c with
  | false => exact hb pins s1 σ H1 Q I1 q1
  | true => exact ⟨.bl true, H1, I1, rfl, q1⟩
theorem pe_not (ha : PE X a ta) : PE X (.UnaryOp .Not a pos) (tNotV ta) := by
  intro pins s σ H Q I h
  refine UnaryOp_ (thn (ha pins s σ H _ I h) fun v s1 ⟨x, H1, I1, r1, q1⟩ => ?_)
  obtain ⟨c, rfl, q1⟩ := q1
  cases r1
  exact not_of (wpAny_truthy_bool ⟨.bl (!c), H1, I1, rfl, q1⟩)
/-- a if t else b -/
def tIf (t : TT) (ta tb : TE) : TE := fun σ H Q => t σ H fun c H1 => if c = true then ta σ H1 Q else tb σ H1 Q
theorem pe_ifExp {c : Expr} (hc : PT X c tA) (ha : PE X a ta) (hb : PE X b tb) : PE X (.IfExp c a b pos) (tIf tA ta tb) := by
  intro pins s σ H Q I h
  refine wpAny_IfExp (thn (hc pins s σ H _ I h) fun d s1 ⟨H1, I1, q1⟩ => ?_)
  cases d with
  | true => exact ha pins s1 σ H1 Q I1 q1
  | false => exact hb pins s1 σ H1 Q I1 q1
end
end L2

namespace L2
open PySem PySem.Spec PyProof.Rows

/-! ### a list, a tuple that is read: tracked, frozen, or an object of the module -/
def SqL (K : PySem.W.Frag) (H : Hp) (a : Addr) (xs : List V) : Prop :=
  Rd H a (.lst xs) ∨
    ∃ (o : Obj) (its : Array Value) (n : Nat), K.lookup a = some o ∧ o.cls = .type "list" ∧ o.dict = none ∧ o.data = .seq its n ∧ its.size ≤ sizeLine ∧ Vals xs its.toList
def SqT (K : PySem.W.Frag) (H : Hp) (a : Addr) (xs : List V) : Prop :=
  Rd H a (.tup xs) ∨
    ∃ (o : Obj) (its : Array Value) (n : Nat), K.lookup a = some o ∧ o.cls = .type "tuple" ∧ o.data = .seq its n ∧ its.size ≤ sizeLine ∧ Vals xs its.toList
def absV : Value → Option V
  | .none => some .non
  | .bool b => some (.bl b)
  | .int i _ => some (.int i)
  | .str x _ => some (.str x)
  | .bytes b _ => some (.byt b)
  | .float b _ => some (.flt b)
  | .ref a => some (.ref a)
  | .type n => some (.ty n)
  | _ => none
theorem RelV.abs {x : V} {u : Value} (r : RelV x u) : absV u = some x := by
  cases x with
  | non => cases r; rfl
  | bl _ => cases r; rfl
  | int _ => obtain ⟨t, rfl⟩ := r; rfl
  | str _ => obtain ⟨t, rfl⟩ := r; rfl
  | byt _ => obtain ⟨t, rfl⟩ := r; rfl
  | flt _ => obtain ⟨t, rfl⟩ := r; rfl
  | ref _ => cases r; rfl
  | ty _ => cases r; rfl
theorem RelV.inj {x y : V} {u : Value} (r : RelV x u) (q : RelV y u) : x = y := Option.some.inj (r.abs.symm.trans q.abs)
theorem Vals.inj : ∀ {xs ys : List V} {us : List Value}, Vals xs us → Vals ys us → xs = ys
  | _, _, _, .nil, .nil => rfl
  | _, _, _, .cons r t, .cons r' t' => by rw [r.inj r', Vals.inj t t']
section
variable {X : Cx} {pins : List (Addr × Obj)} {σ : St} {H : Hp} {s : Shared} {a : Addr} {xs ys : List V}
theorem SqL.of {K : PySem.W.Frag} (h : H a = some (.lst xs)) : SqL K H a xs := .inl (.inl h)
theorem SqT.of {K : PySem.W.Frag} (h : H a = some (.tup xs)) : SqT K H a xs := .inl (.inl h)
theorem Inv.list (I : Inv X pins σ H s) (h : SqL X.K H a xs) : ∃ its : List Value, Vals xs its ∧ PlainL s.heap a its.toArray ∧ xs.length ≤ sizeLine := by
  rcases h with h | ⟨o, its, n, hk, hc, hd, hs, hz, r⟩
  · obtain ⟨z, its, n, r, e⟩ := h.ok I.hok
    exact ⟨its, r, ⟨_, n, e, rfl, rfl, rfl⟩, z⟩
  · refine ⟨its.toList, r, ⟨o, n, I.kIn a o hk, hc, hd, by simpa using hs⟩, ?_⟩
    have e := r.length
    simp only [Array.length_toList] at e
    omega
theorem Inv.tuple (I : Inv X pins σ H s) (h : SqT X.K H a xs) : ∃ its : List Value, Vals xs its ∧ IsTup s.heap a its.toArray ∧ xs.length ≤ sizeLine := by
  rcases h with h | ⟨o, its, n, hk, hc, hs, hz, r⟩
  · obtain ⟨z, its, r, p⟩ := h.ok I.hok
    exact ⟨its, r, p, z⟩
  · refine ⟨its.toList, r, ⟨o, I.kIn a o hk, hc, n, by simpa using hs⟩, ?_⟩
    have e := r.length
    simp only [Array.length_toList] at e
    omega
theorem Inv.list_inj (I : Inv X pins σ H s) (h : SqL X.K H a xs) (h' : SqL X.K H a ys) : xs = ys := by
  obtain ⟨its, r, ⟨o, n, e, _, _, d⟩, _⟩ := I.list h
  obtain ⟨its', r', ⟨o', n', e', _, _, d'⟩, _⟩ := I.list h'
  rw [e] at e'; cases e'
  rw [d] at d'
  injection d' with d1 _
  have : its = its' := by simpa using congrArg Array.toList d1
  subst this
  exact r.inj r'
theorem Inv.tuple_inj (I : Inv X pins σ H s) (h : SqT X.K H a xs) (h' : SqT X.K H a ys) : xs = ys := by
  obtain ⟨its, r, ⟨o, e, _, n, d⟩, _⟩ := I.tuple h
  obtain ⟨its', r', ⟨o', e', _, n', d'⟩, _⟩ := I.tuple h'
  rw [e] at e'; cases e'
  rw [d] at d'
  injection d' with d1 _
  have : its = its' := by simpa using congrArg Array.toList d1
  subst this
  exact r.inj r'
end

/-! ### another wish about exceptions -/
abbrev Cx.wish (X : Cx) (E : Value → Shared → Prop) : Cx := { X with xe := E }
/-- no exception leaves -/
abbrev Cx.nox (X : Cx) : Cx := X.wish fun _ _ => False
theorem Cx.Ok.wish {X : Cx} (ok : X.Ok) (E : Value → Shared → Prop) : (X.wish E).Ok :=
  ⟨ok.mod, ok.kind, ok.glob, ok.blt, ok.above, ok.inj, ok.has, ok.cab, ok.hd, ok.frames, ok.stk, ok.exf, ok.bs, ok.bsz, ok.noex, ok.exfs, ok.funs, ok.frf⟩
theorem Cx.Ok.unwish {X : Cx} {E : Value → Shared → Prop} (ok : (X.wish E).Ok) : X.Ok :=
  ⟨ok.mod, ok.kind, ok.glob, ok.blt, ok.above, ok.inj, ok.has, ok.cab, ok.hd, ok.frames, ok.stk, ok.exf, ok.bs, ok.bsz, ok.noex, ok.exfs, ok.funs, ok.frf⟩
section
variable {X : Cx} {pins : List (Addr × Obj)} {σ : St} {H : Hp} {s : Shared} {E : Value → Shared → Prop}
theorem Inv.wish (I : Inv X pins σ H s) (E : Value → Shared → Prop) : Inv (X.wish E) pins σ H s := ⟨I.ok.wish E, I.os, I.bare, I.base, I.loc, I.cell, I.free, I.freeC, I.pin, I.hok, I.len⟩
theorem Inv.unwish (I : Inv (X.wish E) pins σ H s) : Inv X pins σ H s := ⟨I.ok.unwish, I.os, I.bare, I.base, I.loc, I.cell, I.free, I.freeC, I.pin, I.hok, I.len⟩
theorem SP.unwish {D : Ends} {f : Flow} {s' : Shared} (h : SP (X.wish E) pins D f s') : SP X pins D f s' := by
  cases f with
  | next => obtain ⟨σ', H', I, q⟩ := h; exact ⟨σ', H', I.unwish, q⟩
  | brk => obtain ⟨σ', H', I, q⟩ := h; exact ⟨σ', H', I.unwish, q⟩
  | cont => obtain ⟨σ', H', I, q⟩ := h; exact ⟨σ', H', I.unwish, q⟩
  | ret u => obtain ⟨v, σ', H', I, r, q⟩ := h; exact ⟨v, σ', H', I.unwish, r, q⟩
theorem PSs.nox {st : List Stmt} {t : TS} (h : PSs X.nox st t) : PSs X st t := fun pins s σ H D I hw =>
  wpAny_mono (h pins s σ H D (I.wish _) hw) (fun _ _ q => q.unwish) fun _ _ z => False.elim z
end

/-! ### blocks and small statements -/
section
variable {X : Cx} {st : Stmt} {rest : List Stmt} {t u : TS} {e : Expr} {te : TE} {pos : Pos}
def tNext : TS := fun D σ H => D.nx σ H
def tSeq (t u : TS) : TS := fun D σ H => t { D with nx := u D } σ H
theorem pss_nil : PSs X [] tNext := fun _ _ σ H _ I h => wpAny_execs_nil ⟨σ, H, I, h⟩
theorem pss_cons (h1 : PS X st t) (h2 : PSs X rest u) : PSs X (st :: rest) (tSeq t u) := by
  intro pins s σ H D I h
  refine wpAny_execs_cons (thn (h1 pins s σ H { D with nx := u D } I h) fun f s1 q => ?_)
  cases f with
  | next =>
    obtain ⟨σ', H', I', q⟩ := q
    exact h2 pins s1 σ' H' D I' q
  | ret v => exact q
  | brk => exact q
  | cont => exact q
theorem pss_one (h1 : PS X st t) : PSs X [st] t := by
  intro pins s σ H D I h
  refine wpAny_execs_cons (thn (h1 pins s σ H D I h) fun f s1 q => ?_)
  cases f with
  | next => exact wpAny_execs_nil q
  | ret v => exact q
  | brk => exact q
  | cont => exact q
def tBreak : TS := fun D σ H => D.bk σ H
def tCont : TS := fun D σ H => D.ct σ H
theorem ps_pass : PS X (.Pass pos) tNext := fun _ _ σ H _ I h => wpAny_Pass ⟨σ, H, I, h⟩
theorem ps_break : PS X (.Break pos) tBreak := fun _ _ σ H _ I h => wpAny_Break ⟨σ, H, I, h⟩
theorem ps_continue : PS X (.Continue pos) tCont := fun _ _ σ H _ I h => wpAny_Continue ⟨σ, H, I, h⟩
/-- in a def's body nothing is shown -/
theorem Inv.quiet {pins : List (Addr × Obj)} {σ : St} {H : Hp} {s : Shared} (I : Inv X pins σ H s) : interactive X.env = false := by simp [interactive, I.ok.kind]
/-- an expression whose value is dropped -/
def tDrop (te : TE) : TS := fun D σ H => te σ H fun _ H1 => D.nx σ H1
theorem ps_expr (he : PE X e te) (hs : swapsWith e none pos.line X.env = pure false := by rfl) : PS X (.Expr e pos) (tDrop te) := by
  intro pins s σ H D I h
  exact wpAny_Expr_any (thn (he pins s σ H _ I h) fun v s1 ⟨x, H1, I1, r1, q1⟩ => ⟨σ, H1, I1, q1⟩) I.quiet hs
def tRet (te : TE) : TS := fun D σ H => te σ H D.rt
theorem ps_ret (he : PE X e te) : PS X (.Return (some e) pos) (tRet te) := by
  intro pins s σ H D I h
  exact wpAny_Return_some (thn (he pins s σ H _ I h) fun v s1 ⟨x, H1, I1, r1, q1⟩ => ⟨x, σ, H1, I1, r1, q1⟩)
def tRetN : TS := fun D _ H => D.rt .non H
theorem ps_retN : PS X (.Return none pos) tRetN := fun _ _ σ H _ I h => wpAny_Return_none ⟨.non, σ, H, I, rfl, h⟩
def tIfS (c : TT) (t u : TS) : TS := fun D σ H => c σ H fun b H1 => if b = true then t D σ H1 else u D σ H1
theorem ps_if {c : Expr} {a b : List Stmt} {tc : TT} (hc : PT X c tc) (ha : PSs X a t) (hb : PSs X b u) : PS X (.If c a b pos) (tIfS tc t u) := by
  intro pins s σ H D I h
  refine wpAny_If (thn (hc pins s σ H _ I h) fun d s1 ⟨H1, I1, q1⟩ => ?_)
  cases d with
  | true => exact ha pins s1 σ H1 D I1 q1
  | false => exact hb pins s1 σ H1 D I1 q1
/-- code that the proof never comes to -/
def tNever : TS := fun _ _ _ => False
theorem ps_never : PS X st tNever := fun _ _ _ _ _ _ h => h.elim
end

/-! ### targets -/
abbrev TG := V → St → Hp → (St → Hp → Prop) → Prop
abbrev TGs := List V → St → Hp → (St → Hp → Prop) → Prop
def PG (X : Cx) (target : Expr) (t : TG) : Prop :=
  ∀ (pins : List (Addr × Obj)) (s : Shared) (σ : St) (H : Hp) (v : V) (u : Value) (Q : St → Hp → Prop), Inv X pins σ H s → RelV v u → t v σ H Q →
    wpAny (model X.prog X.w) X.A (assign target X.env u) (fun _ s' => ∃ σ' H', Inv X pins σ' H' s' ∧ Q σ' H') X.xe s
/-- several targets, one after another -/
def PGs (X : Cx) (ts : List Expr) (t : TGs) : Prop :=
  ∀ (pins : List (Addr × Obj)) (s : Shared) (σ : St) (H : Hp) (vs : List V) (us : List Value) (Q : St → Hp → Prop), Inv X pins σ H s → Vals vs us → t vs σ H Q →
    wpAny (model X.prog X.w) X.A (assignInOrder ((assignEach ts X.env).map (·.2)) us) (fun _ s' => ∃ σ' H', Inv X pins σ' H' s' ∧ Q σ' H') X.xe s
/-- o[i] = v, by values -/
abbrev TSet := V → V → V → Hp → (Hp → Prop) → Prop
def PSet (X : Cx) (t : TSet) : Prop :=
  ∀ (pins : List (Addr × Obj)) (s : Shared) (σ : St) (H : Hp) (o i v : V) (ov iv u : Value) (Q : Hp → Prop), Inv X pins σ H s → RelV o ov → RelV i iv → RelV v u → t o i v H Q →
    wpAny (model X.prog X.w) X.A (setItem ov iv u) (fun _ s' => ∃ H', Inv X pins σ H' s' ∧ Q H') X.xe s
/-- a op= b, by values -/
abbrev TIp := V → V → Hp → VK → Prop
def PIp (X : Cx) (op : Operator) (t : TIp) : Prop :=
  ∀ (pins : List (Addr × Obj)) (s : Shared) (σ : St) (H : Hp) (x y : V) (v u : Value) (Q : VK), Inv X pins σ H s → RelV x v → RelV y u → t x y H Q →
    wpAny (model X.prog X.w) X.A (inplaceOp op v u) (EP X pins σ Q) X.xe s
section
variable {X : Cx} {pos : Pos}
def gName (i : Nat) : TG := fun v σ H Q => Q (σ.set i (some v)) H
theorem pg_name {i : Nat} {x : Str} (hN : X.N.Nodup) (hi : X.N[i]? = some x) (hx : Loc X.env.scope x) (hf : X.fn x = true ∨ X.env.scope.names.lookup x = some .local := by first | exact .inl rfl | exact .inr rfl | assumption) : PG X (.Name x pos) (gName i) := by
  intro pins s σ H v u Q I r h
  exact wpAny_assign_Name (store_ok I hN hi hx r (fun s' I' => ⟨_, H, I', h⟩) hf)
def gNil : TGs := fun vs σ H Q => vs = [] ∧ Q σ H
def gCons (t : TG) (u : TGs) : TGs := fun vs σ H Q => ∃ v r, vs = v :: r ∧ t v σ H fun σ' H' => u r σ' H' Q
theorem pgs_nil : PGs X [] gNil := by
  intro pins s σ H vs us Q I r h
  obtain ⟨e, h⟩ := h
  subst e
  cases r
  exact assignInOrder_nil ⟨σ, H, I, h⟩
theorem pgs_cons {e : Expr} {es : List Expr} {t : TG} {u : TGs} (h1 : PG X e t) (h2 : PGs X es u)
    (hs : (assignEach (e :: es) X.env).map (·.2) = assign e X.env :: (assignEach es X.env).map (·.2) := by rfl) : PGs X (e :: es) (gCons t u) := by
  intro pins s σ H vs us Q I r h
  obtain ⟨v, vr, e1, h⟩ := h
  subst e1
  cases r with
  | cons r rr =>
    rw [hs]
    refine assignInOrder_cons (thn (h1 pins s σ H _ _ _ I r h) fun _ s1 ⟨σ1, H1, I1, q1⟩ => ?_)
    exact h2 pins s1 σ1 H1 _ _ Q I1 rr q1
/-- (a, b, ..) = a tuple of that length -/
def gTup (K : PySem.W.Frag) (n : Nat) (t : TGs) : TG := fun v σ H Q => ∃ a xs, v = .ref a ∧ SqT K H a xs ∧ xs.length = n ∧ t xs σ H Q
theorem pg_tup {es : List Expr} {k : Nat} {t : TGs} {n : Nat} (hc : X.calm = true) (h : PGs X es t)
    (hn : (assignEach es X.env).length = n := by rfl) (hst : (assignEach es X.env).findIdx? (·.1) = none := by rfl) : PG X (.Tuple es k pos) (gTup X.K n t) := by
  intro pins s σ H v u Q I r hw
  obtain ⟨a, xs, e1, hq, hl, hw⟩ := hw
  subst e1
  cases r
  obtain ⟨its, rv, ht, hz⟩ := I.tuple hq
  refine assign_Tuple_tuple (I.ok.hd hc) ht (by simp [hn, ← hl, rv.length]) hst fun h' hx => ?_
  have I1 : Inv X pins σ H { s with heap := h' } := I.kept (t' := s.toks) fun b o e => hx b o (Nat.ne_of_lt (Heap.lt_size e)) e
  exact h pins _ σ H xs _ Q I1 (by simpa using rv) hw
/-- o[i] = .. -/
def gSub (to ti : TE) (t : TSet) : TG := fun v σ H Q => to σ H fun o H1 => ti σ H1 fun i H2 => t o i v H2 fun H3 => Q σ H3
theorem pg_sub {o i : Expr} {to ti : TE} {t : TSet} (ho : PE X o to) (hi : PE X i ti) (hs : PSet X t)
    (ha : ∀ v, assign (.Subscript o i pos) X.env v = (do
      let ov ← holding [v] (eval o X.env)
      let iv ← holding [v, ov] (eval i X.env)
      standAt pos
      holding [v, ov, iv] (setItem ov iv v)
      release [v, ov, iv] []) := by intro _; rfl) : PG X (.Subscript o i pos) (gSub to ti t) := by
  intro pins s σ H v u Q I r h
  rw [ha]
  refine wpAny_bind (wpAny_holding (thn (ho pins s σ H _ I h) fun ov s1 ⟨x, H1, I1, r1, q1⟩ => ?_))
  refine wpAny_bind (wpAny_holding (thn (hi pins s1 σ H1 _ I1 q1) fun iv s2 ⟨y, H2, I2, r2, q2⟩ => ?_))
  refine wpAny_bind (wpAny_standAt (wpAny_bind (wpAny_holding (thn (hs pins s2 σ H2 x y v ov iv u _ I2 r1 r2 r q2) fun _ s3 ⟨H3, I3, q3⟩ => ?_))))
  exact wpAny_release ⟨σ, H3, I3, q3⟩
/-- target = value -/
def tAsg (te : TE) (g : TG) : TS := fun D σ H => te σ H fun x H1 => g x σ H1 D.nx
theorem ps_asg {tg e : Expr} {te : TE} {g : TG} (he : PE X e te) (hg : PG X tg g) (hs : swapsWithSole [tg] e pos.line X.env = pure false := by rfl) (hw : swappedStores [tg] e X.env = pure none := by rfl)
    (h1 : (assignEach [tg] X.env).map (·.2) = [assign tg X.env] := by rfl) : PS X (.Assign [tg] e pos) (tAsg te g) := by
  intro pins s σ H D I h
  refine wpAny_Assign_stores (thn (he pins s σ H _ I h) fun v s1 ⟨x, H1, I1, r1, q1⟩ => ?_) hs hw
  rw [h1]
  exact thn (hg pins s1 σ H1 x v _ I1 r1 q1) fun _ s2 q => q
/-- name op= e -/
def tAug (i : Nat) (te : TE) (ti : TIp) : TS := fun D σ H => ∃ x, σ[i]? = some (some x) ∧ te σ H fun y H1 => ti x y H1 fun z H2 => D.nx (σ.set i (some z)) H2
theorem ps_aug {i : Nat} {x : Str} {e : Expr} {te : TE} {op : Operator} {ti : TIp} {pos' : Pos} (hN : X.N.Nodup) (hi : X.N[i]? = some x) (hx : Loc X.env.scope x) (he : PE X e te) (ho : PIp X op ti) (hf : X.fn x = true ∨ X.env.scope.names.lookup x = some .local := by first | exact .inl rfl | exact .inr rfl | assumption) :
    PS X (.AugAssign (.Name x pos') op e pos) (tAug i te ti) := by
  intro pins s σ H D I h
  obtain ⟨v, e1, h⟩ := h
  obtain ⟨m, hn, hl⟩ := I.loc
  have vis : Vis X.env.scope x := by rcases hx with k | k; exact .inl k; exact .inr (.inl k)
  obtain ⟨u, r, l⟩ := hl i x v hi e1 vis
  refine wpAny_AugAssign_Name ?_
  have go : wpAny (model X.prog X.w) X.A (eval e X.env) (fun w s₂ => wpAny (model X.prog X.w) X.A (inplaceOp op u w) (fun r s₃ => wpAny (model X.prog X.w) X.A (storeName X.env x r) (fun _ => SP X pins D .next) X.xe s₃) X.xe s₂) X.xe s := by
    refine thn (he pins s σ H _ I h) fun w s1 ⟨y, H1, I1, r1, q1⟩ => ?_
    refine thn (ho pins s1 σ H1 v y u w _ I1 r r1 q1) fun z s2 ⟨zv, H2, I2, r2, q2⟩ => ?_
    exact store_ok I2 hN hi hx r2 (fun s3 I3 => ⟨_, H2, I3, q2⟩) hf
  rcases l with ⟨hk, hm⟩ | ⟨hk, c, hc, hcell⟩
  · exact wpAny_loadName_local I.ok.kind hk hn hm go
  · rcases hk with hk | hk
    · exact wpAny_loadName_cell I.ok.kind hk hc hcell go
    · rcases hx with k | k
      · have : X.env.scope.names.lookup x = some .free := hk
        rw [k] at this; cases this
      · have : X.env.scope.names.lookup x = some .free := hk
        rw [k] at this; cases this
/-- ints -/
def ipI (f : Int → Int → Int) : TIp := fun x y H Q => ∃ i j, x = .int i ∧ y = .int j ∧ Q (.int (f i j)) H
theorem ip_add : PIp X .Add (ipI fun i j => i + j) := by
  intro pins s σ H x y v u Q I r1 r2 h
  obtain ⟨i, j, e1, e2, q⟩ := h
  subst e1; subst e2
  obtain ⟨t, rfl⟩ := r1
  obtain ⟨t', rfl⟩ := r2
  exact iadd_int ⟨.int _, H, I.tok _, ⟨_, rfl⟩, q⟩
theorem ip_sub : PIp X .Sub (ipI fun i j => i - j) := by
  intro pins s σ H x y v u Q I r1 r2 h
  obtain ⟨i, j, e1, e2, q⟩ := h
  subst e1; subst e2
  obtain ⟨t, rfl⟩ := r1
  obtain ⟨t', rfl⟩ := r2
  exact isub_int ⟨.int _, H, I.tok _, ⟨_, rfl⟩, q⟩
end

/-! ### while -/
section
variable {X : Cx} {pos : Pos}
end

/-! ### what a loop or a comprehension walks -/
/-- at turn i: it yields x (the heap may grow), or it stops -/
structure It where
  go : Nat → Hp → Prop
  yld : Nat → Hp → V → Hp → Prop
  stop : Nat → Hp → Prop
/-- the iterator's own objects may turn: they are not the frame's, not pinned, younger than the entry (or a comprehension's own) -/
def FpOk (X : Cx) (pins : List (Addr × Obj)) (H : Hp) (b : Addr) : Prop :=
  H b = none ∧ b ≠ X.env.locals ∧ b ∉ X.fs ∧ (b ∈ X.ex ∨ X.s₀.heap.objs.size ≤ b) ∧ (∀ x c, X.env.cells.lookup x = some c → c ≠ b) ∧ ∀ p ∈ X.pn ++ pins, p.1 ≠ b
theorem Inv.fpOk {X : Cx} {pins : List (Addr × Obj)} {σ : St} {H H' : Hp} {s : Shared} {b : Addr} (I : Inv X pins σ H s) (hb : s.heap.objs.size ≤ b) (hn : H' b = none) : FpOk X pins H' b := by
  refine ⟨hn, Nat.ne_of_gt (Nat.lt_of_lt_of_le I.lt hb), I.nofs hb, .inr (Nat.le_trans I.sz hb), fun x c e z => ?_, fun p hp z => ?_⟩
  · obtain ⟨v, q⟩ := I.cell x c e
    exact absurd (Nat.lt_of_lt_of_le q.lt (by rw [z]; exact hb)) (Nat.lt_irrefl _)
  · exact absurd (Nat.lt_of_lt_of_le (Heap.lt_size (I.pin p hp).1) (by rw [z]; exact hb)) (Nat.lt_irrefl _)
structure Turn (P : Program) (w : World) (K : PySem.W.Frag) (tg : Expr) (J : It) (fp : List Addr) (it : Addr) (tn : Nat → Heap → Prop) : Prop where
  mem : it ∈ fp
  obj : ∀ i h, tn i h → ∀ b ∈ fp, ∃ o, h.get? b = some o ∧ ∀ v, o.data ≠ .cell v
  keep : ∀ i h h', tn i h → (∀ b ∈ fp, ∀ o, h.get? b = some o → h'.get? b = some o) → tn i h'
  item : ∀ (X : Cx), X.prog = P → X.w = w → X.K = K → X.calm = true → ∀ (i : Nat) (pins : List (Addr × Obj)) (s : Shared) (σ : St) (H : Hp) (E : Value → Shared → Prop), Inv X pins σ H s → (∀ b ∈ fp, FpOk X pins H b) → tn i s.heap → J.go i H →
    wpAny (model P w) X.A (pyNext (.ref it)) (fun r s1 => ∃ u, r = some u ∧
      wpAny (model P w) X.A (letOwnedTupleGo tg (.ref it) u) (fun _ s2 => ∃ x H', Inv X pins σ H' s2 ∧ RelV x u ∧ J.yld i H x H' ∧ tn (i + 1) s2.heap ∧ ∀ b ∈ fp, H' b = none) E s1) E s
  done : ∀ (X : Cx), X.prog = P → X.w = w → X.K = K → X.calm = true → ∀ (i : Nat) (pins : List (Addr × Obj)) (s : Shared) (σ : St) (H : Hp) (E : Value → Shared → Prop), Inv X pins σ H s → (∀ b ∈ fp, FpOk X pins H b) → tn i s.heap → J.stop i H →
    wpAny (model P w) X.A (pyNext (.ref it)) (fun r s1 => r = none ∧ Inv X pins σ H s1) E s
  self : ∀ (A : Around) (i : Nat) (s : Shared) (Q : Value → Shared → Prop) (E : Value → Shared → Prop), tn i s.heap → Q (.ref it) s → wpAny (model P w) A (pyIter (.ref it)) Q E s
abbrev TI := St → Hp → (It → Hp → Prop) → Prop
/-- an iterator has come -/
def PIE (X : Cx) (pins : List (Addr × Obj)) (σ : St) (tg : Expr) (R : It → Hp → Prop) (itv : Value) (s2 : Shared) : Prop :=
  ∃ (it : Addr) (fp : List Addr) (tn : Nat → Heap → Prop) (J : It) (H' : Hp), itv = .ref it ∧ Inv X pins σ H' s2 ∧ Turn X.prog X.w X.K tg J fp it tn ∧ tn 0 s2.heap ∧ (∀ b ∈ fp, FpOk X pins H' b) ∧ R J H'
def PI (X : Cx) (tg iter : Expr) (wi : TI) : Prop :=
  ∀ (pins : List (Addr × Obj)) (s : Shared) (σ : St) (H : Hp) (R : It → Hp → Prop), Inv X pins σ H s → wi σ H R →
    wpAny (model X.prog X.w) X.A (eval iter X.env) (fun v s1 => wpAny (model X.prog X.w) X.A (pyIter v) (PIE X pins σ tg R) X.xe s1) X.xe s

/-- the step ahead of the store is nothing for an iterator that keeps no tuple -/
theorem go_of {M : Model} {A : Around} {E : Value → Shared → Prop} {s : Shared} {tg : Expr} {it : Addr} {u : Value} {o : Obj} {n : String} {vs : Array Value} {Q : Unit → Shared → Prop} (ho : s.heap.get? it = some o) (hc : o.cls = .type n) (hd : o.data = .fields vs)
    (hn : ["enumerate", "zip", "dict_itemiterator", "dict_reverseitemiterator", "odict_iterator", "itertools.zip_longest", "itertools.pairwise"].contains n = false) (hQ : Q () s) : wpAny M A (letOwnedTupleGo tg (.ref it) u) Q E s := by
  unfold letOwnedTupleGo
  cases tg <;> first
    | exact wpAny_pure hQ
    | (cases u <;> first
        | exact wpAny_pure hQ
        | (refine wpAny_bind (wpAny_load ho ?_)
           rw [hc, hd]
           show wpAny M A (if (["enumerate", "zip", "dict_itemiterator", "dict_reverseitemiterator", "odict_iterator", "itertools.zip_longest", "itertools.pairwise"].contains n && vs[0]? == some (rawInt _)) = true then _ else _) Q E s
           rw [if_neg (by intro h; rw [hn, Bool.false_and] at h; cases h)]
           exact wpAny_pure hQ))

/-- the list at a, as it stands at each turn (a loop may append to it) -/
def Itl (K : PySem.W.Frag) (a : Addr) : It :=
  ⟨fun i H => ∃ xs x, SqL K H a xs ∧ xs[i]? = some x, fun i H x H' => H' = H ∧ ∀ xs, SqL K H a xs → xs[i]? = some x, fun i H => ∃ xs, SqL K H a xs ∧ xs.length ≤ i⟩
def Itt (K : PySem.W.Frag) (a : Addr) : It :=
  ⟨fun i H => ∃ xs x, SqT K H a xs ∧ xs[i]? = some x, fun i H x H' => H' = H ∧ ∀ xs, SqT K H a xs → xs[i]? = some x, fun i H => ∃ xs, SqT K H a xs ∧ xs.length ≤ i⟩
/-- lo, lo + 1, .. (n of them) -/
def Itr (lo : Int) (n : Nat) : It := ⟨fun i _ => i < n, fun i H x H' => H' = H ∧ x = .int (lo + i), fun i _ => n ≤ i⟩
theorem turn_list {P : Program} {w : World} {K : PySem.W.Frag} {tg : Expr} (a it : Addr) : Turn P w K tg (Itl K a) [it] it (fun i h => h.IsListIter it a i) where
  mem := by simp
  obj := fun i h st b hb => by
    have e : b = it := by simpa using hb
    subst e
    obtain ⟨o, e, c, d⟩ := st
    exact ⟨o, e, fun v z => by rw [d] at z; cases z⟩
  keep := fun i h h' st k => st.at fun o e => k it (by simp) o e
  item := by
    intro X hP hw hK hc i pins s σ H E I hf st hg
    subst hP hw hK
    obtain ⟨xs, x, hq, hx⟩ := hg
    obtain ⟨its, rv, p, hz⟩ := I.list hq
    obtain ⟨u, hu, ru⟩ := rv.get hx
    obtain ⟨f0, f1, f2, f3, f4, f5⟩ := hf it (by simp)
    refine wpAny_pyNext_list_item st p.isList (x := u) (by simpa using hu) fun h' st' sb => ?_
    have I1 : Inv X pins σ H { s with heap := h' } := I.turned (t' := s.toks) (fun b o hb e => (sb.2 b hb).trans e) f0 f1 f3 f4 f5
    obtain ⟨o, e, c, d⟩ := id st'
    exact ⟨u, rfl, go_of (s := { s with heap := h' }) e c d (by decide) ⟨x, H, I1, ru, ⟨rfl, fun ys hy => by rw [I.list_inj hy hq]; exact hx⟩, st', fun b hb => (hf b hb).1⟩⟩
  done := by
    intro X hP hw hK hc i pins s σ H E I hf st hg
    subst hP hw hK
    obtain ⟨xs, hq, hx⟩ := hg
    obtain ⟨its, rv, p, hz⟩ := I.list hq
    obtain ⟨f0, f1, f2, f3, f4, f5⟩ := hf it (by simp)
    have hl := rv.length
    exact wpAny_pyNext_list_end (I.ok.hd hc) st p.isList (by simp; omega) fun h' eb => ⟨rfl, I.turned (t' := s.toks) (fun b o hb e => eb b o hb e) f0 f1 f3 f4 f5⟩
  self := fun _ _ _ _ _ st h => wpAny_pyIter_listiter st h
theorem turn_tuple {P : Program} {w : World} {K : PySem.W.Frag} {tg : Expr} (a it : Addr) : Turn P w K tg (Itt K a) [it] it (fun i h => h.IsTupleIter it a i) where
  mem := by simp
  obj := fun i h st b hb => by
    have e : b = it := by simpa using hb
    subst e
    obtain ⟨o, e, c, d⟩ := st
    exact ⟨o, e, fun v z => by rw [d] at z; cases z⟩
  keep := fun i h h' st k => st.at fun o e => k it (by simp) o e
  item := by
    intro X hP hw hK hc i pins s σ H E I hf st hg
    subst hP hw hK
    obtain ⟨xs, x, hq, hx⟩ := hg
    obtain ⟨its, rv, p, hz⟩ := I.tuple hq
    obtain ⟨u, hu, ru⟩ := rv.get hx
    obtain ⟨f0, f1, f2, f3, f4, f5⟩ := hf it (by simp)
    refine wpAny_pyNext_tuple_item st (show s.heap.IsTuple a its.toArray from p) (x := u) (by simpa using hu) fun h' st' sb => ?_
    have I1 : Inv X pins σ H { s with heap := h' } := I.turned (t' := s.toks) (fun b o hb e => (sb.2 b hb).trans e) f0 f1 f3 f4 f5
    obtain ⟨o, e, c, d⟩ := id st'
    exact ⟨u, rfl, go_of (s := { s with heap := h' }) e c d (by decide) ⟨x, H, I1, ru, ⟨rfl, fun ys hy => by rw [I.tuple_inj hy hq]; exact hx⟩, st', fun b hb => (hf b hb).1⟩⟩
  done := by
    intro X hP hw hK hc i pins s σ H E I hf st hg
    subst hP hw hK
    obtain ⟨xs, hq, hx⟩ := hg
    obtain ⟨its, rv, p, hz⟩ := I.tuple hq
    obtain ⟨f0, f1, f2, f3, f4, f5⟩ := hf it (by simp)
    have hl := rv.length
    exact wpAny_pyNext_tuple_end (I.ok.hd hc) st (show s.heap.IsTuple a its.toArray from p) (by simp; omega) fun h' eb => ⟨rfl, I.turned (t' := s.toks) (fun b o hb e => eb b o hb e) f0 f1 f3 f4 f5⟩
  self := fun _ _ _ _ _ st h => wpAny_pyIter_tupleiter st h
theorem turn_range {P : Program} {w : World} {K : PySem.W.Frag} {tg : Expr} (it : Addr) (lo : Int) (n : Nat) : Turn P w K tg (Itr lo n) [it] it (fun i h => IsRangeIter h it (lo + (i : Nat) * 1) ((n : Int) - (i : Nat)) 1) where
  mem := by simp
  obj := fun i h st b hb => by
    have e : b = it := by simpa using hb
    subst e
    exact ⟨_, st, fun v z => by
      have z' : Data.fields _ = Data.cell v := z
      cases z'⟩
  keep := fun i h h' st k => k it (by simp) _ st
  item := by
    intro X hP hw hK hc i pins s σ H E I hf st hg
    subst hP hw hK
    obtain ⟨f0, f1, f2, f3, f4, f5⟩ := hf it (by simp)
    have W := Walks.range (prog := X.prog) (w := X.w) (I.ok.hd hc) it lo 1 n
    refine W.item i s _ _ hg st fun v h' tk hv st' kk => ?_
    obtain ⟨t, rfl⟩ := hv
    have I1 : Inv X pins σ H { s with heap := h', toks := tk } := I.turned (fun b o hb e => kk b o (by simpa using hb) e) f0 f1 f3 f4 f5
    refine ⟨_, rfl, go_of (s := { s with heap := h', toks := tk }) (n := "range_iterator") st' rfl rfl (by decide) ⟨.int (lo + i), H, I1, ⟨t, ?_⟩, ⟨rfl, rfl⟩, st', fun b hb => (hf b hb).1⟩⟩
    rw [Int.mul_one]
  done := by
    intro X hP hw hK hc i pins s σ H E I hf st hg
    subst hP hw hK
    obtain ⟨f0, f1, f2, f3, f4, f5⟩ := hf it (by simp)
    exact wpAny_pyNext_range_end (I.ok.hd hc) st (by have : n ≤ i := hg; omega) fun h' eb => ⟨rfl, I.turned (t' := s.toks) (fun b o hb e => eb b o hb e) f0 f1 f3 f4 f5⟩
  self := fun _ _ _ _ _ st h => wpAny_pyIter_rangeiter st h
end L2

namespace L2
open PySem PySem.Spec PyProof.Rows
section
variable {X : Cx} {tg : Expr}
def iList (K : PySem.W.Frag) (tl : TE) : TI := fun σ H R => tl σ H fun x H1 => ∃ a, x = .ref a ∧ (∃ xs, SqL K H1 a xs) ∧ R (Itl K a) H1
def iTup (K : PySem.W.Frag) (tl : TE) : TI := fun σ H R => tl σ H fun x H1 => ∃ a, x = .ref a ∧ (∃ xs, SqT K H1 a xs) ∧ R (Itt K a) H1
theorem pi_list {l : Expr} {tl : TE} (hl : PE X l tl) : PI X tg l (iList X.K tl) := by
  intro pins s σ H R I h
  refine thn (hl pins s σ H _ I h) fun v s1 ⟨x, H1, I1, r1, q1⟩ => ?_
  obtain ⟨a, e, ⟨xs, hq⟩, q⟩ := q1
  subst e
  cases r1
  obtain ⟨its, rv, p, hz⟩ := I1.list hq
  refine wpAny_pyIter_list p.isList ?_
  refine ⟨s1.heap.objs.size, [s1.heap.objs.size], _, _, H1, rfl, I1.kept (t' := s1.toks) fun b o e => Heap.get?_push_of_some _ e, turn_list a _, ⟨_, Heap.get?_push_size _ rfl, rfl, rfl⟩, fun b hb => ?_, q⟩
  have e : b = s1.heap.objs.size := by simpa using hb
  subst e
  exact I1.fpOk (Nat.le_refl _) (I1.hok.fresh (Nat.le_refl _))
theorem pi_tup {l : Expr} {tl : TE} (hl : PE X l tl) : PI X tg l (iTup X.K tl) := by
  intro pins s σ H R I h
  refine thn (hl pins s σ H _ I h) fun v s1 ⟨x, H1, I1, r1, q1⟩ => ?_
  obtain ⟨a, e, ⟨xs, hq⟩, q⟩ := q1
  subst e
  cases r1
  obtain ⟨its, rv, p, hz⟩ := I1.tuple hq
  refine wpAny_pyIter_tuple (show s1.heap.IsTuple a its.toArray from p) ?_
  refine ⟨s1.heap.objs.size, [s1.heap.objs.size], _, _, H1, rfl, I1.kept (t' := s1.toks) fun b o e => Heap.get?_push_of_some _ e, turn_tuple a _, ⟨_, Heap.get?_push_size _ rfl, rfl, rfl⟩, fun b hb => ?_, q⟩
  have e : b = s1.heap.objs.size := by simpa using hb
  subst e
  exact I1.fpOk (Nat.le_refl _) (I1.hok.fresh (Nat.le_refl _))
/-- a range object just made, walked -/
theorem range_it {pins : List (Addr × Obj)} {σ : St} {H : Hp} {s : Shared} {R : It → Hp → Prop} {E : Value → Shared → Prop} {lo hi : Int} {t u v : Tok} {tk : Nat} (I : Inv X pins σ H s) (h1 : -(2 ^ 62) ≤ lo) (h2 : lo < 2 ^ 62) (h3 : -(2 ^ 62) ≤ hi) (h4 : hi < 2 ^ 62)
    (q : R (Itr lo (hi - lo).toNat) H) : wpAny (model X.prog X.w) X.A (pyIter (.ref s.heap.objs.size)) (PIE X pins σ tg R) E { s with heap := s.heap.push { cls := .type "range", data := .fields #[.int lo t, .int hi u, .int 1 v] }, toks := tk } := by
  refine wpAny_pyIter_range (IsRange.new ..) (small_one h1 h2 h3 h4) ?_
  have I1 : Inv X pins σ H { s with heap := s.heap.push { cls := .type "range", data := .fields #[.int lo t, .int hi u, .int 1 v] }, toks := tk } := I.kept fun b o e => Heap.get?_push_of_some _ e
  refine ⟨(s.heap.push { cls := .type "range", data := .fields #[.int lo t, .int hi u, .int 1 v] }).objs.size, [(s.heap.push { cls := .type "range", data := .fields #[.int lo t, .int hi u, .int 1 v] }).objs.size], _, _, H, rfl,
    I1.kept (t' := tk) fun b o e => Heap.get?_push_of_some _ e, turn_range _ lo (hi - lo).toNat, ?_, fun b hb => ?_, q⟩
  · have e1 : lo + ((0 : Nat) : Int) * 1 = lo := by simp
    have e2 : (((hi - lo).toNat : Nat) : Int) - ((0 : Nat) : Int) = Builtin.Range.rangeSize lo hi 1 := by rw [rangeSize_one]; split <;> omega
    show IsRangeIter _ _ (lo + ((0 : Nat) : Int) * 1) ((((hi - lo).toNat : Nat) : Int) - ((0 : Nat) : Int)) 1
    rw [e1, e2]
    exact Heap.get?_push_size _ rfl
  · have e : b = (s.heap.push { cls := .type "range", data := .fields #[.int lo t, .int hi u, .int 1 v] }).objs.size := by simpa using hb
    subst e
    exact I1.fpOk (Nat.le_refl _) (I1.hok.fresh (Nat.le_refl _))
def iRng1 (ta : TA) : TI := fun σ H R => ta σ H fun vs H1 => ∃ j : Int, vs = [.int j] ∧ -(2 ^ 62) ≤ j ∧ j < 2 ^ 62 ∧ R (Itr 0 j.toNat) H1
def iRng2 (ta : TA) : TI := fun σ H R => ta σ H fun vs H1 => ∃ i j : Int, vs = [.int i, .int j] ∧ (-(2 ^ 62) ≤ i ∧ i < 2 ^ 62 ∧ -(2 ^ 62) ≤ j ∧ j < 2 ^ 62) ∧ R (Itr i (j - i).toNat) H1
theorem pi_range1 {a : Expr} {ta : TA} {p pos : Pos} (hg : Gl X "range") (hm : X.mg "range" = none) (ha : PA X [a] ta) (hs : starEach [a] X.env = [(false, eval a X.env)] := by rfl) : PI X tg (.Call (.Name "range" p) [a] [] pos) (iRng1 ta) := by
  intro pins s σ H R I h
  refine Call_ (ld_blt I hg hm boot_range (PyProof.Rows.callWith_type1 (thn (ha pos pins s σ H _ I h) fun us s1 ⟨vs, H1, I1, r1, q1⟩ => ?_) hs rfl))
  obtain ⟨j, e, q1, q2, q⟩ := q1
  subst e
  cases r1 with
  | cons r rr =>
    cases rr
    obtain ⟨t, rfl⟩ := r
    exact call_range_1 (range_it I1 (by omega) (by omega) q1 q2 (by simpa using q))
theorem pi_range2 {a b : Expr} {ta : TA} {p pos : Pos} (hg : Gl X "range") (hm : X.mg "range" = none) (ha : PA X [a, b] ta) (hs : starEach [a, b] X.env = [(false, eval a X.env), (false, eval b X.env)] := by rfl) (hs2 : starEach [b] X.env = [(false, eval b X.env)] := by rfl) :
    PI X tg (.Call (.Name "range" p) [a, b] [] pos) (iRng2 ta) := by
  intro pins s σ H R I h
  refine Call_ (ld_blt I hg hm boot_range (PyProof.Rows.callWith_type1 (thn (ha pos pins s σ H _ I h) fun us s1 ⟨vs, H1, I1, r1, q1⟩ => ?_) (by rw [hs, hs2]) (by rw [hs2]; rfl)))
  obtain ⟨i, j, e, ⟨q1, q2, q3, q4⟩, q⟩ := q1
  subst e
  cases r1 with
  | cons r rr =>
    cases rr with
    | cons r' rr =>
      cases rr
      obtain ⟨t, rfl⟩ := r
      obtain ⟨t', rfl⟩ := r'
      exact call_range_2 (range_it I1 q1 q2 q3 q4 q)

/-! ### for -/
/-- W: the invariant by the turn and a measure; N: what the body is to reach -/
def tFor (wi : TI) (g : TG) (tb : TS) : TS := fun D σ H => wi σ H fun J H1 => ∃ W : Nat → Nat → St → Hp → Prop, (∃ m, W 0 m σ H1) ∧ ∀ i m σ H, W i m σ H →
  (J.stop i H ∧ D.nx σ H) ∨ (J.go i H ∧ ∃ N : St → Hp → Prop, (∀ σ' H', N σ' H' → ∃ m', m' < m ∧ W (i + 1) m' σ' H') ∧ ∀ x H', J.yld i H x H' → g x σ H' fun σ2 H2 => tb { D with nx := N, ct := N, bk := D.nx } σ2 H2)
/-- the records at fp as they stand -/
def pinsAt (fp : List Addr) (h : Heap) : List (Addr × Obj) := fp.filterMap fun b => (h.get? b).map fun o => (b, o)
theorem mem_pinsAt {fp : List Addr} {h : Heap} {b : Addr} {o : Obj} (hb : b ∈ fp) (e : h.get? b = some o) : (b, o) ∈ pinsAt fp h := List.mem_filterMap.mpr ⟨b, hb, by rw [e]; rfl⟩
theorem of_pinsAt {fp : List Addr} {h : Heap} {p : Addr × Obj} (hp : p ∈ pinsAt fp h) : p.1 ∈ fp ∧ h.get? p.1 = some p.2 := by
  obtain ⟨b, hb, e⟩ := List.mem_filterMap.mp hp
  cases q : h.get? b with
  | none => rw [q] at e; cases e
  | some o =>
    rw [q] at e
    have e' : (b, o) = p := Option.some.inj e
    subst e'
    exact ⟨hb, q⟩
theorem Inv.pinned {pins : List (Addr × Obj)} {σ : St} {H : Hp} {s : Shared} {fp : List Addr} (I : Inv X pins σ H s) (hf : ∀ b ∈ fp, FpOk X pins H b) (ho : ∀ b ∈ fp, ∃ o, s.heap.get? b = some o ∧ ∀ v, o.data ≠ .cell v) : Inv X (pins ++ pinsAt fp s.heap) σ H s :=
  I.pins_of fun p hp => (List.mem_append.mp hp).elim (fun z => I.pin p (List.mem_append_right _ z)) fun z => by
    obtain ⟨hb, e⟩ := of_pinsAt z
    obtain ⟨f0, f1, f2, _⟩ := hf p.1 hb
    obtain ⟨o, e', d⟩ := ho p.1 hb
    rw [e] at e'; cases e'
    exact ⟨e, f0, f1, f2, d⟩
theorem Inv.unpinned {pins pl : List (Addr × Obj)} {σ : St} {H : Hp} {s : Shared} (I : Inv X (pins ++ pl) σ H s) : Inv X pins σ H s := I.pins_of fun p hp => I.pin p (List.mem_append_right _ (List.mem_append_left _ hp))
theorem ps_for {iter : Expr} {body : List Stmt} {wi : TI} {g : TG} {tb : TS} {pos : Pos} (hp : PassesOwn (model X.prog X.w) X.A X.env X.xe) (hc : X.calm = true) (hi : PI X tg iter wi) (hg : PG X tg g) (hb : PSs X body tb)
    (hs : ∀ x, foldedSetIterable iter X.env x = pure x := by intro _; rfl) : PS X (.For tg iter body [] pos) (tFor wi g tb) := by
  intro pins s σ H D I h
  refine wpAny_For (thn (hi pins s σ H _ I h) fun v s1 h1 => thn h1 fun itv s2 h2 => ?_) hs
  obtain ⟨it, fp, tn, J, H2, e, I2, T, st2, f2, W, ⟨m0, w0⟩, turn⟩ := h2
  subst e
  -- what stays true of the iterator's objects through the loop
  have stat : ∀ {H' : Hp}, (∀ b ∈ fp, H' b = none) → ∀ b ∈ fp, FpOk X pins H' b := fun hn b hb => ⟨hn b hb, (f2 b hb).2⟩
  refine codeAny_forLoop_any (fun n s' => ∃ i σ' H', Inv X pins σ' H' s' ∧ tn i s'.heap ∧ (∀ b ∈ fp, H' b = none) ∧ W i n σ' H') ?_ m0 ⟨0, σ, H2, I2, st2, fun b hb => (f2 b hb).1, w0⟩
  rintro n s3 ⟨i, σ3, H3, I3, st3, fr3, w3⟩
  rcases turn i n σ3 H3 w3 with ⟨stop, qn⟩ | ⟨go, N, hN, step⟩
  · refine wpAny_passesOwn hp (thn (T.done X rfl rfl rfl hc i pins s3 σ3 H3 X.xe I3 (stat fr3) st3 stop) fun r s4 ⟨hr, I4⟩ => ?_)
    subst hr
    exact wpAny_execs_nil ⟨σ3, H3, I4, qn⟩
  · refine wpAny_passesOwn hp (thn (T.item X rfl rfl rfl hc i pins s3 σ3 H3 X.xe I3 (stat fr3) st3 go) fun r s4 ⟨u, hr, h4⟩ => ?_)
    subst hr
    refine wpAny_passesOwn hp (thn h4 fun _ s5 ⟨x, H5, I5, r5, y5, st5, fr5⟩ => ?_)
    have I5' := I5.pinned (stat fr5) (T.obj _ _ st5)
    refine wpAny_passesOwn hp (thn (hg _ s5 σ3 H5 x u _ I5' r5 (step x H5 y5)) fun _ s6 ⟨σ6, H6, I6, q6⟩ => ?_)
    refine wpAny_passesOwn hp (thn (hb _ s6 σ6 H6 _ I6 q6) fun f s7 q7 => ?_)
    have again : ∀ {σ7 : St} {H7 : Hp}, Inv X (pins ++ pinsAt fp s5.heap) σ7 H7 s7 → N σ7 H7 → ∃ m, m < n ∧ ∃ i σ' H', Inv X pins σ' H' s7 ∧ tn i s7.heap ∧ (∀ b ∈ fp, H' b = none) ∧ W i m σ' H' := fun {σ7 H7} I7 n7 => by
      obtain ⟨m', hm, w7⟩ := hN σ7 H7 n7
      refine ⟨m', hm, i + 1, σ7, H7, I7.unpinned, T.keep _ _ _ st5 fun b hb o e => (I7.pin (b, o) (List.mem_append_right _ (List.mem_append_right _ (mem_pinsAt hb e)))).1, fun b hb => ?_, w7⟩
      obtain ⟨o, e, d⟩ := T.obj _ _ st5 b hb
      exact (I7.pin (b, o) (List.mem_append_right _ (List.mem_append_right _ (mem_pinsAt hb e)))).2.1
    cases f with
    | next => obtain ⟨σ7, H7, I7, n7⟩ := q7; exact again I7 n7
    | cont => obtain ⟨σ7, H7, I7, n7⟩ := q7; exact again I7 n7
    | brk => obtain ⟨σ7, H7, I7, q7⟩ := q7; exact ⟨σ7, H7, I7.unpinned, q7⟩
    | ret v => obtain ⟨x7, σ7, H7, I7, r7, q7⟩ := q7; exact ⟨x7, σ7, H7, I7.unpinned, r7, q7⟩
end

/-! ### the forms one uses -/
end L2

namespace L2
open PySem PySem.Spec PyProof.Rows

abbrev R2 := V → V → Hp → VK → Prop
/-- a two-place operation on values: f is binaryOp op, inplaceOp op or compareOp op -/
def OpR (X : Cx) (f : Value → Value → Sem Value) (r : R2) : Prop :=
  ∀ (pins : List (Addr × Obj)) (s : Shared) (σ : St) (H : Hp) (x y : V) (v u : Value) (Q : VK), Inv X pins σ H s → RelV x v → RelV y u → r x y H Q →
    wpAny (model X.prog X.w) X.A (f v u) (EP X pins σ Q) X.xe s
/-- a one-place operation -/
def UnR (X : Cx) (f : Value → Sem Value) (r : V → Hp → VK → Prop) : Prop :=
  ∀ (pins : List (Addr × Obj)) (s : Shared) (σ : St) (H : Hp) (x : V) (v : Value) (Q : VK), Inv X pins σ H s → RelV x v → r x H Q →
    wpAny (model X.prog X.w) X.A (f v) (EP X pins σ Q) X.xe s
/-- a call of a value that is known (a builtin, a type) with values -/
def CallR (X : Cx) (f : Value) (r : List V → Hp → VK → Prop) : Prop :=
  ∀ (pins : List (Addr × Obj)) (s : Shared) (σ : St) (H : Hp) (xs : List V) (us : List Value) (Q : VK), Inv X pins σ H s → Vals xs us → r xs H Q →
    wpAny (model X.prog X.w) X.A (call f us) (EP X pins σ Q) X.xe s
/-- a value's truth -/
def TruR (X : Cx) (r : V → Hp → (Bool → Hp → Prop) → Prop) : Prop :=
  ∀ (pins : List (Addr × Obj)) (s : Shared) (σ : St) (H : Hp) (x : V) (v : Value) (Q : Bool → Hp → Prop), Inv X pins σ H s → RelV x v → r x H Q →
    wpAny (model X.prog X.w) X.A (truthy v) (TP X pins σ Q) X.xe s

def tOp (r : R2) (ta tb : TE) : TE := fun σ H Q => ta σ H fun x H1 => tb σ H1 fun y H2 => r x y H2 Q
def tUn (r : V → Hp → VK → Prop) (ta : TE) : TE := fun σ H Q => ta σ H fun x H1 => r x H1 Q
/-- ints in, under C, and a value out -/
def rI (C : Int → Int → Prop) (g : Int → Int → V) : R2 := fun x y H Q => ∃ i j, x = .int i ∧ y = .int j ∧ C i j ∧ Q (g i j) H
def rI0 (g : Int → Int → V) : R2 := fun x y H Q => ∃ i j, x = .int i ∧ y = .int j ∧ Q (g i j) H
def rU (g : Int → V) : V → Hp → VK → Prop := fun x H Q => ∃ i, x = .int i ∧ Q (g i) H

section
variable {X : Cx} {a b c : Expr} {ta tb tc : TE} {pos : Pos}

theorem binT (ha : PE X a ta) (hb : PE X b tb) {pins : List (Addr × Obj)} {s : Shared} {σ : St} {H : Hp} {R : V → V → Hp → Prop} (I : Inv X pins σ H s)
    (h : ta σ H fun x H1 => tb σ H1 fun y H2 => R x y H2) {Q : Value → Shared → Prop} {f : Value → Value → Sem Value}
    (hf : ∀ v u s2 x y H2, Inv X pins σ H2 s2 → RelV x v → RelV y u → R x y H2 → wpAny (model X.prog X.w) X.A (f v u) Q X.xe s2) :
    wpAny (model X.prog X.w) X.A (eval a X.env) (fun v s₁ => wpAny (model X.prog X.w) X.A (eval b X.env) (fun u s₂ => wpAny (model X.prog X.w) X.A (f v u) Q X.xe s₂) X.xe s₁) X.xe s := by
  refine thn (ha pins s σ H _ I h) fun v s1 ⟨x, H1, I1, r1, q1⟩ => ?_
  refine thn (hb pins s1 σ H1 _ I1 q1) fun u s2 ⟨y, H2, I2, r2, q2⟩ => ?_
  exact hf v u s2 x y H2 I2 r1 r2 q2

theorem pe_op {op : Operator} {r : R2} (ho : OpR X (binaryOp op) r) (ha : PE X a ta) (hb : PE X b tb) : PE X (.BinOp a op b pos) (tOp r ta tb) := by
  intro pins s σ H Q I h
  exact wpAny_BinOp (binT ha hb I h fun v u s2 x y H2 I2 rx ry q => ho pins s2 σ H2 x y v u Q I2 rx ry q)
theorem pe_un {op : UnaryOp} {r : V → Hp → VK → Prop} (ho : UnR X (unaryOp op) r) (ha : PE X a ta) : PE X (.UnaryOp op a pos) (tUn r ta) := by
  intro pins s σ H Q I h
  exact UnaryOp_ (thn (ha pins s σ H _ I h) fun v s1 ⟨x, H1, I1, r1, q1⟩ => ho pins s1 σ H1 x v Q I1 r1 q1)
/-! ### ints -/
theorem opI {f : Value → Value → Sem Value} {C : Int → Int → Prop} {g : Int → Int → Int}
    (rule : ∀ (i j : Int) (t u : Tok) (s : Shared) (Q : Value → Shared → Prop) (E : Value → Shared → Prop), C i j → Q (.int (g i j) s.toks) { s with toks := s.toks + 1 } → wpAny (model X.prog X.w) X.A (f (.int i t) (.int j u)) Q E s) :
    OpR X f (rI C fun i j => .int (g i j)) := by
  intro pins s σ H x y v u Q I rx ry h
  obtain ⟨i, j, rfl, rfl, hc, q⟩ := h
  obtain ⟨t, rfl⟩ := rx
  obtain ⟨t', rfl⟩ := ry
  exact rule i j t t' s _ _ hc ⟨.int (g i j), H, I.tok _, ⟨_, rfl⟩, q⟩
theorem opI0 {f : Value → Value → Sem Value} {g : Int → Int → Int}
    (rule : ∀ (i j : Int) (t u : Tok) (s : Shared) (Q : Value → Shared → Prop) (E : Value → Shared → Prop), Q (.int (g i j) s.toks) { s with toks := s.toks + 1 } → wpAny (model X.prog X.w) X.A (f (.int i t) (.int j u)) Q E s) :
    OpR X f (rI0 fun i j => .int (g i j)) := by
  intro pins s σ H x y v u Q I rx ry h
  obtain ⟨i, j, rfl, rfl, q⟩ := h
  obtain ⟨t, rfl⟩ := rx
  obtain ⟨t', rfl⟩ := ry
  exact rule i j t t' s _ _ ⟨.int (g i j), H, I.tok _, ⟨_, rfl⟩, q⟩
theorem opB0 {f : Value → Value → Sem Value} {g : Int → Int → Bool}
    (rule : ∀ (i j : Int) (t u : Tok) (s : Shared) (Q : Value → Shared → Prop) (E : Value → Shared → Prop), Q (.bool (g i j)) s → wpAny (model X.prog X.w) X.A (f (.int i t) (.int j u)) Q E s) :
    OpR X f (rI0 fun i j => .bl (g i j)) := by
  intro pins s σ H x y v u Q I rx ry h
  obtain ⟨i, j, rfl, rfl, q⟩ := h
  obtain ⟨t, rfl⟩ := rx
  obtain ⟨t', rfl⟩ := ry
  exact rule i j t t' s _ _ ⟨.bl (g i j), H, I, rfl, q⟩

def CDiv (i j : Int) : Prop := 0 < j ∧ j < 1073741824
def CPow (i j : Int) : Prop := 0 ≤ j ∧ j ≤ 1000000 ∧ i.natAbs < 2 ^ 64
def CMul (i j : Int) : Prop := (-(2 ^ 64) < i ∧ i < 2 ^ 64) ∨ (-(2 ^ 64) < j ∧ j < 2 ^ 64)
theorem CMul.ok {i j : Int} (h : CMul i j) : IntMulOk i j := by
  rcases h with ⟨h1, h2⟩ | ⟨h1, h2⟩
  · exact .of_left (intBits_le_64 h1 h2)
  · exact .of_right (intBits_le_64 h1 h2)
theorem op_add : OpR X (binaryOp .Add) (rI0 fun i j => .int (i + j)) := opI0 fun _ _ _ _ _ _ _ q => add_int q
theorem op_sub : OpR X (binaryOp .Sub) (rI0 fun i j => .int (i - j)) := opI0 fun _ _ _ _ _ _ _ q => sub_int q
theorem op_mul : OpR X (binaryOp .Mult) (rI CMul fun i j => .int (i * j)) := opI fun _ _ _ _ _ _ _ hc q => mul_int q hc.ok
/-- // by a positive divisor -/
theorem op_fdiv : OpR X (binaryOp .FloorDiv) (rI CDiv fun i j => .int (i / j)) := opI fun i j _ _ _ _ _ hc q => by
  have h1 : (0 : Int) < j := hc.1
  have h2 : j < 1073741824 := hc.2
  exact floordiv_int (by omega) (by rw [Int.fdiv_eq_ediv_of_nonneg i (by omega)]; exact q) (.inl (PyProof.noPylong_small (by omega)))
/-- % by a positive divisor of any size -/
theorem op_mod : OpR X (binaryOp .Mod) (rI (fun _ j => 0 < j) fun i j => .int (i % j)) := opI fun i j _ _ _ _ _ hc q => by
  have h1 : (0 : Int) < j := hc
  exact mod_int' (by omega) (by rw [Int.fmod_eq_emod_of_nonneg i (by omega)]; exact q)
theorem op_pow : OpR X (binaryOp .Pow) (rI CPow fun i j => .int (i ^ j.toNat)) := opI fun _ _ _ _ _ _ _ hc q => pow_int_small hc.1 hc.2.1 hc.2.2 q
theorem unI {f : Value → Sem Value} {g : Int → Int}
    (rule : ∀ (i : Int) (t : Tok) (s : Shared) (Q : Value → Shared → Prop) (E : Value → Shared → Prop), Q (.int (g i) s.toks) { s with toks := s.toks + 1 } → wpAny (model X.prog X.w) X.A (f (.int i t)) Q E s) :
    UnR X f (rU fun i => .int (g i)) := by
  intro pins s σ H x v Q I rx h
  obtain ⟨i, rfl, q⟩ := h
  obtain ⟨t, rfl⟩ := rx
  exact rule i t s _ _ ⟨.int (g i), H, I.tok _, ⟨_, rfl⟩, q⟩
theorem un_neg : UnR X (unaryOp .USub) (rU fun i => .int (-i)) := unI fun _ _ _ _ _ q => neg_int q
/-! ### bools among ints: n += (a < b) -/
end

/-! ### comparisons -/
section
variable {X : Cx} {a b c : Expr} {ta tb tc : TE} {pos : Pos}
theorem fin_bl {pins : List (Addr × Obj)} {σ : St} {H : Hp} {s : Shared} {Q : VK} {k k' : Bool} (I : Inv X pins σ H s) (q : Q (.bl k) H) (e : k = k') : EP X pins σ Q (.bool k') s := by
  subst e
  exact ⟨.bl k, H, I, rfl, q⟩
theorem op_lt : OpR X (compareOp .Lt) (rI0 fun i j => .bl (decide (i < j))) := opB0 fun _ _ _ _ _ _ _ q => lt_int q
theorem op_le : OpR X (compareOp .LtE) (rI0 fun i j => .bl (decide (i ≤ j))) := opB0 fun _ _ _ _ _ _ _ q => le_int q
theorem op_gt : OpR X (compareOp .Gt) (rI0 fun i j => .bl (decide (j < i))) := opB0 fun _ _ _ _ _ _ _ q => gt_int q
theorem op_ge : OpR X (compareOp .GtE) (rI0 fun i j => .bl (decide (j ≤ i))) := opB0 fun _ _ _ _ _ _ _ q => ge_int q
/-- the one string within the other -/
theorem op_in_str : OpR X (compareOp .In) (fun x y H Q => ∃ i j, x = .str i ∧ y = .str j ∧ Q (.bl (!(Builtin.Str.occurrences j i 0 j.length 1).isEmpty)) H) := by
  intro pins s σ H x y v u Q I rx ry h
  obtain ⟨i, j, rfl, rfl, q⟩ := h
  obtain ⟨t, rfl⟩ := rx
  obtain ⟨t', rfl⟩ := ry
  exact in_str (fin_bl I q rfl)

/-- is None, is not None: the right side a value none -/
theorem op_isN : OpR X (compareOp .Is) (fun x y H Q => y = .non ∧ Q (.bl (decide (x = .non))) H) := by
  intro pins s σ H x y v u Q I rx ry h
  obtain ⟨rfl, q⟩ := h
  cases ry
  refine is_none_gen (fin_bl I q ?_)
  cases x <;> first
    | (cases rx; rfl)
    | (obtain ⟨t, rfl⟩ := rx; rfl)
theorem op_notN : OpR X (compareOp .IsNot) (fun x y H Q => y = .non ∧ Q (.bl (!decide (x = .non))) H) := by
  intro pins s σ H x y v u Q I rx ry h
  obtain ⟨rfl, q⟩ := h
  cases ry
  refine isnot_none_gen (fin_bl I q ?_)
  cases x <;> first
    | (cases rx; rfl)
    | (obtain ⟨t, rfl⟩ := rx; rfl)

theorem op_notin_str : OpR X (compareOp .NotIn) (fun x y H Q => ∃ i j, x = .str i ∧ y = .str j ∧ Q (.bl (!(!(Builtin.Str.occurrences j i 0 j.length 1).isEmpty))) H) := by
  intro pins s σ H x y v u Q I rx ry h
  obtain ⟨i, j, rfl, rfl, q⟩ := h
  obtain ⟨t, rfl⟩ := rx
  obtain ⟨t', rfl⟩ := ry
  exact notIn_str (fin_bl I q rfl)
/-- two rules for one operation: by cases -/
theorem OpR.or {f : Value → Value → Sem Value} {r r' : R2} (h : OpR X f r) (h' : OpR X f r') : OpR X f (fun x y H Q => r x y H Q ∨ r' x y H Q) := by
  intro pins s σ H x y v u Q I rx ry q
  rcases q with q | q
  · exact h pins s σ H x y v u Q I rx ry q
  · exact h' pins s σ H x y v u Q I rx ry q

/-- a comparison as a value; hm: nomark b, or (for in, not in) by with_unfolding_all rfl -/
theorem pe_cmpR {op : CmpOp} {r : R2} (ho : OpR X (compareOp op) r) (ha : PE X a ta) (hb : PE X b tb) (hm : behindInMarks op b = false) : PE X (.Compare a [op] [b] pos) (tOp r ta tb) := by
  intro pins s σ H Q I h
  exact wpAny_Compare1 (binT ha hb I h fun v u s2 x y H2 I2 rx ry q => ho pins s2 σ H2 x y v u Q I2 rx ry q) hm
/-- a reading of a value as a test -/
def tTest (t : TE) : TT := fun σ H Q => t σ H fun x H' => ∃ k, x = .bl k ∧ Q k H'
theorem pt_cmpR {op : CmpOp} {r : R2} (ho : OpR X (compareOp op) r) (ha : PE X a ta) (hb : PE X b tb) (hm : behindInMarks op b = false) : PT X (.Compare a [op] [b] pos) (tTest (tOp r ta tb)) := by
  intro pins s σ H Q I h
  refine wpAny_isTrue_Compare1 (thn (ha pins s σ H _ I h) fun v s1 ⟨x, H1, I1, r1, q1⟩ => thn (hb pins s1 σ H1 _ I1 q1) fun u s2 ⟨y, H2, I2, r2, q2⟩ =>
    thn (ho pins s2 σ H2 x y v u _ I2 r1 r2 q2) fun c s3 ⟨z, H3, I3, r3, k, e, q3⟩ => ?_) hm
  subst e
  cases r3
  exact wpAny_truthy_bool ⟨H3, I3, q3⟩
/-- a op1 b op2 c -/
def tChain (r r' : R2) (ta tb tc : TE) : TE := fun σ H Q => ta σ H fun x H1 => tb σ H1 fun y H2 => r x y H2 fun z H3 => ∃ k, z = .bl k ∧
  (if k = true then tc σ H3 fun w' H4 => r' y w' H4 Q else Q (.bl false) H3)
theorem pe_chain {op op' : CmpOp} {r r' : R2} (ho : OpR X (compareOp op) r) (ho' : OpR X (compareOp op') r') (ha : PE X a ta) (hb : PE X b tb) (hc : PE X c tc)
    (hm : lastMarks [op, op'] [b, c] = false := by with_unfolding_all rfl) : PE X (.Compare a [op, op'] [b, c] pos) (tChain r r' ta tb tc) := by
  intro pins s σ H Q I h
  refine Compare_chain (thn (ha pins s σ H _ I h) fun v s1 ⟨x, H1, I1, r1, q1⟩ => chain_link (thn (hb pins s1 σ H1 _ I1 q1) fun u s2 ⟨y, H2, I2, r2, q2⟩ =>
    thn (ho pins s2 σ H2 x y v u _ I2 r1 r2 q2) fun d s3 ⟨z, H3, I3, r3, k, e, q3⟩ => ?_)) hm
  subst e
  cases r3
  refine wpAny_truthy_bool ?_
  cases k with
  | false => exact ite_ff ⟨.bl false, H3, I3, rfl, q3⟩
  | true => exact ite_tt (chain_last (thn (hc pins s3 σ H3 _ I3 q3) fun w' s4 ⟨z', H4, I4, r4, q4⟩ => ho' pins s4 σ H4 y z' u w' Q I4 r2 r4 q4))
theorem pt_chain {op op' : CmpOp} {r r' : R2} (ho : OpR X (compareOp op) r) (ho' : OpR X (compareOp op') r') (ha : PE X a ta) (hb : PE X b tb) (hc : PE X c tc)
    (hm : lastMarks [op, op'] [b, c] = false := by with_unfolding_all rfl) : PT X (.Compare a [op, op'] [b, c] pos) (tTest (tChain r r' ta tb tc)) := by
  intro pins s σ H Q I h
  refine isTrue_chain (thn (ha pins s σ H _ I h) fun v s1 ⟨x, H1, I1, r1, q1⟩ => test_link (thn (hb pins s1 σ H1 _ I1 q1) fun u s2 ⟨y, H2, I2, r2, q2⟩ =>
    thn (ho pins s2 σ H2 x y v u _ I2 r1 r2 q2) fun d s3 ⟨z, H3, I3, r3, k, e, q3⟩ => ?_)) hm
  subst e
  cases r3
  refine wpAny_truthy_bool ?_
  cases k with
  | false =>
    obtain ⟨k', e', q'⟩ := q3
    cases e'
    exact ite_ff ⟨H3, I3, q'⟩
  | true =>
    refine ite_tt (test_last (thn (hc pins s3 σ H3 _ I3 q3) fun w' s4 ⟨z', H4, I4, r4, q4⟩ => thn (ho' pins s4 σ H4 y z' u w' _ I4 r2 r4 q4) fun d' s5 ⟨z2, H5, I5, r5, k2, e2, q5⟩ => ?_))
    subst e2
    cases r5
    exact wpAny_truthy_bool ⟨H5, I5, q5⟩

/-! ### truth -/
/-- a value's truth by the abstract heap -/
def TruV (K : PySem.W.Frag) (x : V) (H : Hp) (k : Bool) : Prop :=
  match x with
  | .non => k = false
  | .bl b => k = b
  | .int i => k = (i != 0)
  | .str y => y.length ≤ sizeLine ∧ k = ((y.length : Int) != 0)
  | .byt y => y.size ≤ sizeLine ∧ k = ((y.size : Int) != 0)
  | .ref p => (∃ xs, SqL K H p xs ∧ k = !xs.isEmpty) ∨ (∃ xs, SqT K H p xs ∧ k = !xs.isEmpty) ∨ ∃ kvs, H p = some (.dK kvs) ∧ k = !kvs.isEmpty
  | _ => False
theorem isEmpty_kv {κ : Type} {kvs : List (κ × V)} {vs : List (κ × Value)} (r : KV kvs vs) : (!vs.isEmpty) = !kvs.isEmpty := by
  cases r <;> rfl
theorem isEmpty_of {xs : List V} {its : List Value} (r : Vals xs its) : (!its.toArray.isEmpty) = !xs.isEmpty := by
  cases r <;> simp
theorem line63 : (sizeLine : Nat) < 2 ^ 63 := by rw [sizeLine_eq]; decide
theorem tru_ok : TruR X (fun x H Q => ∃ k, TruV X.K x H k ∧ Q k H) := by
  intro pins s σ H x v Q I rx h
  obtain ⟨k, e, q⟩ := h
  have hl := line63
  have hs : sizeLine = 16777216 := sizeLine_eq
  cases x with
  | non =>
    cases rx
    have e' : k = false := e
    subst e'
    exact truthy_none ⟨H, I, q⟩
  | bl b =>
    cases rx
    have e' : k = b := e
    subst e'
    exact wpAny_truthy_bool ⟨H, I, q⟩
  | int i =>
    obtain ⟨t, rfl⟩ := rx
    have e' : k = (i != 0) := e
    subst e'
    exact PySem.P.truthy_int ⟨H, I, q⟩
  | str y =>
    obtain ⟨t, rfl⟩ := rx
    obtain ⟨hy, e'⟩ : y.length ≤ sizeLine ∧ k = ((y.length : Int) != 0) := e
    subst e'
    exact PySem.P.truthy_str (by omega) ⟨H, I.tok _, q⟩
  | byt y =>
    obtain ⟨t, rfl⟩ := rx
    obtain ⟨hy, e'⟩ : y.size ≤ sizeLine ∧ k = ((y.size : Int) != 0) := e
    subst e'
    exact PySem.W.truthy_bytes (by omega) ⟨H, I.tok _, q⟩
  | ref p =>
    cases rx
    have e' : (∃ xs, SqL X.K H p xs ∧ k = !xs.isEmpty) ∨ (∃ xs, SqT X.K H p xs ∧ k = !xs.isEmpty) ∨ ∃ kvs, H p = some (.dK kvs) ∧ k = !kvs.isEmpty := e
    rcases e' with ⟨xs, hx, e'⟩ | ⟨xs, hx, e'⟩ | ⟨kvs, hx, e'⟩
    · subst e'
      obtain ⟨its, r, pl, hz⟩ := I.list hx
      have hlen := r.length
      exact wpAny_truthy_list pl.isList (by simp only [List.size_toArray]; omega) ⟨H, I.tok _, by rw [isEmpty_of r]; exact q⟩
    · subst e'
      obtain ⟨its, r, pl, hz⟩ := I.tuple hx
      have hlen := r.length
      exact truthy_tuple pl (by simp only [List.size_toArray]; omega) ⟨H, I.tok _, by rw [isEmpty_of r]; exact q⟩
    · subst e'
      obtain ⟨hz, hS, vs, r, m⟩ : kvs.length ≤ sizeLine ∧ (p == sysModules) = false ∧ ∃ vs, KV kvs vs ∧ s.heap.DictOf (mixKind X.prog X.w) p vs := I.hok p _ hx
      have hlen : kvs.length = vs.length := Paired.length r
      exact wpAny_truthy_dict hS m (by omega) ⟨H, I.tok _, by rw [isEmpty_kv r]; exact q⟩
  | _ => exact (show False from e).elim
/-- any expression whose test is its value's truth (a name, a call, a subscript, a field ..: he by fun _ => rfl) -/
theorem pt_truth (ha : PE X a ta) (he : ∀ whole, isTrue a X.env whole = (do let v ← whole; standAt a.pos; holding [v] (truthy v))) :
    PT X a (fun σ H Q => ta σ H fun x H' => ∃ k, TruV X.K x H' k ∧ Q k H') := by
  intro pins s σ H Q I h
  exact isTrue_plain (thn (ha pins s σ H _ I h) fun v s1 ⟨x, H1, I1, r1, q1⟩ => tru_ok pins s1 σ H1 x v Q I1 r1 q1) (he _)

/-! ### strs and bytes -/
theorem op_add_str : OpR X (binaryOp .Add) (fun x y H Q => ∃ i j, x = .str i ∧ y = .str j ∧ i.length + j.length ≤ sizeLine ∧ Q (.str (i ++ j)) H) := by
  intro pins s σ H x y v u Q I rx ry h
  obtain ⟨i, j, rfl, rfl, hz, q⟩ := h
  obtain ⟨t, rfl⟩ := rx
  obtain ⟨t', rfl⟩ := ry
  exact add_str (fun t' tk => ⟨.str (i ++ j), H, I.tok _, ⟨_, rfl⟩, q⟩) hz
/-! ### scalar builtins, by CallR -/
theorem vals1 {x : V} {us : List Value} (r : Vals [x] us) : ∃ u, us = [u] ∧ RelV x u := by
  cases r with
  | cons r1 r2 => cases r2; exact ⟨_, rfl, r1⟩
theorem vals2 {x y : V} {us : List Value} (r : Vals [x, y] us) : ∃ u w', us = [u, w'] ∧ RelV x u ∧ RelV y w' := by
  cases r with
  | cons r1 r2 =>
    cases r2 with
    | cons r3 r4 => cases r4; exact ⟨_, _, rfl, r1, r3⟩
theorem call_max2 (hc : X.calm = true) : CallR X (.builtin "max") (fun xs H Q => ∃ i j, xs = [.int i, .int j] ∧ Q (.int (if j > i then j else i)) H) := by
  intro pins s σ H xs us Q I r h
  obtain ⟨i, j, rfl, q⟩ := h
  obtain ⟨u, w', rfl, ⟨t, rfl⟩, ⟨t', rfl⟩⟩ := vals2 r
  refine max_two_ints (I.ok.hd hc) fun h' tk k => ⟨_, H, I.kept k, ?_, q⟩
  by_cases hj : j > i
  · rw [if_pos hj, if_pos hj]; exact ⟨_, rfl⟩
  · rw [if_neg hj, if_neg hj]; exact ⟨_, rfl⟩
theorem call_min2 (hc : X.calm = true) : CallR X (.builtin "min") (fun xs H Q => ∃ i j, xs = [.int i, .int j] ∧ Q (.int (if j < i then j else i)) H) := by
  intro pins s σ H xs us Q I r h
  obtain ⟨i, j, rfl, q⟩ := h
  obtain ⟨u, w', rfl, ⟨t, rfl⟩, ⟨t', rfl⟩⟩ := vals2 r
  refine min_two_ints (I.ok.hd hc) fun h' tk k => ⟨_, H, I.kept k, ?_, q⟩
  by_cases hj : j < i
  · rw [if_pos hj, if_pos hj]; exact ⟨_, rfl⟩
  · rw [if_neg hj, if_neg hj]; exact ⟨_, rfl⟩
theorem call_int1 : CallR X (.type "int") (fun xs H Q => (∃ i, xs = [.int i] ∧ Q (.int i) H) ∨ ∃ k, xs = [.bl k] ∧ Q (.int (if k then 1 else 0)) H) := by
  intro pins s σ H xs us Q I r h
  rcases h with ⟨i, rfl, q⟩ | ⟨k, rfl, q⟩
  · obtain ⟨u, rfl, t, rfl⟩ := vals1 r
    exact call_int_int ⟨.int i, H, I, ⟨_, rfl⟩, q⟩
  · obtain ⟨u, rfl, r1⟩ := vals1 r
    cases r1
    exact call_int_bool ⟨.int (if k then 1 else 0), H, I.tok _, ⟨_, rfl⟩, q⟩
/-- len of a str, a bytes, a list, a tuple -/
def LenV (K : PySem.W.Frag) (x : V) (H : Hp) (n : Nat) : Prop :=
  match x with
  | .str y => y.length ≤ sizeLine ∧ n = y.length
  | .byt y => y.size ≤ sizeLine ∧ n = y.size
  | .ref p => (∃ xs, SqL K H p xs ∧ n = xs.length) ∨ ∃ xs, SqT K H p xs ∧ n = xs.length
  | _ => False
theorem call_len : CallR X (.builtin "len") (fun xs H Q => ∃ x n, xs = [x] ∧ LenV X.K x H n ∧ Q (.int n) H) := by
  intro pins s σ H xs us Q I r h
  obtain ⟨x, n, rfl, e, q⟩ := h
  obtain ⟨u, rfl, rx⟩ := vals1 r
  have hl := line63
  have hs : sizeLine = 16777216 := sizeLine_eq
  cases x with
  | str y =>
    obtain ⟨t, rfl⟩ := rx
    obtain ⟨hy, e'⟩ : y.length ≤ sizeLine ∧ n = y.length := e
    subst e'
    exact len_str (by omega) ⟨.int _, H, I.tok _, ⟨_, rfl⟩, q⟩
  | byt y =>
    obtain ⟨t, rfl⟩ := rx
    obtain ⟨hy, e'⟩ : y.size ≤ sizeLine ∧ n = y.size := e
    subst e'
    exact PySem.W.len_bytes (by omega) ⟨.int _, H, I.tok _, ⟨_, rfl⟩, q⟩
  | ref p =>
    cases rx
    have e' : (∃ xs, SqL X.K H p xs ∧ n = xs.length) ∨ ∃ xs, SqT X.K H p xs ∧ n = xs.length := e
    rcases e' with ⟨xs, hx, e'⟩ | ⟨xs, hx, e'⟩
    · subst e'
      obtain ⟨its, r', pl, hz⟩ := I.list hx
      have hlen := r'.length
      exact Calls.call_len_list pl.isList (by simp only [List.size_toArray]; omega) ⟨.int xs.length, H, I.tok _, ⟨_, by simp only [List.size_toArray]; rw [hlen]⟩, q⟩
    · subst e'
      obtain ⟨its, r', pl, hz⟩ := I.tuple hx
      have hlen := r'.length
      exact len_tuple pl (by simp only [List.size_toArray]; omega) ⟨.int xs.length, H, I.tok _, ⟨_, by simp only [List.size_toArray]; rw [hlen]⟩, q⟩
  | _ => exact (show False from e).elim
end
end L2

namespace L2
open PySem PySem.Spec PyProof.Rows

/-! ### an instance, its attributes a map -/
structure ObjM (h : Heap) (x dx C : Addr) (mA : Str → Option Value) : Prop where
  obj : h.get? x = some (PySem.W.instObj C dx)
  ns : h.Ns1 dx mA
  ne : dx ≠ x

theorem lookIn_ns {h : Heap} {dx : Addr} {mA : Str → Option Value} (n : h.Ns1 dx mA) : ∃ od, h.get? dx = some od ∧ ∀ name, PySem.W.lookIn name od = some (mA name) := by
  obtain ⟨o, es, ep, ho, hd, hk, _, hm⟩ := n
  refine ⟨o, ho, fun name => ?_⟩
  have e := hm name
  unfold nsFind findBy at e
  rw [← Array.find?_toList] at e
  unfold PySem.W.lookIn
  rw [hd]
  dsimp only
  split
  · rename_i y q
    rw [q] at e
    exact congrArg some e
  · rename_i q
    rw [q] at e
    have a : es.toList.any (·.refKey) = false := by
      rw [List.any_eq_false]
      intro y hy
      obtain ⟨z, t, hkey⟩ := hk y (Array.mem_toList_iff.mp hy)
      simp [DictEntry.refKey, hkey]
    have a' : ¬ es.toList.any (·.refKey) = true := by rw [a]; exact Bool.false_ne_true
    rw [if_neg a']
    exact congrArg some e

theorem ObjM.look {h : Heap} {x dx C : Addr} {mA : Str → Option Value} (I : ObjM h x dx C mA) : ∃ od, PySem.W.InstAt h x (PySem.W.instObj C dx) C (some od) ∧ ∀ name, PySem.W.lookIn name od = some (mA name) :=
  let ⟨od, ho, hl⟩ := lookIn_ns I.ns
  ⟨od, ⟨I.obj, rfl, rfl, ho⟩, hl⟩

section
variable {prog : Program} {w : World} {A : Around} {E : Value → Shared → Prop} {s : Shared} {K : PySem.W.Frag} {x dx C f : Addr} {mA : Str → Option Value} {name : Str} {v : Value}

theorem get_map {expr : Bool} {Q : Value → Shared → Prop} (X : K.In s.heap) (I : ObjM s.heap x dx C mA) (hg : PySem.W.plainGet K C name = true) (hh : PySem.W.hasDictIn K C = true)
    (ha : PySem.W.findIn K (.ref C) name = some none) (hv : mA name = some v) (hv' : PySem.W.handedIn v = true) (h : Q v { s with toks := s.toks + 1 }) :
    wpAny (model prog w) A (getAttr (.ref x) name expr) Q E s := by
  obtain ⟨od, J, hl⟩ := I.look
  exact PySem.W.get_value X J (PySem.W.plainGet_of hg).1 (PySem.W.findObj_own hh ha rfl (by rw [hl, hv])) hv' h

end

/-! ### the attributes as a list of pairs -/
def putF (f : Str) (v : V) : List (Str × V) → List (Str × V)
  | [] => [(f, v)]
  | (g, x) :: r => if g = f then (g, v) :: r else (g, x) :: putF f v r
theorem lookup_putF (f g : Str) (v : V) : ∀ fs : List (Str × V), (putF f v fs).lookup g = if g = f then some v else fs.lookup g
  | [] => by
    show List.lookup g [(f, v)] = _
    by_cases h : g = f
    · have hb : (g == f) = true := beq_iff_eq.mpr h
      simp only [List.lookup, hb, if_pos h]
    · have hb : (g == f) = false := beq_eq_false_iff_ne.mpr h
      simp only [List.lookup, hb, if_neg h]
  | (k, x) :: r => by
    have ih := lookup_putF f g v r
    rw [show putF f v ((k, x) :: r) = (if k = f then (k, v) :: r else (k, x) :: putF f v r) from rfl]
    by_cases hk : k = f
    · rw [if_pos hk]
      by_cases h : g = k
      · have hb : (g == k) = true := beq_iff_eq.mpr h
        simp only [List.lookup, hb, if_pos (h.trans hk)]
      · have hb : (g == k) = false := beq_eq_false_iff_ne.mpr h
        simp only [List.lookup, hb, if_neg (fun e : g = f => h (e.trans hk.symm))]
    · rw [if_neg hk]
      by_cases h : g = k
      · have hb : (g == k) = true := beq_iff_eq.mpr h
        simp only [List.lookup, hb, if_neg (fun e : g = f => hk (h.symm.trans e))]
      · have hb : (g == k) = false := beq_eq_false_iff_ne.mpr h
        simp only [List.lookup, hb]
        exact ih
theorem keys_putF (f : Str) (v : V) : ∀ fs : List (Str × V), f ∈ (putF f v fs).map (·.1) ∧ ∀ g, g ∈ fs.map (·.1) → g ∈ (putF f v fs).map (·.1)
  | [] => ⟨by simp [putF], fun g h => by simp at h⟩
  | (k, x) :: r => by
    obtain ⟨i1, i2⟩ := keys_putF f v r
    rw [show putF f v ((k, x) :: r) = (if k = f then (k, v) :: r else (k, x) :: putF f v r) from rfl]
    by_cases hk : k = f
    · rw [if_pos hk]
      subst hk
      exact ⟨by simp, fun g h => by simpa using h⟩
    · rw [if_neg hk]
      refine ⟨?_, fun g h => ?_⟩
      · rw [List.map_cons]
        exact List.mem_cons_of_mem _ i1
      · rw [List.map_cons] at h ⊢
        rcases List.mem_cons.mp h with e | e
        · exact List.mem_cons.mpr (.inl e)
        · exact List.mem_cons_of_mem _ (i2 g e)
theorem length_putF (f : Str) (v : V) : ∀ fs : List (Str × V), (putF f v fs).length ≤ fs.length + 1
  | [] => by simp [putF]
  | (k, x) :: r => by
    have ih := length_putF f v r
    rw [show putF f v ((k, x) :: r) = (if k = f then (k, v) :: r else (k, x) :: putF f v r) from rfl]
    by_cases hk : k = f
    · rw [if_pos hk, List.length_cons, List.length_cons]; omega
    · rw [if_neg hk, List.length_cons, List.length_cons]; omega

theorem RelO.some_of {v : V} {o : Option Value} (r : RelO (some v) o) : ∃ u, o = some u ∧ RelV v u := by
  cases o with
  | none => exact (show False from r).elim
  | some u => exact ⟨u, rfl, r⟩
theorem handed_of {v : V} {u : Value} (r : RelV v u) : PySem.W.handedIn u = true := by
  cases v with
  | non => cases (show u = Value.none from r); rfl
  | bl b => cases (show u = Value.bool b from r); rfl
  | int i => obtain ⟨t, e⟩ := (show ∃ t, u = Value.int i t from r); cases e; rfl
  | str x => obtain ⟨t, e⟩ := (show ∃ t, u = Value.str x t from r); cases e; rfl
  | byt b => obtain ⟨t, e⟩ := (show ∃ t, u = Value.bytes b t from r); cases e; rfl
  | flt b => obtain ⟨t, e⟩ := (show ∃ t, u = Value.float b t from r); cases e; rfl
  | ref a => cases (show u = Value.ref a from r); rfl
  | ty n => cases (show u = Value.type n from r); rfl

section
variable {P : Program} {w : World} {H H' : Hp} {h h' : Heap} {a C dx : Addr} {fs fs' : List (Str × V)}
theorem ins_get (hok : HOk P w H h) (e : H a = some (.ins C dx fs)) : ∃ mA, ObjM h a dx C mA ∧ (∀ f, RelO (fs.lookup f) (mA f)) ∧ PySem.Within mA (fs.map (·.1)) ∧ fs.length ≤ 1000 ∧ H dx = some (.own a) := by
  obtain ⟨d, z, ne, ob, mA, n, r, q⟩ := (show ObjOk P w H h a (.ins C dx fs) from hok a _ e)
  exact ⟨mA, ⟨ob, n, ne⟩, r, q, z, d⟩
end

/-! ### what of the text a class must have -/
structure Cls (K : PySem.W.Frag) (C : Addr) : Prop where
  pg : PySem.W.plainGet K C Str.empty = true
  hd : PySem.W.hasDictIn K C = true
  po : PySem.W.plainOver K C = true
  sa : PySem.W.findIn K (.ref C) "__setattr__" = some (some (.builtin "object.__setattr__"))
theorem Cls.get {K : PySem.W.Frag} {C : Addr} (c : Cls K C) (f : Str) : PySem.W.plainGet K C f = true := c.pg
/-- no class of it has the name -/
def NoAttr (K : PySem.W.Frag) (C : Addr) (f : Str) : Prop := PySem.W.findIn K (.ref C) f = some none
section
variable {X : Cx} {pins : List (Addr × Obj)} {σ : St} {H : Hp} {s : Shared} {a C dx : Addr} {fs : List (Str × V)} {f : Str} {v : V} {A : Around} {E : Value → Shared → Prop}

theorem getattr_ok {b : Bool} {Q : Value → Shared → Prop} (I : Inv X pins σ H s) (e : H a = some (.ins C dx fs)) (c : Cls X.K C) (n : NoAttr X.K C f) (l : fs.lookup f = some v)
    (h : ∀ u s', Inv X pins σ H s' → RelV v u → Q u s') : wpAny (model X.prog X.w) A (getAttr (.ref a) f b) Q E s := by
  obtain ⟨mA, O, r, _, _, _⟩ := ins_get I.hok e
  obtain ⟨u, hu, ru⟩ := RelO.some_of (v := v) (o := mA f) (by rw [← l]; exact r f)
  exact get_map I.kIn O (c.get f) c.hd n hu (handed_of ru) (h u _ (I.tok _) ru)

/-- e.f where nothing but the object is asked: through attributeBase (super) and the last hold -/
theorem attr_of {prog : Program} {w : World} {env : Env} {e : Expr} {f : Str} {pos : Pos} {s : Shared} {Q : Value → Shared → Prop} (hb : attributeBase e f env (eval e env) = eval e env)
    (h : wpAny (model prog w) A (eval e env) (fun o s₁ => wpAny (model prog w) A (getAttr o f true) Q E s₁) E s) : wpAny (model prog w) A (eval (.Attribute e f pos) env) Q E s :=
  Attribute_any_ h (by rw [arm_eval_Attribute, hb])
end

/-! ### readings and rules -/
/-- e.f, an attribute of the instance -/
def tFld (K : PySem.W.Frag) (ta : TE) (f : Str) : TE := fun σ H Q => ta σ H fun x H1 => ∃ a C dx fs v, x = .ref a ∧ H1 a = some (.ins C dx fs) ∧ Cls K C ∧ NoAttr K C f ∧ fs.lookup f = some v ∧ Q v H1
section
variable {X : Cx} {o e value : Expr} {f : Str} {pos pos' tpos : Pos} {ta tv : TE}
theorem pe_fld (he : PE X e ta) (hb : attributeBase e f X.env (eval e X.env) = eval e X.env) : PE X (.Attribute e f pos) (tFld X.K ta f) := by
  intro pins s σ H Q I h
  refine attr_of hb (thn (he pins s σ H _ I h) fun u s1 ⟨x, H1, I1, rx, a, C, dx, fs, v, ex, ea, c, n, l, q⟩ => ?_)
  subst ex
  obtain rfl : u = Value.ref a := rx
  exact getattr_ok I1 ea c n l fun u' s2 I2 ru => ⟨v, H1, I2, ru, q⟩
end

/-! ### isinstance -/
section
variable {X : Cx} {pins : List (Addr × Obj)} {σ : St} {H : Hp} {s : Shared} {A : Around} {E : Value → Shared → Prop} {Q : Value → Shared → Prop} {c : Value} {b : Bool}
/-- the type of a value, as the fragment's deciders take it; for an instance its class -/
inductive TyOf (K : PySem.W.Frag) (H : Hp) : V → Value → Prop where
  | non : TyOf K H .non (.type "NoneType")
  | bl (x : Bool) : TyOf K H (.bl x) (.type "bool")
  | int (i : Int) : TyOf K H (.int i) (.type "int")
  | str (x : Str) : TyOf K H (.str x) (.type "str")
  | flt (x : UInt64) : TyOf K H (.flt x) (.type "float")
  | lst {a : Addr} {xs : List V} (e : H a = some (.lst xs)) : TyOf K H (.ref a) (.type "list")
  | frz {a : Addr} {o : Obj} {xs : List V} (e : H a = some (.frz o (.lst xs))) : TyOf K H (.ref a) (.type "list")
  | tup {a : Addr} {xs : List V} (e : H a = some (.tup xs)) : TyOf K H (.ref a) (.type "tuple")
  | dK {a : Addr} {kvs : List (Key × V)} (e : H a = some (.dK kvs)) : TyOf K H (.ref a) (.type "dict")
  | dT {a : Addr} {kvs : List (List Key × V)} (e : H a = some (.dT kvs)) : TyOf K H (.ref a) (.type "dict")
  | ins {a C dx : Addr} {fs : List (Str × V)} (e : H a = some (.ins C dx fs)) (cl : Cls K C) (ha : PySem.W.findIn K (.ref C) "__class__" = some (some (.builtin "object.__class__")))
      (hn : PySem.W.specialIn K (.builtin "object.__class__") "__get__" = some (some (.builtin "getset_descriptor.__get__"))) (htk : PySem.W.takesIn K (.builtin "object.__class__") = some true)
      (hm : PySem.W.mroIn K C (.type "object") = some true) : TyOf K H (.ref a) (.ref C)
/-- isinstance(x, c) for one class c, a built-in or an own one: kitOne's answer -/
theorem isinst_ok {x : V} {u t : Value} (I : Inv X pins σ H s) (rx : RelV x u) (ty : TyOf X.K H x t) (e : PySem.W.kitOne X.K t c = some b) (h : ∀ tk, Q (.bool b) { s with toks := tk }) :
    wpAny (model X.prog X.w) A (call (.builtin "isinstance") [u, c]) Q E s := by
  cases ty with
  | non => cases (show u = Value.none from rx); exact PySem.W.kia_one PySem.W.kitx_none I.kIn True.intro e (fun z => nomatch z) h
  | bl y => cases (show u = Value.bool y from rx); exact PySem.W.kia_one PySem.W.kitx_bool I.kIn True.intro e (fun z => nomatch z) h
  | int i => obtain ⟨t, q⟩ := (show ∃ t, u = Value.int i t from rx); cases q; exact PySem.W.kia_one PySem.W.kitx_int I.kIn True.intro e (fun z => nomatch z) h
  | str y => obtain ⟨t, q⟩ := (show ∃ t, u = Value.str y t from rx); cases q; exact PySem.W.kia_one PySem.W.kitx_str I.kIn True.intro e (fun z => nomatch z) h
  | flt y => obtain ⟨t, q⟩ := (show ∃ t, u = Value.float y t from rx); cases q; exact PySem.W.kia_one PySem.W.kitx_float I.kIn True.intro e (fun z => nomatch z) h
  | @lst a xs ea =>
    cases (show u = Value.ref a from rx)
    obtain ⟨_, _, n, _, h1⟩ := (show ObjOk X.prog X.w H s.heap a (.lst xs) from I.hok a _ ea)
    exact PySem.W.kia_one PySem.W.kitx_list I.kIn ⟨_, h1, rfl⟩ e (fun z => nomatch z) h
  | @frz a ob xs ea =>
    cases (show u = Value.ref a from rx)
    obtain ⟨_, _, _, n, _, h1⟩ := (show ObjOk X.prog X.w H s.heap a (.frz ob (.lst xs)) from I.hok a _ ea)
    exact PySem.W.kia_one PySem.W.kitx_list I.kIn ⟨_, h1, rfl⟩ e (fun z => nomatch z) h
  | @tup a xs ea =>
    cases (show u = Value.ref a from rx)
    obtain ⟨_, _, _, p⟩ := (show ObjOk X.prog X.w H s.heap a (.tup xs) from I.hok a _ ea)
    obtain ⟨o, h1, h2, _⟩ := p
    exact PySem.W.kia_one PySem.W.kitx_tuple I.kIn ⟨o, h1, h2⟩ e (fun z => nomatch z) h
  | @dK a kvs ea =>
    cases (show u = Value.ref a from rx)
    obtain ⟨_, _, vs, _, p⟩ := (show ObjOk X.prog X.w H s.heap a (.dK kvs) from I.hok a _ ea)
    obtain ⟨o, es, ep, h1, h2, _⟩ := p
    exact PySem.W.kia_one PySem.W.kitx_dict I.kIn ⟨o, h1, h2.1⟩ e (fun z => nomatch z) h
  | @dT a kvs ea =>
    cases (show u = Value.ref a from rx)
    obtain ⟨_, _, xs, _, o, es, ep, h1, h2, _⟩ := (show ObjOk X.prog X.w H s.heap a (.dT kvs) from I.hok a _ ea)
    exact PySem.W.kia_one PySem.W.kitx_dict I.kIn ⟨o, h1, h2.1⟩ e (fun z => nomatch z) h
  | @ins a C dx fs ea cl ha hn htk hm =>
    cases (show u = Value.ref a from rx)
    obtain ⟨mA, O, _⟩ := ins_get I.hok ea
    obtain ⟨od, J, _⟩ := O.look
    exact PySem.W.kia_one (PySem.W.kitx_own (cl.get _) cl.hd ha hn htk hm) I.kIn J e (fun z => nomatch z) h
end
end L2

namespace L2
open PySem PySem.Spec PyProof.Rows

/-! ### room -/
structure Room (k : Nat) (A : Around) : Prop where
  hd : A.handled = none
  gd : A.guards = some []
  dp : A.depth + 3 * k + 5 < recursionLimit
  un : A.units + 16 * k + 200 < cLine
theorem Room.mono {j k : Nat} {A : Around} (r : Room k A) (h : j ≤ k) : Room j A := ⟨r.hd, r.gd, by have := r.dp; omega, by have := r.un; omega⟩
theorem Room.deeper {k : Nat} {A : Around} (r : Room (k + 1) A) (env : Env) : Room k (A.deeper env) :=
  ⟨r.hd, r.gd, by have := r.dp; show A.depth + 1 + 3 * k + 5 < _; omega, by have := r.un; show A.units + 3 + 16 * k + 200 < _; omega⟩
theorem make_depth {A : Around} {C : Addr} {us : List Value} {kw : List (Str × Value)} : (A.under (.builtin "type.__call__" ⟨.ref C :: us, kw⟩)).depth = A.depth + 1 := by
  first | rfl | simp [Around.under, Code.weight, Code.isCreation, Code.isGuard, Code.isCaller, Code.frames, Code.isFrame, guardIds]
theorem make_units {A : Around} {C : Addr} {us : List Value} {kw : List (Str × Value)} : (A.under (.builtin "type.__call__" ⟨.ref C :: us, kw⟩)).units = A.units + 1 := by
  first | rfl | simp [Around.under, Code.cUnits, Code.frames, Code.isFrame]
theorem make_guards {A : Around} {C : Addr} {us : List Value} {kw : List (Str × Value)} : (A.under (.builtin "type.__call__" ⟨.ref C :: us, kw⟩)).guards = A.guards := by
  first | rfl | simp [Around.under, Code.guards, Code.isGuard, guardIds, pushGuards]
theorem Room.make {k : Nat} {A : Around} (r : Room (k + 1) A) (C : Addr) (us : List Value) (kw : List (Str × Value)) : Room k (A.under (.builtin "type.__call__" ⟨.ref C :: us, kw⟩)) :=
  ⟨r.hd, make_guards.trans r.gd, by have := r.dp; rw [make_depth]; omega, by have := r.un; rw [make_units]; omega⟩
theorem Room.depth {k : Nat} {A : Around} (r : Room k A) : A.depth < recursionLimit := by have := r.dp; omega
/-! ### argument lists and displays -/
def tNil : TA := fun _ H Q => Q [] H
def tCons (ta : TE) (tr : TA) : TA := fun σ H Q => ta σ H fun x H1 => tr σ H1 fun xs H2 => Q (x :: xs) H2
section
variable {X : Cx} {e : Expr} {es : List Expr} {te : TE} {t : TA} {pos : Pos}
theorem pa_nil : PA X [] tNil := fun _ _ _ _ H Q I h => Calls.spliced_nil ⟨[], H, I, .nil, h⟩
theorem pa_cons (ha : PE X e te) (hr : PA X es t) (hs : starEach (e :: es) X.env = (false, eval e X.env) :: starEach es X.env := by rfl) : PA X (e :: es) (tCons te t) := by
  intro pos pins s σ H Q I h
  rw [hs]
  show wpAny _ _ (spliced ((false, eval e X.env) :: backTo pos (starEach es X.env))) _ _ s
  refine Calls.spliced_cons (thn (ha pins s σ H _ I h) fun u s1 ⟨x, H1, I1, r1, q1⟩ => ?_)
  exact thn (hr pos pins s1 σ H1 _ I1 q1) fun us s2 ⟨xs, H2, I2, r2, q2⟩ => ⟨x :: xs, H2, I2, .cons r1 r2, q2⟩

end

/-! ### what a def promises -/
/-- a def's promise: the bound arguments in the parameters' order, the heap, the wanted end, the wanted exception -/
abbrev Sp := List V → Hp → VK → XK → Prop
/-- how an exception lies behind a call (file 08 gives it): the callers' frames, abstract heap and state ahead of the call, the wish, the exception, the state -/
abbrev CXT := List Env → Hp → Shared → XK → Value → Shared → Prop

/-- the state at a call -/
structure Env0 (P : Program) (w : World) (K : PySem.W.Frag) (mg : Str → Option Value) (base : Heap) (A : Around) (outer : List Env) (s : Shared) (H : Hp) : Prop where
  frames : A.frames = some outer
  mod : Mod K mg base
  bs : ∀ b o, base.get? b = some o → s.heap.get? b = some o ∧ H b = none
  bsz : base.objs.size ≤ s.heap.objs.size
  funs : s.heap.FunFrames base outer
  frf : ∀ b ∈ frs outer, H b = none
  hok : HOk P w H s.heap
  bare : AllBare s.gens
/-- a call's end -/
def CE (outer : List Env) (P : Program) (w : World) (H : Hp) (s : Shared) (Q : VK) (u : Value) (s' : Shared) : Prop :=
  ∃ v H', s'.os = s.os ∧ AllBare s'.gens ∧ Un (frs outer) [] H H' s.heap s'.heap ∧ HOk P w H' s'.heap ∧ RelV v u ∧ Q v H'
def CR (CX : CXT) (outer : List Env) (P : Program) (w : World) (H : Hp) (s : Shared) (Q : VK) (E : XK) (r : Result) (s' : Shared) : Prop :=
  match r with
  | .ok (.ret u) => CE outer P w H s Q u s'
  | .ok _ => False
  | .error e => CX outer H s E e s'
structure FnOk (P : Program) (w : World) (K : PySem.W.Frag) (mg : Str → Option Value) (base : Heap) (CX : CXT) (k : Nat) (f : Addr) (fd : FuncData) (ps : List Str) (sp : Sp) : Prop where
  len : ∀ vs H Q E, sp vs H Q E → vs.length = ps.length
  run : ∀ (A : Around) (outer : List Env) (s : Shared) (H : Hp) (args : Args) (us : List Value) (vs : List V) (Q : VK) (E : XK), Room k A → Env0 P w K mg base A outer s H → BindsTo s fd args (ps.zip us) → Vals vs us → sp vs H Q E →
    codeAny (model P w) A (.call (.ref f) args) (CR CX outer P w H s Q E) s
/-- a weaker promise -/
theorem FnOk.imp {P : Program} {w : World} {K : PySem.W.Frag} {mg : Str → Option Value} {base : Heap} {CX : CXT} {k : Nat} {f : Addr} {fd : FuncData} {ps : List Str} {sp sp' : Sp} (F : FnOk P w K mg base CX k f fd ps sp)
    (h : ∀ vs H Q E, sp' vs H Q E → sp vs H Q E) : FnOk P w K mg base CX k f fd ps sp' :=
  ⟨fun vs H Q E q => F.len vs H Q E (h _ _ _ _ q), fun A outer s H args us vs Q E hr he hb hv hs => F.run A outer s H args us vs Q E hr he hb hv (h _ _ _ _ hs)⟩

theorem Env0.make {P : Program} {w : World} {K : PySem.W.Frag} {mg : Str → Option Value} {base : Heap} {A : Around} {outer : List Env} {s : Shared} {H : Hp} (e : Env0 P w K mg base A outer s H) (C : Addr) (us : List Value) (kw : List (Str × Value)) :
    Env0 P w K mg base (A.under (.builtin "type.__call__" ⟨.ref C :: us, kw⟩)) outer s H := ⟨by first | exact e.frames | (simpa [Around.under, Code.envs, Code.isFrame, pushEnvs] using e.frames), e.mod, e.bs, e.bsz, e.funs, e.frf, e.hok, e.bare⟩
section
variable {X : Cx} {pins : List (Addr × Obj)} {σ : St} {H : Hp} {s s' : Shared}
/-- from a body: what a callee wants -/
theorem Inv.env0 (I : Inv X pins σ H s) : Env0 X.prog X.w X.K X.mg X.base X.A X.stack s H :=
  ⟨I.ok.frames, I.ok.mod, I.bs, Nat.le_trans I.ok.bsz I.sz, I.stack, I.stkFree, I.hok, I.bare⟩
/-- behind a call -/
theorem Inv.after {Q : VK} {u : Value} (I : Inv X pins σ H s) (h : CE X.stack X.prog X.w H s Q u s') : EP X pins σ Q u s' := by
  obtain ⟨v, H', os, bare, un, hok, r, q⟩ := h
  obtain ⟨hh, g, d, t, os'⟩ := s'
  obtain rfl : os' = s.os := os
  exact ⟨v, H', I.call (h' := hh) (g' := g) (d' := d) (t' := t) (ch := []) un hok bare (fun b z => absurd z (by simp)), r, q⟩
end

/-! ### calls -/
/-- how the parameters are bound: us the positional arguments, kw the keywords' values by name, ds the defaults that fill up -/
def Binds (K : PySem.W.Frag) (fd : FuncData) (ps : List Str) (ds : List Value) : Prop :=
  ∀ (s : Shared) (us : List Value), K.In s.heap → (us ++ ds).length = ps.length → BindsTo s fd ⟨us, []⟩ (ps.zip (us ++ ds))
/-- every parameter is given -/
theorem Binds.all {K : PySem.W.Frag} {fd : FuncData} {ps : List Str} (h : ∀ us : List Value, us.length = ps.length → bindArgs fd ⟨us, []⟩ = pure (ps.zip us)) : Binds K fd ps [] := fun s us _ hl => by
  rw [List.append_nil] at hl ⊢
  exact .of_eq (h us hl)

section
variable {X : Cx} {CX : CXT} {k : Nat} {f C : Addr} {fd : FuncData} {ps : List Str} {sp : Sp} {dvs : List V} {ds : List Value} {E : XK} {x m : Str} {p pos apos : Pos} {e o : Expr} {es : List Expr} {ta : TE} {t : TA}

end

/-! ### keywords -/
section
variable {X : Cx} {CX : CXT} {k : Nat} {f C : Addr} {fd : FuncData} {ps ks : List Str} {sp : Sp} {E : XK} {x m : Str} {p pos apos kpos : Pos} {e o : Expr} {es : List Expr} {kws : List Keyword} {te ta : TE} {t tk : TA} {nm : Option Str}
variable {g : List Value → List Value → List Value} {gV : List V → List V → List V}
end

/-! ### a def's body keeps its promise -/
/-- names: the parameters first -/
structure FnScope (N P : List Str) (sc : Scope) : Prop where
  kind : sc.kind = .function
  co : sc.isCoroutine = false
  gen : sc.isGenerator = false
  nd : N.Nodup
  pre : N.take P.length = P
  par : ∀ x ∈ P, sc.names.lookup x = some .local ∨ sc.names.lookup x = some .cell
  nofree : ∀ y ∈ sc.names, y.2 ≠ .free

theorem bindL_out {kindOf : Str → Option NameKind} {x : Str} : ∀ {binds : List (Str × Value)} {m : Str → Option Value}, (∀ v, (x, v) ∉ binds) → bindL kindOf binds m x = m x
  | [], _, _ => rfl
  | (n, v) :: r, m, h => by
    unfold bindL
    rw [bindL_out fun w hw => h w (List.mem_cons_of_mem _ hw)]
    split
    · have : x ≠ n := by rintro rfl; exact h v List.mem_cons_self
      simp [this]
    · rfl
theorem bindC_out {kindOf : Str → Option NameKind} {x : Str} : ∀ {binds : List (Str × Value)} {m : Str → Option Value}, (∀ v, (x, v) ∉ binds) → bindC kindOf binds m x = m x
  | [], _, _ => rfl
  | (n, v) :: r, m, h => by
    unfold bindC
    rw [bindC_out fun w hw => h w (List.mem_cons_of_mem _ hw)]
    split
    · rfl
    · have : x ≠ n := by rintro rfl; exact h v List.mem_cons_self
      simp [this]
theorem bindL_get {kindOf : Str → Option NameKind} {x : Str} {v : Value} : ∀ {P : List Str} {vs : List Value} {i : Nat} {m : Str → Option Value}, P.Nodup → P[i]? = some x → vs[i]? = some v → kindOf x = some .local →
    bindL kindOf (P.zip vs) m x = some v
  | [], _, _, _, _, h, _, _ => by simp at h
  | _ :: _, [], _, _, _, _, h, _ => by simp at h
  | p :: P, w :: vs, 0, m, nd, h1, h2, hk => by
    simp at h1 h2; subst h1; subst h2
    show bindL kindOf ((p, w) :: P.zip vs) m p = _
    unfold bindL
    rw [bindL_out fun v hv => (List.nodup_cons.mp nd).1 (List.of_mem_zip hv).1, if_pos hk]
    simp
  | p :: P, w :: vs, i + 1, m, nd, h1, h2, hk => by
    show bindL kindOf ((p, w) :: P.zip vs) m x = _
    unfold bindL
    exact bindL_get (i := i) (List.nodup_cons.mp nd).2 (by simpa using h1) (by simpa using h2) hk
theorem bindC_get {kindOf : Str → Option NameKind} {x : Str} {v : Value} : ∀ {P : List Str} {vs : List Value} {i : Nat} {m : Str → Option Value}, P.Nodup → P[i]? = some x → vs[i]? = some v → kindOf x ≠ some .local →
    bindC kindOf (P.zip vs) m x = some v
  | [], _, _, _, _, h, _, _ => by simp at h
  | _ :: _, [], _, _, _, _, h, _ => by simp at h
  | p :: P, w :: vs, 0, m, nd, h1, h2, hk => by
    simp at h1 h2; subst h1; subst h2
    show bindC kindOf ((p, w) :: P.zip vs) m p = _
    unfold bindC
    rw [bindC_out fun v hv => (List.nodup_cons.mp nd).1 (List.of_mem_zip hv).1, if_neg hk]
    simp
  | p :: P, w :: vs, i + 1, m, nd, h1, h2, hk => by
    show bindC kindOf ((p, w) :: P.zip vs) m x = _
    unfold bindC
    exact bindC_get (i := i) (List.nodup_cons.mp nd).2 (by simpa using h1) (by simpa using h2) hk

/-- the names' values at the entry -/
def start (N : List Str) (vs : List V) : St := vs.map some ++ List.replicate (N.length - vs.length) none

/-- the context of a def's body, at its entry; an exception leaves the frame, then lies as CX says -/
def cxOf (CX : CXT) (P : Program) (w : World) (K : PySem.W.Frag) (mg : Str → Option Value) (base : Heap) (N : List Str) (qual : Str) (scope : Scope) (f : Addr) (cd : Value) (A : Around) (outer : List Env) (s : Shared) (H : Hp) (E : XK) : Cx where
  prog := P
  w := w
  K := K
  mg := mg
  base := base
  A := A.deeper (envOfC qual scope s.heap.objs.size f cd)
  N := N
  s₀ := s
  H₀ := H
  env := envOfC qual scope s.heap.objs.size f cd
  outer := outer
  stack := envOfC qual scope s.heap.objs.size f cd :: outer
  ex := []
  calm := true
  fn := fun _ => true
  pn := []
  xe := fun e s' => wpAny (model P w) (A.deeper (envOfC qual scope s.heap.objs.size f cd)) (leaving (envOfC qual scope s.heap.objs.size f cd) e) (fun _ s'' => CX outer H s E e s'') (fun e' s'' => CX outer H s E e' s'') s'

theorem cell_has {sc : Scope} {n : Nat} {x : Str} (h : sc.names.lookup x = some .cell) : ∃ c, (cellsFrom n sc.names []).lookup x = some c := by
  have q := PySem.W.cellsFrom_some sc.names n [] (.inl h)
  exact Option.isSome_iff_exists.mp q

theorem inv_start {CX : CXT} {P : Program} {w : World} {K : PySem.W.Frag} {mg : Str → Option Value} {base : Heap} {N ps : List Str} {qual : Str} {scope : Scope} {f : Addr} {cd : Value} {A : Around} {outer : List Env} {s s1 : Shared} {H : Hp} {E : XK} {us : List Value} {vs : List V}
    (S : FnScope N ps scope) (hd : A.handled = none) (e0 : Env0 P w K mg base A outer s H) (hl : vs.length = ps.length) (r : Vals vs us)
    (x : InCallC s s.heap.objs.size (bindL (envOfC qual scope s.heap.objs.size f cd).kindOf (ps.zip us) fun _ => none) (cellsFrom (s.heap.objs.size + 1) scope.names []) (bindC (envOfC qual scope s.heap.objs.size f cd).kindOf (ps.zip us) fun _ => none) s1) :
    Inv (cxOf CX P w K mg base N qual scope f cd A outer s H E) [] (start N vs) H s1 := by
  have hpl : ps.length ≤ N.length := by have := congrArg List.length S.pre; rw [List.length_take] at this; omega
  obtain ⟨h1, tk, rfl, hk⟩ := x.done
  have noA : ∀ b : Addr, b ∉ (cxOf CX P w K mg base N qual scope f cd A outer s H E).ex := fun b z => absurd (show b ∈ ([] : List Addr) from z) (by simp)
  refine ⟨⟨e0.mod, S.kind, rfl, rfl, Nat.le_refl _, fun y z c h1 h2 => ?_, fun y hy => ?_, fun y c _ h => ?_, fun _ => hd, Around.frames_deeper e0.frames, .inr ⟨rfl, rfl⟩, fun b z => absurd z (noA b), e0.bs, e0.bsz, fun b _ _ => noA b, fun b z => absurd z (noA b), e0.funs, e0.frf⟩,
    rfl, e0.bare, Un.kept hk, ⟨_, x.toInCall.ns, fun i y v h1 h2 h3 => ?_⟩, fun y c h => ⟨_, x.cell y c h⟩, e0.hok.fresh (Nat.le_refl _), fun y c h => ?_, fun p hp => absurd (show p ∈ ([] : List (Addr × Obj)) from hp) (by simp), e0.hok.kept hk, ?_⟩
  · exact name_of_addr x.apart (PySem.mem_of_lookup h1) (PySem.mem_of_lookup h2)
  · have hy : scope.names.lookup y = some .cell ∨ scope.names.lookup y = some .free := hy
    rcases hy with hy | hy
    · exact cell_has hy
    · exact absurd rfl (S.nofree _ (PySem.mem_of_lookup hy))
  · exact Nat.le_of_lt (x.above y c (PySem.mem_of_lookup h))
  · have hi : i < vs.length := by
      unfold start at h2
      by_cases hi : i < vs.length
      · exact hi
      · rw [List.getElem?_append_right (by simpa using hi)] at h2
        rw [List.getElem?_replicate] at h2
        split at h2 <;> cases h2
    have ha : vs[i]? = some v := by
      unfold start at h2
      rw [List.getElem?_append_left (by simpa using hi), List.getElem?_map] at h2
      cases e : vs[i]? with
      | none => rw [e] at h2; cases h2
      | some a => rw [e] at h2; cases h2; rfl
    obtain ⟨u, hu, rv⟩ := r.get ha
    have hp : ps[i]? = some y := by
      rw [← S.pre, List.getElem?_take_of_lt (by omega)]; exact h1
    have ndP : ps.Nodup := by rw [← S.pre]; exact S.nd.sublist (List.take_sublist _ _)
    refine ⟨u, rv, ?_⟩
    rcases S.par y (List.mem_of_getElem? hp) with k | k
    · exact .inl ⟨k, bindL_get ndP hp hu k⟩
    · obtain ⟨c, e⟩ := cell_has (n := s.heap.objs.size + 1) k
      refine .inr ⟨.inl k, c, e, ?_⟩
      have q := x.cell y c e
      rw [bindC_get ndP hp hu (by show scope.names.lookup y ≠ _; rw [k]; decide)] at q
      exact q
  · exact e0.hok.fresh (Nat.le_of_lt (x.above y c (PySem.mem_of_lookup h)))
  · unfold start
    show _ = N.length
    rw [List.length_append, List.length_map, List.length_replicate]
    omega

/-- THE RULE: a def (or a method) of the text, by its body. The body's reading t is chosen for each entry; it is run at the parameters' values -/
theorem fn_of {CX : CXT} {P : Program} {w : World} {K : PySem.W.Frag} {mg : Str → Option Value} {base : Heap} {k : Nat} {f : Addr} {name qual : Str} {params : Arguments} {body : List Stmt} {scope : Scope} {dV kV doc pm cdv ct oc : Value} {an od : Option Addr}
    {osl : Array (Option Value)} {N ps : List Str} {sp : Sp} (lk : K.lookup f = some ⟨oc, od, .func (PySem.W.fnOf name qual params body scope dV kV doc pm an cdv ct), osl⟩) (hcd : PySem.W.codeIn K cdv qual = true) (S : FnScope N ps scope)
    (len : ∀ vs H Q E, sp vs H Q E → vs.length = ps.length)
    (hbody : ∀ (A : Around) (outer : List Env) (s : Shared) (H : Hp) (vs : List V) (Q : VK) (E : XK), Room k (A.deeper (envOfC qual scope s.heap.objs.size f cdv)) → sp vs H Q E →
      ∃ t, PSs (cxOf CX P w K mg base N qual scope f cdv A outer s H E) body t ∧ t { nx := fun _ H' => Q .non H', rt := Q } (start N vs) H) :
    FnOk P w K mg base CX (k + 1) f (PySem.W.fnOf name qual params body scope dV kV doc pm an cdv ct) ps sp := by
  refine ⟨len, fun A outer s H args us vs Q E hr e0 hb r hsp => ?_⟩
  have hl := len _ _ _ _ hsp
  have KX : K.In s.heap := e0.mod.kin.keeps fun b o e => (e0.bs b o e).1
  have lim : s.heap.NoLimit := e0.mod.nolimit.keeps fun b o e => (e0.bs b o e).1
  have hkind : ∀ y ∈ ps.zip us, scope.names.lookup y.1 = some .local ∨ (scope.names.lookup y.1 = some .cell ∧ ((cellsFrom (s.heap.objs.size + 1) scope.names []).lookup y.1).isSome = true) := fun ⟨n, v⟩ hy => by
    rcases S.par n (List.of_mem_zip hy).1 with q | q
    · exact .inl q
    · exact .inr ⟨q, PySem.W.cellsFrom_some _ _ _ (.inl q)⟩
  refine codeAny_call_function hr.depth (KX _ _ lk) rfl S.co S.gen rfl (PySem.W.codeRec_of KX hcd) (hb _ _ _ _ ?_)
  refine wpAny_newFunctionEnv_cells S.kind hkind fun env he s1 x => ?_
  subst he
  refine ⟨lim.keeps x.toInCall.keep, codeAny_func ?_⟩
  obtain ⟨t, ht, hq⟩ := hbody A outer s H vs Q E (hr.deeper _) hsp
  have I : Inv (cxOf CX P w K mg base N qual scope f cdv A outer s H E) [] (start N vs) H s1 := inv_start S hr.hd e0 hl r x
  refine wpAny_mono (ht [] s1 (start N vs) H _ I hq) (fun fl s' hs => ?_) fun e s' hs => hs
  have fin : ∀ {σ' : St} {H' : Hp} {v : V} {u : Value}, Inv (cxOf CX P w K mg base N qual scope f cdv A outer s H E) [] σ' H' s' → RelV v u → Q v H' → CE outer P w H s Q u s' :=
    fun {σ' H' v u} J rv q => ⟨v, H', J.os, J.bare, J.base, J.hok, rv, q⟩
  cases fl with
  | ret u =>
    obtain ⟨v, σ', H', J, rv, q⟩ := hs
    exact fin J rv q
  | next =>
    obtain ⟨σ', H', J, q⟩ := hs
    exact fin (v := V.non) (u := Value.none) J rfl q
  | brk =>
    obtain ⟨_, _, _, q⟩ := hs
    exact False.elim q
  | cont =>
    obtain ⟨_, _, _, q⟩ := hs
    exact False.elim q
end L2

namespace L2
open PySem PySem.Spec PyProof.Rows
section
variable {X : Cx} {x : Str} {p pos : Pos} {e : Expr} {es : List Expr} {t : TA} {id T : String} {r : List V → Hp → VK → Prop}

def tCB (r : List V → Hp → VK → Prop) (t : TA) : TE := fun σ H Q => t σ H fun vs H1 => r vs H1 Q
/-- f(e, ..), f a built-in function -/
theorem pe_callB (hc : CallR X (.builtin id) r) (hg : Gl X x) (hm : X.mg x = none) (hv : bootBuiltins x = some (.builtin id)) (ha : PA X (e :: es) t) (hn : x ≠ "__name__" := by decide) (hdb : (x == ("__debug__" : Str)) = false := by decide)
    (he : starEach (e :: es) X.env = (false, eval e X.env) :: starEach es X.env := by rfl) (hpl : (backTo pos (starEach es X.env)).any (·.1) = false := by rfl) : PE X (.Call (.Name x p) (e :: es) [] pos) (tCB r t) := by
  intro pins s σ H Q I h
  refine wpAny_Call_Name_kw (ld_blt I hg hm hv ?_ hn hdb)
  exact PyProof.Rows.callWith_builtin1 (thn (ha pos pins s σ H _ I h) fun us s1 ⟨vs, H1, I1, r1, q1⟩ => hc pins s1 σ H1 vs us Q I1 r1 q1) he hpl
/-- T(e, ..), T a built-in type -/
theorem pe_callTy (hc : CallR X (.type T) r) (hg : Gl X x) (hm : X.mg x = none) (hv : bootBuiltins x = some (.type T)) (ha : PA X (e :: es) t) (hn : x ≠ "__name__" := by decide) (hdb : (x == ("__debug__" : Str)) = false := by decide)
    (he : starEach (e :: es) X.env = (false, eval e X.env) :: starEach es X.env := by rfl) (hpl : (backTo pos (starEach es X.env)).any (·.1) = false := by rfl) : PE X (.Call (.Name x p) (e :: es) [] pos) (tCB r t) := by
  intro pins s σ H Q I h
  refine wpAny_Call_Name_kw (ld_blt I hg hm hv ?_ hn hdb)
  exact PyProof.Rows.callWith_type1 (thn (ha pos pins s σ H _ I h) fun us s1 ⟨vs, H1, I1, r1, q1⟩ => hc pins s1 σ H1 vs us Q I1 r1 q1) he hpl
/-- T() -/
theorem pe_callTy0 (hc : CallR X (.type T) r) (hg : Gl X x) (hm : X.mg x = none) (hv : bootBuiltins x = some (.type T)) (hn : x ≠ "__name__" := by decide) (hdb : (x == ("__debug__" : Str)) = false := by decide) :
    PE X (.Call (.Name x p) [] [] pos) (tCB r tNil) := by
  intro pins s σ H Q I h
  refine wpAny_Call_Name_kw (ld_blt I hg hm hv ?_ hn hdb)
  exact PyProof.Rows.callWith_type0 (hc pins s σ H [] [] Q I .nil h)
end
end L2

namespace HT
open PySem PyProof.Rows

section
open PySem.SeqAt
open PySem.AutoSeq1 (wpAny_loadPart')
open PySem.MeetsSeq PySem.MeetsSeq2 PySem.MeetsSeq3

end

section
variable {prog : Program} {w : World} {A : Around} {E : Value → Shared → Prop} {s : Shared}

/-- t + u, t not empty -/
theorem cat_tup {t b : Addr} {vs ws : List Value} {Q : Value → Shared → Prop} (ht : IsTup s.heap t vs.toArray) (hb : IsTup s.heap b ws.toArray) (hv : vs ≠ [])
    (h1 : ws = [] → Q (.ref t) s) (h2 : ws ≠ [] → Q (.ref s.heap.objs.size) { s with heap := s.heap.push { cls := .type "tuple", data := .seq (vs ++ ws).toArray } })
    (hsz : vs.length + ws.length ≤ sizeLine) : wpAny (model prog w) A (binaryOp .Add (.ref t) (.ref b)) Q E s := by
  obtain ⟨⟨cls, dd, data, sl⟩, ho, hc, n, hd⟩ := id ht
  obtain ⟨⟨cls2, dd2, data2, sl2⟩, ho2, hc2, n2, hd2⟩ := id hb
  simp only at hc hd hc2 hd2
  subst hc hd hc2 hd2
  have e : vs.toArray ++ ws.toArray = (vs ++ ws).toArray := by simp
  by_cases hw : ws = []
  · exact concat_meets ⟨_, ho, rfl⟩ ⟨_, ho2, rfl⟩ noFill_tuple_add seq_tuple_add PySem.F.slot_tuple_add PySem.F.entry_tuple_add (PySem.F.args_tuple_add_2 _ _)
      (tuple_addW1 t b vs.toArray ws.toArray n n2 dd dd2 sl sl2 (by simpa using hv) (by simp [hw])) ⟨ho, ho2, h1 hw⟩
  · refine concat_meets ⟨_, ho, rfl⟩ ⟨_, ho2, rfl⟩ noFill_tuple_add seq_tuple_add PySem.F.slot_tuple_add PySem.F.entry_tuple_add (PySem.F.args_tuple_add_2 _ _)
      (tuple_addW2 t b vs.toArray ws.toArray n n2 dd dd2 sl sl2 (by simpa using hv) (by simpa using hw) (by rw [List.size_toArray, List.size_toArray]; exact hsz)) ⟨ho, ho2, ?_⟩
    rw [e]
    exact h2 hw

/-! ### t[a:b], not the whole -/
/-- a slice's bound as a place among n (d where it is left out) -/
def sIx (n d : Nat) : Option Int → Nat
  | none => d
  | some v => if v < 0 then (v + (n : Int)).toNat else min v.toNat n
theorem sIx_le (n d : Nat) (hd : d ≤ n) (o : Option Int) : sIx n d o ≤ n := by
  cases o with
  | none => exact hd
  | some v =>
    show (if v < 0 then (v + (n : Int)).toNat else min v.toNat n) ≤ n
    by_cases hv : v < 0
    · rw [if_pos hv]; omega
    · rw [if_neg hv]; exact Nat.min_le_right _ _
theorem clip_eq (v : Int) (n d : Nat) : (if v < 0 then max (v + (n : Int)) 0 else min v (n : Int)) = ((sIx n d (some v) : Nat) : Int) := by
  show (if v < 0 then max (v + (n : Int)) 0 else min v (n : Int)) = (((if v < 0 then (v + (n : Int)).toNat else min v.toNat n) : Nat) : Int)
  by_cases hv : v < 0
  · simp only [if_pos hv]; omega
  · simp only [if_neg hv]; omega
theorem adjust_gen (lo hi : Option Int) (n : Nat) : Builtin.Slice.sliceAdjust lo hi 1 (n : Int) = (((sIx n 0 lo : Nat) : Int), ((sIx n n hi : Nat) : Int)) := by
  have h1 : ¬ ((1 : Int) < 0) := by omega
  unfold Builtin.Slice.sliceAdjust
  simp only [h1, if_false]
  refine Prod.ext ?_ ?_
  · cases lo with
    | none => rfl
    | some v => exact clip_eq v n 0
  · cases hi with
    | none => rfl
    | some v => exact clip_eq v n n
theorem places_gen (i j : Nat) : Builtin.Slice.slicePlaces (i : Int) (j : Int) 1 = j - i := by
  unfold Builtin.Slice.slicePlaces
  have h1 : (1 : Int) > 0 := by omega
  simp only [h1, if_true, Int.ediv_one]
  split <;> omega
theorem slicePart_ {v : Value} {o : Option Int} {Q : Option Int → Shared → Prop} (p : IsPart v o) (h : Q o s) : wpAny (model prog w) A (Builtin.Slice.slicePartIndex v) Q E s := by
  cases p with
  | none => exact slicePart_none h
  | int i t => exact slicePart_int h
theorem sliceApplied_gen {sl : Addr} {vl vu : Value} {lo hi : Option Int} {n : Nat} {Q : Int × Int × Nat → Shared → Prop} (hs : s.heap.IsSliceOf sl vl vu .none) (pl : IsPart vl lo) (pu : IsPart vu hi)
    (h : Q (((sIx n 0 lo : Nat) : Int), 1, sIx n n hi - sIx n 0 lo) s) : wpAny (model prog w) A (Builtin.Slice.sliceApplied (.ref sl) (pure (n : Int))) Q E s := by
  obtain ⟨os, hos, hcs, hds⟩ := id hs
  unfold Builtin.Slice.sliceApplied Builtin.Slice.sliceFields
  refine wpAny_bind (wpAny_bind (wpAny_field hos hds (x := vl) rfl (wpAny_bind (wpAny_field hos hds (x := vu) rfl (wpAny_bind (wpAny_field hos hds (x := .none) rfl (wpAny_pure ?_)))))))
  refine wpAny_bind (slicePart_none ?_)
  show wpAny _ _ (if ((1 : Int) == 0) = true then _ else _) _ _ s
  rw [if_neg (by decide)]
  refine wpAny_bind (slicePart_ pl (wpAny_bind (slicePart_ pu (wpAny_bind (wpAny_pure ?_)))))
  show wpAny _ _ (match Builtin.Slice.sliceAdjust lo hi 1 (n : Int) with | (lo, hi) => pure (lo, (1 : Int), Builtin.Slice.slicePlaces lo hi 1)) _ _ s
  rw [adjust_gen lo hi n]
  show wpAny _ _ (pure (((sIx n 0 lo : Nat) : Int), (1 : Int), Builtin.Slice.slicePlaces ((sIx n 0 lo : Nat) : Int) ((sIx n n hi : Nat) : Int) 1)) _ _ s
  rw [places_gen]
  exact wpAny_pure h
theorem pick_gen (xs : Array Value) (i k : Nat) : ((List.range k).filterMap fun (m : Nat) => xs[((i : Int) + (m : Int) * 1).toNat]?).toArray = ((xs.toList.drop i).take k).toArray := by
  have e : (fun (m : Nat) => xs[((i : Int) + (m : Int) * 1).toNat]?) = fun m => xs[i + m]? := by
    funext m
    have : ((i : Int) + (m : Int) * 1).toNat = i + m := by omega
    rw [this]
  rw [e]
  have := pick_run xs i k
  rw [List.filterMap_map] at this
  have e2 : ((fun x => xs[x]?) ∘ fun x => i + x) = fun m => xs[i + m]? := rfl
  rw [e2] at this
  rw [this]

theorem getItem_tuple_cut {t sl : Addr} {items : Array Value} {vl vu : Value} {lo hi : Option Int} {Q : Value → Shared → Prop} (ht : IsTup s.heap t items) (hs : s.heap.IsSliceOf sl vl vu .none) (pl : IsPart vl lo) (pu : IsPart vu hi)
    (hw : ¬ (sIx items.size 0 lo = 0 ∧ sIx items.size items.size hi = items.size))
    (h : Q (.ref s.heap.objs.size) { s with heap := s.heap.push { cls := .type "tuple", data := .seq ((items.toList.drop (sIx items.size 0 lo)).take (sIx items.size items.size hi - sIx items.size 0 lo)).toArray } })
    (hsz : items.size ≤ sizeLine) : wpAny (model prog w) A (getItem (.ref t) (.ref sl)) Q E s := by
  have htake : sizeOk (.seq ((items.toList.drop (sIx items.size 0 lo)).take (sIx items.size items.size hi - sIx items.size 0 lo)).toArray) := by
    show ((items.toList.drop (sIx items.size 0 lo)).take (sIx items.size items.size hi - sIx items.size 0 lo)).toArray.size ≤ sizeLine
    rw [List.size_toArray, List.length_take, List.length_drop, Array.length_toList]
    omega
  have hj : sIx items.size items.size hi ≤ items.size := sIx_le _ _ (Nat.le_refl _) hi
  obtain ⟨os, hos, hcs, hds⟩ := id hs
  have hTs : s.TypeIs (.ref sl) "slice" := ⟨os, hos, hcs⟩
  unfold getItem
  try with_reducible refine wpAny_holding ?_
  first | refine wpAny_bind (wpAny_pure ?_) | skip
  refine wpAny_bind (wpAny_sequenceKey ht.typeIs (by decide) ?_)
  refine wpAny_bind (wpAny_callSpecial?_slot (name := Str.ofString "__getitem__") ht.typeIs PyProof.Rows.slot_tuple_getitem
    (wpAny_call_entry PyProof.Rows.slot_tuple_getitem ht.typeIs entry_tuple_getitem ?_ (args_tuple_getitem _ _)))
  show wpAny _ _ (Builtin.Tuple.tupleItemsOf (.ref t) >>= _) _ _ s
  refine wpAny_bind (tupleItemsOf_ ht ?_)
  refine wpAny_bind (wpAny_typeOf hTs ?_)
  rw [if_pos (by decide)]
  refine wpAny_bind (sliceApplied_gen hs pl pu ?_)
  have hno : ¬ ((((sIx items.size 0 lo : Nat) : Int) == 0 && (1 : Int) == 1 && (sIx items.size items.size hi - sIx items.size 0 lo) == items.size) = true) := by
    intro q
    rw [Bool.and_eq_true, Bool.and_eq_true] at q
    have q1 : ((sIx items.size 0 lo : Nat) : Int) = 0 := eq_of_beq q.1.1
    have q2 : sIx items.size items.size hi - sIx items.size 0 lo = items.size := eq_of_beq q.2
    exact hw ⟨by omega, by omega⟩
  show wpAny _ _ (if (((sIx items.size 0 lo : Nat) : Int) == 0 && (1 : Int) == 1 && (sIx items.size items.size hi - sIx items.size 0 lo) == items.size) = true then _ else _) _ _ s
  rw [if_neg hno, pick_gen]
  first
    | exact wpAny_bind (m := Builtin.Tuple.tupleExact _) (wpAny_newObj_type (wpAny_pure ⟨_, rfl, wpAny_pure h⟩) htake)
    | exact wpAny_bind (m := Builtin.Tuple.tupleExact _) (wpAny_newObj_type (wpAny_bind (wpAny_pure (wpAny_pure ⟨_, rfl, wpAny_pure h⟩))) htake)
    | exact wpAny_bind (wpAny_bind (m := Builtin.Tuple.tupleExact _) (wpAny_newObj_type (wpAny_pure (wpAny_pure ⟨_, rfl, wpAny_pure h⟩)) htake))
    | exact wpAny_bind (wpAny_bind (m := Builtin.Tuple.tupleExact _) (wpAny_newObj_type (wpAny_pure ⟨_, rfl, wpAny_pure h⟩) htake))
end
end HT

namespace L2
open PySem PySem.Spec PyProof.Rows

/-! ### the parts of a slice -/
abbrev TO := St → Hp → (Option Int → Hp → Prop) → Prop
/-- a slice's part (left out, or an int) -/
def PO (X : Cx) (e : Option Expr) (t : TO) : Prop :=
  ∀ (pins : List (Addr × Obj)) (s : Shared) (σ : St) (H : Hp) (Q : Option Int → Hp → Prop), Inv X pins σ H s → t σ H Q →
    wpAny (model X.prog X.w) X.A (evalPart e X.env) (fun u s' => ∃ o H', Inv X pins σ H' s' ∧ IsPart u o ∧ Q o H') X.xe s
def tNoPart : TO := fun _ H Q => Q none H
def tPart (t : TE) : TO := fun σ H Q => t σ H fun x H1 => ∃ i, x = .int i ∧ Q (some i) H1

section
variable {X : Cx} {e : Expr} {te : TE} {lo hi : Option Expr} {tl th : TO} {pos p2 : Pos}

theorem po_none : PO X none tNoPart := by
  intro pins s σ H Q I h
  rw [evalPart_none]
  exact wpAny_pure ⟨none, H, I, .none, h⟩
theorem po_some (h : PE X e te) : PO X (some e) (tPart te) := by
  intro pins s σ H Q I hw
  rw [evalPart_some]
  refine thn (h pins s σ H _ I hw) fun u s1 ⟨x, H1, I1, r1, q1⟩ => ?_
  obtain ⟨i, rfl, q⟩ := q1
  obtain ⟨t, rfl⟩ := r1
  exact ⟨some i, H1, I1, .int i t, q⟩

/-- what a slice of a value is, by values: the slice object stands at sl -/
def SlR (X : Cx) (r : V → Option Int → Option Int → Hp → VK → Prop) : Prop :=
  ∀ (pins : List (Addr × Obj)) (s : Shared) (σ : St) (H : Hp) (x : V) (v vl vu : Value) (lo hi : Option Int) (sl : Addr) (Q : VK), Inv X pins σ H s → RelV x v → s.heap.IsSliceOf sl vl vu .none → IsPart vl lo → IsPart vu hi → r x lo hi H Q →
    ∃ T id, typeLookup (.type T) "__getitem__" = pure (some (.builtin id)) ∧ s.TypeIs v T ∧ wpAny (model X.prog X.w) X.A (getItem v (.ref sl)) (EP X pins σ Q) X.xe s
def tSl (r : V → Option Int → Option Int → Hp → VK → Prop) (te : TE) (tl th : TO) : TE := fun σ H Q => te σ H fun x H1 => tl σ H1 fun l H2 => th σ H2 fun u H3 => r x l u H3 Q
/-- a[lo:hi], any a -/
theorem pe_slice {r : V → Option Int → Option Int → Hp → VK → Prop} (hr : SlR X r) (he : PE X e te) (hl : PO X lo tl) (hu : PO X hi th) : PE X (.Subscript e (.Slice lo hi none p2) pos) (tSl r te tl th) := by
  intro pins s σ H Q I h
  refine Subscript_ (thn (he pins s σ H _ I h) fun v s1 ⟨x, H1, I1, r1, q1⟩ => ?_)
  refine wpAny_Slice (thn (hl pins s1 σ H1 _ I1 q1) fun vl s2 ⟨l, H2, I2, pl, q2⟩ => thn (hu pins s2 σ H2 _ I2 q2) fun vu s3 ⟨u, H3, I3, pu, q3⟩ => ?_)
  rw [evalPart_none]
  refine wpAny_pure ?_
  have I4 : Inv X pins σ H3 { s3 with heap := s3.heap.push { cls := .type "slice", data := .fields #[vl, vu, .none] } } := I3.kept (t' := s3.toks) fun b ob q => Heap.get?_push_of_some _ q
  obtain ⟨T, id, hT, ht, hg⟩ := hr pins { s3 with heap := s3.heap.push { cls := .type "slice", data := .fields #[vl, vu, .none] } } σ H3 x v vl vu l u s3.heap.objs.size Q I4 r1 (Heap.IsSliceOf.new ..) pl pu q3
  show wpAny (model X.prog X.w) X.A (subscriptTail e (.Slice lo hi none p2) v (.ref s3.heap.objs.size)) (EP X pins σ Q) X.xe { s3 with heap := s3.heap.push { cls := .type "slice", data := .fields #[vl, vu, .none] } }
  exact tail_any (ops := [.ref s3.heap.objs.size, v]) ht hT hg (by with_unfolding_all rfl)

/-- the items of xs[lo:hi] -/
def cutV (xs : List V) (lo hi : Option Int) : List V := (xs.drop (HT.sIx xs.length 0 lo)).take (HT.sIx xs.length xs.length hi - HT.sIx xs.length 0 lo)
theorem cutV_length (xs : List V) (lo hi : Option Int) : (cutV xs lo hi).length ≤ xs.length := by
  unfold cutV
  rw [List.length_take, List.length_drop]
  omega
/-- t[lo:hi], not the whole of it (the whole would be t itself) -/
def rSlT (K : PySem.W.Frag) : V → Option Int → Option Int → Hp → VK → Prop := fun x lo hi H Q => ∃ a xs, x = .ref a ∧ SqT K H a xs ∧
  ¬ (HT.sIx xs.length 0 lo = 0 ∧ HT.sIx xs.length xs.length hi = xs.length) ∧ ∀ p, H p = none → Q (.ref p) (upd H p (.tup (cutV xs lo hi)))
theorem sl_tup : SlR X (rSlT X.K) := by
  intro pins s σ H x v vl vu lo hi sl Q I rx hs pl pu h
  obtain ⟨a, xs, rfl, hx, hw, q⟩ := h
  cases rx
  obtain ⟨its, r, ht, hz⟩ := I.tuple hx
  have hlen : its.toArray.size = xs.length := by rw [List.size_toArray]; exact r.length.symm
  refine ⟨"tuple", _, PyProof.Rows.slot_tuple_getitem.lookup, ht.typeIs, ?_⟩
  refine HT.getItem_tuple_cut ht hs pl pu (by rw [hlen]; exact hw) ?_ (by rw [hlen]; exact hz)
  rw [hlen]
  refine ⟨.ref s.heap.objs.size, _, I.laid (t' := s.toks) (o := .tup (cutV xs lo hi)) (fun b ob q => Heap.get?_push_of_some _ q) (Nat.le_refl _) ?_, rfl, q _ (I.hok.fresh (Nat.le_refl _))⟩
  exact ⟨Nat.le_trans (cutV_length xs lo hi) hz, _, (r.drop (HT.sIx xs.length 0 lo)).take (HT.sIx xs.length xs.length hi - HT.sIx xs.length 0 lo), IsTup.new _ _⟩

/-! ### t < u, t + u -/
/-- t + u, t not empty: u empty gives t itself -/
def rCatT (K : PySem.W.Frag) : R2 := fun x y H Q => ∃ a b xs ys, x = .ref a ∧ y = .ref b ∧ SqT K H a xs ∧ SqT K H b ys ∧ xs ≠ [] ∧ xs.length + ys.length ≤ sizeLine ∧
  (ys = [] → Q (.ref a) H) ∧ (ys ≠ [] → ∀ p, H p = none → Q (.ref p) (upd H p (.tup (xs ++ ys))))
theorem Vals.nil_iff {xs : List V} {us : List Value} (r : Vals xs us) : us = [] ↔ xs = [] := by
  cases r with
  | nil => simp
  | cons _ _ => simp
theorem op_catT : OpR X (binaryOp .Add) (rCatT X.K) := by
  intro pins s σ H x y v u Q I rx ry h
  obtain ⟨a, b, xs, ys, rfl, rfl, ha, hb, hx, hz, q1, q2⟩ := h
  cases rx
  cases ry
  obtain ⟨its, r1, p1, _⟩ := I.tuple ha
  obtain ⟨its2, r2, p2, _⟩ := I.tuple hb
  refine HT.cat_tup p1 p2 (fun z => hx (r1.nil_iff.mp z)) (fun z => ⟨.ref a, H, I, rfl, q1 (r2.nil_iff.mp z)⟩) (fun z => ?_) (by rw [← r1.length, ← r2.length]; exact hz)
  refine ⟨.ref s.heap.objs.size, _, I.laid (t' := s.toks) (o := .tup (xs ++ ys)) (fun b ob q => Heap.get?_push_of_some _ q) (Nat.le_refl _) ?_, rfl, q2 (fun w => z (r2.nil_iff.mpr w)) _ (I.hok.fresh (Nat.le_refl _))⟩
  exact ⟨by rw [List.length_append]; exact hz, _, r1.append r2, IsTup.new _ _⟩
end
end L2

namespace L2
open PySem PySem.Spec PyProof.Rows

/-! ### places -/
/-- the place that an index of any sign means -/
def ixN (n : Nat) (i : Int) : Option Nat := if 0 ≤ i then (if i < n then some i.toNat else none) else if -(n : Int) ≤ i then some (i + n).toNat else none
def atI {α : Type} (xs : List α) (i : Int) : Option α := (ixN xs.length i).bind fun j => xs[j]?
theorem ixN_seq {n : Nat} {i : Int} {j : Nat} (h : ixN n i = some j) : seqIndex? i n = some j ∧ j < n ∧ -(n : Int) ≤ i ∧ i < n := by
  unfold ixN at h
  by_cases h0 : 0 ≤ i
  · rw [if_pos h0] at h
    by_cases h1 : i < n
    · rw [if_pos h1] at h
      have e : i.toNat = j := Option.some.inj h
      exact ⟨by rw [seqIndex_of h0 h1, e], by omega, by omega, h1⟩
    · rw [if_neg h1] at h; cases h
  · rw [if_neg h0] at h
    by_cases h1 : -(n : Int) ≤ i
    · rw [if_pos h1] at h
      have e : (i + n).toNat = j := Option.some.inj h
      exact ⟨by rw [seqIndex_neg (by omega) h1, e], by omega, h1, by omega⟩
    · rw [if_neg h1] at h; cases h
theorem atI_get {α : Type} {xs : List α} {i : Int} {v : α} (h : atI xs i = some v) : ∃ j, seqIndex? i xs.length = some j ∧ xs[j]? = some v ∧ j < xs.length ∧ -(xs.length : Int) ≤ i ∧ i < xs.length := by
  unfold atI at h
  cases e : ixN xs.length i with
  | none => rw [e] at h; cases h
  | some j =>
    rw [e] at h
    obtain ⟨h1, h2, h3, h4⟩ := ixN_seq e
    exact ⟨j, h1, h, h2, h3, h4⟩
/-! ### what may be subscripted -/
/-- what stands as an index of a plain subscript -/
def PlainIx (b : Expr) : Prop := ∀ o i, subscripted b false o i = operate [o, i] (getItem o i)
/-- a subscript by values -/
def IxR (X : Cx) (r : R2) : Prop :=
  ∀ (value slice : Expr) (pins : List (Addr × Obj)) (s : Shared) (σ : St) (H : Hp) (x y : V) (v u : Value) (Q : VK), Inv X pins σ H s → RelV x v → RelV y u → r x y H Q →
    subscripted slice false v u = operate [v, u] (getItem v u) → wpAny (model X.prog X.w) X.A (subscriptTail value slice v u) (EP X pins σ Q) X.xe s
/-- a call of a builtin's method by values: the receiver, the arguments -/
def MtR (X : Cx) (id : String) (r : V → List V → Hp → VK → Prop) : Prop :=
  ∀ (pins : List (Addr × Obj)) (s : Shared) (σ : St) (H : Hp) (x : V) (xs : List V) (v : Value) (us : List Value) (Q : VK), Inv X pins σ H s → RelV x v → Vals xs us → r x xs H Q →
    wpAny (model X.prog X.w) X.A (call (.builtin id) (v :: us)) (EP X pins σ Q) X.xe s
section
variable {X : Cx} {a b : Expr} {ta tb : TE} {pos : Pos}
theorem IxR.or {r r' : R2} (h : IxR X r) (h' : IxR X r') : IxR X (fun x y H Q => r x y H Q ∨ r' x y H Q) := by
  intro value slice pins s σ H x y v u Q I rx ry q hs
  rcases q with q | q
  · exact h value slice pins s σ H x y v u Q I rx ry q hs
  · exact h' value slice pins s σ H x y v u Q I rx ry q hs
/-- a[b] -/
theorem pe_ix {r : R2} (hr : IxR X r) (ha : PE X a ta) (hb : PE X b tb) (hs : PlainIx b) : PE X (.Subscript a b pos) (tOp r ta tb) := by
  intro pins s σ H Q I h
  exact Subscript_ (binT ha hb I h fun v u s2 x y H2 I2 rx ry q => hr a b pins s2 σ H2 x y v u Q I2 rx ry q (hs _ _))

def rIxL (K : PySem.W.Frag) : R2 := fun x y H Q => ∃ p xs i v, x = .ref p ∧ y = .int i ∧ SqL K H p xs ∧ atI xs i = some v ∧ Q v H
def rIxT (K : PySem.W.Frag) : R2 := fun x y H Q => ∃ p xs i v, x = .ref p ∧ y = .int i ∧ SqT K H p xs ∧ atI xs i = some v ∧ Q v H
def rIxS : R2 := fun x y H Q => ∃ z i c, x = .str z ∧ y = .int i ∧ z.length ≤ sizeLine ∧ atI z.cps.toList i = some c ∧ Q (.str ⟨#[c]⟩) H
theorem ix_list : IxR X (rIxL X.K) := by
  intro value slice pins s σ H x y v u Q I rx ry h hs
  obtain ⟨p, xs, i, z, rfl, rfl, hq, he, q⟩ := h
  cases rx
  obtain ⟨t, rfl⟩ := ry
  obtain ⟨its, r, pl, hz⟩ := I.list hq
  obtain ⟨j, h1, h2, h3, h4, h5⟩ := atI_get he
  obtain ⟨w, ew, rw'⟩ := r.get h2
  have hl := r.length
  have hn := line63
  have fin : EP X pins σ Q w s := ⟨z, H, I, rw', q⟩
  by_cases h0 : 0 ≤ i
  · have hj : i.toNat = j := by
      rw [seqIndex_of h0 h5] at h1
      exact Option.some.inj h1
    exact item_listR pl.isList h0 (by omega) (by rw [hj]; simpa using ew) fin hs
  · have hj : (i + (its.toArray.size : Int)).toNat = j := by
      rw [seqIndex_neg (by omega) h4] at h1
      rw [List.size_toArray, ← hl]
      exact Option.some.inj h1
    exact subscriptTail_builtinR (x := w) pl.isList.typeIs slot_list_getitem.lookup
      (wpAny_getItem_list_neg (Q := fun r s' => r = w ∧ EP X pins σ Q r s') pl.isList (by omega) (by rw [List.size_toArray] <;> omega) (by omega) (by rw [hj]; simpa using ew) ⟨rfl, fin⟩) hs
theorem ix_tup : IxR X (rIxT X.K) := by
  intro value slice pins s σ H x y v u Q I rx ry h hs
  obtain ⟨p, xs, i, z, rfl, rfl, hq, he, q⟩ := h
  cases rx
  obtain ⟨t, rfl⟩ := ry
  obtain ⟨its, r, pl, hz⟩ := I.tuple hq
  obtain ⟨j, h1, h2, h3, h4, h5⟩ := atI_get he
  obtain ⟨w, ew, rw'⟩ := r.get h2
  have hl := r.length
  have hn := line63
  have fin : EP X pins σ Q w s := ⟨z, H, I, rw', q⟩
  exact subscriptTail_builtinR (x := w) pl.typeIs slot_tuple_getitem.lookup
    (getItem_tuple (j := j) (Q := fun r s' => r = w ∧ EP X pins σ Q r s') pl (by omega) (by omega) (by rw [List.size_toArray, ← hl]; exact h1) (by simpa using ew) ⟨rfl, fin⟩) hs
theorem ix_str : IxR X rIxS := by
  intro value slice pins s σ H x y v u Q I rx ry h hs
  obtain ⟨z, i, c, rfl, rfl, hz, he, q⟩ := h
  obtain ⟨t, rfl⟩ := rx
  obtain ⟨t', rfl⟩ := ry
  obtain ⟨j, h1, h2, h3, h4, h5⟩ := atI_get he
  have hl : z.cps.toList.length = z.length := by simp [Str.length]
  rw [hl] at h1 h4 h5
  have hn := line63
  exact tail_any (typeIs_str s z t) slot_str_getitem.lookup (getItem_str (c := c) (by
    have e1 : decide (i < -(2 ^ 63 : Int)) = false := decide_eq_false (by omega)
    have e2 : decide (i ≥ 2 ^ 63) = false := decide_eq_false (by omega)
    rw [e1, e2, Bool.or_false]) (by rw [h1]; simpa using h2) ⟨.str ⟨#[c]⟩, H, I.tok _, ⟨_, rfl⟩, q⟩) hs
/-- list, tuple or str -/
def rIx (K : PySem.W.Frag) : R2 := fun x y H Q => rIxL K x y H Q ∨ rIxT K x y H Q ∨ rIxS x y H Q
theorem ix_seq : IxR X (rIx X.K) := ix_list.or (ix_tup.or ix_str)

/-! ### xs[i] = v, any sign -/
/-- the list's object behind a store -/
theorem mapSeq_set (its : List Value) (n j : Nat) (u : Value) : Obj.mapSeq (·.setIfInBounds j u) { cls := .type "list", data := .seq its.toArray n } = { cls := .type "list", data := .seq (its.set j u).toArray n } := by
  simp [Obj.mapSeq]
theorem Inv.lst {pins : List (Addr × Obj)} {σ : St} {H : Hp} {s : Shared} {p : Addr} {xs : List V} (I : Inv X pins σ H s) (h : H p = some (.lst xs)) :
    ∃ (its : List Value) (n : Nat), Vals xs its ∧ s.heap.get? p = some { cls := .type "list", data := .seq its.toArray n } ∧ xs.length ≤ sizeLine := by
  obtain ⟨z, its, n, r, e⟩ := I.hok p _ h
  exact ⟨its, n, r, e, z⟩
/-- the list at p is written by an update of its object -/
theorem Inv.lstUpd {pins : List (Addr × Obj)} {σ : St} {H : Hp} {s : Shared} {p : Addr} {xs ys : List V} {its its' : List Value} {n n' : Nat} {f : Obj → Obj} (I : Inv X pins σ H s) (h : H p = some (.lst xs))
    (ho : s.heap.get? p = some { cls := .type "list", data := .seq its.toArray n }) (hf : f { cls := .type "list", data := .seq its.toArray n } = { cls := .type "list", data := .seq its'.toArray n' }) (r : Vals ys its') (hz : ys.length ≤ sizeLine) (t : Nat) :
    Inv X pins σ (upd H p (.lst ys)) { s with heap := s.heap.update p f, toks := t } := by
  have e : (s.heap.update p f).get? p = some { cls := .type "list", data := .seq its'.toArray n' } := by
    rw [Heap.get?_update_self f ho (by rw [hf] <;> rfl), hf]
  refine I.write (x := p) (e := p) (by rw [h]; trivial) (.inl rfl) (fun b u hb q => (Heap.get?_update_other _ _ (Ne.symm hb)).trans q) ⟨_, e⟩ ?_
  exact ⟨hz, its', n', r, e⟩
def rSetL : V → V → V → Hp → (Hp → Prop) → Prop := fun o i v H Q => ∃ p xs k j, o = .ref p ∧ i = .int k ∧ H p = some (.lst xs) ∧ ixN xs.length k = some j ∧ Q (upd H p (.lst (xs.set j v)))
theorem set_list : PSet X rSetL := by
  intro pins s σ H o i v ov iv u Q I ro ri rv h
  obtain ⟨p, xs, k, j, rfl, rfl, hp, hj, q⟩ := h
  cases ro
  obtain ⟨t, rfl⟩ := ri
  obtain ⟨its, n, r, ho, hz⟩ := I.lst hp
  obtain ⟨h1, h2, h3, h4⟩ := ixN_seq hj
  have hl := r.length
  have hn := line63
  have I' : Inv X pins σ (upd H p (.lst (xs.set j v))) { s with heap := s.heap.update p (Obj.mapSeq (·.setIfInBounds j u)) } :=
    I.lstUpd hp ho (mapSeq_set its n j u) (r.set rv j) (by rw [List.length_set]; exact hz) s.toks
  by_cases h0 : 0 ≤ k
  · have hk : k.toNat = j := by
      rw [seqIndex_of h0 h4] at h1
      exact Option.some.inj h1
    exact PySem.W.ki_setAt ho h0 (by omega) (by rw [List.size_toArray, ← hl]; exact h4) (by rw [hk]; exact ⟨_, I', q⟩)
  · have hk : (k + (its.toArray.size : Int)).toNat = j := by
      rw [seqIndex_neg (by omega) h3] at h1
      rw [List.size_toArray, ← hl]
      exact Option.some.inj h1
    exact PySem.W.ki_setBack ho (by omega) (by rw [List.size_toArray, ← hl]; exact h3) (by omega) (by rw [hk]; exact ⟨_, I', q⟩)

/-! ### slices -/
theorem slice_bounds (lo hi : Option Int) (n : Nat) : (sliceBounds lo hi none n).1 = ((HT.sIx n 0 lo : Nat) : Int) ∧ (sliceBounds lo hi none n).2.1 = ((HT.sIx n n hi : Nat) : Int) ∧ (sliceBounds lo hi none n).2.2 = 1 := by
  refine ⟨?_, ?_, rfl⟩
  · cases lo with
    | none => simp [sliceBounds, HT.sIx]
    | some i =>
      simp only [sliceBounds, HT.sIx, Option.getD_none, show (1 : Int) > 0 by decide, if_true]
      by_cases h : i < 0
      · simp only [h, if_true] <;> omega
      · simp only [h, if_false] <;> omega
  · cases hi with
    | none => simp [sliceBounds, HT.sIx]
    | some i =>
      simp only [sliceBounds, HT.sIx, Option.getD_none, show (1 : Int) > 0 by decide, if_true]
      by_cases h : i < 0
      · simp only [h, if_true] <;> omega
      · simp only [h, if_false] <;> omega
theorem slicePick_cut (its : List Value) (lo hi : Option Int) : slicePick its.toArray lo hi none = ((its.drop (HT.sIx its.length 0 lo)).take (HT.sIx its.length its.length hi - HT.sIx its.length 0 lo)).toArray := by
  obtain ⟨h1, h2, h3⟩ := slice_bounds lo hi its.toArray.size
  unfold slicePick
  rw [h1, h2, h3]
  simp only [sliceRange_one, pick_run, List.size_toArray] <;> rfl
/-- xs[lo:hi] of a list: a new list -/
def rSlL (K : PySem.W.Frag) : V → Option Int → Option Int → Hp → VK → Prop := fun x lo hi H Q => ∃ a xs, x = .ref a ∧ SqL K H a xs ∧ ∀ p, H p = none → Q (.ref p) (upd H p (.lst (cutV xs lo hi)))
theorem sl_list : SlR X (rSlL X.K) := by
  intro pins s σ H x v vl vu lo hi sl Q I rx hs pl pu h
  obtain ⟨a, xs, rfl, hx, q⟩ := h
  cases rx
  obtain ⟨its, r, ht, hz⟩ := I.list hx
  have hlen := r.length
  refine ⟨"list", _, slot_list_getitem.lookup, ht.isList.typeIs, ?_⟩
  refine wpAny_getItem_list_slice ht.isList hs pl pu .none (by simp) ?_ (by rw [List.size_toArray] <;> omega)
  rw [slicePick_cut, ← hlen]
  refine ⟨.ref s.heap.objs.size, _, I.laid (t' := s.toks) (o := .lst (cutV xs lo hi)) (fun b ob q => Heap.get?_push_of_some _ q) (Nat.le_refl _) ?_, rfl, q _ (I.hok.fresh (Nat.le_refl _))⟩
  exact ⟨Nat.le_trans (cutV_length xs lo hi) hz, _, 0, (r.drop (HT.sIx xs.length 0 lo)).take (HT.sIx xs.length xs.length hi - HT.sIx xs.length 0 lo), Heap.get?_push_size _ rfl⟩

/-! ### in, not in: flat items -/
/-! ### len, list(x), tuple(x) of any list or tuple that is read -/
theorem CallR.or {f : Value} {r r' : List V → Hp → VK → Prop} (h : CallR X f r) (h' : CallR X f r') : CallR X f (fun xs H Q => r xs H Q ∨ r' xs H Q) := by
  intro pins s σ H xs us Q I rs q
  rcases q with q | q
  · exact h pins s σ H xs us Q I rs q
  · exact h' pins s σ H xs us Q I rs q
theorem call_list_of : CallR X (.type "list") (fun xs H Q => ∃ p ys, xs = [.ref p] ∧ (SqL X.K H p ys ∨ SqT X.K H p ys) ∧ ∀ l, H l = none → Q (.ref l) (upd H l (.lst ys))) := by
  intro pins s σ H xs us Q I r h
  obtain ⟨p, ys, rfl, hq, q⟩ := h
  obtain ⟨u, rfl, rx⟩ := vals1 r
  cases rx
  have fin : ∀ (its : List Value), Vals ys its → ys.length ≤ sizeLine → ∀ (h' : Heap) (c' : Nat), (∀ b o', s.heap.get? b = some o' → h'.get? b = some o') →
      h'.get? s.heap.objs.size = some { cls := .type "list", dict := none, data := .seq its.toArray c', slots := #[] } → EP X pins σ Q (.ref s.heap.objs.size) { s with heap := h' } := fun its r' hz h' c' kp e =>
    ⟨.ref s.heap.objs.size, _, I.laid (t' := s.toks) kp (Nat.le_refl _) (show ObjOk X.prog X.w _ h' _ (.lst ys) from ⟨hz, its, c', r', e⟩), rfl, q _ (I.hok.fresh (Nat.le_refl _))⟩
  rcases hq with hq | hq
  · obtain ⟨its, r', pl, hz⟩ := I.list hq
    have hlen := r'.length
    obtain ⟨o, ho, hc, n, hd⟩ := pl.isList
    exact call_list_seq p (.inl rfl) ho hc hd (fun h' c' kp e => fin its r' hz h' c' kp e) (by simp only [List.size_toArray] <;> omega)
  · obtain ⟨its, r', pl, hz⟩ := I.tuple hq
    have hlen := r'.length
    obtain ⟨o, ho, hc, n, hd⟩ := pl
    exact call_list_seq p (.inr rfl) ho hc hd (fun h' c' kp e => fin its r' hz h' c' kp e) (by simp only [List.size_toArray] <;> omega)
theorem call_tuple_of : CallR X (.type "tuple") (fun xs H Q => ∃ p ys, xs = [.ref p] ∧ ((SqL X.K H p ys ∧ ∀ l, H l = none → Q (.ref l) (upd H l (.tup ys))) ∨ (SqT X.K H p ys ∧ Q (.ref p) H))) := by
  intro pins s σ H xs us Q I r h
  obtain ⟨p, ys, rfl, h⟩ := h
  obtain ⟨u, rfl, rx⟩ := vals1 r
  cases rx
  rcases h with ⟨hq, q⟩ | ⟨hq, q⟩
  · obtain ⟨its, r', pl, hz⟩ := I.list hq
    have hlen := r'.length
    refine call_tuple_list pl.isList (fun h' kp => ?_) (by simp only [List.size_toArray] <;> omega)
    have I1 : Inv X pins σ H { s with heap := h' } := I.kept (t' := s.toks) kp
    have I2 : Inv X pins σ (upd H h'.objs.size (.tup ys)) { s with heap := h'.push { cls := .type "tuple", data := .seq its.toArray } } :=
      I1.laid (t' := s.toks) (fun b o e => Heap.get?_push_of_some _ e) (Nat.le_refl _) (show ObjOk X.prog X.w _ _ _ (.tup ys) from ⟨hz, its, r', IsTup.new _ _⟩)
    exact ⟨.ref h'.objs.size, _, I2, rfl, q _ (I1.hok.fresh (Nat.le_refl _))⟩
  · obtain ⟨its, r', pl, hz⟩ := I.tuple hq
    exact call_tuple_same pl ⟨.ref p, H, I, rfl, q⟩

/-! ### the call of a builtin's method: o.m(..) -/
/-- the value is of that builtin type -/
def tyV (K : PySem.W.Frag) (T : String) (x : V) (H : Hp) : Prop := match x with
  | .str _ => T = "str"
  | .int _ => T = "int"
  | .ref p => (T = "list" ∧ ∃ xs, SqL K H p xs) ∨ (T = "tuple" ∧ ∃ o, K.lookup p = some o ∧ o.cls = .type "tuple" ∧ o.dict = none) ∨
      (T = "dict" ∧ ((∃ kvs, H p = some (.dK kvs)) ∨ ∃ kvs, H p = some (.dT kvs))) ∨ (T = "set" ∧ ∃ S n, H p = some (.set S n))
  | _ => False
theorem tyV_is {pins : List (Addr × Obj)} {σ : St} {H : Hp} {s : Shared} {T : String} {x : V} {v : Value} (I : Inv X pins σ H s) (r : RelV x v) (ty : tyV X.K T x H) :
    s.TypeIs v T ∧ ∀ a, v = .ref a → ∃ ob, s.heap.get? a = some ob ∧ ob.dict = none := by
  cases x with
  | str z =>
    obtain ⟨t, rfl⟩ := r
    cases (show T = "str" from ty)
    exact ⟨typeIs_str s z t, fun _ e => nomatch e⟩
  | int i =>
    obtain ⟨t, rfl⟩ := r
    cases (show T = "int" from ty)
    exact ⟨typeIs_int s i t, fun _ e => nomatch e⟩
  | ref p =>
    cases r
    rcases ty with ⟨rfl, xs, hq⟩ | ⟨rfl, o, hk, hc, hd⟩ | ⟨rfl, hk⟩ | ⟨rfl, S, n, hk⟩
    · obtain ⟨its, _, pl, _⟩ := I.list hq
      refine ⟨pl.isList.typeIs, fun a e => ?_⟩
      cases e
      obtain ⟨o, n, e, c, hd, _⟩ := pl
      exact ⟨o, e, hd⟩
    · refine ⟨⟨o, I.kIn p o hk, hc⟩, fun a e => ?_⟩
      cases e
      exact ⟨o, I.kIn _ o hk, hd⟩
    · have z : ∃ o, s.heap.get? p = some o ∧ o.ExactDict := by
        rcases hk with ⟨kvs, hk⟩ | ⟨kvs, hk⟩
        · obtain ⟨_, _, _, _, o, _, _, e, ex, _⟩ := I.hok p _ hk
          exact ⟨o, e, ex⟩
        · obtain ⟨_, _, _, _, o, _, _, e, ex, _⟩ := I.hok p _ hk
          exact ⟨o, e, ex⟩
      obtain ⟨o, e, ex⟩ := z
      refine ⟨⟨o, e, ex.1⟩, fun a e2 => ?_⟩
      cases e2
      exact ⟨o, e, ex.2.1⟩
    · obtain ⟨o, _, _, _, e, ex, _⟩ := I.hok p _ hk
      refine ⟨⟨o, e, ex.1⟩, fun a e2 => ?_⟩
      cases e2
      exact ⟨o, e, ex.2.1⟩
  | _ => exact False.elim ty
def tBM0 (K : PySem.W.Frag) (T : String) (r : V → List V → Hp → VK → Prop) (to : TE) : TE := fun σ H Q => to σ H fun x H1 => tyV K T x H1 ∧ r x [] H1 Q
def tBM (K : PySem.W.Frag) (T : String) (r : V → List V → Hp → VK → Prop) (to : TE) (t : TA) : TE := fun σ H Q => to σ H fun x H1 => tyV K T x H1 ∧ t σ H1 fun xs H2 => r x xs H2 Q
variable {o e : Expr} {es : List Expr} {to : TE} {t : TA} {name : Str} {apos cpos : Pos} {T id : String} {r : V → List V → Hp → VK → Prop}
theorem pe_bm0 (pa : PlainAttrs T) (slot : Slot T name id) (hty : typeOf (.builtin id) = pure (.type "method_descriptor")) (hm : MtR X id r) (ho : PE X o to)
    (hbase : attributeBase o name X.env (eval o X.env) = eval o X.env := by rfl) (hline : (apos.endLine == cpos.line) = true := by rfl) : PE X (.Call (.Attribute o name apos) [] [] cpos) (tBM0 X.K T r to) := by
  intro pins s σ H Q I h
  refine wpAny_Call_method0_late hbase hline (thn (ho pins s σ H _ I h) fun v s1 ⟨x, H1, I1, r1, ty, q1⟩ => ?_)
  obtain ⟨h1, h2⟩ := tyV_is I1 r1 ty
  exact ⟨T, id, pa, slot, hty, h1, h2, Calls.callWith_builtin rfl (PySem.evalArgs_none (hm pins s1 σ H1 x [] v [] Q I1 r1 .nil q1))⟩
theorem pe_bm (pa : PlainAttrs T) (slot : Slot T name id) (hty : typeOf (.builtin id) = pure (.type "method_descriptor")) (hm : MtR X id r) (ho : PE X o to) (ha : PA X (e :: es) t)
    (hbase : attributeBase o name X.env (eval o X.env) = eval o X.env := by rfl)
    (hfew : ((backTo cpos (starEach (e :: es) X.env)).all (fun x => !x.1) && (backToKw cpos (keywordEach [] X.env)).all (fun x => x.1.isSome)
      && decide ((e :: es).length + ([] : List Keyword).length + (if ([] : List Keyword).isEmpty then 0 else 1) < 30)) = true := by rfl)
    (hline : (apos.endLine == cpos.line) = true := by rfl) (hs : starEach (e :: es) X.env = (false, eval e X.env) :: starEach es X.env := by rfl) (hplain : (backTo cpos (starEach es X.env)).any (·.1) = false := by rfl) :
    PE X (.Call (.Attribute o name apos) (e :: es) [] cpos) (tBM X.K T r to t) := by
  intro pins s σ H Q I h
  refine wpAny_Call_method_late hbase hfew hline rfl (thn (ho pins s σ H _ I h) fun v s1 ⟨x, H1, I1, r1, ty, q1⟩ => ?_)
  obtain ⟨h1, h2⟩ := tyV_is I1 r1 ty
  refine ⟨T, id, pa, slot, hty, h1, h2, ?_⟩
  have hA := ha cpos pins s1 σ H1 _ I1 q1
  rw [hs] at hA ⊢
  refine Calls.callWith_builtin (by show (false || (backTo cpos (starEach es X.env)).any (·.1)) = false; rw [hplain] <;> rfl) (Calls.evalArgs_plain ?_)
  exact thn hA fun us s2 ⟨vs, H2, I2, r2, q2⟩ => hm pins s2 σ H2 x vs v us Q I2 r1 r2 q2
/- xs.append(e), list.index on a module's tuple .. are MtR facts of 06m -/
end
end L2

namespace L2
open PySem PySem.Spec PyProof.Rows

def MtM (X : Cx) (id : String) (r : V → List V → Hp → VK → Prop) : Prop :=
  ∀ (pins : List (Addr × Obj)) (s : Shared) (σ : St) (H : Hp) (x : V) (xs : List V) (v : Value) (us : List Value) (Q : VK), Inv X pins σ H s → RelV x v → Vals xs us → r x xs H Q →
    wpAny (model X.prog X.w) X.A (call (.builtin id) (v :: us)) (EP X pins σ Q) X.xe s

/-! ### lists of values -/
theorem Vals.one : ∀ {x : V} {us : List Value}, Vals [x] us → ∃ u, us = [u] ∧ RelV x u
  | _, _, .cons r .nil => ⟨_, rfl, r⟩
theorem Vals.zero : ∀ {us : List Value}, Vals [] us → us = []
  | _, .nil => rfl
theorem Vals.dropLast {xs : List V} {us : List Value} (h : Vals xs us) : Vals xs.dropLast us.dropLast := by
  induction h with
  | nil => exact .nil
  | cons r t ih =>
    cases t with
    | nil => exact .nil
    | cons q t' => exact .cons r ih
theorem erase_last {α : Type} (l : List α) : l.eraseIdx (l.length - 1) = l.dropLast := by
  induction l with
  | nil => rfl
  | cons a r ih =>
    cases r with
    | nil => rfl
    | cons b r =>
      have e : (a :: b :: r).length - 1 = ((b :: r).length - 1) + 1 := by
        have h1 : (a :: b :: r).length = r.length + 2 := rfl
        have h2 : (b :: r).length = r.length + 1 := rfl
        omega
      rw [e, List.eraseIdx_cons_succ, ih]
      all_goals rfl
section
variable {X : Cx} {pins : List (Addr × Obj)} {σ : St} {H : Hp} {s : Shared} {l b : Addr} {xs ys zs : List V}

/-! ### the two steps: a tracked list is rewritten, a new list is laid -/
theorem Inv.lset {its its' : List Value} {n : Nat} {f : Array Value → Array Value} {t' : Nat} (I : Inv X pins σ H s) (hH : H l = some (.lst xs))
    (e : s.heap.get? l = some { cls := .type "list", data := .seq its.toArray n }) (hf : f its.toArray = its'.toArray) (hv : Vals ys its') (hz : ys.length ≤ sizeLine) :
    Inv X pins σ (upd H l (.lst ys)) { s with heap := s.heap.update l (Obj.mapSeq f), toks := t' } := by
  have q := PySem.IsL.update e f
  rw [hf] at q
  refine I.write (x := l) (e := l) (by rw [hH]; exact trivial) (.inl rfl) (fun b' u hb hu => (Heap.get?_update_other s.heap (Obj.mapSeq f) (Ne.symm hb)).trans hu) ⟨_, q⟩ ?_
  exact ⟨hz, its', _, hv, q⟩
theorem Inv.lnew {its : List Value} {t' : Nat} (I : Inv X pins σ H s) (hv : Vals ys its) (hz : ys.length ≤ sizeLine) :
    Inv X pins σ (upd H s.heap.objs.size (.lst ys)) { s with heap := s.heap.push { cls := .type "list", data := .seq its.toArray }, toks := t' } :=
  I.laid (fun _ _ q => Heap.get?_push_of_some _ q) (Nat.le_refl _) ⟨hz, its, 0, hv, Heap.get?_push_size _ rfl⟩
theorem Inv.fresh (I : Inv X pins σ H s) : H s.heap.objs.size = none := I.hok.fresh (Nat.le_refl _)
theorem Inv.lstM (I : Inv X pins σ H s) (hH : H l = some (.lst xs)) : xs.length ≤ sizeLine ∧ ∃ (its : List Value) (n : Nat), Vals xs its ∧ xs.length = its.length ∧ s.heap.get? l = some { cls := .type "list", data := .seq its.toArray n } := by
  obtain ⟨z, its, n, r, e⟩ := I.hok l _ hH
  exact ⟨z, its, n, r, r.length, e⟩

theorem notLongL {n : Nat} (h : n ≤ sizeLine) : Builtin.List.listTooLong n = false := by
  unfold Builtin.List.listTooLong
  exact decide_eq_false (by omega)
end

section
variable {X : Cx}

/-! ### methods -/
def rAppend : V → List V → Hp → VK → Prop := fun x vs H Q => ∃ l xs y, x = .ref l ∧ vs = [y] ∧ H l = some (.lst xs) ∧ xs.length < sizeLine ∧ Q .non (upd H l (.lst (xs ++ [y])))
theorem mt_append : MtM X "list.append" rAppend := by
  intro pins s σ H x vs v us Q I rx rv h
  obtain ⟨l, xs, y, rfl, rfl, hH, hz, q⟩ := h
  cases rx
  obtain ⟨u, rfl, ru⟩ := rv.one
  obtain ⟨z, its, n, r, hl, e⟩ := I.lstM hH
  refine call_meets F.slot_list_append ⟨_, e, rfl⟩ F.entry_list_append (F.args_list_append_2 _ _) (PySem.list_append l its.toArray n u (by rw [List.size_toArray]; omega)) ⟨e, ?_⟩
  refine ⟨.non, _, I.lset (its' := its ++ [u]) hH e (by simp) (r.append (.cons ru .nil)) ?_, rfl, q⟩
  rw [List.length_append, List.length_singleton]
  omega

def rExtend : V → List V → Hp → VK → Prop := fun x vs H Q => ∃ l b xs zs, x = .ref l ∧ vs = [.ref b] ∧ H l = some (.lst xs) ∧ H b = some (.lst zs) ∧ xs.length + zs.length ≤ sizeLine ∧ Q .non (upd H l (.lst (xs ++ zs)))
theorem mt_extend : MtM X "list.extend" rExtend := by
  intro pins s σ H x vs v us Q I rx rv h
  obtain ⟨l, b, xs, zs, rfl, rfl, hH, hB, hz, q⟩ := h
  cases rx
  obtain ⟨u, rfl, ru⟩ := rv.one
  cases ru
  obtain ⟨z, its, n, r, hl, e⟩ := I.lstM hH
  obtain ⟨z2, its2, n2, r2, hl2, e2⟩ := I.lstM hB
  have hsz : its.toArray.size + its2.toArray.size ≤ sizeLine := by rw [List.size_toArray, List.size_toArray]; omega
  have hlong : ¬ (!its.toArray.isEmpty && Builtin.List.listTooLong (its.toArray.size + its2.toArray.size)) = true := by
    rw [notLongL hsz, Bool.and_false]
    exact Bool.false_ne_true
  refine call_meets F.slot_list_extend ⟨_, e, rfl⟩ F.entry_list_extend (F.args_list_extend_2 _ _)
    (AutoSeq1.list_extend_list_list_0 l its.toArray n b its2.toArray n2 hlong (by rw [List.size_toArray]; omega) (by omega)) ⟨e, e2, ?_⟩
  refine ⟨.non, _, I.lset (its' := its ++ its2) hH e (by simp) (r.append r2) ?_, rfl, q⟩
  rw [List.length_append]
  omega

def rPop : V → List V → Hp → VK → Prop := fun x vs H Q => ∃ l xs y, x = .ref l ∧ vs = [] ∧ H l = some (.lst xs) ∧ xs[xs.length - 1]? = some y ∧ Q y (upd H l (.lst xs.dropLast))
theorem mt_pop : MtM X "list.pop" rPop := by
  intro pins s σ H x vs v us Q I rx rv h
  obtain ⟨l, xs, y, rfl, rfl, hH, hy, q⟩ := h
  cases rx
  have hus := rv.zero
  subst hus
  obtain ⟨z, its, n, r, hl, e⟩ := I.lstM hH
  obtain ⟨u, hu, ru⟩ := r.get hy
  have hy' : its.toArray[its.toArray.size - 1]? = some u := by
    show its.toArray[its.length - 1]? = some u
    rw [← Array.getElem?_toList, ← hl]
    exact hu
  refine call_meets F.slot_list_pop ⟨_, e, rfl⟩ F.entry_list_pop (F.args_list_pop_1 _) (MeetsSeq.list_pop_last l its.toArray n u hy' (by rw [List.size_toArray]; omega)) ⟨e, ?_⟩
  refine ⟨y, _, I.lset (its' := its.dropLast) hH e ?_ r.dropLast ?_, ru, q⟩
  · show its.toArray.eraseIdxIfInBounds (its.toArray.size - 1) = its.dropLast.toArray
    rw [List.size_toArray, List.eraseIdxIfInBounds_toArray, erase_last]
  · rw [List.length_dropLast]
    omega

/-! ### list + list, list += list, list * int -/
def rCat : R2 := fun x y H Q => ∃ l b xs zs, x = .ref l ∧ y = .ref b ∧ H l = some (.lst xs) ∧ H b = some (.lst zs) ∧ xs.length + zs.length ≤ sizeLine ∧ ∀ p, H p = none → Q (.ref p) (upd H p (.lst (xs ++ zs)))
theorem op_cat : OpR X (binaryOp .Add) rCat := by
  intro pins s σ H x y v u Q I rx ry h
  obtain ⟨l, b, xs, zs, rfl, rfl, hH, hB, hz, q⟩ := h
  cases rx
  cases ry
  obtain ⟨z, its, n, r, hl, e⟩ := I.lstM hH
  obtain ⟨z2, its2, n2, r2, hl2, e2⟩ := I.lstM hB
  refine PySem.P.add_list e e2 ?_ (by rw [List.size_toArray, List.size_toArray]; omega)
  have ea : its.toArray ++ its2.toArray = (its ++ its2).toArray := by simp
  rw [ea]
  exact ⟨.ref _, _, I.lnew (t' := s.toks) (r.append r2) (by rw [List.length_append]; omega), rfl, q _ I.fresh⟩
/-! ### del xs[i] -/
end

/-! ### xs[a:b] = ys -/
section
variable {prog : Program} {w : World} {A : Around} {E : Value → Shared → Prop} {s : Shared}
set_option maxRecDepth 100000 in
end

section
variable {X : Cx}
end
end L2

namespace Att
open PySem PySem.W PySem.Calls PyProof.Rows

/-! ### the script -/
theorem ints_of_wellAll {P : Params} {h : Heap} : ∀ (ns : List Int) (vs : List Value), WellAll P h vs (ns.map WData.int) → IntsAre vs ns := by
  intro ns
  induction ns with
  | nil =>
    intro vs w
    rw [List.map_nil] at w
    cases w
    exact .nil
  | cons n ns ih =>
    intro vs w
    rw [List.map_cons] at w
    cases w with
    | cons a b =>
      cases a
      exact .cons _ _ (ih _ b)

theorem script_of {l : OpenLaw} {n : Nat} (hn : l.most = some n) {P : Params} {h : Heap} {args : List WData} {vals : List Value}
    (hpre : l.row.toRowW.claim.pre args = true) (hwl : WellAll P h vals args) :
    ∃ a vs ns, vals = [Value.ref a] ∧ args = [WData.list (ns.map WData.int)] ∧ h.get? a = some { cls := .type "list", data := .seq vs.toArray } ∧ IntsAre vs ns ∧ ns.length ≤ n := by
  have hsh : WShape.hasAll [] args [.list .int] = true := (pre_splitW hpre).1
  have hc : l.pre.holds [] { args := args } = true := (pre_splitW hpre).2
  obtain ⟨d, r, rfl, h1, h2⟩ := hasAllW_cons hsh
  obtain rfl := hasAllW_nil h2
  obtain ⟨xs, rfl, h3⟩ := hasW_list h1
  obtain ⟨ns, rfl⟩ := items_int h3
  have hlen : ns.length ≤ n := by
    unfold OpenLaw.pre at hc
    have h4 : (WTm.not (.lt (.lit (.int (n : Int))) (.len (.arg 0)))).holds [] { args := [.list (ns.map .int)] } = true := by
      have h4 := (holds_andW hc).1
      rw [hn] at h4
      exact h4
    have h5 := condW_of h4 (w_not (w_lt w_lit (w_len_list (w_arg rfl))))
    rw [List.length_map] at h5
    refine Nat.le_of_not_lt fun q => ?_
    have q' : (n : Int) < ((ns.length : Nat) : Int) := by omega
    first
      | (rw [decide_eq_true q'] at h5; exact absurd h5 (by decide))
      | (simp at h5; omega)
  cases hwl with
  | cons w1 w2 =>
    cases w2
    cases w1 with
    | list ho hall => exact ⟨_, _, ns, rfl, rfl, ho, ints_of_wellAll ns _ hall, hlen⟩

theorem post_true (l : OpenLaw) (args : List WData) : l.row.toRowW.claim.post args (.bool true) args = true :=
  postW_of (r := l.row.toRowW) (X := (true == true))
    (show WShape.has [] (.bool true) .bool = true by first | rfl | decide | simp [WShape.has, WShape.arms, WShape.armsAll])
    (show (WTm.eq .res (.lit (.bool true))).value [] { args := args, res := some (.bool true), after := args } = some (.bool (true == true)) from w_eq_bool (w_res rfl) w_lit) rfl

/-! ### the attachment: holds_open's last premise (the goal 'hc' behind k_head) from a wpAny of the law's body -/
/-- the same from a codeAny of the CALL (for a layer whose function contracts speak of calls) -/
theorem attach_call {l : OpenLaw} {n : Nat} {q : Program} {loose : List Str} {XP : (Str → Option Value) → Heap → Prop} {YP : World → Heap → Prop} {d : DefRec}
    (hn : l.most = some n) (hdf : d.params.defaults = [])
    (call : ∀ (w : World) (s₀ s₁ : Shared) (mg mb : Str → Option Value) (fa : Addr) (o : Obj) (pm cd doc : Value) (a : Addr) (vs : List Value) (ns : List Int),
      Ground q loose [] XP w s₀ mg mb s₁.heap → YP w s₁.heap →
      s₁.heap.get? fa = some o → o.data = .func (docDef d.name d.params d.body d.scope pm cd doc) → s₁.heap.CodeRec cd d.name → mg d.name = some (.ref fa) →
      s₁.heap.get? a = some { cls := .type "list", data := .seq vs.toArray } → IntsAre vs ns → ns.length ≤ n → s₁.gens = #[] →
      codeAny (model l.prog w) callerA (.call (.ref fa) ⟨[.ref a], []⟩) (fun r s' => r = .ok (.ret (.bool true)) ∧ OldK s₁.heap s'.heap ∧ s'.os = s₁.os ∧ AllBare s'.gens) s₁) :
    WalkO q loose XP YP l.row.toRowW d [] (fun f vs => PySem.call f vs) := by
  intro w s₀ s₁ mg mb G Y fa o pm cd doc dV kV ho hd hcd hD hmg hg args vals as hpre hlay hrd hwl hlo
  obtain rfl : dV = .none := Dflts.none hD hdf
  obtain rfl : kV = .none := Dflts.noKw hD
  obtain ⟨a, vs, ns, rfl, rfl, hobj, hints, hlen⟩ := script_of hn hpre hwl
  refine enter_call (codeAny_mono (call w s₀ s₁ mg mb fa o pm cd doc a vs ns G Y ho (fd_plain hd) hcd hmg hobj hints hlen hg) fun r s' hq => ?_)
  obtain ⟨rfl, h2, h3, h4⟩ := hq
  exact ⟨.inl ⟨.bool true, .bool true, [], rfl, fun _ => rfl, .bool true, post_true l _, fun _ => ⟨List.Pairwise.nil, fun _ hm => (nomatch hm)⟩⟩, h2, h3, h4⟩

/-! ### rules over ANY heap (no ledger) from facts about the written part K: the library's own take a ledger (News) for what they write -/
section
variable {prog : Program} {w : World} {A : Around} {E : Value → Shared → Prop} {s : Shared} {K : Frag}

/-! the whole heap as the ledger: makes every rule that writes through a ledger a rule over any heap -/
end
end Att

namespace L2
open PySem PySem.Spec PyProof.Rows

theorem vals_ints : ∀ {vs : List Value} {ns : List Int}, IntsAre vs ns → Vals (ns.map V.int) vs
  | _, _, .nil => .nil
  | _, _, .cons n t h => .cons ⟨t, rfl⟩ (vals_ints h)

/-- nothing is tracked but the script, known to the object (or it is an object of the module) -/
def Only (H : Hp) : Prop := ∀ b, H b = none ∨ ∃ o xs, H b = some (.frz o (.lst xs))

/-- THE HEAD: the law's promise, at the heap behind the top. F, the promise of the law's def, may use that base is part of the heap (so K.In base, base.Ns mainGlobals mg stand in Mod) -/
theorem law_call {P : Program} {w : World} {K : PySem.W.Frag} {mg mb : Str → Option Value} {CX : CXT} {k : Nat} {fa a : Addr} {fd : FuncData} {x : Str} {sp : Sp} {s₁ : Shared} {vs : List Value} {ns : List Int}
    (KX : K.In s₁.heap) (hns : s₁.heap.Ns mainGlobals mg) (hb : s₁.heap.Ns builtinsNs mb) (hbb : ∀ x : Str, x ≠ "__name__" → mb x = bootBuiltins x) (hlim : s₁.heap.NoLimit) (hg : s₁.gens = #[])
    (ha : s₁.heap.get? a = some { cls := .type "list", data := .seq vs.toArray }) (hi : IntsAre vs ns) (hl : ns.length ≤ sizeLine) (hr : Room k callerA)
    (F : ∀ base : Heap, K.In base → base.Ns mainGlobals mg → FnOk P w K mg base CX k fa fd [x] sp) (hbind : ∀ (s : Shared) (u : Value), BindsTo s fd ⟨[u], []⟩ [(x, u)])
    (hsp : ∀ H : Hp, Only H → SqL K H a (ns.map V.int) → sp [.ref a] H (fun v _ => v = .bl true) fun _ _ _ => False)
    (hCX : ∀ H e s', CX [] H s₁ (fun _ _ _ => False) e s' → False) :
    codeAny (model P w) callerA (.call (.ref fa) ⟨[.ref a], []⟩) (fun r s' => r = .ok (.ret (.bool true)) ∧ OldK s₁.heap s'.heap ∧ s'.os = s₁.os ∧ AllBare s'.gens) s₁ := by
  have rv := vals_ints hi
  have lenV := hi.length
  -- from an abstract heap in which nothing but the script may be tracked
  have core : ∀ H : Hp, Only H → SqL K H a (ns.map V.int) → HOk P w H s₁.heap → (∀ b, H b ≠ none → b = a) → (H a ≠ none → K.lookup a = none) →
      codeAny (model P w) callerA (.call (.ref fa) ⟨[.ref a], []⟩) (fun r s' => r = .ok (.ret (.bool true)) ∧ OldK s₁.heap s'.heap ∧ s'.os = s₁.os ∧ AllBare s'.gens) s₁ := by
    intro H hO hS hok hA hK
    have base_of : ∀ {b : Addr} {o : Obj}, s₁.heap.get? b = some o → H b = none → (hidT s₁.heap H).get? b = some o := fun e n => hidT_get e n
    have noA : ∀ {b : Addr} {o : Obj} {es : Array DictEntry} {ep : Nat}, s₁.heap.get? b = some o → o.data = .dict es ep → H b = none := fun {b o es ep} e d => by
      cases q : H b with
      | none => rfl
      | some u =>
        have e' : b = a := hA b (by rw [q]; simp)
        subst e'
        rw [ha] at e; cases e
        have d' : Data.seq vs.toArray _ = Data.dict es ep := d
        cases d'
    have nsK : ∀ {b : Addr} {m : Str → Option Value}, s₁.heap.Ns b m → (hidT s₁.heap H).Ns b m := fun {b m} ⟨o, es, ep, e, d, r⟩ => ⟨o, es, ep, base_of e (noA e d), d, r⟩
    have hKb : K.In (hidT s₁.heap H) := fun b o e => base_of (KX b o e) (by
      cases q : H b with
      | none => rfl
      | some u =>
        have e' : b = a := hA b (by rw [q]; simp)
        subst e'
        rw [hK (by rw [q]; simp)] at e; cases e)
    have hM : Mod K mg (hidT s₁.heap H) := ⟨hKb, nsK hns, ⟨mb, nsK hb, hbb⟩, let ⟨mc, h1, h2⟩ := hlim; ⟨mc, nsK h1, h2⟩⟩
    have e0 : Env0 P w K mg (hidT s₁.heap H) callerA [] s₁ H := ⟨rfl, hM, fun b o e => of_hidT e, Nat.le_of_eq (hidT_size _ _), trivial, fun b hb => absurd (show b ∈ ([] : List Addr) from hb) (by simp), hok, .of_eq hg⟩
    refine codeAny_mono ((F _ hKb (nsK hns)).run callerA [] s₁ H ⟨[.ref a], []⟩ [.ref a] [.ref a] _ _ hr e0 (hbind s₁ (.ref a)) (.cons rfl .nil) (hsp H hO hS)) fun r s' h => ?_
    cases r with
    | error e => exact (hCX H e s' h).elim
    | ok fl =>
      cases fl with
      | next => exact False.elim h
      | brk => exact False.elim h
      | cont => exact False.elim h
      | ret u =>
        obtain ⟨v, H', os, bare, un, hok', r', q⟩ := h
        have q' : v = .bl true := q
        subst q'
        obtain rfl : u = Value.bool true := r'
        refine ⟨rfl, OldK.of_keep fun b o e => ?_, os, bare⟩
        cases q : H b with
        | none => exact un.keep b o e q (by intro z; exact absurd (show b ∈ ([] : List Addr) from z) (by simp)) (by simp)
        | some u =>
          rcases hO b with z | ⟨ob, xs, z⟩
          · rw [q] at z; cases z
          · have z2 := un.frzs b ob _ z
            obtain ⟨e1, _⟩ := hok b _ z
            obtain ⟨e2, _⟩ := hok' b _ z2
            rw [e] at e1; cases e1
            exact e2
  cases hk : K.lookup a with
  | some o =>
    -- the script is one of the module's own objects
    have e := KX a o hk
    rw [ha] at e
    cases e
    refine core (fun _ => none) (fun _ => .inl rfl) (.inr ⟨_, vs.toArray, _, hk, rfl, rfl, rfl, by rw [List.size_toArray, lenV]; exact hl, by simpa using rv⟩) (fun b u z => by have z' : (none : Option HO) = some u := z; cases z') (fun b z => absurd rfl z) fun z => absurd rfl z
  | none =>
    refine core (fun b => if b = a then some (.frz { cls := .type "list", data := .seq vs.toArray } (.lst (ns.map V.int))) else none) (fun b => ?_) (.inl (.inr ⟨{ cls := .type "list", data := .seq vs.toArray }, if_pos rfl⟩)) (fun b u z => ?_) (fun b z => ?_) fun _ => hk
    · by_cases hb : b = a
      · exact .inr ⟨_, _, if_pos hb⟩
      · exact .inl (if_neg hb)
    · by_cases hb : b = a
      · have z' := (if_pos hb).symm.trans z
        cases z'
        subst hb
        exact ⟨ha, by rw [List.length_map]; exact hl, vs, _, rv, ha⟩
      · have z' := (if_neg hb).symm.trans z
        cases z'
    · by_cases hb : b = a
      · exact hb
      · exact absurd (if_neg hb) z
end L2

namespace L2
open PySem PySem.Spec PyProof.Rows

abbrev KOf {K : PySem.W.Frag} {h : Heap} (_ : K.In h) : PySem.W.Frag := K

/-- the goal that k_head leaves (case hc), from the law's promise. F gives the function object fd (K's own) once, then the promise over every base -/
theorem walk_of {l : PySem.W.OpenLaw} {n k : Nat} {q : Program} {loose : List Str} {XP : (Str → Option Value) → Heap → Prop} {YP : World → Heap → Prop} {d : DefRec} {K : Params → PySem.W.Frag} {CX : World → CXT} {sp : World → Sp} {x : Str}
    (hn : l.most = some n) (hn2 : n ≤ sizeLine) (hdf : d.params.defaults = []) (hr : Room k callerA)
    (hY : ∀ (w : World) (h : Heap), YP w h → (K w.params).In h)
    (F : ∀ (w : World) (mg : Str → Option Value) (fa : Addr) (h : Heap), (K w.params).In h → h.Ns mainGlobals mg → mg d.name = some (.ref fa) →
      ∃ fd : FuncData, (∀ (s : Shared) (u : Value), BindsTo s fd ⟨[u], []⟩ [(x, u)]) ∧
        ∀ base : Heap, (K w.params).In base → base.Ns mainGlobals mg → FnOk l.prog w (K w.params) mg base (CX w) k fa fd [x] (sp w))
    (hsp : ∀ (w : World) (H : Hp) (a : Addr) (ns : List Int), ns.length ≤ n → Only H → SqL (K w.params) H a (ns.map V.int) → sp w [.ref a] H (fun v _ => v = .bl true) fun _ _ _ => False)
    (hCX : ∀ (w : World) (H : Hp) (s : Shared) (e : Value) (s' : Shared), CX w [] H s (fun _ _ _ => False) e s' → False) :
    PySem.W.WalkO q loose XP YP l.row.toRowW d [] (fun f vs => PySem.call f vs) := by
  refine Att.attach_call hn hdf fun w s₀ s₁ mg mb fa o pm cd doc a vs ns G Y ho hd hcd hmg hobj hints hlen hg => ?_
  have KX := hY w _ Y
  obtain ⟨fd, hb, hF⟩ := F w mg fa _ KX G.T.g hmg
  exact law_call KX G.T.g G.T.b G.T.builtins G.T.nolimit hg hobj hints (Nat.le_trans hlen hn2) hr hF hb (fun H hO hS => hsp w H a ns hlen hO hS) fun H e s' => hCX w H s₁ e s'
end L2



/-! SHORT WORDS over the layer: a def of the text, its body, what a loop and a test want. -/
namespace L2
open PySem PySem.Spec PyProof.Rows

/-! ### the text by places -/
/-- the j-th statement of a class's body -/
def inClass (s : Stmt) (j : Nat) : Stmt := match s with
  | .ClassDef _ _ _ body _ _ _ _ _ _ _ => body.getD j (.Pass ⟨0, 0, 0, 0⟩)
  | _ => .Pass ⟨0, 0, 0, 0⟩
def defArgs (s : Stmt) : Arguments := match s with
  | .FunctionDef _ a _ _ _ _ _ _ _ _ => a
  | _ => { posonlyargs := [], args := [], vararg := none, kwonlyargs := [], kw_defaults := [], kwarg := none, defaults := [] }
def defBody (s : Stmt) : List Stmt := match s with
  | .FunctionDef _ _ b _ _ _ _ _ _ _ => b
  | _ => []
def defScope (s : Stmt) : Scope := match s with
  | .FunctionDef _ _ _ _ _ _ sc _ _ _ => sc
  | _ => { kind := .function, names := [], isGenerator := false, isCoroutine := false }

/-! ### no exception leaves a def -/
abbrev CX0 : CXT := fun _ _ _ _ _ _ => False
abbrev E0 : XK := fun _ _ _ => False
/-! ### a def (or method) of the text as it stands behind the top -/
section
variable {P : Program} {w : World} {K : PySem.W.Frag} {mg : Str → Option Value} {base : Heap}
end
/-! ### expressions in short: the name that stands in the i-th slot -/
section
variable {X : Cx}
theorem pv (i : Nat) {x : Str} {pos : Pos} (hN : X.N[i]? = some x := by rfl) (hv : Vis X.env.scope x := by first | exact Or.inl rfl | exact Or.inr (Or.inl rfl) | exact Or.inr (Or.inr rfl)) (hd : (x == ("__debug__" : Str)) = false := by decide)
    (hcd : (x == ("__classdict__" : Str)) = false := by decide) : PE X (.Name x pos) (tVar i) := pe_var hN hv hd hcd
end

/-! ### tests -/
/-! ### heaps -/
/-- all that was tracked is as it was -/
def Same (H H' : Hp) : Prop := ∀ b o, H b = some o → H' b = some o
end L2

namespace L2
open PySem PySem.Spec PyProof.Rows PySem.W

/-! ### exceptions of own classes -/
structure XCls (K : Frag) (C : Addr) (bm : List Value) (newId : String) : Prop where
  obj : ∃ (nm q : Str) (N : Addr) (bs : List Value) (sn : List Str) (sub : List Value) (ab : Bool) (col : Option Bool) (dd : Option Addr) (k0 k1 k2 k3 k5 : Option Value),
    K.lookup C = some (excClassObj nm q C N bs bm true sn sub ab col dd k0 k1 k2 k3 k5 newId)
  ga : findIn K (.ref C) "__getattribute__" = some (some (.builtin "BaseException.__getattribute__"))
  gh : findIn K (.ref C) "__getattr__" = some none
  sa : findIn K (.ref C) "__setattr__" = some (some (.builtin "object.__setattr__"))
  cl : findIn K (.ref C) "__class__" = some (some (.builtin "object.__class__"))
  base : mroIn K C (.type "BaseException") = some true
  top : mroIn K C (.type "object") = some true
  pass : ∀ self : Value, refuseLoop self "__setattr__" bm = pure ()

theorem XCls.hd {K : Frag} {C : Addr} {bm : List Value} {newId : String} (c : XCls K C bm newId) : hasDictIn K C = true := by
  obtain ⟨nm, q, N, bs, sn, sub, ab, col, dd, k0, k1, k2, k3, k5, h⟩ := c.obj
  unfold hasDictIn clsIn
  rw [h]
  rfl

section
variable {prog : Program} {w : World} {A : Around} {E : Value → Shared → Prop} {s : Shared} {K : Frag} {x C : Addr} {ox : Obj} {od : Option Obj} {name : Str} {bm : List Value} {newId : String}

theorem xga_check {M : Model} (X : K.In s.heap) (c : XCls K C bm newId) (I : PySem.W.InstAt s.heap x ox C od) {nameV : Value} {Q : Unit → Shared → Prop} (q : Q () s) :
    wpAny M A (checkBuiltinCall "BaseException.__getattribute__" ⟨[.ref x, nameV], []⟩) Q E s :=
  @check_slot M A E s "BaseException.__getattribute__" "BaseException" "__getattribute__" (.ref x) [nameV] [] Q (by decide +kernel) (by decide +kernel) (I.type.andThen (looks_mroIn X c.base)) (PySem.F.args_bexc_ga (.ref x) nameV) q

/-- x.name by BaseException's own way, where the object has it itself -/
theorem xget {expr : Bool} {v : Value} {Q : Value → Shared → Prop} (X : K.In s.heap) (c : XCls K C bm newId) (I : PySem.W.InstAt s.heap x ox C od)
    (hf : findObj K C od name = some (.value v)) (hh : handedIn v = true) (h : Q v { s with toks := s.toks + 1 }) : wpAny (model prog w) A (getAttr (.ref x) name expr) Q E s := by
  obtain ⟨hh', g, d, t, os⟩ := s
  have T0 := I.type (M := model prog w)
  have T1 := looks_findIn (M := model prog w) X c.ga
  have T2 := looks_findIn (M := model prog w) X c.gh
  have T3 := looks_find (M := model prog w) X I hf
  have hx2 : (Value.builtin "BaseException.__getattribute__" == Value.builtin "object.__getattribute__") = false := by decide +kernel
  have hx0 : (expr && onTheHeap (Value.builtin "BaseException.__getattribute__")) = false := by cases expr <;> rfl
  unfold getAttr getAttrBy
  refine wpAny_bind (wpAny_mkText (wpAny_holding (wpAny_bind (T0.at (wpAny_bind (T1.at ?_))))))
  dsimp only
  rw [hx2, Bool.and_false, if_neg (by decide)]
  unfold getAttrByItsOwn hookBefore onTheHeap
  refine wpAny_bind ?_
  dsimp only
  rw [if_pos rfl]
  refine T2.at (wpAny_bind (wpAny_attempt (wpAny_holding ?_)))
  unfold callGetattribute boundAndCalled
  rw [hx0, if_neg (by decide)]
  rw [PySem.F.attr_ValueError.ga.bind]
  refine wpAny_bind (wpAny_pure ?_)
  refine wpAny_call (codeAny_call_builtin PySem.F.attr_ValueError.ga.plain PySem.F.entry_bexc_ga (xga_check (s := ⟨hh', g, d, t + 1, os⟩) X c I ?_))
  unfold Builtin.«object.__getattribute__»
  refine wpAny_bind (wpAny_pure (wpAny_bind (wpAny_pure (wpAny_bind (T0.at (wpAny_bind (T3.at ?_)))))))
  refine wpAny_pure ?_
  show wpAny _ _ (handedOut v) _ _ _
  rw [handedOut_of hh]
  exact wpAny_pure h

/-- x.__class__, found through object's own descriptor -/
theorem xclass {Q : Option Value → Shared → Prop} (hn : specialIn K (.builtin "object.__class__") "__get__" = some (some (.builtin "getset_descriptor.__get__"))) (htk : takesIn K (.builtin "object.__class__") = some true)
    (X : K.In s.heap) (c : XCls K C bm newId) (I : PySem.W.InstAt s.heap x ox C od) (h : Q (some (.ref C)) { s with toks := s.toks + 1 }) : wpAny (model prog w) A (getAttr? (.ref x) "__class__") Q E s := by
  have hf : findObj K C od "__class__" = some (.bind (.builtin "getset_descriptor.__get__") (.builtin "object.__class__")) := by
    obtain ⟨cd, hc, _⟩ := any_some c.hd
    unfold findObj
    rw [hc, Option.bind_some, c.cl, Option.bind_some]
    simp [hn, htk]
  obtain ⟨hh', g, d, t, os⟩ := s
  have T0 := I.type (M := model prog w)
  have T1 := looks_findIn (M := model prog w) X c.ga
  have T2 := looks_findIn (M := model prog w) X c.gh
  have T3 := looks_find (M := model prog w) X I hf
  have hx2 : (Value.builtin "BaseException.__getattribute__" == Value.builtin "object.__getattribute__") = false := by decide +kernel
  unfold getAttr? getAttrBy? getAttrBy
  refine wpAny_bind (wpAny_mkText (wpAny_bind (wpAny_attempt (wpAny_holding (wpAny_bind (T0.at (wpAny_bind (T1.at ?_))))))))
  dsimp only
  rw [hx2, Bool.and_false, if_neg (by decide)]
  unfold getAttrByItsOwn hookBefore onTheHeap
  refine wpAny_bind ?_
  dsimp only
  rw [if_pos rfl]
  refine T2.at (wpAny_bind (wpAny_attempt (wpAny_holding ?_)))
  unfold callGetattribute boundAndCalled
  rw [Bool.false_and, if_neg (by decide)]
  rw [PySem.F.attr_ValueError.ga.bind]
  refine wpAny_bind (wpAny_pure ?_)
  refine wpAny_call (codeAny_call_builtin PySem.F.attr_ValueError.ga.plain PySem.F.entry_bexc_ga (xga_check (s := ⟨hh', g, d, t + 1, os⟩) X c I ?_))
  unfold Builtin.«object.__getattribute__»
  refine wpAny_bind (wpAny_pure (wpAny_bind (wpAny_pure (wpAny_bind (T0.at (wpAny_bind (T3.at ?_)))))))
  show wpAny _ _ (holding [_] (call (.builtin "getset_descriptor.__get__") [.builtin "object.__class__", .ref x, .ref C]) >>= ret) _ _ _
  refine wpAny_bind (wpAny_holding (wpAny_call (class_get (s := ⟨hh', g, d, t + 1, os⟩) X I c.top (wpAny_pure ?_))))
  show wpAny _ _ (handedOut (.ref C)) _ _ _
  exact wpAny_pure (wpAny_pure h)

theorem kitx_exc (hn : specialIn K (.builtin "object.__class__") "__get__" = some (some (.builtin "getset_descriptor.__get__"))) (htk : takesIn K (.builtin "object.__class__") = some true) (c : XCls K C bm newId) :
    KitX K (.ref x) (.ref C) (fun h => PySem.W.InstAt h x ox C od) where
  ty := fun _ _ _ I => I.type
  it := fun _ _ X _ => by
    obtain ⟨nm, q, N, bs, sn, sub, ab, col, dd, k0, k1, k2, k3, k5, ho⟩ := c.obj
    intro A' Q' E' s' k q
    unfold isType loadHead
    exact wpAny_bind (wpAny_loadPart (k _ _ (X _ _ ho)) (wpAny_pure q))
  ne := fun h tp dd its n sl X htp => by
    obtain ⟨nm, q, N, bs, sn, sub, ab, col, dd, k0, k1, k2, k3, k5, ho⟩ := c.obj
    refine Bool.eq_false_iff.mpr fun q => ?_
    have e : C = tp := Value.ref.inj (beq_iff_eq.mp q)
    subst e
    have z := congrArg Obj.cls (Option.some.inj ((X _ _ ho).symm.trans htp))
    exact absurd (Value.type.inj z) (by decide)
  ca := fun X I k => xclass hn htk X c I k

/-- storing: up to the dict -/
theorem xosa {R : Result → Shared → Prop} {tk : Tok} {v : Value} (X : K.In s.heap) (c : XCls K C bm newId) (I : PySem.W.InstAt s.heap x ox C od) (hna : findIn K (.ref C) name = some none)
    (h : wpAny (model prog w) A.in1 (Builtin.ObjectAttr.storeInOwnDict (.ref x) (.ref C) (.str name tk) name v false)
      (fun fin s' => match fin with | .done f => R (.ok f) s' | .again c' => c'.quiet = true ∧ codeAny (model prog w) A c' R s') (fun e s' => R (.error e) s') s) :
    codeAny (model prog w) A (.call (.builtin "object.__setattr__") ⟨[.ref x, .str name tk, v], []⟩) R s := by
  have SF := PySem.F.store_object
  obtain ⟨nm, q, N, bs, sn, sub, ab, col, dd, k0, k1, k2, k3, k5, ho⟩ := c.obj
  have sub : Looks (model prog w) s.heap (isInstance (.ref x) (.type "object")) true := I.type.andThen (looks_mroIn X c.top)
  have hm : Looks (model prog w) s.heap (mroOf (.ref C)) (.ref C :: bm) := (looks_clsIn X (cd := _) (by unfold clsIn; rw [ho])).andThen .now
  refine codeAny_call_builtin SF.slot.plain SF.entry (@check_slot (model prog w) _ _ s "object.__setattr__" "object" "__setattr__" (.ref x) [.str name tk, v] [] _ SF.kind SF.split sub (SF.args (.ref x) (.str name tk) v) ?_)
  rw [osa_eq, refuse_eq]
  refine wpAny_bind (wpAny_bind (I.type.here (wpAny_bind (hm.here ?_))))
  rw [refuseLoop_ref, c.pass]
  exact wpAny_pure (wpAny_bind (I.type.here (wpAny_bind ((looks_findIn X hna).here (wpAny_bind (wpAny_pure h))))))

/-- the first store: a new dict is laid -/
theorem xset0 {v : Value} {vs : Array Value} {Q : Unit → Shared → Prop} (X : K.In s.heap) (c : XCls K C bm newId) (hx : s.heap.get? x = some { cls := .ref C, data := .fields vs }) (hna : findIn K (.ref C) name = some none)
    (h : ∀ h', h'.Ns1 s.heap.objs.size (fun y => if y = name then some v else none) →
      Heap.SameBut s.heap.objs.size ((s.heap.push PySem.W.emptyDict).update x fun o => { o with dict := some s.heap.objs.size }) h' → ∀ tk, Q () { s with heap := h', toks := tk }) :
    wpAny (model prog w) A (setAttr (.ref x) name v) Q E s := by
  have I : PySem.W.InstAt s.heap x { cls := .ref C, data := .fields vs } C none := ⟨hx, rfl, rfl, True.intro⟩
  refine set_plain X I c.sa (xosa (s := { s with toks := s.toks + 1 }) X c I hna ?_)
  obtain ⟨nm, q, N, bs, sn, sub, ab, col, dd, k0, k1, k2, k3, k5, ho⟩ := c.obj
  unfold Builtin.ObjectAttr.storeInOwnDict
  refine wpAny_bind (wpAny_pure (wpAny_bind ?_))
  show wpAny _ _ (instanceDict x true) _ _ _
  unfold instanceDict
  refine wpAny_bind (wpAny_loadPart (s := { s with toks := s.toks + 1 }) hx ?_)
  dsimp only
  refine wpAny_bind (Looks.here (s := { s with toks := s.toks + 1 }) (looks_clsIn X (show clsIn K C = some _ by unfold clsIn; rw [ho])) ?_)
  dsimp only
  rw [if_neg (by decide), if_neg (by simp [typeHasDict])]
  refine wpAny_bind (wpAny_alloc' ?_)
  have hx1 : (s.heap.push PySem.W.emptyDict).get? x = some { cls := .ref C, data := .fields vs } := Heap.get?_push_of_some _ hx
  have hxs : x ≠ s.heap.objs.size := Nat.ne_of_lt (Heap.lt_size hx)
  refine wpAny_bind (wpAny_update' hx1 (wpAny_pure ?_))
  dsimp only
  unfold Builtin.ObjectAttr.storeInDict Builtin.ObjectAttr.newKeyGuard
  have hgd : ((s.heap.push PySem.W.emptyDict).update x fun o => { o with dict := some s.heap.objs.size }).get? s.heap.objs.size = some PySem.W.emptyDict :=
    (Heap.get?_update_ne _ _ _ _ hxs.symm).trans (Heap.get?_push_size _ rfl)
  have hnd : ((s.heap.push PySem.W.emptyDict).update x fun o => { o with dict := some s.heap.objs.size }).Ns s.heap.objs.size (fun _ => none) :=
    ⟨_, #[], _, hgd, rfl, (fun e he => absurd he (by simp)), fun _ => rfl⟩
  refine wpAny_bind (wpAny_pure (wpAny_bind (wpAny_nsSet1 (s := { s with heap := ((s.heap.push PySem.W.emptyDict).update x fun o => { o with dict := some s.heap.objs.size }), toks := s.toks + 1 }) (Heap.Ns1.of_empty hnd) fun h' hn' hs => ?_)))
  obtain ⟨oD, esD, epD, hoD, hdD, hcD⟩ := hn'.count (Within.cons name v Within.nil)
  refine wpAny_bind (wpAny_lookBehind hoD (by rw [hdD]; exact pastItsLine_dict (Nat.le_trans hcD (by rw [List.length_cons, List.length_nil, sizeLine_eq]; omega))) ?_)
  exact wpAny_pure (h h' hn' hs _)

/-- a later store: the dict is there -/
theorem xset1 {v : Value} {vs : Array Value} {dx : Addr} {mA : Str → Option Value} {ns : List Str} {Q : Unit → Shared → Prop} (X : K.In s.heap) (c : XCls K C bm newId) (hx : s.heap.get? x = some { cls := .ref C, dict := some dx, data := .fields vs })
    (hA : s.heap.Ns1 dx mA) (hw : Within mA ns) (hsz : ns.length ≤ sizeLine - 1) (hna : findIn K (.ref C) name = some none)
    (h : ∀ h', h'.Ns1 dx (fun y => if y = name then some v else mA y) → Heap.SameBut dx s.heap h' → ∀ tk, Q () { s with heap := h', toks := tk }) :
    wpAny (model prog w) A (setAttr (.ref x) name v) Q E s := by
  obtain ⟨o1, e1, _⟩ := lookIn_ns hA
  have I : PySem.W.InstAt s.heap x { cls := .ref C, dict := some dx, data := .fields vs } C (some o1) := ⟨hx, rfl, rfl, e1⟩
  refine set_plain X I c.sa (xosa (s := { s with toks := s.toks + 1 }) X c I hna ?_)
  obtain ⟨nm, q, N, bs, sn, sub, ab, col, dd, k0, k1, k2, k3, k5, ho⟩ := c.obj
  unfold Builtin.ObjectAttr.storeInOwnDict
  refine wpAny_bind (wpAny_pure (wpAny_bind ?_))
  show wpAny _ _ (instanceDict x true) _ _ _
  unfold instanceDict
  refine wpAny_bind (wpAny_loadPart (s := { s with toks := s.toks + 1 }) hx ?_)
  dsimp only
  refine wpAny_bind (Looks.here (s := { s with toks := s.toks + 1 }) (looks_clsIn X (show clsIn K C = some _ by unfold clsIn; rw [ho])) ?_)
  dsimp only
  rw [if_neg (by decide)]
  refine wpAny_pure (a := some dx) ?_
  dsimp only
  unfold Builtin.ObjectAttr.storeInDict Builtin.ObjectAttr.newKeyGuard
  refine wpAny_bind (wpAny_pure (wpAny_bind (wpAny_nsSet1 (s := { s with toks := s.toks + 1 }) hA fun h' hn' hs => ?_)))
  obtain ⟨oD, esD, epD, hoD, hdD, hcD⟩ := hn'.count (Within.cons name v hw)
  refine wpAny_bind (wpAny_lookBehind hoD (by rw [hdD]; exact pastItsLine_dict (Nat.le_trans hcD (by rw [List.length_cons]; omega))) ?_)
  exact wpAny_pure (h h' hn' hs _)
end
end L2

namespace L2
open PySem PySem.Spec PyProof.Rows PySem.W

/-- an exception's object; r: nothing has been raised with it yet -/
def XObj (r : Bool) (C x : Addr) (d : Option Addr) : HO := .ext fun h => ∃ vs, h.get? x = some { cls := .ref C, dict := d, data := .fields vs } ∧ (r = true → vs[1]? = some .none)
def XDict (dx : Addr) (fs : List (Str × V)) : HO := .ext fun h => ∃ mA, h.Ns1 dx mA ∧ (∀ f, RelO (fs.lookup f) (mA f)) ∧ Within mA (fs.map (·.1))

section
variable {P : Program} {w : World} {H : Hp} {h : Heap} {C x dx : Addr} {d : Option Addr} {fs : List (Str × V)} {r : Bool}
theorem xobj_ok {vs : Array Value} (e : h.get? x = some { cls := .ref C, dict := d, data := .fields vs }) (z : r = true → vs[1]? = some .none) : ObjOk P w H h x (XObj r C x d) :=
  ⟨⟨vs, e, z⟩, ⟨_, e⟩, fun h1 h2 ⟨ws, q, z⟩ k => ⟨ws, k _ q, z⟩⟩
theorem xdict_ok {mA : Str → Option Value} (n : h.Ns1 dx mA) (r : ∀ f, RelO (fs.lookup f) (mA f)) (wi : Within mA (fs.map (·.1))) : ObjOk P w H h dx (XDict dx fs) :=
  ⟨⟨mA, n, r, wi⟩, (let ⟨o, _, _, e, _⟩ := n; ⟨o, e⟩), fun h1 h2 ⟨mB, ⟨o, es, ep, e, c⟩, r2⟩ k => ⟨mB, ⟨o, es, ep, k _ e, c⟩, r2⟩⟩
theorem xobj_get (hok : HOk P w H h) (e : H x = some (XObj r C x d)) : ∃ vs, h.get? x = some { cls := .ref C, dict := d, data := .fields vs } ∧ (r = true → vs[1]? = some .none) := (show ObjOk P w H h x (XObj r C x d) from hok x _ e).1
theorem xdict_get (hok : HOk P w H h) (e : H dx = some (XDict dx fs)) : ∃ mA, h.Ns1 dx mA ∧ (∀ f, RelO (fs.lookup f) (mA f)) ∧ Within mA (fs.map (·.1)) := (show ObjOk P w H h dx (XDict dx fs) from hok dx _ e).1
end

/-- an exception of class C stands at x, with its attributes -/
def IsX (r : Bool) (H : Hp) (x C : Addr) (fs : List (Str × V)) : Prop :=
  (fs = [] ∧ H x = some (XObj r C x none)) ∨ ∃ dx, H x = some (XObj r C x (some dx)) ∧ H dx = some (XDict dx fs)
section
variable {r : Bool} {X : Cx} {pins : List (Addr × Obj)} {σ : St} {H : Hp} {s : Shared} {x C : Addr} {bm : List Value} {nid : String} {fs : List (Str × V)} {f : Str} {v : V} {A : Around} {E : Value → Shared → Prop}

theorem IsX.inst (I : Inv X pins σ H s) (q : IsX r H x C fs) : ∃ ox od, PySem.W.InstAt s.heap x ox C od := by
  rcases q with ⟨rfl, e⟩ | ⟨dx, e, e2⟩
  · obtain ⟨vs, h, _⟩ := xobj_get I.hok e
    exact ⟨_, none, h, rfl, rfl, True.intro⟩
  · obtain ⟨vs, h, _⟩ := xobj_get I.hok e
    obtain ⟨mA, n, _⟩ := xdict_get I.hok e2
    obtain ⟨o1, e1, _⟩ := lookIn_ns n
    exact ⟨_, some o1, h, rfl, rfl, e1⟩

theorem xget_ok {b : Bool} {Q : Value → Shared → Prop} (I : Inv X pins σ H s) (q : IsX r H x C fs) (c : XCls X.K C bm nid) (n : NoAttr X.K C f) (l : fs.lookup f = some v)
    (h : ∀ u s', Inv X pins σ H s' → RelV v u → Q u s') : wpAny (model X.prog X.w) A (getAttr (.ref x) f b) Q E s := by
  rcases q with ⟨rfl, e⟩ | ⟨dx, e, e2⟩
  · cases l
  · obtain ⟨vs, hx, hz⟩ := xobj_get I.hok e
    obtain ⟨mA, nn, rr, _⟩ := xdict_get I.hok e2
    obtain ⟨o1, e1, hl⟩ := lookIn_ns nn
    obtain ⟨u, hu, ru⟩ := RelO.some_of (v := v) (o := mA f) (by rw [← l]; exact rr f)
    refine xget I.kIn c (od := some o1) ⟨hx, rfl, rfl, e1⟩ (findObj_own c.hd n rfl (by rw [hl, hu])) (handed_of ru) (h u _ (I.tok _) ru)

theorem xset0_ok {y : V} {u : Value} {Q : Unit → Shared → Prop} (I : Inv X pins σ H s) (e : H x = some (XObj r C x none)) (c : XCls X.K C bm nid) (n : NoAttr X.K C f) (ry : RelV y u)
    (h : ∀ dx H' s', H dx = none → H' x = some (XObj r C x (some dx)) → H' dx = some (XDict dx [(f, y)]) → (∀ b, b ≠ x → b ≠ dx → H' b = H b) → Inv X pins σ H' s' → Q () s') :
    wpAny (model X.prog X.w) A (setAttr (.ref x) f u) Q E s := by
  obtain ⟨vs, hx, hz⟩ := xobj_get I.hok e
  refine xset0 I.kIn c hx n fun h' hn sb tk => ?_
  have hf : H s.heap.objs.size = none := I.hok.fresh (Nat.le_refl _)
  have nx : x ≠ s.heap.objs.size := ne_of_none e hf
  have e0 : (s.heap.push PySem.W.emptyDict).get? s.heap.objs.size = some PySem.W.emptyDict := Heap.get?_push_size s.heap rfl
  have n0 : (s.heap.push PySem.W.emptyDict).Ns s.heap.objs.size (fun _ => none) := ⟨PySem.W.emptyDict, #[], _, e0, rfl, (fun e he => absurd he (by simp)), fun _ => rfl⟩
  have I1 := I.laid (a := s.heap.objs.size) (o := XDict s.heap.objs.size []) (h' := s.heap.push PySem.W.emptyDict) (t' := s.toks) (fun b u q => Heap.get?_push_of_some _ q) (Nat.le_refl _)
    (xdict_ok (Heap.Ns1.of_empty n0) (fun _ => True.intro) fun y hy => absurd rfl hy)
  have hx1 : (s.heap.push PySem.W.emptyDict).get? x = some { cls := .ref C, data := .fields vs } := Heap.get?_push_of_some _ hx
  have hx2 : ((s.heap.push PySem.W.emptyDict).update x fun o => { o with dict := some s.heap.objs.size }).get? x = some { cls := .ref C, dict := some s.heap.objs.size, data := .fields vs } :=
    Heap.get?_update_self _ hx1 rfl
  have I2 := I1.write (x := x) (e := x) (o := XObj r C x (some s.heap.objs.size)) (h' := (s.heap.push PySem.W.emptyDict).update x fun o => { o with dict := some s.heap.objs.size }) (t' := s.toks)
    (by rw [upd_ne nx, e]; exact True.intro) (.inl rfl) (fun b q hb z => (Heap.get?_update_ne _ _ _ _ hb).trans z) ⟨_, hx2⟩ (xobj_ok hx2 hz)
  have hd : ∃ o, h'.get? s.heap.objs.size = some o := let ⟨o, _, _, e', _⟩ := hn; ⟨o, e'⟩
  have I3 := I2.write (x := s.heap.objs.size) (e := s.heap.objs.size) (o := XDict s.heap.objs.size [(f, y)]) (h' := h') (t' := tk)
    (by rw [upd_ne nx.symm, upd_same]; exact True.intro) (.inl rfl) (fun b q hb z => (sb.2 b hb).trans z) hd
    (xdict_ok hn (fun g => by
      show RelO (([(f, y)] : List (Str × V)).lookup g) (if g = f then some u else none)
      by_cases q : g = f
      · subst q; rw [if_pos rfl]; simp only [List.lookup, beq_self_eq_true]; exact ry
      · rw [if_neg q]; simp only [List.lookup, beq_false_of_ne q]; exact True.intro)
      fun g hg => by
        by_cases q : g = f
        · subst q; exact .head _
        · exact absurd (if_neg q) hg)
  refine h s.heap.objs.size _ _ hf ?_ ?_ ?_ I3
  · rw [upd_ne nx, upd_same]
  · rw [upd_same]
  · intro b h1 h2
    rw [upd_ne h2, upd_ne h1, upd_ne h2]

theorem xset1_ok {y : V} {u : Value} {dx : Addr} {Q : Unit → Shared → Prop} (I : Inv X pins σ H s) (e : H x = some (XObj r C x (some dx))) (e2 : H dx = some (XDict dx fs)) (c : XCls X.K C bm nid) (n : NoAttr X.K C f) (hl : fs.length < 100) (ry : RelV y u)
    (h : ∀ s', Inv X pins σ (upd H dx (XDict dx (putF f y fs))) s' → Q () s') : wpAny (model X.prog X.w) A (setAttr (.ref x) f u) Q E s := by
  obtain ⟨vs, hx, hz⟩ := xobj_get I.hok e
  obtain ⟨mA, nn, rr, wi⟩ := xdict_get I.hok e2
  refine xset1 I.kIn c hx nn wi (by rw [List.length_map, sizeLine_eq]; omega) n fun h' hn sb tk => h _ ?_
  have hd : ∃ o, h'.get? dx = some o := let ⟨o, _, _, e', _⟩ := hn; ⟨o, e'⟩
  refine I.write (x := dx) (e := dx) (by rw [e2]; exact True.intro) (.inl rfl) (fun b q hb z => (sb.2 b hb).trans z) hd (xdict_ok hn (fun g => ?_) fun g hg => ?_)
  · show RelO ((putF f y fs).lookup g) (if g = f then some u else mA g)
    rw [lookup_putF]
    by_cases q : g = f
    · rw [if_pos q, if_pos q]; exact ry
    · rw [if_neg q, if_neg q]; exact rr g
  · by_cases q : g = f
    · rw [q]; exact (keys_putF f y fs).1
    · refine (keys_putF f y fs).2 g (wi g fun z => hg ?_)
      show (if g = f then some u else mA g) = none
      rw [if_neg q]; exact z

/-- isinstance(x, c) for one class -/
theorem xisinst {c : Value} {b : Bool} {Q : Value → Shared → Prop} (hn : specialIn X.K (.builtin "object.__class__") "__get__" = some (some (.builtin "getset_descriptor.__get__"))) (htk : takesIn X.K (.builtin "object.__class__") = some true)
    (I : Inv X pins σ H s) (q : IsX r H x C fs) (k : XCls X.K C bm nid) (e : kitOne X.K (.ref C) c = some b) (h : ∀ tk, Q (.bool b) { s with toks := tk }) :
    wpAny (model X.prog X.w) A (call (.builtin "isinstance") [.ref x, c]) Q E s := by
  obtain ⟨ox, od, J⟩ := q.inst I
  exact kia_one (kitx_exc hn htk k) I.kIn J e (fun z => nomatch z) h
end

/-! ### rules -/
def tXFld (K : Frag) (ta : TE) (f : Str) : TE := fun σ H Q => ta σ H fun x H1 => ∃ r a C bm nid fs v, x = .ref a ∧ IsX r H1 a C fs ∧ XCls K C bm nid ∧ NoAttr K C f ∧ fs.lookup f = some v ∧ Q v H1
def sXF0 (K : Frag) (ta tv : TE) (f : Str) : TS := fun D σ H => tv σ H fun y H1 => ta σ H1 fun x H2 => ∃ r a C bm nid, x = .ref a ∧ H2 a = some (XObj r C a none) ∧ XCls K C bm nid ∧ NoAttr K C f ∧
  ∀ dx H', H2 dx = none → H' a = some (XObj r C a (some dx)) → H' dx = some (XDict dx [(f, y)]) → (∀ b, b ≠ a → b ≠ dx → H' b = H2 b) → D.nx σ H'
def sXF1 (K : Frag) (ta tv : TE) (f : Str) : TS := fun D σ H => tv σ H fun y H1 => ta σ H1 fun x H2 => ∃ r a C bm nid dx fs, x = .ref a ∧ H2 a = some (XObj r C a (some dx)) ∧ H2 dx = some (XDict dx fs) ∧ XCls K C bm nid ∧ NoAttr K C f ∧
  fs.length < 100 ∧ D.nx σ (upd H2 dx (XDict dx (putF f y fs)))
section
variable {X : Cx} {e o value : Expr} {ta tv : TE} {f : Str} {pos pos' : Pos}
theorem pe_xfld (he : PE X e ta) (hb : attributeBase e f X.env (eval e X.env) = eval e X.env) : PE X (.Attribute e f pos) (tXFld X.K ta f) := by
  intro pins s σ H Q I h
  refine attr_of hb (thn (he pins s σ H _ I h) fun u s1 ⟨x, H1, I1, rx, r, a, C, bm, nid, fs, v, ex, ea, c, n, l, q⟩ => ?_)
  subst ex
  obtain rfl : u = Value.ref a := rx
  exact xget_ok I1 ea c n l fun u' s2 I2 ru => ⟨v, H1, I2, ru, q⟩
theorem ps_xf0 (ha : PE X o ta) (hv : PE X value tv) (hs : swapsWith value (some (.Attribute o f pos')) pos.line X.env = pure false) : PS X (.Assign [.Attribute o f pos'] value pos) (sXF0 X.K ta tv f) := by
  intro pins s σ H D I h
  refine plainObj_wpAny_Assign_Attribute (thn (hv pins s σ H _ I h) fun u s1 ⟨y, H1, I1, ry, q⟩ => thn (ha pins s1 σ H1 _ I1 q) fun ov s2 ⟨x, H2, I2, rx, r, a, C, bm, nid, ex, ea, c, n, q2⟩ => ?_) hs
  subst ex
  obtain rfl : ov = Value.ref a := rx
  exact xset0_ok I2 ea c n ry fun dx H' s3 h1 h2 h3 h4 I3 => ⟨σ, _, I3, q2 dx H' h1 h2 h3 h4⟩
theorem ps_xf1 (ha : PE X o ta) (hv : PE X value tv) (hs : swapsWith value (some (.Attribute o f pos')) pos.line X.env = pure false) : PS X (.Assign [.Attribute o f pos'] value pos) (sXF1 X.K ta tv f) := by
  intro pins s σ H D I h
  refine plainObj_wpAny_Assign_Attribute (thn (hv pins s σ H _ I h) fun u s1 ⟨y, H1, I1, ry, q⟩ => thn (ha pins s1 σ H1 _ I1 q) fun ov s2 ⟨x, H2, I2, rx, r, a, C, bm, nid, dx, fs, ex, ea, eb, c, n, l, q2⟩ => ?_) hs
  subst ex
  obtain rfl : ov = Value.ref a := rx
  exact xset1_ok I2 ea eb c n l ry fun s3 I3 => ⟨σ, _, I3, q2⟩
end
end L2

namespace L2
open PySem PySem.Spec PyProof.Rows PySem.W

/-- the object as BaseException.__new__ lays it -/
abbrev rawExc (C t : Addr) : Obj := { cls := .ref C, data := .fields #[.ref t, .none, .none, .none, .bool false, .none] }
abbrev argTup (us : List Value) : Obj := { cls := .type "tuple", data := .seq us.toArray }

section
variable {prog : Program} {w : World} {A : Around} {E : Value → Shared → Prop} {h : Heap} {g : Array GenState} {d : Drawn} {t : Nat} {os : OsState}
variable {nm q : Str} {C N : Addr} {bs bm bmN : List Value} {sn : List Str} {sub : List Value} {ab : Bool} {col : Option Bool} {dd : Option Addr} {k0 k1 k2 k3 k5 : Option Value} {Bn newId inN : String} {us : List Value}

theorem xnew_check {M : Model} {Q : Unit → Shared → Prop} (Fn : ExcBaseFacts Bn newId inN bmN) (hBn : bm.contains (.type Bn) = true)
    (hC : h.get? C = some (excClassObj nm q C N bs bm true sn sub ab col dd k0 k1 k2 k3 k5 newId)) (hq : Q () ⟨h, g, d, t, os⟩) :
    wpAny M A (checkBuiltinCall newId ⟨.ref C :: us, []⟩) Q E ⟨h, g, d, t, os⟩ := by
  have z1 : (Value.ref C :: bm).contains (.type Bn) = true := by rw [List.contains_cons, hBn, Bool.or_true]
  have z2 := Fn.noStar
  simp only [checkBuiltinCall, Fn.newKind, Fn.newSplit, Fn.newRow]
  repeat (first
    | refine wpAny_loadPart_at hC ?_
    | (refine wpAny_isSubtype_exc hC ?_; rw [z1])
    | refine wpAny_staticBase_exc hC ?_
    | refine wpAny_madeBy_exc hC ?_
    | simp only [bne_self_eq_false, Bool.false_eq_true, if_false]
    | wp_step)
  exact hq

theorem xnew_code {R : Result → Shared → Prop} (Fn : ExcBaseFacts Bn newId inN bmN) (hBn : bm.contains (.type Bn) = true) (hA : bm.contains (.type "AttributeError") = false) (hN : bm.contains (.type "NameError") = false)
    (hC : h.get? C = some (excClassObj nm q C N bs bm true sn sub ab col dd k0 k1 k2 k3 k5 newId)) (hl : us.length ≤ sizeLine)
    (hq : R (.ok (.ret (.ref (h.objs.size + 1)))) ⟨(h.push (argTup us)).push (rawExc C h.objs.size), g, d, t, os⟩) :
    codeAny (model prog w) A (.builtin newId ⟨.ref C :: us, []⟩) R ⟨h, g, d, t, os⟩ := by
  have z0 := Fn.ends
  have z1 : (Value.ref C :: bm).contains (.type Bn) = true := by rw [List.contains_cons, hBn, Bool.or_true]
  have z2 : (Value.ref C :: bm).contains (.type "AttributeError") = false := by rw [List.contains_cons, hA]; rfl
  have z3 : (Value.ref C :: bm).contains (.type "NameError") = false := by rw [List.contains_cons, hN]; rfl
  have hrest : us.length ≤ sizeLine := hl
  refine codeAny_builtinAt Fn.entry ?_
  unfold Builtin.«BaseException.__new__»
  refine PySem.wpAt_bind ?_
  show PySem.wpAt _ _ _ (stack >>= _) _ _ _
  refine PySem.wpAt_bind (PySem.wpAt_stack fun p below => PySem.wpAt_of_wpAny ?_)
  wp_walk
  refine PySem.wpAt_of_wpAny ?_
  rw [Fn.owner]
  repeat (first
    | with_reducible refine wpAny_madeHere_exc Fn.canon hC ?_
    | with_reducible refine wpAny_loadPart_at hC ?_
    | (with_reducible refine wpAny_isSubtype_exc hC ?_; first | rw [z1] | rw [z2] | rw [z3])
    | wp_step)
  show R _ _
  rw [Heap.size_push]
  exact hq

theorem raw_keep {b : Addr} {o : Obj} (e : h.get? b = some o) : ((h.push (argTup us)).push (rawExc C h.objs.size)).get? b = some o := Heap.get?_push_of_some _ (Heap.get?_push_of_some _ e)
theorem raw_at : ((h.push (argTup us)).push (rawExc C h.objs.size)).get? (h.objs.size + 1) = some (rawExc C h.objs.size) := by
  have := Heap.get?_push_size (h.push (argTup us)) (o := rawExc C h.objs.size) rfl
  rwa [Heap.size_push] at this

/-- C(us): a class whose __init__ is a plain def -/
theorem xcall_init {K : Frag} {f : Addr} {Q : Value → Shared → Prop} (X : K.In h) (Fn : ExcBaseFacts Bn newId inN bmN) (hBn : bm.contains (.type Bn) = true) (hA : bm.contains (.type "AttributeError") = false) (hN : bm.contains (.type "NameError") = false)
    (c : XCls K C bm newId) (hi : findIn K (.ref C) "__init__" = some (some (.ref f))) (hf : isFn K (.ref f) = true) (hl : us.length ≤ sizeLine)
    (hq : wpAny (model prog w) (A.under (.builtin "type.__call__" ⟨.ref C :: us, []⟩)) (call (.ref f) (.ref (h.objs.size + 1) :: us)) (fun r s' => r = .none ∧ Q (.ref (h.objs.size + 1)) s') E
      ⟨(h.push (argTup us)).push (rawExc C h.objs.size), g, d, t, os⟩) :
    wpAny (model prog w) A (call (.ref C) us) Q E ⟨h, g, d, t, os⟩ := by
  obtain ⟨nm, q, N, bs, sn, sub, ab, col, dd, k0, k1, k2, k3, k5, ho⟩ := c.obj
  have hC := X _ _ ho
  have f1 := tc_lookup
  have f2 := tc_bind (.ref C)
  have hT : (⟨h, g, d, t, os⟩ : Shared).TypeIs (.ref C) "type" := ⟨_, hC, rfl⟩
  refine wpAny_call (codeAny_of_tree ?_)
  show wpAny _ _ (callAny (.ref C) _) _ _ _
  repeat (any_goals (first | assumption | with_reducible refine wpAny_loadPart_at hC ?_ | wp_step))
  refine ⟨rfl, ?_⟩
  refine codeAny_call_builtin_at (Code.quiet_builtin _ (by decide +kernel)) entry_typeCall (wpAny_check_type_call_sub hC ?_)
  repeat (first | with_reducible refine wpAny_loadPart_at hC ?_ | with_reducible refine wpAny_madeBy_exc hC ?_ | wp_step)
  refine codeAny_call_builtin_code (Code.quiet_builtin _ Fn.quiet) (xnew_check Fn hBn hC ?_)
  refine xnew_code (us := us) Fn hBn hA hN hC hl ?_
  show wpAny _ _ _ _ _ ⟨(h.push (argTup us)).push (rawExc C h.objs.size), g, d, t, os⟩
  have X1 : K.In ((h.push (argTup us)).push (rawExc C h.objs.size)) := X.keeps fun b o e => raw_keep e
  have hC1 := raw_keep (us := us) (C := C) hC
  have hcC : (Value.ref C :: bm).contains (.ref C) = true := by simp
  unfold isInstance
  repeat (first | (with_reducible refine wpAny_loadPart_at raw_at ?_; dsimp only) | (with_reducible refine wpAny_isSubtype_exc hC1 ?_; rw [hcC]) | wp_step)
  show wpAny _ _ (typeLookup (.ref C) _) _ _ _
  refine Looks.here (s := ⟨(h.push (argTup us)).push (rawExc C h.objs.size), g, d, t, os⟩) (looks_findIn X1 hi) ?_
  refine wpAny_holding (wpAny_bind (Looks.here (s := ⟨(h.push (argTup us)).push (rawExc C h.objs.size), g, d, t, os⟩) (bind_fn X1 _ (beq_iff_eq.mp hf)) ?_))
  refine wpAny_bind (wpAny_mono hq (fun r s' z => ?_) fun _ _ z => z)
  obtain ⟨rfl, z2⟩ := z
  wp_walk
  exact z2

/-- C(us): a class with no __init__ of its own -/
theorem xcall_plain {K : Frag} {inId : String} {Q : Value → Shared → Prop} (X : K.In h) (F : ExcBaseFacts Bn newId inId bm) (c : XCls K C bm newId) (hi : findIn K (.ref C) "__init__" = some (some (.builtin inId))) (hl : us.length ≤ sizeLine)
    (hq : ∀ h' vs, (∀ b o, h.get? b = some o → h'.get? b = some o) → h'.get? (h.objs.size + 1) = some { cls := .ref C, data := .fields vs } → vs[1]? = some .none → Q (.ref (h.objs.size + 1)) ⟨h', g, d, t, os⟩) :
    wpAny (model prog w) A (call (.ref C) us) Q E ⟨h, g, d, t, os⟩ := by
  obtain ⟨nm, q, N, bs, sn, sub, ab, col, dd, k0, k1, k2, k3, k5, ho⟩ := c.obj
  have hC := X _ _ ho
  have f1 := tc_lookup
  have f2 := tc_bind (.ref C)
  have hT : (⟨h, g, d, t, os⟩ : Shared).TypeIs (.ref C) "type" := ⟨_, hC, rfl⟩
  refine wpAny_call (codeAny_of_tree ?_)
  show wpAny _ _ (callAny (.ref C) _) _ _ _
  repeat (any_goals (first | assumption | with_reducible refine wpAny_loadPart_at hC ?_ | wp_step))
  refine ⟨rfl, ?_⟩
  refine codeAny_call_builtin_at (Code.quiet_builtin _ (by decide +kernel)) entry_typeCall (wpAny_check_type_call_sub hC ?_)
  repeat (first | with_reducible refine wpAny_loadPart_at hC ?_ | with_reducible refine wpAny_madeBy_exc hC ?_ | wp_step)
  refine codeAny_call_builtin_code (Code.quiet_builtin _ F.quiet) (xnew_check F F.hasB hC ?_)
  refine xnew_code (us := us) F F.hasB F.noAttr F.noName hC hl ?_
  show wpAny _ _ _ _ _ ⟨(h.push (argTup us)).push (rawExc C h.objs.size), g, d, t, os⟩
  have X1 : K.In ((h.push (argTup us)).push (rawExc C h.objs.size)) := X.keeps fun b o e => raw_keep e
  have hC1 := raw_keep (us := us) (C := C) hC
  have hcC : (Value.ref C :: bm).contains (.ref C) = true := by simp
  unfold isInstance
  repeat (first | (with_reducible refine wpAny_loadPart_at raw_at ?_; dsimp only) | (with_reducible refine wpAny_isSubtype_exc hC1 ?_; rw [hcC]) | wp_step)
  show wpAny _ _ (typeLookup (.ref C) _) _ _ _
  refine Looks.here (s := ⟨(h.push (argTup us)).push (rawExc C h.objs.size), g, d, t, os⟩) (looks_findIn X1 hi) ?_
  refine wpAny_holding (wpAny_bind (wpAny_of_eq (F.init.bind _) ?_))
  refine wpAny_bind (wpAny_call (codeAny_call_builtin F.init.plain F.initEntry (wpAny_check_init_sub F hC1 raw_at rfl ?_)))
  have hrest : ([].append us : List Value).length ≤ sizeLine := hl
  have raw2 := raw_at (h := h) (us := us) (C := C)
  wp_walk
  refine hq _ #[.ref (h.objs.size + 2), .none, .none, .none, .bool false, .none] (fun b o e => ?_) ?_ rfl
  · rw [Heap.get?_update_other _ _ (Nat.ne_of_gt (Nat.lt_succ_of_lt (Heap.lt_size e)))]
    exact Heap.get?_push_of_some _ (raw_keep e)
  · rw [Heap.get?_update_self _ (Heap.get?_push_of_some _ raw_at) rfl]
    simp only [Heap.size_push]
    rfl
end
end L2

namespace L2
open PySem PySem.Spec PyProof.Rows PySem.W

/-- what an exception class of one's own must have -/
structure XMk (K : Frag) (C : Addr) (bm : List Value) (Bn newId inN : String) (bmN : List Value) : Prop where
  fn : ExcBaseFacts Bn newId inN bmN
  hB : bm.contains (.type Bn) = true
  hA : bm.contains (.type "AttributeError") = false
  hN : bm.contains (.type "NameError") = false
  c : XCls K C bm newId
  kp : keepIn K (.ref C) = true

/-- the promise of such an __init__: it stores what it is given under these names -/
def spXI (C : Addr) (names : List Str) : Sp := fun vs H Q _ => ∃ (x : Addr) (ws : List V), vs = .ref x :: ws ∧ ws.length = names.length ∧ H x = some (XObj true C x none) ∧
  ∀ (dx : Addr) (H' : Hp), H dx = none → H' x = some (XObj true C x (some dx)) → H' dx = some (XDict dx (names.zip ws)) → (∀ b, b ≠ x → b ≠ dx → H' b = H b) → Q .non H'

/-- a new exception: its own dict is new too -/
def NewX (H H' : Hp) (x C : Addr) (fs : List (Str × V)) : Prop :=
  (fs = [] ∧ H' x = some (XObj true C x none)) ∨ ∃ dx, H dx = none ∧ dx ≠ x ∧ H' x = some (XObj true C x (some dx)) ∧ H' dx = some (XDict dx fs)
def tXMake (C : Addr) (names : List Str) (t : TA) : TE := fun σ H Q => t σ H fun vs H1 => vs.length = names.length ∧ vs.length ≤ 100 ∧ ∀ (x : Addr) (H' : Hp), H1 x = none → NewX H1 H' x C (names.zip vs) → Same H1 H' → Q (.ref x) H'

section
variable {X : Cx} {C f : Addr} {bm bmN : List Value} {Bn nid inN : String} {fd : FuncData} {ps names : List Str} {k : Nat} {x : Str} {e : Expr} {es : List Expr} {t : TA} {p pos : Pos}

theorem run_xmake {pins : List (Addr × Obj)} {σ : St} {H : Hp} {s : Shared} {Q : VK} {us : List Value} {vs : List V} (M : XMk X.K C bm Bn nid inN bmN) (hi : findIn X.K (.ref C) "__init__" = some (some (.ref f))) (hf : isFn X.K (.ref f) = true)
    (F : FnOk X.prog X.w X.K X.mg X.base CX0 k f fd ps (spXI C names)) (hr : Room (k + 1) X.A) (hb : Binds X.K fd ps []) (I : Inv X pins σ H s) (r : Vals vs us)
    (hl : vs.length = names.length) (h1 : vs.length ≤ 100) (h : ∀ (x : Addr) (H' : Hp), H x = none → NewX H H' x C (names.zip vs) → Same H H' → Q (.ref x) H') :
    wpAny (model X.prog X.w) X.A (call (.ref C) us) (EP X pins σ Q) X.xe s := by
  have hlu : us.length ≤ sizeLine := by rw [← r.length, sizeLine_eq]; omega
  have fx : H (s.heap.objs.size + 1) = none := I.hok.fresh (Nat.le_succ _)
  have I2 := I.laid (a := s.heap.objs.size + 1) (o := XObj true C (s.heap.objs.size + 1) none) (h' := (s.heap.push (argTup us)).push (rawExc C s.heap.objs.size)) (t' := s.toks) (fun b u q => raw_keep q) (Nat.le_succ _) (xobj_ok raw_at fun _ => rfl)
  have r2 : Vals (V.ref (s.heap.objs.size + 1) :: (vs ++ [])) (Value.ref (s.heap.objs.size + 1) :: (us ++ [])) := .cons rfl (by rw [List.append_nil, List.append_nil]; exact r)
  have hq : spXI C names (.ref (s.heap.objs.size + 1) :: (vs ++ [])) (upd H (s.heap.objs.size + 1) (XObj true C (s.heap.objs.size + 1) none)) (fun v H2 => v = .non ∧ Q (.ref (s.heap.objs.size + 1)) H2) E0 := by
    refine ⟨_, vs, by rw [List.append_nil], hl, upd_same, fun dx H' n1 n2 n3 n4 => ⟨rfl, h _ H' fx (.inr ⟨dx, by rw [← n1, upd_ne (fun q => by rw [q, upd_same] at n1; cases n1)], (fun q => by rw [q, upd_same] at n1; cases n1), n2, n3⟩) fun b o z => ?_⟩⟩
    have b1 : b ≠ s.heap.objs.size + 1 := ne_of_none z fx
    have b2 : b ≠ dx := fun q => by subst q; rw [upd_ne b1, z] at n1; cases n1
    rw [n4 b b1 b2, upd_ne b1]
    exact z
  have hln : (Value.ref (s.heap.objs.size + 1) :: us ++ []).length = ps.length := by
    have e := r2.length
    rw [F.len _ _ _ _ hq] at e
    exact e.symm
  have hbb := hb _ (Value.ref (s.heap.objs.size + 1) :: us) I2.kIn hln
  rw [show (Value.ref (s.heap.objs.size + 1) :: us ++ []) = Value.ref (s.heap.objs.size + 1) :: (us ++ []) from rfl] at hbb
  obtain ⟨hh, gg, dd, tt, oo⟩ := s
  refine xcall_init I.kIn M.fn M.hB M.hA M.hN M.c hi hf hlu (wpAny_call (codeAny_mono (F.run _ X.stack _ _ ⟨Value.ref (hh.objs.size + 1) :: us, []⟩ (Value.ref (hh.objs.size + 1) :: (us ++ [])) _ _ E0 (hr.make C us [])
    (I2.env0.make C us []) hbb r2 hq) fun r s' hq' => ?_))
  cases r with
  | error e => exact (hq' : False).elim
  | ok fl =>
    cases fl with
    | ret u =>
      obtain ⟨v, H', I3, rv, ev, q3⟩ := I2.after hq'
      subst ev
      exact ⟨rv, ⟨V.ref (hh.objs.size + 1), H', I3, rfl, q3⟩⟩
    | next => exact False.elim hq'
    | brk => exact False.elim hq'
    | cont => exact False.elim hq'

theorem pe_xmake (M : XMk X.K C bm Bn nid inN bmN) (hi : findIn X.K (.ref C) "__init__" = some (some (.ref f))) (hf : isFn X.K (.ref f) = true) (F : FnOk X.prog X.w X.K X.mg X.base CX0 k f fd ps (spXI C names)) (hr : Room (k + 1) X.A)
    (hg : Gl X x) (hm : X.mg x = some (.ref C)) (hb : Binds X.K fd ps []) (ha : PA X (e :: es) t) (hdb : (x == ("__debug__" : Str)) = false := by decide)
    (he : starEach (e :: es) X.env = (false, eval e X.env) :: starEach es X.env := by rfl) (hpl : (backTo pos (starEach es X.env)).any (·.1) = false := by rfl) :
    PE X (.Call (.Name x p) (e :: es) [] pos) (tXMake C names t) := by
  intro pins s σ H Q I h
  refine wpAny_Call_Name_kw (ld_glob I hg hm ?_ hdb)
  refine PySem.W.callWith_K (h₀ := X.base) I.ok.mod.kin M.kp (thn (ha pos pins s σ H _ I h) fun us s1 ⟨vs, H1, I1, r, q1, q2, q3⟩ => ⟨I1.kIn, ?_⟩) he hpl
  exact run_xmake M hi hf F hr hb I1 r q1 q2 q3

/-- C() of a class with no __init__ of its own -/
theorem pe_xmake0 {inId : String} (M : XMk X.K C bm Bn nid inId bm) (hi : findIn X.K (.ref C) "__init__" = some (some (.builtin inId))) (hg : Gl X x) (hm : X.mg x = some (.ref C)) (hdb : (x == ("__debug__" : Str)) = false := by decide) :
    PE X (.Call (.Name x p) [] [] pos) (tXMake C [] tNil) := by
  intro pins s σ H Q I h
  obtain ⟨_, _, h⟩ := h
  refine wpAny_Call_Name_kw (ld_glob I hg hm ?_ hdb)
  refine PySem.W.callWith_K0 I.kIn M.kp ?_
  have fx : H (s.heap.objs.size + 1) = none := I.hok.fresh (Nat.le_succ _)
  have kin := I.kIn
  obtain ⟨hh, gg, dd, tt, oo⟩ := s
  refine xcall_plain (us := []) kin M.fn M.c hi (Nat.zero_le _) fun h' vs kp at_ z1 => ?_
  refine ⟨V.ref (hh.objs.size + 1), _, I.laid (a := hh.objs.size + 1) (o := XObj true C (hh.objs.size + 1) none) (h' := h') (t' := tt) kp (Nat.le_succ _) (xobj_ok at_ fun _ => z1), rfl, h _ _ fx (.inl ⟨rfl, upd_same⟩) fun b o z => ?_⟩
  rw [upd_ne (ne_of_none z fx)]
  exact z
end
end L2

namespace L2
open PySem PySem.Spec PyProof.Rows PySem.W PySem.SeqAt

/-! ### what repr shows -/
section
variable {X : Cx} {pins : List (Addr × Obj)} {σ : St} {H : Hp} {s : Shared}
/-! ### two lists of truths -/
end
end L2

namespace L2
open PySem PySem.Spec PyProof.Rows PySem.W PySem.SeqAt

/-! ### [x op z for x in range(n)], z a cell of the def -/
theorem HOk.gone {P : Program} {w : World} {H : Hp} {h : Heap} {a : Addr} (ok : HOk P w H h) (e : h.get? a = none) : H a = none := by
  cases q : H a with
  | none => rfl
  | some u =>
    exfalso
    have x := ok a u q
    have : ∃ o, h.get? a = some o := by
      clear q
      induction u with
      | lst xs => obtain ⟨_, _, _, _, e⟩ := x; exact ⟨_, e⟩
      | tup xs => obtain ⟨_, _, _, o, p, _⟩ := x; exact ⟨_, p⟩
      | dK kvs => obtain ⟨_, _, _, _, o, _, _, e, _⟩ := x; exact ⟨_, e⟩
      | dT kvs => obtain ⟨_, _, _, _, o, _, _, e, _⟩ := x; exact ⟨_, e⟩
      | set S n => obtain ⟨o, _, _, _, e, _⟩ := x; exact ⟨_, e⟩
      | ins C dx fs => obtain ⟨_, _, _, e, _⟩ := x; exact ⟨_, e⟩
      | own y => exact x
      | xd fs => obtain ⟨_, ⟨_, _, _, e, _⟩, _⟩ := x; exact ⟨_, e⟩
      | rng lo hi => obtain ⟨_, _, _, e⟩ := x; exact ⟨_, e⟩
      | frz ob u => obtain ⟨e, _⟩ := x; exact ⟨_, e⟩
      | tbl ps => exact ⟨_, (show h.get? a = some _ from x)⟩
      | met f y => exact ⟨_, (show h.get? a = some _ from x)⟩
      | ext φ => exact x.2.1
    obtain ⟨o, z⟩ := this
    rw [e] at z; cases z
section
variable {X : Cx} {pins : List (Addr × Obj)} {σ : St} {H : Hp} {s : Shared} {h' : Heap}
end

section
variable {X : Cx}
end

end L2

namespace L2
open PySem PySem.Spec PyProof.Rows PySem.W
theorem same_upd {H : Hp} {p : Addr} {o : HO} (f : H p = none) : Same H (upd H p o) := fun b u e => by rw [upd_ne (ne_of_none e f)]; exact e
theorem OpR.weak {X : Cx} {f : Value → Value → Sem Value} {r r' : R2} (h : OpR X f r) (g : ∀ x y H Q, r' x y H Q → r x y H Q) : OpR X f r' := fun pins s σ H x y v u Q I a b q => h pins s σ H x y v u Q I a b (g x y H Q q)
/-- a new object: the heap behind it by what it keeps -/
def NewO (H : Hp) (o : HO) (Q : VK) : Prop := ∀ (p : Addr) (H' : Hp), H p = none → H' p = some o → Same H H' → Q (.ref p) H'
theorem NewO.upd {H : Hp} {o : HO} {Q : VK} (h : NewO H o Q) (p : Addr) (f : H p = none) : Q (.ref p) (upd H p o) := h p _ f upd_same (same_upd f)
def tLstS (t : TA) : TE := fun σ H Q => t σ H fun xs H1 => xs.length ≤ sizeLine ∧ NewO H1 (.lst xs) Q
def tTupS (t : TA) : TE := fun σ H Q => t σ H fun xs H1 => xs.length ≤ sizeLine ∧ NewO H1 (.tup xs) Q
theorem pe_lstS {X : Cx} {es : List Expr} {t : TA} {pos : Pos} (h : PA X es t) : PE X (.List es pos) (tLstS t) := by
  intro pins s σ H Q I hq
  refine wpAny_List_spliced (thn (h pos pins s σ H _ I hq) fun us s1 ⟨xs, H1, I1, r, z, q⟩ => ⟨(by rw [← r.length]; exact z), ?_⟩)
  have hf : H1 s1.heap.objs.size = none := I1.hok.fresh (Nat.le_refl _)
  exact ⟨.ref s1.heap.objs.size, _, I1.laid (o := .lst xs) (t' := s1.toks) (fun b u e => Heap.get?_push_of_some _ e) (Nat.le_refl _) ⟨z, us, 0, r, Heap.get?_push_size _ rfl⟩, rfl, q.upd _ hf⟩
theorem pe_tupS {X : Cx} {es : List Expr} {t : TA} {pos : Pos} {x1} (h : PA X es t) : PE X (.Tuple es x1 pos) (tTupS t) := by
  intro pins s σ H Q I hq
  refine wpAny_Tuple_spliced (thn (h pos pins s σ H _ I hq) fun us s1 ⟨xs, H1, I1, r, z, q⟩ => ⟨(by rw [← r.length]; exact z), ?_⟩)
  have hf : H1 s1.heap.objs.size = none := I1.hok.fresh (Nat.le_refl _)
  exact ⟨.ref s1.heap.objs.size, _, I1.laid (o := .tup xs) (t' := s1.toks) (fun b u e => Heap.get?_push_of_some _ e) (Nat.le_refl _) ⟨z, us, r, ⟨_, Heap.get?_push_size _ rfl, rfl, _, rfl⟩⟩, rfl, q.upd _ hf⟩
def rCatS : R2 := fun x y H Q => ∃ (l b : Addr) (xs zs : List V), x = .ref l ∧ y = .ref b ∧ H l = some (.lst xs) ∧ H b = some (.lst zs) ∧ xs.length + zs.length ≤ sizeLine ∧ NewO H (.lst (xs ++ zs)) Q
theorem op_catS {X : Cx} : OpR X (binaryOp .Add) rCatS := op_cat.weak fun _ _ _ _ ⟨l, b, xs, zs, h1, h2, h3, h4, h5, q⟩ => ⟨l, b, xs, zs, h1, h2, h3, h4, h5, q.upd⟩
def rSlS (K : Frag) : V → Option Int → Option Int → Hp → VK → Prop := fun x lo hi H Q => ∃ a xs, x = .ref a ∧ SqL K H a xs ∧ NewO H (.lst (cutV xs lo hi)) Q
theorem sl_listS {X : Cx} : SlR X (rSlS X.K) := by
  intro pins s σ H x v vl vu lo hi sl Q I rx hs pl pu h
  obtain ⟨a, xs, h1, h2, q⟩ := h
  exact sl_list pins s σ H x v vl vu lo hi sl Q I rx hs pl pu ⟨a, xs, h1, h2, q.upd⟩

/-! ### which of two classes -/
section
variable {K : Frag} {C D : Addr} {bm bm2 : List Value} {n1 n2 : String}
theorem XCls.clsIn {K : Frag} {C : Addr} {bm : List Value} {newId : String} (c : XCls K C bm newId) : ∃ cd, PySem.W.clsIn K C = some cd ∧ cd.mro = .ref C :: bm := by
  obtain ⟨nm, q, N, bs, sn, sub, ab, col, dd, k0, k1, k2, k3, k5, h⟩ := c.obj
  refine ⟨_, by unfold PySem.W.clsIn; rw [h], rfl⟩
theorem XCls.mro (c : XCls K C bm n1) (v : Value) : mroIn K C v = some ((Value.ref C :: bm).contains v) := by
  obtain ⟨cd, h1, h2⟩ := c.clsIn
  unfold mroIn
  rw [h1, Option.bind_some, h2]
  rfl
theorem kit_type (c : XCls K C bm n1) {T : String} (hm : kitMeta T = true) : kitOne K (.ref C) (.type T) = some (bm.contains (.type T)) := by
  unfold kitOne
  rw [if_neg (by simp)]
  unfold kitCls
  dsimp only
  rw [if_pos hm]
  show mroIn K C _ = _
  rw [c.mro, List.contains_cons]
  rfl
end
end L2

namespace L2
open PySem PySem.Spec PyProof.Rows PySem.W
/-- isinstance(x, C) of an exception and a class, own or built in -/
theorem call_isX {X : Cx} (hn : specialIn X.K (.builtin "object.__class__") "__get__" = some (some (.builtin "getset_descriptor.__get__"))) (htk : takesIn X.K (.builtin "object.__class__") = some true) :
    CallR X (.builtin "isinstance") (fun vs H Q => ∃ r x C bm nid fs c cv b, vs = [.ref x, c] ∧ RelV c cv ∧ IsX r H x C fs ∧ XCls X.K C bm nid ∧ kitOne X.K (.ref C) cv = some b ∧ Q (.bl b) H) := by
  intro pins s σ H xs us Q I r h
  obtain ⟨rr, x, C, bm, nid, fs, c, cv, b, rfl, rc, hx, hC, hk, q⟩ := h
  obtain ⟨u, w', rfl, ru, rw'⟩ := vals2 r
  cases (show u = Value.ref x from ru)
  have e : w' = cv := by
    cases c with
    | ref a => exact (show w' = Value.ref a from rw').trans (show cv = Value.ref a from rc).symm
    | ty n => exact (show w' = Value.type n from rw').trans (show cv = Value.type n from rc).symm
    | non => exact (show w' = Value.none from rw').trans (show cv = Value.none from rc).symm
    | bl b => exact (show w' = Value.bool b from rw').trans (show cv = Value.bool b from rc).symm
    | int i =>
      obtain ⟨t, rfl⟩ := rc
      unfold kitOne at hk
      rw [if_neg (by simp)] at hk
      cases hk
    | str i =>
      obtain ⟨t, rfl⟩ := rc
      unfold kitOne at hk
      rw [if_neg (by simp)] at hk
      cases hk
    | byt i =>
      obtain ⟨t, rfl⟩ := rc
      unfold kitOne at hk
      rw [if_neg (by simp)] at hk
      cases hk
    | flt i =>
      obtain ⟨t, rfl⟩ := rc
      unfold kitOne at hk
      rw [if_neg (by simp)] at hk
      cases hk
  subst e
  exact xisinst hn htk I hx hC hk fun tk => ⟨.bl b, H, I.tok _, rfl, q⟩
end L2

namespace L2
open PySem PySem.Spec PyProof.Rows PySem.W

/-! ### an exception's trace -/
def Tr (h : Heap) (x T : Addr) (fl : Value) : Prop := ∃ oe vs oT ts, h.get? x = some oe ∧ oe.data = .fields vs ∧ vs[1]? = some (.ref T) ∧ T ≠ x ∧ h.get? T = some oT ∧ oT.data = .fields ts ∧ ts[3]? = some fl
def NoTr (h : Heap) (x : Addr) : Prop := ∃ oe vs, h.get? x = some oe ∧ oe.data = .fields vs ∧ vs[1]? = some .none

/-- what noting does to the heap: x, the trace T0, the slots of the frames -/
structure Note (fs : List Addr) (x : Addr) (T0 : Option Addr) (h h' : Heap) : Prop where
  other : ∀ b o, h.get? b = some o → b ≠ x → T0 ≠ some b → b ∉ fs → h'.get? b = some o
  slot : ∀ b o, h.get? b = some o → b ≠ x → T0 ≠ some b → ∃ sl, h'.get? b = some { o with slots := sl }
  exc : ∀ oe vs, h.get? x = some oe → oe.data = .fields vs → ∃ vs', h'.get? x = some { oe with data := .fields vs' }
  tb : ∀ t o, T0 = some t → h.get? t = some o → ∃ o', h'.get? t = some o'

theorem mapf {o : Obj} {vs : Array Value} (hd : o.data = .fields vs) (f : Array Value → Array Value) : Obj.mapFields f o = { o with data := .fields (f vs) } := by
  obtain ⟨c, d, dt, sl⟩ := o
  cases hd
  rfl

section
variable {M : Model} {A : Around} {E : Value → Shared → Prop} {s : Shared}

theorem entry_new {base : Heap} {env : Env} {outer : List Env} {L e : Addr} {oe : Obj} {vs : Array Value} {head : Value} {hadNext : Bool} {Q : Unit → Shared → Prop}
    (hfr : A.frames = some (env :: outer)) (hl : s.heap.FunFrames base (env :: outer)) (hf : env.frame = some L)
    (he : s.heap.get? e = some oe) (hd : oe.data = .fields vs) (hsz : 1 < vs.size)
    (h : ∀ h' T, Note ((env :: outer).filterMap (·.frame)) e none s.heap h' → s.heap.get? T = none → Tr h' e T (rawInt L) → Q () { s with heap := h' }) :
    wpAny M A (do let a ← frameOf env; let pl ← entryPlaceOf L hadNext; let b ← EntryCells.newEntry head a .none (rawInt L) .none pl; setField (.ref e) 1 b) Q E s := by
  have hene : e ∉ (env :: outer).filterMap (·.frame) := fun hm => by
    obtain ⟨_, o, ho, hnf⟩ := hl.mem hm
    rw [he] at ho; injection ho with ho; subst ho; exact hnf vs hd
  refine wpAny_bind (wpAny_frameOf_fun hfr hl hf fun h₁ hs₁ => ?_)
  refine wpAny_bind (wpAny_entryPlaceOf fun pl hpl => ?_)
  unfold EntryCells.newEntry newFields
  refine wpAny_bind (wpAny_newObj_type ?_ (hpl.sizeOk5 _ _ _ _ _))
  have he₁ : h₁.get? e = some oe := (hs₁.2.1 e hene).trans he
  have he₂ := Heap.get?_push_of_some (h := h₁) { cls := .type "traceback", dict := none, data := .fields ([head, .ref L, .none, rawInt L, .none] ++ (if pl.isEmpty then List.replicate 6 Value.none else pl)).toArray } he₁
  have hTe : h₁.objs.size ≠ e := Nat.ne_of_gt (Heap.lt_size he₁)
  have hd₃ := Obj.data_mapFields hd (·.setIfInBounds 1 (Value.ref h₁.objs.size))
  have he₃ := Heap.get?_update_self (Obj.mapFields (·.setIfInBounds 1 (Value.ref h₁.objs.size))) he₂ (Obj.isFreed_of_fields hd₃)
  have hT₃ := (Heap.get?_update_other (h₁.push { cls := .type "traceback", dict := none, data := .fields ([head, .ref L, .none, rawInt L, .none] ++ (if pl.isEmpty then List.replicate 6 Value.none else pl)).toArray })
    (Obj.mapFields (·.setIfInBounds 1 (Value.ref h₁.objs.size))) (Ne.symm hTe)).trans (Heap.get?_push_size h₁ rfl)
  have keep : ∀ b o, b ≠ e → h₁.get? b = some o →
      ((h₁.push { cls := .type "traceback", dict := none, data := .fields ([head, .ref L, .none, rawInt L, .none] ++ (if pl.isEmpty then List.replicate 6 Value.none else pl)).toArray }).update e (Obj.mapFields (·.setIfInBounds 1 (Value.ref h₁.objs.size)))).get? b = some o :=
    fun b o hbe hb => by
      rw [Heap.get?_update_other _ _ (Ne.symm hbe)]
      exact Heap.get?_push_of_some _ hb
  refine wpAny_setField he₂ hd hsz (h _ h₁.objs.size ⟨fun b o hb hbe _ hn => keep b o hbe ((hs₁.2.1 b hn).trans hb), fun b o hb hbe _ => ?_, fun oe' vs' e1 e2 => ?_, fun t o z => nomatch z⟩ ?_ ?_)
  · obtain ⟨sl, hsl⟩ := hs₁.2.2 b o hb
    exact ⟨sl, keep b _ hbe hsl⟩
  · rw [he] at e1; cases e1
    rw [mapf hd] at he₃
    exact ⟨_, he₃⟩
  · exact Heap.get?_none_of_le (by rw [hs₁.1]; exact Nat.le_refl _)
  · exact ⟨_, _, _, _, he₃, hd₃, by simp [hsz], hTe, hT₃, rfl, by first | (simp; done) | (rcases hpl with rfl | ⟨_, _, _, _, _, _, _, rfl⟩ <;> simp)⟩

theorem note_first {base : Heap} {env : Env} {outer : List Env} {L x : Addr} {Q : Unit → Shared → Prop}
    (hfr : A.frames = some (env :: outer)) (hl : s.heap.FunFrames base (env :: outer)) (hf : env.frame = some L) (hx : NoTr s.heap x)
    (h : ∀ h' T, Note ((env :: outer).filterMap (·.frame)) x none s.heap h' → s.heap.get? T = none → Tr h' x T (rawInt L) → Q () { s with heap := h' }) : wpAny M A (noteFrame (.ref x) env) Q E s := by
  obtain ⟨oe, vs, he, hd, h1⟩ := hx
  unfold noteFrame
  simp only [hf]
  refine wpAny_bind (wpAny_field he hd h1 ?_)
  rw [if_neg (by decide)]
  exact entry_new hfr hl hf he hd (Array.getElem?_eq_some_iff.mp h1).1 h

theorem note_next {base : Heap} {env : Env} {outer : List Env} {L x T0 : Addr} {Q : Unit → Shared → Prop}
    (hfr : A.frames = some (env :: outer)) (hl : s.heap.FunFrames base (env :: outer)) (hf : env.frame = some L) (hx : Tr s.heap x T0 .none)
    (h : ∀ h' T, Note ((env :: outer).filterMap (·.frame)) x (some T0) s.heap h' → s.heap.get? T = none → Tr h' x T (rawInt L) → Q () { s with heap := h' }) : wpAny M A (noteFrame (.ref x) env) Q E s := by
  obtain ⟨oe, vs, oT, ts, he, hd, h1, hTe, hT, hdT, h3⟩ := hx
  unfold noteFrame
  simp only [hf]
  refine wpAny_bind (wpAny_field he hd h1 ?_)
  rw [if_pos (show (Value.ref T0 != Value.none) = true from by simp)]
  refine wpAny_bind (wpAny_field hT hdT h3 ?_)
  rw [if_neg (show ¬ ((Value.none == rawInt L) = true) from by simp [rawInt])]
  refine wpAny_bind (wpAny_setField hT hdT (Array.getElem?_eq_some_iff.mp h3).1 ?_)
  have other : ∀ b, b ≠ T0 → (s.heap.update T0 (Obj.mapFields (·.setIfInBounds 3 Value.none))).get? b = s.heap.get? b := fun b hb => Heap.get?_update_other _ _ (Ne.symm hb)
  have noRecord : ∀ b o, s.heap.get? b = some o → (∀ vs, o.data ≠ .fields vs) → b ≠ T0 := fun b o hb hnf q => by
    rw [q, hT] at hb; injection hb with hb; subst hb; exact hnf ts hdT
  have nT : ∀ b, (some T0 : Option Addr) ≠ some b → b ≠ T0 := fun b z q => z (by rw [q])
  have hT' := Heap.get?_update_self (Obj.mapFields (·.setIfInBounds 3 Value.none)) hT (Obj.isFreed_of_fields (Obj.data_mapFields hdT _))
  have hl' : (s.heap.update T0 (Obj.mapFields (·.setIfInBounds 3 Value.none))).FunFrames base (env :: outer) := hl.of_keeps fun b o hb hnf => ⟨o, (other b (noRecord b o hb hnf)).trans hb, rfl⟩
  refine entry_new (s := { s with heap := s.heap.update T0 (Obj.mapFields (·.setIfInBounds 3 Value.none)) }) hfr hl' hf ((other x (Ne.symm hTe)).trans he) hd (Array.getElem?_eq_some_iff.mp h1).1 fun h' T N hn ht => h h' T ⟨?_, ?_, ?_, ?_⟩ ?_ ht
  · exact fun b o hb h1 h2 h3 => N.other b o ((other b (nT b h2)).trans hb) h1 (fun z => nomatch z) h3
  · exact fun b o hb h1 h2 => N.slot b o ((other b (nT b h2)).trans hb) h1 (fun z => nomatch z)
  · exact fun oe' vs' e1 e2 => N.exc oe' vs' ((other x (Ne.symm hTe)).trans e1) e2
  · intro t o e1 e2
    obtain rfl : T0 = t := Option.some.inj e1
    obtain ⟨sl, q⟩ := N.slot T0 _ hT' hTe (fun z => nomatch z)
    exact ⟨_, q⟩
  · by_cases q : T = T0
    · rw [q] at hn
      rw [hT'] at hn; cases hn
    · rw [← other T q]; exact hn

theorem flight_none {x T : Addr} {fl : Value} {Q : Unit → Shared → Prop} (hx : Tr s.heap x T fl) (h : ∀ h', Note [] x (some T) s.heap h' → Tr h' x T .none → (∀ b, s.heap.get? b = none → h'.get? b = none) → Q () { s with heap := h' }) : wpAny M A (setFlight (.ref x) none) Q E s := by
  obtain ⟨oe, vs, oT, ts, he, hd, h1, hTe, hT, hdT, h3⟩ := hx
  have hsz3 : 3 < ts.size := (Array.getElem?_eq_some_iff.mp h3).1
  unfold setFlight
  refine wpAny_bind (wpAny_field he hd h1 ?_)
  rw [if_pos (show (Value.ref T != Value.none) = true from by simp)]
  have other : ∀ b, b ≠ T → (s.heap.update T (Obj.mapFields (·.setIfInBounds 3 ((none : Option Addr).elim Value.none fun f => rawInt f)))).get? b = s.heap.get? b :=
    fun b hb => Heap.get?_update_other _ _ (Ne.symm hb)
  have nT : ∀ b, (some T : Option Addr) ≠ some b → b ≠ T := fun b z q => z (by rw [q])
  have hT' := Heap.get?_update_self (Obj.mapFields (·.setIfInBounds 3 ((none : Option Addr).elim Value.none fun f => rawInt f))) hT (Obj.isFreed_of_fields (Obj.data_mapFields hdT _))
  refine wpAny_setField hT hdT hsz3 (h _ ⟨?_, ?_, ?_, ?_⟩ ?_ ?_)
  · exact fun b o hb h1 h2 _ => (other b (nT b h2)).trans hb
  · exact fun b o hb h1 h2 => ⟨o.slots, (other b (nT b h2)).trans hb⟩
  · exact fun oe' vs' e1 e2 => ⟨vs', by rw [other x (Ne.symm hTe), e1, ← e2]⟩
  · intro t o e1 e2
    obtain rfl : T = t := Option.some.inj e1
    exact ⟨_, hT'⟩
  · exact ⟨oe, vs, _, _, (other x (Ne.symm hTe)).trans he, hd, h1, hTe, hT', Obj.data_mapFields hdT _, by simp [hsz3]⟩
  · intro b hb
    rw [other b (fun q => by rw [q, hT] at hb; cases hb)]
    exact hb
theorem flight_fresh {x : Addr} {fr : Option Addr} {Q : Unit → Shared → Prop} (hx : NoTr s.heap x) (h : Q () s) : wpAny M A (setFlight (.ref x) fr) Q E s := by
  obtain ⟨oe, vs, he, hd, h1⟩ := hx
  unfold setFlight
  refine wpAny_bind (wpAny_field he hd h1 ?_)
  rw [if_neg (by decide)]
  exact wpAny_pure h
end
end L2

namespace L2
open PySem PySem.Spec PyProof.Rows PySem.W

theorem upd_id {H : Hp} {x : Addr} {o : HO} (h : H x = some o) : upd H x o = H := by
  funext b
  by_cases q : b = x
  · subst q; rw [upd_same, h]
  · rw [upd_ne q]

section
variable {X : Cx} {pins : List (Addr × Obj)} {σ : St} {H : Hp} {s : Shared} {x C : Addr} {d : Option Addr} {r : Bool} {h' : Heap} {fs : List Addr} {T0 : Option Addr}

theorem Inv.noted (I : Inv X pins σ H s) (hx : H x = some (XObj r C x d))
    (hT : ∀ t, T0 = some t → H t = none ∧ (t ∉ X.ex → X.s₀.heap.get? t = none) ∧ (∀ p ∈ X.pn ++ pins, p.1 ≠ t) ∧ ∃ o ts, s.heap.get? t = some o ∧ o.data = .fields ts)
    (hfs : ∀ b ∈ fs, b ∈ frs X.stack) (N : Note fs x T0 s.heap h') : Inv X pins σ (upd H x (XObj false C x d)) { s with heap := h' } := by
  obtain ⟨vs, hg, _⟩ := xobj_get I.hok hx
  have nx : ∀ b, H b = none → b ≠ x := fun b q z => by rw [z, hx] at q; cases q
  have nt : ∀ b o, s.heap.get? b = some o → (∀ vs, o.data ≠ .fields vs) → T0 ≠ some b := fun b o q1 q2 z => by
    obtain ⟨_, _, _, o', ts, e1, e2⟩ := hT b z
    rw [q1] at e1; cases e1
    exact q2 _ e2
  have data : ∀ b o, s.heap.get? b = some o → H b = none → (∀ vs, o.data ≠ .fields vs) → ∃ sl, h'.get? b = some { o with slots := sl } := fun b o q1 q2 q3 => N.slot b o q1 (nx b q2) (nt b o q1 q3)
  have cells : ∀ c v, H c = none → s.heap.IsCell c v → h'.IsCell c v := fun c v q1 q2 => by
    obtain ⟨o, e1, e2⟩ := q2
    obtain ⟨sl, e3⟩ := data c o e1 q1 (fun vs z => by rw [e2] at z; cases z)
    exact ⟨_, e3, e2⟩
  have nst : ∀ b, b < X.s₀.heap.objs.size → b ∉ X.fs → b ∉ fs := fun b q1 q2 z => by
    rcases List.mem_cons.mp (I.stkSub b (hfs b z)) with e | e
    · exact absurd q1 (by rw [e]; exact Nat.not_lt.mpr I.ok.above)
    · exact q2 e
  refine ⟨I.ok, I.os, I.bare, ⟨?_, ?_, ?_, ?_, ?_, ?_, ?_⟩, ?_, ?_, ?_, ?_, ?_, ?_, I.len⟩
  · intro b o e1 e2 e3 e4
    have hb := I.base.keep b o e1 e2 e3 e4
    have hn := I.base.free b o e1 e2 e4
    refine N.other b o hb (nx b hn) (fun z => ?_) (nst b (Heap.lt_size e1) e3)
    have := (hT b z).2.1 e4
    rw [e1] at this; cases this
  · intro b o e1 e2 e3 e4
    obtain ⟨sl, hb⟩ := I.base.slot b o e1 e2 e3 e4
    have hn := I.base.free b o e1 e2 e4
    obtain ⟨sl2, hb2⟩ := N.slot b _ hb (nx b hn) (fun z => by have := (hT b z).2.1 e4; rw [e1] at this; cases this)
    exact ⟨sl2, hb2⟩
  · intro b o e1 e2 e4
    have hn := I.base.free b o e1 e2 e4
    rw [upd_ne (nx b hn)]; exact hn
  · intro b o e1 e4
    obtain ⟨o', hb⟩ := I.base.there b o e1 e4
    by_cases q : b = x
    · subst q
      obtain ⟨vs', z⟩ := N.exc _ _ hg rfl
      exact ⟨_, z⟩
    · by_cases qt : T0 = some b
      · exact N.tb b o' qt hb
      · obtain ⟨sl, z⟩ := N.slot b o' hb q qt
        exact ⟨_, z⟩
  · intro b xs e1
    have := I.base.tups b xs e1
    rw [upd_ne (ne_of this hx (fun z => nomatch z))]; exact this
  · intro b o u e1
    have := I.base.frzs b o u e1
    rw [upd_ne (ne_of this hx (fun z => nomatch z))]; exact this
  · intro b ps e1
    obtain ⟨more, this⟩ := I.base.tbls b ps e1
    exact ⟨more, by rw [upd_ne (ne_of this hx (fun z => nomatch z))]; exact this⟩
  · obtain ⟨m, ⟨o, es, ep, e1, e2, e3⟩, hl⟩ := I.loc
    obtain ⟨sl, q⟩ := data X.env.locals o e1 I.free (fun vs z => by rw [e2] at z; cases z)
    refine ⟨m, ⟨_, es, ep, q, e2, e3⟩, fun i y v h1 h2 h3 => ?_⟩
    obtain ⟨u, ru, lu⟩ := hl i y v h1 h2 h3
    refine ⟨u, ru, ?_⟩
    rcases lu with z | ⟨z, c, hc, hcell⟩
    · exact .inl z
    · exact .inr ⟨z, c, hc, cells c _ (I.freeC y c hc) hcell⟩
  · intro y c hc
    obtain ⟨v, hv⟩ := I.cell y c hc
    exact ⟨v, cells c v (I.freeC y c hc) hv⟩
  · rw [upd_ne (nx _ I.free)]; exact I.free
  · intro y c hc
    rw [upd_ne (nx _ (I.freeC y c hc))]; exact I.freeC y c hc
  · intro p hp
    obtain ⟨p1, p2, p3, p4, p5⟩ := I.pin p hp
    refine ⟨N.other p.1 p.2 p1 (nx _ p2) (fun z => (hT _ z).2.2.1 p hp rfl) (fun z => ?_), by rw [upd_ne (nx _ p2)]; exact p2, p3, p4, p5⟩
    rcases List.mem_cons.mp (I.stkSub _ (hfs _ z)) with e | e
    · exact p3 e
    · exact p4 e
  · intro b u e1
    by_cases q : b = x
    · subst q
      rw [upd_same] at e1; cases e1
      obtain ⟨vs', z⟩ := N.exc _ _ hg rfl
      exact xobj_ok z (fun z => nomatch z)
    · rw [upd_ne q] at e1
      refine (I.hok b u e1).stay (fun c v hc hv => ?_) (fun c hc => ?_) (fun c xs hc => ?_)
      · have hcH : ∃ o, H c = some o := by
          rcases hc with rfl | hc
          · exact ⟨_, e1⟩
          · exact ⟨_, hc⟩
        obtain ⟨o, ho⟩ := hcH
        have cx : c ≠ x := by
          rcases hc with rfl | hc
          · exact q
          · exact ne_of hc hx (fun z => nomatch z)
        refine N.other c v hv cx (fun z => ?_) (fun z => ?_)
        · rw [(hT c z).1] at ho; cases ho
        · rw [I.stkFree c (hfs c z)] at ho; cases ho
      · rw [upd_ne (ne_of hc hx (fun z => nomatch z))]; exact hc
      · rw [upd_ne (ne_of hc hx (fun z => nomatch z))]; exact hc

/-- an exception in flight: raised here, or by a callee -/
def Fly (X : Cx) (pins : List (Addr × Obj)) (x : Addr) (H : Hp) (s : Shared) : Prop :=
  (∃ C d, H x = some (XObj false C x d)) ∧ (NoTr s.heap x ∨ ∃ T, Tr s.heap x T .none ∧ H T = none ∧ (T ∉ X.ex → X.s₀.heap.get? T = none) ∧ ∀ p ∈ X.pn ++ pins, p.1 ≠ T)

theorem Tr.obj {h : Heap} {T : Addr} {fl : Value} (t : Tr h x T fl) : ∃ o ts, h.get? T = some o ∧ o.data = .fields ts := let ⟨_, _, oT, ts, _, _, _, _, e, e2, _⟩ := t; ⟨oT, ts, e, e2⟩

/-- noteFrame in the frame where it flies -/
theorem fly_note {outer : List Env} {L : Addr} {Q : Unit → Shared → Prop} {E : Value → Shared → Prop} (I : Inv X pins σ H s) (f : Fly X pins x H s) (hs : X.stack = X.env :: outer) (hf : X.env.frame = some L)
    (h : ∀ s' T, Inv X pins σ H s' → Tr s'.heap x T (rawInt L) → s.heap.get? T = none → H T = none → (∀ p ∈ X.pn ++ pins, p.1 ≠ T) → Q () s') : wpAny (model X.prog X.w) X.A (noteFrame (.ref x) X.env) Q E s := by
  obtain ⟨⟨C, d, hx⟩, f⟩ := f
  have hfr : X.A.frames = some (X.env :: outer) := by rw [I.ok.frames, hs]
  have hl : s.heap.FunFrames X.base (X.env :: outer) := by rw [← hs]; exact I.stack
  have fin : ∀ h' T T0, Note ((X.env :: outer).filterMap (·.frame)) x T0 s.heap h' → s.heap.get? T = none → Tr h' x T (rawInt L) →
      (∀ t, T0 = some t → H t = none ∧ (t ∉ X.ex → X.s₀.heap.get? t = none) ∧ (∀ p ∈ X.pn ++ pins, p.1 ≠ t) ∧ ∃ o ts, s.heap.get? t = some o ∧ o.data = .fields ts) → Q () { s with heap := h' } := by
    intro h' T T0 N hn ht hT
    have J := I.noted hx hT (fs := (X.env :: outer).filterMap (·.frame)) (fun b hb => by rw [hs]; exact hb) N
    rw [upd_id hx] at J
    refine h _ T J ht hn (I.hok.gone hn) fun p hp z => ?_
    have := (I.pin p hp).1
    rw [z, hn] at this; cases this
  rcases f with f | ⟨T0, t0, f1, f2, f3⟩
  · exact note_first hfr hl hf f fun h' T N hn ht => fin h' T none N hn ht fun t z => nomatch z
  · refine note_next hfr hl hf t0 fun h' T N hn ht => fin h' T (some T0) N hn ht fun t z => ?_
    obtain rfl := Option.some.inj z
    exact ⟨f1, f2, f3, t0.obj⟩
/-- the flight ends -/
theorem fly_down {T : Addr} {fl : Value} {Q : Unit → Shared → Prop} {E : Value → Shared → Prop} {A : Around} (I : Inv X pins σ H s) (hx : H x = some (XObj false C x d)) (t : Tr s.heap x T fl) (h1 : H T = none) (h2 : T ∉ X.ex → X.s₀.heap.get? T = none) (h3 : ∀ p ∈ X.pn ++ pins, p.1 ≠ T)
    (h : ∀ s', Inv X pins σ H s' → Tr s'.heap x T .none → Q () s') : wpAny (model X.prog X.w) A (setFlight (.ref x) none) Q E s := by
  refine flight_none t fun h' N ht _ => ?_
  have J := I.noted hx (fun t' z => by obtain rfl := Option.some.inj z; exact ⟨h1, h2, h3, t.obj⟩) (fs := []) (fun b hb => nomatch hb) N
  rw [upd_id hx] at J
  exact h _ J ht
end

/-- what a body takes of exceptions -/
def Xw (X : Cx) (W : Addr → St → Hp → Prop) : Prop := ∀ (pins : List (Addr × Obj)) (x : Addr) (σ : St) (H : Hp) (s : Shared), Inv X pins σ H s → Fly X pins x H s → W x σ H → X.xe (.ref x) s

/-- how an exception lies behind a call -/
def CX1 (P : Program) (w : World) : CXT := fun outer H s E e s' => ∃ x T H', e = .ref x ∧ s'.os = s.os ∧ AllBare s'.gens ∧ Un (frs outer) [] H H' s.heap s'.heap ∧ HOk P w H' s'.heap ∧ (∃ C d, H' x = some (XObj false C x d)) ∧
  Tr s'.heap x T .none ∧ H' T = none ∧ s.heap.get? T = none ∧ E (.ref x) none H'

theorem xw_def {P : Program} {w : World} {K : Frag} {mg : Str → Option Value} {base : Heap} {N : List Str} {qual : Str} {scope : Scope} {f : Addr} {cd : Value} {A : Around} {outer : List Env} {s : Shared} {H : Hp} {E : XK} :
    Xw (cxOf (CX1 P w) P w K mg base N qual scope f cd A outer s H E) (fun x _ H' => E (.ref x) none H') := by
  intro pins x σ H' s1 I fl hE
  obtain ⟨⟨C, d, hx⟩, _⟩ := id fl
  show wpAny _ _ (leaving _ _) _ _ _
  unfold leaving
  refine wpAny_bind (fly_note I fl (outer := outer) rfl rfl fun s2 T J t hn hT hp => ?_)
  have gone : s.heap.get? T = none := by
    cases q : s.heap.get? T with
    | none => rfl
    | some o =>
      obtain ⟨o', z⟩ := I.base.there T o q (fun z => nomatch (show T ∈ ([] : List Addr) from z))
      rw [hn] at z; cases z
  refine fly_down J hx t hT (fun _ => gone) hp fun s3 J3 t3 => ?_
  exact ⟨x, T, H', rfl, J3.os, J3.bare, J3.base, J3.hok, ⟨C, d, hx⟩, t3, hT, gone, hE⟩
end L2

namespace L2
open PySem PySem.Spec PyProof.Rows PySem.W

section
variable {X : Cx} {pins : List (Addr × Obj)} {σ : St} {H : Hp} {s : Shared} {x C : Addr}
theorem note_refl {h : Heap} : Note [] x none h h := ⟨fun _ _ e _ _ _ => e, fun _ o e _ _ => ⟨o.slots, e⟩, fun oe vs e1 e2 => ⟨vs, by rw [← e2]; exact e1⟩, fun _ _ z => nomatch z⟩
/-- raised from now on -/
theorem Inv.raised {d : Option Addr} {r : Bool} (I : Inv X pins σ H s) (hx : H x = some (XObj r C x d)) : Inv X pins σ (upd H x (XObj false C x d)) s := I.noted hx (T0 := none) (fun _ z => nomatch z) (fs := []) (fun _ z => nomatch z) note_refl
end

/-! ### raise -/
def tRaise (K : Frag) (te : TE) (W : Addr → St → Hp → Prop) : TS := fun _ σ H => te σ H fun v H1 => ∃ x C bm nid fs d, v = .ref x ∧ H1 x = some (XObj true C x d) ∧ ((d = none ∧ fs = []) ∨ ∃ dx, d = some dx ∧ H1 dx = some (XDict dx fs)) ∧ XCls K C bm nid ∧ W x σ (upd H1 x (XObj false C x d))

theorem ps_raise {X : Cx} {e : Expr} {te : TE} {W : Addr → St → Hp → Prop} {pos : Pos} (he : PE X e te) (hw : Xw X W) (hc : X.calm = true) : PS X (.Raise (some e) none pos) (tRaise X.K te W) := by
  intro pins s σ H D I h
  have hh := I.ok.hd hc
  show wpAny _ X.A (do standAt pos; raiseStmt X.env (some (do let v ← eval e X.env; standAt pos; pure v)) none) _ _ s
  refine wpAny_bind (wpAny_standAt ?_)
  unfold raiseStmt
  dsimp only
  refine wpAny_bind (wpAny_bind (thn (he pins s σ H _ I h) fun u s1 ⟨v, H1, I1, rv, x, C, bm, nid, fs, d, ev, hx0, hd0, c, q⟩ => wpAny_bind (wpAny_standAt (wpAny_pure ?_))))
  subst ev
  obtain rfl : u = Value.ref x := rv
  have hx : IsX true H1 x C fs := by
    rcases hd0 with ⟨rfl, rfl⟩ | ⟨dx, rfl, b⟩
    · exact .inl ⟨rfl, hx0⟩
    · exact .inr ⟨dx, hx0, b⟩
  obtain ⟨vs, ha, hz⟩ := xobj_get I1.hok hx0
  obtain ⟨ox, od, inst⟩ := hx.inst I1
  obtain ⟨nm, qq, N, bs, sn, sub, ab, col, dd, k0, k1, k2, k3, k5, ho⟩ := c.obj
  have hC := I1.kIn _ _ ho
  have nt : NoTr s1.heap x := ⟨_, vs, ha, rfl, hz rfl⟩
  have hnt : ∀ {Q' : Bool → Shared → Prop} {E' : Value → Shared → Prop}, Q' false s1 → wpAny (model X.prog X.w) X.A (isType (.ref x)) Q' E' s1 := by
    intro Q' E' hq
    simp only [isType, loadHead]
    exact wpAny_bind (wpAny_loadPart ha (wpAny_pure hq))
  refine wpAny_bind (wpAny_pure ?_)
  dsimp only
  refine wpAny_bind (wpAny_holding ?_)
  unfold excFromValue isExcClass
  refine wpAny_bind (wpAny_bind (hnt ?_))
  simp only [Bool.false_eq_true, if_false]
  refine wpAny_pure ?_
  simp only [Bool.false_eq_true, if_false]
  refine wpAny_bind (Looks.here (inst.type.andThen (looks_mroIn I1.kIn c.base)) ?_)
  simp only [if_true]
  refine wpAny_pure ?_
  refine wpAny_bind (hnt ?_)
  simp only [Bool.false_eq_true, if_false]
  unfold raisedInstance
  refine wpAny_bind (wpAny_bind (Looks.here inst.type (wpAny_bind (m := typeOf (.ref C)) ?_)))
  have tyC : Looks (model X.prog X.w) s1.heap (typeOf (.ref C)) (.type "type") := (Looks.ld hC).andThen .now
  refine Looks.here tyC ?_
  rw [if_pos (by decide)]
  refine wpAny_pure ?_
  refine wpAny_bind (flight_fresh nt ?_)
  refine wpAny_raiseNew_none hh (hw pins x σ _ s1 (I1.raised hx0) ⟨⟨C, d, upd_same⟩, .inl nt⟩ q)

/-! ### calls that may raise -/
section
variable {X : Cx} {k : Nat} {f C : Addr} {fd : FuncData} {ps : List Str} {sp : Sp} {dvs : List V} {ds : List Value} {W : Addr → St → Hp → Prop} {x m : Str} {p pos apos : Pos} {e o : Expr} {es : List Expr} {ta : TE} {t : TA}
abbrev wX (W : Addr → St → Hp → Prop) (σ : St) : XK := fun e _ H' => ∀ x, e = .ref x → W x σ H'
theorem fly_in {pins : List (Addr × Obj)} {σ : St} {H : Hp} {s s' : Shared} {e : Value} (hw : Xw X W) (I : Inv X pins σ H s) (h : CX1 X.prog X.w X.stack H s (wX W σ) e s') : X.xe e s' := by
  obtain ⟨y, T, H', rfl, os, bare, un, hok, hx, tr, hT, gone, hE⟩ := h
  refine hw pins y σ H' s' (I.call' (ch := []) os un hok bare fun b z => nomatch z) ⟨hx, .inr ⟨T, tr, hT, fun ne => ?_, fun q hq z => ?_⟩⟩ (hE y rfl)
  · cases w : X.s₀.heap.get? T with
    | none => rfl
    | some o =>
      obtain ⟨o', z⟩ := I.base.there T o w ne
      rw [gone] at z; cases z
  · have := (I.pin q hq).1
    rw [z, gone] at this; cases this
theorem run_fnX {pins : List (Addr × Obj)} {σ : St} {H : Hp} {s : Shared} {Q : VK} {us : List Value} {vs : List V} (F : FnOk X.prog X.w X.K X.mg X.base (CX1 X.prog X.w) k f fd ps sp) (hr : Room k X.A) (hb : Binds X.K fd ps ds) (hd : Vals dvs ds) (hw : Xw X W)
    (I : Inv X pins σ H s) (r : Vals vs us) (h : sp (vs ++ dvs) H Q (wX W σ)) : wpAny (model X.prog X.w) X.A (call (.ref f) us) (EP X pins σ Q) X.xe s := by
  have r2 : Vals (vs ++ dvs) (us ++ ds) := r.append hd
  have hl : (us ++ ds).length = ps.length := by rw [← r2.length]; exact F.len _ _ _ _ h
  refine wpAny_call (codeAny_mono (F.run X.A X.stack s H ⟨us, []⟩ (us ++ ds) (vs ++ dvs) Q _ hr I.env0 (hb s us I.kIn hl) r2 h) fun r s' hq => ?_)
  cases r with
  | error e => exact fly_in hw I hq
  | ok fl =>
    cases fl with
    | ret u => exact I.after hq
    | next => exact False.elim hq
    | brk => exact False.elim hq
    | cont => exact False.elim hq
def tCallX (sp : Sp) (dvs : List V) (W : Addr → St → Hp → Prop) (t : TA) : TE := fun σ H Q => t σ H fun vs H1 => sp (vs ++ dvs) H1 Q (wX W σ)
theorem pe_callX (F : FnOk X.prog X.w X.K X.mg X.base (CX1 X.prog X.w) k f fd ps sp) (hr : Room k X.A) (hg : Gl X x) (hm : X.mg x = some (.ref f)) (hk : PySem.W.keepIn X.K (.ref f) = true) (hb : Binds X.K fd ps ds) (hd : Vals dvs ds) (hw : Xw X W)
    (ha : PA X (e :: es) t) (hdb : (x == ("__debug__" : Str)) = false := by decide) (he : starEach (e :: es) X.env = (false, eval e X.env) :: starEach es X.env := by rfl) (hpl : (backTo pos (starEach es X.env)).any (·.1) = false := by rfl) :
    PE X (.Call (.Name x p) (e :: es) [] pos) (tCallX sp dvs W t) := by
  intro pins s σ H Q I h
  refine wpAny_Call_Name_kw (ld_glob I hg hm ?_ hdb)
  refine PySem.W.callWith_K (h₀ := X.base) I.ok.mod.kin hk (thn (ha pos pins s σ H _ I h) fun us s1 ⟨vs, H1, I1, r, q⟩ => ⟨I1.kIn, ?_⟩) he hpl
  exact run_fnX F hr hb hd hw I1 r q
end

/-! ### a def that may raise -/
end L2

namespace L2
open PySem PySem.Spec PyProof.Rows PySem.W

/-- the context of a try's body; of an except suite -/
abbrev Cx.inTry (X : Cx) (pn : List (Addr × Obj)) (xe : Value → Shared → Prop) : Cx := { X with pn := pn, xe := xe }
abbrev Cx.suite (X : Cx) (x : Addr) : Cx := { X with A := X.A.mark (some (.ref x)), calm := false, xe := fun _ _ => False }
section
variable {X : Cx} {pins ps' : List (Addr × Obj)} {σ : St} {H : Hp} {s : Shared} {x : Addr} {xe : Value → Shared → Prop}
theorem Cx.Ok.inTry {pn : List (Addr × Obj)} (k : X.Ok) : (X.inTry pn xe).Ok :=
  ⟨k.mod, k.kind, k.glob, k.blt, k.above, k.inj, k.has, k.cab, k.hd, k.frames, k.stk, k.exf, k.bs, k.bsz, k.noex, k.exfs, k.funs, k.frf⟩
theorem Cx.Ok.ofTry {pn : List (Addr × Obj)} (k : (X.inTry pn xe).Ok) : X.Ok :=
  ⟨k.mod, k.kind, k.glob, k.blt, k.above, k.inj, k.has, k.cab, k.hd, k.frames, k.stk, k.exf, k.bs, k.bsz, k.noex, k.exfs, k.funs, k.frf⟩
theorem Cx.Ok.suite (k : X.Ok) : (X.suite x).Ok :=
  ⟨k.mod, k.kind, k.glob, k.blt, k.above, k.inj, k.has, k.cab, (fun z => nomatch z), k.frames, k.stk, k.exf, k.bs, k.bsz, k.noex, k.exfs, k.funs, k.frf⟩
theorem Inv.inTry (I : Inv X pins σ H s) : Inv (X.inTry (X.pn ++ pins) xe) [] σ H s :=
  ⟨I.ok.inTry, I.os, I.bare, I.base, I.loc, I.cell, I.free, I.freeC, fun p hp => I.pin p (by simpa using hp), I.hok, I.len⟩
theorem Inv.ofTry (I : Inv (X.inTry (X.pn ++ pins) xe) ps' σ H s) : Inv X pins σ H s :=
  ⟨I.ok.ofTry, I.os, I.bare, I.base, I.loc, I.cell, I.free, I.freeC, fun p hp => I.pin p (List.mem_append_left _ hp), I.hok, I.len⟩
theorem Inv.suite (I : Inv X pins σ H s) : Inv (X.suite x) pins σ H s :=
  ⟨I.ok.suite, I.os, I.bare, I.base, I.loc, I.cell, I.free, I.freeC, I.pin, I.hok, I.len⟩
/-- back from the suite; calm as ahead -/
theorem Inv.ofSuite (I : Inv (X.suite x) pins σ H s) (hd : X.calm = true → X.A.handled = none) : Inv X pins σ H s :=
  ⟨⟨I.ok.mod, I.ok.kind, I.ok.glob, I.ok.blt, I.ok.above, I.ok.inj, I.ok.has, I.ok.cab, hd, I.ok.frames, I.ok.stk, I.ok.exf, I.ok.bs, I.ok.bsz, I.ok.noex, I.ok.exfs, I.ok.funs, I.ok.frf⟩, I.os, I.bare, I.base, I.loc, I.cell, I.free, I.freeC, I.pin, I.hok, I.len⟩
theorem Fly.ofTry (f : Fly (X.inTry (X.pn ++ pins) xe) ps' x H s) : Fly X pins x H s := by
  obtain ⟨h1, h2⟩ := f
  refine ⟨h1, h2.imp id fun ⟨T, t, a, b, c⟩ => ⟨T, t, a, b, fun p hp => c p (List.mem_append_left _ hp)⟩⟩

/-- the name of an except clause goes -/
theorem goes_ok {M : Model} {A : Around} {E : Value → Shared → Prop} {i : Nat} {n : Str} {pos : Pos} {Q : Unit → Shared → Prop} (I : Inv X pins σ H s) (hN : X.N.Nodup) (hi : X.N[i]? = some n) (hk : X.env.scope.names.lookup n = some .local)
    (h : ∀ s', Inv X pins (σ.set i none) H s' → Q () s') : wpAny M A (do bindName X.env n .none; unbindBehindTheSuite X.env n pos) Q E s := by
  obtain ⟨m, hn, hl⟩ := id I.loc
  have hcls : (X.env.scope.kind == .class || (X.env.scope.kind == .module && X.env.locals != X.env.globals)) = false := by rw [I.ok.kind]; rfl
  have hiσ : i < σ.length := by rw [I.len]; exact (List.getElem?_eq_some_iff.mp hi).1
  have cne := I.cne
  have tracked : ∀ {a : Addr} {h' : Heap}, (∃ o, s.heap.get? a = some o ∧ H a = none) → Heap.SameBut a s.heap h' → HOk X.prog X.w H h' := fun {a h'} ha hs b ob e => by
    obtain ⟨_, _, hfree⟩ := ha
    refine (I.hok b ob e).stay (fun c w' hc q => (hs.2 c ?_).trans q) (fun _ q => q) fun _ _ q => q
    rintro rfl
    rcases hc with rfl | hc
    · rw [hfree] at e; cases e
    · rw [hfree] at hc; cases hc
  refine wpAny_nameGoes_keeps hk hn hcls fun h' v hn' hs => ?_
  obtain ⟨oL, _, _, hoL, _⟩ := id hn
  refine h _ ⟨I.ok, I.os, I.bare, ⟨fun b o e n hb hx => ?_, fun b o e n hb hx => ?_, I.base.free, fun b o e hx => ?_, I.base.tups, I.base.frzs, I.base.tbls⟩, ⟨_, hn', fun j y v' e1 e2 e3 => ?_⟩, fun y c e => ?_, I.free, I.freeC, fun p hp => ?_, tracked ⟨oL, hoL, I.free⟩ hs, by simpa using I.len⟩
  · exact (hs.2 b (Nat.ne_of_lt (Nat.lt_of_lt_of_le (Heap.lt_size e) I.ok.above))).trans (I.base.keep b o e n hb hx)
  · obtain ⟨sl, e1⟩ := I.base.slot b o e n hb hx
    exact ⟨sl, (hs.2 b (Nat.ne_of_lt (Nat.lt_of_lt_of_le (Heap.lt_size e) I.ok.above))).trans e1⟩
  · obtain ⟨o', e1⟩ := I.base.there b o e hx
    exact ⟨o', (hs.2 b (Nat.ne_of_lt (Nat.lt_of_lt_of_le (Heap.lt_size e) I.ok.above))).trans e1⟩
  · by_cases hj : j = i
    · subst hj
      rw [List.getElem?_set_self hiσ] at e2
      cases e2
    · rw [List.getElem?_set_ne (Ne.symm hj)] at e2
      obtain ⟨u', r', q⟩ := hl j y v' e1 e2 e3
      refine ⟨u', r', ?_⟩
      rcases q with ⟨k, e⟩ | ⟨k, c, e, z⟩
      · refine .inl ⟨k, ?_⟩
        have : y ≠ n := fun e => hj (nodup_ix hN e1 (e ▸ hi))
        simp [this, e]
      · exact .inr ⟨k, c, e, z.sameBut hs (cne y c e)⟩
  · obtain ⟨w', z⟩ := I.cell y c e
    exact ⟨w', z.sameBut hs (cne y c e)⟩
  · obtain ⟨e, n, ne, nf, d⟩ := I.pin p hp
    exact ⟨(hs.2 p.1 ne).trans e, n, ne, nf, d⟩
end

/-! ### try: body, except C as n: suite -/
def endsAs (i : Nat) (D : Ends) : Ends where
  nx := fun σ H => D.nx (σ.set i none) H
  rt := D.rt
  bk := fun σ H => D.bk (σ.set i none) H
  ct := fun σ H => D.ct (σ.set i none) H
def wTryAs (K : Frag) (cv : Value) (i : Nat) (ts : Addr → TS) (D : Ends) : Addr → St → Hp → Prop := fun x σ' H' => ∃ C bm nid fs, IsX false H' x C fs ∧ XCls K C bm nid ∧ exmOne K (.ref C) cv = some true ∧ ts x (endsAs i D) (σ'.set i (some (.ref x))) H'
def wTry (K : Frag) (cv : Value) (ts : Addr → TS) (D : Ends) : Addr → St → Hp → Prop := fun x σ' H' => ∃ C bm nid fs, IsX false H' x C fs ∧ XCls K C bm nid ∧ exmOne K (.ref C) cv = some true ∧ ts x D σ' H'
def tTryAs (K : Frag) (cv : Value) (i : Nat) (tb : (Addr → St → Hp → Prop) → TS) (ts : Addr → TS) : TS := fun D σ H => tb (wTryAs K cv i ts D) D σ H
def tTry (K : Frag) (cv : Value) (tb : (Addr → St → Hp → Prop) → TS) (ts : Addr → TS) : TS := fun D σ H => tb (wTry K cv ts D) D σ H

section
variable {X : Cx} {body : List Stmt} {b₀ : Stmt} {suite : List Stmt} {cx n : Str} {i : Nat} {cv : Value} {tb : (Addr → St → Hp → Prop) → TS} {ts : Addr → TS} {p hpos pos : Pos}

/-- an exception comes to the clauses -/
theorem to_handlers {outer : List Env} {L : Addr} {pins ps' : List (Addr × Obj)} {x : Addr} {σ : St} {H : Hp} {s : Shared} {Q : Shared → Prop} {xe : Value → Shared → Prop} {E : Value → Shared → Prop} (hs : X.stack = X.env :: outer) (hf : X.env.frame = some L)
    (J : Inv (X.inTry (X.pn ++ pins) xe) ps' σ H s) (f : Fly (X.inTry (X.pn ++ pins) xe) ps' x H s)
    (h : ∀ s3 T, Inv X pins σ H s3 → Tr s3.heap x T .none → H T = none → (T ∉ X.ex → X.s₀.heap.get? T = none) → (∀ p ∈ X.pn ++ pins, p.1 ≠ T) → Q s3) :
    wpAny (model X.prog X.w) X.A (noteFrame (.ref x) X.env) (fun _ s2 => wpAny (model X.prog X.w) X.A (setFlight (.ref x) none) (fun _ s3 => Q s3) E s2) E s := by
  have I := J.ofTry
  have f' := f.ofTry
  obtain ⟨⟨C, d, hx⟩, _⟩ := id f'
  refine fly_note I f' hs hf fun s2 T J2 t hn hT hp => ?_
  have gone : T ∉ X.ex → X.s₀.heap.get? T = none := fun ne => by
    cases w : X.s₀.heap.get? T with
    | none => rfl
    | some o =>
      obtain ⟨o', z⟩ := I.base.there T o w ne
      rw [hn] at z; cases z
  exact fly_down J2 hx t hT gone hp fun s3 J3 t3 => h s3 T J3 t3 hT gone hp

theorem nil_next {E : Value → Shared → Prop} {Q : Flow → Shared → Prop} {s : Shared} (h : Q .next s) : wpAny (model X.prog X.w) X.A (execs [] X.env) Q E s := by
  unfold execs
  exact wpAny_pure h

theorem ps_tryAs {outer : List Env} {L : Addr} (hst : X.stack = X.env :: outer) (hf : X.env.frame = some L) (hN : X.N.Nodup) (hi : X.N[i]? = some n) (hk : X.env.scope.names.lookup n = some .local) (hg : Gl X cx) (hm : X.mg cx = some cv)
    (hb : ∀ (pn : List (Addr × Obj)) (xe : Value → Shared → Prop) (W : Addr → St → Hp → Prop), PassesOwn (model X.prog X.w) X.A X.env xe → Xw (X.inTry pn xe) W → PSs (X.inTry pn xe) body (tb W))
    (hs : ∀ x, PSs (X.suite x) (b₀ :: suite) (ts x)) (hdb : (cx == ("__debug__" : Str)) = false := by decide) :
    PS X (.Try body [.ExceptHandler (some (.Name cx p)) (some n) (b₀ :: suite) hpos] [] [] pos) (tTryAs X.K cv i tb ts) := by
  intro pins s σ H D I h
  have calm := I.ok.hd
  refine wpAny_Try_except ?_
  refine wpAny_mono (hb (X.pn ++ pins) (fun e s₁ => wpAny (model X.prog X.w) X.A (noteFrame e X.env) (fun _ s₂ => wpAny (model X.prog X.w) X.A (setFlight e none) (fun _ s₃ => wpAny (model X.prog X.w) X.A (handleBy e X.env [.ExceptHandler (some (.Name cx p)) (some n) (b₀ :: suite) hpos]) (SP X pins D) X.xe s₃) X.xe s₂) X.xe s₁)
    (wTryAs X.K cv i ts D) PassesOwn.looking ?_ [] s σ H D I.inTry h) (fun f s1 q => ?_) (fun e s1 q => q)
  · intro ps' x σ' H' s' J fl hW
    obtain ⟨C, bm, nid, fs, hx, c, hm1, hts⟩ := hW
    refine to_handlers hst hf J fl fun s3 T J3 t3 hT gone hp => ?_
    obtain ⟨⟨C', d, hx0⟩, _⟩ := fl.ofTry
    refine wpAny_handleBy_cons (codeAny_handlers_test ?_) (by intro q; cases q)
    refine ld_glob (X := X.suite x) J3.suite hg hm ?_ hdb
    obtain ⟨ox, od, inst⟩ := hx.inst J3
    refine Looks.here (exm_one J3.kIn inst.type hm1) ?_
    refine codeAny_handlers_suite_as ?_
    refine fly_down J3 hx0 t3 hT gone hp fun s4 J4 t4 => ?_
    refine store_ok J4 hN hi (Or.inl hk) (v := .ref x) rfl (fun s5 J5 => ?_) (.inr hk)
    refine wpAny_mono (hs x pins s5 _ H' (endsAs i D) J5.suite hts) (fun f s6 q => ?_) (fun e s6 q => q.elim)
    show wpAny (model X.prog X.w) X.A (do bindName X.env n .none; unbindBehindTheSuite X.env n hpos) (fun _ s₃ => SP X pins D f s₃) X.xe s6
    cases f with
    | next =>
      obtain ⟨σ6, H6, J6, q6⟩ := q
      exact goes_ok (J6.ofSuite calm) hN hi hk fun s7 J7 => ⟨_, _, J7, q6⟩
    | brk =>
      obtain ⟨σ6, H6, J6, q6⟩ := q
      exact goes_ok (J6.ofSuite calm) hN hi hk fun s7 J7 => ⟨_, _, J7, q6⟩
    | cont =>
      obtain ⟨σ6, H6, J6, q6⟩ := q
      exact goes_ok (J6.ofSuite calm) hN hi hk fun s7 J7 => ⟨_, _, J7, q6⟩
    | ret u =>
      obtain ⟨v, σ6, H6, J6, rv, q6⟩ := q
      exact goes_ok (J6.ofSuite calm) hN hi hk fun s7 J7 => ⟨v, _, _, J7, rv, q6⟩
  · cases f with
    | next =>
      obtain ⟨σ6, H6, J6, q6⟩ := q
      exact nil_next ⟨_, _, J6.ofTry, q6⟩
    | brk =>
      obtain ⟨σ6, H6, J6, q6⟩ := q
      exact ⟨_, _, J6.ofTry, q6⟩
    | cont =>
      obtain ⟨σ6, H6, J6, q6⟩ := q
      exact ⟨_, _, J6.ofTry, q6⟩
    | ret u =>
      obtain ⟨v, σ6, H6, J6, rv, q6⟩ := q
      exact ⟨v, _, _, J6.ofTry, rv, q6⟩

theorem ps_try {outer : List Env} {L : Addr} (hst : X.stack = X.env :: outer) (hf : X.env.frame = some L) (hg : Gl X cx) (hm : X.mg cx = some cv)
    (hb : ∀ (pn : List (Addr × Obj)) (xe : Value → Shared → Prop) (W : Addr → St → Hp → Prop), PassesOwn (model X.prog X.w) X.A X.env xe → Xw (X.inTry pn xe) W → PSs (X.inTry pn xe) body (tb W))
    (hs : ∀ x, PSs (X.suite x) (b₀ :: suite) (ts x)) (hdb : (cx == ("__debug__" : Str)) = false := by decide) :
    PS X (.Try body [.ExceptHandler (some (.Name cx p)) none (b₀ :: suite) hpos] [] [] pos) (tTry X.K cv tb ts) := by
  intro pins s σ H D I h
  have calm := I.ok.hd
  refine wpAny_Try_except ?_
  refine wpAny_mono (hb (X.pn ++ pins) (fun e s₁ => wpAny (model X.prog X.w) X.A (noteFrame e X.env) (fun _ s₂ => wpAny (model X.prog X.w) X.A (setFlight e none) (fun _ s₃ => wpAny (model X.prog X.w) X.A (handleBy e X.env [.ExceptHandler (some (.Name cx p)) none (b₀ :: suite) hpos]) (SP X pins D) X.xe s₃) X.xe s₂) X.xe s₁)
    (wTry X.K cv ts D) PassesOwn.looking ?_ [] s σ H D I.inTry h) (fun f s1 q => ?_) (fun e s1 q => q)
  · intro ps' x σ' H' s' J fl hW
    obtain ⟨C, bm, nid, fs, hx, c, hm1, hts⟩ := hW
    refine to_handlers hst hf J fl fun s3 T J3 t3 hT gone hp => ?_
    obtain ⟨⟨C', d, hx0⟩, _⟩ := fl.ofTry
    refine wpAny_handleBy_cons (codeAny_handlers_test ?_) (by intro q; cases q)
    refine ld_glob (X := X.suite x) J3.suite hg hm ?_ hdb
    obtain ⟨ox, od, inst⟩ := hx.inst J3
    refine Looks.here (exm_one J3.kIn inst.type hm1) ?_
    refine codeAny_handlers_suite ?_
    refine fly_down J3 hx0 t3 hT gone hp fun s4 J4 t4 => ?_
    refine wpAny_mono (hs x pins s4 _ H' D J4.suite hts) (fun f s6 q => ?_) (fun e s6 q => q.elim)
    show SP X pins D f s6
    cases f with
    | next =>
      obtain ⟨σ6, H6, J6, q6⟩ := q
      exact ⟨_, _, J6.ofSuite calm, q6⟩
    | brk =>
      obtain ⟨σ6, H6, J6, q6⟩ := q
      exact ⟨_, _, J6.ofSuite calm, q6⟩
    | cont =>
      obtain ⟨σ6, H6, J6, q6⟩ := q
      exact ⟨_, _, J6.ofSuite calm, q6⟩
    | ret u =>
      obtain ⟨v, σ6, H6, J6, rv, q6⟩ := q
      exact ⟨v, _, _, J6.ofSuite calm, rv, q6⟩
  · cases f with
    | next =>
      obtain ⟨σ6, H6, J6, q6⟩ := q
      exact nil_next ⟨_, _, J6.ofTry, q6⟩
    | brk =>
      obtain ⟨σ6, H6, J6, q6⟩ := q
      exact ⟨_, _, J6.ofTry, q6⟩
    | cont =>
      obtain ⟨σ6, H6, J6, q6⟩ := q
      exact ⟨_, _, J6.ofTry, q6⟩
    | ret u =>
      obtain ⟨v, σ6, H6, J6, rv, q6⟩ := q
      exact ⟨v, _, _, J6.ofTry, rv, q6⟩
end
end L2

namespace L2
open PySem PySem.Spec PyProof.Rows PySem.W

/-! ### a comprehension's block -/
theorem lookup_relab {env : Env} : ∀ (names : List (Str × NameKind)) (x : Str),
    (names.map fun (n, k) => if (k == NameKind.free && env.scope.kind == .function && env.kindOf n == some .cell) then (n, NameKind.cell) else (n, k)).lookup x =
      (names.lookup x).map fun k => if (k == NameKind.free && env.scope.kind == .function && env.kindOf x == some .cell) = true then NameKind.cell else k
  | [], _ => rfl
  | (n, k) :: r, x => by
    have ih := @lookup_relab env r x
    show List.lookup x ((if (k == NameKind.free && env.scope.kind == .function && env.kindOf n == some .cell) = true then (n, NameKind.cell) else (n, k)) :: _) = _
    cases hx : x == n with
    | true =>
      obtain rfl : x = n := eq_of_beq hx
      by_cases hc : (k == NameKind.free && env.scope.kind == .function && env.kindOf x == some .cell) = true
      · rw [if_pos hc]; simp only [List.lookup_cons, hx, Option.map_some]; rw [if_pos hc]
      · rw [if_neg hc]; simp only [List.lookup_cons, hx, Option.map_some]; rw [if_neg hc]
    | false =>
      by_cases hc : (k == NameKind.free && env.scope.kind == .function && env.kindOf n == some .cell) = true
      · rw [if_pos hc]; simp only [List.lookup_cons, hx]; exact ih
      · rw [if_neg hc]; simp only [List.lookup_cons, hx]; exact ih

/-- the free names' cells -/
def clos (env : Env) : List (Str × NameKind) → List (Str × Addr) → List (Str × Addr)
  | [], cs => cs
  | (n, k) :: r, cs => if k == .free then (match env.cells.lookup n with | some c => clos env r ((n, c) :: cs) | none => clos env r cs) else clos env r cs
def closStep (env : Env) (x : Str × NameKind) (r : List (Str × Addr)) : Sem (ForInStep (List (Str × Addr))) :=
  match x with | (name, kind) => if (kind == .free) = true then do let a ← cellOf env name; pure (ForInStep.yield ((name, a) :: r)) else pure (ForInStep.yield r)
theorem closureFor_eq (scope : Scope) (env : Env) : closureFor scope env = (forIn scope.names ([] : List (Str × Addr)) (closStep env) >>= fun cs => pure cs) := rfl
theorem clos_for {env : Env} : ∀ (names : List (Str × NameKind)) (cs : List (Str × Addr)), (∀ y ∈ names, y.2 = .free → ∃ c, env.cells.lookup y.1 = some c) → forIn names cs (closStep env) = (pure (clos env names cs) : Sem (List (Str × Addr)))
  | [], cs, _ => rfl
  | (n, k) :: r, cs, h => by
    rw [List.forIn_cons]
    cases hk : k == NameKind.free with
    | false =>
      simp only [hk, clos, closStep, Bool.false_eq_true, if_false, pure_bind]
      exact clos_for r cs fun y hy => h y (List.mem_cons_of_mem _ hy)
    | true =>
      obtain ⟨c, hc⟩ := h (n, k) List.mem_cons_self (eq_of_beq hk)
      have hc' : env.cells.lookup n = some c := hc
      simp only [hk, clos, closStep, if_true, cellOf, hc', pure_bind]
      exact clos_for r _ fun y hy => h y (List.mem_cons_of_mem _ hy)
theorem clos_mem {env : Env} : ∀ (names : List (Str × NameKind)) (cs : List (Str × Addr)) (z : Str) (c : Addr), (clos env names cs).lookup z = some c → env.cells.lookup z = some c ∨ cs.lookup z = some c
  | [], cs, z, c, h => .inr h
  | (n, k) :: r, cs, z, c, h => by
    unfold clos at h
    split at h
    · split at h
      · rename_i d hd
        rcases clos_mem r _ z c h with q | q
        · exact .inl q
        · cases hz : z == n with
          | true =>
            obtain rfl := eq_of_beq hz
            simp only [List.lookup_cons, hz] at q
            cases q
            exact .inl hd
          | false =>
            simp only [List.lookup_cons, hz] at q
            exact .inr q
      · exact clos_mem r cs z c h
    · exact clos_mem r cs z c h
theorem clos_old {env : Env} : ∀ (names : List (Str × NameKind)) (cs : List (Str × Addr)) (z : Str), (cs.lookup z).isSome = true → ((clos env names cs).lookup z).isSome = true
  | [], cs, z, h => h
  | (n, k) :: r, cs, z, h => by
    unfold clos
    split
    · split
      · refine clos_old r _ z ?_
        cases hz : z == n with
        | true => simp [List.lookup_cons, hz]
        | false => simpa [List.lookup_cons, hz] using h
      · exact clos_old r cs z h
    · exact clos_old r cs z h
theorem clos_has {env : Env} : ∀ (names : List (Str × NameKind)) (cs : List (Str × Addr)) (z : Str) (c : Addr), (z, NameKind.free) ∈ names → env.cells.lookup z = some c → ((clos env names cs).lookup z).isSome = true
  | (n, k) :: r, cs, z, c, hm, hc => by
    unfold clos
    rcases List.mem_cons.mp hm with e | e
    · cases e
      rw [if_pos (by rfl)]
      simp only [hc]
      exact clos_old r _ n (by simp [List.lookup_cons])
    · split
      · split
        · exact clos_has r _ z c e hc
        · exact clos_has r _ z c e hc
      · exact clos_has r _ z c e hc

/-- what a comprehension's scope must be like, by a look -/
def compOk (sc osc : Scope) (vars caps : List Str) : Bool :=
  sc.kind == .function && sc.names.all (fun y => y.2 != .cell && (y.2 != .local || sc.names.lookup y.1 == some .local) && (y.2 != .free || osc.names.lookup y.1 == some .cell)) &&
    vars.all (fun x => sc.names.lookup x == some .local) && caps.all (fun x => sc.names.lookup x == some .free)

/-- the block's context -/
abbrev blk (X : Cx) (scope : Scope) (N : List Str) (cl : List (Str × Addr)) (C : Addr) (fp : List Addr) (s : Shared) (H : Hp) : Cx where
  prog := X.prog
  w := X.w
  K := X.K
  mg := X.mg
  base := X.base
  A := X.A
  N := N
  s₀ := s
  H₀ := H
  env := compEnvC scope cl C X.env
  outer := X.stack
  stack := X.stack
  ex := fp
  fn := fun _ => false
  calm := X.calm
  pn := []
  xe := fun _ _ => False

/-- the ifs of a clause -/
def PTs (X : Cx) (ifs : List Expr) (t : TT) : Prop :=
  ∀ (pins : List (Addr × Obj)) (s : Shared) (σ : St) (H : Hp) (Q : Bool → Hp → Prop), Inv X pins σ H s → t σ H Q →
    wpAny (model X.prog X.w) X.A (forIn ifs true fun c r => if r = true then do let ok ← isTrue c X.env (eval c X.env); pure (ForInStep.yield ok) else pure (ForInStep.yield r)) (TP X pins σ Q) X.xe s
def tTrue : TT := fun _ H Q => Q true H
theorem pts_nil {X : Cx} : PTs X [] tTrue := fun _ _ _ H _ I h => wpAny_tests_nil ⟨H, I, h⟩
theorem pts_one {X : Cx} {c : Expr} {t : TT} (h : PT X c t) : PTs X [c] t := fun pins s σ H Q I q => wpAny_tests_one (h pins s σ H Q I q)

/-- the slots at the block's entry -/
def start2 (nv : Nat) (ix : List Nat) (σ : St) : St := List.replicate nv none ++ ix.map fun i => σ.getD i none

/-- a comprehension's list grows at D, by a word W of the turn, a measure, the items, the slots, the heap -/
abbrev CompRd (J : It) (g : TG) (tc : TT) (te : TE) (D : Addr) (σ0 : St) (H1 : Hp) (Q : VK) : Prop := ∃ W : Nat → Nat → List V → St → Hp → Prop, (∃ m, W 0 m [] σ0 (upd H1 D (.lst []))) ∧
  ∀ i m ys σ' H', W i m ys σ' H' → (J.stop i H' ∧ Q (.ref D) H') ∨ (J.go i H' ∧ ∀ x H2, J.yld i H' x H2 → g x σ' H2 fun σ3 H3 => tc σ3 H3 fun b H4 =>
    if b = true then te σ3 H4 fun y H5 => H5 D = some (.lst ys) ∧ ys.length < sizeLine ∧ ∃ m', m' < m ∧ W (i + 1) m' (ys ++ [y]) σ3 (upd H5 D (.lst (ys ++ [y]))) else ∃ m', m' < m ∧ W (i + 1) m' ys σ3 H4)
def tComp (wi : TI) (g : TG) (tc : TT) (te : TE) (nv : Nat) (ix : List Nat) : TE := fun σ H Q => wi σ H fun J H1 => ∀ D, H1 D = none → CompRd J g tc te D (start2 nv ix σ) H1 Q

section
variable {prog : Program} {w : World} {A : Around} {E : Value → Shared → Prop} {R : Result → Shared → Prop} {s : Shared}
/-- the loop, whatever the target -/
theorem compLoop_any {elt target iter : Expr} {ifs : List Expr} {scope : Scope} {pos : Pos} {it acc : Value} {env : Env} (I : Nat → Shared → Prop)
    (turn : ∀ n s, I n s → wpAny (model prog w) A (pyNext it) (fun r s₁ => match r with
      | none => R (.ok .next) s₁
      | some v => wpAny (model prog w) A (letOwnedTupleGo target it v) (fun _ s₁' => wpAny (model prog w) A (assign target env v) (fun _ s₂ =>
          wpAny (model prog w) A (forIn ifs true fun c r => if r = true then do let ok ← isTrue c env (eval c env); pure (ForInStep.yield ok) else pure (ForInStep.yield r)) (fun ok s₃ =>
            if ok = true then wpAny (model prog w) A (eval elt env) (fun x s₄ =>
              wpAny (model prog w) A (call (.builtin "list.append") [acc, x]) (fun _ s₅ => ∃ m, m < n ∧ I m s₅) (fun _ _ => False) s₄) (fun _ _ => False) s₃
            else ∃ m, m < n ∧ I m s₃) (fun _ _ => False) s₂) (fun _ _ => False) s₁') (fun _ _ => False) s₁) (fun _ _ => False) s)
    (n : Nat) (h : I n s) :
    codeAny (model prog w) A (.compLoop (.ListComp elt [⟨target, iter, ifs, 0⟩] scope pos) 0 it acc env) R s := by
  refine codeAny_loop rfl I (fun n s hI => ?_) n h
  show wpAny _ A ((compTurn (.ListComp elt [⟨target, iter, ifs, 0⟩] scope pos) 0 it acc env).onRaise (fun x => do noteFrame x env; theTreesLotGoes x)) _ _ s
  refine wpAny_noted ?_
  rw [compTurn_list]
  refine wpAny_bind (wpAny_standAt (wpAny_bind (wpAny_mono (turn n s hI) (fun r s₁ h₁ => ?_) fun _ _ h' => h'.elim)))
  cases r with
  | none => exact wpAny_pure h₁
  | some v =>
    refine wpAny_bind (wpAny_mono h₁ (fun _ s₁' h₁' => ?_) fun _ _ h' => h'.elim)
    refine wpAny_bind (wpAny_mono h₁' (fun _ s₂ h₂ => wpAny_bind (wpAny_mono h₂ (fun ok s₃ h₃ => ?_) fun _ _ h' => h'.elim)) fun _ _ h' => h'.elim)
    cases ok with
    | false => exact wpAny_pure ⟨rfl, h₃⟩
    | true =>
      exact wpAny_bind (wpAny_bind (wpAny_mono h₃ (fun x s₄ h₄ => wpAny_bind (wpAny_mono h₄ (fun _ s₅ h₅ => wpAny_pure (wpAny_pure ⟨rfl, h₅⟩)) fun _ _ h' => h'.elim)) fun _ _ h' => h'.elim))
end

section
variable {X : Cx} {elt tg iter : Expr} {ifs : List Expr} {scope : Scope} {pos : Pos} {g : TG} {tc : TT} {te : TE} {vars : List Str} {ix : List Nat}

/-- the block is entered -/
theorem blk_enter {pins : List (Addr × Obj)} {σ : St} {H1 : Hp} {s3 : Shared} {it : Addr} {fp : List Addr} {tn : Nat → Heap → Prop} {J : It} {cl : List (Str × Addr)} {h1 : Heap} {tk : Nat}
    (caps : List Str) (hix : ix.map (fun i => X.N.getD i "") = caps) (hlen : ∀ i ∈ ix, i < X.N.length) (ok : compOk scope X.env.scope vars caps = true)
    (hcl : cl = clos X.env scope.names []) (I1 : Inv X pins σ H1 s3) (T : Turn X.prog X.w X.K tg J fp it tn) (st3 : tn 0 s3.heap) (fo3 : ∀ b ∈ fp, FpOk X pins H1 b)
    (hns : h1.Ns s3.heap.objs.size (fun x => ([] : List (Str × Value)).reverse.lookup x))
    (hsb : Heap.SameBut s3.heap.objs.size (s3.heap.push { cls := .type (if (some X.env).isSome then "dict" else "frame"), data := .dict #[] }) h1) :
    Inv (blk X scope (vars ++ caps) cl s3.heap.objs.size fp s3 H1) [] (start2 vars.length ix σ) H1 { s3 with heap := h1, toks := tk } ∧ tn 0 h1 ∧
    (∀ H' : Hp, (∀ b ∈ fp, H' b = none) → ∀ b ∈ fp, FpOk (blk X scope (vars ++ caps) cl s3.heap.objs.size fp s3 H1) [] H' b) ∧
    (∀ (σ' : St) (H' : Hp) (s' : Shared), Inv (blk X scope (vars ++ caps) cl s3.heap.objs.size fp s3 H1) [] σ' H' s' → Inv X pins σ H' s' ∧ (∃ m, s'.heap.Ns s3.heap.objs.size m) ∧ FpOk X pins H' s3.heap.objs.size) := by
  unfold compOk at ok
  simp only [Bool.and_eq_true] at ok
  obtain ⟨⟨⟨ok1, ok2⟩, ok3⟩, ok4⟩ := ok
  have hkind : scope.kind = .function := eq_of_beq ok1
  have nms := List.all_eq_true.mp ok2
  have hcell : ∀ y ∈ scope.names, y.2 ≠ .cell := fun y hy z => by have := nms y hy; simp [z] at this
  have hfree : ∀ y ∈ scope.names, y.2 = .free → X.env.scope.names.lookup y.1 = some .cell := fun y hy z => by
    have := nms y hy
    simp only [Bool.and_eq_true, Bool.or_eq_true, bne_iff_ne, ne_eq, beq_iff_eq] at this
    rcases this.2 with q | q
    · exact absurd z q
    · exact q
  have hXk : (X.env.scope.kind == ScopeKind.function) = true := by rw [I1.ok.kind]; rfl
  have fplt : ∀ b ∈ fp, b < s3.heap.objs.size := fun b hb => by
    obtain ⟨o, e, _⟩ := T.obj _ _ st3 b hb
    exact Heap.lt_size e
  have cells : ∀ y c, cl.lookup y = some c → X.env.cells.lookup y = some c := fun y c e => by
    subst hcl
    rcases clos_mem _ _ _ _ e with q | q
    · exact q
    · cases q
  have relab : ∀ y, (compEnvC scope cl s3.heap.objs.size X.env).kindOf y = (scope.names.lookup y).map fun k => if (k == NameKind.free && X.env.scope.kind == .function && X.env.kindOf y == some .cell) = true then NameKind.cell else k := fun y => lookup_relab scope.names y
  have memL : ∀ {l : List (Str × NameKind)} {y k}, l.lookup y = some k → (y, k) ∈ l := fun {l y k} e => PySem.mem_of_lookup e
  have capk : ∀ y, scope.names.lookup y = some .free → X.env.scope.names.lookup y = some .cell ∧ (compEnvC scope cl s3.heap.objs.size X.env).kindOf y = some .cell ∧ ∃ c, X.env.cells.lookup y = some c ∧ cl.lookup y = some c := fun y e => by
    have h1 := hfree _ (memL e) rfl
    obtain ⟨c, hc1⟩ := I1.ok.has y (.inl h1)
    have h2 : ((clos X.env scope.names []).lookup y).isSome = true := clos_has _ _ _ c (memL e) hc1
    rw [← hcl] at h2
    obtain ⟨c', hc2⟩ := Option.isSome_iff_exists.mp h2
    have := cells _ _ hc2
    rw [hc1] at this; cases this
    refine ⟨h1, ?_, c, hc1, hc2⟩
    have h1' : X.env.kindOf y = some .cell := h1
    rw [relab, e]
    simp [hXk, h1']
  have old : ∀ b o, s3.heap.get? b = some o → h1.get? b = some o := fun b o e => (hsb.2 b (Nat.ne_of_lt (Heap.lt_size e))).trans (Heap.get?_push_of_some _ e)
  have hC : H1 s3.heap.objs.size = none := I1.hok.fresh (Nat.le_refl _)
  -- the block's context at its start
  have okB : (blk X scope (vars ++ caps) cl s3.heap.objs.size fp s3 (H1)).Ok := {
    mod := I1.ok.mod
    kind := hkind
    glob := I1.ok.glob
    blt := I1.ok.blt
    above := Nat.le_refl _
    inj := fun x y c e1 e2 => I1.ok.inj x y c (cells _ _ e1) (cells _ _ e2)
    has := fun y hy => by
      have hy : (compEnvC scope cl s3.heap.objs.size X.env).kindOf y = some .cell ∨ (compEnvC scope cl s3.heap.objs.size X.env).kindOf y = some .free := hy
      rw [relab] at hy
      have : scope.names.lookup y = some .free := by
        cases q : scope.names.lookup y with
        | none => rw [q] at hy; simp at hy
        | some k =>
          rw [q] at hy
          simp only [Option.map_some, Option.some.injEq] at hy
          by_cases hk : k = .free
          · rw [hk]
          · have nf : (k == NameKind.free) = false := by
              cases z : k == NameKind.free with
              | false => rfl
              | true => exact absurd (eq_of_beq z) hk
            rw [nf] at hy
            simp only [Bool.false_and, Bool.false_eq_true, if_false] at hy
            rcases hy with hy | hy
            · exact absurd hy (hcell _ (memL q))
            · exact absurd hy hk
      obtain ⟨_, _, c, _, e⟩ := capk y this
      exact ⟨c, e⟩
    cab := fun y c e => nomatch e
    hd := I1.ok.hd
    frames := I1.ok.frames
    stk := .inl rfl
    exf := fun b hb => ⟨Nat.ne_of_lt (fplt b hb), fun y c e => (fo3 b hb).2.2.2.2.1 y c (cells _ _ e)⟩
    bs := fun b o e => I1.bs b o e
    bsz := Nat.le_trans I1.ok.bsz I1.sz
    noex := fun b o e hb => by
      obtain ⟨_, _, _, q, _⟩ := fo3 b hb
      rcases q with q | q
      · exact I1.ok.noex b o e q
      · exact absurd (Nat.lt_of_lt_of_le (Heap.lt_size e) I1.ok.bsz) (Nat.not_lt.mpr q)
    exfs := fun b hb z => by
      obtain ⟨_, q1, q2, _⟩ := fo3 b hb
      rcases List.mem_cons.mp (I1.stkSub b z) with w | w
      · exact q1 w
      · exact q2 w
    funs := I1.stack
    frf := I1.stkFree }
  have J0 : Inv (blk X scope (vars ++ caps) cl s3.heap.objs.size fp s3 (H1)) [] (start2 vars.length ix σ) (H1) { s3 with heap := h1, toks := tk } := by
    refine ⟨okB, rfl, I1.bare, Un.kept old, ⟨_, hns, fun i y v e1 e2 e3 => ?_⟩, fun y c e => ?_, hC, fun y c e => I1.freeC y c (cells _ _ e), (fun p hp => nomatch hp), I1.hok.kept old, ?_⟩
    · have hi : vars.length ≤ i := by
        by_cases q : i < vars.length
        · unfold start2 at e2
          rw [List.getElem?_append_left (by simpa using q), List.getElem?_replicate] at e2
          split at e2 <;> cases e2
        · omega
      unfold start2 at e2
      rw [List.getElem?_append_right (by simpa using hi), List.getElem?_map] at e2
      have e1 : (vars ++ caps)[i]? = some y := e1
      rw [List.getElem?_append_right hi, ← hix, List.getElem?_map] at e1
      simp only [List.length_replicate] at e2
      cases q : ix[i - vars.length]? with
      | none => rw [q] at e1; cases e1
      | some j =>
        rw [q] at e1 e2
        simp only [Option.map_some, Option.some.injEq] at e1 e2
        have hj := hlen j (List.mem_of_getElem? q)
        have hyc : y ∈ caps := by rw [← hix, ← e1]; exact List.mem_map.mpr ⟨j, List.mem_of_getElem? q, rfl⟩
        have hfr : scope.names.lookup y = some .free := eq_of_beq (List.all_eq_true.mp ok4 y hyc)
        obtain ⟨h1', h2', c, h3', h4'⟩ := capk y hfr
        obtain ⟨mm, hn2, hl2⟩ := I1.loc
        have hNj : X.N[j]? = some y := by rw [List.getElem?_eq_getElem hj, ← e1, List.getD_eq_getElem?_getD, List.getElem?_eq_getElem hj]; rfl
        have hσj : σ[j]? = some (some v) := by
          rw [List.getD_eq_getElem?_getD] at e2
          cases z : σ[j]? with
          | none => rw [z] at e2; cases e2
          | some o => rw [z] at e2; simp only [Option.getD_some] at e2; rw [e2]
        obtain ⟨u, ru, lu⟩ := hl2 j y v hNj hσj (.inr (.inl h1'))
        refine ⟨u, ru, .inr ⟨.inl h2', c, h4', ?_⟩⟩
        rcases lu with ⟨k1, _⟩ | ⟨_, c2, k2, k3⟩
        · have h1'' : X.env.kindOf y = some .cell := h1'
          rw [h1''] at k1; cases k1
        · rw [h3'] at k2; cases k2
          exact k3.keeps old
    · obtain ⟨v, hv⟩ := I1.cell y c (cells _ _ e)
      exact ⟨v, hv.keeps old⟩
    · show (start2 vars.length ix σ).length = (vars ++ caps).length
      unfold start2
      rw [← hix]; simp
  refine ⟨J0, T.keep _ _ _ st3 fun b hb o e => old b o e, fun H' hn b hb => ⟨hn b hb, (okB.exf b hb).1, okB.exfs b hb, .inl hb, (okB.exf b hb).2, fun p hp => nomatch hp⟩, fun σ' H' s' Y => ?_⟩
  obtain ⟨mm, hn2, _⟩ := Y.loc
  exact ⟨I1.call' (ch := fp) Y.os Y.base Y.hok Y.bare fun b hb => ⟨(fo3 b hb).2.2.2.1, (fo3 b hb).2.1, (fo3 b hb).2.2.2.2.1, (fo3 b hb).2.2.2.2.2⟩, ⟨mm, hn2⟩, I1.fpOk (Nat.le_refl _) Y.free⟩

/-- the block runs -/
theorem comp_block {pins : List (Addr × Obj)} {σ : St} {H : Hp} {s : Shared} {E : Value → Shared → Prop} {Qr : VK} {RR : Value → Addr → Result → Shared → Prop} {it : Addr} {fp : List Addr} {tn : Nat → Heap → Prop} {J : It} {cl : List (Str × Addr)}
    (hc : X.calm = true) (caps : List Str) (hix : ix.map (fun i => X.N.getD i "") = caps) (hlen : ∀ i ∈ ix, i < X.N.length) (ok : compOk scope X.env.scope vars caps = true) (nd : (vars ++ caps).Nodup)
    (hg : ∀ cl C fp s H, PG (blk X scope (vars ++ caps) cl C fp s H) tg g) (ht : ∀ cl C fp s H, PTs (blk X scope (vars ++ caps) cl C fp s H) ifs tc) (he : ∀ cl C fp s H, PE (blk X scope (vars ++ caps) cl C fp s H) elt te)
    (hcl : cl = clos X.env scope.names []) (I : Inv X pins σ H s) (T : Turn X.prog X.w X.K tg J fp it tn) (st : tn 0 s.heap) (fo : ∀ b ∈ fp, FpOk X pins H b)
    (rd : ∀ D, H D = none → ∃ W : Nat → Nat → List V → St → Hp → Prop, (∃ m, W 0 m [] (start2 vars.length ix σ) (upd H D (.lst []))) ∧
      ∀ i m ys σ' H', W i m ys σ' H' → (J.stop i H' ∧ Qr (.ref D) H') ∨ (J.go i H' ∧ ∀ x H2, J.yld i H' x H2 → g x σ' H2 fun σ3 H3 => tc σ3 H3 fun b H4 =>
        if b = true then te σ3 H4 fun y H5 => H5 D = some (.lst ys) ∧ ys.length < sizeLine ∧ ∃ m', m' < m ∧ W (i + 1) m' (ys ++ [y]) σ3 (upd H5 D (.lst (ys ++ [y]))) else ∃ m', m' < m ∧ W (i + 1) m' ys σ3 H4))
    (hRR : ∀ D C H' s' m, Inv X pins σ H' s' → s'.heap.Ns C m → FpOk X pins H' C → Qr (.ref D) H' → RR (.ref D) C (.ok .next) s') :
    wpAny (model X.prog X.w) X.A (newList []) (fun acc s₃ => wpAny (model X.prog X.w) X.A (newFunctionEnv scope X.env.globals cl [] X.env.qual none .none (some X.env)) (fun cenv s₄ =>
      codeAny (model X.prog X.w) X.A (.compStart (.ListComp elt [⟨tg, iter, ifs, 0⟩] scope pos) 0 (.ref it) acc { cenv with scope := relabel scope X.env }) (RR acc cenv.locals) s₄) E s₃) E s := by
  have okk := ok
  unfold compOk at okk
  simp only [Bool.and_eq_true] at okk
  have hkind : scope.kind = .function := eq_of_beq okk.1.1.1
  have nms := List.all_eq_true.mp okk.1.1.2
  have hcell : ∀ y ∈ scope.names, y.2 ≠ .cell := fun y hy z => by have := nms y hy; simp [z] at this
  -- a new list
  have hf : H s.heap.objs.size = none := I.hok.fresh (Nat.le_refl _)
  refine wpAny_newObj_type ?_
  have I1 := I.laid (a := s.heap.objs.size) (o := .lst []) (h' := s.heap.push { cls := .type "list", dict := none, data := .seq ([] : List Value).toArray }) (t' := s.toks) (fun b u e => Heap.get?_push_of_some _ e) (Nat.le_refl _) ⟨Nat.zero_le _, [], 0, .nil, Heap.get?_push_size _ rfl⟩
  obtain ⟨W, ⟨m0, w0⟩, turn⟩ := rd _ hf
  generalize hD : s.heap.objs.size = D at *
  generalize hs3 : ({ s with heap := s.heap.push { cls := .type "list", dict := none, data := .seq ([] : List Value).toArray } } : Shared) = s3 at *
  have st3 : tn 0 s3.heap := T.keep _ _ _ st fun b hb o e => by rw [← hs3]; exact Heap.get?_push_of_some _ e
  have nD : ∀ b ∈ fp, b ≠ D := fun b hb z => by
    obtain ⟨o, e, _⟩ := T.obj _ _ st b hb
    have := Heap.lt_size e
    rw [z, hD] at this
    exact Nat.lt_irrefl _ this
  have fo3 : ∀ b ∈ fp, FpOk X pins (upd H D (.lst [])) b := fun b hb => by
    obtain ⟨a0, a1⟩ := fo b hb
    exact ⟨by rw [upd_ne (nD b hb)]; exact a0, a1⟩
  refine wpAny_newFunctionEnv hcell (by intro y hy; simp at hy) (fun h1 hns hsb => ?_) hkind
  obtain ⟨J0, st4, stat, fin⟩ := blk_enter (tk := s3.toks + ([] : List (Str × Value)).length) caps hix hlen ok hcl I1 T st3 fo3 hns hsb
  have loop : ∀ s₄ : Shared, s₄ = { s3 with heap := h1, toks := s3.toks + ([] : List (Str × Value)).length } →
      codeAny (model X.prog X.w) X.A (.compLoop (.ListComp elt [⟨tg, iter, ifs, 0⟩] scope pos) 0 (.ref it) (.ref D) (compEnvC scope cl s3.heap.objs.size X.env)) (RR (.ref D) s3.heap.objs.size) s₄ := by
    rintro s₄ rfl
    refine compLoop_any (fun n s' => ∃ i ys σ' H', Inv (blk X scope (vars ++ caps) cl s3.heap.objs.size fp s3 (upd H D (.lst []))) [] σ' H' s' ∧ tn i s'.heap ∧ (∀ b ∈ fp, H' b = none) ∧ W i n ys σ' H') ?_ m0 ⟨0, [], _, _, J0, st4, fun b hb => (fo3 b hb).1, w0⟩
    rintro n s5 ⟨i, ys, σ5, H5, J5, t5, f5, w5⟩
    rcases turn i n ys σ5 H5 w5 with ⟨stop, q⟩ | ⟨go, step⟩
    · refine thn (T.done (blk X scope (vars ++ caps) cl s3.heap.objs.size fp s3 (upd H D (.lst []))) rfl rfl rfl hc i [] s5 σ5 H5 _ J5 (stat _ f5) t5 stop) fun r s6 ⟨hr, J6⟩ => ?_
      subst hr
      obtain ⟨K1, ⟨mm, K2⟩, K3⟩ := fin _ _ _ J6
      exact hRR D _ _ _ mm K1 K2 K3 q
    · refine thn (T.item (blk X scope (vars ++ caps) cl s3.heap.objs.size fp s3 (upd H D (.lst []))) rfl rfl rfl hc i [] s5 σ5 H5 _ J5 (stat _ f5) t5 go) fun r s6 ⟨u, hr, h6⟩ => ?_
      subst hr
      refine thn h6 fun _ s7 ⟨x, H7, J7, r7, y7, t7, f7⟩ => ?_
      have J7' := J7.pinned (stat _ f7) (T.obj _ _ t7)
      have keepT : ∀ {σ' H' s'}, Inv (blk X scope (vars ++ caps) cl s3.heap.objs.size fp s3 (upd H D (.lst []))) ([] ++ pinsAt fp s7.heap) σ' H' s' → tn (i + 1) s'.heap ∧ ∀ b ∈ fp, H' b = none := fun {σ' H' s'} Y =>
        ⟨T.keep _ _ _ t7 fun b hb o e => (Y.pin (b, o) (List.mem_append_right _ (List.mem_append_right _ (mem_pinsAt hb e)))).1, fun b hb => by
          obtain ⟨o, e, _⟩ := T.obj _ _ t7 b hb
          exact (Y.pin (b, o) (List.mem_append_right _ (List.mem_append_right _ (mem_pinsAt hb e)))).2.1⟩
      refine thn (hg _ _ _ _ _ _ s7 σ5 H7 x u _ J7' r7 (step x H7 y7)) fun _ s8 ⟨σ8, H8, J8, q8⟩ => ?_
      refine thn (ht _ _ _ _ _ _ s8 σ8 H8 _ J8 q8) fun b s9 ⟨H9, J9, q9⟩ => ?_
      cases b with
      | false =>
        rw [if_neg Bool.false_ne_true] at q9 ⊢
        obtain ⟨m', hm, w'⟩ := q9
        obtain ⟨k1, k2⟩ := keepT J9
        exact ⟨m', hm, i + 1, ys, σ8, H9, J9.unpinned, k1, k2, w'⟩
      | true =>
        rw [if_pos rfl] at q9 ⊢
        refine thn (he _ _ _ _ _ _ s9 σ8 H9 _ J9 q9) fun v s10 ⟨y, H10, J10, r10, q10, l10, m', hm, w'⟩ => ?_
        refine thn (mt_append _ s10 σ8 H10 (.ref D) [y] (.ref D) [v] (fun z H11 => z = .non ∧ H11 = upd H10 D (.lst (ys ++ [y]))) J10 rfl (.cons r10 .nil) ⟨D, ys, y, rfl, rfl, q10, l10, rfl, rfl⟩) fun _ s11 ⟨_, H11, J11, _, _, e11⟩ => ?_
        subst e11
        obtain ⟨k1, k2⟩ := keepT J11
        exact ⟨m', hm, i + 1, ys ++ [y], σ8, _, J11.unpinned, k1, k2, w'⟩
  exact codeAny_compStart_list (loop _ rfl) (T.self _ 0 _ _ _ st4 (loop _ rfl))
end
end L2

namespace L2
open PySem PySem.Spec PyProof.Rows PySem.W
section
variable {X : Cx} {elt tg iter : Expr} {ifs : List Expr} {scope : Scope} {pos : Pos} {wi : TI} {g : TG} {tc : TT} {te : TE} {vars : List Str} {ix : List Nat}
theorem closure_is {pins : List (Addr × Obj)} {σ : St} {H : Hp} {s : Shared} {caps : List Str} (I : Inv X pins σ H s) (ok : compOk scope X.env.scope vars caps = true) : closureFor scope X.env = pure (clos X.env scope.names []) ∧ scope.kind = .function ∧
    ∀ x ∈ scope.names, x.2 = .local → scope.names.lookup x.1 = some .local := by
  unfold compOk at ok
  simp only [Bool.and_eq_true] at ok
  obtain ⟨⟨⟨ok1, ok2⟩, _⟩, _⟩ := ok
  have nms := List.all_eq_true.mp ok2
  refine ⟨?_, eq_of_beq ok1, fun y hy z => ?_⟩
  · rw [closureFor_eq, clos_for (env := X.env) scope.names [] fun y hy z => ?_, pure_bind]
    · have := nms y hy
      simp only [Bool.and_eq_true, Bool.or_eq_true, bne_iff_ne, ne_eq, beq_iff_eq] at this
      rcases this.2 with q | q
      · exact absurd z q
      · exact I.ok.has y.1 (.inl q)
  · have := nms y hy
    simp only [Bool.and_eq_true, Bool.or_eq_true, bne_iff_ne, ne_eq, beq_iff_eq] at this
    rcases this.1.2 with q | q
    · exact absurd z q
    · exact q
theorem pe_comp (hc : X.calm = true) (caps : List Str) (hix : ix.map (fun i => X.N.getD i "") = caps) (hlen : ∀ i ∈ ix, i < X.N.length) (ok : compOk scope X.env.scope vars caps = true) (nd : (vars ++ caps).Nodup)
    (hi : PI X tg iter wi) (hg : ∀ cl C fp s H, PG (blk X scope (vars ++ caps) cl C fp s H) tg g) (ht : ∀ cl C fp s H, PTs (blk X scope (vars ++ caps) cl C fp s H) ifs tc) (he : ∀ cl C fp s H, PE (blk X scope (vars ++ caps) cl C fp s H) elt te)
    (hs : ∀ x, foldedSetIterable iter X.env x = pure x := by intro _; rfl) : PE X (.ListComp elt [⟨tg, iter, ifs, 0⟩] scope pos) (tComp wi g tc te vars.length ix) := by
  intro pins s σ H Q I h
  obtain ⟨h1, h2, h3⟩ := closure_is I ok
  rw [eval_ListComp]
  refine wpAny_comprehension_free (use := none) rfl hs h1 h2 h3 (thn (hi pins s σ H _ I h) fun v s1 h1 => thn h1 fun itv s2 h2 => ?_)
  obtain ⟨it, fp, tn, J, H2, rfl, I2, T, st2, f2, rd⟩ := h2
  refine comp_block (RR := fun acc C => compPost (model X.prog X.w) X.A X.xe none (EP X pins σ Q) acc C) hc caps hix hlen ok nd hg ht he rfl I2 T st2 f2 rd fun D C H' s' m Y hn fo q => ⟨m, hn, fun h' sb => ?_⟩
  exact ⟨.ref D, H', Y.turned (t' := s'.toks) (fun b o hb e => (sb.2 b hb).trans e) fo.1 fo.2.1 fo.2.2.2.1 fo.2.2.2.2.1 fo.2.2.2.2.2, rfl, q⟩
/-- y = [..], where the comprehension's names go behind the store -/
theorem ps_setC {i : Nat} {y : Str} {py spos : Pos} (hN : X.N.Nodup) (hiy : X.N[i]? = some y) (hy : X.env.scope.names.lookup y = some .local) (hsw : swapsWith (.ListComp elt [⟨tg, iter, ifs, 0⟩] scope pos) (some (.Name y py)) spos.line X.env = pure true)
    (hc : X.calm = true) (caps : List Str) (hix : ix.map (fun i => X.N.getD i "") = caps) (hlen : ∀ i ∈ ix, i < X.N.length) (ok : compOk scope X.env.scope vars caps = true) (nd : (vars ++ caps).Nodup)
    (hi : PI X tg iter wi) (hg : ∀ cl C fp s H, PG (blk X scope (vars ++ caps) cl C fp s H) tg g) (ht : ∀ cl C fp s H, PTs (blk X scope (vars ++ caps) cl C fp s H) ifs tc) (he : ∀ cl C fp s H, PE (blk X scope (vars ++ caps) cl C fp s H) elt te)
    (hs : ∀ x, foldedSetIterable iter X.env x = pure x := by intro _; rfl) : PS X (.Assign [.Name y py] (.ListComp elt [⟨tg, iter, ifs, 0⟩] scope pos) spos) (tAsg (tComp wi g tc te vars.length ix) (gName i)) := by
  intro pins s σ H D I h
  obtain ⟨h1, h2, h3⟩ := closure_is I ok
  rw [exec_Assign_Name_used _ _ _ _ hsw]
  refine wpAny_bind (wpAny_standAt (wpAny_bind ?_))
  show wpAny _ X.A (do let _ ← comprehension (.ListComp elt [⟨tg, iter, ifs, 0⟩] scope pos) scope X.env _ (newList []) false (eval iter X.env) (some (assign (.Name y py) X.env))) _ _ s
  refine wpAny_bind (wpAny_mono (wpAny_comprehension_free (use := some (assign (.Name y py) X.env)) (Q := fun _ s' => SP X pins D .next s') rfl hs h1 h2 h3 (thn (hi pins s σ H _ I h) fun v s1 h1 => thn h1 fun itv s2 h2 => ?_)) (fun _ s' hq => wpAny_pure (wpAny_pure hq)) fun _ _ e => e)
  obtain ⟨it, fp, tn, J, H2, rfl, I2, T, st2, f2, rd⟩ := h2
  refine comp_block (Qr := fun x H1 => gName i x σ H1 D.nx) (RR := fun acc C => compPost (model X.prog X.w) X.A X.xe (some (assign (.Name y py) X.env)) (fun _ s' => SP X pins D .next s') acc C) hc caps hix hlen ok nd hg ht he rfl I2 T st2 f2 rd fun Da C H' s' m Y hn fo q => ?_
  show wpAny _ X.A (assign (.Name y py) X.env (.ref Da)) _ _ _
  refine wpAny_assign_Name (store_ok2 Y hN hiy (Or.inl hy) (v := .ref Da) rfl (fun s2 Y2 ⟨a, sb, ha⟩ => ?_) (.inr hy))
  have ne : C ≠ a := by
    rcases ha with rfl | ha
    · exact fo.2.1
    · exact fun z => fo.2.2.2.2.1 _ _ ha z.symm
  refine ⟨m, hn.sameBut sb ne, fun h' sb2 => ?_⟩
  exact ⟨_, H', Y2.turned (t' := s2.toks) (fun b o hb e => (sb2.2 b hb).trans e) fo.1 fo.2.1 fo.2.2.2.1 fo.2.2.2.2.1 fo.2.2.2.2.2, q⟩
end

/-! ### its readings -/
end L2

namespace L2
open PySem PySem.Spec PyProof.Rows PySem.W PySem.SeqAt

/-! ### plain data, nested -/
section
variable {X : Cx} {pins : List (Addr × Obj)} {σ : St} {H : Hp} {s : Shared}

/-- isinstance(x, C), C one class -/
theorem call_isi : CallR X (.builtin "isinstance") (fun vs H Q => ∃ x c cv t b, vs = [x, c] ∧ (∀ u, RelV c u → u = cv) ∧ TyOf X.K H x t ∧ kitOne X.K t cv = some b ∧ Q (.bl b) H) := by
  intro pins s σ H xs us Q I r h
  obtain ⟨x, c, cv, t, b, rfl, hc, ty, e, q⟩ := h
  obtain ⟨u, w', rfl, ru, rw'⟩ := vals2 r
  cases hc w' rw'
  exact isinst_ok I ru ty e fun tk => ⟨.bl b, H, I.tok _, rfl, q⟩
/-- isinstance(x, (C, D)), the classes in a tuple just made -/
theorem call_isi2 : CallR X (.builtin "isinstance") (fun vs H Q => ∃ x a c d cv dv t b, vs = [x, .ref a] ∧ H a = some (.tup [c, d]) ∧ (∀ u, RelV c u → u = cv) ∧ (∀ u, RelV d u → u = dv) ∧ TyOf X.K H x t ∧ kitAny X.K t [cv, dv] = some b ∧ Q (.bl b) H) := by
  intro pins s σ H xs us Q I r h
  obtain ⟨x, a, c, d, cv, dv, t, b, rfl, ha, hc, hd, ty, e, q⟩ := h
  obtain ⟨u, w', rfl, ru, rw'⟩ := vals2 r
  cases (show w' = Value.ref a from rw')
  obtain ⟨_, its, rv, o, h1, h2, n, h3⟩ := (show ObjOk X.prog X.w H s.heap a (.tup [c, d]) from I.hok a _ ha)
  obtain ⟨u1, u2, rfl, r1, r2⟩ := vals2 rv
  cases hc u1 r1
  cases hd u2 r2
  obtain ⟨oc, od, odt, osl⟩ := o
  cases h2
  cases h3
  have fin : ∀ tk, EP X pins σ Q (.bool b) { s with toks := tk } := fun tk => ⟨.bl b, H, I.tok _, rfl, q⟩
  have kIn := I.kIn
  cases ty with
  | non => cases (show u = Value.none from ru); exact kia_tup kitx_none kIn True.intro h1 e (fun z => nomatch z) fin
  | bl y => cases (show u = Value.bool y from ru); exact kia_tup kitx_bool kIn True.intro h1 e (fun z => nomatch z) fin
  | int i => obtain ⟨t, z⟩ := (show ∃ t, u = Value.int i t from ru); cases z; exact kia_tup kitx_int kIn True.intro h1 e (fun z => nomatch z) fin
  | str y => obtain ⟨t, z⟩ := (show ∃ t, u = Value.str y t from ru); cases z; exact kia_tup kitx_str kIn True.intro h1 e (fun z => nomatch z) fin
  | flt y => obtain ⟨t, z⟩ := (show ∃ t, u = Value.float y t from ru); cases z; exact kia_tup kitx_float kIn True.intro h1 e (fun z => nomatch z) fin
  | @lst a' xs ea =>
    cases (show u = Value.ref a' from ru)
    obtain ⟨_, _, n, _, g1⟩ := (show ObjOk X.prog X.w H s.heap a' (.lst xs) from I.hok a' _ ea)
    exact kia_tup kitx_list kIn ⟨_, g1, rfl⟩ h1 e (fun z => nomatch z) fin
  | @frz a' ob xs ea =>
    cases (show u = Value.ref a' from ru)
    obtain ⟨_, _, _, n, _, g1⟩ := (show ObjOk X.prog X.w H s.heap a' (.frz ob (.lst xs)) from I.hok a' _ ea)
    exact kia_tup kitx_list kIn ⟨_, g1, rfl⟩ h1 e (fun z => nomatch z) fin
  | @tup a' xs ea =>
    cases (show u = Value.ref a' from ru)
    obtain ⟨_, _, _, p⟩ := (show ObjOk X.prog X.w H s.heap a' (.tup xs) from I.hok a' _ ea)
    obtain ⟨o, g1, g2, _⟩ := p
    exact kia_tup kitx_tuple kIn ⟨o, g1, g2⟩ h1 e (fun z => nomatch z) fin
  | @dK a' kvs ea =>
    cases (show u = Value.ref a' from ru)
    obtain ⟨_, _, vs, _, p⟩ := (show ObjOk X.prog X.w H s.heap a' (.dK kvs) from I.hok a' _ ea)
    obtain ⟨o, es, ep, g1, g2, _⟩ := p
    exact kia_tup kitx_dict kIn ⟨o, g1, g2.1⟩ h1 e (fun z => nomatch z) fin
  | @dT a' kvs ea =>
    cases (show u = Value.ref a' from ru)
    obtain ⟨_, _, xs, _, o, es, ep, g1, g2, _⟩ := (show ObjOk X.prog X.w H s.heap a' (.dT kvs) from I.hok a' _ ea)
    exact kia_tup kitx_dict kIn ⟨o, g1, g2.1⟩ h1 e (fun z => nomatch z) fin
  | @ins a' C dx fs ea cl ha hn htk hm =>
    cases (show u = Value.ref a' from ru)
    obtain ⟨mA, O, _⟩ := ins_get I.hok ea
    obtain ⟨od, J, _⟩ := O.look
    exact kia_tup (kitx_own (cl.get _) cl.hd ha hn htk hm) kIn J h1 e (fun z => nomatch z) fin
end
end L2

namespace L2
open PySem PySem.Spec PyProof.Rows

/-! ### lists of pairs as tables -/
section
variable {κ : Type} [DecidableEq κ]
def valV (kvs : List (κ × V)) (k : κ) : Option V := (kvs.find? fun kv => decide (kv.1 = k)).map (·.2)
/-- in its place, or at the end -/
def putK (kvs : List (κ × V)) (k : κ) (v : V) : List (κ × V) :=
  if (kvs.any fun kv => decide (kv.1 = k)) = true then kvs.map (fun kv => if kv.1 = k then (kv.1, v) else kv) else kvs ++ [(k, v)]
theorem valV_pos {p : κ × V} {r : List (κ × V)} {k : κ} (e : p.1 = k) : valV (p :: r) k = some p.2 := by simp [valV, List.find?_cons, e]
theorem valV_neg {p : κ × V} {r : List (κ × V)} {k : κ} (e : ¬ p.1 = k) : valV (p :: r) k = valV r k := by simp [valV, List.find?_cons, e]
theorem length_putK (kvs : List (κ × V)) (k : κ) (v : V) : (putK kvs k v).length ≤ kvs.length + 1 := by
  unfold putK
  split
  · rw [List.length_map]; omega
  · rw [List.length_append, List.length_cons, List.length_nil]; omega
theorem RelO.isSome_eq {o : Option V} {u : Option Value} (r : RelO o u) : o.isSome = u.isSome := by
  cases o with
  | none => cases u with
    | none => rfl
    | some _ => exact (show False from r).elim
  | some _ => cases u with
    | none => exact (show False from r).elim
    | some _ => rfl
/-- raw tables of the same keys -/
theorem KV.val {kvs : List (κ × V)} {vs : List (κ × Value)} (r : KV kvs vs) (k : κ) : RelO (valV kvs k) (valueAt vs k) := by
  unfold KV at r
  induction r with
  | nil => exact True.intro
  | @cons p q ps qs h t ih =>
    obtain ⟨h1, h2⟩ := h
    by_cases e : p.1 = k
    · have e' : q.1 = k := h1.symm.trans e
      have b : valueAt (q :: qs) k = some q.2 := by simp [valueAt, List.find?_cons, e']
      rw [valV_pos e, b]; exact h2
    · have e' : ¬ q.1 = k := fun z => e (h1.trans z)
      have b : valueAt (q :: qs) k = valueAt qs k := by simp [valueAt, List.find?_cons, e']
      rw [valV_neg e, b]; exact ih
theorem KV.any {kvs : List (κ × V)} {vs : List (κ × Value)} (r : KV kvs vs) (k : κ) : (kvs.any fun kv => decide (kv.1 = k)) = vs.any fun kv => decide (kv.1 = k) := by
  unfold KV at r
  induction r with
  | nil => rfl
  | cons h t ih => rw [List.any_cons, List.any_cons, ih, h.1]
theorem KV.repl {kvs : List (κ × V)} {vs : List (κ × Value)} (r : KV kvs vs) (k : κ) {y : V} {u : Value} (ry : RelV y u) :
    KV (kvs.map fun kv => if kv.1 = k then (kv.1, y) else kv) (vs.map fun kv => if kv.1 = k then (kv.1, u) else kv) := by
  unfold KV at r ⊢
  induction r with
  | nil => exact .nil
  | @cons p q ps qs h t ih =>
    rw [List.map_cons, List.map_cons]
    refine .cons ?_ ih
    obtain ⟨h1, h2⟩ := h
    by_cases e : p.1 = k
    · rw [if_pos e, if_pos (h1.symm.trans e)]; exact ⟨h1, ry⟩
    · rw [if_neg e, if_neg (fun z => e (h1.trans z))]; exact ⟨h1, h2⟩
theorem KV.put {kvs : List (κ × V)} {vs : List (κ × Value)} (r : KV kvs vs) (k : κ) {y : V} {u : Value} (ry : RelV y u) : KV (putK kvs k y) (stored vs k u) := by
  unfold putK stored
  rw [r.any k]
  by_cases e : (vs.any fun kv => decide (kv.1 = k)) = true
  · rw [if_pos e, if_pos e]; exact r.repl k ry
  · rw [if_neg e, if_neg e]; exact Paired.snoc r ⟨rfl, ry⟩
theorem KV.length {kvs : List (κ × V)} {vs : List (κ × Value)} (r : KV kvs vs) : kvs.length = vs.length := Paired.length r
end


/-! ### a tracked dict, its keys ints and texts or tuples of these -/
theorem kV_is {P : Program} {w : World} {k : Key} {u : Value} (r : RelV (kV k) u) : (mixKind P w).is k u = true := by
  cases k with
  | inl i => obtain ⟨t, e⟩ := (show ∃ t, u = Value.int i t from r); subst e; exact mixKind_int P w i t
  | inr x => obtain ⟨t, e⟩ := (show ∃ t, u = Value.str x t from r); subst e; exact mixKind_str P w x t
theorem items_are {P : Program} {w : World} : ∀ {ks : List Key} {us : List Value}, Vals (ks.map kV) us → ItemsAre (mixKind P w) ks us
  | [], _, r => by rw [List.map_nil] at r; cases r; exact .nil
  | k :: ks, _, r => by
    rw [List.map_cons] at r
    cases r with
    | cons h t => exact .cons (kV_is h) (items_are t)

/-- raw entries of a dict with tuple keys -/
abbrev KT (H : Hp) : List (List Key × V) → List (List Key × Addr × Value) → Prop := Paired fun p q => p.1 = q.1 ∧ H q.2.1 = some (.tup (p.1.map kV)) ∧ RelV p.2 q.2.2
theorem KT.val {H : Hp} {kvs : List (List Key × V)} {xs : List (List Key × Addr × Value)} (r : KT H kvs xs) (k : List Key) : RelO (valV kvs k) ((atKey xs k).map (·.2)) := by
  induction r with
  | nil => exact True.intro
  | @cons p q ps qs h t ih =>
    obtain ⟨h1, _, h2⟩ := h
    by_cases e : p.1 = k
    · have e' : q.1 = k := h1.symm.trans e
      have b : atKey (q :: qs) k = some q.2 := by simp [atKey, List.find?_cons, e']
      rw [valV_pos e, b]; exact h2
    · have e' : ¬ q.1 = k := fun z => e (h1.trans z)
      have b : atKey (q :: qs) k = atKey qs k := by simp [atKey, List.find?_cons, e']
      rw [valV_neg e, b]; exact ih
section
variable {P : Program} {w : World} {H : Hp} {h : Heap} {a : Addr}
theorem rd_of {u : HO} (ok : HOk P w H h) (e : Rd H a u) : ObjOk P w H h a u := e.ok ok
theorem dk_rd {kvs : List (Key × V)} (ok : HOk P w H h) (e : Rd H a (.dK kvs)) : kvs.length ≤ sizeLine ∧ (a == sysModules) = false ∧ ∃ vs, KV kvs vs ∧ h.DictOf (mixKind P w) a vs :=
  show ObjOk P w H h a (.dK kvs) from rd_of ok e
theorem dk_of {kvs : List (Key × V)} (ok : HOk P w H h) (e : H a = some (.dK kvs)) : kvs.length ≤ sizeLine ∧ (a == sysModules) = false ∧ ∃ vs, KV kvs vs ∧ h.DictOf (mixKind P w) a vs := dk_rd ok (.inl e)
/-- a tracked tuple of ints and texts is a key -/
theorem key_of {ks : List Key} (ok : HOk P w H h) (e : H a = some (.tup (ks.map kV))) : (tupleKind (mixKind P w)).is h ks a := by
  obtain ⟨_, its, r, o, h1, h2, n, h3⟩ := (show ObjOk P w H h a (.tup (ks.map kV)) from ok a _ e)
  exact ⟨o, its.toArray, n, h1, h2, h3, by simpa using items_are r⟩
theorem dt_rd {kvs : List (List Key × V)} (ok : HOk P w H h) (e : Rd H a (.dT kvs)) : kvs.length ≤ sizeLine ∧ (a == sysModules) = false ∧
    ∃ xs, KT H kvs xs ∧ h.DictOfH (tupleKind (mixKind P w)) a xs := by
  obtain ⟨z, y, xs, r, o, es, ep, h1, h2, h3, h4, h5⟩ := (show ObjOk P w H h a (.dT kvs) from rd_of ok e)
  refine ⟨z, y, xs, r, o, es, ep, h1, h2, h3, h4, fun x hx => ?_, h5⟩
  have all : ∀ {l : List (List Key × V)} {m : List (List Key × Addr × Value)}, KT H l m → ∀ x ∈ m, (tupleKind (mixKind P w)).is h x.1 x.2.1 := by
    intro l m q
    induction q with
    | nil => intro x hx; exact nomatch hx
    | @cons p q ps qs hq t ih =>
      intro x hx
      rcases List.mem_cons.mp hx with e | hx
      · subst e
        exact key_of ok (by rw [← hq.1]; exact hq.2.1)
      · exact ih x hx
  exact all r x hx
end

/-- what the dict at a holds at the key y -/
def DGet (H : Hp) (a : Addr) (y : V) (r : Option V) : Prop :=
  (∃ kvs k, Rd H a (.dK kvs) ∧ y = kV k ∧ r = valV kvs k) ∨ ∃ kvs k b, Rd H a (.dT kvs) ∧ y = .ref b ∧ H b = some (.tup (k.map kV)) ∧ r = valV kvs k
section
variable {X : Cx} {pins : List (Addr × Obj)} {σ : St} {H : Hp} {s : Shared} {a : Addr} {y v : V} {u r : Value} {o : Option V} {A : Around} {E : Value → Shared → Prop}

theorem Inv.big (I : Inv X pins σ H s) : sysModules < s.heap.objs.size := by
  have h : mainGlobals < s.heap.objs.size := (I.mod.glob.keeps I.bk).lt
  exact Nat.lt_trans (by decide) h

/-- d[y], there -/
theorem d_getItem {Q : Value → Shared → Prop} (hu : A.units + 1 < cLine) (I : Inv X pins σ H s) (g : DGet H a y (some v)) (ry : RelV y u) (h : ∀ w' s', Inv X pins σ H s' → RelV v w' → Q w' s') :
    wpAny (model X.prog X.w) A (getItem (.ref a) u) Q E s := by
  rcases g with ⟨kvs, k, e, ey, l⟩ | ⟨kvs, k, b, e, ey, eb, l⟩
  · subst ey
    obtain ⟨z, hd, vs, rel, dd⟩ := dk_rd I.hok e
    obtain ⟨w', hw, rw'⟩ := RelO.some_of (v := v) (o := valueAt vs k) (by rw [l]; exact rel.val k)
    exact wpAny_getItem_of (kV_is ry) dd.mapOf hw (h w' _ (I.tok _) rw')
  · subst ey
    cases (show u = Value.ref b from ry)
    obtain ⟨z, hd, xs, rel, dd⟩ := dt_rd I.hok e
    obtain ⟨w', hw, rw'⟩ := RelO.some_of (v := v) (o := (atKey xs k).map (·.2)) (by rw [l]; exact rel.val k)
    obtain ⟨p, hp, hp2⟩ := Option.map_eq_some_iff.mp hw
    refine wpAny_getItem_heap (tupleKind_room_in1 hu) (key_of I.hok eb) dd hp ?_
    rw [hp2]
    exact h w' _ (I.tok _) rw'
/-- y in d -/
theorem d_in {Q : Value → Shared → Prop} (hu : A.units + 1 < cLine) (I : Inv X pins σ H s) (g : DGet H a y o) (ry : RelV y u) (h : ∀ s', Inv X pins σ H s' → Q (.bool o.isSome) s') :
    wpAny (model X.prog X.w) A (compareOp .In u (.ref a)) Q E s := by
  rcases g with ⟨kvs, k, e, ey, l⟩ | ⟨kvs, k, b, e, ey, eb, l⟩
  · subst ey
    obtain ⟨z, hd, vs, rel, dd⟩ := dk_rd I.hok e
    refine wpAny_in_of (kV_is ry) hd dd.mapOf ?_
    rw [← (rel.val k).isSome_eq, ← l]
    exact h _ (I.tok _)
  · subst ey
    cases (show u = Value.ref b from ry)
    obtain ⟨z, hd, xs, rel, dd⟩ := dt_rd I.hok e
    refine wpAny_in_heap (tupleKind_room_in1 hu) (key_of I.hok eb) hd dd ?_
    have q := (rel.val k).isSome_eq
    rw [Option.isSome_map] at q
    rw [← q, ← l]
    exact h _ (I.tok _)
theorem d_notIn {Q : Value → Shared → Prop} (hu : A.units + 1 < cLine) (I : Inv X pins σ H s) (g : DGet H a y o) (ry : RelV y u) (h : ∀ s', Inv X pins σ H s' → Q (.bool (!o.isSome)) s') :
    wpAny (model X.prog X.w) A (compareOp .NotIn u (.ref a)) Q E s := by
  rcases g with ⟨kvs, k, e, ey, l⟩ | ⟨kvs, k, b, e, ey, eb, l⟩
  · subst ey
    obtain ⟨z, hd, vs, rel, dd⟩ := dk_rd I.hok e
    refine wpAny_notIn_of (kV_is ry) hd dd.mapOf ?_
    rw [← (rel.val k).isSome_eq, ← l]
    exact h _ (I.tok _)
  · subst ey
    cases (show u = Value.ref b from ry)
    obtain ⟨z, hd, xs, rel, dd⟩ := dt_rd I.hok e
    refine wpAny_notIn_heap (tupleKind_room_in1 hu) (key_of I.hok eb) hd dd ?_
    have q := (rel.val k).isSome_eq
    rw [Option.isSome_map] at q
    rw [← q, ← l]
    exact h _ (I.tok _)
/-- a dict's object is replaced -/
theorem d_write {h' : Heap} {t' : Nat} {ob : HO} (I : Inv X pins σ H s) (mu : Mut (H a)) (hs : Heap.SameBut a s.heap h') (he : ∃ q, h'.get? a = some q) (new : ObjOk X.prog X.w (upd H a ob) h' a ob) :
    Inv X pins σ (upd H a ob) { s with heap := h', toks := t' } :=
  I.write (x := a) (e := a) mu (.inl rfl) (fun b q hb z => (hs.2 b hb).trans z) he new
theorem dk_new {P : Program} {w : World} {H' : Hp} {h' : Heap} {kvs : List (Key × V)} {vs : List (Key × Value)} (z : kvs.length ≤ sizeLine) (hd : (a == sysModules) = false) (rel : KV kvs vs) (dd : h'.DictOf (mixKind P w) a vs) :
    ObjOk P w H' h' a (.dK kvs) := ⟨z, hd, vs, rel, dd⟩
end

section
variable {X : Cx} {pins : List (Addr × Obj)} {σ : St} {H : Hp} {s : Shared} {a : Addr} {kvs : List (Key × V)} {k : Key} {u : Value} {A : Around} {E : Value → Shared → Prop}
/-- len(d) -/
theorem d_len {Q : Value → Shared → Prop} (I : Inv X pins σ H s) (e : Rd H a (.dK kvs)) (h : ∀ t s', Inv X pins σ H s' → Q (.int kvs.length t) s') : wpAny (model X.prog X.w) A (call (.builtin "len") [.ref a]) Q E s := by
  obtain ⟨z, hd, vs, rel, dd⟩ := dk_rd I.hok e
  refine call_len_dict hd dd (by rw [← rel.length]; rw [sizeLine_eq] at z; omega) ?_
  rw [← rel.length]
  exact h _ _ (I.tok _)
end


/-! ### readings and rules -/
theorem dict_typeIs {X : Cx} {pins : List (Addr × Obj)} {σ : St} {H : Hp} {s : Shared} {a : Addr} {y : V} {o : Option V} (I : Inv X pins σ H s) (g : DGet H a y o) : s.TypeIs (.ref a) "dict" := by
  rcases g with ⟨kvs, k, e, _, _⟩ | ⟨kvs, k, b, e, _, _, _⟩
  · obtain ⟨_, _, vs, _, dd⟩ := dk_rd I.hok e
    exact dd.typeIs
  · obtain ⟨_, _, xs, _, dd⟩ := dt_rd I.hok e
    exact dd.typeIs
section
variable {X : Cx} {o i e value : Expr} {pos pos' tpos : Pos} {td ty tv : TE}
end


/-! ### displays -/
theorem dk_empty {P : Program} {w : World} {H : Hp} (h : Heap) (hb : sysModules < h.objs.size) : ObjOk P w H (h.push { cls := .type "dict", data := .dict #[] }) h.objs.size (.dK []) :=
  ⟨Nat.zero_le _, beq_eq_false_iff_ne.mpr (Ne.symm (Nat.ne_of_lt hb)), [], .nil, Heap.DictOf.new h⟩
/-- {}, to be a dict of the kind that is wanted -/
def tDNewK : TE := fun _ H Q => ∀ p, H p = none → Q (.ref p) (upd H p (.dK []))
section
variable {X : Cx} {pos : Pos}
theorem pe_dnewK : PE X (.Dict [] [] pos) tDNewK := fun pins s σ H Q I h =>
  wpAny_Dict_empty ⟨.ref s.heap.objs.size, _, I.laid (a := s.heap.objs.size) (o := .dK []) (t' := s.toks) (fun _ _ q => Heap.get?_push_of_some _ q) (Nat.le_refl _) (dk_empty s.heap I.big), rfl, h _ (I.hok.fresh (Nat.le_refl _))⟩
end

/-! ### methods -/
section
variable {X : Cx} {pins : List (Addr × Obj)} {σ : St} {H : Hp} {s : Shared} {a : Addr} {y d : V} {u r : Value} {o : Option V} {A : Around} {E : Value → Shared → Prop}
end

section
variable {X : Cx} {o e f : Expr} {apos cpos : Pos} {td ty tx : TE}
end

/-! ### dict(d): a copy -/
section
variable {X : Cx} {pins : List (Addr × Obj)} {σ : St} {H : Hp} {s : Shared} {a : Addr} {kvs : List (Key × V)} {A : Around} {E : Value → Shared → Prop}
end


section
variable {X : Cx} {pins : List (Addr × Obj)} {σ : St} {H : Hp} {s : Shared} {a : Addr} {y : V} {u : Value} {A : Around} {E : Value → Shared → Prop}
end
end L2
namespace L2
open PySem PySem.Spec PyProof.Rows
section
variable {X : Cx}
theorem call_lenD : CallR X (.builtin "len") (fun xs H Q => ∃ a kvs, xs = [V.ref a] ∧ H a = some (.dK kvs) ∧ Q (.int kvs.length) H) := by
  intro pins s σ H xs us Q I r h
  obtain ⟨a, kvs, rfl, ha, q⟩ := h
  obtain ⟨u, rfl, ru⟩ := vals1 r
  cases ru
  exact d_len I (.inl ha) fun t s' I' => ⟨.int kvs.length, H, I', ⟨t, rfl⟩, q⟩
end
section
variable {κ : Type} [DecidableEq κ]
end
end L2

namespace L2
open PySem PySem.Spec PyProof.Rows PySem.W

/-! ### a text's signs -/
def Its (x : Str) : It := ⟨fun i _ => i < x.cps.size, fun i H v H' => H' = H ∧ ∃ c, x.cps[i]? = some c ∧ v = .str ⟨#[c]⟩, fun i _ => i = x.cps.size⟩
theorem turn_str {P : Program} {w : World} {K : Frag} {tg : Expr} (x : Str) (t : Tok) (it : Addr) : Turn P w K tg (Its x) [it] it (fun i h => h.IsStrIter it (strIterType x) x t i) where
  mem := by simp
  obj := fun i h st b hb => by
    have e : b = it := by simpa using hb
    subst e
    obtain ⟨o, e, c, d⟩ := st
    exact ⟨o, e, fun v z => by rw [d] at z; cases z⟩
  keep := fun i h h' st k => by
    obtain ⟨o, e, r⟩ := st
    exact ⟨o, k it (by simp) o e, r⟩
  item := by
    intro X hP hw hK hc i pins s σ H E I hf st hg
    subst hP hw hK
    obtain ⟨f0, f1, f2, f3, f4, f5⟩ := hf it (by simp)
    have fin : ∀ h' : Heap, h'.IsStrIter it (strIterType x) x t (i + 1) → Heap.SameBut it s.heap h' → ∀ c, x.cps[i]? = some c → ∀ tk : Tok, ∃ u : Value, some (Value.str ⟨#[c]⟩ tk) = some u ∧
        wpAny (model X.prog X.w) X.A (letOwnedTupleGo tg (.ref it) u) (fun _ s2 => ∃ v H', Inv X pins σ H' s2 ∧ RelV v u ∧ (Its x).yld i H v H' ∧ s2.heap.IsStrIter it (strIterType x) x t (i + 1) ∧ ∀ b ∈ [it], H' b = none) E { s with heap := h', toks := s.toks + 1 } := by
      intro h' st' sb c hx tk
      have I1 : Inv X pins σ H { s with heap := h', toks := s.toks + 1 } := I.turned (t' := s.toks + 1) (fun b o hb e => (sb.2 b hb).trans e) f0 f1 f3 f4 f5
      obtain ⟨o, e, cc, d⟩ := id st'
      exact ⟨_, rfl, go_of (s := { s with heap := h', toks := s.toks + 1 }) e cc d (by unfold strIterType; split <;> decide) ⟨.str ⟨#[c]⟩, H, I1, ⟨tk, rfl⟩, ⟨rfl, c, hx, rfl⟩, st', fun b hb => (hf b hb).1⟩⟩
    have hi : i < x.cps.size := hg
    cases ha : x.cps.all (· < 128) with
    | true =>
      have e : strIterType x = "str_ascii_iterator" := by unfold strIterType; rw [ha]; rfl
      rw [e] at fin
      have st : s.heap.IsStrIter it (strIterType x) x t i := st
      rw [e] at st
      refine wpAny_pyNext_ascii_item st (c := x.cps[i]) (by simp [hi]) fun h' st' sb => ?_
      simp only [e]
      exact fin h' st' sb _ (by simp [hi]) _
    | false =>
      have e : strIterType x = "str_iterator" := by unfold strIterType; rw [ha]; rfl
      rw [e] at fin
      have st : s.heap.IsStrIter it (strIterType x) x t i := st
      rw [e] at st
      refine wpAny_pyNext_wide_item st (c := x.cps[i]) (by simp [hi]) fun h' st' sb => ?_
      simp only [e]
      exact fin h' st' sb _ (by simp [hi]) _
  done := by
    intro X hP hw hK hc i pins s σ H E I hf st hg
    subst hP hw hK
    obtain ⟨f0, f1, f2, f3, f4, f5⟩ := hf it (by simp)
    have st : s.heap.IsStrIter it (strIterType x) x t i := st
    have hi : i = x.cps.size := hg
    cases ha : x.cps.all (· < 128) with
    | true =>
      have e : strIterType x = "str_ascii_iterator" := by unfold strIterType; rw [ha]; rfl
      rw [e] at st
      exact wpAny_pyNext_ascii_end (I.ok.hd hc) st (by simp [hi]) fun h' eb => ⟨rfl, I.turned (t' := s.toks) (fun b o hb e => eb b o hb e) f0 f1 f3 f4 f5⟩
    | false =>
      have e : strIterType x = "str_iterator" := by unfold strIterType; rw [ha]; rfl
      rw [e] at st
      exact wpAny_pyNext_wide_end (I.ok.hd hc) st (by simp [hi]) fun h' eb => ⟨rfl, I.turned (t' := s.toks) (fun b o hb e => eb b o hb e) f0 f1 f3 f4 f5⟩
  self := fun A i s Q E st h => by
    have st : s.heap.IsStrIter it (strIterType x) x t i := st
    cases ha : x.cps.all (· < 128) with
    | true =>
      have e : strIterType x = "str_ascii_iterator" := by unfold strIterType; rw [ha]; rfl
      rw [e] at st
      exact wpAny_pyIter_striter_ascii st h
    | false =>
      have e : strIterType x = "str_iterator" := by unfold strIterType; rw [ha]; rfl
      rw [e] at st
      exact wpAny_pyIter_striter_wide st h
def iStr (tl : TE) : TI := fun σ H R => tl σ H fun v H1 => ∃ x, v = .str x ∧ R (Its x) H1
theorem pi_str {X : Cx} {tg l : Expr} {tl : TE} (hl : PE X l tl) : PI X tg l (iStr tl) := by
  intro pins s σ H R I h
  refine thn (hl pins s σ H _ I h) fun v s1 ⟨y, H1, I1, r1, x, e, q⟩ => ?_
  subst e
  obtain ⟨t, rfl⟩ := r1
  refine wpAny_pyIter_strU ?_
  refine ⟨s1.heap.objs.size, [s1.heap.objs.size], _, _, H1, rfl, I1.kept (t' := s1.toks) fun b o e => Heap.get?_push_of_some _ e, turn_str x t _, ⟨_, Heap.get?_push_size _ rfl, rfl, rfl⟩, fun b hb => ?_, q⟩
  have e : b = s1.heap.objs.size := by simpa using hb
  subst e
  exact I1.fpOk (Nat.le_refl _) (I1.hok.fresh (Nat.le_refl _))

/-! ### enumerate of a list -/
def Ite (l : Addr) : It :=
  ⟨fun i H => ∃ xs x, H l = some (.lst xs) ∧ xs[i]? = some x, fun i H v H' => ∃ a xs x, H a = none ∧ v = .ref a ∧ H l = some (.lst xs) ∧ xs[i]? = some x ∧ H' = upd H a (.tup [.int i, x]), fun i H => ∃ xs, H l = some (.lst xs) ∧ xs.length ≤ i⟩
theorem turn_enum {P : Program} {w : World} {K : Frag} {elts : List Expr} {x1} {pos : Pos} (l e it : Addr) (hne : e ≠ it) : Turn P w K (.Tuple elts x1 pos) (Ite l) [e, it] e (fun i h => (∃ old, IsEnum h e it i old) ∧ h.IsListIter it l i) where
  mem := by simp
  obj := fun i h st b hb => by
    obtain ⟨⟨old, st1⟩, o, e1, c, d⟩ := st
    rcases List.mem_cons.mp hb with rfl | hb
    · exact ⟨_, st1, fun v z => by cases (show Data.fields _ = Data.cell v from z)⟩
    · obtain rfl : b = it := by simpa using hb
      exact ⟨o, e1, fun v z => by rw [d] at z; cases z⟩
  keep := fun i h h' st k => by
    obtain ⟨⟨old, st1⟩, st2⟩ := st
    exact ⟨⟨old, k e (by simp) _ st1⟩, st2.at fun o e => k it (by simp) o e⟩
  item := by
    intro X hP hw hK hc i pins s σ H E I hf st hg
    subst hP hw hK
    obtain ⟨⟨old, st1⟩, st2⟩ := st
    obtain ⟨xs, x, hq, hx⟩ := hg
    obtain ⟨hz, its, n, rv, p⟩ := (show ObjOk X.prog X.w H s.heap l (.lst xs) from I.hok l _ hq)
    obtain ⟨u, hu, ru⟩ := rv.get hx
    have fe := hf e (by simp)
    have fi := hf it (by simp)
    refine wpAny_pyNext_enum_item (items := its.toArray) (x := u) st1 st2 ⟨_, p, rfl, n, rfl⟩ (by simpa using hu) hne fun h' a1 a2 a3 a4 a5 => ?_
    refine ⟨_, rfl, wpAny_letOwnedTupleGo_enum a1 fun h2 b1 sb => ?_⟩
    have fresh : H s.heap.objs.size = none := I.hok.fresh (Nat.le_refl _)
    have sz : ∀ b o, s.heap.get? b = some o → b ≠ s.heap.objs.size := fun b o q => Nat.ne_of_lt (Heap.lt_size q)
    have keep : ∀ b o, s.heap.get? b = some o → b ≠ e → b ≠ it → h2.get? b = some o := fun b o q n1 n2 => (sb.2 b n1).trans (a5 b o n1 n2 q)
    have ne1 : s.heap.objs.size ≠ e := (sz e _ st1).symm
    have tupAt : h2.get? s.heap.objs.size = some { cls := .type "tuple", data := .seq #[.int i s.toks, u] } := (sb.2 _ ne1).trans a3
    have nmem : ∀ b, b ∉ [e, it] → b ≠ e ∧ b ≠ it := fun b z => ⟨fun q => z (by simp [q]), fun q => z (by simp [q])⟩
    have tr : ∀ b o, H b = some o → b ≠ e ∧ b ≠ it := fun b o q => ⟨(fun z => by rw [z, fe.1] at q; cases q), (fun z => by rw [z, fi.1] at q; cases q)⟩
    have un : Un (frs X.stack) [e, it] H (upd H s.heap.objs.size (.tup [.int i, x])) s.heap h2 := {
      keep := fun b o q _ _ z => keep b o q (nmem b z).1 (nmem b z).2
      slot := fun b o q _ _ z => ⟨o.slots, keep b o q (nmem b z).1 (nmem b z).2⟩
      free := fun b o q n _ => by rw [upd_ne (sz b o q)]; exact n
      there := fun b o q z => ⟨o, keep b o q (nmem b z).1 (nmem b z).2⟩
      tups := fun b ys q => by rw [upd_ne (ne_of_none q fresh)]; exact q
      frzs := fun b o ys q => by rw [upd_ne (ne_of_none q fresh)]; exact q
      tbls := fun b ps q => ⟨#[], by rw [upd_ne (ne_of_none q fresh), q]; simp⟩ }
    have hok : HOk X.prog X.w (upd H s.heap.objs.size (.tup [.int i, x])) h2 := fun b o q => by
      by_cases hb : b = s.heap.objs.size
      · subst hb
        rw [upd_same] at q; cases q
        exact ⟨(by show 2 ≤ sizeLine; decide), [.int i s.toks, u], .cons ⟨_, rfl⟩ (.cons ru .nil), ⟨_, tupAt, rfl, 0, rfl⟩⟩
      · rw [upd_ne hb] at q
        refine (I.hok b o q).stay (fun c v hc hv => ?_) (fun c hc => by rw [upd_ne (ne_of_none hc fresh)]; exact hc) fun c ys hc => by rw [upd_ne (ne_of_none hc fresh)]; exact hc
        rcases hc with rfl | hc
        · exact keep c v hv (tr c _ q).1 (tr c _ q).2
        · exact keep c v hv (tr c _ hc).1 (tr c _ hc).2
    have J := I.call (g' := s.gens) (d' := s.drawn) (t' := s.toks + 1) (ch := [e, it]) un hok I.bare fun b hb => by
      have := hf b hb
      exact ⟨this.2.2.2.1, this.2.1, this.2.2.2.2.1, this.2.2.2.2.2⟩
    refine ⟨.ref s.heap.objs.size, _, J, rfl, ⟨_, xs, x, fresh, rfl, hq, hx, rfl⟩, ⟨⟨u, ?_⟩, a2.extBut sb.extBut hne.symm⟩, fun b hb => ?_⟩
    · have e1 : ((i : Int) + 1) = ((i + 1 : Nat) : Int) := by omega
      rw [← e1]; exact b1
    · rcases List.mem_cons.mp hb with rfl | hb
      · rw [upd_ne ne1.symm]; exact fe.1
      · obtain rfl : b = it := by simpa using hb
        obtain ⟨o, q, _⟩ := st2
        rw [upd_ne (sz _ _ q)]; exact fi.1
  done := by
    intro X hP hw hK hc i pins s σ H E I hf st hg
    subst hP hw hK
    obtain ⟨⟨old, st1⟩, st2⟩ := st
    obtain ⟨xs, hq, hx⟩ := hg
    obtain ⟨hz, its, n, rv, p⟩ := (show ObjOk X.prog X.w H s.heap l (.lst xs) from I.hok l _ hq)
    obtain ⟨f0, f1, f2, f3, f4, f5⟩ := hf it (by simp)
    have hl := rv.length
    exact wpAny_pyNext_enum_end (items := its.toArray) (I.ok.hd hc) st1 st2 ⟨_, p, rfl, n, rfl⟩ (by simp; omega) fun h' eb => ⟨rfl, I.turned (t' := s.toks) (fun b o hb e => eb b o hb e) f0 f1 f3 f4 f5⟩
  self := fun _ _ _ _ _ st h => by
    obtain ⟨⟨old, st1⟩, _⟩ := st
    exact wpAny_pyIter_enum st1 h
def iEnum (ta : TA) : TI := fun σ H R => ta σ H fun vs H1 => ∃ l, vs = [.ref l] ∧ (∃ xs, H1 l = some (.lst xs)) ∧ R (Ite l) H1
theorem pi_enum {X : Cx} {a : Expr} {ta : TA} {p pos tpos : Pos} {elts : List Expr} {x1} (hg : Gl X "enumerate") (hm : X.mg "enumerate" = none) (ha : PA X [a] ta) (hs : starEach [a] X.env = [(false, eval a X.env)] := by rfl) :
    PI X (.Tuple elts x1 tpos) (.Call (.Name "enumerate" p) [a] [] pos) (iEnum ta) := by
  intro pins s σ H R I h
  refine Call_ (ld_blt I hg hm boot_enumerate (PyProof.Rows.callWith_type1 (thn (ha pos pins s σ H _ I h) fun us s1 ⟨vs, H1, I1, r1, q1⟩ => ?_) hs rfl))
  obtain ⟨l, e, ⟨xs, hq⟩, q⟩ := q1
  subst e
  obtain ⟨u, rfl, ru⟩ := vals1 r1
  cases (show u = Value.ref l from ru)
  obtain ⟨hz, its, n, rv, pp⟩ := (show ObjOk X.prog X.w H1 s1.heap l (.lst xs) from I1.hok l _ hq)
  refine call_enumerate_1 (n := n) pp fun h' b1 b2 b3 b4 => ?_
  refine wpAny_pyIter_enum b1 ?_
  refine ⟨s1.heap.objs.size + 1, [s1.heap.objs.size + 1, s1.heap.objs.size], _, _, H1, rfl, I1.kept (t' := s1.toks) b4, turn_enum l (s1.heap.objs.size + 1) s1.heap.objs.size (Nat.succ_ne_self _), ⟨⟨.none, b1⟩, b2⟩, fun b hb => ?_, q⟩
  rcases List.mem_cons.mp hb with rfl | hb
  · exact I1.fpOk (Nat.le_succ _) (I1.hok.fresh (Nat.le_succ _))
  · obtain rfl : b = s1.heap.objs.size := by simpa using hb
    exact I1.fpOk (Nat.le_refl _) (I1.hok.fresh (Nat.le_refl _))
end L2

namespace L2
open PySem PySem.Spec PyProof.Rows PySem.W

/-! ### {k: v for ..} -/
def tDComp (wi : TI) (g : TG) (tc : TT) (tk tv : TE) (nv : Nat) (ix : List Nat) : TE := fun σ H Q => wi σ H fun J H1 => ∀ D, H1 D = none → ∃ W : Nat → Nat → List (Key × V) → St → Hp → Prop, (∃ m, W 0 m [] (start2 nv ix σ) (upd H1 D (.dK []))) ∧
  ∀ i m ys σ' H', W i m ys σ' H' → (J.stop i H' ∧ Q (.ref D) H') ∨ (J.go i H' ∧ ∀ x H2, J.yld i H' x H2 → g x σ' H2 fun σ3 H3 => tc σ3 H3 fun b H4 =>
    if b = true then tk σ3 H4 fun y H5 => tv σ3 H5 fun z H6 => ∃ k, y = kV k ∧ H6 D = some (.dK ys) ∧ ys.length < sizeLine ∧ ∃ m', m' < m ∧ W (i + 1) m' (putK ys k z) σ3 (upd H6 D (.dK (putK ys k z))) else ∃ m', m' < m ∧ W (i + 1) m' ys σ3 H4)

section
variable {prog : Program} {w : World} {A : Around} {E : Value → Shared → Prop} {R : Result → Shared → Prop} {s : Shared}
theorem dcompLoop_any {kx vx target iter : Expr} {ifs : List Expr} {scope : Scope} {pos : Pos} {it : Value} {D : Addr} {env : Env} (I : Nat → Shared → Prop)
    (turn : ∀ n s, I n s → wpAny (model prog w) A (pyNext it) (fun r s₁ => match r with
      | none => R (.ok .next) s₁
      | some v => wpAny (model prog w) A (letOwnedTupleGo target it v) (fun _ s₁' => wpAny (model prog w) A (assign target env v) (fun _ s₂ =>
          wpAny (model prog w) A (forIn ifs true fun c r => if r = true then do let ok ← isTrue c env (eval c env); pure (ForInStep.yield ok) else pure (ForInStep.yield r)) (fun ok s₃ =>
            if ok = true then wpAny (model prog w) A (eval kx env) (fun kv s₄ => wpAny (model prog w) A (eval vx env) (fun vv s₅ =>
              wpAny (model prog w) A (dictSet D kv vv) (fun _ s₆ => ∃ m, m < n ∧ I m s₆) (fun _ _ => False) s₅) (fun _ _ => False) s₄) (fun _ _ => False) s₃
            else ∃ m, m < n ∧ I m s₃) (fun _ _ => False) s₂) (fun _ _ => False) s₁') (fun _ _ => False) s₁) (fun _ _ => False) s)
    (n : Nat) (h : I n s) :
    codeAny (model prog w) A (.compLoop (.DictComp kx vx [⟨target, iter, ifs, 0⟩] scope pos) 0 it (.ref D) env) R s := by
  refine codeAny_loop rfl I (fun n s hI => ?_) n h
  show wpAny _ A ((compTurn (.DictComp kx vx [⟨target, iter, ifs, 0⟩] scope pos) 0 it (.ref D) env).onRaise (fun x => do noteFrame x env; theTreesLotGoes x)) _ _ s
  refine wpAny_noted ?_
  rw [compTurn_dict]
  refine wpAny_bind (wpAny_standAt (wpAny_bind (wpAny_mono (turn n s hI) (fun r s₁ h₁ => ?_) fun _ _ h' => h'.elim)))
  cases r with
  | none => exact wpAny_pure h₁
  | some v =>
    refine wpAny_bind (wpAny_mono h₁ (fun _ s₁' h₁' => ?_) fun _ _ h' => h'.elim)
    refine wpAny_bind (wpAny_mono h₁' (fun _ s₂ h₂ => wpAny_bind (wpAny_mono h₂ (fun ok s₃ h₃ => ?_) fun _ _ h' => h'.elim)) fun _ _ h' => h'.elim)
    cases ok with
    | false => exact wpAny_pure ⟨rfl, h₃⟩
    | true =>
      exact wpAny_bind (wpAny_bind (wpAny_mono h₃ (fun kv s₄ h₄ => wpAny_bind (wpAny_holding (wpAny_mono h₄ (fun vv s₅ h₅ => wpAny_bind (wpAny_standAt (wpAny_holding (wpAny_mono h₅ (fun _ s₆ h₆ => wpAny_pure ⟨rfl, h₆⟩) fun _ _ h' => h'.elim)))) fun _ _ h' => h'.elim))) fun _ _ h' => h'.elim))
end

section
variable {X : Cx} {kx vx tg iter : Expr} {ifs : List Expr} {scope : Scope} {pos : Pos} {wi : TI} {g : TG} {tc : TT} {tk tv : TE} {vars : List Str} {ix : List Nat}
theorem pe_dcomp (hc : X.calm = true) (caps : List Str) (hix : ix.map (fun i => X.N.getD i "") = caps) (hlen : ∀ i ∈ ix, i < X.N.length) (ok : compOk scope X.env.scope vars caps = true) (nd : (vars ++ caps).Nodup)
    (hi : PI X tg iter wi) (hg : ∀ cl C fp s H, PG (blk X scope (vars ++ caps) cl C fp s H) tg g) (ht : ∀ cl C fp s H, PTs (blk X scope (vars ++ caps) cl C fp s H) ifs tc)
    (hk : ∀ cl C fp s H, PE (blk X scope (vars ++ caps) cl C fp s H) kx tk) (hv : ∀ cl C fp s H, PE (blk X scope (vars ++ caps) cl C fp s H) vx tv)
    (hs : ∀ x, foldedSetIterable iter X.env x = pure x := by intro _; rfl) : PE X (.DictComp kx vx [⟨tg, iter, ifs, 0⟩] scope pos) (tDComp wi g tc tk tv vars.length ix) := by
  intro pins s σ H Q I h
  obtain ⟨h1, h2, h3⟩ := closure_is I ok
  have okk := ok
  unfold compOk at okk
  simp only [Bool.and_eq_true] at okk
  have nms := List.all_eq_true.mp okk.1.1.2
  have hcell : ∀ y ∈ scope.names, y.2 ≠ .cell := fun y hy z => by have := nms y hy; simp [z] at this
  show wpAny _ X.A (comprehension (.DictComp kx vx [⟨tg, iter, ifs, 0⟩] scope pos) scope X.env _ newDict false (eval iter X.env)) _ _ s
  refine wpAny_comprehension_free (use := none) rfl hs h1 h2 h3 (thn (hi pins s σ H _ I h) fun v s1 h1' => thn h1' fun itv s2 h2' => ?_)
  obtain ⟨it, fp, tn, J, H2, rfl, I2, T, st2, f2, rd⟩ := h2'
  have hf : H2 s2.heap.objs.size = none := I2.hok.fresh (Nat.le_refl _)
  refine wpAny_newObj_type ?_
  have I1 := I2.laid (a := s2.heap.objs.size) (o := .dK []) (h' := s2.heap.push { cls := .type "dict", dict := none, data := .dict #[] }) (t' := s2.toks) (fun b u e => Heap.get?_push_of_some _ e) (Nat.le_refl _) (dk_empty s2.heap I2.big)
  obtain ⟨W, ⟨m0, w0⟩, turn⟩ := rd _ hf
  generalize hD : s2.heap.objs.size = D at *
  generalize hs3 : ({ s2 with heap := s2.heap.push { cls := .type "dict", dict := none, data := .dict #[] } } : Shared) = s3 at *
  have st3 : tn 0 s3.heap := T.keep _ _ _ st2 fun b hb o e => by rw [← hs3]; exact Heap.get?_push_of_some _ e
  have nD : ∀ b ∈ fp, b ≠ D := fun b hb z => by
    obtain ⟨o, e, _⟩ := T.obj _ _ st2 b hb
    have := Heap.lt_size e
    rw [z, hD] at this
    exact Nat.lt_irrefl _ this
  have fo3 : ∀ b ∈ fp, FpOk X pins (upd H2 D (.dK [])) b := fun b hb => by
    obtain ⟨a0, a1⟩ := f2 b hb
    exact ⟨by rw [upd_ne (nD b hb)]; exact a0, a1⟩
  refine wpAny_newFunctionEnv hcell (by intro y hy; simp at hy) (fun h4 hns hsb => ?_) h2
  obtain ⟨J0, st4, stat, fin⟩ := blk_enter (tk := s3.toks + ([] : List (Str × Value)).length) caps hix hlen ok rfl I1 T st3 fo3 hns hsb
  have loop : ∀ s₄ : Shared, s₄ = { s3 with heap := h4, toks := s3.toks + ([] : List (Str × Value)).length } →
      codeAny (model X.prog X.w) X.A (.compLoop (.DictComp kx vx [⟨tg, iter, ifs, 0⟩] scope pos) 0 (.ref it) (.ref D) (compEnvC scope (clos X.env scope.names []) s3.heap.objs.size X.env)) (compPost (model X.prog X.w) X.A X.xe none (EP X pins σ Q) (.ref D) s3.heap.objs.size) s₄ := by
    rintro s₄ rfl
    refine dcompLoop_any (fun n s' => ∃ i ys σ' H', Inv (blk X scope (vars ++ caps) (clos X.env scope.names []) s3.heap.objs.size fp s3 (upd H2 D (.dK []))) [] σ' H' s' ∧ tn i s'.heap ∧ (∀ b ∈ fp, H' b = none) ∧ W i n ys σ' H') ?_ m0 ⟨0, [], _, _, J0, st4, fun b hb => (fo3 b hb).1, w0⟩
    rintro n s5 ⟨i, ys, σ5, H5, J5, t5, f5, w5⟩
    rcases turn i n ys σ5 H5 w5 with ⟨stop, q⟩ | ⟨go, step⟩
    · refine thn (T.done (blk X scope (vars ++ caps) (clos X.env scope.names []) s3.heap.objs.size fp s3 (upd H2 D (.dK []))) rfl rfl rfl hc i [] s5 σ5 H5 _ J5 (stat _ f5) t5 stop) fun r s6 ⟨hr, J6⟩ => ?_
      subst hr
      obtain ⟨K1, ⟨mm, K2⟩, K3⟩ := fin _ _ _ J6
      exact ⟨mm, K2, fun h' sb => ⟨.ref D, H5, K1.turned (t' := s6.toks) (fun b o hb e => (sb.2 b hb).trans e) K3.1 K3.2.1 K3.2.2.2.1 K3.2.2.2.2.1 K3.2.2.2.2.2, rfl, q⟩⟩
    · refine thn (T.item (blk X scope (vars ++ caps) (clos X.env scope.names []) s3.heap.objs.size fp s3 (upd H2 D (.dK []))) rfl rfl rfl hc i [] s5 σ5 H5 _ J5 (stat _ f5) t5 go) fun r s6 ⟨u, hr, h6⟩ => ?_
      subst hr
      refine thn h6 fun _ s7 ⟨x, H7, J7, r7, y7, t7, f7⟩ => ?_
      have J7' := J7.pinned (stat _ f7) (T.obj _ _ t7)
      have keepT : ∀ {σ' H' s'}, Inv (blk X scope (vars ++ caps) (clos X.env scope.names []) s3.heap.objs.size fp s3 (upd H2 D (.dK []))) ([] ++ pinsAt fp s7.heap) σ' H' s' → tn (i + 1) s'.heap ∧ ∀ b ∈ fp, H' b = none := fun {σ' H' s'} Y =>
        ⟨T.keep _ _ _ t7 fun b hb o e => (Y.pin (b, o) (List.mem_append_right _ (List.mem_append_right _ (mem_pinsAt hb e)))).1, fun b hb => by
          obtain ⟨o, e, _⟩ := T.obj _ _ t7 b hb
          exact (Y.pin (b, o) (List.mem_append_right _ (List.mem_append_right _ (mem_pinsAt hb e)))).2.1⟩
      refine thn (hg _ _ _ _ _ _ s7 σ5 H7 x u _ J7' r7 (step x H7 y7)) fun _ s8 ⟨σ8, H8, J8, q8⟩ => ?_
      refine thn (ht _ _ _ _ _ _ s8 σ8 H8 _ J8 q8) fun b s9 ⟨H9, J9, q9⟩ => ?_
      cases b with
      | false =>
        rw [if_neg Bool.false_ne_true] at q9 ⊢
        obtain ⟨m', hm, w'⟩ := q9
        obtain ⟨k1, k2⟩ := keepT J9
        exact ⟨m', hm, i + 1, ys, σ8, H9, J9.unpinned, k1, k2, w'⟩
      | true =>
        rw [if_pos rfl] at q9 ⊢
        refine thn (hk _ _ _ _ _ _ s9 σ8 H9 _ J9 q9) fun v s10 ⟨y, H10, J10, r10, q10⟩ => ?_
        refine thn (hv _ _ _ _ _ _ s10 σ8 H10 _ J10 q10) fun v2 s11 ⟨z, H11, J11, r11, k, ek, hd, l11, m', hm, w'⟩ => ?_
        subst ek
        obtain ⟨zz, hsm, vs, rel, dd⟩ := dk_of J11.hok hd
        have hz : vs.length ≤ sizeLine := by rw [← rel.length]; exact zz
        have hl : (putK ys k z).length ≤ sizeLine := by have := length_putK ys k z; omega
        refine wpAny_dictSet_pairs (hsz := hz) (kV_is r10) dd fun h' dd' hs' => ?_
        have he : ∃ q, h'.get? D = some q := let ⟨q, _, _, hq, _⟩ := dd'; ⟨q, hq⟩
        have J12 := d_write (t' := s11.toks + 1) J11 (by rw [hd]; exact True.intro) hs' he (dk_new hl hsm (rel.put k r11) dd')
        obtain ⟨k1, k2⟩ := keepT J12
        exact ⟨m', hm, i + 1, putK ys k z, σ8, _, J12.unpinned, k1, k2, w'⟩
  exact codeAny_compStart_dict (loop _ rfl) (T.self _ 0 _ _ _ st4 (loop _ rfl))
end

/-! ### all, any of a list of truths -/
section
variable {X : Cx}
theorem bools_get {bs : List Bool} {us : List Value} (r : Vals (bs.map V.bl) us) {i : Nat} {v : Value} (h : us[i]? = some v) : ∃ b, bs[i]? = some b ∧ v = .bool b := by
  induction bs generalizing us i with
  | nil => cases r; cases i <;> cases h
  | cons b bs ih =>
    cases r with
    | cons a r =>
      cases i with
      | zero => cases h; exact ⟨b, rfl, a⟩
      | succ i => exact ih r h
theorem all_range (bs : List Bool) : (List.range bs.length).all (fun i => bs.getD i false) = bs.all id := by
  induction bs with
  | nil => rfl
  | cons b bs ih => simp [List.range_succ_eq_map, List.all_map, Function.comp_def] at ih ⊢; rw [← ih]
theorem any_range (bs : List Bool) : (List.range bs.length).any (fun i => bs.getD i false) = bs.any id := by
  induction bs with
  | nil => rfl
  | cons b bs ih => simp [List.range_succ_eq_map, List.any_map, Function.comp_def] at ih ⊢; rw [← ih]
theorem call_allB (hc : X.calm = true) : CallR X (.builtin "all") (fun vs H Q => ∃ (a : Addr) (bs : List Bool), vs = [.ref a] ∧ H a = some (.lst (bs.map V.bl)) ∧ Q (.bl (bs.all id)) H) := by
  intro pins s σ H xs us Q I r h
  obtain ⟨a, bs, rfl, ha, q⟩ := h
  obtain ⟨u, rfl, ru⟩ := vals1 r
  cases (show u = Value.ref a from ru)
  obtain ⟨hz, its, n, rv, p⟩ := (show ObjOk X.prog X.w H s.heap a (.lst (bs.map V.bl)) from I.hok a _ ha)
  have hl : its.length = bs.length := by rw [← rv.length, List.length_map]
  have isl : s.heap.IsList a its.toArray := ⟨_, p, rfl, n, rfl⟩
  have na : a ≠ s.heap.objs.size := Nat.ne_of_lt (Heap.lt_size p)
  refine call_all_walk (wpAny_pyIter_list isl ?_)
  refine ⟨_, _, _, _, _, _, fun i => bs.getD i false, rfl, Walks.list (A := X.A.in1) (I.ok.hd hc) s.heap.objs.size a na its.toArray, ⟨⟨_, Heap.get?_push_size _ rfl, rfl, rfl⟩, isl.at fun o e => Heap.get?_push_of_some _ e⟩, ?_, fun h' tk k => ?_⟩
  · intro i v s' Q' E' hv hq
    obtain ⟨b, hb, rfl⟩ := bools_get rv (by simpa using hv)
    have e : bs.getD i false = b := by simp [List.getD_eq_getElem?_getD, hb]
    have hq : Q' (bs.getD i false) s' := hq
    rw [e] at hq
    exact wpAny_truthy_bool hq
  · have e : (List.range its.toArray.size).all (fun i => bs.getD i false) = bs.all id := by rw [List.size_toArray, hl]; exact all_range bs
    rw [e]
    have fr : ∀ b o, s.heap.get? b = some o → h'.get? b = some o := fun b o e => k b o (by simp; exact Nat.ne_of_lt (Heap.lt_size e)) (Heap.get?_push_of_some _ e)
    exact ⟨.bl (bs.all id), H, I.kept (t' := tk) fr, rfl, q⟩
theorem call_anyB (hc : X.calm = true) : CallR X (.builtin "any") (fun vs H Q => ∃ (a : Addr) (bs : List Bool), vs = [.ref a] ∧ H a = some (.lst (bs.map V.bl)) ∧ Q (.bl (bs.any id)) H) := by
  intro pins s σ H xs us Q I r h
  obtain ⟨a, bs, rfl, ha, q⟩ := h
  obtain ⟨u, rfl, ru⟩ := vals1 r
  cases (show u = Value.ref a from ru)
  obtain ⟨hz, its, n, rv, p⟩ := (show ObjOk X.prog X.w H s.heap a (.lst (bs.map V.bl)) from I.hok a _ ha)
  have hl : its.length = bs.length := by rw [← rv.length, List.length_map]
  have isl : s.heap.IsList a its.toArray := ⟨_, p, rfl, n, rfl⟩
  have na : a ≠ s.heap.objs.size := Nat.ne_of_lt (Heap.lt_size p)
  refine call_any_walk (wpAny_pyIter_list isl ?_)
  refine ⟨_, _, _, _, _, _, fun i => bs.getD i false, rfl, Walks.list (A := X.A.in1) (I.ok.hd hc) s.heap.objs.size a na its.toArray, ⟨⟨_, Heap.get?_push_size _ rfl, rfl, rfl⟩, isl.at fun o e => Heap.get?_push_of_some _ e⟩, ?_, fun h' tk k => ?_⟩
  · intro i v s' Q' E' hv hq
    obtain ⟨b, hb, rfl⟩ := bools_get rv (by simpa using hv)
    have e : bs.getD i false = b := by simp [List.getD_eq_getElem?_getD, hb]
    have hq : Q' (bs.getD i false) s' := hq
    rw [e] at hq
    exact wpAny_truthy_bool hq
  · have e : (List.range its.toArray.size).any (fun i => bs.getD i false) = bs.any id := by rw [List.size_toArray, hl]; exact any_range bs
    rw [e]
    have fr : ∀ b o, s.heap.get? b = some o → h'.get? b = some o := fun b o e => k b o (by simp; exact Nat.ne_of_lt (Heap.lt_size e)) (Heap.get?_push_of_some _ e)
    exact ⟨.bl (bs.any id), H, I.kept (t' := tk) fr, rfl, q⟩
end
end L2

namespace L2
open PySem PySem.Spec PyProof.Rows PySem.W

/-! ### sets of texts -/
def SSet (P : Program) (w : World) (a : Addr) (S : Str → Bool) (n : Nat) : HO := .ext fun h => h.SetOf (PySem.strKind P w) a S n
section
variable {P : Program} {w : World} {H : Hp} {h : Heap} {a : Addr} {S : Str → Bool} {n : Nat}
theorem sset_ok (e : h.SetOf (PySem.strKind P w) a S n) : ObjOk P w H h a (SSet P w a S n) :=
  ⟨e, (let ⟨o, _, _, _, q, _⟩ := e; ⟨o, q⟩), fun h1 h2 ⟨o, es, ep, t, q, r⟩ k => ⟨o, es, ep, t, k _ q, r⟩⟩
theorem sset_get (hok : HOk P w H h) (e : H a = some (SSet P w a S n)) : h.SetOf (PySem.strKind P w) a S n := (show ObjOk P w H h a (SSet P w a S n) from hok a _ e).1
end
section
variable {X : Cx}
theorem str_is {k : Str} {t : Tok} : (PySem.strKind X.prog X.w).is k (.str k t) = true := by
  show Value.isStrOf k (.str k t) = true
  simp [Value.isStrOf]
/-- set() -/
theorem call_set0 : CallR X (.type "set") (fun vs H Q => vs = [] ∧ ∀ (a : Addr) (H' : Hp), H a = none → H' a = some (SSet X.prog X.w a (fun _ => false) 0) → Same H H' → Q (.ref a) H') := by
  intro pins s σ H xs us Q I r h
  obtain ⟨rfl, q⟩ := h
  cases r
  refine call_set_0 fun led => ?_
  have hf : H s.heap.objs.size = none := I.hok.fresh (Nat.le_refl _)
  have hS : (s.heap.push { cls := .type "set", dict := none, data := .set #[] 0 (.fresh 0 0 led) }).SetOf (PySem.strKind X.prog X.w) s.heap.objs.size (fun _ => false) 0 :=
    PyProof.Rows.SetOf_congr ((PyProof.Rows.setObjOf_fresh (knd := PySem.strKind X.prog X.w) led).setOf (Heap.get?_push_size _ rfl) (by unfold scanBound; omega)) (fun _ => rfl) rfl
  exact ⟨.ref s.heap.objs.size, _, I.laid (t' := s.toks) (fun b u e => Heap.get?_push_of_some _ e) (Nat.le_refl _) (sset_ok hS), rfl, q _ _ hf upd_same (same_upd hf)⟩
def rInS (P : Program) (w : World) (g : Bool → Bool) : R2 := fun x y H Q => ∃ k a S n, x = .str k ∧ y = .ref a ∧ H a = some (SSet P w a S n) ∧ Q (.bl (g (S k))) H
theorem op_inS : OpR X (compareOp .In) (rInS X.prog X.w id) := by
  intro pins s σ H x y v u Q I rx ry h
  obtain ⟨k, a, S, n, rfl, rfl, ha, q⟩ := h
  obtain ⟨t, rfl⟩ := rx
  cases ry
  exact wpAny_inSet_of str_is rfl (sset_get I.hok ha) ⟨.bl (S k), H, I.tok _, rfl, q⟩
theorem op_notinS : OpR X (compareOp .NotIn) (rInS X.prog X.w not) := by
  intro pins s σ H x y v u Q I rx ry h
  obtain ⟨k, a, S, n, rfl, rfl, ha, q⟩ := h
  obtain ⟨t, rfl⟩ := rx
  cases ry
  exact wpAny_notInSet_of str_is rfl (sset_get I.hok ha) ⟨.bl (!S k), H, I.tok _, rfl, q⟩
/-- s.add(x), the set's own method -/
def tSAdd (P : Program) (w : World) (to : TE) (t : TA) : TE := fun σ H Q => to σ H fun x H1 => ∃ a S n, x = .ref a ∧ H1 a = some (SSet P w a S n) ∧ t σ H1 fun vs H2 => ∃ k S2 n2, vs = [.str k] ∧ H2 a = some (SSet P w a S2 n2) ∧ n2 + 1 < 4096 ∧
  Q .non (upd H2 a (SSet P w a (fun k' => S2 k' || decide (k' = k)) (if S2 k then n2 else n2 + 1)))
theorem pe_sadd {o e : Expr} {to : TE} {t : TA} {apos cpos : Pos} (ho : PE X o to) (ha : PA X [e] t)
    (hbase : attributeBase o "add" X.env (eval o X.env) = eval o X.env := by rfl)
    (hfew : ((backTo cpos (starEach [e] X.env)).all (fun x => !x.1) && (backToKw cpos (keywordEach [] X.env)).all (fun x => x.1.isSome)
      && decide ([e].length + ([] : List Keyword).length + (if ([] : List Keyword).isEmpty then 0 else 1) < 30)) = true := by rfl)
    (hline : (apos.endLine == cpos.line) = true := by rfl) (hs : starEach [e] X.env = [(false, eval e X.env)] := by rfl) :
    PE X (.Call (.Attribute o "add" apos) [e] [] cpos) (tSAdd X.prog X.w to t) := by
  intro pins s σ H Q I h
  refine wpAny_Call_method_late hbase hfew hline rfl (thn (ho pins s σ H _ I h) fun v s1 ⟨x, H1, I1, r1, a, S, n, ex, ea, q1⟩ => ?_)
  subst ex
  cases (show v = Value.ref a from r1)
  have st := sset_get I1.hok ea
  refine ⟨"set", "set.add", F.plainAttrs_set, F.slot_set_add, F.type_set_add, st.typeIs, st.noDict, ?_⟩
  have hA := ha cpos pins s1 σ H1 _ I1 q1
  rw [hs] at hA ⊢
  refine Calls.callWith_builtin rfl (Calls.evalArgs_plain ?_)
  refine thn hA fun us s2 ⟨vs, H2, I2, r2, k, S2, n2, ev, ea2, hn, q2⟩ => ?_
  subst ev
  obtain ⟨u, rfl, ru⟩ := vals1 r2
  obtain ⟨t, rfl⟩ := ru
  refine call_set_add str_is rfl (sset_get I2.hok ea2) (by unfold scanBound; omega) fun h' sb hS => ?_
  have he : ∃ q, h'.get? a = some q := let ⟨o, _, _, _, q, _⟩ := hS; ⟨o, q⟩
  exact ⟨.non, _, I2.write (t' := s2.toks + 1) (x := a) (e := a) (by rw [ea2]; exact True.intro) (.inl rfl) (fun b q hb z => (sb.2 b hb).trans z) he (sset_ok hS), rfl, q2⟩
end
end L2

namespace L2
open PySem PySem.Spec PyProof.Rows PySem.W
section
variable {P : Program} {w : World} {K : Frag} {mg : Str → Option Value} {base : Heap} {k : Nat} {x : Str} {st : Stmt} {ps N : List Str} {sp : Sp}
end
section
variable {X : Cx} {j k : Nat} {ps : List Str} {sp : Sp} {W : Addr → St → Hp → Prop} {x : Str} {p pos : Pos} {e : Expr} {es : List Expr} {t : TA}
def eNever : TE := fun _ _ _ => False
theorem pe_never : PE X e eNever := fun _ _ _ _ _ _ h => h.elim
end
end L2
namespace L2
open PySem PySem.Spec PyProof.Rows PySem.W
section
variable {X : Cx} {elt kx vx tg iter : Expr} {ifs : List Expr} {scope : Scope} {pos : Pos} {wi : TI} {g : TG} {tc : TT} {te tk tv : TE} {vars : List Str} {ix : List Nat}
theorem pe_compW (caps : List Str) (hix : ix.map (fun i => X.N.getD i "") = caps) (hlen : ix.all (fun i => decide (i < X.N.length)) = true) (ok : compOk scope X.env.scope vars caps = true) (nd : (vars ++ caps).Nodup) (hc : X.calm = true)
    (hi : PI X tg iter wi) (hg : ∀ cl C fp s H, PG (blk X scope (vars ++ caps) cl C fp s H) tg g) (ht : ∀ cl C fp s H, PTs (blk X scope (vars ++ caps) cl C fp s H) ifs tc) (he : ∀ cl C fp s H, PE (blk X scope (vars ++ caps) cl C fp s H) elt te)
    (hs : ∀ x, foldedSetIterable iter X.env x = pure x) : PE X (.ListComp elt [⟨tg, iter, ifs, 0⟩] scope pos) (tComp wi g tc te vars.length ix) :=
  pe_comp hc caps hix (fun i hi => of_decide_eq_true (List.all_eq_true.mp hlen i hi)) ok nd hi hg ht he hs
theorem pe_dcompW (caps : List Str) (hix : ix.map (fun i => X.N.getD i "") = caps) (hlen : ix.all (fun i => decide (i < X.N.length)) = true) (ok : compOk scope X.env.scope vars caps = true) (nd : (vars ++ caps).Nodup) (hc : X.calm = true)
    (hi : PI X tg iter wi) (hg : ∀ cl C fp s H, PG (blk X scope (vars ++ caps) cl C fp s H) tg g) (ht : ∀ cl C fp s H, PTs (blk X scope (vars ++ caps) cl C fp s H) ifs tc)
    (hk : ∀ cl C fp s H, PE (blk X scope (vars ++ caps) cl C fp s H) kx tk) (hv : ∀ cl C fp s H, PE (blk X scope (vars ++ caps) cl C fp s H) vx tv)
    (hs : ∀ x, foldedSetIterable iter X.env x = pure x) : PE X (.DictComp kx vx [⟨tg, iter, ifs, 0⟩] scope pos) (tDComp wi g tc tk tv vars.length ix) :=
  pe_dcomp hc caps hix (fun i hi => of_decide_eq_true (List.all_eq_true.mp hlen i hi)) ok nd hi hg ht hk hv hs
theorem ps_setCW {i : Nat} {y : Str} {py spos : Pos} (hN : X.N.Nodup) (hiy : X.N[i]? = some y) (hy : X.env.scope.names.lookup y = some .local) (hsw : swapsWith (.ListComp elt [⟨tg, iter, ifs, 0⟩] scope pos) (some (.Name y py)) spos.line X.env = pure true)
    (caps : List Str) (hix : ix.map (fun i => X.N.getD i "") = caps) (hlen : ix.all (fun i => decide (i < X.N.length)) = true) (ok : compOk scope X.env.scope vars caps = true) (nd : (vars ++ caps).Nodup) (hc : X.calm = true)
    (hi : PI X tg iter wi) (hg : ∀ cl C fp s H, PG (blk X scope (vars ++ caps) cl C fp s H) tg g) (ht : ∀ cl C fp s H, PTs (blk X scope (vars ++ caps) cl C fp s H) ifs tc) (he : ∀ cl C fp s H, PE (blk X scope (vars ++ caps) cl C fp s H) elt te)
    (hs : ∀ x, foldedSetIterable iter X.env x = pure x) : PS X (.Assign [.Name y py] (.ListComp elt [⟨tg, iter, ifs, 0⟩] scope pos) spos) (tAsg (tComp wi g tc te vars.length ix) (gName i)) :=
  ps_setC hN hiy hy hsw hc caps hix (fun i hi => of_decide_eq_true (List.all_eq_true.mp hlen i hi)) ok nd hi hg ht he hs
end
end L2

namespace L2
open PySem PySem.Spec PyProof.Rows PySem.W
section
variable {X : Cx}
theorem call_list_ofS : CallR X (.type "list") (fun xs H Q => ∃ p ys, xs = [.ref p] ∧ (SqL X.K H p ys ∨ SqT X.K H p ys) ∧ NewO H (.lst ys) Q) := by
  intro pins s σ H xs us Q I r h
  obtain ⟨p, ys, h1, h2, q⟩ := h
  exact call_list_of pins s σ H xs us Q I r ⟨p, ys, h1, h2, q.upd⟩
theorem call_tuple_ofS : CallR X (.type "tuple") (fun xs H Q => ∃ p ys, xs = [.ref p] ∧ ((SqL X.K H p ys ∧ NewO H (.tup ys) Q) ∨ (SqT X.K H p ys ∧ Q (.ref p) H))) := by
  intro pins s σ H xs us Q I r h
  obtain ⟨p, ys, h1, h2⟩ := h
  exact call_tuple_of pins s σ H xs us Q I r ⟨p, ys, h1, h2.imp (fun ⟨a, b⟩ => ⟨a, b.upd⟩) id⟩
def rSlTS (K : Frag) : V → Option Int → Option Int → Hp → VK → Prop := fun x lo hi H Q => ∃ a xs, x = .ref a ∧ SqT K H a xs ∧
  ¬ (HT.sIx xs.length 0 lo = 0 ∧ HT.sIx xs.length xs.length hi = xs.length) ∧ NewO H (.tup (cutV xs lo hi)) Q
theorem sl_tupS : SlR X (rSlTS X.K) := by
  intro pins s σ H x v vl vu lo hi sl Q I rx hs pl pu h
  obtain ⟨a, xs, h1, h2, h3, q⟩ := h
  exact sl_tup pins s σ H x v vl vu lo hi sl Q I rx hs pl pu ⟨a, xs, h1, h2, h3, q.upd⟩
theorem ip_mulS : PIp X .Mult (fun x y H Q => ∃ i j, x = .int i ∧ y = .int j ∧ CMul i j ∧ Q (.int (i * j)) H) := by
  intro pins s σ H x y v u Q I r1 r2 h
  obtain ⟨i, j, e1, e2, c, q⟩ := h
  subst e1; subst e2
  obtain ⟨t, rfl⟩ := r1
  obtain ⟨t', rfl⟩ := r2
  exact imul_int ⟨.int _, H, I.tok _, ⟨_, rfl⟩, q⟩ c.ok
end
end L2

namespace L2
open PySem PySem.Spec PyProof.Rows PySem.W
/-! ### the rules that name the fragment, by a fragment of their own: within a comprehension's block -/
section
variable {X : Cx} {K : Frag} {P : Program} {w : World} (hK : X.K = K)
include hK
theorem pi_listK {tg l : Expr} {tl : TE} (hl : PE X l tl) : PI X tg l (iList K tl) := hK ▸ pi_list hl
theorem pi_tupK {tg l : Expr} {tl : TE} (hl : PE X l tl) : PI X tg l (iTup K tl) := hK ▸ pi_tup hl
theorem pg_tupK {es : List Expr} {k : Nat} {t : TGs} {n : Nat} {pos : Pos} (hc : X.calm = true) (h : PGs X es t) (hn : (assignEach es X.env).length = n) (hst : (assignEach es X.env).findIdx? (·.1) = none) : PG X (.Tuple es k pos) (gTup K n t) := hK ▸ pg_tup hc h hn hst
theorem pt_truthK {a : Expr} {ta : TE} (ha : PE X a ta) (he : ∀ whole, isTrue a X.env whole = (do let v ← whole; standAt a.pos; holding [v] (truthy v))) : PT X a (fun σ H Q => ta σ H fun x H' => ∃ k, TruV K x H' k ∧ Q k H') := hK ▸ pt_truth ha he
end
section
variable {X : Cx} {P : Program} {w : World} (hP : X.prog = P) (hw : X.w = w)
include hP hw
end
end L2

namespace L2
open PySem PySem.Spec PyProof.Rows PySem.W

/-! ### data whose lists are new since B -/
/-! ### a def with defaults; a class that is called -/
structure FunD (K : Frag) (x qual : Str) (st : Stmt) (f : Addr) (fd : FuncData) : Prop where
  ex : ∃ (oc : Value) (od : Option Addr) (dV kV doc pm : Value) (an : Option Addr) (cdv ct : Value) (osl : Array (Option Value)),
    fd = fnOf x qual (defArgs st) (defBody st) (defScope st) dV kV doc pm an cdv ct ∧ K.lookup f = some ⟨oc, od, .func fd, osl⟩ ∧ codeIn K cdv qual = true
  kp : keepIn K (.ref f) = true
section
variable {P : Program} {w : World} {K : Frag} {mg : Str → Option Value} {base : Heap}
theorem FunD.ok {x qual : Str} {st : Stmt} {f : Addr} {fd : FuncData} {N ps : List Str} {k : Nat} {sp : Sp} (F : FunD K x qual st f fd) (S : FnScope N ps (defScope st)) (len : ∀ vs H Q E, sp vs H Q E → vs.length = ps.length)
    (hbody : ∀ (cdv : Value) (A : Around) (outer : List Env) (s : Shared) (H : Hp) (vs : List V) (Q : VK) (E : XK), Room k (A.deeper (envOfC qual (defScope st) s.heap.objs.size f cdv)) → sp vs H Q E →
      ∃ t, PSs (cxOf CX0 P w K mg base N qual (defScope st) f cdv A outer s H E).nox (defBody st) t ∧ t { nx := fun _ H' => Q .non H', rt := Q } (start N vs) H) : FnOk P w K mg base CX0 (k + 1) f fd ps sp := by
  obtain ⟨oc, od, dV, kV, doc, pm, an, cdv, ct, osl, rfl, lk, hcd⟩ := F.ex
  refine fn_of lk hcd S len fun A outer s H vs Q E hr hsp => ?_
  obtain ⟨t, h, q⟩ := hbody cdv A outer s H vs Q E hr hsp
  exact ⟨t, h.nox, q⟩
end
section
variable {X : Cx} {j k : Nat} {sp : Sp} {C : Addr} {x : Str} {p pos : Pos} {e : Expr} {es : List Expr} {t : TA}
end
end L2

namespace L2
open PySem PySem.Spec PyProof.Rows PySem.W
section
variable {X : Cx} {o e : Expr} {apos cpos pos : Pos} {td ty : TE} {kvs : List (Key × V)} {a : Addr}
end
end L2

/-! # the deep mirror: data, store, how they lie in the heap -/
namespace L2
open PySem PySem.Spec PyProof.Rows PySem.W

/-- the mirror's values: a `lst` is a list that nobody changes any more, a `ref` one of the store -/
inductive D where
  | non
  | bl (b : Bool)
  | int (i : Int)
  | str (x : Str)
  | lst (xs : List D)
  | tup (xs : List D)
  | dct (kvs : List (Key × D))
  | ins (c : Str) (fs : List (Str × D))
  | exc (c : Str) (fs : List (Str × D))
  | ref (k : Nat)
  | frl (xs : List D)
  | fn (x : Str)
  | cls (x : Str)
inductive MObj where
  | lst (xs : List D)
  | dct (kvs : List (Key × D))
  | set (xs : List Str)
  | ins (c : Str) (fs : List (Str × D))
abbrev MS := List MObj
abbrev EnvD := List (Option D)

/-- what stays through a law -/
structure Gx where
  P : Program
  w : World
  K : Frag
  cls : Str → Addr
  fn : Str → Addr
  /-- lists that a comprehension is filling: nobody has them -/
  η : List Addr := []
abbrev Gx.hid (G : Gx) (ξ : List Addr) : Gx := { G with η := ξ ++ G.η }
abbrev Gx.at (G : Gx) (η : List Addr) : Gx := { G with η := η }

/-- a list of the module's own, never written -/
def KL (K : Frag) (a : Addr) (xs : List V) : Prop := ∃ (o : Obj) (its : Array Value) (n : Nat), K.lookup a = some o ∧ o.cls = .type "list" ∧ o.dict = none ∧ o.data = .seq its n ∧ its.size ≤ sizeLine ∧ Vals xs its.toList
mutual
/-- data outside the addresses ξ; ι: where the store's things lie -/
inductive VR (G : Gx) (ι ξ : List Addr) (H : Hp) : V → D → Prop where
  | non : VR G ι ξ H .non .non
  | bl (b : Bool) : VR G ι ξ H (.bl b) (.bl b)
  | int (i : Int) : VR G ι ξ H (.int i) (.int i)
  | str (x : Str) : VR G ι ξ H (.str x) (.str x)
  | lst {a : Addr} {vs : List V} {ds : List D} (e : H a = some (.lst vs)) (n : a ∉ ξ) (r : VRs G ι ξ H vs ds) : VR G ι ξ H (.ref a) (.lst ds)
  | tup {a : Addr} {vs : List V} {ds : List D} (e : H a = some (.tup vs)) (n : a ∉ ξ) (r : VRs G ι ξ H vs ds) : VR G ι ξ H (.ref a) (.tup ds)
  | dct {a : Addr} {kvs : List (Key × V)} {kds : List (Key × D)} (e : H a = some (.dK kvs)) (n : a ∉ ξ) (r : VRk G ι ξ H kvs kds) : VR G ι ξ H (.ref a) (.dct kds)
  | ins {a dx : Addr} {c : Str} {vs : List (Str × V)} {fs : List (Str × D)} (e : H a = some (.ins (G.cls c) dx vs)) (n : a ∉ ξ) (r : VRf G ι ξ H vs fs) : VR G ι ξ H (.ref a) (.ins c fs)
  | exc0 {a : Addr} {c : Str} (e : H a = some (XObj false (G.cls c) a none)) (n : a ∉ ξ) : VR G ι ξ H (.ref a) (.exc c [])
  | exc1 {a dx : Addr} {c : Str} {vs : List (Str × V)} {fs : List (Str × D)} (e : H a = some (XObj false (G.cls c) a (some dx))) (n : a ∉ ξ) (e2 : H dx = some (XDict dx vs)) (n2 : dx ∉ ξ) (r : VRf G ι ξ H vs fs) : VR G ι ξ H (.ref a) (.exc c fs)
  | ref {a : Addr} {k : Nat} (e : ι[k]? = some a) : VR G ι ξ H (.ref a) (.ref k)
  | frl {a : Addr} {o : Obj} {vs : List V} {ds : List D} (e : H a = some (.frz o (.lst vs))) (n : a ∉ ξ) (r : VRs G ι ξ H vs ds) : VR G ι ξ H (.ref a) (.frl ds)
  | frk {a : Addr} {vs : List V} {ds : List D} (e : KL G.K a vs) (r : VRs G ι ξ H vs ds) : VR G ι ξ H (.ref a) (.frl ds)
  | fn (x : Str) : VR G ι ξ H (.ref (G.fn x)) (.fn x)
  | cls (x : Str) : VR G ι ξ H (.ref (G.cls x)) (.cls x)
inductive VRs (G : Gx) (ι ξ : List Addr) (H : Hp) : List V → List D → Prop where
  | nil : VRs G ι ξ H [] []
  | cons {v : V} {d : D} {vs : List V} {ds : List D} (a : VR G ι ξ H v d) (r : VRs G ι ξ H vs ds) : VRs G ι ξ H (v :: vs) (d :: ds)
inductive VRk (G : Gx) (ι ξ : List Addr) (H : Hp) : List (Key × V) → List (Key × D) → Prop where
  | nil : VRk G ι ξ H [] []
  | cons {k : Key} {v : V} {d : D} {vs : List (Key × V)} {ds : List (Key × D)} (a : VR G ι ξ H v d) (r : VRk G ι ξ H vs ds) : VRk G ι ξ H ((k, v) :: vs) ((k, d) :: ds)
inductive VRf (G : Gx) (ι ξ : List Addr) (H : Hp) : List (Str × V) → List (Str × D) → Prop where
  | nil : VRf G ι ξ H [] []
  | cons {k : Str} {v : V} {d : D} {vs : List (Str × V)} {ds : List (Str × D)} (a : VR G ι ξ H v d) (r : VRf G ι ξ H vs ds) : VRf G ι ξ H ((k, v) :: vs) ((k, d) :: ds)
end

/-- a step of the heap, seen by data -/
structure Mv (ι ξ : List Addr) (H : Hp) (ι' ξ' : List Addr) (H' : Hp) : Prop where
  pre : ∀ (k : Nat) (a : Addr), ι[k]? = some a → ι'[k]? = some a
  keep : ∀ a o, H a = some o → a ∉ ξ → H' a = some o ∧ a ∉ ξ'
section
variable {G G' : Gx} {ι ξ ι' ξ' : List Addr} {H H' : Hp}
mutual
theorem VR.mv (e : Mv ι ξ H ι' ξ' H') : ∀ {v : V} {d : D}, VR G ι ξ H v d → VR G ι' ξ' H' v d
  | _, _, .non => .non
  | _, _, .bl b => .bl b
  | _, _, .int i => .int i
  | _, _, .str x => .str x
  | _, _, .lst z n r => .lst (e.keep _ _ z n).1 (e.keep _ _ z n).2 (VRs.mv e r)
  | _, _, .tup z n r => .tup (e.keep _ _ z n).1 (e.keep _ _ z n).2 (VRs.mv e r)
  | _, _, .dct z n r => .dct (e.keep _ _ z n).1 (e.keep _ _ z n).2 (VRk.mv e r)
  | _, _, .ins z n r => .ins (e.keep _ _ z n).1 (e.keep _ _ z n).2 (VRf.mv e r)
  | _, _, .exc0 z n => .exc0 (e.keep _ _ z n).1 (e.keep _ _ z n).2
  | _, _, .exc1 z n z2 n2 r => .exc1 (e.keep _ _ z n).1 (e.keep _ _ z n).2 (e.keep _ _ z2 n2).1 (e.keep _ _ z2 n2).2 (VRf.mv e r)
  | _, _, .ref z => .ref (e.pre _ _ z)
  | _, _, .frl z n r => .frl (e.keep _ _ z n).1 (e.keep _ _ z n).2 (VRs.mv e r)
  | _, _, .frk z r => .frk z (VRs.mv e r)
  | _, _, .fn x => .fn x
  | _, _, .cls x => .cls x
theorem VRs.mv (e : Mv ι ξ H ι' ξ' H') : ∀ {vs : List V} {ds : List D}, VRs G ι ξ H vs ds → VRs G ι' ξ' H' vs ds
  | _, _, .nil => .nil
  | _, _, .cons a r => .cons (VR.mv e a) (VRs.mv e r)
theorem VRk.mv (e : Mv ι ξ H ι' ξ' H') : ∀ {vs : List (Key × V)} {ds : List (Key × D)}, VRk G ι ξ H vs ds → VRk G ι' ξ' H' vs ds
  | _, _, .nil => .nil
  | _, _, .cons a r => .cons (VR.mv e a) (VRk.mv e r)
theorem VRf.mv (e : Mv ι ξ H ι' ξ' H') : ∀ {vs : List (Str × V)} {ds : List (Str × D)}, VRf G ι ξ H vs ds → VRf G ι' ξ' H' vs ds
  | _, _, .nil => .nil
  | _, _, .cons a r => .cons (VR.mv e a) (VRf.mv e r)
end
mutual
/-- another list of hidden addresses: the tables are the same -/
theorem VR.at (η : List Addr) : ∀ {v : V} {d : D}, VR G ι ξ H v d → VR (G.at η) ι ξ H v d
  | _, _, .non => .non
  | _, _, .bl b => .bl b
  | _, _, .int i => .int i
  | _, _, .str x => .str x
  | _, _, .lst z n r => .lst z n (VRs.at η r)
  | _, _, .tup z n r => .tup z n (VRs.at η r)
  | _, _, .dct z n r => .dct z n (VRk.at η r)
  | _, _, .ins z n r => .ins z n (VRf.at η r)
  | _, _, .exc0 z n => .exc0 z n
  | _, _, .exc1 z n z2 n2 r => .exc1 z n z2 n2 (VRf.at η r)
  | _, _, .ref z => .ref z
  | _, _, .frl z n r => .frl z n (VRs.at η r)
  | _, _, .frk z r => .frk z (VRs.at η r)
  | _, _, .fn x => .fn (G := G.at η) x
  | _, _, .cls x => .cls (G := G.at η) x
theorem VRs.at (η : List Addr) : ∀ {vs : List V} {ds : List D}, VRs G ι ξ H vs ds → VRs (G.at η) ι ξ H vs ds
  | _, _, .nil => .nil
  | _, _, .cons a r => .cons (VR.at η a) (VRs.at η r)
theorem VRk.at (η : List Addr) : ∀ {vs : List (Key × V)} {ds : List (Key × D)}, VRk G ι ξ H vs ds → VRk (G.at η) ι ξ H vs ds
  | _, _, .nil => .nil
  | _, _, .cons a r => .cons (VR.at η a) (VRk.at η r)
theorem VRf.at (η : List Addr) : ∀ {vs : List (Str × V)} {ds : List (Str × D)}, VRf G ι ξ H vs ds → VRf (G.at η) ι ξ H vs ds
  | _, _, .nil => .nil
  | _, _, .cons a r => .cons (VR.at η a) (VRf.at η r)
end
theorem VRs.length : ∀ {vs : List V} {ds : List D}, VRs G ι ξ H vs ds → vs.length = ds.length
  | _, _, .nil => rfl
  | _, _, .cons _ r => by rw [List.length_cons, List.length_cons, r.length]
theorem VRk.length : ∀ {vs : List (Key × V)} {ds : List (Key × D)}, VRk G ι ξ H vs ds → vs.length = ds.length
  | _, _, .nil => rfl
  | _, _, .cons _ r => by rw [List.length_cons, List.length_cons, r.length]
theorem VRf.length : ∀ {vs : List (Str × V)} {ds : List (Str × D)}, VRf G ι ξ H vs ds → vs.length = ds.length
  | _, _, .nil => rfl
  | _, _, .cons _ r => by rw [List.length_cons, List.length_cons, r.length]
theorem VRs.append : ∀ {vs ws : List V} {ds es : List D}, VRs G ι ξ H vs ds → VRs G ι ξ H ws es → VRs G ι ξ H (vs ++ ws) (ds ++ es)
  | _, _, _, _, .nil, q => q
  | _, _, _, _, .cons a r, q => .cons a (r.append q)
theorem VRs.get : ∀ {vs : List V} {ds : List D} {i : Nat} {d : D}, VRs G ι ξ H vs ds → ds[i]? = some d → ∃ v, vs[i]? = some v ∧ VR G ι ξ H v d
  | _, _, 0, _, .cons a _, e => ⟨_, rfl, by cases e; exact a⟩
  | _, _, i + 1, _, .cons _ r, e => r.get (i := i) e
  | _, _, i, _, .nil, e => by cases i <;> cases e
theorem VRs.set {v : V} {d : D} (h : VR G ι ξ H v d) : ∀ {vs : List V} {ds : List D} (i : Nat), VRs G ι ξ H vs ds → VRs G ι ξ H (vs.set i v) (ds.set i d)
  | _, _, _, .nil => .nil
  | _, _, 0, .cons _ r => .cons h r
  | _, _, i + 1, .cons a r => .cons a (VRs.set h i r)
theorem VRs.take : ∀ {vs : List V} {ds : List D} (n : Nat), VRs G ι ξ H vs ds → VRs G ι ξ H (vs.take n) (ds.take n)
  | _, _, 0, _ => .nil
  | _, _, _ + 1, .nil => .nil
  | _, _, n + 1, .cons a r => .cons a (VRs.take n r)
theorem VRs.drop : ∀ {vs : List V} {ds : List D} (n : Nat), VRs G ι ξ H vs ds → VRs G ι ξ H (vs.drop n) (ds.drop n)
  | _, _, 0, r => r
  | _, _, _ + 1, .nil => .nil
  | _, _, n + 1, .cons _ r => VRs.drop n r
theorem VRs.dropLast {vs : List V} {ds : List D} (r : VRs G ι ξ H vs ds) : VRs G ι ξ H vs.dropLast ds.dropLast := by
  rw [List.dropLast_eq_take, List.dropLast_eq_take, r.length]
  exact r.take _
theorem VRs.isEmpty {vs : List V} {ds : List D} (r : VRs G ι ξ H vs ds) : vs.isEmpty = ds.isEmpty := by cases r <;> rfl
theorem VRk.isEmpty {vs : List (Key × V)} {ds : List (Key × D)} (r : VRk G ι ξ H vs ds) : vs.isEmpty = ds.isEmpty := by cases r <;> rfl
theorem VRf.lookup {f : Str} : ∀ {vs : List (Str × V)} {fs : List (Str × D)}, VRf G ι ξ H vs fs → (∃ v d, vs.lookup f = some v ∧ fs.lookup f = some d ∧ VR G ι ξ H v d) ∨ (vs.lookup f = none ∧ fs.lookup f = none)
  | _, _, .nil => .inr ⟨rfl, rfl⟩
  | _, _, .cons (k := n) a r => by
    rw [List.lookup_cons, List.lookup_cons]
    cases hb : f == n with
    | true => exact .inl ⟨_, _, rfl, rfl, a⟩
    | false => exact VRf.lookup r
theorem VRf.mem {f : Str} {vs : List (Str × V)} {fs : List (Str × D)} {d : D} (r : VRf G ι ξ H vs fs) (e : fs.lookup f = some d) : ∃ v, vs.lookup f = some v ∧ VR G ι ξ H v d := by
  rcases r.lookup (f := f) with ⟨v, d', h1, h2, h3⟩ | ⟨_, h2⟩
  · rw [h2] at e; cases e; exact ⟨v, h1, h3⟩
  · rw [h2] at e; cases e
end

/-! ### the heap goes on: what is no thing of the store stays, new ones are new -/
structure Ext (ι : List Addr) (H : Hp) (ι' : List Addr) (H' : Hp) : Prop where
  pre : ι <+: ι'
  keep : ∀ a o, H a = some o → a ∉ ι → H' a = some o
  new : ∀ a, a ∈ ι' → a ∉ ι → H a = none
theorem Ext.refl {ι : List Addr} {H : Hp} : Ext ι H ι H := ⟨List.prefix_rfl, fun _ _ e _ => e, fun _ h n => absurd h n⟩
theorem Ext.out {ι ι' : List Addr} {H H' : Hp} (e : Ext ι H ι' H') {a : Addr} {o : HO} (h : H a = some o) (n : a ∉ ι) : a ∉ ι' := fun z => by
  rw [e.new a z n] at h; cases h
theorem Ext.trans {ι ι1 ι2 : List Addr} {H H1 H2 : Hp} (e : Ext ι H ι1 H1) (f : Ext ι1 H1 ι2 H2) : Ext ι H ι2 H2 where
  pre := e.pre.trans f.pre
  keep := fun a o h n => f.keep a o (e.keep a o h n) (e.out h n)
  new := fun a h n => by
    by_cases h1 : a ∈ ι1
    · exact e.new a h1 n
    · cases q : H a with
      | none => rfl
      | some o => exact absurd (e.keep a o q n) (by rw [f.new a h h1]; exact fun z => nomatch z)
theorem Ext.same {ι : List Addr} {H H' : Hp} (s : Same H H') : Ext ι H ι H' := ⟨List.prefix_rfl, fun a o h _ => s a o h, fun _ h n => absurd h n⟩
theorem pre_get {ι ι' : List Addr} (e : ι <+: ι') {k : Nat} {a : Addr} (h : ι[k]? = some a) : ι'[k]? = some a := by
  obtain ⟨t, rfl⟩ := e
  rw [List.getElem?_append_left (List.getElem?_eq_some_iff.mp h).1]; exact h
theorem Ext.stay {η ι ι' : List Addr} {H H' : Hp} (e : Ext ι H ι' H') {a : Addr} {o : HO} (h : H a = some o) (n : a ∉ η ++ ι) : H' a = some o ∧ a ∉ η ++ ι' := by
  have n1 : a ∉ η := fun z => n (List.mem_append_left _ z)
  have n2 : a ∉ ι := fun z => n (List.mem_append_right _ z)
  exact ⟨e.keep _ _ h n2, fun z => (List.mem_append.mp z).elim n1 (e.out h n2)⟩
theorem Ext.mv {η ι ι' : List Addr} {H H' : Hp} (e : Ext ι H ι' H') : Mv ι (η ++ ι) H ι' (η ++ ι') H' := ⟨fun _ _ h => pre_get e.pre h, fun _ _ h n => e.stay h n⟩
theorem Ext.updN {ι ι' : List Addr} {H H' : Hp} {x : Addr} {o : HO} (e : Ext ι H ι' H') (hx : H x = none) : Ext ι H ι' (upd H' x o) := ⟨e.pre, fun a u h n => by rw [upd_ne (ne_of_none h hx)]; exact e.keep a u h n, e.new⟩

/-- a value of the mirror, in the heap -/
abbrev RV (G : Gx) (ι : List Addr) (H : Hp) (v : V) (d : D) : Prop := VR G ι (G.η ++ ι) H v d
abbrev RVs (G : Gx) (ι : List Addr) (H : Hp) (vs : List V) (ds : List D) : Prop := VRs G ι (G.η ++ ι) H vs ds
abbrev RVk (G : Gx) (ι : List Addr) (H : Hp) (vs : List (Key × V)) (ds : List (Key × D)) : Prop := VRk G ι (G.η ++ ι) H vs ds
abbrev RVf (G : Gx) (ι : List Addr) (H : Hp) (vs : List (Str × V)) (ds : List (Str × D)) : Prop := VRf G ι (G.η ++ ι) H vs ds
/-- a thing of the store -/
def OR (G : Gx) (ι : List Addr) (H : Hp) (a : Addr) : MObj → Prop
  | .lst ds => ∃ vs, H a = some (.lst vs) ∧ RVs G ι H vs ds
  | .dct kds => ∃ kvs, H a = some (.dK kvs) ∧ RVk G ι H kvs kds
  | .set xs => H a = some (SSet G.P G.w a (fun k => xs.contains k) xs.length)
  | .ins c fs => ∃ dx vs, H a = some (.ins (G.cls c) dx vs) ∧ RVf G ι H vs fs
structure Rel (G : Gx) (ι : List Addr) (M : MS) (H : Hp) : Prop where
  len : ι.length = M.length
  nd : ι.Nodup
  at' : ∀ (k : Nat) (a : Addr) (m : MObj), ι[k]? = some a → M[k]? = some m → OR G ι H a m
  hid : ∀ a ∈ G.η, ∃ o, H a = some o
def ER (G : Gx) (ι : List Addr) (H : Hp) (σ : St) (δ : EnvD) : Prop := σ.length = δ.length ∧ ∀ (i : Nat) (d : D), δ[i]? = some (some d) → ∃ v, σ[i]? = some (some v) ∧ RV G ι H v d
section
variable {G : Gx} {ι ι' : List Addr} {H H' : Hp}
theorem VR.ext (e : Ext ι H ι' H') {v : V} {d : D} (h : RV G ι H v d) : RV G ι' H' v d := h.mv e.mv
theorem VRs.ext (e : Ext ι H ι' H') {vs : List V} {ds : List D} (h : RVs G ι H vs ds) : RVs G ι' H' vs ds := h.mv e.mv
theorem VRk.ext (e : Ext ι H ι' H') {vs : List (Key × V)} {ds : List (Key × D)} (h : RVk G ι H vs ds) : RVk G ι' H' vs ds := h.mv e.mv
theorem VRf.ext (e : Ext ι H ι' H') {vs : List (Str × V)} {ds : List (Str × D)} (h : RVf G ι H vs ds) : RVf G ι' H' vs ds := h.mv e.mv
theorem ER.ext (e : Ext ι H ι' H') {σ : St} {δ : EnvD} (h : ER G ι H σ δ) : ER G ι' H' σ δ := ⟨h.1, fun i d q => let ⟨v, a, b⟩ := h.2 i d q; ⟨v, a, b.ext e⟩⟩
theorem ER.set {σ : St} {δ : EnvD} (h : ER G ι H σ δ) {v : V} {d : D} (r : RV G ι H v d) (i : Nat) : ER G ι H (σ.set i (some v)) (δ.set i (some d)) := by
  refine ⟨by rw [List.length_set, List.length_set]; exact h.1, fun j e q => ?_⟩
  rw [List.getElem?_set] at q
  rw [List.getElem?_set]
  by_cases hj : i = j
  · subst hj
    rw [if_pos rfl] at q
    rw [if_pos rfl]
    by_cases hl : i < δ.length
    · rw [if_pos hl] at q
      cases q
      rw [if_pos (by rw [h.1]; exact hl)]
      exact ⟨v, rfl, r⟩
    · rw [if_neg hl] at q; cases q
  · rw [if_neg hj] at q
    rw [if_neg hj]
    exact h.2 j e q
/-- a name is unset -/
theorem ER.unset {σ : St} {δ : EnvD} (h : ER G ι H σ δ) (i : Nat) : ER G ι H (σ.set i none) (δ.set i none) := by
  refine ⟨by rw [List.length_set, List.length_set]; exact h.1, fun j e q => ?_⟩
  rw [List.getElem?_set] at q
  rw [List.getElem?_set]
  by_cases hj : i = j
  · subst hj
    rw [if_pos rfl] at q
    split at q <;> cases q
  · rw [if_neg hj] at q
    rw [if_neg hj]
    exact h.2 j e q
theorem OR.some {a : Addr} {m : MObj} (h : OR G ι H a m) : ∃ o, H a = some o := by
  cases m with
  | lst ds => obtain ⟨vs, h, _⟩ := h; exact ⟨_, h⟩
  | dct ds => obtain ⟨vs, h, _⟩ := h; exact ⟨_, h⟩
  | set xs => exact ⟨_, h⟩
  | ins c fs => obtain ⟨_, _, h, _⟩ := h; exact ⟨_, h⟩
theorem OR.mv {G' : Gx} {a : Addr} {m : MObj} (hc : G'.cls = G.cls) (hP : G'.P = G.P) (hw : G'.w = G.w) (h : OR G ι H a m) (k : H' a = H a) (es : ∀ {vs ds}, RVs G ι H vs ds → RVs G' ι' H' vs ds) (ek : ∀ {vs ds}, RVk G ι H vs ds → RVk G' ι' H' vs ds) (ef : ∀ {vs ds}, RVf G ι H vs ds → RVf G' ι' H' vs ds) : OR G' ι' H' a m := by
  cases m with
  | lst ds => obtain ⟨vs, h, r⟩ := h; exact ⟨vs, k.trans h, es r⟩
  | dct ds => obtain ⟨vs, h, r⟩ := h; exact ⟨vs, k.trans h, ek r⟩
  | set xs => show H' a = _; rw [hP, hw]; exact k.trans h
  | ins c fs => obtain ⟨dx, vs, h, r⟩ := h; exact ⟨dx, vs, by rw [hc]; exact k.trans h, ef r⟩
theorem OR.ext {a : Addr} {m : MObj} (e : Ext ι H ι' H') (h : OR G ι H a m) (k : H' a = H a) : OR G ι' H' a m := h.mv rfl rfl rfl k (fun r => r.ext e) (fun r => r.ext e) (fun r => r.ext e)
theorem Rel.mem {M : MS} (R : Rel G ι M H) {a : Addr} (h : a ∈ ι) : ∃ o, H a = some o := by
  obtain ⟨k, hk⟩ := List.getElem?_of_mem h
  have hl := (List.getElem?_eq_some_iff.mp hk).1
  rw [R.len] at hl
  exact (R.at' k a M[k] hk (List.getElem?_eq_getElem hl)).some
theorem Rel.out {M : MS} (R : Rel G ι M H) {a : Addr} (h : H a = none) : a ∉ ι := fun z => by
  obtain ⟨o, q⟩ := R.mem z
  rw [h] at q; cases q
theorem Rel.outs {M : MS} (R : Rel G ι M H) {a : Addr} (h : H a = none) : a ∉ G.η ++ ι := fun z => by
  rcases List.mem_append.mp z with z | z
  · obtain ⟨o, q⟩ := R.hid a z
    rw [h] at q; cases q
  · exact R.out h z
theorem Rel.same {M : MS} (R : Rel G ι M H) (s : Same H H') : Rel G ι M H' := ⟨R.len, R.nd, fun k a m h1 h2 => by
  have q := R.at' k a m h1 h2
  obtain ⟨o, z⟩ := q.some
  exact q.ext (Ext.same s) (by rw [s _ _ z, z]), fun a h => let ⟨o, q⟩ := R.hid a h; ⟨o, s _ _ q⟩⟩
/-- a thing of the store is written -/
theorem Ext.write {a : Addr} {o : HO} (h : a ∈ ι) : Ext ι H ι (upd H a o) := ⟨List.prefix_rfl, fun b u e n => by rw [upd_ne (fun z => n (by rw [z]; exact h))]; exact e, fun _ h n => absurd h n⟩
theorem Rel.write {M : MS} (R : Rel G ι M H) {k : Nat} {a : Addr} {m : MObj} {o : HO} (hk : ι[k]? = some a) (h : OR G ι (upd H a o) a m) : Rel G ι (M.set k m) (upd H a o) := by
  refine ⟨by rw [List.length_set]; exact R.len, R.nd, fun j b m' h1 h2 => ?_, fun b hb => ?_⟩
  rotate_left
  · by_cases z : b = a
    · exact ⟨o, by rw [z, upd_same]⟩
    · rw [upd_ne z]; exact R.hid b hb
  have hm : a ∈ ι := List.mem_of_getElem? hk
  rw [List.getElem?_set] at h2
  by_cases hj : k = j
  · subst hj
    rw [hk] at h1; cases h1
    rw [if_pos rfl] at h2
    have hl := (List.getElem?_eq_some_iff.mp hk).1
    rw [R.len] at hl
    rw [if_pos hl] at h2
    cases h2; exact h
  · rw [if_neg hj] at h2
    have ne : b ≠ a := fun z => hj (by
      subst z
      have l1 := (List.getElem?_eq_some_iff.mp hk).1
      exact (List.getElem?_inj l1 R.nd).mp (hk.trans h1.symm))
    exact (R.at' j b m' h1 h2).ext (Ext.write hm) (upd_ne ne)
/-- a new thing of the store -/
theorem Ext.cell {p : Addr} (s : Same H H') (hp : H p = none) : Ext ι H (ι ++ [p]) H' := ⟨List.prefix_append _ _, fun a o h _ => s a o h, fun a h n => by
  rcases List.mem_append.mp h with z | z
  · exact absurd z n
  · simp at z; rw [z]; exact hp⟩
theorem Rel.cell {M : MS} (R : Rel G ι M H) {p : Addr} {m : MObj} (s : Same H H') (hp : H p = none) (h : OR G (ι ++ [p]) H' p m) : Rel G (ι ++ [p]) (M ++ [m]) H' := by
  refine ⟨by simp [R.len], ?_, fun k a m' h1 h2 => ?_, fun a h => let ⟨o, q⟩ := R.hid a h; ⟨o, s _ _ q⟩⟩
  · refine List.nodup_append.mpr ⟨R.nd, by simp, fun a ha b hb z => ?_⟩
    simp at hb
    subst z; subst hb
    exact R.out hp ha
  · by_cases hk : k < ι.length
    · rw [List.getElem?_append_left hk] at h1
      rw [List.getElem?_append_left (by rw [← R.len]; exact hk)] at h2
      have q := R.at' k a m' h1 h2
      obtain ⟨o, z⟩ := q.some
      exact q.ext (Ext.cell s hp) (by rw [s _ _ z, z])
    · have e1 : k = ι.length := by
        have := (List.getElem?_eq_some_iff.mp h1).1
        simp at this
        omega
      subst e1
      simp at h1
      subst h1
      rw [R.len] at h2
      simp at h2
      subst h2
      exact h
/-! hidden addresses -/
theorem hide_mv {ζ : List Addr} (f : ∀ a ∈ ζ, H a = none) : Mv ι (G.η ++ ι) H ι ((G.hid ζ).η ++ ι) H := ⟨fun _ _ h => h, fun a o h n => ⟨h, fun z => by
  rcases List.mem_append.mp z with z | z
  · rcases List.mem_append.mp z with z | z
    · rw [f a z] at h; cases h
    · exact n (List.mem_append_left _ z)
  · exact n (List.mem_append_right _ z)⟩⟩
theorem VR.hide {ζ : List Addr} (f : ∀ a ∈ ζ, H a = none) {v : V} {d : D} (h : RV G ι H v d) : RV (G.hid ζ) ι H v d := (h.mv (hide_mv f)).at _
theorem VRs.hide {ζ : List Addr} (f : ∀ a ∈ ζ, H a = none) {v : List V} {d : List D} (h : RVs G ι H v d) : RVs (G.hid ζ) ι H v d := (h.mv (hide_mv f)).at _
theorem ER.hide {ζ : List Addr} (f : ∀ a ∈ ζ, H a = none) {σ : St} {δ : EnvD} (h : ER G ι H σ δ) : ER (G.hid ζ) ι H σ δ := ⟨h.1, fun i d q => let ⟨v, a, b⟩ := h.2 i d q; ⟨v, a, b.hide f⟩⟩
theorem show_mv {ζ : List Addr} : Mv ι ((G.hid ζ).η ++ ι) H ι (G.η ++ ι) H := ⟨fun _ _ h => h, fun a o h n => ⟨h, fun z => n ((List.mem_append.mp z).elim (fun z => List.mem_append_left _ (List.mem_append_right _ z)) (List.mem_append_right _))⟩⟩
theorem VRs.unhide {ζ : List Addr} {v : List V} {d : List D} (h : RVs (G.hid ζ) ι H v d) : RVs G ι H v d := (h.mv (G := G.hid ζ) (show_mv (G := G))).at G.η
theorem VRk.unhide {ζ : List Addr} {v : List (Key × V)} {d : List (Key × D)} (h : RVk (G.hid ζ) ι H v d) : RVk G ι H v d := (h.mv (G := G.hid ζ) (show_mv (G := G))).at G.η
theorem VRf.unhide {ζ : List Addr} {v : List (Str × V)} {d : List (Str × D)} (h : RVf (G.hid ζ) ι H v d) : RVf G ι H v d := (h.mv (G := G.hid ζ) (show_mv (G := G))).at G.η
theorem Rel.unhide {ζ : List Addr} {M : MS} (R : Rel (G.hid ζ) ι M H) : Rel G ι M H := ⟨R.len, R.nd, fun k a m h1 h2 => OR.mv (G := G.hid ζ) (G' := G) rfl rfl rfl (R.at' k a m h1 h2) rfl (fun r => r.unhide) (fun r => r.unhide) (fun r => r.unhide),
  fun a h => R.hid a (List.mem_append_right _ h)⟩
/-- a hidden one is written -/
theorem write_mv {x : Addr} {o : HO} (hx : x ∈ G.η) : Mv ι (G.η ++ ι) H ι (G.η ++ ι) (upd H x o) := ⟨fun _ _ h => h, fun a u h n => ⟨by rw [upd_ne (fun z => n (List.mem_append_left _ (by rw [z]; exact hx)))]; exact h, n⟩⟩
theorem VR.hidden {x : Addr} {o : HO} (hx : x ∈ G.η) {v : V} {d : D} (h : RV G ι H v d) : RV G ι (upd H x o) v d := h.mv (write_mv hx)
theorem ER.hidden {x : Addr} {o : HO} (hx : x ∈ G.η) {σ : St} {δ : EnvD} (h : ER G ι H σ δ) : ER G ι (upd H x o) σ δ := ⟨h.1, fun i d q => let ⟨v, a, b⟩ := h.2 i d q; ⟨v, a, b.hidden hx⟩⟩
theorem Rel.hidden {x : Addr} {o : HO} {M : MS} (R : Rel G ι M H) (hx : x ∈ G.η) (hn : x ∉ ι) : Rel G ι M (upd H x o) := ⟨R.len, R.nd, fun k a m h1 h2 => by
  have ne : a ≠ x := fun z => hn (by rw [← z]; exact List.mem_of_getElem? h1)
  exact (R.at' k a m h1 h2).mv rfl rfl rfl (upd_ne ne) (fun r => r.mv (write_mv hx)) (fun r => r.mv (write_mv hx)) (fun r => r.mv (write_mv hx)),
  fun a h => by
    by_cases z : a = x
    · exact ⟨o, by rw [z, upd_same]⟩
    · rw [upd_ne z]; exact R.hid a h⟩
theorem Rel.hide {x : Addr} {o : HO} {M : MS} (R : Rel G ι M H) (hx : H x = none) : Rel (G.hid [x]) ι M (upd H x o) := by
  have f : ∀ a ∈ [x], H a = none := fun a z => by simp at z; rw [z]; exact hx
  have st : Mv ι (G.η ++ ι) H ι ((G.hid [x]).η ++ ι) (upd H x o) := ⟨fun _ _ h => h, fun a u h n => ⟨by rw [upd_ne (ne_of_none h hx)]; exact h, ((hide_mv (G := G) f).keep a u h n).2⟩⟩
  refine ⟨R.len, R.nd, fun k a m h1 h2 => ?_, fun a h => ?_⟩
  · have ne : a ≠ x := fun z => R.out hx (by rw [← z]; exact List.mem_of_getElem? h1)
    exact OR.mv (G := G) (G' := G.hid [x]) rfl rfl rfl (R.at' k a m h1 h2) (upd_ne ne) (fun r => (r.mv st).at _) (fun r => (r.mv st).at _) (fun r => (r.mv st).at _)
  · by_cases z : a = x
    · exact ⟨o, by rw [z, upd_same]⟩
    · rw [upd_ne z]
      rcases List.mem_append.mp h with h | h
      · simp at h; exact absurd h z
      · exact R.hid a h
end
end L2

namespace L2
open PySem PySem.Spec PyProof.Rows PySem.W

/-! ### what a piece of code comes to, in the mirror -/
inductive Rs (α : Type) where
  | ok (a : α) (M : MS)
  | ex (c : Str) (fs : List (Str × D)) (M : MS)
def rb {α β : Type} (r : Option (Rs α)) (k : α → MS → Option (Rs β)) : Option (Rs β) :=
  match r with
  | none => none
  | some (.ok a M) => k a M
  | some (.ex c fs M) => some (.ex c fs M)
@[simp] theorem rb_ok {α β : Type} {a : α} {M : MS} {k : α → MS → Option (Rs β)} : rb (some (.ok a M)) k = k a M := rfl
@[simp] theorem rb_ex {α β : Type} {c : Str} {fs : List (Str × D)} {M : MS} {k : α → MS → Option (Rs β)} : rb (some (.ex c fs M)) k = some (.ex c fs M) := rfl
@[simp] theorem rb_none {α β : Type} {k : α → MS → Option (Rs β)} : rb none k = none := rfl
abbrev FE := EnvD → MS → Option (Rs D)
abbrev FT := EnvD → MS → Option (Rs Bool)
abbrev FA := EnvD → MS → Option (Rs (List D))
abbrev XW := Addr → St → Hp → Prop
/-- an exception that lies in the heap -/
abbrev XR (G : Gx) (ι : List Addr) (H : Hp) (x : Addr) (c : Str) (fs : List (Str × D)) : Prop := RV G ι H (.ref x) (.exc c fs)
def GR {α β : Type} (G : Gx) (vr : List Addr → Hp → β → α → Prop) (W : XW) (ι : List Addr) (H : Hp) (σ : St) (Q : β → Hp → Prop) : Option (Rs α) → Prop
  | none => False
  | some (.ok a M) => ∀ v H' ι', Ext ι H ι' H' → Rel G ι' M H' → vr ι' H' v a → Q v H'
  | some (.ex c fs M) => ∀ x H' ι', Ext ι H ι' H' → Rel G ι' M H' → XR G ι' H' x c fs → W x σ H'
def BR : List Addr → Hp → Bool → Bool → Prop := fun _ _ b c => b = c
def SimE (G : Gx) (W : XW) (t : TE) (f : FE) : Prop := ∀ (σ : St) (δ : EnvD) (ι : List Addr) (M : MS) (H : Hp) (Q : VK), Rel G ι M H → ER G ι H σ δ → GR G (RV G) W ι H σ Q (f δ M) → t σ H Q
def SimT (G : Gx) (W : XW) (t : TT) (f : FT) : Prop := ∀ (σ : St) (δ : EnvD) (ι : List Addr) (M : MS) (H : Hp) (Q : Bool → Hp → Prop), Rel G ι M H → ER G ι H σ δ → GR G BR W ι H σ Q (f δ M) → t σ H Q
def SimA (G : Gx) (W : XW) (t : TA) (f : FA) : Prop := ∀ (σ : St) (δ : EnvD) (ι : List Addr) (M : MS) (H : Hp) (Q : List V → Hp → Prop), Rel G ι M H → ER G ι H σ δ → GR G (RVs G) W ι H σ Q (f δ M) → t σ H Q
section
variable {α β γ ε : Type} {G : Gx} {vr : List Addr → Hp → β → α → Prop} {vr2 : List Addr → Hp → ε → γ → Prop} {W : XW} {ι ι1 : List Addr} {H H1 : Hp} {σ : St}
theorem GR.ext {Q : β → Hp → Prop} {r : Option (Rs α)} (e : Ext ι H ι1 H1) (h : GR G vr W ι H σ Q r) : GR G vr W ι1 H1 σ Q r := by
  cases r with
  | none => exact h
  | some r => cases r with
    | ok a M => exact fun v H' ι' e' R q => h v H' ι' (e.trans e') R q
    | ex c fs M => exact fun x H' ι' e' R q => h x H' ι' (e.trans e') R q
theorem GR.bind {Q : ε → Hp → Prop} {Q' : β → Hp → Prop} {r : Option (Rs α)} {k : α → MS → Option (Rs γ)} (h : GR G vr2 W ι H σ Q (rb r k))
    (m : ∀ v H1 ι1 M1 d, Ext ι H ι1 H1 → Rel G ι1 M1 H1 → vr ι1 H1 v d → GR G vr2 W ι1 H1 σ Q (k d M1) → Q' v H1) : GR G vr W ι H σ Q' r := by
  cases r with
  | none => exact h
  | some r => cases r with
    | ok a M => exact fun v H' ι' e' R q => m v H' ι' M a e' R q (GR.ext e' h)
    | ex c fs M => exact h
end
section
variable {G : Gx} {W : XW}
/-! names, constants -/
def mVar (i : Nat) : FE := fun δ M => match δ[i]? with
  | some (some d) => some (.ok d M)
  | _ => none
theorem sim_var (i : Nat) : SimE G W (tVar i) (mVar i) := fun σ δ ι M H Q R E h => by
  unfold mVar at h
  cases e : δ[i]? with
  | none => rw [e] at h; exact h.elim
  | some o => cases o with
    | none => rw [e] at h; exact h.elim
    | some d =>
      rw [e] at h
      obtain ⟨v, hv, r⟩ := E.2 i d e
      exact ⟨v, hv, h v H ι Ext.refl R r⟩
def mC (d : D) : FE := fun _ M => some (.ok d M)
theorem sim_c {v : V} {d : D} (r : ∀ ι H, RV G ι H v d) : SimE G W (tC v) (mC d) := fun σ δ ι M H Q R E h => h v H ι Ext.refl R (r ι H)
/-! argument lists -/
def mNil : FA := fun _ M => some (.ok [] M)
def mCons (f : FE) (g : FA) : FA := fun δ M => rb (f δ M) fun x M1 => rb (g δ M1) fun xs M2 => some (.ok (x :: xs) M2)
theorem sim_nil : SimA G W tNil mNil := fun σ δ ι M H Q R E h => h [] H ι Ext.refl R .nil
theorem sim_cons {t : TE} {f : FE} {u : TA} {g : FA} (a : SimE G W t f) (b : SimA G W u g) : SimA G W (tCons t u) (mCons f g) := fun σ δ ι M H Q R E h =>
  a σ δ ι M H _ R E (GR.bind h fun v H1 ι1 M1 d e1 R1 r1 h1 => b σ δ ι1 M1 H1 _ R1 (E.ext e1) (GR.bind h1 fun vs H2 ι2 M2 ds e2 R2 r2 h2 =>
    h2 (v :: vs) H2 ι2 Ext.refl R2 (.cons (r1.ext e2) r2)))
/-! two-place operations -/
abbrev F2 := D → D → MS → Option (Rs D)
def SimR (G : Gx) (r : R2) (g : F2) : Prop := ∀ (W : XW) (σ : St) (ι : List Addr) (M : MS) (H : Hp) (x y : V) (dx dy : D) (Q : VK), Rel G ι M H → RV G ι H x dx → RV G ι H y dy → GR G (RV G) W ι H σ Q (g dx dy M) → r x y H Q
def mOp (g : F2) (fa fb : FE) : FE := fun δ M => rb (fa δ M) fun x M1 => rb (fb δ M1) fun y M2 => g x y M2
theorem sim_op {r : R2} {g : F2} {ta tb : TE} {fa fb : FE} (o : SimR G r g) (a : SimE G W ta fa) (b : SimE G W tb fb) : SimE G W (tOp r ta tb) (mOp g fa fb) := fun σ δ ι M H Q R E h =>
  a σ δ ι M H _ R E (GR.bind h fun v H1 ι1 M1 d e1 R1 r1 h1 => b σ δ ι1 M1 H1 _ R1 (E.ext e1) (GR.bind h1 fun u H2 ι2 M2 d2 e2 R2 r2 h2 =>
    o W σ ι2 M2 H2 v u d d2 Q R2 (r1.ext e2) r2 h2))
/-! one-place -/
abbrev F1 := D → MS → Option (Rs D)
def SimU (G : Gx) (r : V → Hp → VK → Prop) (g : F1) : Prop := ∀ (W : XW) (σ : St) (ι : List Addr) (M : MS) (H : Hp) (x : V) (dx : D) (Q : VK), Rel G ι M H → RV G ι H x dx → GR G (RV G) W ι H σ Q (g dx M) → r x H Q
def mUn (g : F1) (fa : FE) : FE := fun δ M => rb (fa δ M) fun x M1 => g x M1
theorem sim_un {r : V → Hp → VK → Prop} {g : F1} {ta : TE} {fa : FE} (o : SimU G r g) (a : SimE G W ta fa) : SimE G W (tUn r ta) (mUn g fa) := fun σ δ ι M H Q R E h =>
  a σ δ ι M H _ R E (GR.bind h fun v H1 ι1 M1 d e1 R1 r1 h1 => o W σ ι1 M1 H1 v d Q R1 r1 h1)
/-! calls of built-ins -/
abbrev FN := List D → MS → Option (Rs D)
def SimN (G : Gx) (r : List V → Hp → VK → Prop) (g : FN) : Prop := ∀ (W : XW) (σ : St) (ι : List Addr) (M : MS) (H : Hp) (vs : List V) (ds : List D) (Q : VK), Rel G ι M H → RVs G ι H vs ds → GR G (RV G) W ι H σ Q (g ds M) → r vs H Q
def mB (g : FN) (fa : FA) : FE := fun δ M => rb (fa δ M) fun xs M1 => g xs M1
theorem sim_b {r : List V → Hp → VK → Prop} {g : FN} {ta : TA} {fa : FA} (o : SimN G r g) (a : SimA G W ta fa) : SimE G W (tCB r ta) (mB g fa) := fun σ δ ι M H Q R E h =>
  a σ δ ι M H _ R E (GR.bind h fun v H1 ι1 M1 d e1 R1 r1 h1 => o W σ ι1 M1 H1 v d Q R1 r1 h1)
/-! tests -/
def tru (f : FE) : FT := fun δ M => rb (f δ M) fun d M1 => match d with
  | .bl b => some (.ok b M1)
  | _ => none
theorem vr_bool {ι : List Addr} {H : Hp} {v : V} {b : Bool} (h : RV G ι H v (.bl b)) : v = .bl b := by cases h; rfl
theorem vr_int {ι : List Addr} {H : Hp} {v : V} {b : Int} (h : RV G ι H v (.int b)) : v = .int b := by cases h; rfl
theorem vr_str {ι : List Addr} {H : Hp} {v : V} {b : Str} (h : RV G ι H v (.str b)) : v = .str b := by cases h; rfl
theorem vr_none {ι : List Addr} {H : Hp} {v : V} (h : RV G ι H v (.non)) : v = .non := by cases h; rfl
theorem sim_tru {t : TE} {f : FE} (a : SimE G W t f) : SimT G W (tB t) (tru f) := fun σ δ ι M H Q R E h =>
  a σ δ ι M H _ R E (GR.bind h fun v H1 ι1 M1 d e1 R1 r1 h1 => by
    cases d with
    | bl b => exact ⟨b, vr_bool r1, h1 b H1 ι1 Ext.refl R1 rfl⟩
    | _ => exact h1.elim)
theorem sim_test {t : TE} {f : FE} (a : SimE G W t f) : SimT G W (tTest t) (tru f) := sim_tru a
def mAnd (f g : FT) : FT := fun δ M => rb (f δ M) fun b M1 => if b = true then g δ M1 else some (.ok false M1)
def mOr (f g : FT) : FT := fun δ M => rb (f δ M) fun b M1 => if b = true then some (.ok true M1) else g δ M1
def mNot (f : FT) : FT := fun δ M => rb (f δ M) fun b M1 => some (.ok (!b) M1)
theorem sim_and {t u : TT} {f g : FT} (a : SimT G W t f) (b : SimT G W u g) : SimT G W (tAnd t u) (mAnd f g) := fun σ δ ι M H Q R E h =>
  a σ δ ι M H _ R E (GR.bind h fun v H1 ι1 M1 d e1 R1 r1 h1 => by
    obtain rfl : v = d := r1
    cases v with
    | true => exact b σ δ ι1 M1 H1 Q R1 (E.ext e1) h1
    | false => exact h1 false H1 ι1 Ext.refl R1 rfl)
theorem sim_or {t u : TT} {f g : FT} (a : SimT G W t f) (b : SimT G W u g) : SimT G W (tOr t u) (mOr f g) := fun σ δ ι M H Q R E h =>
  a σ δ ι M H _ R E (GR.bind h fun v H1 ι1 M1 d e1 R1 r1 h1 => by
    obtain rfl : v = d := r1
    cases v with
    | true => exact h1 true H1 ι1 Ext.refl R1 rfl
    | false => exact b σ δ ι1 M1 H1 Q R1 (E.ext e1) h1)
theorem sim_not {t : TT} {f : FT} (a : SimT G W t f) : SimT G W (tNot t) (mNot f) := fun σ δ ι M H Q R E h =>
  a σ δ ι M H _ R E (GR.bind h fun v H1 ι1 M1 d e1 R1 r1 h1 => by
    obtain rfl : v = d := r1
    exact h1 (!v) H1 ι1 Ext.refl R1 rfl)
def mIf (c : FT) (f g : FE) : FE := fun δ M => rb (c δ M) fun b M1 => if b = true then f δ M1 else g δ M1
theorem sim_if {t : TT} {c : FT} {ta tb : TE} {f g : FE} (a : SimT G W t c) (x : SimE G W ta f) (y : SimE G W tb g) : SimE G W (tIf t ta tb) (mIf c f g) := fun σ δ ι M H Q R E h =>
  a σ δ ι M H _ R E (GR.bind h fun v H1 ι1 M1 d e1 R1 r1 h1 => by
    obtain rfl : v = d := r1
    cases v with
    | true => exact x σ δ ι1 M1 H1 Q R1 (E.ext e1) h1
    | false => exact y σ δ ι1 M1 H1 Q R1 (E.ext e1) h1)
def mAndV (f g : FE) : FE := fun δ M => rb (tru f δ M) fun b M1 => if b = true then g δ M1 else some (.ok (.bl false) M1)
def mOrV (f g : FE) : FE := fun δ M => rb (tru f δ M) fun b M1 => if b = true then some (.ok (.bl true) M1) else g δ M1
def mNotV (f : FE) : FE := fun δ M => rb (tru f δ M) fun b M1 => some (.ok (.bl (!b)) M1)
theorem sim_andV {ta tb : TE} {f g : FE} (a : SimE G W ta f) (b : SimE G W tb g) : SimE G W (tAndV ta tb) (mAndV f g) := fun σ δ ι M H Q R E h =>
  sim_tru a σ δ ι M H (fun c H1 => if c = true then tb σ H1 Q else Q (.bl false) H1) R E (GR.bind h fun v H1 ι1 M1 d e1 R1 r1 h1 => by
    obtain rfl : v = d := r1
    cases v with
    | true => exact b σ δ ι1 M1 H1 Q R1 (E.ext e1) h1
    | false => exact h1 _ H1 ι1 Ext.refl R1 (.bl _))
theorem sim_orV {ta tb : TE} {f g : FE} (a : SimE G W ta f) (b : SimE G W tb g) : SimE G W (tOrV ta tb) (mOrV f g) := fun σ δ ι M H Q R E h =>
  sim_tru a σ δ ι M H (fun c H1 => if c = true then Q (.bl true) H1 else tb σ H1 Q) R E (GR.bind h fun v H1 ι1 M1 d e1 R1 r1 h1 => by
    obtain rfl : v = d := r1
    cases v with
    | true => exact h1 _ H1 ι1 Ext.refl R1 (.bl _)
    | false => exact b σ δ ι1 M1 H1 Q R1 (E.ext e1) h1)
theorem sim_notV {ta : TE} {f : FE} (a : SimE G W ta f) : SimE G W (tNotV ta) (mNotV f) := fun σ δ ι M H Q R E h =>
  sim_tru a σ δ ι M H (fun c H1 => Q (.bl (!c)) H1) R E (GR.bind h fun v H1 ι1 M1 d e1 R1 r1 h1 => by
    obtain rfl : v = d := r1
    exact h1 _ H1 ι1 Ext.refl R1 (.bl _))
/-- a < b < c -/
def mChain (g g' : F2) (fa fb fc : FE) : FE := fun δ M => rb (fa δ M) fun x M1 => rb (fb δ M1) fun y M2 => rb (g x y M2) fun z M3 => match z with
  | .bl b => if b = true then rb (fc δ M3) fun u M4 => g' y u M4 else some (.ok (.bl false) M3)
  | _ => none
end
end L2

namespace L2
open PySem PySem.Spec PyProof.Rows PySem.W PySem.SeqAt
/-! ### data as the library has it -/
mutual
def D.py : D → Option PyData
  | .non => some .none
  | .bl b => some (.bool b)
  | .int i => some (.int i)
  | .str x => some (.str x)
  | .lst xs => match pyAll xs with
    | some ps => some (.list ps)
    | none => none
  | .tup xs => match pyAll xs with
    | some ps => some (.tuple ps)
    | none => none
  | .frl _ => none
  | .dct _ => none
  | .ins _ _ => none
  | .exc _ _ => none
  | .ref _ => none
  | .fn _ => none
  | .cls _ => none
def pyAll : List D → Option (List PyData)
  | [] => some []
  | d :: ds => match d.py with
    | some p => match pyAll ds with
      | some ps => some (p :: ps)
      | none => none
    | none => none
end
mutual
theorem py_noDict : ∀ {d : D} {p : PyData}, d.py = some p → p.hasDict = false
  | .non, _, e => by cases e; rfl
  | .bl _, _, e => by cases e; rfl
  | .int _, _, e => by cases e; rfl
  | .str _, _, e => by cases e; rfl
  | .lst xs, _, e => by
    rw [D.py] at e
    split at e
    · rename_i h; cases e; simp only [PyData.hasDict]; exact pyAll_noDict h
    · cases e
  | .tup xs, _, e => by
    rw [D.py] at e
    split at e
    · rename_i h; cases e; simp only [PyData.hasDict]; exact pyAll_noDict h
    · cases e
  | .frl xs, _, e => by cases e
  | .dct _, _, e => by cases e
  | .ins _ _, _, e => by cases e
  | .exc _ _, _, e => by cases e
  | .ref _, _, e => by cases e
  | .fn _, _, e => by cases e
  | .cls _, _, e => by cases e
theorem pyAll_noDict : ∀ {ds : List D} {ps : List PyData}, pyAll ds = some ps → PyData.hasDictAll ps = false
  | [], _, e => by cases e; rfl
  | d :: ds, _, e => by
    rw [pyAll] at e
    split at e
    · rename_i p h1
      split at e
      · rename_i ps h2
        cases e
        simp only [PyData.hasDictAll, Bool.or_eq_false_iff]
        exact ⟨py_noDict h1, pyAll_noDict h2⟩
      · cases e
    · cases e
end
section
variable {X : Cx} {pins : List (Addr × Obj)} {σ : St} {H : Hp} {s : Shared} {G : Gx} {ι ξ : List Addr}
mutual
theorem vr_reads (I : Inv X pins σ H s) : ∀ {v : V} {d : D} {p : PyData} {u : Value}, VR G ι ξ H v d → d.py = some p → RelV v u → ∃ as, Reads s.heap u p as
  | _, _, _, u, .non, e, r => by cases e; cases (show u = Value.none from r); exact ⟨_, .none⟩
  | _, _, _, u, .bl b, e, r => by cases e; cases (show u = Value.bool b from r); exact ⟨_, .bool b⟩
  | _, _, _, u, .int i, e, r => by cases e; obtain ⟨t, rfl⟩ := (show ∃ t, u = Value.int i t from r); exact ⟨_, .int i t⟩
  | _, _, _, u, .str x, e, r => by cases e; obtain ⟨t, rfl⟩ := (show ∃ t, u = Value.str x t from r); exact ⟨_, .str x t⟩
  | _, _, _, u, .lst (a := a) (vs := vs) z n q, e, r => by
    cases (show u = Value.ref a from r)
    rw [D.py] at e
    split at e
    · rename_i h; cases e
      obtain ⟨_, its, n, rv, h1⟩ := (show ObjOk X.prog X.w H s.heap a (.lst vs) from I.hok a _ z)
      obtain ⟨as, h2⟩ := vrs_reads I q h rv
      exact ⟨_, .list h1 rfl rfl (by simpa using h2)⟩
    · cases e
  | _, _, _, u, .tup (a := a) (vs := vs) z n q, e, r => by
    cases (show u = Value.ref a from r)
    rw [D.py] at e
    split at e
    · rename_i h; cases e
      obtain ⟨_, its, rv, o, h1, h2, n, h3⟩ := (show ObjOk X.prog X.w H s.heap a (.tup vs) from I.hok a _ z)
      obtain ⟨as, h4⟩ := vrs_reads I q h rv
      exact ⟨_, .tuple h1 h2 h3 (by simpa using h4)⟩
    · cases e
  | _, _, _, u, .frl _ _ _, e, r => by cases e
  | _, _, _, u, .frk _ _, e, r => by cases e
  | _, _, _, u, .dct _ _ _, e, r => by cases e
  | _, _, _, u, .ins _ _ _, e, r => by cases e
  | _, _, _, u, .exc0 _ _, e, r => by cases e
  | _, _, _, u, .exc1 _ _ _ _ _, e, r => by cases e
  | _, _, _, u, .ref _, e, r => by cases e
  | _, _, _, u, .fn _, e, r => by cases e
  | _, _, _, u, .cls _, e, r => by cases e
theorem vrs_reads (I : Inv X pins σ H s) : ∀ {vs : List V} {ds : List D} {ps : List PyData} {us : List Value}, VRs G ι ξ H vs ds → pyAll ds = some ps → Vals vs us → ∃ as, ReadsAll s.heap us ps as
  | _, _, _, _, .nil, e, .nil => by cases e; exact ⟨_, .nil⟩
  | _, _, _, _, .cons a r, e, .cons x y => by
    rw [pyAll] at e
    split at e
    · rename_i p h1
      split at e
      · rename_i ps h2
        cases e
        obtain ⟨as, q1⟩ := vr_reads I a h1 x
        obtain ⟨bs, q2⟩ := vrs_reads I r h2 y
        exact ⟨_, .cons q1 q2⟩
      · cases e
    · cases e
end
end
/-- a value that reads as data -/
def Rp (G : Gx) (H : Hp) (v : V) (p : PyData) : Prop := ∃ ι ξ d, VR G ι ξ H v d ∧ d.py = some p
theorem Rp.reads {X : Cx} {pins : List (Addr × Obj)} {σ : St} {H : Hp} {s : Shared} {G : Gx} {v : V} {p : PyData} {u : Value} (I : Inv X pins σ H s) (h : Rp G H v p) (r : RelV v u) : ∃ as, Reads s.heap u p as :=
  let ⟨_, _, _, h1, h2⟩ := h; vr_reads I h1 h2 r
theorem Rp.noDict {H : Hp} {G : Gx} {v : V} {p : PyData} (h : Rp G H v p) : p.hasDict = false := let ⟨_, _, _, _, h2⟩ := h; py_noDict h2
def rEqP (G : Gx) (g : Bool → Bool) : R2 := fun x y H Q => ∃ d e, Rp G H x d ∧ Rp G H y e ∧ shaped d = true ∧ shaped e = true ∧ Q (.bl (g (d.eqv e))) H
def rInP (G : Gx) (g : Bool → Bool) : R2 := fun x y H Q => ∃ d es, Rp G H x d ∧ (Rp G H y (.list es) ∨ Rp G H y (.tuple es)) ∧ shaped d = true ∧ shaped (.list es) = true ∧ shaped (.tuple es) = true ∧ (∀ z ∈ es, noMix z d = true) ∧ Q (.bl (g (decide (countIn d es ≠ 0)))) H
def rRepr (G : Gx) : List V → Hp → VK → Prop := fun vs H Q => ∃ a d, vs = [.ref a] ∧ Rp G H (.ref a) d ∧ d.showable = true ∧ d.depth ≤ 40 ∧ d.shown.length ≤ sizeLine ∧ Q (.str d.shown) H
section
variable {X : Cx} {G : Gx}
theorem op_eqP (hu : X.A.units + 64 < cLine) : OpR X (compareOp .Eq) (rEqP G id) := by
  intro pins s σ H x y v u Q I rx ry h
  obtain ⟨d, e, hd, he, s1, s2, q⟩ := h
  obtain ⟨as, r1⟩ := hd.reads I rx
  obtain ⟨bs, r2⟩ := he.reads I ry
  exact compareEq_shaped r1 r2 s1 s2 hu ⟨.bl (d.eqv e), H, I, rfl, q⟩
theorem op_neP (hu : X.A.units + 64 < cLine) : OpR X (compareOp .NotEq) (rEqP G not) := by
  intro pins s σ H x y v u Q I rx ry h
  obtain ⟨d, e, hd, he, s1, s2, q⟩ := h
  obtain ⟨as, r1⟩ := hd.reads I rx
  obtain ⟨bs, r2⟩ := he.reads I ry
  exact compareNe_shaped r1 r2 s1 s2 hu ⟨.bl (!d.eqv e), H, I, rfl, q⟩
theorem op_inP (hu : X.A.units + 65 < cLine) : OpR X (compareOp .In) (rInP G id) := by
  intro pins s σ H x y v u Q I rx ry h
  obtain ⟨d, es, hd, he, s1, s2, s3, nm, q⟩ := h
  obtain ⟨as, r1⟩ := hd.reads I rx
  rcases he with he | he
  · obtain ⟨bs, r2⟩ := he.reads I ry
    exact in_list_dataH r2 r1 s2 s1 hu nm ⟨.bl (decide (countIn d es ≠ 0)), H, I, rfl, q⟩
  · obtain ⟨bs, r2⟩ := he.reads I ry
    exact in_tuple_dataH r2 r1 s3 s1 hu nm ⟨.bl (decide (countIn d es ≠ 0)), H, I, rfl, q⟩
theorem op_notinP (hu : X.A.units + 65 < cLine) : OpR X (compareOp .NotIn) (rInP G not) := by
  intro pins s σ H x y v u Q I rx ry h
  obtain ⟨d, es, hd, he, s1, s2, s3, nm, q⟩ := h
  obtain ⟨as, r1⟩ := hd.reads I rx
  rcases he with he | he
  · obtain ⟨bs, r2⟩ := he.reads I ry
    exact notIn_list_dataH r2 r1 s2 s1 hu nm ⟨.bl (!decide (countIn d es ≠ 0)), H, I, rfl, q⟩
  · obtain ⟨bs, r2⟩ := he.reads I ry
    exact notIn_tuple_dataH r2 r1 s3 s1 hu nm ⟨.bl (!decide (countIn d es ≠ 0)), H, I, rfl, q⟩
theorem call_reprP (hg : X.A.guards = some []) (hu : X.A.units + 64 < cLine) : CallR X (.builtin "repr") (rRepr G) := by
  intro pins s σ H xs us Q I r h
  obtain ⟨a, d, rfl, hd, h1, h3, h4, q⟩ := h
  obtain ⟨u, rfl, ru⟩ := vals1 r
  cases (show u = Value.ref a from ru)
  obtain ⟨as, ra⟩ := hd.reads I (show RelV (.ref a) (.ref a) from rfl)
  exact repr_of_reads' (h₀ := s.heap) ra h1 (PyData.noDict_hsm hd.noDict) hg (by omega) (fun _ _ e => e) (fun h' u tk k => ⟨.str d.shown, H, I.kept k, ⟨u, rfl⟩, q⟩) h4
/-- t + u -/
def rCatP (K : Frag) : R2 := fun x y H Q => ∃ a b xs ys, x = .ref a ∧ y = .ref b ∧ SqT K H a xs ∧ SqT K H b ys ∧ xs.length + ys.length ≤ sizeLine ∧
  (xs = [] → Q (.ref b) H) ∧ (xs ≠ [] → ys = [] → Q (.ref a) H) ∧ (xs ≠ [] → ys ≠ [] → NewO H (.tup (xs ++ ys)) Q)
theorem op_catP : OpR X (binaryOp .Add) (rCatP X.K) := by
  intro pins s σ H x y v u Q I rx ry h
  obtain ⟨a, b, xs, ys, rfl, rfl, ha, hb, hz, q0, q1, q2⟩ := h
  by_cases hx : xs = []
  · cases rx
    cases ry
    obtain ⟨its, r1, p1, _⟩ := I.tuple ha
    obtain ⟨its2, r2, p2, _⟩ := I.tuple hb
    obtain ⟨⟨cls, dd, data, sl⟩, ho, hc, n, hd⟩ := id p1
    obtain ⟨⟨cls2, dd2, data2, sl2⟩, ho2, hc2, n2, hd2⟩ := id p2
    simp only at hc hd hc2 hd2
    subst hc hd hc2 hd2
    exact concat_meets ⟨_, ho, rfl⟩ ⟨_, ho2, rfl⟩ noFill_tuple_add seq_tuple_add PySem.F.slot_tuple_add PySem.F.entry_tuple_add (PySem.F.args_tuple_add_2 _ _)
      (tuple_addW0 a b its.toArray its2.toArray n n2 dd dd2 sl sl2 (by simp [r1.nil_iff.mpr hx])) ⟨ho, ho2, ⟨.ref b, H, I, rfl, q0 hx⟩⟩
  · exact op_catT pins s σ H _ _ v u Q I rx ry ⟨a, b, xs, ys, rfl, rfl, ha, hb, hx, hz, q1 hx, fun hy => (q2 hx hy).upd⟩
theorem op_inD (hu : X.A.units + 1 < cLine) : OpR X (compareOp .In) (fun y x H Q => ∃ a o, x = .ref a ∧ DGet H a y o ∧ Q (.bl o.isSome) H) := by
  intro pins s σ H y x iv u Q I ry rx h
  obtain ⟨a, ov, rfl, g, q⟩ := h
  obtain rfl : u = Value.ref a := rx
  exact d_in hu I g ry fun s3 I3 => ⟨.bl ov.isSome, H, I3, rfl, q⟩
theorem op_notinD (hu : X.A.units + 1 < cLine) : OpR X (compareOp .NotIn) (fun y x H Q => ∃ a o, x = .ref a ∧ DGet H a y o ∧ Q (.bl (!o.isSome)) H) := by
  intro pins s σ H y x iv u Q I ry rx h
  obtain ⟨a, ov, rfl, g, q⟩ := h
  obtain rfl : u = Value.ref a := rx
  exact d_notIn hu I g ry fun s3 I3 => ⟨.bl (!ov.isSome), H, I3, rfl, q⟩
theorem ix_dict (hu : X.A.units + 1 < cLine) : IxR X (fun x y H Q => ∃ a v, x = .ref a ∧ DGet H a y (some v) ∧ Q v H) := by
  intro value slice pins s σ H x y v u Q I rx ry h hs
  obtain ⟨a, w', rfl, g, q⟩ := h
  obtain rfl : v = Value.ref a := rx
  exact tail_any (dict_typeIs I g) PySem.F.slot_dict_getitem.lookup (d_getItem hu I g ry fun z s3 I3 rz => ⟨w', H, I3, rz, q⟩) hs
end

/-! ### the mirror of operations -/
def toPy (M : MS) : D → Option PyData
  | .ref k => match M[k]? with
    | some (.lst xs) => match pyAll xs with
      | some ps => some (.list ps)
      | none => none
    | _ => none
  | d => d.py
def lstOf (M : MS) : D → Option (List D)
  | .lst xs => some xs
  | .frl xs => some xs
  | .ref k => match M[k]? with
    | some (.lst xs) => some xs
    | _ => none
  | _ => none
/-- one that stands in the heap itself -/
def lstIn (M : MS) : D → Option (List D)
  | .frl _ => none
  | d => lstOf M d
def dctOf (M : MS) : D → Option (List (Key × D))
  | .dct kvs => some kvs
  | .ref k => match M[k]? with
    | some (.dct kvs) => some kvs
    | _ => none
  | _ => none
section
variable {G : Gx} {W : XW} {ι ξ : List Addr} {M : MS} {H : Hp} {v : V}
theorem bare_mv : Mv ι ξ H ι [] H := ⟨fun _ _ h => h, fun _ _ h _ => ⟨h, List.not_mem_nil⟩⟩
theorem vr_ref {k : Nat} (R : Rel G ι M H) (h : RV G ι H v (.ref k)) {m : MObj} (e : M[k]? = some m) : ∃ a, v = .ref a ∧ ι[k]? = some a ∧ OR G ι H a m := by
  cases h with
  | ref h => exact ⟨_, rfl, h, R.at' k _ m h e⟩
theorem vr_py (R : Rel G ι M H) {d : D} {p : PyData} (h : RV G ι H v d) (e : toPy M d = some p) : Rp G H v p := by
  cases d with
  | ref k =>
    rw [toPy] at e
    split at e
    · rename_i xs q
      split at e
      · rename_i ps hp
        cases e
        obtain ⟨a, rfl, ha, vs, hv, r⟩ := vr_ref R h q
        exact ⟨ι, [], .lst xs, .lst hv List.not_mem_nil (r.mv bare_mv), by rw [D.py, hp]⟩
      · cases e
    · cases e
  | _ => exact ⟨ι, _, _, h, e⟩
theorem vr_sql (R : Rel G ι M H) {d : D} {ps : List D} (h : RV G ι H v d) (e : lstOf M d = some ps) : ∃ a vs, v = .ref a ∧ SqL G.K H a vs ∧ RVs G ι H vs ps := by
  cases d with
  | lst xs => cases e; cases h with | lst z n r => exact ⟨_, _, rfl, SqL.of z, r⟩
  | frl xs =>
    cases e
    cases h with
    | frl z n r => exact ⟨_, _, rfl, .inl (.inr ⟨_, z⟩), r⟩
    | frk z r => exact ⟨_, _, rfl, .inr z, r⟩
  | ref k =>
    rw [lstOf] at e
    split at e
    · rename_i xs q
      cases e
      obtain ⟨a, rfl, ha, vs, hv, r⟩ := vr_ref R h q
      exact ⟨a, vs, rfl, SqL.of hv, r⟩
    · cases e
  | _ => cases e
theorem vr_lst (R : Rel G ι M H) {d : D} {ps : List D} (h : RV G ι H v d) (e : lstIn M d = some ps) : ∃ a vs, v = .ref a ∧ H a = some (.lst vs) ∧ RVs G ι H vs ps := by
  cases d with
  | lst xs => cases e; cases h with | lst z n r => exact ⟨_, _, rfl, z, r⟩
  | ref k =>
    rw [lstIn, lstOf] at e
    split at e
    · rename_i xs q
      cases e
      obtain ⟨a, rfl, ha, vs, hv, r⟩ := vr_ref R h q
      exact ⟨a, vs, rfl, hv, r⟩
    · cases e
    · exact fun _ z => nomatch z
  | _ => cases e
theorem vr_tup {ds : List D} (h : VR G ι ξ H v (.tup ds)) : ∃ a vs, v = .ref a ∧ H a = some (.tup vs) ∧ a ∉ ξ ∧ VRs G ι ξ H vs ds := by
  cases h with | tup z n r => exact ⟨_, _, rfl, z, n, r⟩
theorem vr_dct (R : Rel G ι M H) {d : D} {kds : List (Key × D)} (h : RV G ι H v d) (e : dctOf M d = some kds) : ∃ a kvs, v = .ref a ∧ H a = some (.dK kvs) ∧ RVk G ι H kvs kds := by
  cases d with
  | dct xs => cases e; cases h with | dct z n r => exact ⟨_, _, rfl, z, r⟩
  | ref k =>
    rw [dctOf] at e
    split at e
    · rename_i xs q
      cases e
      obtain ⟨a, rfl, ha, vs, hv, r⟩ := vr_ref R h q
      exact ⟨a, vs, rfl, hv, r⟩
    · cases e
  | _ => cases e
/-! new things -/
theorem new_lst {σ : St} {Q : VK} {vs : List V} {ps : List D} (R : Rel G ι M H) (r : RVs G ι H vs ps) (h : GR G (RV G) W ι H σ Q (some (.ok (.lst ps) M))) : NewO H (.lst vs) Q := fun p H' hp h' s =>
  h (.ref p) H' ι (Ext.same s) (R.same s) (.lst h' (R.outs hp) (r.ext (Ext.same s)))
theorem new_tup {σ : St} {Q : VK} {vs : List V} {ps : List D} (R : Rel G ι M H) (r : RVs G ι H vs ps) (h : GR G (RV G) W ι H σ Q (some (.ok (.tup ps) M))) : NewO H (.tup vs) Q := fun p H' hp h' s =>
  h (.ref p) H' ι (Ext.same s) (R.same s) (.tup h' (R.outs hp) (r.ext (Ext.same s)))
theorem new_cell {σ : St} {Q : VK} {vs : List V} {ps : List D} (R : Rel G ι M H) (r : RVs G ι H vs ps) (h : GR G (RV G) W ι H σ Q (some (.ok (.ref M.length) (M ++ [.lst ps])))) : NewO H (.lst vs) Q := fun p H' hp h' s =>
  h (.ref p) H' (ι ++ [p]) (Ext.cell s hp) (R.cell s hp ⟨vs, h', r.ext (Ext.cell s hp)⟩) (.ref (by rw [← R.len]; simp))
/-- a new list: r: a thing of the store -/
def newL (r : Bool) (ps : List D) (M : MS) : Option (Rs D) := if r = true then some (.ok (.ref M.length) (M ++ [.lst ps])) else some (.ok (.lst ps) M)
theorem new_l {b : Bool} {σ : St} {Q : VK} {vs : List V} {ps : List D} (R : Rel G ι M H) (r : RVs G ι H vs ps) (h : GR G (RV G) W ι H σ Q (newL b ps M)) : NewO H (.lst vs) Q := by
  cases b with
  | true => exact new_cell R r h
  | false => exact new_lst R r h
def gTupD : FN := fun ds M => if ds.length ≤ sizeLine then some (.ok (.tup ds) M) else none
def gLstD (b : Bool) : FN := fun ds M => if ds.length ≤ sizeLine then newL b ds M else none
theorem sim_tupS {ta : TA} {fa : FA} (a : SimA G W ta fa) : SimE G W (tTupS ta) (mB gTupD fa) := fun σ δ ι M H Q R E h =>
  a σ δ ι M H _ R E (GR.bind h fun v H1 ι1 M1 d e1 R1 r1 h1 => by
    unfold gTupD at h1
    split at h1
    · rename_i hl; exact ⟨by rw [r1.length]; exact hl, new_tup R1 r1 h1⟩
    · exact h1.elim)
theorem sim_lstS {b : Bool} {ta : TA} {fa : FA} (a : SimA G W ta fa) : SimE G W (tLstS ta) (mB (gLstD b) fa) := fun σ δ ι M H Q R E h =>
  a σ δ ι M H _ R E (GR.bind h fun v H1 ι1 M1 d e1 R1 r1 h1 => by
    unfold gLstD at h1
    split at h1
    · rename_i hl; exact ⟨by rw [r1.length]; exact hl, new_l R1 r1 h1⟩
    · exact h1.elim)
/-! ints -/
def gI0 (f : Int → Int → D) : F2 := fun x y M => match x, y with
  | .int i, .int j => some (.ok (f i j) M)
  | _, _ => none
theorem sim_i0 {g : Int → Int → V} {f : Int → Int → D} (r : ∀ i j G ι ξ H, VR G ι ξ H (g i j) (f i j)) : SimR G (rI0 g) (gI0 f) := fun W σ ι M H x y dx dy Q R rx ry h => by
  unfold gI0 at h
  split at h
  · exact ⟨_, _, vr_int rx, vr_int ry, h _ H ι Ext.refl R (r _ _ _ _ _ _)⟩
  · exact h.elim
def gI (C : Int → Int → Bool) (f : Int → Int → D) : F2 := fun x y M => match x, y with
  | .int i, .int j => if C i j = true then some (.ok (f i j) M) else none
  | _, _ => none
theorem sim_i {C : Int → Int → Prop} {B : Int → Int → Bool} {g : Int → Int → V} {f : Int → Int → D} (hB : ∀ i j, B i j = true → C i j) (r : ∀ i j G ι ξ H, VR G ι ξ H (g i j) (f i j)) : SimR G (rI C g) (gI B f) := fun W σ ι M H x y dx dy Q R rx ry h => by
  unfold gI at h
  split at h
  · split at h
    · rename_i hc
      exact ⟨_, _, vr_int rx, vr_int ry, hB _ _ hc, h _ H ι Ext.refl R (r _ _ _ _ _ _)⟩
    · exact h.elim
  · exact h.elim
/-! == -/
def gEq (g : Bool → Bool) : F2 := fun x y M => match toPy M x, toPy M y with
  | some p, some q => if (shaped p && shaped q) = true then some (.ok (.bl (g (p.eqv q))) M) else none
  | _, _ => none
theorem sim_eq {g : Bool → Bool} : SimR G (rEqP G g) (gEq g) := fun W σ ι M H x y dx dy Q R rx ry h => by
  unfold gEq at h
  split at h
  · rename_i p q e1 e2
    split at h
    · rename_i hs
      rw [Bool.and_eq_true] at hs
      exact ⟨p, q, vr_py R rx e1, vr_py R ry e2, hs.1, hs.2, h _ H ι Ext.refl R (.bl _)⟩
    · exact h.elim
  · exact h.elim
/-! in -/
def seqPy (M : MS) (d : D) : Option (List PyData) := match toPy M d with
  | some (.list ps) => some ps
  | some (.tuple ps) => some ps
  | _ => none
def isIn (x : PyData) (es : List PyData) : Bool := es.any fun z => PySem.Spec.same z x
theorem isIn_count (x : PyData) (es : List PyData) : decide (countIn x es ≠ 0) = isIn x es := by
  have nn : ∀ l : List PyData, 0 ≤ countIn x l := fun l => by
    induction l with
    | nil => simp [PySem.Spec.countIn]
    | cons a l ih => rw [PySem.Spec.countIn]; split <;> omega
  induction es with
  | nil => simp [PySem.Spec.countIn, isIn]
  | cons a l ih =>
    have := nn l
    rw [PySem.Spec.countIn]
    unfold isIn at ih ⊢
    rw [List.any_cons, ← ih]
    cases PySem.Spec.same a x with
    | true => simp; omega
    | false => simp
def gInP (g : Bool → Bool) : F2 := fun x y M => match toPy M x, seqPy M y with
  | some p, some es => if (shaped p && shaped (.list es) && shaped (.tuple es) && es.all fun z => noMix z p) = true then some (.ok (.bl (g (isIn p es))) M) else none
  | _, _ => none
theorem sim_inP {g : Bool → Bool} : SimR G (rInP G g) (gInP g) := fun W σ ι M H x y dx dy Q R rx ry h => by
  unfold gInP at h
  split at h
  · rename_i p es e1 e2
    split at h
    · rename_i hs
      simp only [Bool.and_eq_true, List.all_eq_true] at hs
      refine ⟨p, es, vr_py R rx e1, ?_, hs.1.1.1, hs.1.1.2, hs.1.2, hs.2, ?_⟩
      · unfold seqPy at e2
        split at e2
        · rename_i q; cases e2; exact .inl (vr_py R ry q)
        · rename_i q; cases e2; exact .inr (vr_py R ry q)
        · cases e2
      · rw [isIn_count]
        exact h _ H ι Ext.refl R (.bl _)
    · exact h.elim
  · exact h.elim
end
def keyOf : D → Option Key
  | .int i => some (.inl i)
  | .str x => some (.inr x)
  | _ => none
def dval : List (Key × D) → Key → Option D
  | [], _ => none
  | (j, d) :: r, k => if j = k then some d else dval r k
section
variable {G : Gx} {W : XW} {ι ξ : List Addr} {M : MS} {H : Hp} {v : V}
theorem vr_key {d : D} {k : Key} (h : VR G ι ξ H v d) (e : keyOf d = some k) : v = kV k := by
  cases h with
  | int i => cases e; rfl
  | str x => cases e; rfl
  | _ => cases e
theorem vrk_val {k : Key} : ∀ {kvs : List (Key × V)} {kds : List (Key × D)}, VRk G ι ξ H kvs kds → (∃ v p, valV kvs k = some v ∧ dval kds k = some p ∧ VR G ι ξ H v p) ∨ (valV kvs k = none ∧ dval kds k = none)
  | _, _, .nil => .inr ⟨rfl, rfl⟩
  | _, _, .cons (k := j) (v := u) (d := d) (vs := vs) (ds := ds) a r => by
    by_cases e : j = k
    · exact .inl ⟨u, d, valV_pos e, by rw [dval, if_pos e], a⟩
    · rcases vrk_val (k := k) r with ⟨v, p, h1, h2, h3⟩ | ⟨h1, h2⟩
      · exact .inl ⟨v, p, by rw [valV_neg e]; exact h1, by rw [dval, if_neg e]; exact h2, h3⟩
      · exact .inr ⟨by rw [valV_neg e]; exact h1, by rw [dval, if_neg e]; exact h2⟩
theorem vrs_atI {vs : List V} {ps : List D} {i : Int} {p : D} (r : VRs G ι ξ H vs ps) (e : atI ps i = some p) : ∃ v, atI vs i = some v ∧ VR G ι ξ H v p := by
  unfold atI at e ⊢
  rw [r.length]
  cases q : ixN ps.length i with
  | none => rw [q] at e; cases e
  | some j =>
    rw [q] at e
    obtain ⟨v, h1, h2⟩ := r.get (i := j) e
    exact ⟨v, h1, h2⟩
/-! + -/
def gAdd : F2 := fun x y M => match x, y with
  | .int i, .int j => some (.ok (.int (i + j)) M)
  | .str a, .str b => if a.length + b.length ≤ sizeLine then some (.ok (.str (a ++ b)) M) else none
  | .tup a, .tup b => if a.length + b.length ≤ sizeLine then some (.ok (.tup (a ++ b)) M) else none
  | x, y => match lstIn M x, lstIn M y with
    | some a, some b => if a.length + b.length ≤ sizeLine then some (.ok (.lst (a ++ b)) M) else none
    | _, _ => none
def rAddP (K : Frag) : R2 := fun x y H Q => rI0 (fun i j => .int (i + j)) x y H Q ∨ (rCatS x y H Q ∨ (rCatP K x y H Q ∨ (∃ i j, x = .str i ∧ y = .str j ∧ i.length + j.length ≤ sizeLine ∧ Q (.str (i ++ j)) H)))
theorem op_addP {X : Cx} {K : Frag} (hK : X.K = K) : OpR X (binaryOp .Add) (rAddP K) := hK ▸ op_add.or (op_catS.or (op_catP.or op_add_str))
theorem sim_add : SimR G (rAddP G.K) gAdd := fun W σ ι M H x y dx dy Q R rx ry h => by
  unfold gAdd at h
  split at h
  · exact .inl ⟨_, _, vr_int rx, vr_int ry, h _ H ι Ext.refl R (.int _)⟩
  · split at h
    · rename_i hl
      exact .inr (.inr (.inr ⟨_, _, vr_str rx, vr_str ry, hl, h _ H ι Ext.refl R (.str _)⟩))
    · exact h.elim
  · split at h
    · rename_i hl
      obtain ⟨a, vs, rfl, ha, na, ra⟩ := vr_tup rx
      obtain ⟨b, us, rfl, hb, nb, rb⟩ := vr_tup ry
      refine .inr (.inr (.inl ⟨a, b, vs, us, rfl, rfl, SqT.of ha, SqT.of hb, by rw [ra.length, rb.length]; exact hl, fun z => ?_, fun _ z => ?_, fun _ _ => new_tup R (ra.append rb) h⟩))
      · subst z
        cases ra
        exact h _ H ι Ext.refl R ry
      · subst z
        cases rb
        rw [List.append_nil] at h
        exact h _ H ι Ext.refl R rx
    · exact h.elim
  · split at h
    · rename_i e1 e2
      split at h
      · rename_i hl
        obtain ⟨a, vs, rfl, ha, ra⟩ := vr_lst R rx e1
        obtain ⟨b, us, rfl, hb, rb⟩ := vr_lst R ry e2
        exact .inr (.inl ⟨a, b, vs, us, rfl, rfl, ha, hb, by rw [ra.length, rb.length]; exact hl, new_lst R (ra.append rb) h⟩)
      · exact h.elim
    · exact h.elim
/-! a[b] -/
def gIx : F2 := fun x y M => match x with
  | .tup ps => match y with
    | .int i => match atI ps i with
      | some p => some (.ok p M)
      | none => none
    | _ => none
  | .str z => match y with
    | .int i => match atI z.cps.toList i with
      | some c => if z.length ≤ sizeLine then some (.ok (.str ⟨#[c]⟩) M) else none
      | none => none
    | _ => none
  | x => match lstOf M x with
    | some ps => match y with
      | .int i => match atI ps i with
        | some p => some (.ok p M)
        | none => none
      | _ => none
    | none => match dctOf M x with
      | some kds => match keyOf y with
        | some k => match dval kds k with
          | some p => some (.ok p M)
          | none => none
        | none => none
      | none => none
def rIxP (K : Frag) : R2 := fun x y H Q => rIx K x y H Q ∨ ∃ a v, x = .ref a ∧ DGet H a y (some v) ∧ Q v H
theorem ix_P {X : Cx} {K : Frag} (hK : X.K = K) (hu : X.A.units + 1 < cLine) : IxR X (rIxP K) := hK ▸ ix_seq.or (ix_dict hu)
theorem sim_ix : SimR G (rIxP G.K) gIx := fun W σ ι M H x y dx dy Q R rx ry h => by
  unfold gIx at h
  split at h
  · split at h
    · split at h
      · rename_i e
        obtain ⟨a, vs, rfl, ha, na, ra⟩ := vr_tup rx
        obtain ⟨u, h1, h2⟩ := vrs_atI ra e
        exact .inl (.inr (.inl ⟨a, vs, _, u, rfl, vr_int ry, SqT.of ha, h1, h _ H ι Ext.refl R h2⟩))
      · exact h.elim
    · exact h.elim
  · split at h
    · split at h
      · rename_i e
        split at h
        · rename_i hl
          exact .inl (.inr (.inr ⟨_, _, _, vr_str rx, vr_int ry, hl, e, h _ H ι Ext.refl R (.str _)⟩))
        · exact h.elim
      · exact h.elim
    · exact h.elim
  · split at h
    · rename_i q
      split at h
      · split at h
        · rename_i e
          obtain ⟨a, vs, rfl, ha, ra⟩ := vr_sql R rx q
          obtain ⟨u, h1, h2⟩ := vrs_atI ra e
          exact .inl (.inl ⟨a, vs, _, u, rfl, vr_int ry, ha, h1, h _ H ι Ext.refl R h2⟩)
        · exact h.elim
      · exact h.elim
    · split at h
      · rename_i q
        split at h
        · rename_i e1
          split at h
          · rename_i p e2
            obtain ⟨a, kvs, rfl, ha, ra⟩ := vr_dct R rx q
            rcases vrk_val ra with ⟨u, p', q1, q2, q3⟩ | ⟨_, q2⟩
            · rw [q2] at e2; cases e2
              exact .inr ⟨a, u, rfl, .inl ⟨kvs, _, Rd.of ha, vr_key ry e1, q1.symm⟩, h _ H ι Ext.refl R q3⟩
            · rw [q2] at e2; cases e2
          · exact h.elim
        · exact h.elim
      · exact h.elim
/-! in -/
def setOf (M : MS) : D → Option (List Str)
  | .ref k => match M[k]? with
    | some (.set xs) => some xs
    | _ => none
  | _ => none
def gIn (g : Bool → Bool) : F2 := fun x y M => match y with
  | .str z => match x with
    | .str y => some (.ok (.bl (g (!(Builtin.Str.occurrences z y 0 z.length 1).isEmpty))) M)
    | _ => none
  | y => match dctOf M y with
    | some kds => match keyOf x with
      | some k => some (.ok (.bl (g (dval kds k).isSome)) M)
      | none => none
    | none => match setOf M y with
      | some xs => match x with
        | .str y => some (.ok (.bl (g (xs.contains y))) M)
        | _ => none
      | none => gInP g x y M
def rInA (G : Gx) (g : Bool → Bool) : R2 := fun x y H Q => rInP G g x y H Q ∨ ((∃ a o, y = .ref a ∧ DGet H a x o ∧ Q (.bl (g o.isSome)) H) ∨ (rInS G.P G.w g x y H Q ∨ ∃ i j, x = .str i ∧ y = .str j ∧ Q (.bl (g (!(Builtin.Str.occurrences j i 0 j.length 1).isEmpty))) H))
theorem op_inA {X : Cx} (hP : X.prog = G.P) (hw : X.w = G.w) (hu : X.A.units + 65 < cLine) : OpR X (compareOp .In) (rInA G id) := by
  unfold rInA; rw [← hP, ← hw]; exact (op_inP hu).or ((op_inD (by omega)).or (op_inS.or op_in_str))
theorem op_notinA {X : Cx} (hP : X.prog = G.P) (hw : X.w = G.w) (hu : X.A.units + 65 < cLine) : OpR X (compareOp .NotIn) (rInA G not) := by
  unfold rInA; rw [← hP, ← hw]; exact (op_notinP hu).or ((op_notinD (by omega)).or (op_notinS.or op_notin_str))
theorem sim_in {g : Bool → Bool} : SimR G (rInA G g) (gIn g) := fun W σ ι M H x y dx dy Q R rx ry h => by
  unfold gIn at h
  split at h
  · split at h
    · exact .inr (.inr (.inr ⟨_, _, vr_str rx, vr_str ry, h _ H ι Ext.refl R (.bl _)⟩))
    · exact h.elim
  · split at h
    · rename_i q
      split at h
      · rename_i e1
        obtain ⟨a, kvs, rfl, ha, ra⟩ := vr_dct R ry q
        refine .inr (.inl ⟨a, _, rfl, .inl ⟨kvs, _, Rd.of ha, vr_key rx e1, rfl⟩, ?_⟩)
        have e : ∀ k, (valV kvs k).isSome = (dval _ k).isSome := fun k => by
          rcases vrk_val (k := k) ra with ⟨u, p', q1, q2, q3⟩ | ⟨q1, q2⟩ <;> rw [q1, q2] <;> rfl
        rw [e]
        exact h _ H ι Ext.refl R (.bl _)
      · exact h.elim
    · split at h
      · rename_i q
        unfold setOf at q
        split at q
        · rename_i k
          split at q
          · rename_i e1
            cases q
            split at h
            · obtain ⟨a, rfl, ha, hs⟩ := vr_ref R ry e1
              exact .inr (.inr (.inl ⟨_, a, _, _, vr_str rx, rfl, hs, h _ H ι Ext.refl R (.bl _)⟩))
            · exact h.elim
          · cases q
        · cases q
      · exact .inl (sim_inP W σ ι M H x y dx dy Q R rx ry h)
end
end L2

namespace L2
open PySem PySem.Spec PyProof.Rows PySem.W PySem.SeqAt
section
variable {G : Gx} {W : XW} {ι ξ : List Addr} {M : MS} {H : Hp} {v : V}
theorem vrs1 {vs : List V} {d : D} (h : VRs G ι ξ H vs [d]) : ∃ v, vs = [v] ∧ VR G ι ξ H v d := by
  cases h with
  | cons a r => cases r; exact ⟨_, rfl, a⟩
theorem vrs2 {vs : List V} {d e : D} (h : VRs G ι ξ H vs [d, e]) : ∃ v u, vs = [v, u] ∧ VR G ι ξ H v d ∧ VR G ι ξ H u e := by
  cases h with
  | cons a r => cases r with
    | cons b r => cases r; exact ⟨_, _, rfl, a, b⟩
/-! len -/
def gLen : FN := fun ds M => match ds with
  | [.str z] => if z.length ≤ sizeLine then some (.ok (.int z.length) M) else none
  | [.tup ps] => some (.ok (.int ps.length) M)
  | [d] => match lstOf M d with
    | some ps => some (.ok (.int ps.length) M)
    | none => match dctOf M d with
      | some kds => some (.ok (.int kds.length) M)
      | none => none
  | _ => none
def rLenP (K : Frag) : List V → Hp → VK → Prop := fun xs H Q => (∃ x n, xs = [x] ∧ LenV K x H n ∧ Q (.int n) H) ∨ ∃ a kvs, xs = [V.ref a] ∧ H a = some (.dK kvs) ∧ Q (.int kvs.length) H
theorem call_lenP {X : Cx} {K : Frag} (hK : X.K = K) : CallR X (.builtin "len") (rLenP K) := hK ▸ call_len.or call_lenD
theorem sim_len : SimN G (rLenP G.K) gLen := fun W σ ι M H vs ds Q R r h => by
  unfold gLen at h
  split at h
  · obtain ⟨v, rfl, a⟩ := vrs1 r
    split at h
    · rename_i hl
      obtain rfl := vr_str a
      exact .inl ⟨_, _, rfl, ⟨hl, rfl⟩, h _ H ι Ext.refl R (.int _)⟩
    · exact h.elim
  · obtain ⟨v, rfl, a⟩ := vrs1 r
    obtain ⟨p, vs, rfl, hp, _, rp⟩ := vr_tup a
    exact .inl ⟨_, _, rfl, .inr ⟨vs, SqT.of hp, rfl⟩, by rw [rp.length]; exact h _ H ι Ext.refl R (.int _)⟩
  · obtain ⟨v, rfl, a⟩ := vrs1 r
    split at h
    · rename_i e
      obtain ⟨p, vs, rfl, hp, rp⟩ := vr_sql R a e
      exact .inl ⟨_, _, rfl, .inl ⟨vs, hp, rfl⟩, by rw [rp.length]; exact h _ H ι Ext.refl R (.int _)⟩
    · split at h
      · rename_i e
        obtain ⟨p, kvs, rfl, hp, rp⟩ := vr_dct R a e
        exact .inr ⟨_, kvs, rfl, hp, by rw [rp.length]; exact h _ H ι Ext.refl R (.int _)⟩
      · exact h.elim
  · exact h.elim
/-! slices -/
abbrev FO := EnvD → MS → Option (Rs (Option Int))
def IR : List Addr → Hp → Option Int → Option Int → Prop := fun _ _ a b => a = b
def SimO (G : Gx) (W : XW) (t : TO) (f : FO) : Prop := ∀ (σ : St) (δ : EnvD) (ι : List Addr) (M : MS) (H : Hp) (Q : Option Int → Hp → Prop), Rel G ι M H → ER G ι H σ δ → GR G IR W ι H σ Q (f δ M) → t σ H Q
def oN : FO := fun _ M => some (.ok none M)
def oS (f : FE) : FO := fun δ M => rb (f δ M) fun d M1 => match d with
  | .int i => some (.ok (some i) M1)
  | _ => none
theorem sim_oN : SimO G W tNoPart oN := fun σ δ ι M H Q R E h => h none H ι Ext.refl R rfl
theorem sim_oS {t : TE} {f : FE} (a : SimE G W t f) : SimO G W (tPart t) (oS f) := fun σ δ ι M H Q R E h =>
  a σ δ ι M H _ R E (GR.bind h fun v H1 ι1 M1 d e1 R1 r1 h1 => by
    split at h1
    · exact ⟨_, vr_int r1, h1 _ H1 ι1 Ext.refl R1 rfl⟩
    · exact h1.elim)
def cutL {α : Type} (xs : List α) (lo hi : Option Int) : List α := (xs.drop (HT.sIx xs.length 0 lo)).take (HT.sIx xs.length xs.length hi - HT.sIx xs.length 0 lo)
theorem vrs_cut {vs : List V} {ps : List D} (r : VRs G ι ξ H vs ps) (lo hi : Option Int) : VRs G ι ξ H (cutV vs lo hi) (cutL ps lo hi) := by
  unfold cutV cutL
  rw [r.length]
  exact (r.drop _).take _
def gSl (b : Bool) : D → Option Int → Option Int → MS → Option (Rs D) := fun d lo hi M => match d with
  | .tup ps => if HT.sIx ps.length 0 lo = 0 ∧ HT.sIx ps.length ps.length hi = ps.length then none else some (.ok (.tup (cutL ps lo hi)) M)
  | d => match lstOf M d with
    | some ps => newL b (cutL ps lo hi) M
    | none => none
def rSlP (K : Frag) : V → Option Int → Option Int → Hp → VK → Prop := fun x lo hi H Q => rSlS K x lo hi H Q ∨ rSlTS K x lo hi H Q
theorem sl_P {X : Cx} {K : Frag} (hK : X.K = K) : SlR X (rSlP K) := by
  subst hK
  intro pins s σ H x v vl vu lo hi sl Q I rx hs pl pu h
  rcases h with h | h
  · exact sl_listS pins s σ H x v vl vu lo hi sl Q I rx hs pl pu h
  · exact sl_tupS pins s σ H x v vl vu lo hi sl Q I rx hs pl pu h
def mSl (b : Bool) (fe : FE) (fl fh : FO) : FE := fun δ M => rb (fe δ M) fun d M1 => rb (fl δ M1) fun lo M2 => rb (fh δ M2) fun hi M3 => gSl b d lo hi M3
theorem sim_sl {b : Bool} {te : TE} {tl th : TO} {fe : FE} {fl fh : FO} (a : SimE G W te fe) (b' : SimO G W tl fl) (c : SimO G W th fh) : SimE G W (tSl (rSlP G.K) te tl th) (mSl b fe fl fh) := fun σ δ ι M H Q R E h =>
  a σ δ ι M H _ R E (GR.bind h fun v H1 ι1 M1 d e1 R1 r1 h1 => b' σ δ ι1 M1 H1 _ R1 (E.ext e1) (GR.bind h1 fun lo' H2 ι2 M2 lo e2 R2 r2 h2 => c σ δ ι2 M2 H2 _ R2 ((E.ext e1).ext e2) (GR.bind h2 fun hi' H3 ι3 M3 hi e3 R3 r3 h3 => by
    obtain rfl : lo' = lo := r2
    obtain rfl : hi' = hi := r3
    have r1 := r1.ext (e2.trans e3)
    unfold gSl at h3
    split at h3
    · split at h3
      · exact h3.elim
      · rename_i hn
        obtain ⟨p, vs, rfl, hp, _, rp⟩ := vr_tup r1
        exact .inr ⟨p, vs, rfl, SqT.of hp, by rw [rp.length]; exact hn, new_tup R3 (vrs_cut rp lo' hi') h3⟩
    · split at h3
      · rename_i e
        obtain ⟨p, vs, rfl, hp, rp⟩ := vr_sql R3 r1 e
        exact .inl ⟨p, vs, rfl, hp, new_l R3 (vrs_cut rp lo' hi') h3⟩
      · exact h3.elim)))
/-! truth -/
def truD (M : MS) : D → Option Bool
  | .non => some false
  | .bl b => some b
  | .int i => some (i != 0)
  | .str z => if z.length ≤ sizeLine then some ((z.length : Int) != 0) else none
  | .tup ps => some (!ps.isEmpty)
  | d => match lstOf M d with
    | some ps => some (!ps.isEmpty)
    | none => match dctOf M d with
      | some kds => some (!kds.isEmpty)
      | none => none
def mTru (f : FE) : FT := fun δ M => rb (f δ M) fun d M1 => match truD M1 d with
  | some b => some (.ok b M1)
  | none => none
theorem vr_tru (R : Rel G ι M H) {d : D} {b : Bool} (h : RV G ι H v d) (e : truD M d = some b) : TruV G.K v H b := by
  unfold truD at e
  split at e
  · cases e; rw [vr_none h]; rfl
  · cases e; rw [vr_bool h]; rfl
  · cases e; rw [vr_int h]; rfl
  · split at e
    · rename_i hl; cases e; rw [vr_str h]; exact ⟨hl, rfl⟩
    · cases e
  · cases e
    obtain ⟨p, vs, rfl, hp, _, rp⟩ := vr_tup h
    exact .inr (.inl ⟨vs, SqT.of hp, by rw [rp.isEmpty]⟩)
  · split at e
    · rename_i q
      cases e
      obtain ⟨p, vs, rfl, hp, rp⟩ := vr_sql R h q
      exact .inl ⟨vs, hp, by rw [rp.isEmpty]⟩
    · split at e
      · rename_i q
        cases e
        obtain ⟨p, kvs, rfl, hp, rp⟩ := vr_dct R h q
        exact .inr (.inr ⟨kvs, hp, by rw [rp.isEmpty]⟩)
      · cases e
theorem sim_truth {t : TE} {f : FE} (a : SimE G W t f) : SimT G W (fun σ H Q => t σ H fun x H' => ∃ k, TruV G.K x H' k ∧ Q k H') (mTru f) := fun σ δ ι M H Q R E h =>
  a σ δ ι M H _ R E (GR.bind h fun v H1 ι1 M1 d e1 R1 r1 h1 => by
    split at h1
    · rename_i e
      exact ⟨_, vr_tru R1 r1 e, h1 _ H1 ι1 Ext.refl R1 rfl⟩
    · exact h1.elim)
/-! isinstance -/
def tyD (M : MS) : D → Option String
  | .non => some "NoneType"
  | .bl _ => some "bool"
  | .int _ => some "int"
  | .str _ => some "str"
  | .lst _ => some "list"
  | .tup _ => some "tuple"
  | .dct _ => some "dict"
  | .ref k => match M[k]? with
    | some (.lst _) => some "list"
    | some (.dct _) => some "dict"
    | _ => none
  | _ => none
theorem vr_ty (R : Rel G ι M H) {d : D} {t : String} (h : RV G ι H v d) (e : tyD M d = some t) : TyOf G.K H v (.type t) := by
  cases d with
  | non => cases e; cases h; exact .non
  | bl b => cases e; cases h; exact .bl b
  | int i => cases e; cases h; exact .int i
  | str x => cases e; cases h; exact .str x
  | lst xs => cases e; cases h with | lst z n r => exact .lst z
  | tup xs => cases e; cases h with | tup z n r => exact .tup z
  | dct xs => cases e; cases h with | dct z n r => exact .dK z
  | ref k =>
    rw [tyD] at e
    split at e
    · rename_i q
      cases e
      obtain ⟨a, rfl, ha, vs, hv, r⟩ := vr_ref R h q
      exact .lst hv
    · rename_i q
      cases e
      obtain ⟨a, rfl, ha, vs, hv, r⟩ := vr_ref R h q
      exact .dK hv
    · cases e
  | _ => cases e
def isTy (T t : String) : Bool := t == T || (T == "int" && t == "bool")
def tys : List String := ["NoneType", "bool", "int", "str", "list", "tuple", "dict"]
def tysI : List String := ["bool", "int", "str", "list", "tuple", "dict"]
theorem kit_ty {K : Frag} {T t : String} (hT : T ∈ tysI) (ht : t ∈ tys) : kitOne K (.type t) (.type T) = some (isTy T t) := by
  simp only [tys, tysI, List.mem_cons, List.not_mem_nil, or_false] at hT ht
  rcases hT with rfl | rfl | rfl | rfl | rfl | rfl <;> rcases ht with rfl | rfl | rfl | rfl | rfl | rfl | rfl <;> rfl
theorem tyD_mem {d : D} {t : String} (e : tyD M d = some t) : t ∈ tys := by
  cases d with
  | ref k =>
    rw [tyD] at e
    split at e
    · cases e; decide
    · cases e; decide
    · cases e
  | ins _ _ => cases e
  | exc _ _ => cases e
  | fn _ => cases e
  | cls _ => cases e
  | frl _ => cases e
  | _ => cases e; decide
def gIsT (T : String) : F1 := fun d M => match tyD M d with
  | some t => some (.ok (.bl (isTy T t)) M)
  | none => none
def rIsi (K : Frag) : List V → Hp → VK → Prop := fun vs H Q => ∃ x c cv t b, vs = [x, c] ∧ (∀ u, RelV c u → u = cv) ∧ TyOf K H x t ∧ kitOne K t cv = some b ∧ Q (.bl b) H
theorem call_isiP {X : Cx} {K : Frag} (hK : X.K = K) : CallR X (.builtin "isinstance") (rIsi K) := hK ▸ call_isi
theorem sim_isT {T : String} (hT : T ∈ tysI) {t : TE} {f : FE} (a : SimE G W t f) : SimE G W (tCB (rIsi G.K) (tCons t (tCons (tC (.ty T)) tNil))) (mUn (gIsT T) f) := fun σ δ ι M H Q R E h =>
  a σ δ ι M H _ R E (GR.bind h fun v H1 ι1 M1 d e1 R1 r1 h1 => by
    unfold gIsT at h1
    split at h1
    · rename_i e
      exact ⟨v, .ty T, .type T, _, _, rfl, fun _ h => h, vr_ty R1 r1 e, kit_ty hT (tyD_mem e), h1 _ H1 ι1 Ext.refl R1 (.bl _)⟩
    · exact h1.elim)
def gIsT2 (T T' : String) : F1 := fun d M => match tyD M d with
  | some t => some (.ok (.bl (isTy T t || isTy T' t)) M)
  | none => none
def rIsi2 (K : Frag) : List V → Hp → VK → Prop := fun vs H Q => ∃ x a c d cv dv t b, vs = [x, .ref a] ∧ H a = some (.tup [c, d]) ∧ (∀ u, RelV c u → u = cv) ∧ (∀ u, RelV d u → u = dv) ∧ TyOf K H x t ∧ kitAny K t [cv, dv] = some b ∧ Q (.bl b) H
theorem call_isi2P {X : Cx} {K : Frag} (hK : X.K = K) : CallR X (.builtin "isinstance") (rIsi2 K) := hK ▸ call_isi2
theorem kit_ty2 {K : Frag} {T T' t : String} (hT : T ∈ tysI) (hT' : T' ∈ tysI) (ht : t ∈ tys) : kitAny K (.type t) [.type T, .type T'] = some (isTy T t || isTy T' t) := by
  unfold kitAny
  rw [kit_ty hT ht]
  cases isTy T t with
  | true => rfl
  | false =>
    simp only
    unfold kitAny
    rw [kit_ty hT' ht]
    cases isTy T' t <;> rfl
theorem sim_isT2 {T T' : String} (hT : T ∈ tysI) (hT' : T' ∈ tysI) {t : TE} {f : FE} (a : SimE G W t f) :
    SimE G W (tCB (rIsi2 G.K) (tCons t (tCons (tTupS (tCons (tC (.ty T)) (tCons (tC (.ty T')) tNil))) tNil))) (mUn (gIsT2 T T') f) := fun σ δ ι M H Q R E h =>
  a σ δ ι M H _ R E (GR.bind h fun v H1 ι1 M1 d e1 R1 r1 h1 => by
    unfold gIsT2 at h1
    split at h1
    · rename_i e
      refine ⟨by show 2 ≤ sizeLine; decide, fun p H' hp h' s => ?_⟩
      exact ⟨v, p, .ty T, .ty T', .type T, .type T', _, _, rfl, h', fun _ h => h, fun _ h => h, vr_ty (R1.same s) (r1.ext (Ext.same s)) e, kit_ty2 hT hT' (tyD_mem e), h1 _ H' ι1 (Ext.same s) (R1.same s) (.bl _)⟩
    · exact h1.elim)
/-! an own class -/
structure ClsI (K : Frag) (C : Addr) : Prop where
  cl : Cls K C
  ha : findIn K (.ref C) "__class__" = some (some (.builtin "object.__class__"))
  hn : specialIn K (.builtin "object.__class__") "__get__" = some (some (.builtin "getset_descriptor.__get__"))
  htk : takesIn K (.builtin "object.__class__") = some true
  hm : mroIn K C (.type "object") = some true
  no : ∀ t ∈ tys, kitOne K (.type t) (.ref C) = some false
/-- the class of an instance -/
def insOf (M : MS) : D → Option Str
  | .ins c _ => some c
  | .ref k => match M[k]? with
    | some (.ins c _) => some c
    | _ => none
  | _ => none
def gIsC (c : Str) : F1 := fun d M => match insOf M d with
  | some c' => if c' = c then some (.ok (.bl true) M) else none
  | none => match tyD M d with
    | some _ => some (.ok (.bl false) M)
    | none => none
theorem vr_ins (R : Rel G ι M H) {d : D} {c : Str} (h : RV G ι H v d) (e : insOf M d = some c) : ∃ a dx vs, v = .ref a ∧ H a = some (.ins (G.cls c) dx vs) := by
  cases d with
  | ins c' fs => cases e; cases h with | ins z n r => exact ⟨_, _, _, rfl, z⟩
  | ref k =>
    rw [insOf] at e
    split at e
    · rename_i q
      cases e
      obtain ⟨a, rfl, ha, dx, vs, hv, r⟩ := vr_ref R h q
      exact ⟨a, dx, vs, rfl, hv⟩
    · cases e
  | _ => cases e
theorem sim_isC {c : Str} (hc : ClsI G.K (G.cls c)) {t : TE} {f : FE} (a : SimE G W t f) : SimE G W (tCB (rIsi G.K) (tCons t (tCons (tC (.ref (G.cls c))) tNil))) (mUn (gIsC c) f) := fun σ δ ι M H Q R E h =>
  a σ δ ι M H _ R E (GR.bind h fun v H1 ι1 M1 d e1 R1 r1 h1 => by
    unfold gIsC at h1
    split at h1
    · rename_i e
      split at h1
      · rename_i hcc
        subst hcc
        obtain ⟨p, dx, vs, rfl, hv⟩ := vr_ins R1 r1 e
        exact ⟨_, .ref (G.cls _), .ref (G.cls _), _, true, rfl, fun _ h => h, .ins hv hc.cl hc.ha hc.hn hc.htk hc.hm, by unfold kitOne; rw [if_pos (by simp)], h1 _ H1 ι1 Ext.refl R1 (.bl _)⟩
      · exact h1.elim
    · split at h1
      · rename_i e
        exact ⟨v, .ref (G.cls c), .ref (G.cls c), _, _, rfl, fun _ h => h, vr_ty R1 r1 e, hc.no _ (tyD_mem e), h1 _ H1 ι1 Ext.refl R1 (.bl _)⟩
      · exact h1.elim)
/-! o.f -/
def fldOf (M : MS) (c : Str) : D → Option (List (Str × D))
  | .ins c' fs => if c' = c then some fs else none
  | .ref k => match M[k]? with
    | some (.ins c' fs) => if c' = c then some fs else none
    | _ => none
  | _ => none
def gFld (c f : Str) : F1 := fun d M => match fldOf M c d with
  | some fs => match fs.lookup f with
    | some p => some (.ok p M)
    | none => none
  | none => none
theorem vr_fld (R : Rel G ι M H) {d : D} {c : Str} {fs : List (Str × D)} (h : RV G ι H v d) (e : fldOf M c d = some fs) : ∃ a dx vs, v = .ref a ∧ H a = some (.ins (G.cls c) dx vs) ∧ RVf G ι H vs fs := by
  cases d with
  | ins c' fs =>
    rw [fldOf] at e
    split at e
    · rename_i hc; subst hc; cases e; cases h with | ins z n r => exact ⟨_, _, _, rfl, z, r⟩
    · cases e
  | ref k =>
    rw [fldOf] at e
    split at e
    · rename_i q
      split at e
      · rename_i hc
        subst hc; cases e
        obtain ⟨a, rfl, ha, dx, vs, hv, r⟩ := vr_ref R h q
        exact ⟨a, dx, vs, rfl, hv, r⟩
      · cases e
    · cases e
  | _ => cases e
theorem sim_fld {c f : Str} (hc : Cls G.K (G.cls c)) (hn : NoAttr G.K (G.cls c) f) {t : TE} {g : FE} (a : SimE G W t g) : SimE G W (tFld G.K t f) (mUn (gFld c f) g) := fun σ δ ι M H Q R E h =>
  a σ δ ι M H _ R E (GR.bind h fun v H1 ι1 M1 d e1 R1 r1 h1 => by
    unfold gFld at h1
    split at h1
    · rename_i e
      split at h1
      · rename_i e2
        obtain ⟨p, dx, vs, rfl, hv, rf⟩ := vr_fld R1 r1 e
        obtain ⟨u, q1, q2⟩ := rf.mem e2
        exact ⟨p, _, dx, vs, u, rfl, hv, hc, hn, q1, h1 _ H1 ι1 Ext.refl R1 q2⟩
      · exact h1.elim
    · exact h1.elim)
/-! an exception's field -/
def gXFld (c f : Str) : F1 := fun d M => match d with
  | .exc c' fs => if c' = c then match fs.lookup f with
    | some p => some (.ok p M)
    | none => none
    else none
  | _ => none
theorem vr_isX {c : Str} {fs : List (Str × D)} (h : VR G ι ξ H v (.exc c fs)) : ∃ a vs, v = .ref a ∧ IsX false H a (G.cls c) vs ∧ VRf G ι ξ H vs fs := by
  cases h with
  | exc0 e n => exact ⟨_, [], rfl, .inl ⟨rfl, e⟩, .nil⟩
  | exc1 e n e2 n2 r => exact ⟨_, _, rfl, .inr ⟨_, e, e2⟩, r⟩
theorem sim_xfld {c f : Str} {bm : List Value} {nid : String} (hc : XCls G.K (G.cls c) bm nid) (hn : NoAttr G.K (G.cls c) f) {t : TE} {g : FE} (a : SimE G W t g) : SimE G W (tXFld G.K t f) (mUn (gXFld c f) g) := fun σ δ ι M H Q R E h =>
  a σ δ ι M H _ R E (GR.bind h fun v H1 ι1 M1 d e1 R1 r1 h1 => by
    unfold gXFld at h1
    split at h1
    · split at h1
      · rename_i hcc
        subst hcc
        split at h1
        · rename_i e2
          obtain ⟨p, vs, rfl, hv, rf⟩ := vr_isX r1
          obtain ⟨u, q1, q2⟩ := rf.mem e2
          exact ⟨false, p, _, bm, nid, vs, u, rfl, hv, hc, hn, q1, h1 _ H1 ι1 Ext.refl R1 q2⟩
        · exact h1.elim
      · exact h1.elim
    · exact h1.elim)
/-! all, any -/
def bools : List D → Option (List Bool)
  | [] => some []
  | .bl b :: ps => match bools ps with
    | some bs => some (b :: bs)
    | none => none
  | _ :: _ => none
theorem vrs_bools : ∀ {vs : List V} {ps : List D} {bs : List Bool}, VRs G ι ξ H vs ps → bools ps = some bs → vs = bs.map V.bl
  | _, _, _, .nil, e => by cases e; rfl
  | _, _, _, .cons (d := d) (ds := ds) a r, e => by
    cases d with
    | bl b =>
      rw [bools] at e
      split at e
      · rename_i q
        cases e
        rw [vrs_bools r q]
        cases a
        rfl
      · cases e
    | _ => cases e
def gBools (f : List Bool → Bool) : FN := fun ds M => match ds with
  | [d] => match lstIn M d with
    | some ps => match bools ps with
      | some bs => some (.ok (.bl (f bs)) M)
      | none => none
    | none => none
  | _ => none
def rBools (f : List Bool → Bool) : List V → Hp → VK → Prop := fun vs H Q => ∃ (a : Addr) (bs : List Bool), vs = [.ref a] ∧ H a = some (.lst (bs.map V.bl)) ∧ Q (.bl (f bs)) H
theorem call_allP {X : Cx} (hc : X.calm = true) : CallR X (.builtin "all") (rBools fun bs => bs.all id) := call_allB hc
theorem call_anyP {X : Cx} (hc : X.calm = true) : CallR X (.builtin "any") (rBools fun bs => bs.any id) := call_anyB hc
theorem sim_bools {f : List Bool → Bool} : SimN G (rBools f) (gBools f) := fun W σ ι M H vs ds Q R r h => by
  unfold gBools at h
  split at h
  · rename_i d
    obtain ⟨v, rfl, a⟩ := vrs1 r
    split at h
    · rename_i q
      split at h
      · rename_i bs e
        obtain ⟨p, us, rfl, hp, rp⟩ := vr_lst R a q
        exact ⟨p, bs, rfl, by rw [hp, vrs_bools rp e], h _ H ι Ext.refl R (.bl _)⟩
      · exact h.elim
    · exact h.elim
  · exact h.elim
/-! int, min, max -/
def gInt : FN := fun ds M => match ds with
  | [.int i] => some (.ok (.int i) M)
  | [.bl b] => some (.ok (.int (if b then 1 else 0)) M)
  | _ => none
def rInt : List V → Hp → VK → Prop := fun xs H Q => (∃ i, xs = [.int i] ∧ Q (.int i) H) ∨ ∃ k, xs = [.bl k] ∧ Q (.int (if k then 1 else 0)) H
theorem sim_int : SimN G rInt gInt := fun W σ ι M H vs ds Q R r h => by
  unfold gInt at h
  split at h
  · obtain ⟨v, rfl, a⟩ := vrs1 r
    exact .inl ⟨_, by rw [vr_int a], h _ H ι Ext.refl R (.int _)⟩
  · obtain ⟨v, rfl, a⟩ := vrs1 r
    exact .inr ⟨_, by rw [vr_bool a], h _ H ι Ext.refl R (.int _)⟩
  · exact h.elim
def gI2 (f : Int → Int → Int) : FN := fun ds M => match ds with
  | [.int i, .int j] => some (.ok (.int (f i j)) M)
  | _ => none
def rI2 (f : Int → Int → Int) : List V → Hp → VK → Prop := fun xs H Q => ∃ i j, xs = [.int i, .int j] ∧ Q (.int (f i j)) H
theorem call_maxP {X : Cx} (hc : X.calm = true) : CallR X (.builtin "max") (rI2 fun i j => if j > i then j else i) := call_max2 hc
theorem call_minP {X : Cx} (hc : X.calm = true) : CallR X (.builtin "min") (rI2 fun i j => if j < i then j else i) := call_min2 hc
theorem sim_i2 {f : Int → Int → Int} : SimN G (rI2 f) (gI2 f) := fun W σ ι M H vs ds Q R r h => by
  unfold gI2 at h
  split at h
  · obtain ⟨v, u, rfl, a, b⟩ := vrs2 r
    exact ⟨_, _, by rw [vr_int a, vr_int b], h _ H ι Ext.refl R (.int _)⟩
  · exact h.elim
/-! list(x), tuple(x) -/
def seqOf (M : MS) : D → Option (List D)
  | .tup ps => some ps
  | d => lstOf M d
theorem vr_seq (R : Rel G ι M H) {d : D} {ps : List D} (h : RV G ι H v d) (e : seqOf M d = some ps) : ∃ a vs, v = .ref a ∧ (SqL G.K H a vs ∨ SqT G.K H a vs) ∧ RVs G ι H vs ps := by
  unfold seqOf at e
  split at e
  · cases e
    obtain ⟨p, us, rfl, hp, _, rp⟩ := vr_tup h
    exact ⟨p, us, rfl, .inr (SqT.of hp), rp⟩
  · obtain ⟨p, us, rfl, hp, rp⟩ := vr_sql R h e
    exact ⟨p, us, rfl, .inl hp, rp⟩
def gTuple : FN := fun ds M => match ds with
  | [.tup ps] => some (.ok (.tup ps) M)
  | [d] => match lstOf M d with
    | some ps => some (.ok (.tup ps) M)
    | none => none
  | _ => none
def rTuple (K : Frag) : List V → Hp → VK → Prop := fun xs H Q => ∃ p ys, xs = [.ref p] ∧ ((SqL K H p ys ∧ NewO H (.tup ys) Q) ∨ (SqT K H p ys ∧ Q (.ref p) H))
theorem call_tupleP {X : Cx} {K : Frag} (hK : X.K = K) : CallR X (.type "tuple") (rTuple K) := hK ▸ call_tuple_ofS
theorem sim_tuple : SimN G (rTuple G.K) gTuple := fun W σ ι M H vs ds Q R r h => by
  unfold gTuple at h
  split at h
  · obtain ⟨v, rfl, a⟩ := vrs1 r
    obtain ⟨p, us, rfl, hp, _, rp⟩ := vr_tup a
    exact ⟨p, us, rfl, .inr ⟨SqT.of hp, h _ H ι Ext.refl R a⟩⟩
  · obtain ⟨v, rfl, a⟩ := vrs1 r
    split at h
    · rename_i e
      obtain ⟨p, us, rfl, hp, rp⟩ := vr_sql R a e
      exact ⟨p, us, rfl, .inl ⟨hp, new_tup R rp h⟩⟩
    · exact h.elim
  · exact h.elim
def gList (b : Bool) : FN := fun ds M => match ds with
  | [d] => match seqOf M d with
    | some ps => newL b ps M
    | none => none
  | _ => none
def rList (K : Frag) : List V → Hp → VK → Prop := fun xs H Q => ∃ p ys, xs = [.ref p] ∧ (SqL K H p ys ∨ SqT K H p ys) ∧ NewO H (.lst ys) Q
theorem call_listP {X : Cx} {K : Frag} (hK : X.K = K) : CallR X (.type "list") (rList K) := hK ▸ call_list_ofS
theorem sim_list {b : Bool} : SimN G (rList G.K) (gList b) := fun W σ ι M H vs ds Q R r h => by
  unfold gList at h
  split at h
  · obtain ⟨v, rfl, a⟩ := vrs1 r
    split at h
    · rename_i e
      obtain ⟨p, us, rfl, hp, rp⟩ := vr_seq R a e
      exact ⟨p, us, rfl, hp, new_l R rp h⟩
    · exact h.elim
  · exact h.elim
/-! repr of a list or a tuple -/
def isSeq : PyData → Bool
  | .list _ => true
  | .tuple _ => true
  | _ => false
def gRepr : FN := fun ds M => match ds with
  | [d] => match toPy M d with
    | some p => if (isSeq p && p.showable && decide (p.depth ≤ 40) && decide (p.shown.length ≤ sizeLine)) = true then some (.ok (.str p.shown) M) else none
    | none => none
  | _ => none
theorem rp_ref {p : PyData} (h : Rp G H v p) (e : isSeq p = true) : ∃ b, v = .ref b := by
  obtain ⟨ι, ξ, d, h1, h2⟩ := h
  cases h1 with
  | non => cases h2; cases e
  | bl b => cases h2; cases e
  | int b => cases h2; cases e
  | str b => cases h2; cases e
  | _ => exact ⟨_, rfl⟩
theorem sim_repr : SimN G (rRepr G) gRepr := fun W σ ι M H vs ds Q R r h => by
  unfold gRepr at h
  split at h
  · obtain ⟨v, rfl, a⟩ := vrs1 r
    split at h
    · rename_i p e
      split at h
      · rename_i hs
        simp only [Bool.and_eq_true, decide_eq_true_eq] at hs
        have pp := vr_py R a e
        obtain ⟨b, rfl⟩ := rp_ref pp hs.1.1.1
        exact ⟨b, p, rfl, pp, hs.1.1.2, hs.1.2, hs.2, h _ H ι Ext.refl R (.str _)⟩
      · exact h.elim
    · exact h.elim
  · exact h.elim
/-! set(), s.add(x) -/
def gSet0 : FE := fun _ M => some (.ok (.ref M.length) (M ++ [.set []]))
def mSAdd (fo : FE) (fe : FE) : FE := fun δ M => rb (fo δ M) fun d M1 => match d with
  | .ref k => match M1[k]? with
    | some (.set _) => rb (fe δ M1) fun e M2 => match e with
      | .str y => match M2[k]? with
        | some (.set xs) => if xs.length + 1 < 4096 then some (.ok .non (M2.set k (.set (if xs.contains y then xs else xs ++ [y])))) else none
        | _ => none
      | _ => none
    | _ => none
  | _ => none
theorem sset_eq {P : Program} {w : World} {a : Addr} {S T : Str → Bool} {n m : Nat} (h : ∀ k, S k = T k) (e : n = m) : SSet P w a S n = SSet P w a T m := by
  rw [funext h, e]
theorem sim_set0 : SimE G W (tCB (fun vs H Q => vs = [] ∧ ∀ (a : Addr) (H' : Hp), H a = none → H' a = some (SSet G.P G.w a (fun _ => false) 0) → Same H H' → Q (.ref a) H') tNil) gSet0 := fun σ δ ι M H Q R E h =>
  ⟨rfl, fun a H' ha h' s => h (.ref a) H' (ι ++ [a]) (Ext.cell s ha) (R.cell s ha (show H' a = _ from h'.trans (congrArg some (sset_eq (fun k => by simp) rfl)))) (.ref (by rw [← R.len]; simp))⟩
theorem sim_sadd {to te : TE} {fo fe : FE} (a : SimE G W to fo) (b : SimE G W te fe) : SimE G W (tSAdd G.P G.w to (tCons te tNil)) (mSAdd fo fe) := fun σ δ ι M H Q R E h =>
  a σ δ ι M H _ R E (GR.bind h fun v H1 ι1 M1 d e1 R1 r1 h1 => by
    cases d with
    | ref k =>
      simp only at h1
      cases q : M1[k]? with
      | none => rw [q] at h1; exact h1.elim
      | some m => cases m with
        | set xs0 =>
          rw [q] at h1
          obtain ⟨p, rfl, hp, hv0⟩ := vr_ref R1 r1 q
          refine ⟨p, _, _, rfl, hv0, b σ δ ι1 M1 H1 _ R1 (E.ext e1) (GR.bind h1 fun u H2 ι2 M2 d2 e2 R2 r2 h2 => ?_)⟩
          split at h2
          · rename_i y
            split at h2
            · rename_i xs q2
              split at h2
              · rename_i hl
                obtain ⟨p', ep, hp2, hv⟩ := vr_ref R2 (r1.ext e2) q2
                cases ep
                refine ⟨y, _, _, by rw [vr_str r2], hv, hl, ?_⟩
                have eq : SSet G.P G.w p (fun k' => xs.contains k' || decide (k' = y)) (if xs.contains y then xs.length else xs.length + 1) = SSet G.P G.w p (fun k' => (if xs.contains y then xs else xs ++ [y]).contains k') (if xs.contains y then xs else xs ++ [y]).length := by
                  cases hc : xs.contains y with
                  | true =>
                    refine sset_eq (fun k' => ?_) (by simp)
                    simp only [if_true]
                    by_cases e : k' = y
                    · subst e; rw [hc]; rfl
                    · simp [e]
                  | false => exact sset_eq (fun k' => by simp [List.contains_eq_any_beq, Bool.or_comm, BEq.comm]) (by simp)
                rw [eq]
                exact h2 _ _ ι2 (Ext.write (List.mem_of_getElem? hp2)) (R2.write hp2 upd_same) .non
              · exact h2.elim
            · exact h2.elim
          · exact h2.elim
        | _ => rw [q] at h1; exact h1.elim
    | _ => exact h1.elim)
/-! xs.append(e), xs.pop() -/
def mApp (fo : FE) (fe : FE) : FE := fun δ M => rb (fo δ M) fun d M1 => match d with
  | .ref k => match M1[k]? with
    | some (.lst _) => rb (fe δ M1) fun e M2 => match M2[k]? with
      | some (.lst xs) => if xs.length < sizeLine then some (.ok .non (M2.set k (.lst (xs ++ [e])))) else none
      | _ => none
    | _ => none
  | _ => none
theorem sim_app {to te : TE} {fo fe : FE} (a : SimE G W to fo) (b : SimE G W te fe) : SimE G W (tBM G.K "list" rAppend to (tCons te tNil)) (mApp fo fe) := fun σ δ ι M H Q R E h =>
  a σ δ ι M H _ R E (GR.bind h fun v H1 ι1 M1 d e1 R1 r1 h1 => by
    cases d with
    | ref k =>
      simp only at h1
      cases q : M1[k]? with
      | none => rw [q] at h1; exact h1.elim
      | some m => cases m with
        | lst xs0 =>
          rw [q] at h1
          obtain ⟨p, rfl, hp, vs0, hv0, _⟩ := vr_ref R1 r1 q
          refine ⟨.inl ⟨rfl, vs0, SqL.of hv0⟩, b σ δ ι1 M1 H1 _ R1 (E.ext e1) (GR.bind h1 fun u H2 ι2 M2 d2 e2 R2 r2 h2 => ?_)⟩
          split at h2
          · rename_i xs q2
            split at h2
            · rename_i hl
              obtain ⟨p', ep, hp2, vs, hv, rv⟩ := vr_ref R2 (r1.ext e2) q2
              cases ep
              have ex : Ext ι2 H2 ι2 (upd H2 p (.lst (vs ++ [u]))) := Ext.write (List.mem_of_getElem? hp2)
              refine ⟨p, vs, u, rfl, rfl, hv, by rw [rv.length]; exact hl, h2 _ _ ι2 ex (R2.write hp2 ⟨_, upd_same, (rv.append (.cons r2 .nil)).ext ex⟩) .non⟩
            · exact h2.elim
          · exact h2.elim
        | _ => rw [q] at h1; exact h1.elim
    | _ => exact h1.elim)
def mPop (fo : FE) : FE := fun δ M => rb (fo δ M) fun d M1 => match d with
  | .ref k => match M1[k]? with
    | some (.lst xs) => match xs[xs.length - 1]? with
      | some p => some (.ok p (M1.set k (.lst xs.dropLast)))
      | none => none
    | _ => none
  | _ => none
theorem sim_pop {to : TE} {fo : FE} (a : SimE G W to fo) : SimE G W (tBM0 G.K "list" rPop to) (mPop fo) := fun σ δ ι M H Q R E h =>
  a σ δ ι M H _ R E (GR.bind h fun v H1 ι1 M1 d e1 R1 r1 h1 => by
    cases d with
    | ref k =>
      simp only at h1
      cases q : M1[k]? with
      | none => rw [q] at h1; exact h1.elim
      | some m => cases m with
        | lst xs =>
          rw [q] at h1
          simp only at h1
          obtain ⟨p, rfl, hp, vs, hv, rv⟩ := vr_ref R1 r1 q
          split at h1
          · rename_i e
            obtain ⟨u, q1, q2⟩ := rv.get e
            have ex : Ext ι1 H1 ι1 (upd H1 p (.lst vs.dropLast)) := Ext.write (List.mem_of_getElem? hp)
            exact ⟨.inl ⟨rfl, vs, SqL.of hv⟩, p, vs, u, rfl, rfl, hv, by rw [rv.length]; exact q1, h1 _ _ ι1 ex (R1.write hp ⟨_, upd_same, rv.dropLast.ext ex⟩) (q2.ext ex)⟩
          · exact h1.elim
        | _ => rw [q] at h1; exact h1.elim
    | _ => exact h1.elim)
end
end L2

namespace L2
open PySem PySem.Spec PyProof.Rows PySem.W PySem.SeqAt
/-! ### statements -/
inductive Out where
  | nx (δ : EnvD) (M : MS)
  | rt (d : D) (M : MS)
  | bk (δ : EnvD) (M : MS)
  | ct (δ : EnvD) (M : MS)
  | ex (c : Str) (fs : List (Str × D)) (δ : EnvD) (M : MS)
abbrev FS := EnvD → MS → Option Out
def GS (G : Gx) (W : XW) (ι : List Addr) (H : Hp) (E : Ends) : Option Out → Prop
  | none => False
  | some (.nx δ M) => ∀ σ' H' ι', Ext ι H ι' H' → Rel G ι' M H' → ER G ι' H' σ' δ → E.nx σ' H'
  | some (.rt d M) => ∀ v H' ι', Ext ι H ι' H' → Rel G ι' M H' → RV G ι' H' v d → E.rt v H'
  | some (.bk δ M) => ∀ σ' H' ι', Ext ι H ι' H' → Rel G ι' M H' → ER G ι' H' σ' δ → E.bk σ' H'
  | some (.ct δ M) => ∀ σ' H' ι', Ext ι H ι' H' → Rel G ι' M H' → ER G ι' H' σ' δ → E.ct σ' H'
  | some (.ex c fs δ M) => ∀ x σ' H' ι', Ext ι H ι' H' → Rel G ι' M H' → ER G ι' H' σ' δ → XR G ι' H' x c fs → W x σ' H'
def SimS (G : Gx) (W : XW) (t : TS) (f : FS) : Prop := ∀ (E : Ends) (σ : St) (δ : EnvD) (ι : List Addr) (M : MS) (H : Hp), Rel G ι M H → ER G ι H σ δ → GS G W ι H E (f δ M) → t E σ H
def sb {α : Type} (δ : EnvD) (r : Option (Rs α)) (k : α → MS → Option Out) : Option Out :=
  match r with
  | none => none
  | some (.ok a M) => k a M
  | some (.ex c fs M) => some (.ex c fs δ M)
@[simp] theorem sb_ok {α : Type} {δ : EnvD} {a : α} {M : MS} {k : α → MS → Option Out} : sb δ (some (.ok a M)) k = k a M := rfl
@[simp] theorem sb_ex {α : Type} {δ : EnvD} {c : Str} {fs : List (Str × D)} {M : MS} {k : α → MS → Option Out} : sb δ (some (.ex c fs M)) k = some (.ex c fs δ M) := rfl
@[simp] theorem sb_none {α : Type} {δ : EnvD} {k : α → MS → Option Out} : sb δ none k = none := rfl
section
variable {α β : Type} {G : Gx} {vr : List Addr → Hp → β → α → Prop} {W : XW} {ι ι1 : List Addr} {H H1 : Hp} {σ : St} {δ : EnvD}
theorem GS.ext {E : Ends} {r : Option Out} (e : Ext ι H ι1 H1) (h : GS G W ι H E r) : GS G W ι1 H1 E r := by
  cases r with
  | none => exact h
  | some r => cases r with
    | nx δ M => exact fun a H' ι' e' R q => h a H' ι' (e.trans e') R q
    | rt δ M => exact fun a H' ι' e' R q => h a H' ι' (e.trans e') R q
    | bk δ M => exact fun a H' ι' e' R q => h a H' ι' (e.trans e') R q
    | ct δ M => exact fun a H' ι' e' R q => h a H' ι' (e.trans e') R q
    | ex c fs δ M => exact fun x a H' ι' e' R q z => h x a H' ι' (e.trans e') R q z
theorem GS.bind {E : Ends} {Q' : β → Hp → Prop} {r : Option (Rs α)} {k : α → MS → Option Out} (er : ER G ι H σ δ) (h : GS G W ι H E (sb δ r k))
    (m : ∀ v H1 ι1 M1 d, Ext ι H ι1 H1 → Rel G ι1 M1 H1 → vr ι1 H1 v d → GS G W ι1 H1 E (k d M1) → Q' v H1) : GR G vr W ι H σ Q' r := by
  cases r with
  | none => exact h
  | some r => cases r with
    | ok a M => exact fun v H' ι' e' R q => m v H' ι' M a e' R q (GS.ext e' h)
    | ex c fs M => exact fun x H' ι' e' R q => h x σ H' ι' e' R (er.ext e') q
end
section
variable {G : Gx} {W : XW}
def mNext : FS := fun δ M => some (.nx δ M)
theorem sim_next : SimS G W tNext mNext := fun E σ δ ι M H R er h => h σ H ι Ext.refl R er
def mSeq (f g : FS) : FS := fun δ M => match f δ M with
  | some (.nx δ' M') => g δ' M'
  | o => o
theorem sim_seq {t u : TS} {f g : FS} (a : SimS G W t f) (b : SimS G W u g) : SimS G W (tSeq t u) (mSeq f g) := fun E σ δ ι M H R er h => by
  refine a { E with nx := u E } σ δ ι M H R er ?_
  unfold mSeq at h
  cases e : f δ M with
  | none => rw [e] at h; exact h
  | some o =>
    rw [e] at h
    cases o with
    | nx δ' M' => exact fun σ' H' ι' e' R' er' => b E σ' δ' ι' M' H' R' er' (GS.ext e' h)
    | rt d M' => exact h
    | bk δ' M' => exact h
    | ct δ' M' => exact h
    | ex c fs δ' M' => exact h
def mDrop (f : FE) : FS := fun δ M => sb δ (f δ M) fun _ M1 => some (.nx δ M1)
theorem sim_drop {t : TE} {f : FE} (a : SimE G W t f) : SimS G W (tDrop t) (mDrop f) := fun E σ δ ι M H R er h =>
  a σ δ ι M H _ R er (GS.bind er h fun v H1 ι1 M1 d e1 R1 r1 h1 => h1 σ H1 ι1 Ext.refl R1 (er.ext e1))
def mRet (f : FE) : FS := fun δ M => sb δ (f δ M) fun d M1 => some (.rt d M1)
theorem sim_ret {t : TE} {f : FE} (a : SimE G W t f) : SimS G W (tRet t) (mRet f) := fun E σ δ ι M H R er h =>
  a σ δ ι M H _ R er (GS.bind er h fun v H1 ι1 M1 d e1 R1 r1 h1 => h1 v H1 ι1 Ext.refl R1 r1)
def mRetN : FS := fun _ M => some (.rt (.non) M)
theorem sim_retN : SimS G W tRetN mRetN := fun E σ δ ι M H R er h => h .non H ι Ext.refl R .non
def mIfS (c : FT) (f g : FS) : FS := fun δ M => sb δ (c δ M) fun b M1 => if b = true then f δ M1 else g δ M1
theorem sim_ifS {c : TT} {fc : FT} {t u : TS} {f g : FS} (a : SimT G W c fc) (x : SimS G W t f) (y : SimS G W u g) : SimS G W (tIfS c t u) (mIfS fc f g) := fun E σ δ ι M H R er h =>
  a σ δ ι M H _ R er (GS.bind er h fun v H1 ι1 M1 d e1 R1 r1 h1 => by
    obtain rfl : v = d := r1
    cases v with
    | true => exact x E σ δ ι1 M1 H1 R1 (er.ext e1) h1
    | false => exact y E σ δ ι1 M1 H1 R1 (er.ext e1) h1)
def mNever : FS := fun _ _ => none
theorem sim_never : SimS G W tNever mNever := fun E σ δ ι M H R er h => h
def eNo : FE := fun _ _ => none
theorem sim_no : SimE G W eNever eNo := fun σ δ ι M H Q R er h => h
def mBreak : FS := fun δ M => some (.bk δ M)
def mCont : FS := fun δ M => some (.ct δ M)
theorem sim_break : SimS G W tBreak mBreak := fun E σ δ ι M H R er h => h σ H ι Ext.refl R er
theorem sim_cont : SimS G W tCont mCont := fun E σ δ ι M H R er h => h σ H ι Ext.refl R er
/-! targets -/
abbrev FG := D → EnvD → MS → Option (EnvD × MS)
abbrev FGs := List D → EnvD → MS → Option (EnvD × MS)
def GG (G : Gx) (ι : List Addr) (H : Hp) (Q : St → Hp → Prop) : Option (EnvD × MS) → Prop
  | none => False
  | some (δ, M) => ∀ σ' H' ι', Ext ι H ι' H' → Rel G ι' M H' → ER G ι' H' σ' δ → Q σ' H'
def SimG (G : Gx) (t : TG) (g : FG) : Prop := ∀ (v : V) (d : D) (σ : St) (δ : EnvD) (ι : List Addr) (M : MS) (H : Hp) (Q : St → Hp → Prop), Rel G ι M H → ER G ι H σ δ → RV G ι H v d → GG G ι H Q (g d δ M) → t v σ H Q
def SimGs (G : Gx) (t : TGs) (g : FGs) : Prop := ∀ (vs : List V) (ds : List D) (σ : St) (δ : EnvD) (ι : List Addr) (M : MS) (H : Hp) (Q : St → Hp → Prop), Rel G ι M H → ER G ι H σ δ → RVs G ι H vs ds → GG G ι H Q (g ds δ M) → t vs σ H Q
theorem GG.ext {ι ι1 : List Addr} {H H1 : Hp} {Q : St → Hp → Prop} {r : Option (EnvD × MS)} (e : Ext ι H ι1 H1) (h : GG G ι H Q r) : GG G ι1 H1 Q r := by
  cases r with
  | none => exact h
  | some r => exact fun a H' ι' e' R q => h a H' ι' (e.trans e') R q
def nG (i : Nat) : FG := fun d δ M => some (δ.set i (some d), M)
theorem sim_gName (i : Nat) : SimG G (gName i) (nG i) := fun v d σ δ ι M H Q R er r h => h _ H ι Ext.refl R (er.set r i)
def nGNil : FGs := fun ds δ M => match ds with
  | [] => some (δ, M)
  | _ => none
def nGCons (g : FG) (gs : FGs) : FGs := fun ds δ M => match ds with
  | d :: ds => match g d δ M with
    | some (δ', M') => gs ds δ' M'
    | none => none
  | [] => none
theorem sim_gNil : SimGs G gNil nGNil := fun vs ds σ δ ι M H Q R er r h => by
  unfold nGNil at h
  split at h
  · cases r; exact ⟨rfl, h σ H ι Ext.refl R er⟩
  · exact h.elim
theorem sim_gCons {t : TG} {g : FG} {ts : TGs} {gs : FGs} (a : SimG G t g) (b : SimGs G ts gs) : SimGs G (gCons t ts) (nGCons g gs) := fun vs ds σ δ ι M H Q R er r h => by
  unfold nGCons at h
  split at h
  · cases r with
    | cons r1 r2 =>
      refine ⟨_, _, rfl, a _ _ σ δ ι M H _ R er r1 ?_⟩
      split at h
      · rename_i e
        rw [e]
        exact fun σ' H' ι' e' R' er' => b _ _ σ' _ ι' _ H' Q R' er' (r2.ext e') (GG.ext e' h)
      · exact h.elim
  · exact h.elim
def nGTup (n : Nat) (gs : FGs) : FG := fun d δ M => match d with
  | .tup ps => if ps.length = n then gs ps δ M else none
  | _ => none
theorem sim_gTup {n : Nat} {ts : TGs} {gs : FGs} (b : SimGs G ts gs) : SimG G (gTup G.K n ts) (nGTup n gs) := fun v d σ δ ι M H Q R er r h => by
  unfold nGTup at h
  split at h
  · split at h
    · rename_i hl
      obtain ⟨p, vs, rfl, hp, _, rp⟩ := vr_tup r
      exact ⟨p, vs, rfl, SqT.of hp, by rw [rp.length]; exact hl, b _ _ σ δ ι M H Q R er rp h⟩
    · exact h.elim
  · exact h.elim
def re {α : Type} (r : Option (Rs α)) (k : α → MS → Option (EnvD × MS)) : Option (EnvD × MS) := match r with
  | some (.ok a M) => k a M
  | _ => none
@[simp] theorem re_ok {α : Type} {a : α} {M : MS} {k : α → MS → Option (EnvD × MS)} : re (some (.ok a M)) k = k a M := rfl
theorem GG.bind {α β : Type} {vr : List Addr → Hp → β → α → Prop} {ι : List Addr} {H : Hp} {σ : St} {Q : St → Hp → Prop} {Q' : β → Hp → Prop} {r : Option (Rs α)} {k : α → MS → Option (EnvD × MS)} (h : GG G ι H Q (re r k))
    (m : ∀ v H1 ι1 M1 d, Ext ι H ι1 H1 → Rel G ι1 M1 H1 → vr ι1 H1 v d → GG G ι1 H1 Q (k d M1) → Q' v H1) : GR G vr W ι H σ Q' r := by
  cases r with
  | none => exact h
  | some r => cases r with
    | ok a M => exact fun v H' ι' e' R q => m v H' ι' M a e' R q (GG.ext e' h)
    | ex c fs M => exact h.elim
/-- o[i] = v, o a list of the store -/
def nGSub (fo fi : FE) : FG := fun d δ M => re (fo δ M) fun o M1 => re (fi δ M1) fun j M2 => match o, j with
  | .ref k, .int i => match M2[k]? with
    | some (.lst xs) => match ixN xs.length i with
      | some j => some (δ, M2.set k (.lst (xs.set j d)))
      | none => none
    | _ => none
  | _, _ => none
theorem sim_gSub {to ti : TE} {fo fi : FE} (a : SimE G W to fo) (b : SimE G W ti fi) : SimG G (gSub to ti rSetL) (nGSub fo fi) := fun v d σ δ ι M H Q R er r h =>
  a σ δ ι M H _ R er (GG.bind h fun o H1 ι1 M1 od e1 R1 r1 h1 => b σ δ ι1 M1 H1 _ R1 (er.ext e1) (GG.bind h1 fun j H2 ι2 M2 jd e2 R2 r2 h2 => by
    split at h2
    · rename_i k i
      split at h2
      · rename_i xs q
        split at h2
        · rename_i j' ej
          obtain ⟨a', rfl, ha, vs, hv, rv⟩ := vr_ref R2 (r1.ext e2) q
          have ex : Ext ι2 H2 ι2 (upd H2 a' (.lst (vs.set j' v))) := Ext.write (List.mem_of_getElem? ha)
          have pv := r.ext (e1.trans e2)
          exact ⟨a', vs, i, j', rfl, vr_int r2, hv, by rw [rv.length]; exact ej, h2 σ _ ι2 ex (R2.write ha ⟨_, upd_same, (rv.set pv j').ext ex⟩) (((er.ext e1).ext e2).ext ex)⟩
        · exact h2.elim
      · exact h2.elim
    · exact h2.elim))
def mAsg (f : FE) (g : FG) : FS := fun δ M => sb δ (f δ M) fun d M1 => match g d δ M1 with
  | some (δ', M') => some (.nx δ' M')
  | none => none
theorem sim_asg {te : TE} {f : FE} {t : TG} {g : FG} (a : SimE G W te f) (b : SimG G t g) : SimS G W (tAsg te t) (mAsg f g) := fun E σ δ ι M H R er h =>
  a σ δ ι M H _ R er (GS.bind er h fun v H1 ι1 M1 d e1 R1 r1 h1 => b v d σ δ ι1 M1 H1 E.nx R1 (er.ext e1) r1 (by
    split at h1
    · rename_i e
      rw [e]; exact h1
    · exact h1.elim))
/-- x op= e -/
def mAug (i : Nat) (f : FE) (g : F2) : FS := fun δ M => match δ[i]? with
  | some (some x) => sb δ (f δ M) fun y M1 => sb δ (g x y M1) fun z M2 => some (.nx (δ.set i (some z)) M2)
  | _ => none
theorem sim_aug {i : Nat} {te : TE} {f : FE} {r : TIp} {g : F2} (a : SimE G W te f) (o : SimR G r g) : SimS G W (tAug i te r) (mAug i f g) := fun E σ δ ι M H R er h => by
  unfold mAug at h
  split at h
  · rename_i x e
    obtain ⟨vx, hx, rx⟩ := er.2 i x e
    refine ⟨vx, hx, a σ δ ι M H _ R er (GS.bind er h fun v H1 ι1 M1 d e1 R1 r1 h1 => ?_)⟩
    refine o W σ ι1 M1 H1 vx v x d _ R1 (rx.ext e1) r1 (GS.bind (er.ext e1) h1 fun z H2 ι2 M2 dz e2 R2 r2 h2 => ?_)
    exact h2 _ H2 ι2 Ext.refl R2 (((er.ext e1).ext e2).set r2 i)
  · exact h.elim
/-! what a loop walks -/
structure Itm where
  xs : List D
  src : Option (Nat × List D)
abbrev FI := EnvD → MS → Option (Rs Itm)
def Src (it : Itm) (M : MS) : Prop := ∀ k ps, it.src = some (k, ps) → M[k]? = some (.lst ps)
theorem src_none {xs : List D} {M : MS} : Src ⟨xs, none⟩ M := fun _ _ z => nomatch z
def JR (G : Gx) (ι0 : List Addr) (H0 : Hp) (J : It) (it : Itm) : Prop := ∀ (ζ : List Addr), (∀ a ∈ ζ, H0 a = none) → ∀ (i : Nat) (ι : List Addr) (M : MS) (H : Hp), Ext ι0 H0 ι H → Rel (G.hid ζ) ι M H → Src it M →
  (∀ d, it.xs[i]? = some d → J.go i H ∧ ∀ v H', J.yld i H v H' → Ext ι H ι H' ∧ Rel (G.hid ζ) ι M H' ∧ RV (G.hid ζ) ι H' v d) ∧ (it.xs.length = i → J.stop i H)
def GI (G : Gx) (W : XW) (ι : List Addr) (H : Hp) (σ : St) (Q : It → Hp → Prop) : Option (Rs Itm) → Prop
  | none => False
  | some (.ok it M) => ∀ J H' ι', Ext ι H ι' H' → Rel G ι' M H' → Src it M → JR G ι' H' J it → Q J H'
  | some (.ex c fs M) => ∀ x H' ι', Ext ι H ι' H' → Rel G ι' M H' → XR G ι' H' x c fs → W x σ H'
def SimI (G : Gx) (W : XW) (t : TI) (f : FI) : Prop := ∀ (σ : St) (δ : EnvD) (ι : List Addr) (M : MS) (H : Hp) (Q : It → Hp → Prop), Rel G ι M H → ER G ι H σ δ → GI G W ι H σ Q (f δ M) → t σ H Q
theorem GI.ext {ι ι1 : List Addr} {H H1 : Hp} {σ : St} {Q : It → Hp → Prop} {r : Option (Rs Itm)} (e : Ext ι H ι1 H1) (h : GI G W ι H σ Q r) : GI G W ι1 H1 σ Q r := by
  cases r with
  | none => exact h
  | some r => cases r with
    | ok a M => exact fun J H' ι' e' R q => h J H' ι' (e.trans e') R q
    | ex c fs M => exact fun x H' ι' e' R q => h x H' ι' (e.trans e') R q
theorem GI.bind {α β : Type} {vr : List Addr → Hp → β → α → Prop} {ι : List Addr} {H : Hp} {σ : St} {Q : It → Hp → Prop} {Q' : β → Hp → Prop} {r : Option (Rs α)} {k : α → MS → Option (Rs Itm)} (h : GI G W ι H σ Q (rb r k))
    (m : ∀ v H1 ι1 M1 d, Ext ι H ι1 H1 → Rel G ι1 M1 H1 → vr ι1 H1 v d → GI G W ι1 H1 σ Q (k d M1) → Q' v H1) : GR G vr W ι H σ Q' r := by
  cases r with
  | none => exact h
  | some r => cases r with
    | ok a M => exact fun v H' ι' e' R q => m v H' ι' M a e' R q (GI.ext e' h)
    | ex c fs M => exact h
/-- a list that stands in the heap, as items; a thing of the store must stay while it is walked -/
def srcL (M : MS) : D → Option (List D × Option (Nat × List D))
  | .lst ps => some (ps, none)
  | .ref k => match M[k]? with
    | some (.lst ps) => some (ps, some (k, ps))
    | _ => none
  | _ => none
/-- where its items are found, whatever goes on -/
theorem srcL_ok {ι : List Addr} {H : Hp} {M : MS} {v : V} {d : D} {ps : List D} {so : Option (Nat × List D)} (R : Rel G ι M H) (r : RV G ι H v d) (e : srcL M d = some (ps, so)) : ∃ a, v = .ref a ∧ (∃ vs, H a = some (.lst vs)) ∧ (∀ xs, Src ⟨xs, so⟩ M) ∧
    ∀ (xs : List D) (ζ : List Addr), (∀ b ∈ ζ, H b = none) → ∀ (ι' : List Addr) (M' : MS) (H' : Hp), Ext ι H ι' H' → Rel (G.hid ζ) ι' M' H' → Src ⟨xs, so⟩ M' → ∃ vs, H' a = some (.lst vs) ∧ RVs (G.hid ζ) ι' H' vs ps := by
  unfold srcL at e
  split at e
  · cases e
    cases r with
    | lst z n rv => exact ⟨_, rfl, ⟨_, z⟩, fun _ => src_none, fun xs ζ f ι' M' H' ex R' _ => ⟨_, (ex.stay z n).1, (rv.hide f).ext ex⟩⟩
  · rename_i k
    split at e
    · rename_i ps q
      cases e
      obtain ⟨a, rfl, ha, vs, hv, rv⟩ := vr_ref R r q
      refine ⟨a, rfl, ⟨vs, hv⟩, fun xs k' p' z => by cases z; exact q, fun xs ζ f ι' M' H' ex R' sr => ?_⟩
      obtain ⟨b, hb, hbk, vs', hv', rv'⟩ := vr_ref (v := .ref a) R' (VR.ref (pre_get ex.pre ha)) (sr k _ rfl)
      cases hb
      exact ⟨vs', hv', rv'⟩
    · cases e
  · cases e
/-- a list -/
def fiL (f : FE) : FI := fun δ M => rb (f δ M) fun d M1 => match srcL M1 d with
  | some (ps, so) => some (.ok ⟨ps, so⟩ M1)
  | none => none
theorem sim_iL {t : TE} {f : FE} (a : SimE G W t f) : SimI G W (iList G.K t) (fiL f) := fun σ δ ι M H Q R er h =>
  a σ δ ι M H _ R er (GI.bind h fun v H1 ι1 M1 d e1 R1 r1 h1 => by
    split at h1
    · rename_i ps so e
      obtain ⟨a, rfl, ⟨vs0, hv0⟩, sr, jr⟩ := srcL_ok R1 r1 e
      refine ⟨a, rfl, ⟨vs0, SqL.of hv0⟩, h1 _ H1 ι1 Ext.refl R1 (sr _) fun ζ fz i ι' M' H' ex R' sr' => ?_⟩
      obtain ⟨vs, hv, rv⟩ := jr _ ζ fz ι' M' H' ex R' sr'
      refine ⟨fun d ed => ?_, fun hl => ⟨vs, SqL.of hv, by rw [rv.length]; simp at hl; omega⟩⟩
      obtain ⟨u, hu, ru⟩ := rv.get ed
      refine ⟨⟨vs, u, SqL.of hv, hu⟩, fun v2 H2 y => ?_⟩
      obtain ⟨rfl, y⟩ := y
      have := y vs (SqL.of hv)
      rw [hu] at this; cases this
      exact ⟨Ext.refl, R', ru⟩
    · exact h1.elim)
/-- a tuple -/
def fiT (f : FE) : FI := fun δ M => rb (f δ M) fun d M1 => match d with
  | .tup ps => some (.ok ⟨ps, none⟩ M1)
  | _ => none
theorem sim_iT {t : TE} {f : FE} (a : SimE G W t f) : SimI G W (iTup G.K t) (fiT f) := fun σ δ ι M H Q R er h =>
  a σ δ ι M H _ R er (GI.bind h fun v H1 ι1 M1 d e1 R1 r1 h1 => by
    split at h1
    · rename_i ps
      obtain ⟨a, vs, rfl, hv, na, rv⟩ := vr_tup r1
      refine ⟨a, rfl, ⟨vs, SqT.of hv⟩, h1 _ H1 ι1 Ext.refl R1 src_none fun ζ fz i ι' M' H' ex R' _ => ?_⟩
      have hv' := (ex.stay hv na).1
      have rv' := (rv.hide fz).ext ex
      refine ⟨fun d ed => ?_, fun hl => ⟨vs, SqT.of hv', by rw [rv.length]; simp at hl; omega⟩⟩
      obtain ⟨u, hu, ru⟩ := rv'.get ed
      refine ⟨⟨vs, u, SqT.of hv', hu⟩, fun v2 H2 y => ?_⟩
      obtain ⟨rfl, y⟩ := y
      have := y vs (SqT.of hv')
      rw [hu] at this; cases this
      exact ⟨Ext.refl, R', ru⟩
    · exact h1.elim)
/-- a range -/
def rngD (lo : Int) (n : Nat) : List D := (List.range n).map fun i => D.int (lo + (i : Nat))
def rngOk (j : Int) : Bool := decide (-(2 ^ 62) ≤ j) && decide (j < 2 ^ 62)
theorem rngOk.iff {j : Int} (h : rngOk j = true) : -(2 ^ 62) ≤ j ∧ j < 2 ^ 62 := by
  unfold rngOk at h
  rw [Bool.and_eq_true, decide_eq_true_eq, decide_eq_true_eq] at h
  exact h
def fiR (fa : FA) : FI := fun δ M => rb (fa δ M) fun ds M1 => match ds with
  | [.int j] => if rngOk j = true then some (.ok ⟨rngD 0 j.toNat, none⟩ M1) else none
  | _ => none
def fiR2 (fa : FA) : FI := fun δ M => rb (fa δ M) fun ds M1 => match ds with
  | [.int i, .int j] => if (rngOk i && rngOk j) = true then some (.ok ⟨rngD i (j - i).toNat, none⟩ M1) else none
  | _ => none
theorem jr_rng {ι : List Addr} {H : Hp} (lo : Int) (n : Nat) : JR G ι H (Itr lo n) ⟨rngD lo n, none⟩ := fun ζ fz i ι' M' H' ex R' _ => by
  refine ⟨fun d ed => ?_, fun hl => by simp [rngD] at hl; show n ≤ i; omega⟩
  simp only [rngD, List.getElem?_map] at ed
  cases q : (List.range n)[i]? with
  | none => rw [q] at ed; cases ed
  | some p =>
    rw [q] at ed; cases ed
    obtain ⟨hp, hq⟩ := List.getElem?_eq_some_iff.mp q
    simp at hp hq
    subst hq
    refine ⟨hp, fun v2 H2 y => ?_⟩
    obtain ⟨rfl, rfl⟩ := y
    exact ⟨Ext.refl, R', .int _⟩
theorem sim_iR {t : TA} {f : FA} (a : SimA G W t f) : SimI G W (iRng1 t) (fiR f) := fun σ δ ι M H Q R er h =>
  a σ δ ι M H _ R er (GI.bind h fun v H1 ι1 M1 d e1 R1 r1 h1 => by
    split at h1
    · split at h1
      · rename_i hj
        obtain ⟨u, rfl, r⟩ := vrs1 r1
        exact ⟨_, by rw [vr_int r], (rngOk.iff hj).1, (rngOk.iff hj).2, h1 _ H1 ι1 Ext.refl R1 src_none (jr_rng 0 _)⟩
      · exact h1.elim
    · exact h1.elim)
theorem sim_iR2 {t : TA} {f : FA} (a : SimA G W t f) : SimI G W (iRng2 t) (fiR2 f) := fun σ δ ι M H Q R er h =>
  a σ δ ι M H _ R er (GI.bind h fun v H1 ι1 M1 d e1 R1 r1 h1 => by
    split at h1
    · split at h1
      · rename_i hj
        rw [Bool.and_eq_true] at hj
        obtain ⟨u, w, rfl, r, q⟩ := vrs2 r1
        exact ⟨_, _, by rw [vr_int r, vr_int q], ⟨(rngOk.iff hj.1).1, (rngOk.iff hj.1).2, (rngOk.iff hj.2).1, (rngOk.iff hj.2).2⟩, h1 _ H1 ι1 Ext.refl R1 src_none (jr_rng _ _)⟩
      · exact h1.elim
    · exact h1.elim)
/-- enumerate of a list -/
def enumD (ps : List D) : List D := ps.zipIdx.map fun p => D.tup [.int (p.2 : Nat), p.1]
def fiE (fa : FA) : FI := fun δ M => rb (fa δ M) fun ds M1 => match ds with
  | [d] => match srcL M1 d with
    | some (ps, so) => some (.ok ⟨enumD ps, so⟩ M1)
    | none => none
  | _ => none
theorem sim_iE {t : TA} {f : FA} (a : SimA G W t f) : SimI G W (iEnum t) (fiE f) := fun σ δ ι M H Q R er h =>
  a σ δ ι M H _ R er (GI.bind h fun v H1 ι1 M1 d e1 R1 r1 h1 => by
    split at h1
    · obtain ⟨u, rfl, r⟩ := vrs1 r1
      split at h1
      · rename_i ps so e
        obtain ⟨a, rfl, ⟨vs0, hv0⟩, sr, jr⟩ := srcL_ok R1 r e
        refine ⟨a, rfl, ⟨vs0, hv0⟩, h1 _ H1 ι1 Ext.refl R1 (sr _) fun ζ fz i ι' M' H' ex R' sr' => ?_⟩
        obtain ⟨vs, hv', rv'⟩ := jr _ ζ fz ι' M' H' ex R' sr'
        refine ⟨fun d ed => ?_, fun hl => ⟨vs, hv', by rw [rv'.length]; simp [enumD] at hl; omega⟩⟩
        simp only [enumD, List.getElem?_map, List.getElem?_zipIdx] at ed
        cases q : ps[i]? with
        | none => rw [q] at ed; cases ed
        | some p =>
          rw [q] at ed; cases ed
          obtain ⟨u, hu, ru⟩ := rv'.get q
          refine ⟨⟨vs, u, hv', hu⟩, fun v2 H2 y => ?_⟩
          obtain ⟨b, xs, x, hb, rfl, hx, hxi, rfl⟩ := y
          rw [hv'] at hx; cases hx
          rw [hu] at hxi; cases hxi
          have s := same_upd (o := .tup [.int i, u]) hb
          refine ⟨Ext.same s, R'.same s, .tup upd_same (R'.outs hb) (.cons ?_ (.cons (ru.ext (Ext.same s)) .nil))⟩
          simp only [Nat.zero_add]
          exact .int _
      · exact h1.elim
    · exact h1.elim)
/-- the signs of a text -/
def fiS (f : FE) : FI := fun δ M => rb (f δ M) fun d M1 => match d with
  | .str x => some (.ok ⟨x.cps.toList.map fun c => D.str ⟨#[c]⟩, none⟩ M1)
  | _ => none
theorem sim_iS {t : TE} {f : FE} (a : SimE G W t f) : SimI G W (iStr t) (fiS f) := fun σ δ ι M H Q R er h =>
  a σ δ ι M H _ R er (GI.bind h fun v H1 ι1 M1 d e1 R1 r1 h1 => by
    split at h1
    · rename_i x
      refine ⟨x, vr_str r1, h1 _ H1 ι1 Ext.refl R1 src_none fun ζ fz i ι' M' H' ex R' _ => ?_⟩
      refine ⟨fun d ed => ?_, fun hl => by simp at hl; exact hl.symm⟩
      simp only [List.getElem?_map] at ed
      cases q : x.cps.toList[i]? with
      | none => rw [q] at ed; cases ed
      | some c =>
        rw [q] at ed; cases ed
        have hq : x.cps[i]? = some c := by simpa using q
        refine ⟨(Array.getElem?_eq_some_iff.mp hq).1, fun v2 H2 y => ?_⟩
        obtain ⟨rfl, c', hc, rfl⟩ := y
        rw [hq] at hc; cases hc
        exact ⟨Ext.refl, R', .str _⟩
    · exact h1.elim)
end
end L2

namespace L2
open PySem PySem.Spec PyProof.Rows PySem.W PySem.SeqAt
open Classical in
/-- the turns of a for -/
noncomputable def loopF (it : Itm) (g : FG) (body : FS) : List D → FS
  | [], δ, M => some (.nx δ M)
  | x :: xs, δ, M => match g x δ M with
    | none => none
    | some (δ1, M1) => match body δ1 M1 with
      | some (.nx δ2 M2) => if Src it M2 then loopF it g body xs δ2 M2 else none
      | some (.ct δ2 M2) => if Src it M2 then loopF it g body xs δ2 M2 else none
      | some (.bk δ2 M2) => some (.nx δ2 M2)
      | o => o
noncomputable def mFor (fi : FI) (g : FG) (body : FS) : FS := fun δ M => sb δ (fi δ M) fun it M1 => loopF it g body it.xs δ M1
section
variable {G : Gx} {W : XW}
theorem GI.bindS {ι : List Addr} {H : Hp} {σ : St} {δ : EnvD} {E : Ends} {Q : It → Hp → Prop} {r : Option (Rs Itm)} {k : Itm → MS → Option Out} (er : ER G ι H σ δ) (h : GS G W ι H E (sb δ r k))
    (m : ∀ J H1 ι1 M1 it, Ext ι H ι1 H1 → Rel G ι1 M1 H1 → Src it M1 → JR G ι1 H1 J it → GS G W ι1 H1 E (k it M1) → Q J H1) : GI G W ι H σ Q r := by
  cases r with
  | none => exact h
  | some r => cases r with
    | ok a M => exact fun v H' ι' e' R sr q => m v H' ι' M a e' R sr q (GS.ext e' h)
    | ex c fs M => exact fun x H' ι' e' R q => h x σ H' ι' e' R (er.ext e') q
theorem sim_for {wi : TI} {fi : FI} {t : TG} {g : FG} {tb : TS} {f : FS} (a : SimI G W wi fi) (b : SimG G t g) (c : SimS G W tb f) : SimS G W (tFor wi t tb) (mFor fi g f) := fun E σ δ ι M H R er h =>
  a σ δ ι M H _ R er (GI.bindS er h fun J H1 ι1 M1 it e1 R1 sr jr h1 => by
    refine ⟨fun i m σ' H' => m = it.xs.length - i ∧ i ≤ it.xs.length ∧ ∃ ι' δ' M', Ext ι1 H1 ι' H' ∧ Rel G ι' M' H' ∧ ER G ι' H' σ' δ' ∧ Src it M' ∧ GS G W ι' H' E (loopF it g f (it.xs.drop i) δ' M'),
      ⟨_, rfl, Nat.zero_le _, ι1, δ, M1, Ext.refl, R1, er.ext e1, sr, h1⟩, ?_⟩
    rintro i m σ' H' ⟨rfl, hi, ι', δ', M', ex, R', er', sr', hg⟩
    obtain ⟨j1, j2⟩ := jr [] (fun _ z => absurd z List.not_mem_nil) i ι' M' H' ex R' sr'
    by_cases hn : i = it.xs.length
    · refine .inl ⟨j2 hn.symm, ?_⟩
      rw [hn, List.drop_length] at hg
      exact hg σ' H' ι' Ext.refl R' er'
    · have hl : i < it.xs.length := by omega
      rw [List.drop_eq_getElem_cons hl] at hg
      obtain ⟨go, yl⟩ := j1 _ (List.getElem?_eq_getElem hl)
      refine .inr ⟨go, fun σ2 H2 => ∃ ι2 δ2 M2, Ext ι1 H1 ι2 H2 ∧ Rel G ι2 M2 H2 ∧ ER G ι2 H2 σ2 δ2 ∧ Src it M2 ∧ GS G W ι2 H2 E (loopF it g f (it.xs.drop (i + 1)) δ2 M2), ?_, ?_⟩
      · rintro σ2 H2 q
        exact ⟨it.xs.length - (i + 1), by omega, rfl, hl, q⟩
      · intro x H2 y
        obtain ⟨ey, Ry, ry⟩ := yl x H2 y
        refine b x _ σ' δ' ι' M' H2 _ Ry (er'.ext ey) ry ?_
        unfold loopF at hg
        cases eg : g it.xs[i] δ' M' with
        | none => rw [eg] at hg; exact hg.elim
        | some p =>
          obtain ⟨δ1, M1'⟩ := p
          rw [eg] at hg
          simp only at hg
          intro σ3 H3 ι3 e3 R3 er3
          refine c _ σ3 δ1 ι3 M1' H3 R3 er3 ?_
          have e03 := (ex.trans ey).trans e3
          have hg := GS.ext (ey.trans e3) hg
          cases ef : f δ1 M1' with
          | none => rw [ef] at hg; exact hg.elim
          | some o =>
            rw [ef] at hg
            cases o with
            | nx δ2 M2 =>
              simp only at hg
              split at hg
              · rename_i sr2
                exact fun σ4 H4 ι4 e4 R4 er4 => ⟨ι4, δ2, M2, e03.trans e4, R4, er4, sr2, GS.ext e4 hg⟩
              · exact hg.elim
            | ct δ2 M2 =>
              simp only at hg
              split at hg
              · rename_i sr2
                exact fun σ4 H4 ι4 e4 R4 er4 => ⟨ι4, δ2, M2, e03.trans e4, R4, er4, sr2, GS.ext e4 hg⟩
              · exact hg.elim
            | bk δ2 M2 => exact hg
            | rt d M2 => exact hg
            | ex c fs δ2 M2 => exact hg)
end
/-! ### comprehensions -/
def WF : XW := fun _ _ _ => False
def startD (nv : Nat) (ix : List Nat) (δ : EnvD) : EnvD := List.replicate nv none ++ ix.map fun i => δ.getD i none
open Classical in
/-- the items of a comprehension -/
noncomputable def compF (it : Itm) (g : FG) (c : FT) (e : FE) : List D → EnvD → MS → Option (List D × MS)
  | [], _, M => some ([], M)
  | x :: xs, δ, M => match g x δ M with
    | none => none
    | some (δ1, M1) => match c δ1 M1 with
      | some (.ok false M2) => if Src it M2 then compF it g c e xs δ1 M2 else none
      | some (.ok true M2) => match e δ1 M2 with
        | some (.ok p M3) => if Src it M3 then match compF it g c e xs δ1 M3 with
            | some (ps, M4) => some (p :: ps, M4)
            | none => none
          else none
        | _ => none
      | _ => none
noncomputable def mComp (own : Bool) (fi : FI) (g : FG) (c : FT) (e : FE) (nv : Nat) (ix : List Nat) : FE := fun δ M => rb (fi δ M) fun it M1 =>
  match compF it g c e it.xs (startD nv ix δ) M1 with
  | some (ps, M2) => if ps.length ≤ sizeLine then newL own ps M2 else none
  | none => none
def tTrueF : FT := fun _ M => some (.ok true M)
section
variable {G : Gx} {W : XW}
theorem sim_true : SimT G W tTrue tTrueF := fun σ δ ι M H Q R er h => h true H ι Ext.refl R rfl
theorem er_start {ι : List Addr} {H : Hp} {σ : St} {δ : EnvD} (er : ER G ι H σ δ) (nv : Nat) (ix : List Nat) : ER G ι H (start2 nv ix σ) (startD nv ix δ) := by
  refine ⟨by simp [start2, startD], fun i d e => ?_⟩
  unfold startD at e
  unfold start2
  by_cases hi : i < nv
  · rw [List.getElem?_append_left (by simpa using hi)] at e
    rw [List.getElem?_replicate, if_pos hi] at e
    cases e
  · rw [List.getElem?_append_right (by simp; omega)] at e ⊢
    simp only [List.length_replicate, List.getElem?_map] at e ⊢
    cases q : ix[i - nv]? with
    | none => rw [q] at e; cases e
    | some j =>
      rw [q] at e
      simp only [Option.map_some, Option.some.injEq] at e ⊢
      have ej : δ[j]? = some (some d) := by
        rw [List.getD_eq_getElem?_getD] at e
        cases q2 : δ[j]? with
        | none => rw [q2] at e; cases e
        | some o => rw [q2] at e; simp at e; rw [e]
      obtain ⟨v, hv, r⟩ := er.2 j d ej
      exact ⟨v, by rw [List.getD_eq_getElem?_getD, hv]; rfl, r⟩
theorem GI.bindR {ι : List Addr} {H : Hp} {σ : St} {Q : It → Hp → Prop} {Q2 : VK} {r : Option (Rs Itm)} {k : Itm → MS → Option (Rs D)} (h : GR G (RV G) W ι H σ Q2 (rb r k))
    (m : ∀ J H1 ι1 M1 it, Ext ι H ι1 H1 → Rel G ι1 M1 H1 → Src it M1 → JR G ι1 H1 J it → GR G (RV G) W ι1 H1 σ Q2 (k it M1) → Q J H1) : GI G W ι H σ Q r := by
  cases r with
  | none => exact h
  | some r => cases r with
    | ok a M => exact fun v H' ι' e' R sr q => m v H' ι' M a e' R sr q (GR.ext e' h)
    | ex c fs M => exact h
/-- a hidden list is shown, as a thing of the store -/
theorem shown_mv {ι : List Addr} {x : Addr} {H : Hp} : Mv ι ((G.hid [x]).η ++ ι) H (ι ++ [x]) (G.η ++ (ι ++ [x])) H := ⟨fun k a h => by rw [List.getElem?_append_left (List.getElem?_eq_some_iff.mp h).1]; exact h, fun a o h n => ⟨h, fun z => n (by
    simp only [List.mem_append, List.mem_cons, List.not_mem_nil, or_false] at z ⊢
    rcases z with z | z | z
    · exact .inl (.inr z)
    · exact .inr z
    · exact .inl (.inl z))⟩⟩
theorem Rel.shown {ι : List Addr} {M : MS} {H : Hp} {x : Addr} {vs : List V} {ps : List D} (R : Rel (G.hid [x]) ι M H) (hn : x ∉ ι) (hv : H x = some (.lst vs)) (r : RVs (G.hid [x]) ι H vs ps) : Rel G (ι ++ [x]) (M ++ [.lst ps]) H := by
  refine ⟨by simp [R.len], List.nodup_append.mpr ⟨R.nd, by simp, fun a ha b hb z => by simp at hb; subst z; subst hb; exact hn ha⟩, fun k a m h1 h2 => ?_, fun a h => R.hid a (List.mem_append_right _ h)⟩
  by_cases hk : k < ι.length
  · rw [List.getElem?_append_left hk] at h1
    rw [List.getElem?_append_left (by rw [← R.len]; exact hk)] at h2
    exact OR.mv (G := G.hid [x]) (G' := G) rfl rfl rfl (R.at' k a m h1 h2) rfl (fun r => (r.mv (G := G.hid [x]) shown_mv).at G.η) (fun r => (r.mv (G := G.hid [x]) shown_mv).at G.η) (fun r => (r.mv (G := G.hid [x]) shown_mv).at G.η)
  · have e1 : k = ι.length := by
      have := (List.getElem?_eq_some_iff.mp h1).1
      simp at this
      omega
    subst e1
    simp at h1
    subst h1
    rw [R.len] at h2
    simp at h2
    subst h2
    exact ⟨vs, hv, (r.mv (G := G.hid [x]) shown_mv).at G.η⟩
theorem sim_comp {own : Bool} {wi : TI} {fi : FI} {t : TG} {g : FG} {tc : TT} {c : FT} {te : TE} {e : FE} {nv : Nat} {ix : List Nat} (a : SimI G W wi fi) (hg : ∀ ζ, SimG (G.hid ζ) t g) (hc : ∀ ζ, SimT (G.hid ζ) WF tc c) (he : ∀ ζ, SimE (G.hid ζ) WF te e) :
    SimE G W (tComp wi t tc te nv ix) (mComp own fi g c e nv ix) := fun σ δ ι M H Q R er h =>
  a σ δ ι M H _ R er (GI.bindR h fun J H1 ι1 M1 it e1 R1 sr jr h1 => by
    intro A hD
    cases ec : compF it g c e it.xs (startD nv ix δ) M1 with
    | none => rw [ec] at h1; exact h1.elim
    | some pr =>
      obtain ⟨tot, ME⟩ := pr
      rw [ec] at h1
      simp only at h1
      split at h1
      · rename_i hz
        have fz : ∀ a ∈ [A], H1 a = none := fun a z => by simp at z; rw [z]; exact hD
        have hη : A ∈ (G.hid [A]).η := by simp
        have R0 : Rel (G.hid [A]) ι1 M1 (upd H1 A (.lst [])) := R1.hide hD
        have er0 : ER (G.hid [A]) ι1 (upd H1 A (.lst [])) (start2 nv ix σ) (startD nv ix δ) := ((er_start (er.ext e1) nv ix).hide fz).hidden hη
        refine ⟨fun i m ys σ' H' => m = it.xs.length - i ∧ i ≤ it.xs.length ∧ H' A = some (.lst ys) ∧ ∃ ι' δ' M' acc rest, Ext ι1 H1 ι' H' ∧ A ∉ ι' ∧ Rel (G.hid [A]) ι' M' H' ∧ ER (G.hid [A]) ι' H' σ' δ' ∧ Src it M' ∧ RVs (G.hid [A]) ι' H' ys acc ∧ compF it g c e (it.xs.drop i) δ' M' = some (rest, ME) ∧ acc ++ rest = tot,
          ⟨_, rfl, Nat.zero_le _, upd_same, ι1, startD nv ix δ, M1, [], tot, Ext.refl.updN hD, R1.out hD, R0, er0, sr, .nil, ec, rfl⟩, ?_⟩
        rintro i m ys σ' H' ⟨rfl, hi, hDy, ι', δ', M', acc, rest, ex, nD, R', er', sr', rys, hcf, htot⟩
        obtain ⟨j1, j2⟩ := jr [A] fz i ι' M' H' ex R' sr'
        have hlen : ys.length + rest.length ≤ sizeLine := by rw [rys.length, ← List.length_append, htot]; exact hz
        by_cases hn : i = it.xs.length
        · refine .inl ⟨j2 hn.symm, ?_⟩
          rw [hn, List.drop_length] at hcf
          unfold compF at hcf
          cases hcf
          rw [List.append_nil] at htot
          subst htot
          unfold newL at h1
          split at h1
          · refine h1 _ H' (ι' ++ [A]) ⟨ex.pre.trans (List.prefix_append _ _), ex.keep, fun b z n => ?_⟩ (R'.shown nD hDy rys) (.ref (by rw [← R'.len]; simp))
            rcases List.mem_append.mp z with z | z
            · exact ex.new b z n
            · simp at z; rw [z]; exact hD
          · refine h1 _ H' ι' ex R'.unhide (.lst hDy (fun z => ?_) rys.unhide)
            rcases List.mem_append.mp z with z | z
            · obtain ⟨o, q⟩ := R1.hid A z
              rw [hD] at q; cases q
            · exact nD z
        · have hl : i < it.xs.length := by omega
          rw [List.drop_eq_getElem_cons hl] at hcf
          obtain ⟨go, yl⟩ := j1 _ (List.getElem?_eq_getElem hl)
          refine .inr ⟨go, fun x H2 y => ?_⟩
          obtain ⟨ey, Ry, ry⟩ := yl x H2 y
          have dk : ∀ {ι2 H2}, Ext ι' H' ι2 H2 → H2 A = some (.lst ys) ∧ A ∉ ι2 := fun e2 => ⟨e2.keep _ _ hDy nD, e2.out hDy nD⟩
          refine hg [A] x _ σ' δ' ι' M' H2 _ Ry (er'.ext ey) ry ?_
          unfold compF at hcf
          cases eg : g it.xs[i] δ' M' with
          | none => rw [eg] at hcf; cases hcf
          | some p =>
            obtain ⟨δ1, M2⟩ := p
            rw [eg] at hcf
            simp only at hcf
            intro σ3 H3 ι3 e3 R3 er3
            refine hc [A] σ3 δ1 ι3 M2 H3 _ R3 er3 ?_
            cases ef : c δ1 M2 with
            | none => rw [ef] at hcf; cases hcf
            | some o => cases o with
              | ex cc fs M3 => rw [ef] at hcf; cases hcf
              | ok bb M3 =>
                rw [ef] at hcf
                intro b H4 ι4 e4 R4 rb4
                obtain rfl : b = bb := rb4
                have e04 := (ey.trans e3).trans e4
                cases b with
                | false =>
                  simp only at hcf
                  rw [if_neg (by decide)]
                  split at hcf
                  · rename_i sr4
                    exact ⟨it.xs.length - (i + 1), by omega, rfl, hl, (dk e04).1, ι4, δ1, M3, acc, rest, ex.trans e04, (dk e04).2, R4, er3.ext e4, sr4, rys.ext e04, hcf, htot⟩
                  · cases hcf
                | true =>
                  simp only at hcf
                  rw [if_pos rfl]
                  refine he [A] σ3 δ1 ι4 M3 H4 _ R4 (er3.ext e4) ?_
                  cases ee : e δ1 M3 with
                  | none => rw [ee] at hcf; cases hcf
                  | some o => cases o with
                    | ex cc fs M4 => rw [ee] at hcf; cases hcf
                    | ok p M4 =>
                        rw [ee] at hcf
                        simp only at hcf
                        intro u H5 ι5 e5 R5 r5
                        have e05 := e04.trans e5
                        split at hcf
                        · rename_i sr5
                          split at hcf
                          · rename_i ps M6 er6
                            cases hcf
                            have hyl : ys.length < sizeLine := by simp at hlen; omega
                            refine ⟨(dk e05).1, hyl, it.xs.length - (i + 1), by omega, rfl, hl, upd_same, ι5, δ1, M4, acc ++ [p], ps, (ex.trans e05).updN hD, (dk e05).2, R5.hidden hη (dk e05).2, ((er3.ext e4).ext e5).hidden hη, sr5, ?_, er6, by rw [← htot]; simp⟩
                            exact ((rys.ext e05).append (.cons r5 .nil)).mv (write_mv hη)
                          · cases hcf
                        · cases hcf
      · exact h1.elim)
end
end L2

namespace L2
open PySem PySem.Spec PyProof.Rows PySem.W PySem.SeqAt
/-! ### what a def leaves -/
mutual
/-- nothing of the store in it -/
def D.pure : D → Bool
  | .non => true
  | .bl _ => true
  | .int _ => true
  | .str _ => true
  | .lst xs => pureAll xs
  | .tup xs => pureAll xs
  | .dct kvs => pureK kvs
  | .ins _ fs => pureF fs
  | .exc _ fs => pureF fs
  | .ref _ => false
  | .frl xs => pureAll xs
  | .fn _ => true
  | .cls _ => true
def pureAll : List D → Bool
  | [] => true
  | d :: ds => d.pure && pureAll ds
def pureK : List (Key × D) → Bool
  | [] => true
  | (_, d) :: ds => d.pure && pureK ds
def pureF : List (Str × D) → Bool
  | [] => true
  | (_, d) :: ds => d.pure && pureF ds
end
section
variable {G : Gx} {ι ι' ξ ξ' : List Addr} {H : Hp}
mutual
theorem VR.pureMv (hs : ∀ a, a ∈ ξ' → a ∈ ξ) : ∀ {v : V} {d : D}, VR G ι ξ H v d → d.pure = true → VR G ι' ξ' H v d
  | _, _, .non, _ => .non
  | _, _, .bl b, _ => .bl b
  | _, _, .int i, _ => .int i
  | _, _, .str x, _ => .str x
  | _, _, .lst z n r, p => .lst z (fun m => n (hs _ m)) (VRs.pureMv hs r (by simpa [D.pure] using p))
  | _, _, .tup z n r, p => .tup z (fun m => n (hs _ m)) (VRs.pureMv hs r (by simpa [D.pure] using p))
  | _, _, .dct z n r, p => .dct z (fun m => n (hs _ m)) (VRk.pureMv hs r (by simpa [D.pure] using p))
  | _, _, .ins z n r, p => .ins z (fun m => n (hs _ m)) (VRf.pureMv hs r (by simpa [D.pure] using p))
  | _, _, .exc0 z n, _ => .exc0 z (fun m => n (hs _ m))
  | _, _, .exc1 z n z2 n2 r, p => .exc1 z (fun m => n (hs _ m)) z2 (fun m => n2 (hs _ m)) (VRf.pureMv hs r (by simpa [D.pure] using p))
  | _, _, .ref z, p => by simp [D.pure] at p
  | _, _, .frl z n r, p => .frl z (fun m => n (hs _ m)) (VRs.pureMv hs r (by simpa [D.pure] using p))
  | _, _, .frk z r, p => .frk z (VRs.pureMv hs r (by simpa [D.pure] using p))
  | _, _, .fn x, _ => .fn x
  | _, _, .cls x, _ => .cls x
theorem VRs.pureMv (hs : ∀ a, a ∈ ξ' → a ∈ ξ) : ∀ {vs : List V} {ds : List D}, VRs G ι ξ H vs ds → pureAll ds = true → VRs G ι' ξ' H vs ds
  | _, _, .nil, _ => .nil
  | _, _, .cons a r, p => by
    rw [pureAll, Bool.and_eq_true] at p
    exact .cons (VR.pureMv hs a p.1) (VRs.pureMv hs r p.2)
theorem VRk.pureMv (hs : ∀ a, a ∈ ξ' → a ∈ ξ) : ∀ {vs : List (Key × V)} {ds : List (Key × D)}, VRk G ι ξ H vs ds → pureK ds = true → VRk G ι' ξ' H vs ds
  | _, _, .nil, _ => .nil
  | _, _, .cons a r, p => by
    rw [pureK, Bool.and_eq_true] at p
    exact .cons (VR.pureMv hs a p.1) (VRk.pureMv hs r p.2)
theorem VRf.pureMv (hs : ∀ a, a ∈ ξ' → a ∈ ξ) : ∀ {vs : List (Str × V)} {ds : List (Str × D)}, VRf G ι ξ H vs ds → pureF ds = true → VRf G ι' ξ' H vs ds
  | _, _, .nil, _ => .nil
  | _, _, .cons a r, p => by
    rw [pureF, Bool.and_eq_true] at p
    exact .cons (VR.pureMv hs a p.1) (VRf.pureMv hs r p.2)
end
mutual
/-- what is related by the first n things of the store alone stays so -/
theorem VR.cut {ι0 ξ0 : List Addr} {H0 : Hp} (hp : ∀ (k : Nat) (a : Addr), k < ι0.length → ι[k]? = some a → ι'[k]? = some a) (hs : ∀ a, a ∈ ξ' → a ∈ ξ) : ∀ {v v0 : V} {d : D}, VR G ι ξ H v d → VR G ι0 ξ0 H0 v0 d → VR G ι' ξ' H v d
  | _, _, _, .non, _ => .non
  | _, _, _, .bl b, _ => .bl b
  | _, _, _, .int i, _ => .int i
  | _, _, _, .str x, _ => .str x
  | _, _, _, .lst z n r, q => by cases q with | lst _ _ r0 => exact .lst z (fun m => n (hs _ m)) (VRs.cut hp hs r r0)
  | _, _, _, .tup z n r, q => by cases q with | tup _ _ r0 => exact .tup z (fun m => n (hs _ m)) (VRs.cut hp hs r r0)
  | _, _, _, .dct z n r, q => by cases q with | dct _ _ r0 => exact .dct z (fun m => n (hs _ m)) (VRk.cut hp hs r r0)
  | _, _, _, .ins z n r, q => by cases q with | ins _ _ r0 => exact .ins z (fun m => n (hs _ m)) (VRf.cut hp hs r r0)
  | _, _, _, .exc0 z n, q => .exc0 z (fun m => n (hs _ m))
  | _, _, _, .exc1 z n z2 n2 r, q => by
    cases q with
    | exc0 _ _ => exact .exc1 z (fun m => n (hs _ m)) z2 (fun m => n2 (hs _ m)) (VRf.cut hp hs r (ι0 := ι0) (ξ0 := ξ0) (H0 := H0) .nil)
    | exc1 _ _ _ _ r0 => exact .exc1 z (fun m => n (hs _ m)) z2 (fun m => n2 (hs _ m)) (VRf.cut hp hs r r0)
  | _, _, _, .ref z, q => by
    cases q with
    | ref q => exact .ref (hp _ _ (List.getElem?_eq_some_iff.mp q).1 z)
  | _, _, _, .frl z n r, q => by
    cases q with
    | frl _ _ r0 => exact .frl z (fun m => n (hs _ m)) (VRs.cut hp hs r r0)
    | frk _ r0 => exact .frl z (fun m => n (hs _ m)) (VRs.cut hp hs r r0)
  | _, _, _, .frk z r, q => by
    cases q with
    | frl _ _ r0 => exact .frk z (VRs.cut hp hs r r0)
    | frk _ r0 => exact .frk z (VRs.cut hp hs r r0)
  | _, _, _, .fn x, _ => .fn x
  | _, _, _, .cls x, _ => .cls x
theorem VRs.cut {ι0 ξ0 : List Addr} {H0 : Hp} (hp : ∀ (k : Nat) (a : Addr), k < ι0.length → ι[k]? = some a → ι'[k]? = some a) (hs : ∀ a, a ∈ ξ' → a ∈ ξ) : ∀ {vs v0 : List V} {ds : List D}, VRs G ι ξ H vs ds → VRs G ι0 ξ0 H0 v0 ds → VRs G ι' ξ' H vs ds
  | _, _, _, .nil, _ => .nil
  | _, _, _, .cons a r, q => by cases q with | cons a0 r0 => exact .cons (VR.cut hp hs a a0) (VRs.cut hp hs r r0)
theorem VRk.cut {ι0 ξ0 : List Addr} {H0 : Hp} (hp : ∀ (k : Nat) (a : Addr), k < ι0.length → ι[k]? = some a → ι'[k]? = some a) (hs : ∀ a, a ∈ ξ' → a ∈ ξ) : ∀ {vs v0 : List (Key × V)} {ds : List (Key × D)}, VRk G ι ξ H vs ds → VRk G ι0 ξ0 H0 v0 ds → VRk G ι' ξ' H vs ds
  | _, _, _, .nil, _ => .nil
  | _, _, _, .cons a r, q => by cases q with | cons a0 r0 => exact .cons (VR.cut hp hs a a0) (VRk.cut hp hs r r0)
theorem VRf.cut {ι0 ξ0 : List Addr} {H0 : Hp} (hp : ∀ (k : Nat) (a : Addr), k < ι0.length → ι[k]? = some a → ι'[k]? = some a) (hs : ∀ a, a ∈ ξ' → a ∈ ξ) : ∀ {vs v0 : List (Str × V)} {ds : List (Str × D)}, VRf G ι ξ H vs ds → VRf G ι0 ξ0 H0 v0 ds → VRf G ι' ξ' H vs ds
  | _, _, _, .nil, _ => .nil
  | _, _, _, .cons a r, q => by cases q with | cons a0 r0 => exact .cons (VR.cut hp hs a a0) (VRf.cut hp hs r r0)
end
end
/-- a thing of the store with nothing of the store in it -/
def MObj.flat : MObj → Bool
  | .lst xs => pureAll xs
  | .dct kvs => pureK kvs
  | .set _ => true
  | .ins _ fs => pureF fs
/-- of the first things each is as it was, or has nothing of the store in it -/
def Stable (M M' : MS) : Prop := ∀ (k : Nat) (m : MObj), k < M.length → M'[k]? = some m → M[k]? = some m ∨ m.flat = true
def mapO {α β : Type} (f : α → Option β) : List α → Option (List β)
  | [] => some []
  | x :: xs => match f x with
    | some y => match mapO f xs with
      | some ys => some (y :: ys)
      | none => none
    | none => none
def mapV {κ : Type} (f : D → Option D) : List (κ × D) → Option (List (κ × D))
  | [] => some []
  | (k, x) :: xs => match f x with
    | some y => match mapV f xs with
      | some ys => some ((k, y) :: ys)
      | none => none
    | none => none
/-- what has come into the store since it had n things is taken out of it, as data -/
def fz : Nat → Nat → MS → D → Option D
  | 0, _, _, _ => none
  | f + 1, n, M, d => if d.pure = true then some d else match d with
    | .ref k => if k < n then some (.ref k) else match M[k]? with
      | some (.lst xs) => match mapO (fz f n M) xs with
        | some ys => some (.lst ys)
        | none => none
      | some (.dct kvs) => match mapV (fz f n M) kvs with
        | some ys => some (.dct ys)
        | none => none
      | some (.ins c fs) => match mapV (fz f n M) fs with
        | some ys => some (.ins c ys)
        | none => none
      | _ => none
    | .lst xs => match mapO (fz f n M) xs with
      | some ys => some (.lst ys)
      | none => none
    | .tup xs => match mapO (fz f n M) xs with
      | some ys => some (.tup ys)
      | none => none
    | _ => none
section
variable {G : Gx} {ι ι' : List Addr} {M M' : MS} {H H' : Hp}
theorem mem_take {n : Nat} {k : Nat} {a : Addr} (nd : ι'.Nodup) (h : ι'[k]? = some a) (hn : n ≤ k) : a ∉ ι'.take n := fun z => by
  obtain ⟨j, hj⟩ := List.getElem?_of_mem z
  rw [List.getElem?_take] at hj
  split at hj
  · rename_i hjl
    have l1 := (List.getElem?_eq_some_iff.mp hj).1
    have := (List.getElem?_inj l1 nd).mp (hj.trans h.symm)
    omega
  · cases hj
theorem pre_take (e : ι <+: ι') : ι'.take ι.length = ι := by
  obtain ⟨t, rfl⟩ := e
  simp
theorem Ext.notin (R0 : Rel G ι M H) (e : Ext ι H ι' H') {a : Addr} (h : a ∈ ι') (n : a ∉ ι) : a ∉ G.η ++ ι := fun z => by
  rcases List.mem_append.mp z with z | z
  · obtain ⟨o, q⟩ := R0.hid a z
    rw [e.new a h n] at q; cases q
  · exact n z
theorem sub_pre (e : ι <+: ι') : ∀ a, a ∈ G.η ++ ι → a ∈ G.η ++ ι' := fun a z => (List.mem_append.mp z).elim (List.mem_append_left _) fun z => List.mem_append_right _ (e.subset z)
section
variable {g : D → Option D} (hf : ∀ (d : D) (v : V) (d' : D), g d = some d' → RV G ι' H' v d → RV G ι H' v d')
include hf
theorem fzs_ok : ∀ (ds : List D) (vs : List V) (ds' : List D), mapO g ds = some ds' → RVs G ι' H' vs ds → RVs G ι H' vs ds'
  | [], _, _, h, .nil => by cases h; exact .nil
  | d :: ds, _, _, h, .cons a r => by
    rw [mapO] at h
    split at h
    · rename_i y e1
      split at h
      · rename_i ys e2
        cases h
        exact .cons (hf _ _ _ e1 a) (fzs_ok _ _ _ e2 r)
      · cases h
    · cases h
theorem fzk_ok : ∀ (ds : List (Key × D)) (vs : List (Key × V)) (ds' : List (Key × D)), mapV g ds = some ds' → RVk G ι' H' vs ds → RVk G ι H' vs ds'
  | [], _, _, h, .nil => by cases h; exact .nil
  | (k, d) :: ds, _, _, h, .cons a r => by
    rw [mapV] at h
    split at h
    · rename_i y e1
      split at h
      · rename_i ys e2
        cases h
        exact .cons (hf _ _ _ e1 a) (fzk_ok _ _ _ e2 r)
      · cases h
    · cases h
theorem fzf_ok : ∀ (ds : List (Str × D)) (vs : List (Str × V)) (ds' : List (Str × D)), mapV g ds = some ds' → RVf G ι' H' vs ds → RVf G ι H' vs ds'
  | [], _, _, h, .nil => by cases h; exact .nil
  | (k, d) :: ds, _, _, h, .cons a r => by
    rw [mapV] at h
    split at h
    · rename_i y e1
      split at h
      · rename_i ys e2
        cases h
        exact .cons (hf _ _ _ e1 a) (fzf_ok _ _ _ e2 r)
      · cases h
    · cases h
end
theorem fz_ok (R0 : Rel G ι M H) (e : Ext ι H ι' H') (R : Rel G ι' M' H') : ∀ (f : Nat) (d : D) (v : V) (d' : D), fz f ι.length M' d = some d' → RV G ι' H' v d → RV G ι H' v d'
  | 0, _, _, _, h, _ => by cases h
  | f + 1, d, v, d', h, r => by
    unfold fz at h
    split at h
    · rename_i hp
      cases h
      exact r.pureMv (sub_pre e.pre) hp
    · have ih := fz_ok R0 e R f
      split at h
      · rename_i k _
        split at h
        · rename_i hk
          cases h
          cases r with
          | ref z =>
            refine .ref ?_
            rw [← pre_take e.pre, List.getElem?_take, if_pos hk]
            exact z
        · rename_i hk
          have nin : ∀ {a : Addr}, ι'[k]? = some a → a ∉ G.η ++ ι := fun z => Ext.notin R0 e (List.mem_of_getElem? z) (by rw [← pre_take e.pre]; exact mem_take R.nd z (by omega))
          split at h
          · rename_i q
            obtain ⟨a, rfl, ha, vs, hv, rv⟩ := vr_ref R r q
            split at h
            · rename_i e2
              cases h
              exact .lst hv (nin ha) (fzs_ok ih _ _ _ e2 rv)
            · cases h
          · rename_i q
            obtain ⟨a, rfl, ha, vs, hv, rv⟩ := vr_ref R r q
            split at h
            · rename_i e2
              cases h
              exact .dct hv (nin ha) (fzk_ok ih _ _ _ e2 rv)
            · cases h
          · rename_i q
            obtain ⟨a, rfl, ha, dx, vs, hv, rv⟩ := vr_ref R r q
            split at h
            · rename_i e2
              cases h
              exact .ins hv (nin ha) (fzf_ok ih _ _ _ e2 rv)
            · cases h
          · cases h
      · split at h
        · rename_i e2
          cases h
          cases r with
          | lst z n rv => exact .lst z (fun m => n (sub_pre e.pre _ m)) (fzs_ok ih _ _ _ e2 rv)
        · cases h
      · split at h
        · rename_i e2
          cases h
          cases r with
          | tup z n rv => exact .tup z (fun m => n (sub_pre e.pre _ m)) (fzs_ok ih _ _ _ e2 rv)
        · cases h
      · cases h
/-- back to the first things of the store -/
theorem Rel.back (R0 : Rel G ι M H) (e : Ext ι H ι' H') (R : Rel G ι' M' H') (st : Stable M M') : Rel G ι (M'.take ι.length) H' := by
  have hl : ι.length ≤ M'.length := by rw [← R.len]; exact e.pre.length_le
  refine ⟨by simp [Nat.min_eq_left hl], R0.nd, fun k a m h1 h2 => ?_, R.hid⟩
  have hk := (List.getElem?_eq_some_iff.mp h1).1
  rw [List.getElem?_take, if_pos hk] at h2
  have q := R.at' k a m (pre_get e.pre h1) h2
  have hp : ∀ (k : Nat) (a : Addr), k < ι.length → ι'[k]? = some a → ι[k]? = some a := fun k a hk z => by
    rw [← pre_take e.pre, List.getElem?_take, if_pos hk]; exact z
  rcases st k m (by rw [← R0.len]; exact hk) h2 with z | z
  · have q0 := R0.at' k a m h1 z
    cases m with
    | lst ds => obtain ⟨vs, h, r⟩ := q; obtain ⟨vs0, h0, r0⟩ := q0; exact ⟨vs, h, r.cut hp (sub_pre e.pre) r0⟩
    | dct ds => obtain ⟨vs, h, r⟩ := q; obtain ⟨vs0, h0, r0⟩ := q0; exact ⟨vs, h, r.cut hp (sub_pre e.pre) r0⟩
    | set xs => exact q
    | ins c fs => obtain ⟨dx, vs, h, r⟩ := q; obtain ⟨dx0, vs0, h0, r0⟩ := q0; exact ⟨dx, vs, h, r.cut hp (sub_pre e.pre) r0⟩
  · cases m with
    | lst ds => obtain ⟨vs, h, r⟩ := q; exact ⟨vs, h, r.pureMv (sub_pre e.pre) z⟩
    | dct ds => obtain ⟨vs, h, r⟩ := q; exact ⟨vs, h, r.pureMv (sub_pre e.pre) z⟩
    | set xs => exact q
    | ins c fs => obtain ⟨dx, vs, h, r⟩ := q; exact ⟨dx, vs, h, r.pureMv (sub_pre e.pre) z⟩
theorem Ext.back (e : Ext ι H ι' H') : Ext ι H ι H' := ⟨List.prefix_rfl, e.keep, fun a h n => absurd h n⟩
end
/-- how a def leaves the store -/
inductive Cl where
  | keep | data
open Classical in
noncomputable def cloOk (m : Cl) (M : MS) (d : D) (M' : MS) : Option (Rs D) := match m with
  | .keep => some (.ok d M')
  | .data => if Stable M M' then match fz 40 M.length M' d with
    | some d' => some (.ok d' (M'.take M.length))
    | none => none
    else none
open Classical in
noncomputable def cloEx (m : Cl) (M : MS) (c : Str) (fs : List (Str × D)) (M' : MS) : Option (Rs D) := match m with
  | .keep => some (.ex c fs M')
  | .data => if Stable M M' ∧ pureF fs = true then some (.ex c fs (M'.take M.length)) else none
/-- a def by its body: np arguments, N names -/
noncomputable def mFn (np N : Nat) (m : Cl) (body : FS) : FN := fun ds M => if ds.length = np then match body (ds.map some ++ List.replicate (N - np) none) M with
  | some (.nx _ M') => cloOk m M .non M'
  | some (.rt d M') => cloOk m M d M'
  | some (.ex c fs _ M') => cloEx m M c fs M'
  | _ => none
  else none
def WE (E : XK) : XW := fun x _ H' => E (.ref x) none H'
/-- a def's promise, by its mirror -/
def spM (G : Gx) (f : FN) : Sp := fun vs H Q E => ∃ η ι M ds, Rel (G.at η) ι M H ∧ RVs (G.at η) ι H vs ds ∧ GR (G.at η) (RV (G.at η)) (WE E) ι H [] Q (f ds M)
section
variable {G : Gx} {W : XW} {ι ι' : List Addr} {M : MS} {H H' : Hp} {σ : St} {Q : VK}
theorem cloOk_ok {m : Cl} {d : D} {v : V} {M' : MS} (R0 : Rel G ι M H) (h : GR G (RV G) W ι H σ Q (cloOk m M d M')) (e : Ext ι H ι' H') (R : Rel G ι' M' H') (r : RV G ι' H' v d) : Q v H' := by
  cases m with
  | keep => exact h v H' ι' e R r
  | data =>
    unfold cloOk at h
    simp only at h
    split at h
    · rename_i st
      split at h
      · rename_i d' hd
        rw [← R0.len] at h hd
        exact h v H' ι e.back (R0.back e R st) (fz_ok R0 e R _ _ _ _ hd r)
      · exact h.elim
    · exact h.elim
theorem cloEx_ok {m : Cl} {c : Str} {fs : List (Str × D)} {x : Addr} {M' : MS} (R0 : Rel G ι M H) (h : GR G (RV G) W ι H σ Q (cloEx m M c fs M')) (e : Ext ι H ι' H') (R : Rel G ι' M' H') (r : XR G ι' H' x c fs) : W x σ H' := by
  cases m with
  | keep => exact h x H' ι' e R r
  | data =>
    unfold cloEx at h
    simp only at h
    split at h
    · rename_i st
      rw [← R0.len] at h
      exact h x H' ι e.back (R0.back e R st.1) (r.pureMv (sub_pre e.pre) st.2)
    · exact h.elim
theorem GR.sig {α β : Type} {vr : List Addr → Hp → β → α → Prop} {E : XK} {σ σ' : St} {Q : β → Hp → Prop} {r : Option (Rs α)} (h : GR G vr (WE E) ι H σ Q r) : GR G vr (WE E) ι H σ' Q r := by
  cases r with
  | none => exact h
  | some r => cases r with
    | ok a M => exact h
    | ex c fs M => exact h
theorem er_in {vs : List V} {ds : List D} (r : RVs G ι H vs ds) (N : List Str) : ER G ι H (start N vs) (ds.map some ++ List.replicate (N.length - ds.length) none) := by
  refine ⟨by simp [start, r.length], fun i d e => ?_⟩
  unfold start
  have hl := r.length
  by_cases hi : i < ds.length
  · rw [List.getElem?_append_left (by simpa using hi)] at e
    rw [List.getElem?_append_left (by simp; omega)]
    rw [List.getElem?_map] at e ⊢
    cases q : ds[i]? with
    | none => rw [q] at e; cases e
    | some d' =>
      rw [q] at e; cases e
      obtain ⟨v, hv, rv⟩ := r.get q
      exact ⟨v, by rw [hv]; rfl, rv⟩
  · rw [List.getElem?_append_right (by simp; omega)] at e
    rw [List.getElem?_replicate] at e
    split at e <;> cases e
/-- the body's end is the def's -/
theorem fn_end {np N : Nat} {m : Cl} {body : FS} {ds : List D} {E : XK} (R : Rel G ι M H) (h : GR G (RV G) (WE E) ι H σ Q (mFn np N m body ds M)) :
    ds.length = np ∧ GS G (WE E) ι H { nx := fun _ H' => Q .non H', rt := Q } (body (ds.map some ++ List.replicate (N - np) none) M) := by
  unfold mFn at h
  split at h
  · rename_i hl
    refine ⟨hl, ?_⟩
    cases e : body (ds.map some ++ List.replicate (N - np) none) M with
    | none => rw [e] at h; exact h.elim
    | some o =>
      rw [e] at h
      cases o with
      | nx δ' M' => exact fun σ' H' ι' e' R' er' => cloOk_ok R h e' R' .non
      | rt d M' => exact fun v H' ι' e' R' r' => cloOk_ok R h e' R' r'
      | bk δ' M' => exact h.elim
      | ct δ' M' => exact h.elim
      | ex c fs δ' M' => exact fun x σ' H' ι' e' R' er' xr => cloEx_ok (σ := σ') (Q := Q) R (GR.sig h) e' R' xr
  · exact h.elim
end
end L2

namespace L2
open PySem PySem.Spec PyProof.Rows PySem.W PySem.SeqAt
/-! # the mirror's own syntax, and what it comes to -/
inductive Op2 where
  | add | sub | mul | fdiv | mod | pow
  | lt | le | gt | ge | eq | ne | isN | notN | isin | notin
  deriving DecidableEq
inductive Bif where
  | len | all | any | int | min | max | list (r : Bool) | tuple | repr
  deriving DecidableEq
mutual
inductive MX where
  /-- the name x, in slot i -/
  | v (i : Nat) (x : Str)
  | non | bl (b : Bool) | int (i : Int) | str (x : Str)
  /-- a name of the module -/
  | g (x : Str)
  | bin (o : Op2) (a b : MX)
  | cmp (o : Op2) (a b : MX)
  | chain (o o' : Op2) (a b c : MX)
  | neg (a : MX)
  | bool (isAnd : Bool) (xs : MXs)
  | not (a : MX)
  | ife (t : MT) (a b : MX)
  | tup (xs : MXs)
  | lst (r : Bool) (xs : MXs)
  | dct0 (r : Bool)
  | ix (a b : MX)
  | sl (r : Bool) (a : MX) (lo hi : MO)
  | fld (c f : Str) (a : MX)
  | xfld (c f : Str) (a : MX)
  | bif (b : Bif) (xs : MXs)
  | isT (T : String) (a : MX)
  | isT2 (T T' : String) (a : MX)
  | isC (c : Str) (a : MX)
  | isB (T : String) (a : MX)
  /-- a def of the text -/
  | call (f : Str) (xs : MXs)
  /-- a name that holds a def -/
  | callV (i : Nat) (x : Str) (xs : MXs)
  | set0 | sadd (o e : MX) | app (o e : MX) | pop (o : MX)
  | comp (r : Bool) (vars caps : List Str) (ix : List Nat) (it : MI) (tg : MG) (ifs : MTs) (e : MX)
  /-- a dict's comprehension, as far as what it goes through raises -/
  | dcompX (vars caps : List Str) (ix : List Nat) (it : MI)
  | never
inductive MXs where
  | nil | cons (a : MX) (r : MXs)
inductive MT where
  | val (a : MX)
  | cmp (o : Op2) (a b : MX)
  | chain (o o' : Op2) (a b c : MX)
  | not (t : MT)
  | bool (isAnd : Bool) (ts : MTs)
inductive MTs where
  | nil | cons (t : MT) (r : MTs)
inductive MO where
  | none | some (a : MX)
inductive MI where
  | lst (a : MX) | tup (a : MX) | rng (xs : MXs) | rng2 (xs : MXs) | enum (xs : MXs) | str (a : MX)
inductive MG where
  | nm (i : Nat) (x : Str) | tup (gs : MGs) | sub (o i : MX)
inductive MGs where
  | nil | cons (g : MG) (r : MGs)
end
mutual
inductive MSt where
  | expr (a : MX) | ret (a : MX) | retN | pass | brk | cont
  | asg (g : MG) (a : MX)
  | aug (i : Nat) (x : Str) (o : Op2) (a : MX)
  | ife (t : MT) (a b : MSs)
  | for_ (it : MI) (g : MG) (b : MSs)
  | raise (c : Str) (xs : MXs)
  | tryAs (c : Str) (i : Nat) (x : Str) (b h : MSs)
  | try_ (c : Str) (b h : MSs)
  | never
inductive MSs where
  | nil | cons (s : MSt) (r : MSs)
end

/-! ### operations -/
def cMul (i j : Int) : Bool := (decide (-(2 ^ 64) < i) && decide (i < 2 ^ 64)) || (decide (-(2 ^ 64) < j) && decide (j < 2 ^ 64))
def cDiv (_ j : Int) : Bool := decide (0 < j) && decide (j < 1073741824)
def cPow (i j : Int) : Bool := decide (0 ≤ j) && decide (j ≤ 1000000) && decide (i.natAbs < 2 ^ 64)
def gIsN (g : Bool → Bool) : F2 := fun x y M => match y with
  | .non => match x with
    | .non => some (.ok (.bl (g true)) M)
    | _ => some (.ok (.bl (g false)) M)
  | _ => none
def sem2 : Op2 → F2
  | .add => gAdd
  | .sub => gI0 fun i j => .int (i - j)
  | .mul => gI cMul fun i j => .int (i * j)
  | .fdiv => gI cDiv fun i j => .int (i / j)
  | .mod => gI (fun _ j => decide (0 < j)) fun i j => .int (i % j)
  | .pow => gI cPow fun i j => .int (i ^ j.toNat)
  | .lt => gI0 fun i j => .bl (decide (i < j))
  | .le => gI0 fun i j => .bl (decide (i ≤ j))
  | .gt => gI0 fun i j => .bl (decide (j < i))
  | .ge => gI0 fun i j => .bl (decide (j ≤ i))
  | .eq => gEq id
  | .ne => gEq not
  | .isN => gIsN id
  | .notN => gIsN not
  | .isin => gIn id
  | .notin => gIn not
def opB : Op2 → Option Operator
  | .add => some .Add
  | .sub => some .Sub
  | .mul => some .Mult
  | .fdiv => some .FloorDiv
  | .mod => some .Mod
  | .pow => some .Pow
  | _ => none
def opC : Op2 → Option CmpOp
  | .lt => some .Lt
  | .le => some .LtE
  | .gt => some .Gt
  | .ge => some .GtE
  | .eq => some .Eq
  | .ne => some .NotEq
  | .isN => some .Is
  | .notN => some .IsNot
  | .isin => some .In
  | .notin => some .NotIn
  | _ => none
def gNeg : F1 := fun d M => match d with
  | .int i => some (.ok (.int (-i)) M)
  | _ => none
def semB : Bif → FN
  | .len => gLen
  | .all => gBools fun bs => bs.all id
  | .any => gBools fun bs => bs.any id
  | .int => gInt
  | .min => gI2 fun i j => if j < i then j else i
  | .max => gI2 fun i j => if j > i then j else i
  | .list r => gList r
  | .tuple => gTuple
  | .repr => gRepr
/-- isinstance of a class of Python's own exceptions: bases tells the own classes under it -/
def gIsB (kn : Str → Bool) (bs : List Str) : F1 := fun d M => match d with
  | .exc c _ => if kn c = true then some (.ok (.bl (bs.contains c)) M) else none
  | d => match tyD M d with
    | some _ => some (.ok (.bl false) M)
    | none => none
def tNo : FT := fun _ _ => none
def mDct0 (r : Bool) : FE := fun _ M => if r = true then some (.ok (.ref M.length) (M ++ [.dct []])) else some (.ok (.dct []) M)
/-- what a law's text is made of, as the mirror sees it -/
structure Env1 where
  /-- the module's names -/
  gl : Str → Option D
  /-- the own exceptions' fields -/
  xf : Str → Option (List Str)
  /-- the own exceptions under one of Python's own -/
  ub : String → Option (List Str)
  /-- the own classes that are no exceptions, with their fields -/
  ic : Str → Option (List Str)
  /-- the defs, one turn deeper -/
  known : Str → Bool
  run : Str → FN
def lenG : MGs → Nat
  | .nil => 0
  | .cons _ r => lenG r + 1
section
variable (Γ : Env1)
def mGlob (x : Str) : FE := fun _ M => match Γ.gl x with
  | some d => some (.ok d M)
  | none => none
def mCallV (f : FE) (fa : FA) : FE := fun δ M => rb (f δ M) fun d M1 => match d with
  | .fn x => if Γ.known x = true then rb (fa δ M1) fun ds M2 => Γ.run x ds M2 else none
  | _ => none
def mCallF (x : Str) (fa : FA) : FE := if Γ.known x = true then mB (Γ.run x) fa else eNo
def mFldC (c f : Str) (g : FE) : FE := match Γ.ic c with
  | some fs => if fs.contains f = true then mUn (gFld c f) g else eNo
  | none => eNo
def mXFldC (c f : Str) (g : FE) : FE := match Γ.xf c with
  | some fs => if fs.contains f = true then mUn (gXFld c f) g else eNo
  | none => eNo
def mIsCC (c : Str) (g : FE) : FE := match Γ.ic c with
  | some _ => mUn (gIsC c) g
  | none => eNo
def mIsBC (T : String) (g : FE) : FE := match Γ.ub T with
  | some bs => mUn (gIsB (fun c => (Γ.xf c).isSome) bs) g
  | none => eNo
def mDcompX (fi : FI) : FE := fun δ M => rb (fi δ M) fun _ _ => none
def mAndL (isAnd : Bool) (f : FE) (g : FE) : FE := if isAnd = true then mAndV f g else mOrV f g
def mAndT (isAnd : Bool) (f : FT) (g : FT) : FT := if isAnd = true then mAnd f g else mOr f g
mutual
noncomputable def evE : MX → FE
  | .v i _ => mVar i
  | .non => mC .non
  | .bl b => mC (.bl b)
  | .int i => mC (.int i)
  | .str x => mC (.str x)
  | .g x => mGlob Γ x
  | .bin o a b => mOp (sem2 o) (evE a) (evE b)
  | .cmp o a b => mOp (sem2 o) (evE a) (evE b)
  | .chain o o' a b c => mChain (sem2 o) (sem2 o') (evE a) (evE b) (evE c)
  | .neg a => mUn gNeg (evE a)
  | .bool k xs => evB k xs
  | .not a => mNotV (evE a)
  | .ife t a b => mIf (evT t) (evE a) (evE b)
  | .tup xs => mB gTupD (evA xs)
  | .lst r xs => mB (gLstD r) (evA xs)
  | .dct0 r => mDct0 r
  | .ix a b => mOp gIx (evE a) (evE b)
  | .sl r a lo hi => mSl r (evE a) (evO lo) (evO hi)
  | .fld c f a => mFldC Γ c f (evE a)
  | .xfld c f a => mXFldC Γ c f (evE a)
  | .bif b xs => mB (semB b) (evA xs)
  | .isT T a => mUn (gIsT T) (evE a)
  | .isT2 T T' a => mUn (gIsT2 T T') (evE a)
  | .isC c a => mIsCC Γ c (evE a)
  | .isB T a => mIsBC Γ T (evE a)
  | .call f xs => mCallF Γ f (evA xs)
  | .callV i _ xs => mCallV Γ (mVar i) (evA xs)
  | .set0 => gSet0
  | .sadd o e => mSAdd (evE o) (evE e)
  | .app o e => mApp (evE o) (evE e)
  | .pop o => mPop (evE o)
  | .comp r vars _ ix it tg ifs e => mComp r (evI it) (evG tg) (evTs ifs) (evE e) vars.length ix
  | .dcompX _ _ _ it => mDcompX (evI it)
  | .never => eNo
noncomputable def evA : MXs → FA
  | .nil => mNil
  | .cons a r => mCons (evE a) (evA r)
noncomputable def evB (k : Bool) : MXs → FE
  | .nil => eNo
  | .cons a r => match r with
    | .nil => evE a
    | .cons _ _ => mAndL k (evE a) (evB k r)
noncomputable def evT : MT → FT
  | .val a => mTru (evE a)
  | .cmp o a b => tru (mOp (sem2 o) (evE a) (evE b))
  | .chain o o' a b c => tru (mChain (sem2 o) (sem2 o') (evE a) (evE b) (evE c))
  | .not t => mNot (evT t)
  | .bool k ts => evTb k ts
noncomputable def evTb (k : Bool) : MTs → FT
  | .nil => tNo
  | .cons a r => match r with
    | .nil => evT a
    | .cons _ _ => mAndT k (evT a) (evTb k r)
/-- the ifs of a comprehension: none, or one -/
noncomputable def evTs : MTs → FT
  | .nil => tTrueF
  | .cons a r => match r with
    | .nil => evT a
    | .cons _ _ => tNo
noncomputable def evO : MO → FO
  | .none => oN
  | .some a => oS (evE a)
noncomputable def evI : MI → FI
  | .lst a => fiL (evE a)
  | .tup a => fiT (evE a)
  | .rng xs => fiR (evA xs)
  | .rng2 xs => fiR2 (evA xs)
  | .enum xs => fiE (evA xs)
  | .str a => fiS (evE a)
noncomputable def evG : MG → FG
  | .nm i _ => nG i
  | .tup gs => nGTup (lenG gs) (evGs gs)
  | .sub o i => nGSub (evE o) (evE i)
noncomputable def evGs : MGs → FGs
  | .nil => nGNil
  | .cons g r => nGCons (evG g) (evGs r)
end
end
end L2

namespace L2
open PySem PySem.Spec PyProof.Rows PySem.W PySem.SeqAt
/-! ### statements -/
section
variable (Γ : Env1)
def lenX : MXs → Nat
  | .nil => 0
  | .cons _ r => lenX r + 1
def mRaise (c : Str) (k : Nat) (fa : FA) : FS := match Γ.xf c with
  | some ns => if k = ns.length ∧ k ≤ 100 then fun δ M => sb δ (fa δ M) fun ds M1 => if ds.length = ns.length then some (.ex c (ns.zip ds) δ M1) else none else mNever
  | none => mNever
/-- x op= e, of ints -/
def semA : Op2 → F2
  | .add => gI0 fun i j => .int (i + j)
  | .sub => gI0 fun i j => .int (i - j)
  | .mul => gI cMul fun i j => .int (i * j)
  | _ => fun _ _ _ => none
def backAs (i : Nat) : Option Out → Option Out
  | some (.nx δ M) => some (.nx (δ.set i none) M)
  | some (.rt d M) => some (.rt d M)
  | some (.bk δ M) => some (.bk (δ.set i none) M)
  | some (.ct δ M) => some (.ct (δ.set i none) M)
  | _ => none
def backN : Option Out → Option Out
  | some (.ex _ _ _ _) => none
  | o => o
def mTryAs (c : Str) (i : Nat) (b h : FS) : FS := fun δ M => match b δ M with
  | some (.ex c' fs δ' M') => if c' = c then backAs i (h (δ'.set i (some (.exc c fs))) M') else none
  | o => o
def mTry (c : Str) (b h : FS) : FS := fun δ M => match b δ M with
  | some (.ex c' fs δ' M') => if c' = c then backN (h δ' M') else none
  | o => o
def mTryAsC (c : Str) (i : Nat) (b h : FS) : FS := match Γ.xf c with
  | some _ => mTryAs c i b h
  | none => mNever
def mTryC (c : Str) (b h : FS) : FS := match Γ.xf c with
  | some _ => mTry c b h
  | none => mNever
mutual
noncomputable def evS : MSt → FS
  | .expr a => mDrop (evE Γ a)
  | .ret a => mRet (evE Γ a)
  | .retN => mRetN
  | .pass => mNext
  | .brk => mBreak
  | .cont => mCont
  | .asg g a => mAsg (evE Γ a) (evG Γ g)
  | .aug i _ o a => mAug i (evE Γ a) (semA o)
  | .ife t a b => mIfS (evT Γ t) (evSs a) (evSs b)
  | .for_ it g b => mFor (evI Γ it) (evG Γ g) (evSs b)
  | .raise c xs => mRaise Γ c (lenX xs) (evA Γ xs)
  | .tryAs c i _ b h => mTryAsC Γ c i (evSs b) (evSs h)
  | .try_ c b h => mTryC Γ c (evSs b) (evSs h)
  | .never => mNever
noncomputable def evSs : MSs → FS
  | .nil => mNext
  | .cons s r => mSeq (evS s) (evSs r)
end
end
/-! ### defs -/
structure MDef where
  ps : List Str
  N : List Str
  mode : Cl
  /-- what stands for parameters that are left out -/
  dv : List D
  body : MSs
structure Prog1 where
  gl : Str → Option D
  xf : Str → Option (List Str)
  ub : String → Option (List Str)
  ic : Str → Option (List Str)
  defs : Str → Option MDef
noncomputable def run1 (Pg : Prog1) : Nat → Str → FN
  | 0, _ => fun _ _ => none
  | n + 1, x => match Pg.defs x with
    | none => fun _ _ => none
    | some md => fun ds M => mFn md.ps.length md.N.length md.mode (evSs ⟨Pg.gl, Pg.xf, Pg.ub, Pg.ic, fun x => (Pg.defs x).isSome, run1 Pg n⟩ md.body) (ds ++ md.dv) M
noncomputable abbrev Prog1.env (Pg : Prog1) (n : Nat) : Env1 := ⟨Pg.gl, Pg.xf, Pg.ub, Pg.ic, fun x => (Pg.defs x).isSome, run1 Pg n⟩
/-- a def by its body, all its parameters told -/
noncomputable def runB (Pg : Prog1) (md : MDef) : Nat → FN
  | 0 => fun _ _ => none
  | n + 1 => mFn md.ps.length md.N.length md.mode (evSs (Pg.env n) md.body)
theorem run1_some {Pg : Prog1} {x : Str} {md : MDef} (h : Pg.defs x = some md) : ∀ (n : Nat) (ds : List D) (M : MS), run1 Pg n x ds M = runB Pg md n (ds ++ md.dv) M
  | 0, _, _ => rfl
  | n + 1, _, _ => by rw [run1, h]; rfl
/-! ### does a piece of the mirror tell a piece of the text? -/
structure CC where
  N : List Str
  sc : Scope
  calm : Bool
  /-- a def's own body -/
  def_ : Bool
def nmOk (x : Str) : Bool := !(x == ("__debug__" : Str)) && !(x == ("__classdict__" : Str))
def visOk (sc : Scope) (x : Str) : Bool := match sc.names.lookup x with
  | some .local => true
  | some .cell => true
  | some .free => true
  | _ => false
def locOk (cc : CC) (x : Str) : Bool := match cc.sc.names.lookup x with
  | some .local => true
  | some .cell => cc.def_
  | _ => false
def isLoc (cc : CC) (x : Str) : Bool := match cc.sc.names.lookup x with
  | some .local => true
  | _ => false
def glOk (cc : CC) (x : Str) : Bool := (match cc.sc.names.lookup x with
  | some .globalImplicit => true
  | _ => false) && !(x == ("__debug__" : Str))
def slotOk (cc : CC) (i : Nat) (x : Str) : Bool := match cc.N[i]? with
  | some y => y == x
  | none => false
def isStar : Expr → Bool
  | .Starred _ _ => true
  | _ => false
/-- truth is asked of the value itself -/
def plainT : Expr → Bool
  | .UnaryOp .Not _ _ => false
  | .BoolOp _ _ _ => false
  | .IfExp _ _ _ _ => false
  | .Compare _ _ _ _ => false
  | _ => true
def isSlice : Expr → Bool
  | .Slice _ _ _ _ => true
  | _ => false
def isComp : Expr → Bool
  | .ListComp _ _ _ _ => true
  | .SetComp _ _ _ _ => true
  | .DictComp _ _ _ _ _ => true
  | _ => false
def isTupE : Expr → Bool
  | .Tuple _ _ _ => true
  | _ => false
def isName : Expr → Bool
  | .Name _ _ => true
  | _ => false
def isSetE : Expr → Bool
  | .Set _ _ _ => true
  | _ => false
def isCall0 : Expr → Bool
  | .Call (.Name _ _) [] [] _ => true
  | _ => false
def bname : Bif → Str
  | .len => "len"
  | .all => "all"
  | .any => "any"
  | .int => "int"
  | .min => "min"
  | .max => "max"
  | .list _ => "list"
  | .tuple => "tuple"
  | .repr => "repr"
/-- the scope of a comprehension's block -/
def relab (sc osc : Scope) : Scope := { sc with names := sc.names.map fun (n, k) => if (k == .free && osc.kind == .function && osc.names.lookup n == some .cell) then (n, .cell) else (n, k) }
def nodupB : List Str → Bool
  | [] => true
  | x :: xs => !xs.contains x && nodupB xs
def chkC (vars caps : List Str) (ix : List Nat) (cc : CC) (sc : Scope) : Bool :=
  (ix.map fun i => cc.N.getD i "") == caps && ix.all (fun i => decide (i < cc.N.length)) && compOk sc cc.sc vars caps && nodupB (vars ++ caps)
mutual
def chkE : MX → CC → Expr → Bool
  | .v i x, cc, e => match e with
    | .Name y _ => y == x && slotOk cc i x && visOk cc.sc x && nmOk x
    | _ => false
  | .non, _, e => match e with
    | .Constant .none _ _ => true
    | _ => false
  | .bl b, _, e => match e with
    | .Constant (.bool c) _ _ => c == b
    | _ => false
  | .int i, _, e => match e with
    | .Constant (.int c) _ _ => c == i
    | _ => false
  | .str x, _, e => match e with
    | .Constant (.str c) _ _ => c == x
    | _ => false
  | .g x, cc, e => match e with
    | .Name y _ => y == x && glOk cc x
    | _ => false
  | .bin o a b, cc, e => match e with
    | .BinOp l p r _ => opB o == some p && chkE a cc l && chkE b cc r
    | _ => false
  | .cmp o a b, cc, e => match e with
    | .Compare l [p] [r] _ => opC o == some p && !behindInMarks p r && chkE a cc l && chkE b cc r
    | _ => false
  | .chain o o' a b c, cc, e => match e with
    | .Compare l [p, p'] [m, r] _ => opC o == some p && opC o' == some p' && !lastMarks [p, p'] [m, r] && chkE a cc l && chkE b cc m && chkE c cc r
    | _ => false
  | .neg a, cc, e => match e with
    | .UnaryOp .USub l _ => chkE a cc l
    | _ => false
  | .bool k xs, cc, e => match e with
    | .BoolOp .And es _ => k && chkB xs cc es
    | .BoolOp .Or es _ => !k && chkB xs cc es
    | _ => false
  | .not a, cc, e => match e with
    | .UnaryOp .Not l _ => chkE a cc l
    | _ => false
  | .ife t a b, cc, e => match e with
    | .IfExp c l r _ => chkT t cc c && chkE a cc l && chkE b cc r
    | _ => false
  | .tup xs, cc, e => match e with
    | .Tuple es _ _ => chkA xs cc es
    | _ => false
  | .lst _ xs, cc, e => match e with
    | .List es _ => chkA xs cc es
    | _ => false
  | .dct0 _, _, e => match e with
    | .Dict [] [] _ => true
    | _ => false
  | .ix a b, cc, e => match e with
    | .Subscript l r _ => !isSlice r && chkE a cc l && chkE b cc r
    | _ => false
  | .sl _ a lo hi, cc, e => match e with
    | .Subscript l (.Slice x y none _) _ => chkE a cc l && chkO lo cc x && chkO hi cc y
    | _ => false
  | .fld _ f a, cc, e => match e with
    | .Attribute l g _ => g == f && !isCall0 l && chkE a cc l
    | _ => false
  | .xfld _ f a, cc, e => match e with
    | .Attribute l g _ => g == f && !isCall0 l && chkE a cc l
    | _ => false
  | .bif b xs, cc, e => match e with
    | .Call (.Name y _) es [] _ => cc.calm && y == bname b && glOk cc y && (match es with | [] => false | _ :: _ => true) && chkA xs cc es
    | _ => false
  | .isT T a, cc, e => match e with
    | .Call (.Name y _) [l, .Name t _] [] _ => y == ("isinstance" : Str) && glOk cc y && t == Str.ofString T && glOk cc t && tysI.contains T && !isStar l && chkE a cc l
    | _ => false
  | .isT2 T T' a, cc, e => match e with
    | .Call (.Name y _) [l, .Tuple [.Name t _, .Name t' _] _ _] [] _ => y == ("isinstance" : Str) && glOk cc y && t == Str.ofString T && glOk cc t && tysI.contains T && t' == Str.ofString T' && glOk cc t' && tysI.contains T' && !isStar l && chkE a cc l
    | _ => false
  | .isC c a, cc, e => match e with
    | .Call (.Name y _) [l, .Name t _] [] _ => y == ("isinstance" : Str) && glOk cc y && t == c && glOk cc t && !isStar l && chkE a cc l
    | _ => false
  | .isB T a, cc, e => match e with
    | .Call (.Name y _) [l, .Name t _] [] _ => y == ("isinstance" : Str) && glOk cc y && t == Str.ofString T && glOk cc t && !isStar l && chkE a cc l
    | _ => false
  | .call f xs, cc, e => match e with
    | .Call (.Name y _) es [] _ => cc.calm && y == f && glOk cc y && (match es with | [] => false | _ :: _ => true) && chkA xs cc es
    | _ => false
  | .callV i x xs, cc, e => match e with
    | .Call (.Name y _) es [] _ => cc.calm && y == x && slotOk cc i x && visOk cc.sc x && nmOk x && (match es with | [] => false | _ :: _ => true) && chkA xs cc es
    | _ => false
  | .set0, cc, e => match e with
    | .Call (.Name y _) [] [] _ => y == ("set" : Str) && glOk cc y
    | _ => false
  | .sadd o a, cc, e => match e with
    | .Call (.Attribute l m p) [r] [] q => !isCall0 l && (p.endLine == q.line) && m == ("add" : Str) && !isStar r && chkE o cc l && chkE a cc r
    | _ => false
  | .app o a, cc, e => match e with
    | .Call (.Attribute l m p) [r] [] q => !isCall0 l && (p.endLine == q.line) && m == ("append" : Str) && !isStar r && chkE o cc l && chkE a cc r
    | _ => false
  | .pop o, cc, e => match e with
    | .Call (.Attribute l m p) [] [] q => !isCall0 l && (p.endLine == q.line) && m == ("pop" : Str) && chkE o cc l
    | _ => false
  | .comp _ vars caps ix it tg ifs a, cc, e => match e with
    | .ListComp elt [⟨t, iter, fs, 0⟩] sc _ => cc.calm && chkC vars caps ix cc sc && !isSetE iter && chkI it cc t iter && chkG tg ⟨vars ++ caps, relab sc cc.sc, true, false⟩ t && chkTs ifs ⟨vars ++ caps, relab sc cc.sc, true, false⟩ fs && chkE a ⟨vars ++ caps, relab sc cc.sc, true, false⟩ elt
    | _ => false
  | .dcompX vars caps ix it, cc, e => match e with
    | .DictComp _ _ [⟨t, iter, _, 0⟩] sc _ => cc.calm && chkC vars caps ix cc sc && !isSetE iter && chkI it cc t iter
    | _ => false
  | .never, _, _ => true
def chkA : MXs → CC → List Expr → Bool
  | .nil, _, es => match es with
    | [] => true
    | _ => false
  | .cons a r, cc, es => match es with
    | e :: es => !isStar e && chkE a cc e && chkA r cc es
    | _ => false
def chkB : MXs → CC → List Expr → Bool
  | .nil, _, _ => false
  | .cons a r, cc, es => match es with
    | e :: es => chkE a cc e && (match r with
      | .nil => (match es with | [] => true | _ => false)
      | .cons _ _ => chkB r cc es)
    | _ => false
def chkT : MT → CC → Expr → Bool
  | .val a, cc, e => plainT e && chkE a cc e
  | .cmp o a b, cc, e => match e with
    | .Compare l [p] [r] _ => opC o == some p && !behindInMarks p r && chkE a cc l && chkE b cc r
    | _ => false
  | .chain o o' a b c, cc, e => match e with
    | .Compare l [p, p'] [m, r] _ => opC o == some p && opC o' == some p' && !lastMarks [p, p'] [m, r] && chkE a cc l && chkE b cc m && chkE c cc r
    | _ => false
  | .not t, cc, e => match e with
    | .UnaryOp .Not l _ => chkT t cc l
    | _ => false
  | .bool k ts, cc, e => match e with
    | .BoolOp .And es _ => k && chkTb ts cc es
    | .BoolOp .Or es _ => !k && chkTb ts cc es
    | _ => false
def chkTb : MTs → CC → List Expr → Bool
  | .nil, _, _ => false
  | .cons a r, cc, es => match es with
    | e :: es => chkT a cc e && (match r with
      | .nil => (match es with | [] => true | _ => false)
      | .cons _ _ => chkTb r cc es)
    | _ => false
def chkTs : MTs → CC → List Expr → Bool
  | .nil, _, es => match es with
    | [] => true
    | _ => false
  | .cons a r, cc, es => match es with
    | [e] => (match r with | .nil => true | .cons _ _ => false) && chkT a cc e
    | _ => false
def chkO : MO → CC → Option Expr → Bool
  | .none, _, e => match e with
    | none => true
    | _ => false
  | .some a, cc, e => match e with
    | some e => chkE a cc e
    | none => false
def chkI : MI → CC → Expr → Expr → Bool
  | .lst a, cc, _, e => chkE a cc e
  | .tup a, cc, _, e => chkE a cc e
  | .str a, cc, _, e => chkE a cc e
  | .rng xs, cc, _, e => match e with
    | .Call (.Name y _) [a] [] _ => y == ("range" : Str) && glOk cc y && chkA xs cc [a]
    | _ => false
  | .rng2 xs, cc, _, e => match e with
    | .Call (.Name y _) [a, b] [] _ => y == ("range" : Str) && glOk cc y && chkA xs cc [a, b]
    | _ => false
  | .enum xs, cc, t, e => match e with
    | .Call (.Name y _) [a] [] _ => isTupE t && y == ("enumerate" : Str) && glOk cc y && chkA xs cc [a]
    | _ => false
def chkG : MG → CC → Expr → Bool
  | .nm i x, cc, e => match e with
    | .Name y _ => y == x && slotOk cc i x && locOk cc x
    | _ => false
  | .tup gs, cc, e => match e with
    | .Tuple es _ _ => cc.calm && chkGs gs cc es
    | _ => false
  | .sub o i, cc, e => match e with
    | .Subscript l r _ => !isSlice r && chkE o cc l && chkE i cc r
    | _ => false
def chkGs : MGs → CC → List Expr → Bool
  | .nil, _, es => match es with
    | [] => true
    | _ => false
  | .cons g r, cc, es => match es with
    | e :: es => !isStar e && chkG g cc e && chkGs r cc es
    | _ => false
end
def isCompX : MX → Bool
  | .comp _ _ _ _ _ _ _ _ => true
  | _ => false
/-- a name that comprehensions have of the def -/
def cellT (cc : CC) : Expr → Bool
  | .Name y _ => (match cc.sc.names.lookup y with
    | some .cell => true
    | _ => false)
  | _ => false
def isListE : Expr → Bool
  | .List _ _ => true
  | _ => false
mutual
def chkS : MSt → CC → Stmt → Bool
  | .expr a, cc, s => match s with
    | .Expr e _ => !isComp e && chkE a cc e
    | _ => false
  | .ret a, cc, s => match s with
    | .Return (some e) _ => chkE a cc e
    | _ => false
  | .retN, _, s => match s with
    | .Return none _ => true
    | _ => false
  | .pass, _, s => match s with
    | .Pass _ => true
    | _ => false
  | .brk, _, s => match s with
    | .Break _ => true
    | _ => false
  | .cont, _, s => match s with
    | .Continue _ => true
    | _ => false
  | .asg g a, cc, s => match s with
    | .Assign [t] e _ => cc.def_ && !isStar t && !isListE t && !(isTupE t && isTupE e) && (!isComp e || !isName t || isCompX a || cellT cc t) && chkG g cc t && chkE a cc e
    | _ => false
  | .aug i x o a, cc, s => match s with
    | .AugAssign (.Name y _) p e _ => y == x && slotOk cc i x && locOk cc x && (opB o == some p) && (o == .mul || o == .add || o == .sub) && chkE a cc e
    | _ => false
  | .ife t a b, cc, s => match s with
    | .If c l r _ => chkT t cc c && chkSs a cc l && chkSs b cc r
    | _ => false
  | .for_ it g b, cc, s => match s with
    | .For t iter body [] _ => cc.calm && !isSetE iter && chkI it cc t iter && chkG g cc t && chkSs b cc body
    | _ => false
  | .raise c xs, cc, s => match s with
    | .Raise (some (.Call (.Name y _) es [] _)) none _ => cc.calm && y == c && glOk cc y && chkA xs cc es
    | _ => false
  | .tryAs c i x b h, cc, s => match s with
    | .Try body [.ExceptHandler (some (.Name y _)) (some z) (s0 :: suite) _] [] [] _ => cc.calm && cc.def_ && y == c && glOk cc y && z == x && slotOk cc i x && isLoc cc x && chkSs b cc body && chkSs h { cc with calm := false } (s0 :: suite)
    | _ => false
  | .try_ c b h, cc, s => match s with
    | .Try body [.ExceptHandler (some (.Name y _)) none (s0 :: suite) _] [] [] _ => cc.calm && cc.def_ && y == c && glOk cc y && chkSs b cc body && chkSs h { cc with calm := false } (s0 :: suite)
    | _ => false
  | .never, _, _ => true
def chkSs : MSs → CC → List Stmt → Bool
  | .nil, _, ss => match ss with
    | [] => true
    | _ => false
  | .cons s r, cc, ss => match ss with
    | s' :: ss => chkS s cc s' && chkSs r cc ss
    | _ => false
end
end L2

namespace L2
open PySem PySem.Spec PyProof.Rows PySem.W PySem.SeqAt
/-! # the text does what the mirror tells -/
section
variable (G : Gx) (W : XW)
def kE (f : FE) : TE := fun σ H Q => ∃ η δ ι M, Rel (G.at η) ι M H ∧ ER (G.at η) ι H σ δ ∧ GR (G.at η) (RV (G.at η)) W ι H σ Q (f δ M)
def kT (f : FT) : TT := fun σ H Q => ∃ η δ ι M, Rel (G.at η) ι M H ∧ ER (G.at η) ι H σ δ ∧ GR (G.at η) BR W ι H σ Q (f δ M)
def kA (f : FA) : TA := fun σ H Q => ∃ η δ ι M, Rel (G.at η) ι M H ∧ ER (G.at η) ι H σ δ ∧ GR (G.at η) (RVs (G.at η)) W ι H σ Q (f δ M)
def kO (f : FO) : TO := fun σ H Q => ∃ η δ ι M, Rel (G.at η) ι M H ∧ ER (G.at η) ι H σ δ ∧ GR (G.at η) IR W ι H σ Q (f δ M)
def kI (f : FI) : TI := fun σ H Q => ∃ η δ ι M, Rel (G.at η) ι M H ∧ ER (G.at η) ι H σ δ ∧ GI (G.at η) W ι H σ Q (f δ M)
def kS (f : FS) : TS := fun E σ H => ∃ η δ ι M, Rel (G.at η) ι M H ∧ ER (G.at η) ι H σ δ ∧ GS (G.at η) W ι H E (f δ M)
end
def kG (G : Gx) (g : FG) : TG := fun v σ H Q => ∃ η d δ ι M, Rel (G.at η) ι M H ∧ ER (G.at η) ι H σ δ ∧ RV (G.at η) ι H v d ∧ GG (G.at η) ι H Q (g d δ M)
def kGs (G : Gx) (g : FGs) : TGs := fun vs σ H Q => ∃ η ds δ ι M, Rel (G.at η) ι M H ∧ ER (G.at η) ι H σ δ ∧ RVs (G.at η) ι H vs ds ∧ GG (G.at η) ι H Q (g ds δ M)
section
variable {G : Gx} {W : XW} {X : Cx}
theorem kE_sim {f : FE} (η : List Addr) : SimE (G.at η) W (kE G W f) f := fun σ δ ι M H Q R E h => ⟨η, δ, ι, M, R, E, h⟩
theorem kT_sim {f : FT} (η : List Addr) : SimT (G.at η) W (kT G W f) f := fun σ δ ι M H Q R E h => ⟨η, δ, ι, M, R, E, h⟩
theorem kA_sim {f : FA} (η : List Addr) : SimA (G.at η) W (kA G W f) f := fun σ δ ι M H Q R E h => ⟨η, δ, ι, M, R, E, h⟩
theorem kO_sim {f : FO} (η : List Addr) : SimO (G.at η) W (kO G W f) f := fun σ δ ι M H Q R E h => ⟨η, δ, ι, M, R, E, h⟩
theorem kI_sim {f : FI} (η : List Addr) : SimI (G.at η) W (kI G W f) f := fun σ δ ι M H Q R E h => ⟨η, δ, ι, M, R, E, h⟩
theorem kS_sim {f : FS} (η : List Addr) : SimS (G.at η) W (kS G W f) f := fun E σ δ ι M H R er h => ⟨η, δ, ι, M, R, er, h⟩
theorem kG_sim {g : FG} (η : List Addr) : SimG (G.at η) (kG G g) g := fun v d σ δ ι M H Q R er r h => ⟨η, d, δ, ι, M, R, er, r, h⟩
theorem kGs_sim {g : FGs} (η : List Addr) : SimGs (G.at η) (kGs G g) g := fun v d σ δ ι M H Q R er r h => ⟨η, d, δ, ι, M, R, er, r, h⟩
theorem kE_of {e : Expr} {t : TE} {f : FE} (p : PE X e t) (a : ∀ η, SimE (G.at η) W t f) : PE X e (kE G W f) := fun pins s σ H Q I ⟨η, δ, ι, M, R, E, h⟩ => p pins s σ H Q I (a η σ δ ι M H Q R E h)
theorem kT_of {e : Expr} {t : TT} {f : FT} (p : PT X e t) (a : ∀ η, SimT (G.at η) W t f) : PT X e (kT G W f) := fun pins s σ H Q I ⟨η, δ, ι, M, R, E, h⟩ => p pins s σ H Q I (a η σ δ ι M H Q R E h)
theorem kW_of {e : Expr} {t : TT} {f : FT} (p : PW X e t) (a : ∀ η, SimT (G.at η) W t f) : PW X e (kT G W f) := fun wh pins s σ H Q I ⟨η, δ, ι, M, R, E, h⟩ => p wh pins s σ H Q I (a η σ δ ι M H Q R E h)
theorem kTs_of {e : List Expr} {t : TT} {f : FT} (p : PTs X e t) (a : ∀ η, SimT (G.at η) W t f) : PTs X e (kT G W f) := fun pins s σ H Q I ⟨η, δ, ι, M, R, E, h⟩ => p pins s σ H Q I (a η σ δ ι M H Q R E h)
theorem kA_of {e : List Expr} {t : TA} {f : FA} (p : PA X e t) (a : ∀ η, SimA (G.at η) W t f) : PA X e (kA G W f) := fun pos pins s σ H Q I ⟨η, δ, ι, M, R, E, h⟩ => p pos pins s σ H Q I (a η σ δ ι M H Q R E h)
theorem kO_of {e : Option Expr} {t : TO} {f : FO} (p : PO X e t) (a : ∀ η, SimO (G.at η) W t f) : PO X e (kO G W f) := fun pins s σ H Q I ⟨η, δ, ι, M, R, E, h⟩ => p pins s σ H Q I (a η σ δ ι M H Q R E h)
theorem kI_of {tg e : Expr} {t : TI} {f : FI} (p : PI X tg e t) (a : ∀ η, SimI (G.at η) W t f) : PI X tg e (kI G W f) := fun pins s σ H Q I ⟨η, δ, ι, M, R, E, h⟩ => p pins s σ H Q I (a η σ δ ι M H Q R E h)
theorem kS_of {e : Stmt} {t : TS} {f : FS} (p : PS X e t) (a : ∀ η, SimS (G.at η) W t f) : PS X e (kS G W f) := fun pins s σ H D I ⟨η, δ, ι, M, R, E, h⟩ => p pins s σ H D I (a η D σ δ ι M H R E h)
theorem kSs_of {e : List Stmt} {t : TS} {f : FS} (p : PSs X e t) (a : ∀ η, SimS (G.at η) W t f) : PSs X e (kS G W f) := fun pins s σ H D I ⟨η, δ, ι, M, R, E, h⟩ => p pins s σ H D I (a η D σ δ ι M H R E h)
theorem kG_of {e : Expr} {t : TG} {f : FG} (p : PG X e t) (a : ∀ η, SimG (G.at η) t f) : PG X e (kG G f) := fun pins s σ H v u Q I r ⟨η, d, δ, ι, M, R, E, rv, h⟩ => p pins s σ H v u Q I r (a η v d σ δ ι M H Q R E rv h)
theorem kGs_of {e : List Expr} {t : TGs} {f : FGs} (p : PGs X e t) (a : ∀ η, SimGs (G.at η) t f) : PGs X e (kGs G f) := fun pins s σ H v u Q I r ⟨η, d, δ, ι, M, R, E, rv, h⟩ => p pins s σ H v u Q I r (a η v d σ δ ι M H Q R E rv h)
end

/-! ### what is known of the text -/
def bltNames : List Str := ["len", "all", "any", "int", "min", "max", "list", "tuple", "repr", "isinstance", "range", "enumerate", "set", "str", "bool", "dict", "ValueError", "KeyError", "IndexError", "RuntimeError", "OverflowError", "sorted", "zip", "sum"]
structure Wd where
  G : Gx
  mg : Str → Option Value
  base : Heap
  Pg : Prog1
/-- an own exception -/
structure XOk (Z : Wd) (c : Str) (ns : List Str) : Prop where
  ex : ∃ bm Bn nid inN bmN, XMk Z.G.K (Z.G.cls c) bm Bn nid inN bmN ∧
    ((ns = [] ∧ inN = inN ∧ bmN = bm ∧ findIn Z.G.K (.ref (Z.G.cls c)) "__init__" = some (some (.builtin inN))) ∨
     (ns ≠ [] ∧ ∃ f fd ps, findIn Z.G.K (.ref (Z.G.cls c)) "__init__" = some (some (.ref f)) ∧ isFn Z.G.K (.ref f) = true ∧ FnOk Z.G.P Z.G.w Z.G.K Z.mg Z.base CX0 1 f fd ps (spXI (Z.G.cls c) ns) ∧ Binds Z.G.K fd ps []))
  mg : Z.mg c = some (.ref (Z.G.cls c))
  na : ∀ f ∈ ns, NoAttr Z.G.K (Z.G.cls c) f
  em : exmOne Z.G.K (.ref (Z.G.cls c)) (.ref (Z.G.cls c)) = some true
structure IOk (Z : Wd) (c : Str) (fs : List Str) : Prop where
  cl : ClsI Z.G.K (Z.G.cls c)
  mg : Z.mg c = some (.ref (Z.G.cls c))
  na : ∀ f ∈ fs, NoAttr Z.G.K (Z.G.cls c) f
structure Wd.Ok (Z : Wd) : Prop where
  gl : ∀ x d, Z.Pg.gl x = some d → ∃ v u, Z.mg x = some u ∧ RelV v u ∧ ∀ ι ξ H, VR Z.G ι ξ H v d
  bn : ∀ x ∈ bltNames, Z.mg x = none
  xc : ∀ c ns, Z.Pg.xf c = some ns → XOk Z c ns
  ic : ∀ c fs, Z.Pg.ic c = some fs → IOk Z c fs
  ub : ∀ T bs, Z.Pg.ub T = some bs → T ∈ ["ValueError", "KeyError", "IndexError", "RuntimeError", "OverflowError"] ∧ ∀ c ns, Z.Pg.xf c = some ns → kitOne Z.G.K (.ref (Z.G.cls c)) (.type T) = some (bs.contains c)
  spn : specialIn Z.G.K (.builtin "object.__class__") "__get__" = some (some (.builtin "getset_descriptor.__get__"))
  tak : takesIn Z.G.K (.builtin "object.__class__") = some true
/-- a def of the text keeps to its mirror -/
def CallOk (Z : Wd) (k : Nat) (x : Str) (md : MDef) (f : FN) : Prop := ∃ fd dvs ds, FnOk Z.G.P Z.G.w Z.G.K Z.mg Z.base (CX1 Z.G.P Z.G.w) k (Z.G.fn x) fd md.ps (spM Z.G f) ∧ Z.mg x = some (.ref (Z.G.fn x)) ∧ keepIn Z.G.K (.ref (Z.G.fn x)) = true ∧
  Binds Z.G.K fd md.ps ds ∧ Vals dvs ds ∧ (∀ ι ξ H, VRs Z.G ι ξ H dvs md.dv) ∧ ∃ oc od osl, Z.G.K.lookup (Z.G.fn x) = some ⟨oc, od, .func fd, osl⟩
structure Good (Z : Wd) (n : Nat) (cc : CC) (X : Cx) : Prop where
  hK : X.K = Z.G.K
  hP : X.prog = Z.G.P
  hw : X.w = Z.G.w
  hm : X.mg = Z.mg
  hb : X.base = Z.base
  hN : X.N = cc.N
  hs : X.env.scope = cc.sc
  nd : cc.N.Nodup
  calm : cc.calm = true → X.calm = true
  room : cc.calm = true → Room (n + 4) X.A
  units : X.A.units + 100 < cLine
  fn : cc.def_ = true → ∀ x, X.fn x = true
  po : PassesOwn (model X.prog X.w) X.A X.env X.xe
  top : cc.def_ = true → ∃ outer L, X.stack = X.env :: outer ∧ X.env.frame = some L
  bk : cc.def_ = true → X.env.blockKind = .function
  call : ∀ x md, Z.Pg.defs x = some md → CallOk Z (n + 4) x md (runB Z.Pg md n)

section
variable {Z : Wd} {n : Nat} {cc : CC} {X : Cx} {W : XW}
/-! names -/
theorem Good.slot (g : Good Z n cc X) {i : Nat} {x : Str} (h : slotOk cc i x = true) : X.N[i]? = some x := by
  unfold slotOk at h
  rw [g.hN]
  split at h
  · rename_i y e
    rw [e, eq_of_beq h]
  · cases h
theorem Good.vis (g : Good Z n cc X) {x : Str} (h : visOk cc.sc x = true) : Vis X.env.scope x := by
  unfold visOk at h
  unfold Vis
  rw [g.hs]
  split at h
  · rename_i e; exact .inl e
  · rename_i e; exact .inr (.inl e)
  · rename_i e; exact .inr (.inr e)
  · cases h
theorem nmOk.d {x : Str} (h : nmOk x = true) : (x == ("__debug__" : Str)) = false ∧ (x == ("__classdict__" : Str)) = false := by
  unfold nmOk at h
  rw [Bool.and_eq_true, Bool.not_eq_true', Bool.not_eq_true'] at h
  exact h
theorem Good.gl (g : Good Z n cc X) {x : Str} (h : glOk cc x = true) : Gl X x ∧ (x == ("__debug__" : Str)) = false := by
  unfold glOk at h
  rw [Bool.and_eq_true, Bool.not_eq_true'] at h
  refine ⟨?_, h.2⟩
  have h := h.1
  unfold Gl
  show X.env.scope.names.lookup x = _
  rw [g.hs]
  split at h
  · rename_i e; exact e
  · cases h
theorem Good.loc (g : Good Z n cc X) {x : Str} (h : locOk cc x = true) : Loc X.env.scope x ∧ (X.fn x = true ∨ X.env.scope.names.lookup x = some .local) := by
  unfold locOk at h
  unfold Loc
  rw [g.hs]
  split at h
  · rename_i e; exact ⟨.inl e, .inr e⟩
  · rename_i e; exact ⟨.inr e, .inl (g.fn h x)⟩
  · cases h
theorem Good.isLoc (g : Good Z n cc X) {x : Str} (h : isLoc cc x = true) : X.env.scope.names.lookup x = some .local := by
  unfold L2.isLoc at h
  rw [g.hs]
  split at h
  · rename_i e; exact e
  · cases h
theorem Good.nd' (g : Good Z n cc X) : X.N.Nodup := by rw [g.hN]; exact g.nd
theorem pe_v (g : Good Z n cc X) {i : Nat} {x : Str} {pos : Pos} (h1 : slotOk cc i x = true) (h2 : visOk cc.sc x = true) (h3 : nmOk x = true) : PE X (.Name x pos) (tVar i) := pe_var (g.slot h1) (g.vis h2) (nmOk.d h3).1 (nmOk.d h3).2
/-! stars -/
theorem star_no {e : Expr} {es : List Expr} {env : Env} (h : isStar e = false) : starEach (e :: es) env = (false, eval e env) :: starEach es env := by
  cases e <;> first | rfl | (simp [isStar] at h)
theorem chkA_plain : ∀ {xs : MXs} {cc : CC} {es : List Expr} {env : Env} {pos : Pos}, chkA xs cc es = true → (backTo pos (starEach es env)).any (·.1) = false
  | .nil, cc, es, env, pos, h => by
    unfold chkA at h
    split at h
    · rfl
    · cases h
  | .cons a r, cc, es, env, pos, h => by
    unfold chkA at h
    split at h
    · rename_i e es
      rw [Bool.and_eq_true, Bool.and_eq_true, Bool.not_eq_true'] at h
      rw [star_no h.1.1]
      simp only [backTo, List.map_cons, List.any_cons, Bool.false_or]
      exact chkA_plain (pos := pos) h.2
    · cases h
theorem chkA_head {xs : MXs} {cc : CC} {e : Expr} {es : List Expr} {env : Env} (h : chkA xs cc (e :: es) = true) : starEach (e :: es) env = (false, eval e env) :: starEach es env ∧ ∀ pos, (backTo pos (starEach es env)).any (·.1) = false := by
  cases xs with
  | nil => simp [chkA] at h
  | cons a r =>
    unfold chkA at h
    rw [Bool.and_eq_true, Bool.and_eq_true, Bool.not_eq_true'] at h
    exact ⟨star_no h.1.1, fun pos => chkA_plain h.2⟩
/-! operations -/
theorem cMul_ok {i j : Int} (h : cMul i j = true) : CMul i j := by
  unfold cMul at h
  simp only [Bool.or_eq_true, Bool.and_eq_true, decide_eq_true_eq] at h
  exact h
theorem cDiv_ok {i j : Int} (h : cDiv i j = true) : CDiv i j := by
  unfold cDiv at h
  simp only [Bool.and_eq_true, decide_eq_true_eq] at h
  exact h
theorem cPow_ok {i j : Int} (h : cPow i j = true) : CPow i j := by
  unfold cPow at h
  simp only [Bool.and_eq_true, decide_eq_true_eq] at h
  exact ⟨h.1.1, h.1.2, h.2⟩
theorem vr_nonNone {G : Gx} {ι ξ : List Addr} {H : Hp} {v : V} {d : D} (h : VR G ι ξ H v d) (n : ∀ z : d = .non, False) : v ≠ .non := by
  cases h <;> first | exact (n rfl).elim | (intro z; cases z)
theorem sim_isN {G : Gx} {g : Bool → Bool} : SimR G (fun x y H Q => y = .non ∧ Q (.bl (g (decide (x = .non)))) H) (gIsN g) := fun W σ ι M H x y dx dy Q R rx ry h => by
  unfold gIsN at h
  split at h
  · split at h
    · refine ⟨vr_none ry, ?_⟩
      rw [vr_none rx]
      exact h _ H ι Ext.refl R (.bl _)
    · rename_i hn
      refine ⟨vr_none ry, ?_⟩
      rw [decide_eq_false (vr_nonNone rx hn)]
      exact h _ H ι Ext.refl R (.bl _)
  · exact h.elim
theorem Good.binop (g : Good Z n cc X) {o : Op2} {p : Operator} (h : opB o = some p) : ∃ r, OpR X (binaryOp p) r ∧ ∀ η, SimR (Z.G.at η) r (sem2 o) := by
  cases o <;> simp [opB] at h <;> subst h
  · exact ⟨_, op_addP g.hK, fun η => sim_add (G := Z.G.at η)⟩
  · exact ⟨_, op_sub, fun η => sim_i0 fun _ _ _ _ _ _ => .int _⟩
  · exact ⟨_, op_mul, fun η => sim_i (fun _ _ => cMul_ok) fun _ _ _ _ _ _ => .int _⟩
  · exact ⟨_, op_fdiv, fun η => sim_i (fun _ _ => cDiv_ok) fun _ _ _ _ _ _ => .int _⟩
  · exact ⟨_, op_mod, fun η => sim_i (fun _ _ => of_decide_eq_true) fun _ _ _ _ _ _ => .int _⟩
  · exact ⟨_, op_pow, fun η => sim_i (fun _ _ => cPow_ok) fun _ _ _ _ _ _ => .int _⟩
theorem Good.cmpop (g : Good Z n cc X) {o : Op2} {p : CmpOp} (h : opC o = some p) : ∃ r, OpR X (compareOp p) r ∧ ∀ η, SimR (Z.G.at η) r (sem2 o) := by
  have hu := g.units
  cases o <;> simp [opC] at h <;> subst h
  · exact ⟨_, op_lt, fun η => sim_i0 fun _ _ _ _ _ _ => .bl _⟩
  · exact ⟨_, op_le, fun η => sim_i0 fun _ _ _ _ _ _ => .bl _⟩
  · exact ⟨_, op_gt, fun η => sim_i0 fun _ _ _ _ _ _ => .bl _⟩
  · exact ⟨_, op_ge, fun η => sim_i0 fun _ _ _ _ _ _ => .bl _⟩
  · exact ⟨fun x y H Q => ∃ η, rEqP (Z.G.at η) id x y H Q, fun pins s σ H x y v u Q I a b ⟨η, q⟩ => op_eqP (by omega) pins s σ H x y v u Q I a b q, fun η W σ ι M H x y dx dy Q R rx ry h => ⟨η, sim_eq W σ ι M H x y dx dy Q R rx ry h⟩⟩
  · exact ⟨fun x y H Q => ∃ η, rEqP (Z.G.at η) not x y H Q, fun pins s σ H x y v u Q I a b ⟨η, q⟩ => op_neP (by omega) pins s σ H x y v u Q I a b q, fun η W σ ι M H x y dx dy Q R rx ry h => ⟨η, sim_eq W σ ι M H x y dx dy Q R rx ry h⟩⟩
  · exact ⟨_, op_isN, fun η => sim_isN (g := id)⟩
  · exact ⟨_, op_notN, fun η => sim_isN (g := not)⟩
  · exact ⟨fun x y H Q => ∃ η, rInA (Z.G.at η) id x y H Q, fun pins s σ H x y v u Q I a b ⟨η, q⟩ => op_inA (G := Z.G.at η) g.hP g.hw (by omega) pins s σ H x y v u Q I a b q, fun η W σ ι M H x y dx dy Q R rx ry h => ⟨η, sim_in W σ ι M H x y dx dy Q R rx ry h⟩⟩
  · exact ⟨fun x y H Q => ∃ η, rInA (Z.G.at η) not x y H Q, fun pins s σ H x y v u Q I a b ⟨η, q⟩ => op_notinA (G := Z.G.at η) g.hP g.hw (by omega) pins s σ H x y v u Q I a b q, fun η W σ ι M H x y dx dy Q R rx ry h => ⟨η, sim_in W σ ι M H x y dx dy Q R rx ry h⟩⟩
theorem sim_neg {G : Gx} : SimU G (rU fun i => .int (-i)) gNeg := fun W σ ι M H x d Q R r hh => by
  unfold gNeg at hh
  split at hh
  · exact ⟨_, vr_int r, hh _ H ι Ext.refl R (.int _)⟩
  · exact hh.elim
theorem sim_chain {G : Gx} {W : XW} {f g h : FE} {r r' : R2} {g2 g2' : F2} {ta tb tc : TE} (o : SimR G r g2) (o' : SimR G r' g2') (x : SimE G W ta f) (y : SimE G W tb g) (z : SimE G W tc h) : SimE G W (tChain r r' ta tb tc) (mChain g2 g2' f g h) := fun σ δ ι M H Q R E hh =>
  x σ δ ι M H _ R E (GR.bind hh fun v H1 ι1 M1 d e1 R1 r1 h1 => y σ δ ι1 M1 H1 _ R1 (E.ext e1) (GR.bind h1 fun u H2 ι2 M2 d2 e2 R2 r2 h2 =>
    o W σ ι2 M2 H2 v u d d2 _ R2 (r1.ext e2) r2 (GR.bind h2 fun z' H3 ι3 M3 d3 e3 R3 r3 h3 => by
      split at h3
      · rename_i bb
        refine ⟨bb, vr_bool r3, ?_⟩
        cases bb with
        | true => exact z σ δ ι3 M3 H3 _ R3 (((E.ext e1).ext e2).ext e3) (GR.bind h3 fun w' H4 ι4 M4 d4 e4 R4 r4 h4 => o' W σ ι4 M4 H4 u w' d2 d4 Q R4 (r2.ext (e3.trans e4)) r4 h4)
        | false => exact h3 _ H3 ι3 Ext.refl R3 (.bl _)
      · exact h3.elim)))
theorem sim_dct0 {G : Gx} {r : Bool} : SimE G W tDNewK (mDct0 r) := fun σ δ ι M H Q R E h => by
  intro d hd
  have s := same_upd (o := .dK []) hd
  unfold mDct0 at h
  cases r with
  | true =>
    rw [if_pos rfl] at h
    exact h (.ref d) _ (ι ++ [d]) (Ext.cell s hd) (R.cell s hd ⟨[], upd_same, .nil⟩) (.ref (by rw [← R.len]; simp))
  | false =>
    rw [if_neg Bool.false_ne_true] at h
    exact h (.ref d) _ ι (Ext.same s) (R.same s) (.dct upd_same (R.outs hd) .nil)
end
end L2

namespace L2
open PySem PySem.Spec PyProof.Rows PySem.W PySem.SeqAt
section
variable {Z : Wd} {n : Nat} {cc : CC} {X : Cx} {W : XW}
theorem Good.nob (g : Good Z n cc X) (z : Z.Ok) {x : Str} (h : x ∈ bltNames) : X.mg x = none := by rw [g.hm]; exact z.bn x h
/-! built-in functions -/
theorem Good.bif (g : Good Z n cc X) (z : Z.Ok) (hc : cc.calm = true) {b : Bif} {e : Expr} {es : List Expr} {p pos : Pos} {fa : FA} (hg : glOk cc (bname b) = true) (ha : PA X (e :: es) (kA Z.G W fa))
    (he : starEach (e :: es) X.env = (false, eval e X.env) :: starEach es X.env) (hpl : (backTo pos (starEach es X.env)).any (·.1) = false) : PE X (.Call (.Name (bname b) p) (e :: es) [] pos) (kE Z.G W (mB (semB b) fa)) := by
  have gl := (g.gl hg).1
  have hr := g.room hc
  have hcc := g.calm hc
  have hu := g.units
  cases b with
  | len => exact kE_of (pe_callB (call_lenP g.hK) gl (g.nob z (by decide)) (by decide +kernel) ha (by decide) (by decide) he hpl) fun η => sim_b (sim_len (G := Z.G.at η)) (kA_sim η)
  | all => exact kE_of (pe_callB (call_allP hcc) gl (g.nob z (by decide)) (by decide +kernel) ha (by decide) (by decide) he hpl) fun η => sim_b sim_bools (kA_sim η)
  | any => exact kE_of (pe_callB (call_anyP hcc) gl (g.nob z (by decide)) (by decide +kernel) ha (by decide) (by decide) he hpl) fun η => sim_b sim_bools (kA_sim η)
  | int => exact kE_of (pe_callTy (r := rInt) call_int1 gl (g.nob z (by decide)) (by decide +kernel) ha (by decide) (by decide) he hpl) fun η => sim_b sim_int (kA_sim η)
  | min => exact kE_of (pe_callB (call_minP hcc) gl (g.nob z (by decide)) (by decide +kernel) ha (by decide) (by decide) he hpl) fun η => sim_b sim_i2 (kA_sim η)
  | max => exact kE_of (pe_callB (call_maxP hcc) gl (g.nob z (by decide)) (by decide +kernel) ha (by decide) (by decide) he hpl) fun η => sim_b sim_i2 (kA_sim η)
  | list r => cases r <;> exact kE_of (pe_callTy (call_listP g.hK) gl (g.nob z (by decide)) (by decide +kernel) ha (by decide) (by decide) he hpl) fun η => sim_b (sim_list (G := Z.G.at η)) (kA_sim η)
  | tuple => exact kE_of (pe_callTy (call_tupleP g.hK) gl (g.nob z (by decide)) (by decide +kernel) ha (by decide) (by decide) he hpl) fun η => sim_b (sim_tuple (G := Z.G.at η)) (kA_sim η)
  | repr =>
    refine kE_of (pe_callB (r := fun vs H Q => ∃ η, rRepr (Z.G.at η) vs H Q) (fun pins s σ H xs us Q I r ⟨η, h⟩ => call_reprP hr.gd (by omega) pins s σ H xs us Q I r h) gl (g.nob z (by decide)) (by decide +kernel) ha (by decide) (by decide) he hpl) fun η => ?_
    exact sim_b (fun W σ ι M H vs ds Q R r h => ⟨η, sim_repr W σ ι M H vs ds Q R r h⟩) (kA_sim η)
/-! isinstance -/
theorem boot_ty {T : String} (h : T ∈ tysI) : bootBuiltins (Str.ofString T) = some (.type T) ∧ Str.ofString T ∈ bltNames ∧ (Str.ofString T ≠ "__name__") ∧ ((Str.ofString T == ("__debug__" : Str)) = false) := by
  simp only [tysI, List.mem_cons, List.not_mem_nil, or_false] at h
  rcases h with rfl | rfl | rfl | rfl | rfl | rfl <;> exact ⟨by decide +kernel, by decide, by decide, by decide⟩
def excT : List String := ["ValueError", "KeyError", "IndexError", "RuntimeError", "OverflowError"]
theorem boot_ex {T : String} (h : T ∈ excT) : bootBuiltins (Str.ofString T) = some (.type T) ∧ Str.ofString T ∈ bltNames ∧ (Str.ofString T ≠ "__name__") ∧ ((Str.ofString T == ("__debug__" : Str)) = false) := by
  simp only [excT, List.mem_cons, List.not_mem_nil, or_false] at h
  rcases h with rfl | rfl | rfl | rfl | rfl <;> exact ⟨by decide +kernel, by decide, by decide, by decide⟩
theorem kit_ex {K : Frag} {T t : String} (hT : T ∈ excT) (ht : t ∈ tys) : kitOne K (.type t) (.type T) = some false := by
  simp only [tys, excT, List.mem_cons, List.not_mem_nil, or_false] at hT ht
  rcases hT with rfl | rfl | rfl | rfl | rfl <;> rcases ht with rfl | rfl | rfl | rfl | rfl | rfl | rfl <;> rfl
theorem star2 {l r : Expr} {env : Env} (h : isStar l = false) (h2 : isStar r = false) : starEach [l, r] env = (false, eval l env) :: starEach [r] env ∧ ∀ pos, (backTo pos (starEach [r] env)).any (·.1) = false :=
  ⟨star_no h, fun pos => by rw [star_no h2]; rfl⟩
theorem Good.isT (g : Good Z n cc X) (z : Z.Ok) {T : String} {l : Expr} {p q pos : Pos} {f : FE} (hT : T ∈ tysI) (h1 : glOk cc "isinstance" = true) (h2 : glOk cc (Str.ofString T) = true) (hs : isStar l = false) (hl : PE X l (kE Z.G W f)) :
    PE X (.Call (.Name "isinstance" p) [l, .Name (Str.ofString T) q] [] pos) (kE Z.G W (mUn (gIsT T) f)) := by
  obtain ⟨b1, b2, b3, b4⟩ := boot_ty hT
  have ha : PA X [l, .Name (Str.ofString T) q] (tCons (kE Z.G W f) (tCons (tC (.ty T)) tNil)) := pa_cons hl (pa_cons (pe_bltn (v := .ty T) (g.gl h2).1 (g.nob z b2) b1 rfl b3 b4) pa_nil rfl) (star_no hs)
  exact kE_of (pe_callB (call_isiP g.hK) (g.gl h1).1 (g.nob z (by decide)) (by decide +kernel) ha (by decide) (by decide) (star2 hs rfl).1 ((star2 hs rfl).2 _)) fun η => sim_isT (G := Z.G.at η) hT (kE_sim η)
theorem Good.isT2 (g : Good Z n cc X) (z : Z.Ok) {T T' : String} {l : Expr} {p q q' pos : Pos} {k : Nat} {pt : Pos} {f : FE} (hT : T ∈ tysI) (hT' : T' ∈ tysI) (h1 : glOk cc "isinstance" = true) (h2 : glOk cc (Str.ofString T) = true) (h3 : glOk cc (Str.ofString T') = true) (hs : isStar l = false) (hl : PE X l (kE Z.G W f)) :
    PE X (.Call (.Name "isinstance" p) [l, .Tuple [.Name (Str.ofString T) q, .Name (Str.ofString T') q'] k pt] [] pos) (kE Z.G W (mUn (gIsT2 T T') f)) := by
  obtain ⟨b1, b2, b3, b4⟩ := boot_ty hT
  obtain ⟨c1, c2, c3, c4⟩ := boot_ty hT'
  have ht : PE X (.Tuple [.Name (Str.ofString T) q, .Name (Str.ofString T') q'] k pt) (tTupS (tCons (tC (.ty T)) (tCons (tC (.ty T')) tNil))) :=
    pe_tupS (pa_cons (pe_bltn (v := .ty T) (g.gl h2).1 (g.nob z b2) b1 rfl b3 b4) (pa_cons (pe_bltn (v := .ty T') (g.gl h3).1 (g.nob z c2) c1 rfl c3 c4) pa_nil rfl) rfl)
  have ha := pa_cons hl (pa_cons ht pa_nil rfl) (star_no hs)
  exact kE_of (pe_callB (call_isi2P g.hK) (g.gl h1).1 (g.nob z (by decide)) (by decide +kernel) ha (by decide) (by decide) (star2 hs rfl).1 ((star2 hs rfl).2 _)) fun η => sim_isT2 (G := Z.G.at η) hT hT' (kE_sim η)
theorem Good.isC (g : Good Z n cc X) (z : Z.Ok) {c : Str} {fs : List Str} {l : Expr} {p q pos : Pos} {f : FE} (hc : Z.Pg.ic c = some fs) (h1 : glOk cc "isinstance" = true) (h2 : glOk cc c = true) (hs : isStar l = false) (hl : PE X l (kE Z.G W f)) :
    PE X (.Call (.Name "isinstance" p) [l, .Name c q] [] pos) (kE Z.G W (mUn (gIsC c) f)) := by
  have ok := z.ic c fs hc
  have ha : PA X [l, .Name c q] (tCons (kE Z.G W f) (tCons (tC (.ref (Z.G.cls c))) tNil)) := pa_cons hl (pa_cons (pe_glob (v := .ref (Z.G.cls c)) (g.gl h2).1 (by rw [g.hm]; exact ok.mg) rfl (g.gl h2).2) pa_nil rfl) (star_no hs)
  exact kE_of (pe_callB (call_isiP g.hK) (g.gl h1).1 (g.nob z (by decide)) (by decide +kernel) ha (by decide) (by decide) (star2 hs rfl).1 ((star2 hs rfl).2 _)) fun η => sim_isC (G := Z.G.at η) ok.cl (kE_sim η)
/-- isinstance of an exception or of something else, and one of Python's own exceptions -/
def rIsB (K : Frag) : List V → Hp → VK → Prop := fun vs H Q => rIsi K vs H Q ∨ ∃ r x C bm nid fs c cv b, vs = [.ref x, c] ∧ RelV c cv ∧ IsX r H x C fs ∧ XCls K C bm nid ∧ kitOne K (.ref C) cv = some b ∧ Q (.bl b) H
theorem Good.isB (g : Good Z n cc X) (z : Z.Ok) {T : String} {bs : List Str} {l : Expr} {p q pos : Pos} {f : FE} (hb : Z.Pg.ub T = some bs) (h1 : glOk cc "isinstance" = true) (h2 : glOk cc (Str.ofString T) = true) (hs : isStar l = false) (hl : PE X l (kE Z.G W f)) :
    PE X (.Call (.Name "isinstance" p) [l, .Name (Str.ofString T) q] [] pos) (kE Z.G W (mUn (gIsB (fun c => (Z.Pg.xf c).isSome) bs) f)) := by
  obtain ⟨hT, hub⟩ := z.ub T bs hb
  obtain ⟨b1, b2, b3, b4⟩ := boot_ex hT
  have ha : PA X [l, .Name (Str.ofString T) q] (tCons (kE Z.G W f) (tCons (tC (.ty T)) tNil)) := pa_cons hl (pa_cons (pe_bltn (v := .ty T) (g.gl h2).1 (g.nob z b2) b1 rfl b3 b4) pa_nil rfl) (star_no hs)
  have hr : CallR X (.builtin "isinstance") (rIsB Z.G.K) := by
    have hK := g.hK
    have := (call_isi (X := X)).or (call_isX (X := X) (by rw [hK]; exact z.spn) (by rw [hK]; exact z.tak))
    rw [hK] at this
    exact this
  refine kE_of (pe_callB hr (g.gl h1).1 (g.nob z (by decide)) (by decide +kernel) ha (by decide) (by decide) (star2 hs rfl).1 ((star2 hs rfl).2 _)) fun η => ?_
  intro σ δ ι M H Q R E h
  refine kE_sim η σ δ ι M H _ R E (GR.bind h fun v H1 ι1 M1 d e1 R1 r1 h1 => ?_)
  unfold gIsB at h1
  split at h1
  · rename_i c fs
    split at h1
    · rename_i hk
      obtain ⟨ns, hn⟩ := Option.isSome_iff_exists.mp hk
      obtain ⟨a, vs, rfl, hx, _⟩ := vr_isX r1
      obtain ⟨bm, Bn, nid, inN, bmN, mk, _⟩ := (z.xc c ns hn).ex
      exact .inr ⟨false, a, _, bm, nid, vs, .ty T, .type T, _, rfl, rfl, hx, mk.c, hub c ns hn, h1 _ H1 ι1 Ext.refl R1 (.bl _)⟩
    · exact h1.elim
  · split at h1
    · rename_i e
      exact .inl ⟨v, .ty T, .type T, _, _, rfl, fun _ h => h, vr_ty (G := Z.G.at η) R1 r1 e, kit_ex hT (tyD_mem e), h1 _ H1 ι1 Ext.refl R1 (.bl _)⟩
    · exact h1.elim
/-! own defs -/
theorem sim_call {G : Gx} {η : List Addr} {f : FN} {t : TA} {fa : FA} {dvs : List V} {dv : List D} (hd : ∀ ι ξ H, VRs G ι ξ H dvs dv) (a : SimA (G.at η) W t fa) : SimE (G.at η) W (tCallX (spM G f) dvs W t) (mB (fun ds M => f (ds ++ dv) M) fa) := fun σ δ ι M H Q R er h =>
  a σ δ ι M H _ R er (GR.bind h fun vs H1 ι1 M1 ds e1 R1 r1 h1 => by
    refine ⟨η, ι1, M1, ds ++ dv, R1, r1.append ((hd _ _ _).at η), ?_⟩
    simp only at h1
    cases e : f (ds ++ dv) M1 with
    | none => rw [e] at h1; exact h1
    | some o =>
      rw [e] at h1
      cases o with
      | ok d M2 => exact h1
      | ex c fs M2 => exact fun x H' ι' e' R' xr y hy => by cases hy; exact h1 x H' ι' e' R' xr)
theorem Good.callF (g : Good Z n cc X) (hc : cc.calm = true) (hw : Xw X W) {x : Str} {e : Expr} {es : List Expr} {p pos : Pos} {fa : FA} (hg : glOk cc x = true) (ha : PA X (e :: es) (kA Z.G W fa))
    (he : starEach (e :: es) X.env = (false, eval e X.env) :: starEach es X.env) (hpl : (backTo pos (starEach es X.env)).any (·.1) = false) : PE X (.Call (.Name x p) (e :: es) [] pos) (kE Z.G W (mCallF (Z.Pg.env n) x fa)) := by
  cases q : Z.Pg.defs x with
  | none =>
    have : mCallF (Z.Pg.env n) x fa = eNo := by unfold mCallF; rw [if_neg]; simp [q]
    rw [this]
    exact kE_of pe_never fun η => sim_no
  | some md =>
    obtain ⟨fd, dvs, ds, F, h2, h3, h4, h5, h6, _⟩ := g.call x md q
    have F' : FnOk X.prog X.w X.K X.mg X.base (CX1 X.prog X.w) (n + 4) (Z.G.fn x) fd md.ps (spM Z.G (runB Z.Pg md n)) := by rw [g.hP, g.hw, g.hK, g.hm, g.hb]; exact F
    refine kE_of (pe_callX F' (g.room hc) (g.gl hg).1 (by rw [g.hm]; exact h2) (by rw [g.hK]; exact h3) (by rw [g.hK]; exact h4) h5 hw ha (g.gl hg).2 he hpl) fun η => ?_
    have e1 : run1 Z.Pg n x = fun ds M => runB Z.Pg md n (ds ++ md.dv) M := by funext ds M; exact run1_some q n ds M
    have e2 : mCallF (Z.Pg.env n) x fa = mB (run1 Z.Pg n x) fa := by unfold mCallF; rw [if_pos]; simp [q]
    rw [e2, e1]
    exact sim_call h6 (kA_sim η)
/-- v(e, ..), v a name that holds a def -/
theorem Good.callV (g : Good Z n cc X) (hc : cc.calm = true) (hw : Xw X W) {i : Nat} {x : Str} {e : Expr} {es : List Expr} {p pos : Pos} {fa : FA} (h1 : slotOk cc i x = true) (h2 : visOk cc.sc x = true) (h3 : nmOk x = true) (ha : PA X (e :: es) (kA Z.G W fa))
    (he : starEach (e :: es) X.env = (false, eval e X.env) :: starEach es X.env) (hpl : (backTo pos (starEach es X.env)).any (·.1) = false) : PE X (.Call (.Name x p) (e :: es) [] pos) (kE Z.G W (mCallV (Z.Pg.env n) (mVar i) fa)) := by
  intro pins s σ H Q I h
  obtain ⟨η, δ, ι, M, R, E, h⟩ := h
  unfold mCallV mVar at h
  cases e1 : δ[i]? with
  | none => rw [e1] at h; exact h.elim
  | some o => cases o with
    | none => rw [e1] at h; exact h.elim
    | some d =>
      rw [e1] at h
      simp only [rb_ok] at h
      split at h
      · rename_i y
        split at h
        · rename_i hk
          obtain ⟨md, q⟩ := Option.isSome_iff_exists.mp hk
          obtain ⟨v, hv, rv⟩ := E.2 i _ e1
          have ev : v = .ref (Z.G.fn y) := by cases rv; rfl
          subst ev
          obtain ⟨fd, dvs, ds, F, c2, c3, c4, c5, c6, _⟩ := g.call y md q
          have F' : FnOk X.prog X.w X.K X.mg X.base (CX1 X.prog X.w) (n + 4) (Z.G.fn y) fd md.ps (spM Z.G (runB Z.Pg md n)) := by rw [g.hP, g.hw, g.hK, g.hm, g.hb]; exact F
          have hkp : keepIn X.K (.ref (Z.G.fn y)) = true := by rw [g.hK]; exact c3
          refine wpAny_Call_Name_kw (thn (pe_v (pos := p) g h1 h2 h3 pins s σ H (fun v' H' => v' = .ref (Z.G.fn y) ∧ H' = H) I ⟨_, hv, rfl, rfl⟩) fun u s1 ⟨v', H', I1, r1, e2, e3⟩ => ?_)
          subst e2
          subst e3
          obtain rfl : u = Value.ref (Z.G.fn y) := r1
          have e4 : run1 Z.Pg n y = fun ds M => runB Z.Pg md n (ds ++ md.dv) M := by funext ds M; exact run1_some q n ds M
          rw [e4] at h
          have hq := sim_call (f := runB Z.Pg md n) c6 (kA_sim (G := Z.G) (W := W) (f := fa) η) σ δ ι M H' Q R E h
          refine PySem.W.callWith_K (h₀ := X.base) I1.ok.mod.kin hkp (thn (ha pos pins s1 σ H' _ I1 hq) fun us s2 ⟨vs, H1, I2, r, q2⟩ => ⟨I2.kIn, ?_⟩) he hpl
          exact run_fnX F' (g.room hc) (by rw [g.hK]; exact c4) c5 hw I2 r q2
        · exact h.elim
      · exact h.elim
/-! comprehensions -/
theorem nodupB_ok : ∀ {l : List Str}, nodupB l = true → l.Nodup
  | [], _ => List.nodup_nil
  | x :: xs, h => by
    unfold nodupB at h
    rw [Bool.and_eq_true, Bool.not_eq_true'] at h
    exact List.nodup_cons.mpr ⟨fun z => by simp [z] at h, nodupB_ok h.2⟩
theorem Good.blk (g : Good Z n cc X) (hc : cc.calm = true) {vars caps : List Str} {sc : Scope} {ix : List Nat} (hk : chkC vars caps ix cc sc = true) (cl : List (Str × Addr)) (C : Addr) (fp : List Addr) (s : Shared) (H : Hp) :
    Good Z n ⟨vars ++ caps, relab sc cc.sc, true, false⟩ (L2.blk X sc (vars ++ caps) cl C fp s H) := by
  unfold chkC at hk
  simp only [Bool.and_eq_true] at hk
  refine ⟨g.hK, g.hP, g.hw, g.hm, g.hb, rfl, ?_, nodupB_ok hk.2, fun _ => g.calm hc, fun _ => g.room hc, g.units, fun z => (nomatch z), PassesOwn.never, fun z => (nomatch z), fun z => (nomatch z), g.call⟩
  show relabel sc X.env = relab sc cc.sc
  unfold relabel relab
  have : ∀ x, X.env.kindOf x = cc.sc.names.lookup x := fun x => by show X.env.scope.names.lookup x = _; rw [g.hs]
  simp only [this, g.hs]
theorem xw_false {X : Cx} : Xw X WF := fun _ _ _ _ _ _ _ h => h.elim
theorem set_no {e : Expr} {env : Env} (h : isSetE e = false) : ∀ x, foldedSetIterable e env x = pure x := fun x => by
  cases e <;> first | rfl | (simp [isSetE] at h)
theorem Good.comp (g : Good Z n cc X) (hc : cc.calm = true) {r : Bool} {vars caps : List Str} {sc : Scope} {ix : List Nat} {elt t iter : Expr} {ifs : List Expr} {pos : Pos} {fi : FI} {fg : FG} {ft : FT} {fe : FE} (hk : chkC vars caps ix cc sc = true) (hset : isSetE iter = false)
    (hi : PI X t iter (kI Z.G W fi)) (hg : ∀ Y, Good Z n ⟨vars ++ caps, relab sc cc.sc, true, false⟩ Y → PG Y t (kG Z.G fg)) (ht : ∀ Y, Good Z n ⟨vars ++ caps, relab sc cc.sc, true, false⟩ Y → PTs Y ifs (kT Z.G WF ft)) (he : ∀ Y, Good Z n ⟨vars ++ caps, relab sc cc.sc, true, false⟩ Y → PE Y elt (kE Z.G WF fe)) :
    PE X (.ListComp elt [⟨t, iter, ifs, 0⟩] sc pos) (kE Z.G W (mComp r fi fg ft fe vars.length ix)) := by
  have hk' := hk
  unfold chkC at hk'
  simp only [Bool.and_eq_true] at hk'
  refine kE_of (pe_compW caps (by rw [g.hN]; exact eq_of_beq hk'.1.1.1) (by rw [g.hN]; exact hk'.1.1.2) (by rw [g.hs]; exact hk'.1.2) (nodupB_ok hk'.2) (g.calm hc) hi (fun cl C fp s H => hg _ (g.blk hc hk cl C fp s H)) (fun cl C fp s H => ht _ (g.blk hc hk cl C fp s H)) (fun cl C fp s H => he _ (g.blk hc hk cl C fp s H)) (set_no hset)) fun η => ?_
  exact sim_comp (G := Z.G.at η) (kI_sim η) (fun ζ => kG_sim (ζ ++ η)) (fun ζ => kT_sim (ζ ++ η)) (fun ζ => kE_sim (ζ ++ η))
def gNoT : TG := fun _ _ _ _ => False
def tNoT : TT := fun _ _ _ => False
theorem Good.dcompX (g : Good Z n cc X) (hc : cc.calm = true) {vars caps : List Str} {sc : Scope} {ix : List Nat} {kx vx t iter : Expr} {ifs : List Expr} {pos : Pos} {fi : FI} (hk : chkC vars caps ix cc sc = true) (hset : isSetE iter = false)
    (hi : PI X t iter (kI Z.G W fi)) : PE X (.DictComp kx vx [⟨t, iter, ifs, 0⟩] sc pos) (kE Z.G W (mDcompX fi)) := by
  have hk' := hk
  unfold chkC at hk'
  simp only [Bool.and_eq_true] at hk'
  refine kE_of (pe_dcompW (g := gNoT) (tc := tNoT) (tk := eNever) (tv := eNever) caps (by rw [g.hN]; exact eq_of_beq hk'.1.1.1) (by rw [g.hN]; exact hk'.1.1.2) (by rw [g.hs]; exact hk'.1.2) (nodupB_ok hk'.2) (g.calm hc) hi (fun cl C fp s H => fun _ _ _ _ _ _ _ _ _ h => h.elim) (fun cl C fp s H => fun _ _ _ _ _ _ h => h.elim) (fun cl C fp s H => pe_never) (fun cl C fp s H => pe_never) (set_no hset)) fun η => ?_
  intro σ δ ι M H Q R E h
  refine kI_sim η σ δ ι M H _ R E (GI.bindR h fun J H1 ι1 M1 it e1 R1 sr jr h1 => h1.elim)
/-! methods -/
theorem base_no {o : Expr} {m : Str} {env : Env} (h : isCall0 o = false) : attributeBase o m env (eval o env) = eval o env := by
  unfold attributeBase
  split
  · simp [isCall0] at h
  · rfl
end
end L2

namespace L2
open PySem PySem.Spec PyProof.Rows PySem.W PySem.SeqAt
section
variable {Z : Wd} {n : Nat}
theorem sim_andL {G : Gx} {W : XW} {f g : FE} {ta tb : TE} (a : SimE G W ta f) (b : SimE G W tb g) : SimE G W (tAndV ta tb) (mAndL true f g) := by
  unfold mAndL; rw [if_pos rfl]; exact sim_andV a b
theorem sim_orL {G : Gx} {W : XW} {f g : FE} {ta tb : TE} (a : SimE G W ta f) (b : SimE G W tb g) : SimE G W (tOrV ta tb) (mAndL false f g) := by
  unfold mAndL; rw [if_neg Bool.false_ne_true]; exact sim_orV a b
theorem sim_andT {G : Gx} {W : XW} {f g : FT} {ta tb : TT} (a : SimT G W ta f) (b : SimT G W tb g) : SimT G W (tAnd ta tb) (mAndT true f g) := by
  unfold mAndT; rw [if_pos rfl]; exact sim_and a b
theorem sim_orT {G : Gx} {W : XW} {f g : FT} {ta tb : TT} (a : SimT G W ta f) (b : SimT G W tb g) : SimT G W (tOr ta tb) (mAndT false f g) := by
  unfold mAndT; rw [if_neg Bool.false_ne_true]; exact sim_or a b
theorem plainT_ok {e : Expr} {env : Env} (h : plainT e = true) : ∀ whole, isTrue e env whole = (do let v ← whole; standAt e.pos; holding [v] (truthy v)) := fun whole => by
  cases e with
  | UnaryOp op x p => cases op <;> first | rfl | (simp [plainT] at h; done)
  | _ => first | rfl | (simp [plainT] at h; done)
theorem plainIx_ok {b : Expr} (h : isSlice b = false) : PlainIx b := fun o i => by
  cases b <;> first | rfl | (simp [isSlice] at h)
theorem kE_no {X : Cx} {W : XW} {e : Expr} : PE X e (kE Z.G W eNo) := kE_of pe_never fun η => sim_no
theorem gs_len {gs : MGs} {cc : CC} {es : List Expr} {env : Env} (h : chkGs gs cc es = true) : (assignEach es env).length = lenG gs ∧ (assignEach es env).findIdx? (·.1) = none := by
  induction es generalizing gs with
  | nil =>
    cases gs with
    | nil => exact ⟨rfl, rfl⟩
    | cons g r => simp [chkGs] at h
  | cons e es ih =>
    cases gs with
    | nil => simp [chkGs] at h
    | cons g r =>
      unfold chkGs at h
      rw [Bool.and_eq_true, Bool.and_eq_true, Bool.not_eq_true'] at h
      obtain ⟨i1, i2⟩ := ih h.2
      have e1 : assignEach (e :: es) env = (false, assign e env) :: assignEach es env := by
        have := h.1.1
        cases e <;> first | rfl | (simp [isStar] at this)
      rw [e1]
      exact ⟨by simp [lenG, i1], by simp [List.findIdx?_cons, i2]⟩
theorem assign_no {e : Expr} {es : List Expr} {env : Env} (h : isStar e = false) : (assignEach (e :: es) env).map (·.2) = assign e env :: (assignEach es env).map (·.2) := by
  cases e <;> first | rfl | (simp [isStar] at h)
theorem xs_cons {xs : MXs} {cc : CC} {es : List Expr} (h : (match es with | [] => false | _ :: _ => true) = true) : ∃ e r, es = e :: r := by
  cases es with
  | nil => cases h
  | cons e r => exact ⟨e, r, rfl⟩
theorem pe_fldK {X : Cx} {K : Frag} {e : Expr} {f : Str} {pos : Pos} {ta : TE} (hK : X.K = K) (he : PE X e ta) (hb : attributeBase e f X.env (eval e X.env) = eval e X.env) : PE X (.Attribute e f pos) (tFld K ta f) := hK ▸ pe_fld he hb
theorem pe_xfldK {X : Cx} {K : Frag} {e : Expr} {f : Str} {pos : Pos} {ta : TE} (hK : X.K = K) (he : PE X e ta) (hb : attributeBase e f X.env (eval e X.env) = eval e X.env) : PE X (.Attribute e f pos) (tXFld K ta f) := hK ▸ pe_xfld he hb
theorem few1 {r : Expr} {env : Env} {pos : Pos} (h : isStar r = false) : ((backTo pos (starEach [r] env)).all (fun x => !x.1) && (backToKw pos (keywordEach [] env)).all (fun x => x.1.isSome)
      && decide ([r].length + ([] : List Keyword).length + (if ([] : List Keyword).isEmpty then 0 else 1) < 30)) = true := by rw [star_no h]; rfl
theorem pe_saddK {X : Cx} {P : Program} {w : World} {o e : Expr} {to : TE} {t : TA} {apos cpos : Pos} (hP : X.prog = P) (hw : X.w = w) (ho : PE X o to) (ha : PA X [e] t) (h1 : isCall0 o = false) (h2 : (apos.endLine == cpos.line) = true) (h4 : isStar e = false) :
    PE X (.Call (.Attribute o "add" apos) [e] [] cpos) (tSAdd P w to t) := hP ▸ hw ▸ pe_sadd ho ha (base_no h1) (few1 h4) h2 (star_no h4)
theorem pe_appK {X : Cx} {K : Frag} {o e : Expr} {to : TE} {t : TA} {apos cpos : Pos} (hK : X.K = K) (ho : PE X o to) (ha : PA X [e] t) (h1 : isCall0 o = false) (h2 : (apos.endLine == cpos.line) = true) (h4 : isStar e = false) :
    PE X (.Call (.Attribute o "append" apos) [e] [] cpos) (tBM K "list" rAppend to t) := hK ▸ pe_bm PySem.F.plainAttrs_list PySem.F.slot_list_append PySem.F.type_list_append mt_append ho ha (base_no h1) (few1 h4) h2 (star_no h4) rfl
theorem pe_popK {X : Cx} {K : Frag} {o : Expr} {to : TE} {apos cpos : Pos} (hK : X.K = K) (ho : PE X o to) (h1 : isCall0 o = false) (h2 : (apos.endLine == cpos.line) = true) :
    PE X (.Call (.Attribute o "pop" apos) [] [] cpos) (tBM0 K "list" rPop to) := hK ▸ pe_bm0 PySem.F.plainAttrs_list PySem.F.slot_list_pop PySem.F.type_list_pop mt_pop ho (base_no h1) h2
theorem chkA_two {xs : MXs} {cc : CC} {a b : Expr} {env : Env} (h : chkA xs cc [a, b] = true) : starEach [b] env = [(false, eval b env)] := by
  cases xs with
  | nil => simp [chkA] at h
  | cons x r =>
    unfold chkA at h
    rw [Bool.and_eq_true] at h
    exact (chkA_head h.2).1
mutual
theorem sE (z : Z.Ok) : ∀ (m : MX) {cc : CC} {e : Expr} {X : Cx} {W : XW}, Good Z n cc X → Xw X W → chkE m cc e = true → PE X e (kE Z.G W (evE (Z.Pg.env n) m))
  | .v i x, cc, e, X, W, g, hw, h => by
    unfold chkE at h
    split at h
    · simp only [Bool.and_eq_true] at h
      obtain rfl := eq_of_beq h.1.1.1
      exact kE_of (pe_v g h.1.1.2 h.1.2 h.2) fun η => sim_var i
    · cases h
  | .non, cc, e, X, W, g, hw, h => by
    unfold chkE at h
    split at h
    · exact kE_of pe_non fun η => sim_c fun _ _ => .non
    · cases h
  | .bl b, cc, e, X, W, g, hw, h => by
    unfold chkE at h
    split at h
    · obtain rfl := eq_of_beq h
      exact kE_of pe_bl fun η => sim_c fun _ _ => .bl _
    · cases h
  | .int b, cc, e, X, W, g, hw, h => by
    unfold chkE at h
    split at h
    · obtain rfl := eq_of_beq h
      exact kE_of pe_int fun η => sim_c fun _ _ => .int _
    · cases h
  | .str b, cc, e, X, W, g, hw, h => by
    unfold chkE at h
    split at h
    · obtain rfl := eq_of_beq h
      exact kE_of pe_str fun η => sim_c fun _ _ => .str _
    · cases h
  | .g x, cc, e, X, W, g, hw, h => by
    unfold chkE at h
    split at h
    · rename_i y pos
      simp only [Bool.and_eq_true] at h
      obtain rfl := eq_of_beq h.1
      show PE X _ (kE Z.G W (mGlob (Z.Pg.env n) y))
      cases q : Z.Pg.gl y with
      | none =>
        have : mGlob (Z.Pg.env n) y = eNo := by funext δ M; unfold mGlob; simp only [q]; rfl
        rw [this]; exact kE_no
      | some d =>
        have : mGlob (Z.Pg.env n) y = mC d := by funext δ M; unfold mGlob; simp only [q]; rfl
        rw [this]
        obtain ⟨v, u, h1, h2, h3⟩ := z.gl y d q
        exact kE_of (pe_glob (g.gl h.2).1 (by rw [g.hm]; exact h1) h2 (g.gl h.2).2) fun η => sim_c fun ι H => (h3 ι _ H).at η
    · cases h
  | .bin o a b, cc, e, X, W, g, hw, h => by
    unfold chkE at h
    split at h
    · simp only [Bool.and_eq_true, beq_iff_eq] at h
      obtain ⟨r, h1, h2⟩ := g.binop h.1.1
      exact kE_of (pe_op h1 (sE z a g hw h.1.2) (sE z b g hw h.2)) fun η => sim_op (h2 η) (kE_sim η) (kE_sim η)
    · cases h
  | .cmp o a b, cc, e, X, W, g, hw, h => by
    unfold chkE at h
    split at h
    · simp only [Bool.and_eq_true, Bool.not_eq_true'] at h
      obtain ⟨r, h1, h2⟩ := g.cmpop (eq_of_beq h.1.1.1)
      exact kE_of (pe_cmpR h1 (sE z a g hw h.1.2) (sE z b g hw h.2) h.1.1.2) fun η => sim_op (h2 η) (kE_sim η) (kE_sim η)
    · cases h
  | .chain o o' a b c, cc, e, X, W, g, hw, h => by
    unfold chkE at h
    split at h
    · simp only [Bool.and_eq_true, Bool.not_eq_true'] at h
      obtain ⟨r, h1, h2⟩ := g.cmpop (eq_of_beq h.1.1.1.1.1)
      obtain ⟨r', h1', h2'⟩ := g.cmpop (eq_of_beq h.1.1.1.1.2)
      exact kE_of (pe_chain h1 h1' (sE z a g hw h.1.1.2) (sE z b g hw h.1.2) (sE z c g hw h.2) h.1.1.1.2) fun η => sim_chain (h2 η) (h2' η) (kE_sim η) (kE_sim η) (kE_sim η)
    · cases h
  | .neg a, cc, e, X, W, g, hw, h => by
    unfold chkE at h
    split at h
    · exact kE_of (pe_un un_neg (sE z a g hw h)) fun η => sim_un sim_neg (kE_sim η)
    · cases h
  | .bool k xs, cc, e, X, W, g, hw, h => by
    unfold chkE at h
    split at h
    · rw [Bool.and_eq_true] at h
      obtain rfl := h.1
      exact sBa z xs g hw h.2
    · rw [Bool.and_eq_true, Bool.not_eq_true'] at h
      obtain rfl := h.1
      exact sBo z xs g hw h.2
    · cases h
  | .not a, cc, e, X, W, g, hw, h => by
    unfold chkE at h
    split at h
    · exact kE_of (pe_not (sE z a g hw h)) fun η => sim_notV (kE_sim η)
    · cases h
  | .ife t a b, cc, e, X, W, g, hw, h => by
    unfold chkE at h
    split at h
    · simp only [Bool.and_eq_true] at h
      exact kE_of (pe_ifExp (sT z t g hw h.1.1) (sE z a g hw h.1.2) (sE z b g hw h.2)) fun η => sim_if (kT_sim η) (kE_sim η) (kE_sim η)
    · cases h
  | .tup xs, cc, e, X, W, g, hw, h => by
    unfold chkE at h
    split at h
    · exact kE_of (pe_tupS (sA z xs g hw h)) fun η => sim_tupS (kA_sim η)
    · cases h
  | .lst r xs, cc, e, X, W, g, hw, h => by
    unfold chkE at h
    split at h
    · exact kE_of (pe_lstS (sA z xs g hw h)) fun η => sim_lstS (kA_sim η)
    · cases h
  | .dct0 r, cc, e, X, W, g, hw, h => by
    unfold chkE at h
    split at h
    · exact kE_of pe_dnewK fun η => sim_dct0
    · cases h
  | .ix a b, cc, e, X, W, g, hw, h => by
    unfold chkE at h
    split at h
    · simp only [Bool.and_eq_true, Bool.not_eq_true'] at h
      have hu := g.units
      exact kE_of (pe_ix (ix_P g.hK (by omega)) (sE z a g hw h.1.2) (sE z b g hw h.2) (plainIx_ok h.1.1)) fun η => sim_op (sim_ix (G := Z.G.at η)) (kE_sim η) (kE_sim η)
    · cases h
  | .sl r a lo hi, cc, e, X, W, g, hw, h => by
    unfold chkE at h
    split at h
    · simp only [Bool.and_eq_true] at h
      exact kE_of (pe_slice (sl_P g.hK) (sE z a g hw h.1.1) (sO z lo g hw h.1.2) (sO z hi g hw h.2)) fun η => sim_sl (G := Z.G.at η) (kE_sim η) (kO_sim η) (kO_sim η)
    · cases h
  | .fld c f a, cc, e, X, W, g, hw, h => by
    unfold chkE at h
    split at h
    · simp only [Bool.and_eq_true, Bool.not_eq_true'] at h
      obtain rfl := eq_of_beq h.1.1
      show PE X _ (kE Z.G W (mFldC (Z.Pg.env n) c _ _))
      unfold mFldC
      simp only
      split
      · rename_i fs q
        split
        · rename_i hf
          have ok := z.ic c fs q
          exact kE_of (pe_fldK g.hK (sE z a g hw h.2) (base_no h.1.2)) fun η => sim_fld (G := Z.G.at η) ok.cl.cl (ok.na _ (by simpa using hf)) (kE_sim η)
        · exact kE_no
      · exact kE_no
    · cases h
  | .xfld c f a, cc, e, X, W, g, hw, h => by
    unfold chkE at h
    split at h
    · simp only [Bool.and_eq_true, Bool.not_eq_true'] at h
      obtain rfl := eq_of_beq h.1.1
      show PE X _ (kE Z.G W (mXFldC (Z.Pg.env n) c _ _))
      unfold mXFldC
      simp only
      split
      · rename_i fs q
        split
        · rename_i hf
          have ok := z.xc c fs q
          obtain ⟨bm, Bn, nid, inN, bmN, mk, _⟩ := ok.ex
          exact kE_of (pe_xfldK g.hK (sE z a g hw h.2) (base_no h.1.2)) fun η => sim_xfld (G := Z.G.at η) mk.c (ok.na _ (by simpa using hf)) (kE_sim η)
        · exact kE_no
      · exact kE_no
    · cases h
  | .bif b xs, cc, e, X, W, g, hw, h => by
    unfold chkE at h
    split at h
    · simp only [Bool.and_eq_true] at h
      obtain rfl := eq_of_beq h.1.1.1.2
      obtain ⟨e1, r1, rfl⟩ := xs_cons (xs := xs) (cc := cc) h.1.2
      obtain ⟨q1, q2⟩ := chkA_head (env := X.env) h.2
      exact g.bif z h.1.1.1.1 h.1.1.2 (sA z xs g hw h.2) q1 (q2 _)
    · cases h
  | .isT T a, cc, e, X, W, g, hw, h => by
    unfold chkE at h
    split at h
    · simp only [Bool.and_eq_true, Bool.not_eq_true'] at h
      obtain rfl := eq_of_beq h.1.1.1.1.1.1
      obtain rfl := eq_of_beq h.1.1.1.1.2
      exact g.isT z (by simpa using h.1.1.2) h.1.1.1.1.1.2 h.1.1.1.2 h.1.2 (sE z a g hw h.2)
    · cases h
  | .isT2 T T' a, cc, e, X, W, g, hw, h => by
    unfold chkE at h
    split at h
    · simp only [Bool.and_eq_true, Bool.not_eq_true'] at h
      obtain ⟨⟨⟨⟨⟨⟨⟨⟨⟨h1, h2⟩, h3⟩, h4⟩, h5⟩, h6⟩, h7⟩, h8⟩, h9⟩, h10⟩ := h
      obtain rfl := eq_of_beq h1
      obtain rfl := eq_of_beq h3
      obtain rfl := eq_of_beq h6
      exact g.isT2 z (by simpa using h5) (by simpa using h8) h2 h4 h7 h9 (sE z a g hw h10)
    · cases h
  | .isC c a, cc, e, X, W, g, hw, h => by
    unfold chkE at h
    split at h
    · simp only [Bool.and_eq_true, Bool.not_eq_true'] at h
      obtain ⟨⟨⟨⟨⟨h1, h2⟩, h3⟩, h4⟩, h5⟩, h6⟩ := h
      obtain rfl := eq_of_beq h1
      obtain rfl := eq_of_beq h3
      show PE X _ (kE Z.G W (mIsCC (Z.Pg.env n) _ _))
      unfold mIsCC
      simp only
      split
      · rename_i fs q
        exact g.isC z q h2 h4 h5 (sE z a g hw h6)
      · exact kE_no
    · cases h
  | .isB T a, cc, e, X, W, g, hw, h => by
    unfold chkE at h
    split at h
    · simp only [Bool.and_eq_true, Bool.not_eq_true'] at h
      obtain ⟨⟨⟨⟨⟨h1, h2⟩, h3⟩, h4⟩, h5⟩, h6⟩ := h
      obtain rfl := eq_of_beq h1
      obtain rfl := eq_of_beq h3
      show PE X _ (kE Z.G W (mIsBC (Z.Pg.env n) _ _))
      unfold mIsBC
      simp only
      split
      · rename_i fs q
        exact g.isB z q h2 h4 h5 (sE z a g hw h6)
      · exact kE_no
    · cases h
  | .call f xs, cc, e, X, W, g, hw, h => by
    unfold chkE at h
    split at h
    · simp only [Bool.and_eq_true] at h
      obtain rfl := eq_of_beq h.1.1.1.2
      obtain ⟨e1, r1, rfl⟩ := xs_cons (xs := xs) (cc := cc) h.1.2
      obtain ⟨q1, q2⟩ := chkA_head (env := X.env) h.2
      exact g.callF h.1.1.1.1 hw h.1.1.2 (sA z xs g hw h.2) q1 (q2 _)
    · cases h
  | .callV i x xs, cc, e, X, W, g, hw, h => by
    unfold chkE at h
    split at h
    · simp only [Bool.and_eq_true] at h
      obtain ⟨⟨⟨⟨⟨⟨h1, h2⟩, h3⟩, h4⟩, h5⟩, h6⟩, h7⟩ := h
      obtain rfl := eq_of_beq h2
      obtain ⟨e1, r1, rfl⟩ := xs_cons (xs := xs) (cc := cc) h6
      obtain ⟨q1, q2⟩ := chkA_head (env := X.env) h7
      exact g.callV h1 hw h3 h4 h5 (sA z xs g hw h7) q1 (q2 _)
    · cases h
  | .set0, cc, e, X, W, g, hw, h => by
    unfold chkE at h
    split at h
    · simp only [Bool.and_eq_true] at h
      obtain rfl := eq_of_beq h.1
      have c := call_set0 (X := X)
      rw [g.hP, g.hw] at c
      exact kE_of (pe_callTy0 c (g.gl h.2).1 (g.nob z (by decide)) (by decide +kernel) (by decide) (by decide)) fun η => sim_set0 (G := Z.G.at η)
    · cases h
  | .sadd o a, cc, e, X, W, g, hw, h => by
    unfold chkE at h
    split at h
    · simp only [Bool.and_eq_true, Bool.not_eq_true'] at h
      obtain ⟨⟨⟨⟨⟨h1, h2⟩, h3⟩, h4⟩, h5⟩, h6⟩ := h
      obtain rfl := eq_of_beq h3
      exact kE_of (pe_saddK g.hP g.hw (sE z o g hw h5) (pa_cons (sE z a g hw h6) pa_nil (star_no h4)) h1 h2 h4) fun η => sim_sadd (G := Z.G.at η) (kE_sim η) (kE_sim η)
    · cases h
  | .app o a, cc, e, X, W, g, hw, h => by
    unfold chkE at h
    split at h
    · simp only [Bool.and_eq_true, Bool.not_eq_true'] at h
      obtain ⟨⟨⟨⟨⟨h1, h2⟩, h3⟩, h4⟩, h5⟩, h6⟩ := h
      obtain rfl := eq_of_beq h3
      exact kE_of (pe_appK g.hK (sE z o g hw h5) (pa_cons (sE z a g hw h6) pa_nil (star_no h4)) h1 h2 h4) fun η => sim_app (G := Z.G.at η) (kE_sim η) (kE_sim η)
    · cases h
  | .pop o, cc, e, X, W, g, hw, h => by
    unfold chkE at h
    split at h
    · simp only [Bool.and_eq_true, Bool.not_eq_true'] at h
      obtain ⟨⟨⟨h1, h2⟩, h3⟩, h4⟩ := h
      obtain rfl := eq_of_beq h3
      exact kE_of (pe_popK g.hK (sE z o g hw h4) h1 h2) fun η => sim_pop (G := Z.G.at η) (kE_sim η)
    · cases h
  | .comp r vars caps ix it tg ifs a, cc, e, X, W, g, hw, h => by
    unfold chkE at h
    split at h
    · simp only [Bool.and_eq_true, Bool.not_eq_true'] at h
      obtain ⟨⟨⟨⟨⟨⟨h1, h2⟩, h3⟩, h4⟩, h5⟩, h6⟩, h7⟩ := h
      exact g.comp h1 h2 h3 (sI z it g hw h4) (fun Y gY => sG z tg gY h5) (fun Y gY => sTs z ifs gY xw_false h6) (fun Y gY => sE z a gY xw_false h7)
    · cases h
  | .dcompX vars caps ix it, cc, e, X, W, g, hw, h => by
    unfold chkE at h
    split at h
    · simp only [Bool.and_eq_true, Bool.not_eq_true'] at h
      exact g.dcompX h.1.1.1 h.1.1.2 h.1.2 (sI z it g hw h.2)
    · cases h
  | .never, cc, e, X, W, g, hw, h => kE_no
theorem sA (z : Z.Ok) : ∀ (m : MXs) {cc : CC} {es : List Expr} {X : Cx} {W : XW}, Good Z n cc X → Xw X W → chkA m cc es = true → PA X es (kA Z.G W (evA (Z.Pg.env n) m))
  | .nil, cc, es, X, W, g, hw, h => by
    unfold chkA at h
    split at h
    · exact kA_of pa_nil fun η => sim_nil
    · cases h
  | .cons a r, cc, es, X, W, g, hw, h => by
    unfold chkA at h
    split at h
    · simp only [Bool.and_eq_true, Bool.not_eq_true'] at h
      exact kA_of (pa_cons (sE z a g hw h.1.2) (sA z r g hw h.2) (star_no h.1.1)) fun η => sim_cons (kE_sim η) (kA_sim η)
    · cases h
theorem sBa (z : Z.Ok) : ∀ (m : MXs) {cc : CC} {es : List Expr} {pos : Pos} {X : Cx} {W : XW}, Good Z n cc X → Xw X W → chkB m cc es = true → PE X (.BoolOp .And es pos) (kE Z.G W (evB (Z.Pg.env n) true m))
  | .nil, cc, es, pos, X, W, g, hw, h => by
    unfold chkB at h
    cases h
  | .cons a r, cc, es, pos, X, W, g, hw, h => by
    unfold chkB at h
    split at h
    · rw [Bool.and_eq_true] at h
      cases r with
      | nil =>
        have h2 := h.2
        simp only at h2
        split at h2
        · exact kE_of (pe_one (sE z a g hw h.1)) fun η => kE_sim η
        · cases h2
      | cons b r' =>
        have h2 := h.2
        simp only at h2
        rename_i e es
        cases es with
        | nil => unfold chkB at h2; cases h2
        | cons e2 es2 => exact kE_of (pe_and (sE z a g hw h.1) (sBa z (.cons b r') g hw h2)) fun η => sim_andL (kE_sim η) (kE_sim η)
    · cases h
theorem sBo (z : Z.Ok) : ∀ (m : MXs) {cc : CC} {es : List Expr} {pos : Pos} {X : Cx} {W : XW}, Good Z n cc X → Xw X W → chkB m cc es = true → PE X (.BoolOp .Or es pos) (kE Z.G W (evB (Z.Pg.env n) false m))
  | .nil, cc, es, pos, X, W, g, hw, h => by
    unfold chkB at h
    cases h
  | .cons a r, cc, es, pos, X, W, g, hw, h => by
    unfold chkB at h
    split at h
    · rw [Bool.and_eq_true] at h
      cases r with
      | nil =>
        have h2 := h.2
        simp only at h2
        split at h2
        · exact kE_of (pe_one (sE z a g hw h.1)) fun η => kE_sim η
        · cases h2
      | cons b r' =>
        have h2 := h.2
        simp only at h2
        rename_i e es
        cases es with
        | nil => unfold chkB at h2; cases h2
        | cons e2 es2 => exact kE_of (pe_or (sE z a g hw h.1) (sBo z (.cons b r') g hw h2)) fun η => sim_orL (kE_sim η) (kE_sim η)
    · cases h
theorem sT (z : Z.Ok) : ∀ (m : MT) {cc : CC} {e : Expr} {X : Cx} {W : XW}, Good Z n cc X → Xw X W → chkT m cc e = true → PT X e (kT Z.G W (evT (Z.Pg.env n) m))
  | .val a, cc, e, X, W, g, hw, h => by
    unfold chkT at h
    rw [Bool.and_eq_true] at h
    exact kT_of (pt_truthK g.hK (sE z a g hw h.2) (plainT_ok h.1)) fun η => sim_truth (G := Z.G.at η) (kE_sim η)
  | .cmp o a b, cc, e, X, W, g, hw, h => by
    unfold chkT at h
    split at h
    · simp only [Bool.and_eq_true, Bool.not_eq_true'] at h
      obtain ⟨r, h1, h2⟩ := g.cmpop (eq_of_beq h.1.1.1)
      exact kT_of (pt_cmpR h1 (sE z a g hw h.1.2) (sE z b g hw h.2) h.1.1.2) fun η => sim_test (sim_op (h2 η) (kE_sim η) (kE_sim η))
    · cases h
  | .chain o o' a b c, cc, e, X, W, g, hw, h => by
    unfold chkT at h
    split at h
    · simp only [Bool.and_eq_true, Bool.not_eq_true'] at h
      obtain ⟨r, h1, h2⟩ := g.cmpop (eq_of_beq h.1.1.1.1.1)
      obtain ⟨r', h1', h2'⟩ := g.cmpop (eq_of_beq h.1.1.1.1.2)
      exact kT_of (pt_chain h1 h1' (sE z a g hw h.1.1.2) (sE z b g hw h.1.2) (sE z c g hw h.2) h.1.1.1.2) fun η => sim_test (sim_chain (h2 η) (h2' η) (kE_sim η) (kE_sim η) (kE_sim η))
    · cases h
  | .not t, cc, e, X, W, g, hw, h => by
    unfold chkT at h
    split at h
    · exact kT_of (pt_not (sT z t g hw h)) fun η => sim_not (kT_sim η)
    · cases h
  | .bool k ts, cc, e, X, W, g, hw, h => by
    unfold chkT at h
    split at h
    · rw [Bool.and_eq_true] at h
      obtain rfl := h.1
      exact (sTa z ts g hw h.2).pt
    · rw [Bool.and_eq_true, Bool.not_eq_true'] at h
      obtain rfl := h.1
      exact (sTo z ts g hw h.2).pt
    · cases h
theorem sTa (z : Z.Ok) : ∀ (m : MTs) {cc : CC} {es : List Expr} {pos : Pos} {X : Cx} {W : XW}, Good Z n cc X → Xw X W → chkTb m cc es = true → PW X (.BoolOp .And es pos) (kT Z.G W (evTb (Z.Pg.env n) true m))
  | .nil, cc, es, pos, X, W, g, hw, h => by
    unfold chkTb at h
    cases h
  | .cons a r, cc, es, pos, X, W, g, hw, h => by
    unfold chkTb at h
    split at h
    · rw [Bool.and_eq_true] at h
      cases r with
      | nil =>
        have h2 := h.2
        simp only at h2
        split at h2
        · exact kW_of (pw_and1 (sT z a g hw h.1)) fun η => kT_sim η
        · cases h2
      | cons b r' =>
        have h2 := h.2
        simp only at h2
        rename_i e es
        cases es with
        | nil => unfold chkTb at h2; cases h2
        | cons e2 es2 => exact kW_of (pw_and (sT z a g hw h.1) (sTa z (.cons b r') g hw h2)) fun η => sim_andT (kT_sim η) (kT_sim η)
    · cases h
theorem sTo (z : Z.Ok) : ∀ (m : MTs) {cc : CC} {es : List Expr} {pos : Pos} {X : Cx} {W : XW}, Good Z n cc X → Xw X W → chkTb m cc es = true → PW X (.BoolOp .Or es pos) (kT Z.G W (evTb (Z.Pg.env n) false m))
  | .nil, cc, es, pos, X, W, g, hw, h => by
    unfold chkTb at h
    cases h
  | .cons a r, cc, es, pos, X, W, g, hw, h => by
    unfold chkTb at h
    split at h
    · rw [Bool.and_eq_true] at h
      cases r with
      | nil =>
        have h2 := h.2
        simp only at h2
        split at h2
        · exact kW_of (pw_or1 (sT z a g hw h.1)) fun η => kT_sim η
        · cases h2
      | cons b r' =>
        have h2 := h.2
        simp only at h2
        rename_i e es
        cases es with
        | nil => unfold chkTb at h2; cases h2
        | cons e2 es2 => exact kW_of (pw_or (sT z a g hw h.1) (sTo z (.cons b r') g hw h2)) fun η => sim_orT (kT_sim η) (kT_sim η)
    · cases h
theorem sTs (z : Z.Ok) : ∀ (m : MTs) {cc : CC} {es : List Expr} {X : Cx} {W : XW}, Good Z n cc X → Xw X W → chkTs m cc es = true → PTs X es (kT Z.G W (evTs (Z.Pg.env n) m))
  | .nil, cc, es, X, W, g, hw, h => by
    unfold chkTs at h
    split at h
    · exact kTs_of pts_nil fun η => sim_true
    · cases h
  | .cons a r, cc, es, X, W, g, hw, h => by
    unfold chkTs at h
    split at h
    · rw [Bool.and_eq_true] at h
      cases r with
      | nil => exact kTs_of (pts_one (sT z a g hw h.2)) fun η => kT_sim η
      | cons b r' => have := h.1; simp at this
    · cases h
theorem sO (z : Z.Ok) : ∀ (m : MO) {cc : CC} {e : Option Expr} {X : Cx} {W : XW}, Good Z n cc X → Xw X W → chkO m cc e = true → PO X e (kO Z.G W (evO (Z.Pg.env n) m))
  | .none, cc, e, X, W, g, hw, h => by
    unfold chkO at h
    split at h
    · exact kO_of po_none fun η => sim_oN
    · cases h
  | .some a, cc, e, X, W, g, hw, h => by
    unfold chkO at h
    split at h
    · exact kO_of (po_some (sE z a g hw h)) fun η => sim_oS (kE_sim η)
    · cases h
theorem sI (z : Z.Ok) : ∀ (m : MI) {cc : CC} {t e : Expr} {X : Cx} {W : XW}, Good Z n cc X → Xw X W → chkI m cc t e = true → PI X t e (kI Z.G W (evI (Z.Pg.env n) m))
  | .lst a, cc, t, e, X, W, g, hw, h => by
    unfold chkI at h
    exact kI_of (pi_listK g.hK (sE z a g hw h)) fun η => sim_iL (G := Z.G.at η) (kE_sim η)
  | .tup a, cc, t, e, X, W, g, hw, h => by
    unfold chkI at h
    exact kI_of (pi_tupK g.hK (sE z a g hw h)) fun η => sim_iT (G := Z.G.at η) (kE_sim η)
  | .str a, cc, t, e, X, W, g, hw, h => by
    unfold chkI at h
    exact kI_of (pi_str (sE z a g hw h)) fun η => sim_iS (kE_sim η)
  | .rng xs, cc, t, e, X, W, g, hw, h => by
    unfold chkI at h
    split at h
    · simp only [Bool.and_eq_true] at h
      obtain rfl := eq_of_beq h.1.1
      exact kI_of (pi_range1 (g.gl h.1.2).1 (g.nob z (by decide)) (sA z xs g hw h.2) (chkA_head h.2).1) fun η => sim_iR (kA_sim η)
    · cases h
  | .rng2 xs, cc, t, e, X, W, g, hw, h => by
    unfold chkI at h
    split at h
    · simp only [Bool.and_eq_true] at h
      obtain rfl := eq_of_beq h.1.1
      have hb := chkA_two (env := X.env) h.2
      exact kI_of (pi_range2 (g.gl h.1.2).1 (g.nob z (by decide)) (sA z xs g hw h.2) (by rw [(chkA_head h.2).1, hb]) hb) fun η => sim_iR2 (kA_sim η)
    · cases h
  | .enum xs, cc, t, e, X, W, g, hw, h => by
    unfold chkI at h
    split at h
    · simp only [Bool.and_eq_true] at h
      obtain ⟨⟨⟨h0, h1⟩, h2⟩, h3⟩ := h
      obtain rfl := eq_of_beq h1
      cases t with
      | Tuple es k p => exact kI_of (pi_enum (g.gl h2).1 (g.nob z (by decide)) (sA z xs g hw h3) (chkA_head h3).1) fun η => sim_iE (kA_sim η)
      | _ => simp [isTupE] at h0
    · cases h
theorem sG (z : Z.Ok) : ∀ (m : MG) {cc : CC} {e : Expr} {X : Cx}, Good Z n cc X → chkG m cc e = true → PG X e (kG Z.G (evG (Z.Pg.env n) m))
  | .nm i x, cc, e, X, g, h => by
    unfold chkG at h
    split at h
    · simp only [Bool.and_eq_true] at h
      obtain rfl := eq_of_beq h.1.1
      exact kG_of (pg_name g.nd' (g.slot h.1.2) (g.loc h.2).1 (g.loc h.2).2) fun η => sim_gName i
    · cases h
  | .tup gs, cc, e, X, g, h => by
    unfold chkG at h
    split at h
    · simp only [Bool.and_eq_true] at h
      exact kG_of (pg_tupK g.hK (g.calm h.1) (sGs z gs g h.2) (gs_len h.2).1 (gs_len h.2).2) fun η => sim_gTup (G := Z.G.at η) (kGs_sim η)
    · cases h
  | .sub o i, cc, e, X, g, h => by
    unfold chkG at h
    split at h
    · rename_i l r pos
      simp only [Bool.and_eq_true, Bool.not_eq_true'] at h
      refine kG_of (pg_sub (sE z o g (xw_false (X := X)) h.1.2) (sE z i g (xw_false (X := X)) h.2) set_list (fun v => ?_)) fun η => sim_gSub (W := WF) (kE_sim η) (kE_sim η)
      have := h.1.1
      cases r <;> first | rfl | (simp [isSlice] at this)
    · cases h
theorem sGs (z : Z.Ok) : ∀ (m : MGs) {cc : CC} {es : List Expr} {X : Cx}, Good Z n cc X → chkGs m cc es = true → PGs X es (kGs Z.G (evGs (Z.Pg.env n) m))
  | .nil, cc, es, X, g, h => by
    unfold chkGs at h
    split at h
    · exact kGs_of pgs_nil fun η => sim_gNil
    · cases h
  | .cons a r, cc, es, X, g, h => by
    unfold chkGs at h
    split at h
    · simp only [Bool.and_eq_true, Bool.not_eq_true'] at h
      exact kGs_of (pgs_cons (sG z a g h.1.2) (sGs z r g h.2) (assign_no h.1.1)) fun η => sim_gCons (kG_sim η) (kGs_sim η)
    · cases h
end
end
end L2

namespace L2
open PySem PySem.Spec PyProof.Rows PySem.W PySem.SeqAt
section
variable {Z : Wd} {n : Nat}
theorem swap_no {e : Expr} {t : Option Expr} {k : Nat} {env : Env} (h : isComp e = false) : swapsWith e t k env = pure false := by
  cases e <;> first | rfl | (simp [isComp] at h; done)
theorem swap_tup {e t : Expr} {k : Nat} {env : Env} (h : isName t = false) : swapsWith e (some t) k env = pure false := by
  cases e <;> first | rfl | (cases t <;> first | rfl | (simp [isName] at h; done))
theorem swap_cell {cc : CC} {X : Cx} (g : Good Z n cc X) {e t : Expr} {k : Nat} (h : cellT cc t = true) : swapsWith e (some t) k X.env = pure false := by
  cases t with
  | Name y p =>
    unfold cellT at h
    have hl : X.env.kindOf y = some .cell := by
      show X.env.scope.names.lookup y = _
      rw [g.hs]
      simp only at h
      split at h
      · rename_i q; exact q
      · cases h
    have hf : (X.env.kindOf y == some NameKind.local) = false := by rw [hl]; rfl
    cases e <;> first | rfl | (unfold swapsWith; simp [hf])
  | _ => simp [cellT] at h
theorem stores_no {e t : Expr} {env : Env} (h1 : isListE t = false) (h2 : (isTupE t && isTupE e) = false) : swappedStores [t] e env = pure none := by
  cases t <;> first | rfl | (simp [isListE] at h1; done) | (cases e <;> first | rfl | (simp [isTupE] at h2; done))
/-! raise -/
theorem zip_nil {ns : List Str} {vs : List V} {ds : List D} (h : vs.length = ds.length) (e : ns.zip vs = []) : ns.zip ds = [] := by
  cases ns with
  | nil => rfl
  | cons a r =>
    cases vs with
    | nil => cases ds with
      | nil => rfl
      | cons _ _ => cases h
    | cons _ _ => cases e
theorem vrf_zip {G : Gx} {ι ξ : List Addr} {H : Hp} : ∀ {ns : List Str} {vs : List V} {ds : List D}, VRs G ι ξ H vs ds → VRf G ι ξ H (ns.zip vs) (ns.zip ds)
  | [], _, _, _ => .nil
  | _ :: _, _, _, .nil => .nil
  | _ :: ns, _, _, .cons a r => .cons a (vrf_zip r)
theorem sim_raise {G : Gx} {W : XW} {c : Str} {ns : List Str} {bm : List Value} {nid : String} {ta : TA} {fa : FA} (hc : XCls G.K (G.cls c) bm nid) (hk : ns.length ≤ 100) (a : SimA G W ta fa) :
    SimS G W (tRaise G.K (tXMake (G.cls c) ns ta) W) (fun δ M => sb δ (fa δ M) fun ds M1 => if ds.length = ns.length then some (.ex c (ns.zip ds) δ M1) else none) := fun E σ δ ι M H R er h =>
  a σ δ ι M H _ R er (GS.bind er h fun vs H1 ι1 M1 ds e1 R1 r1 h1 => by
    split at h1
    · rename_i hl
      have hl' : vs.length = ns.length := by rw [r1.length]; exact hl
      refine ⟨hl', by omega, fun x H' hx nx sm => ?_⟩
      have s2 : ∀ d, Same H1 (upd H' x (XObj false (G.cls c) x d)) := fun d b o z => by rw [upd_ne (ne_of_none z hx)]; exact sm b o z
      have fin : ∀ d, XR G ι1 (upd H' x (XObj false (G.cls c) x d)) x c (ns.zip ds) → W x σ (upd H' x (XObj false (G.cls c) x d)) := fun d xr => h1 x σ _ ι1 (Ext.same (s2 d)) (R1.same (s2 d)) ((er.ext e1).ext (Ext.same (s2 d))) xr
      rcases nx with ⟨z, n1⟩ | ⟨dx, n0, ne, n1, n2⟩
      · refine ⟨x, _, bm, nid, _, none, rfl, n1, .inl ⟨rfl, rfl⟩, hc, fin none ?_⟩
        rw [zip_nil r1.length z]
        exact .exc0 upd_same (R1.outs hx)
      · exact ⟨x, _, bm, nid, _, some dx, rfl, n1, .inr ⟨dx, rfl, n2⟩, hc, fin (some dx) (.exc1 upd_same (R1.outs hx) (by rw [upd_ne ne]; exact n2) (R1.outs n0) (vrf_zip (r1.ext (Ext.same (s2 _)))))⟩
    · exact h1.elim)
/-! try -/
theorem sim_tryAs {G : Gx} {W : XW} {c : Str} {i : Nat} {bm : List Value} {nid : String} {cv : Value} {tb : (Addr → St → Hp → Prop) → TS} {ts : Addr → TS} {b h : FS} (hc : XCls G.K (G.cls c) bm nid) (em : exmOne G.K (.ref (G.cls c)) cv = some true)
    (sb' : ∀ W', SimS G W' (tb W') b) (sh : ∀ x, SimS G WF (ts x) h) : SimS G W (tTryAs G.K cv i tb ts) (mTryAs c i b h) := fun E σ δ ι M H R er hh => by
  refine sb' _ E σ δ ι M H R er ?_
  unfold mTryAs at hh
  cases q : b δ M with
  | none => rw [q] at hh; exact hh.elim
  | some o =>
    rw [q] at hh
    cases o with
    | ex c' fs δ' M' =>
      simp only at hh
      split at hh
      · rename_i hcc
        subst hcc
        intro x σ' H' ι' e' R' er' xr
        obtain ⟨a, vs, ea, ix, _⟩ := vr_isX xr
        cases ea
        refine ⟨_, bm, nid, vs, ix, hc, em, sh x _ _ (δ'.set i (some (.exc c' fs))) ι' M' H' R' (er'.set xr i) ?_⟩
        have hh := GS.ext e' hh
        cases q2 : h (δ'.set i (some (.exc c' fs))) M' with
        | none => rw [q2] at hh; exact hh.elim
        | some o2 =>
          rw [q2] at hh
          cases o2 with
          | nx δ2 M2 => exact fun σ2 H2 ι2 e2 R2 er2 => hh _ H2 ι2 e2 R2 (er2.unset i)
          | rt d2 M2 => exact hh
          | bk δ2 M2 => exact fun σ2 H2 ι2 e2 R2 er2 => hh _ H2 ι2 e2 R2 (er2.unset i)
          | ct δ2 M2 => exact fun σ2 H2 ι2 e2 R2 er2 => hh _ H2 ι2 e2 R2 (er2.unset i)
          | ex c2 fs2 δ2 M2 => exact hh.elim
      · exact hh.elim
    | nx δ' M' => exact hh
    | rt d' M' => exact hh
    | bk δ' M' => exact hh
    | ct δ' M' => exact hh
theorem sim_try {G : Gx} {W : XW} {c : Str} {bm : List Value} {nid : String} {cv : Value} {tb : (Addr → St → Hp → Prop) → TS} {ts : Addr → TS} {b h : FS} (hc : XCls G.K (G.cls c) bm nid) (em : exmOne G.K (.ref (G.cls c)) cv = some true)
    (sb' : ∀ W', SimS G W' (tb W') b) (sh : ∀ x, SimS G WF (ts x) h) : SimS G W (tTry G.K cv tb ts) (mTry c b h) := fun E σ δ ι M H R er hh => by
  refine sb' _ E σ δ ι M H R er ?_
  unfold mTry at hh
  cases q : b δ M with
  | none => rw [q] at hh; exact hh.elim
  | some o =>
    rw [q] at hh
    cases o with
    | ex c' fs δ' M' =>
      simp only at hh
      split at hh
      · rename_i hcc
        subst hcc
        intro x σ' H' ι' e' R' er' xr
        obtain ⟨a, vs, ea, ix, _⟩ := vr_isX xr
        cases ea
        refine ⟨_, bm, nid, vs, ix, hc, em, sh x _ _ δ' ι' M' H' R' er' ?_⟩
        have hh := GS.ext e' hh
        cases q2 : h δ' M' with
        | none => rw [q2] at hh; exact hh.elim
        | some o2 =>
          rw [q2] at hh
          cases o2 with
          | ex c2 fs2 δ2 M2 => exact hh.elim
          | nx δ2 M2 => exact hh
          | rt d2 M2 => exact hh
          | bk δ2 M2 => exact hh
          | ct δ2 M2 => exact hh
      · exact hh.elim
    | nx δ' M' => exact hh
    | rt d' M' => exact hh
    | bk δ' M' => exact hh
    | ct δ' M' => exact hh
theorem Good.inTry {cc : CC} {X : Cx} (g : Good Z n cc X) {pn : List (Addr × Obj)} {xe : Value → Shared → Prop} (hp : PassesOwn (model X.prog X.w) X.A X.env xe) : Good Z n cc (X.inTry pn xe) :=
  ⟨g.hK, g.hP, g.hw, g.hm, g.hb, g.hN, g.hs, g.nd, g.calm, g.room, g.units, g.fn, hp, g.top, g.bk, g.call⟩
theorem Good.suite {cc : CC} {X : Cx} (g : Good Z n cc X) (x : Addr) : Good Z n { cc with calm := false } (X.suite x) :=
  ⟨g.hK, g.hP, g.hw, g.hm, g.hb, g.hN, g.hs, g.nd, fun z => (nomatch z), fun z => (nomatch z), g.units, g.fn, PassesOwn.never, g.top, g.bk, g.call⟩
theorem kS_no {X : Cx} {W : XW} {s : Stmt} : PS X s (kS Z.G W mNever) := kS_of ps_never fun η => sim_never
theorem ps_raiseK {X : Cx} {K : Frag} {e : Expr} {te : TE} {W : Addr → St → Hp → Prop} {pos : Pos} (hK : X.K = K) (he : PE X e te) (hw : Xw X W) (hc : X.calm = true) : PS X (.Raise (some e) none pos) (tRaise K te W) := hK ▸ ps_raise he hw hc
theorem lenX_ok : ∀ {xs : MXs} {cc : CC} {es : List Expr}, chkA xs cc es = true → es.length = lenX xs
  | .nil, cc, es, h => by
    unfold chkA at h
    split at h
    · rfl
    · cases h
  | .cons a r, cc, es, h => by
    unfold chkA at h
    split at h
    · rw [Bool.and_eq_true] at h
      simp [lenX, lenX_ok h.2]
    · cases h
theorem Good.raise {cc : CC} {X : Cx} {W : XW} (z : Z.Ok) (g : Good Z n cc X) (hc : cc.calm = true) (hw : Xw X W) {c : Str} {es : List Expr} {p q pos : Pos} {xs : MXs} (hg : glOk cc c = true) (hx : chkA xs cc es = true) :
    PS X (.Raise (some (.Call (.Name c p) es [] q)) none pos) (kS Z.G W (mRaise (Z.Pg.env n) c (lenX xs) (evA (Z.Pg.env n) xs))) := by
  unfold mRaise
  simp only
  split
  · rename_i ns hn
    split
    · rename_i hl
      have ok := z.xc c ns hn
      obtain ⟨bm, Bn, nid, inN, bmN, mk, hi⟩ := ok.ex
      have mk' : XMk X.K (Z.G.cls c) bm Bn nid inN bmN := by rw [g.hK]; exact mk
      have hr := g.room hc
      have hm : X.mg c = some (.ref (Z.G.cls c)) := by rw [g.hm]; exact ok.mg
      have ha := sA z xs g hw hx
      cases es with
      | nil =>
        have h0 : ns = [] := by
          have := lenX_ok hx
          exact List.eq_nil_of_length_eq_zero (by rw [← hl.1, ← this]; rfl)
        subst h0
        have hxs : xs = .nil := by
          cases xs with
          | nil => rfl
          | cons a r => simp [chkA] at hx
        subst hxs
        rcases hi with ⟨_, _, rfl, h4⟩ | ⟨h0, _⟩
        · have p0 : PE X (.Call (.Name c p) [] [] q) (tXMake (Z.G.cls c) [] tNil) := pe_xmake0 mk' (by rw [g.hK]; exact h4) (g.gl hg).1 hm (g.gl hg).2
          exact kS_of (ps_raiseK g.hK p0 hw (g.calm hc)) fun η => sim_raise (G := Z.G.at η) mk.c (Nat.zero_le _) sim_nil
        · exact (h0 rfl).elim
      | cons e es =>
        obtain ⟨q1, q2⟩ := chkA_head (env := X.env) hx
        rcases hi with ⟨h0, _, _, _⟩ | ⟨_, f, fd, ps, h1, h2, F, hb⟩
        · subst h0
          have := lenX_ok hx
          rw [hl.1] at this
          cases this
        · have F' : FnOk X.prog X.w X.K X.mg X.base CX0 1 f fd ps (spXI (Z.G.cls c) ns) := by rw [g.hP, g.hw, g.hK, g.hm, g.hb]; exact F
          have p0 := pe_xmake (p := p) (pos := q) mk' (by rw [g.hK]; exact h1) (by rw [g.hK]; exact h2) F' (hr.mono (by omega)) (g.gl hg).1 hm (by rw [g.hK]; exact hb) ha (g.gl hg).2 q1 (q2 _)
          exact kS_of (ps_raiseK g.hK p0 hw (g.calm hc)) fun η => sim_raise (G := Z.G.at η) mk.c (by rw [← hl.1]; exact hl.2) (kA_sim η)
    · exact kS_no
  · exact kS_no
/-! assignments of comprehensions -/
theorem Good.setC {cc : CC} {X : Cx} {W : XW} (g : Good Z n cc X) (hc : cc.calm = true) {r : Bool} {vars caps : List Str} {sc : Scope} {ix : List Nat} {elt t iter : Expr} {ifs : List Expr} {pos : Pos} {fi : FI} {fg : FG} {ft : FT} {fe : FE} (hk : chkC vars caps ix cc sc = true) (hset : isSetE iter = false)
    (hi : PI X t iter (kI Z.G W fi)) (hg : ∀ Y, Good Z n ⟨vars ++ caps, relab sc cc.sc, true, false⟩ Y → PG Y t (kG Z.G fg)) (ht : ∀ Y, Good Z n ⟨vars ++ caps, relab sc cc.sc, true, false⟩ Y → PTs Y ifs (kT Z.G WF ft)) (he : ∀ Y, Good Z n ⟨vars ++ caps, relab sc cc.sc, true, false⟩ Y → PE Y elt (kE Z.G WF fe))
    {i : Nat} {y : Str} {py spos : Pos} (hs : slotOk cc i y = true) (hl : locOk cc y = true) :
    PS X (.Assign [.Name y py] (.ListComp elt [⟨t, iter, ifs, 0⟩] sc pos) spos) (kS Z.G W (mAsg (mComp r fi fg ft fe vars.length ix) (nG i))) := by
  have hk' := hk
  unfold chkC at hk'
  simp only [Bool.and_eq_true] at hk'
  have sw : swapsWith (.ListComp elt [⟨t, iter, ifs, 0⟩] sc pos) (some (.Name y py)) spos.line X.env = pure (X.env.blockKind == .function && X.env.kindOf y == some .local && py.line == pos.line && !(sc.names.any fun (n, k) => n == y && (k == .local || k == .cell))) := rfl
  cases q : (X.env.blockKind == .function && X.env.kindOf y == some .local && py.line == pos.line && !(sc.names.any fun (n, k) => n == y && (k == .local || k == .cell))) with
  | true =>
    rw [q] at sw
    have hy : X.env.scope.names.lookup y = some .local := by
      simp only [Bool.and_eq_true] at q
      exact eq_of_beq q.1.1.2
    exact kS_of (ps_setCW g.nd' (g.slot hs) hy sw caps (by rw [g.hN]; exact eq_of_beq hk'.1.1.1) (by rw [g.hN]; exact hk'.1.1.2) (by rw [g.hs]; exact hk'.1.2) (nodupB_ok hk'.2) (g.calm hc) hi (fun cl C fp s H => hg _ (g.blk hc hk cl C fp s H)) (fun cl C fp s H => ht _ (g.blk hc hk cl C fp s H)) (fun cl C fp s H => he _ (g.blk hc hk cl C fp s H)) (set_no hset))
      fun η => sim_asg (sim_comp (G := Z.G.at η) (kI_sim η) (fun ζ => kG_sim (ζ ++ η)) (fun ζ => kT_sim (ζ ++ η)) (fun ζ => kE_sim (ζ ++ η))) (sim_gName i)
  | false =>
    rw [q] at sw
    exact kS_of (ps_asg (g.comp hc hk hset hi hg ht he) (pg_name g.nd' (g.slot hs) (g.loc hl).1 (g.loc hl).2) sw rfl rfl) fun η => sim_asg (kE_sim η) (sim_gName i)
section
variable {X : Cx} {K : Frag} {body : List Stmt} {b₀ : Stmt} {suite : List Stmt} {cx n : Str} {i : Nat} {cv : Value} {tb : (Addr → St → Hp → Prop) → TS} {ts : Addr → TS} {p hpos pos : Pos}
theorem ps_tryAsK {outer : List Env} {L : Addr} (hK : X.K = K) (hst : X.stack = X.env :: outer) (hf : X.env.frame = some L) (hN : X.N.Nodup) (hi : X.N[i]? = some n) (hk : X.env.scope.names.lookup n = some .local) (hg : Gl X cx) (hm : X.mg cx = some cv)
    (hb : ∀ (pn : List (Addr × Obj)) (xe : Value → Shared → Prop) (W : Addr → St → Hp → Prop), PassesOwn (model X.prog X.w) X.A X.env xe → Xw (X.inTry pn xe) W → PSs (X.inTry pn xe) body (tb W))
    (hs : ∀ x, PSs (X.suite x) (b₀ :: suite) (ts x)) (hdb : (cx == ("__debug__" : Str)) = false) :
    PS X (.Try body [.ExceptHandler (some (.Name cx p)) (some n) (b₀ :: suite) hpos] [] [] pos) (tTryAs K cv i tb ts) := hK ▸ ps_tryAs hst hf hN hi hk hg hm hb hs hdb
theorem ps_tryK {outer : List Env} {L : Addr} (hK : X.K = K) (hst : X.stack = X.env :: outer) (hf : X.env.frame = some L) (hg : Gl X cx) (hm : X.mg cx = some cv)
    (hb : ∀ (pn : List (Addr × Obj)) (xe : Value → Shared → Prop) (W : Addr → St → Hp → Prop), PassesOwn (model X.prog X.w) X.A X.env xe → Xw (X.inTry pn xe) W → PSs (X.inTry pn xe) body (tb W))
    (hs : ∀ x, PSs (X.suite x) (b₀ :: suite) (ts x)) (hdb : (cx == ("__debug__" : Str)) = false) :
    PS X (.Try body [.ExceptHandler (some (.Name cx p)) none (b₀ :: suite) hpos] [] [] pos) (tTry K cv tb ts) := hK ▸ ps_try hst hf hg hm hb hs hdb
end
mutual
theorem sS (z : Z.Ok) : ∀ (m : MSt) {cc : CC} {s : Stmt} {X : Cx} {W : XW}, Good Z n cc X → Xw X W → chkS m cc s = true → PS X s (kS Z.G W (evS (Z.Pg.env n) m))
  | .expr a, cc, s, X, W, g, hw, h => by
    unfold chkS at h
    split at h
    · rw [Bool.and_eq_true, Bool.not_eq_true'] at h
      exact kS_of (ps_expr (sE z a g hw h.2) (swap_no h.1)) fun η => sim_drop (kE_sim η)
    · cases h
  | .ret a, cc, s, X, W, g, hw, h => by
    unfold chkS at h
    split at h
    · exact kS_of (ps_ret (sE z a g hw h)) fun η => sim_ret (kE_sim η)
    · cases h
  | .retN, cc, s, X, W, g, hw, h => by
    unfold chkS at h
    split at h
    · exact kS_of ps_retN fun η => sim_retN
    · cases h
  | .pass, cc, s, X, W, g, hw, h => by
    unfold chkS at h
    split at h
    · exact kS_of ps_pass fun η => sim_next
    · cases h
  | .brk, cc, s, X, W, g, hw, h => by
    unfold chkS at h
    split at h
    · exact kS_of ps_break fun η => sim_break
    · cases h
  | .cont, cc, s, X, W, g, hw, h => by
    unfold chkS at h
    split at h
    · exact kS_of ps_continue fun η => sim_cont
    · cases h
  | .asg tg a, cc, s, X, W, g, hw, h => by
    unfold chkS at h
    split at h
    · rename_i t e pos
      simp only [Bool.and_eq_true, Bool.not_eq_true', Bool.or_eq_true] at h
      obtain ⟨⟨⟨⟨⟨⟨h1, h2⟩, h3⟩, h4⟩, h5⟩, h6⟩, h7⟩ := h
      have plain : swapsWith e (some t) pos.line X.env = pure false → PS X (.Assign [t] e pos) (kS Z.G W (mAsg (evE (Z.Pg.env n) a) (evG (Z.Pg.env n) tg))) := fun sw =>
        kS_of (ps_asg (sE z a g hw h7) (sG z tg g h6) sw (stores_no h3 h4) (assign_no h2)) fun η => sim_asg (kE_sim η) (kG_sim η)
      rcases h5 with ((h5 | h5) | h5) | h5
      · exact plain (swap_no h5)
      · exact plain (swap_tup h5)
      rotate_left
      · exact plain (swap_cell g h5)
      · cases hn : isName t with
        | false => exact plain (swap_tup hn)
        | true =>
          cases a with
          | comp r vars caps ix it tg' ifs b =>
            unfold chkE at h7
            split at h7
            · simp only [Bool.and_eq_true, Bool.not_eq_true'] at h7
              obtain ⟨⟨⟨⟨⟨⟨k1, k2⟩, k3⟩, k4⟩, k5⟩, k6⟩, k7⟩ := h7
              cases t with
              | Name y p =>
                cases tg with
                | nm i x =>
                  unfold chkG at h6
                  simp only [Bool.and_eq_true] at h6
                  obtain rfl := eq_of_beq h6.1.1
                  exact g.setC k1 k2 k3 (sI z it g hw k4) (fun Y gY => sG z tg' gY k5) (fun Y gY => sTs z ifs gY xw_false k6) (fun Y gY => sE z b gY xw_false k7) h6.1.2 h6.2
                | tup gs => simp [chkG] at h6
                | sub o i => simp [chkG] at h6
              | _ => simp [isName] at hn
            · cases h7
          | _ => simp [isCompX] at h5
    · cases h
  | .aug i x o a, cc, s, X, W, g, hw, h => by
    unfold chkS at h
    split at h
    · simp only [Bool.and_eq_true, Bool.or_eq_true] at h
      obtain ⟨⟨⟨⟨⟨h1, h2⟩, h3⟩, h4⟩, h5⟩, h6⟩ := h
      obtain rfl := eq_of_beq h1
      have h4 := eq_of_beq h4
      rcases h5 with (h5 | h5) | h5
      · obtain rfl := eq_of_beq h5
        cases h4
        exact kS_of (ps_aug g.nd' (g.slot h2) (g.loc h3).1 (sE z a g hw h6) ip_mulS (g.loc h3).2) fun η => sim_aug (kE_sim η) (sim_i (fun _ _ => cMul_ok) fun _ _ _ _ _ _ => .int _)
      · obtain rfl := eq_of_beq h5
        cases h4
        exact kS_of (ps_aug g.nd' (g.slot h2) (g.loc h3).1 (sE z a g hw h6) ip_add (g.loc h3).2) fun η => sim_aug (kE_sim η) (sim_i0 fun _ _ _ _ _ _ => .int _)
      · obtain rfl := eq_of_beq h5
        cases h4
        exact kS_of (ps_aug g.nd' (g.slot h2) (g.loc h3).1 (sE z a g hw h6) ip_sub (g.loc h3).2) fun η => sim_aug (kE_sim η) (sim_i0 fun _ _ _ _ _ _ => .int _)
    · cases h
  | .ife t a b, cc, s, X, W, g, hw, h => by
    unfold chkS at h
    split at h
    · simp only [Bool.and_eq_true] at h
      exact kS_of (ps_if (sT z t g hw h.1.1) (sSs z a g hw h.1.2) (sSs z b g hw h.2)) fun η => sim_ifS (kT_sim η) (kS_sim η) (kS_sim η)
    · cases h
  | .for_ it tg b, cc, s, X, W, g, hw, h => by
    unfold chkS at h
    split at h
    · simp only [Bool.and_eq_true, Bool.not_eq_true'] at h
      obtain ⟨⟨⟨⟨h1, h2⟩, h3⟩, h4⟩, h5⟩ := h
      exact kS_of (ps_for g.po (g.calm h1) (sI z it g hw h3) (sG z tg g h4) (sSs z b g hw h5) (set_no h2)) fun η => sim_for (kI_sim η) (kG_sim η) (kS_sim η)
    · cases h
  | .raise c xs, cc, s, X, W, g, hw, h => by
    unfold chkS at h
    split at h
    · simp only [Bool.and_eq_true] at h
      obtain rfl := eq_of_beq h.1.1.2
      exact g.raise z h.1.1.1 hw h.1.2 h.2
    · cases h
  | .tryAs c i x b hd, cc, s, X, W, g, hw, h => by
    unfold chkS at h
    split at h
    · simp only [Bool.and_eq_true] at h
      obtain ⟨⟨⟨⟨⟨⟨⟨⟨h1, h2⟩, h3⟩, h4⟩, h5⟩, h6⟩, h7⟩, h8⟩, h9⟩ := h
      obtain rfl := eq_of_beq h3
      obtain rfl := eq_of_beq h5
      obtain ⟨outer, L, t1, t2⟩ := g.top h2
      show PS X _ (kS Z.G W (mTryAsC (Z.Pg.env n) _ i (evSs (Z.Pg.env n) b) (evSs (Z.Pg.env n) hd)))
      unfold mTryAsC
      simp only
      split
      · rename_i ns q
        have ok := z.xc _ ns q
        obtain ⟨bm, Bn, nid, inN, bmN, mk, hi⟩ := ok.ex
        exact kS_of (ps_tryAsK g.hK t1 t2 g.nd' (g.slot h6) (g.isLoc h7) (g.gl h4).1 (by rw [g.hm]; exact ok.mg) (fun pn xe W' hp hw' => sSs z b (g.inTry (pn := pn) hp) hw' h8) (fun x => sSs z hd (g.suite x) (xw_false (X := X.suite x)) h9) (g.gl h4).2)
          fun η => sim_tryAs (G := Z.G.at η) mk.c ok.em (fun W' => kS_sim η) (fun x => kS_sim η)
      · exact kS_no
    · cases h
  | .try_ c b hd, cc, s, X, W, g, hw, h => by
    unfold chkS at h
    split at h
    · simp only [Bool.and_eq_true] at h
      obtain ⟨⟨⟨⟨⟨h1, h2⟩, h3⟩, h4⟩, h8⟩, h9⟩ := h
      obtain rfl := eq_of_beq h3
      obtain ⟨outer, L, t1, t2⟩ := g.top h2
      show PS X _ (kS Z.G W (mTryC (Z.Pg.env n) _ (evSs (Z.Pg.env n) b) (evSs (Z.Pg.env n) hd)))
      unfold mTryC
      simp only
      split
      · rename_i ns q
        have ok := z.xc _ ns q
        obtain ⟨bm, Bn, nid, inN, bmN, mk, hi⟩ := ok.ex
        exact kS_of (ps_tryK g.hK t1 t2 (g.gl h4).1 (by rw [g.hm]; exact ok.mg) (fun pn xe W' hp hw' => sSs z b (g.inTry (pn := pn) hp) hw' h8) (fun x => sSs z hd (g.suite x) (xw_false (X := X.suite x)) h9) (g.gl h4).2)
          fun η => sim_try (G := Z.G.at η) mk.c ok.em (fun W' => kS_sim η) (fun x => kS_sim η)
      · exact kS_no
    · cases h
  | .never, cc, s, X, W, g, hw, h => kS_no
theorem sSs (z : Z.Ok) : ∀ (m : MSs) {cc : CC} {ss : List Stmt} {X : Cx} {W : XW}, Good Z n cc X → Xw X W → chkSs m cc ss = true → PSs X ss (kS Z.G W (evSs (Z.Pg.env n) m))
  | .nil, cc, ss, X, W, g, hw, h => by
    unfold chkSs at h
    split at h
    · exact kSs_of pss_nil fun η => sim_next
    · cases h
  | .cons s r, cc, ss, X, W, g, hw, h => by
    unfold chkSs at h
    split at h
    · rw [Bool.and_eq_true] at h
      exact kSs_of (pss_cons (sS z s g hw h.1) (sSs z r g hw h.2)) fun η => sim_seq (kS_sim η) (kS_sim η)
    · cases h
end
end
end L2

namespace L2
open PySem PySem.Spec PyProof.Rows PySem.W PySem.SeqAt
/-! ### the defs of a text keep to their mirrors -/
theorem FunD.okX {P : Program} {w : World} {K : Frag} {mg : Str → Option Value} {base : Heap} {x qual : Str} {st : Stmt} {f : Addr} {fd : FuncData} {N ps : List Str} {k : Nat} {sp : Sp} (F : FunD K x qual st f fd) (S : FnScope N ps (defScope st)) (len : ∀ vs H Q E, sp vs H Q E → vs.length = ps.length)
    (hbody : ∀ (cdv : Value) (A : Around) (outer : List Env) (s : Shared) (H : Hp) (vs : List V) (Q : VK) (E : XK), Room k (A.deeper (envOfC qual (defScope st) s.heap.objs.size f cdv)) → sp vs H Q E →
      ∃ t, PSs (cxOf (CX1 P w) P w K mg base N qual (defScope st) f cdv A outer s H E) (defBody st) t ∧ t { nx := fun _ H' => Q .non H', rt := Q } (start N vs) H) : FnOk P w K mg base (CX1 P w) (k + 1) f fd ps sp := by
  obtain ⟨oc, od, dV, kV, doc, pm, an, cdv, ct, osl, rfl, lk, hcd⟩ := F.ex
  exact fn_of lk hcd S len fun A outer s H vs Q E hr hsp => hbody cdv A outer s H vs Q E hr hsp
theorem FunD.lk {K : Frag} {x qual : Str} {st : Stmt} {f : Addr} {fd : FuncData} (F : FunD K x qual st f fd) : ∃ oc od osl, K.lookup f = some ⟨oc, od, .func fd, osl⟩ := by
  obtain ⟨oc, od, dV, kV, doc, pm, an, cdv, ct, osl, h, lk, hcd⟩ := F.ex
  exact ⟨oc, od, osl, lk⟩
/-- a def of the text, told by md -/
structure DefOk (Z : Wd) (x : Str) (md : MDef) : Prop where
  ex : ∃ nm st fd dvs ds, FunD Z.G.K nm nm st (Z.G.fn x) fd ∧ Z.mg x = some (.ref (Z.G.fn x)) ∧ Binds Z.G.K fd md.ps ds ∧ Vals dvs ds ∧ (∀ ι ξ H, VRs Z.G ι ξ H dvs md.dv) ∧ FnScope md.N md.ps (defScope st) ∧ chkSs md.body ⟨md.N, defScope st, true, true⟩ (defBody st) = true
section
variable {Z : Wd}
theorem good_def {n : Nat} {x : Str} {md : MDef} {st : Stmt} {f : Addr} {cdv : Value} {A : Around} {outer : List Env} {s : Shared} {H : Hp} {E : XK} (S : FnScope md.N md.ps (defScope st)) (hr : Room (n + 4) (A.deeper (envOfC x (defScope st) s.heap.objs.size f cdv)))
    (call : ∀ x md, Z.Pg.defs x = some md → CallOk Z (n + 4) x md (runB Z.Pg md n)) :
    Good Z n ⟨md.N, defScope st, true, true⟩ (cxOf (CX1 Z.G.P Z.G.w) Z.G.P Z.G.w Z.G.K Z.mg Z.base md.N x (defScope st) f cdv A outer s H E) where
  hK := rfl
  hP := rfl
  hw := rfl
  hm := rfl
  hb := rfl
  hN := rfl
  hs := rfl
  nd := S.nd
  calm := fun _ => rfl
  room := fun _ => hr
  units := by
    have := hr.un
    show (A.deeper (envOfC x (defScope st) s.heap.objs.size f cdv)).units + 100 < cLine
    omega
  fn := fun _ _ => rfl
  po := PassesOwn.leaving
  top := fun _ => ⟨outer, _, rfl, rfl⟩
  bk := fun _ => by
    show (if (defScope st).kind.isAnnotationScope then ScopeKind.function else (defScope st).kind) = .function
    rw [S.kind]; rfl
  call := call
theorem all_ok (z : Z.Ok) (hd : ∀ x md, Z.Pg.defs x = some md → DefOk Z x md) : ∀ (n : Nat) (x : Str) (md : MDef), Z.Pg.defs x = some md → CallOk Z (n + 4) x md (runB Z.Pg md n)
  | 0, x, md, h => by
    obtain ⟨nm, st, fd, dvs, ds, F, hm, hb, hv, hr, S, hc⟩ := (hd x md h).ex
    refine ⟨fd, dvs, ds, F.okX (k := 3) S (fun vs H Q E q => ?_) (fun cdv A outer s H vs Q E hr q => ?_), hm, F.kp, hb, hv, hr, F.lk⟩
    · obtain ⟨η, ι, M, ds', R, r, g⟩ := q
      exact g.elim
    · obtain ⟨η, ι, M, ds', R, r, g⟩ := q
      exact g.elim
  | n + 1, x, md, h => by
    obtain ⟨nm, st, fd, dvs, ds, F, hm, hb, hv, hr, S, hc⟩ := (hd x md h).ex
    refine ⟨fd, dvs, ds, F.okX (k := n + 4) S (fun vs H Q E q => ?_) (fun cdv A outer s H vs Q E hr q => ?_), hm, F.kp, hb, hv, hr, F.lk⟩
    · obtain ⟨η, ι, M, ds', R, r, g⟩ := q
      exact r.length.trans (fn_end R g).1
    · obtain ⟨η, ι, M, ds', R, r, g⟩ := q
      obtain ⟨hl, hg⟩ := fn_end R g
      refine ⟨_, sSs z md.body (W := WE E) (good_def S hr (all_ok z hd n)) xw_def hc, ?_⟩
      refine ⟨η, ds'.map some ++ List.replicate (md.N.length - ds'.length) none, ι, M, R, er_in r md.N, ?_⟩
      rw [hl]; exact hg
/-! ### the law -/
def fnA (mg : Str → Option Value) (x : Str) : Addr := match mg x with
  | some (.ref a) => a
  | _ => 0
theorem fnA_eq {mg : Str → Option Value} {x : Str} {a : Addr} (h : mg x = some (.ref a)) : fnA mg x = a := by unfold fnA; rw [h]
/-- the script, in the mirror -/
def scr (ns : List Int) : D := .frl (ns.map D.int)
theorem vrs_ints {G : Gx} {ι ξ : List Addr} {H : Hp} : ∀ {ns : List Int}, VRs G ι ξ H (ns.map V.int) (ns.map D.int)
  | [] => .nil
  | _ :: _ => .cons (.int _) vrs_ints
theorem vr_scr {G : Gx} {H : Hp} {a : Addr} {ns : List Int} (hO : Only H) (hS : SqL G.K H a (ns.map V.int)) : VR G [] [] H (.ref a) (scr ns) := by
  rcases hS with (h | ⟨o, h⟩) | h
  · rcases hO a with q | ⟨o, xs, q⟩
    · rw [h] at q; cases q
    · rw [h] at q; cases q
  · exact .frl h List.not_mem_nil vrs_ints
  · exact .frk h vrs_ints
def spLaw1 (K : PySem.W.Frag) : Sp := fun vs H Q _ => ∃ (a : Addr) (ns : List Int), vs = [.ref a] ∧ Only H ∧ SqL K H a (ns.map V.int) ∧ ns.length ≤ 63 ∧ ∀ H', Q (.bl true) H'
/-- the law holds, where its mirror tells True of each script -/
theorem walk_mirror {l : PySem.W.OpenLaw} {q : Program} {loose : List Str} {XP : (Str → Option Value) → Heap → Prop} {YP : World → Heap → Prop} {d : DefRec} {K : Params → PySem.W.Frag} {Pg : Prog1} {x y : Str} {md : MDef} (n : Nat) (hn4 : n = 40) (hn : l.most = some 63) (hdf : d.params.defaults = []) (hdn : d.name = x) (hps : md.ps = [y]) (hdv : md.dv = [])
    (hx : Pg.defs x = some md)
    (hY : ∀ (w : World) (h : Heap), YP w h → (K w.params).In h)
    (F : ∀ (w : World) (mg : Str → Option Value) (h : Heap), (K w.params).In h → h.Ns mainGlobals mg → ∀ base : Heap, (K w.params).In base → base.Ns mainGlobals mg → Wd.Ok ⟨⟨l.prog, w, K w.params, fnA mg, fnA mg, []⟩, mg, base, Pg⟩ ∧ ∀ x md, Pg.defs x = some md → DefOk ⟨⟨l.prog, w, K w.params, fnA mg, fnA mg, []⟩, mg, base, Pg⟩ x md)
    (B : ∀ (w : World) (mg : Str → Option Value) (fa : Addr) (h : Heap), (K w.params).In h → h.Ns mainGlobals mg → mg x = some (.ref fa) → ∃ st fd, FunD (K w.params) x x st fa fd ∧ ∀ (s : Shared) (u : Value), BindsTo s fd ⟨[u], []⟩ [(y, u)])
    (T : ∀ ns : List Int, ns.length ≤ 63 → ∃ M, run1 Pg n x [scr ns] [] = some (.ok (.bl true) M)) :
    PySem.W.WalkO q loose XP YP l.row.toRowW d [] (fun f vs => PySem.call f vs) := by
  subst hn4
  subst hdn
  refine L2.walk_of (n := 63) (k := 44) (x := y) (CX := fun w => CX1 l.prog w) (K := K) (sp := fun w => spLaw1 (K w.params)) hn (by decide) hdf ⟨rfl, rfl, by decide, by decide⟩ hY (fun w mg fa h hK hG hmg => ?_) (fun w H a ns hl hO hS => ⟨a, ns, rfl, hO, hS, hl, fun _ => rfl⟩) fun w H s e s' hc => ?_
  · obtain ⟨st, fd, FD, hbd⟩ := B w mg fa h hK hG hmg
    refine ⟨fd, hbd, fun base hKb hGb => ?_⟩
    obtain ⟨z, hd⟩ := F w mg h hK hG base hKb hGb
    obtain ⟨fd', dvs, ds, FO, h2, h3, h4, h5, h6, oc, od, osl, lk⟩ := all_ok z hd 40 d.name md hx
    have efa : fnA mg d.name = fa := fnA_eq hmg
    obtain ⟨oc2, od2, osl2, lk2⟩ := FD.lk
    simp only at lk
    rw [efa, lk2] at lk
    cases lk
    simp only at FO
    rw [efa, hps] at FO
    refine FO.imp fun vs H Q E hsp => ?_
    obtain ⟨a, ns, rfl, hO, hS, hl, hq⟩ := hsp
    obtain ⟨M, hT⟩ := T ns hl
    rw [run1_some hx, hdv, List.append_nil] at hT
    refine ⟨[], [], [], [scr ns], ⟨rfl, List.nodup_nil, fun k a m h => by simp at h, fun a h => by cases h⟩, .cons ((vr_scr (G := ⟨l.prog, w, K w.params, fnA mg, fnA mg, []⟩) hO hS).at []) .nil, ?_⟩
    rw [hT]
    exact fun v H' ι' e R r => by rw [vr_bool r]; exact hq H'
  · obtain ⟨x, T', H', e1, e2, e3, e4, e5, e6, e7, e8, e9, e10⟩ := hc
    exact e10
end
end L2

namespace L2
open PySem PySem.Spec PyProof.Rows PySem.W PySem.SeqAt
/-! ### loops and comprehensions of the mirror, by an invariant -/
theorem loop_inv {it : Itm} {g : FG} {body : FS} (I : EnvD → MS → Prop) (hs : it.src = none) : ∀ (xs : List D), (∀ x ∈ xs, ∀ δ M, I δ M → ∃ δ1 M1 δ2 M2, g x δ M = some (δ1, M1) ∧ (body δ1 M1 = some (.nx δ2 M2) ∨ body δ1 M1 = some (.ct δ2 M2)) ∧ I δ2 M2) →
    ∀ δ M, I δ M → ∃ δ' M', loopF it g body xs δ M = some (.nx δ' M') ∧ I δ' M'
  | [], _, δ, M, h => ⟨δ, M, rfl, h⟩
  | x :: xs, hb, δ, M, h => by
    obtain ⟨δ1, M1, δ2, M2, e1, e2, h2⟩ := hb x List.mem_cons_self δ M h
    obtain ⟨δ3, M3, e3, h3⟩ := loop_inv I hs xs (fun y hy => hb y (List.mem_cons_of_mem _ hy)) δ2 M2 h2
    refine ⟨δ3, M3, ?_, h3⟩
    have sr : Src it M2 := fun k ps z => by rw [hs] at z; cases z
    unfold loopF
    rw [e1]
    rcases e2 with e2 | e2
    · simp only [e2, if_pos sr]; exact e3
    · simp only [e2, if_pos sr]; exact e3
theorem comp_inv {it : Itm} {g : FG} {c : FT} {e : FE} (I : EnvD → MS → Prop) (P : D → Prop) (hs : it.src = none) : ∀ (xs : List D), (∀ x ∈ xs, ∀ δ M, I δ M → ∃ δ1 M1 M2 p M3, g x δ M = some (δ1, M1) ∧ c δ1 M1 = some (.ok true M2) ∧ e δ1 M2 = some (.ok p M3) ∧ P p ∧ I δ1 M3) →
    ∀ δ M, I δ M → ∃ ps δ' M', compF it g c e xs δ M = some (ps, M') ∧ ps.length = xs.length ∧ (∀ p ∈ ps, P p) ∧ I δ' M'
  | [], _, δ, M, h => ⟨[], δ, M, rfl, rfl, (fun _ z => nomatch z), h⟩
  | x :: xs, hb, δ, M, h => by
    obtain ⟨δ1, M1, M2, p, M3, e1, e2, e3, hp, h3⟩ := hb x List.mem_cons_self δ M h
    obtain ⟨ps, δ4, M4, e4, hl, hps, h4⟩ := comp_inv I P hs xs (fun y hy => hb y (List.mem_cons_of_mem _ hy)) δ1 M3 h3
    refine ⟨p :: ps, δ4, M4, ?_, by simp [hl], fun y hy => ?_, h4⟩
    · have sr : Src it M3 := fun k qs z => by rw [hs] at z; cases z
      unfold compF
      simp only [e1, e2, e3, if_pos sr, e4]
    · rcases List.mem_cons.mp hy with rfl | hy
      · exact hp
      · exact hps y hy
/-! ### == of plain things -/
theorem gEq_int {g : Bool → Bool} {i j : Int} {M : MS} : gEq g (.int i) (.int j) M = some (.ok (.bl (g (i == j))) M) := rfl
theorem gEq_str {g : Bool → Bool} {i j : Str} {M : MS} (hi : PyData.strOk i = true) (hj : PyData.strOk j = true) : gEq g (.str i) (.str j) M = some (.ok (.bl (g (i == j))) M) := by
  simp [gEq, toPy, D.py, SeqAt.shaped, PyData.canLay0, PyData.depth, hi, hj, PyData.eqv]
/-! ### the law's hand and its draws -/
theorem cutL_all {α : Type} (xs : List α) (lo hi : Option Int) : (cutL xs lo hi).length ≤ xs.length := by
  unfold cutL
  simp only [List.length_take, List.length_drop]
  omega
end L2

namespace L2
open PySem PySem.Spec PyProof.Rows PySem.W PySem.SeqAt
/-! # from the facts of a text to what the mirror asks -/
/-- a def of a class's body -/
def inCls (c : Stmt) (i : Nat) : Stmt := match c with
  | .ClassDef (body := b) .. => b.getD i (.Pass ⟨0, 0, 0, 0⟩)
  | _ => .Pass ⟨0, 0, 0, 0⟩
def mroV : List Value := [.type "ValueError", .type "Exception", .type "BaseException", .type "object"]
theorem passMV (self : Value) : refuseLoop self "__setattr__" mroV = pure () := by kernel_rfl
theorem xclsMk {K : Frag} {C N : Addr} {nm q : Str} {bs bm : List Value} {sn : List Str} {sub : List Value} {ab : Bool} {col : Option Bool} {dd : Option Addr} {k0 k1 k2 k3 k5 : Option Value} {nid : String}
    (lC : K.lookup C = some (excClassObj nm q C N bs bm true sn sub ab col dd k0 k1 k2 k3 k5 nid)) (ga : findIn K (.ref C) "__getattribute__" = some (some (.builtin "BaseException.__getattribute__"))) (gh : findIn K (.ref C) "__getattr__" = some none)
    (sa : findIn K (.ref C) "__setattr__" = some (some (.builtin "object.__setattr__"))) (cl : findIn K (.ref C) "__class__" = some (some (.builtin "object.__class__")))
    (hb : bm.contains (.type "BaseException") = true) (ho : bm.contains (.type "object") = true) (hp : ∀ self : Value, refuseLoop self "__setattr__" bm = pure ()) : XCls K C bm nid := by
  have hm : ∀ v, mroIn K C v = some ((Value.ref C :: bm).contains v) := fun v => by
    unfold mroIn clsIn
    rw [lC]
    rfl
  exact ⟨⟨nm, q, N, bs, sn, sub, ab, col, dd, k0, k1, k2, k3, k5, lC⟩, ga, gh, sa, cl, by rw [hm, List.contains_cons, hb, Bool.or_true], by rw [hm, List.contains_cons, ho, Bool.or_true], hp⟩
theorem FunD.mk' {K : Frag} {x qual : Str} {st : Stmt} {f : Addr} {oc : Value} {od an : Option Addr} {osl : Array (Option Value)} {dV kV doc pm cdv ct : Value} (l : K.lookup f = some ⟨oc, od, .func (fnOf x qual (defArgs st) (defBody st) (defScope st) dV kV doc pm an cdv ct), osl⟩)
    (c : codeIn K cdv qual = true) (k : keepIn K (.ref f) = true) : FunD K x qual st f (fnOf x qual (defArgs st) (defBody st) (defScope st) dV kV doc pm an cdv ct) := ⟨⟨oc, od, dV, kV, doc, pm, an, cdv, ct, osl, rfl, l, c⟩, k⟩
/-- what a program's text asks of a def, over every base -/
def DK (Pg : Prog1) (K : Frag) (mg : Str → Option Value) (x : Str) (md : MDef) : Prop := ∀ (P : Program) (w : World) (base : Heap), DefOk ⟨⟨P, w, K, fnA mg, fnA mg, []⟩, mg, base, Pg⟩ x md
theorem dk_mk {Pg : Prog1} {K : Frag} {mg : Str → Option Value} {h : Heap} (X : K.In h) (G : h.Ns mainGlobals mg) {x nm : Str} {md : MDef} {st : Stmt} {f : Addr} {od an : Option Addr} {oc dV kV dc pm cd ct : Value} {sl : Array (Option Value)}
    (S : FnScope md.N md.ps (defScope st)) (ck : chkSs md.body ⟨md.N, defScope st, true, true⟩ (defBody st) = true)
    (a : nsIn K mainGlobals x = some (some (.ref f))) (l : K.lookup f = some ⟨oc, od, .func (fnOf nm nm (defArgs st) (defBody st) (defScope st) dV kV dc pm an cd ct), sl⟩) (c : codeIn K cd nm = true) (k : keepIn K (.ref f) = true)
    {dvs : List V} {ds : List Value} (b : Binds K (fnOf nm nm (defArgs st) (defBody st) (defScope st) dV kV dc pm an cd ct) md.ps ds) (hv : Vals dvs ds) (hr : ∀ (G : Gx) ι ξ H, VRs G ι ξ H dvs md.dv) : DK Pg K mg x md := fun P w base => by
  have hm := mg_of X G a
  have e : fnA mg x = f := fnA_eq hm
  refine ⟨nm, st, _, dvs, ds, ?_, ?_, b, hv, fun ι ξ H => hr _ ι ξ H, S, ck⟩
  · show FunD K nm nm st (fnA mg x) _
    rw [e]
    exact FunD.mk' l c k
  · show mg x = some (.ref (fnA mg x))
    rw [e]; exact hm
theorem dk0 {Pg : Prog1} {K : Frag} {mg : Str → Option Value} {h : Heap} (X : K.In h) (G : h.Ns mainGlobals mg) {x nm : Str} {md : MDef} {st : Stmt} {f : Addr} {od an : Option Addr} {oc kV dc pm cd ct : Value} {sl : Array (Option Value)}
    (S : FnScope md.N md.ps (defScope st)) (ck : chkSs md.body ⟨md.N, defScope st, true, true⟩ (defBody st) = true) (hdv : md.dv = [])
    (hb : ∀ (kV doc pm : Value) (an : Option Addr) (cdv ct : Value) (us : List Value), us.length = md.ps.length → bindArgs (fnOf nm nm (defArgs st) (defBody st) (defScope st) .none kV doc pm an cdv ct) ⟨us, []⟩ = pure (md.ps.zip us))
    (a : nsIn K mainGlobals x = some (some (.ref f))) (l : K.lookup f = some ⟨oc, od, .func (fnOf nm nm (defArgs st) (defBody st) (defScope st) .none kV dc pm an cd ct), sl⟩) (c : codeIn K cd nm = true) (k : keepIn K (.ref f) = true) : DK Pg K mg x md :=
  dk_mk X G S ck a l c k (.all (hb kV dc pm an cd ct)) .nil fun _ _ _ _ => by rw [hdv]; exact .nil
/-- the last parameter's default is None -/
theorem dk1 {Pg : Prog1} {K : Frag} {mg : Str → Option Value} {h : Heap} (X : K.In h) (G : h.Ns mainGlobals mg) {x nm : Str} {md : MDef} {st : Stmt} {f : Addr} {od an : Option Addr} {oc dV kV dc pm cd ct : Value} {sl : Array (Option Value)}
    (S : FnScope md.N md.ps (defScope st)) (ck : chkSs md.body ⟨md.N, defScope st, true, true⟩ (defBody st) = true) (hdv : md.dv = [.non])
    (a : nsIn K mainGlobals x = some (some (.ref f))) (l : K.lookup f = some ⟨oc, od, .func (fnOf nm nm (defArgs st) (defBody st) (defScope st) dV kV dc pm an cd ct), sl⟩) (c : codeIn K cd nm = true) (k : keepIn K (.ref f) = true)
    (b : Binds K (fnOf nm nm (defArgs st) (defBody st) (defScope st) dV kV dc pm an cd ct) md.ps [.none]) : DK Pg K mg x md :=
  dk_mk X G S ck a l c k b (dvs := [.non]) (.cons (rfl : RelV .non Value.none) .nil) fun _ _ _ _ => by rw [hdv]; exact .cons .non .nil
/-- an own exception under ValueError whose __init__ stores its arguments -/
structure PkX (K : Frag) (mg : Str → Option Value) (c : Str) (bm : List Value) (ns : List Str) : Prop where
  ex : ∀ (P : Program) (w : World) (base : Heap) (Pg : Prog1), XOk ⟨⟨P, w, K, fnA mg, fnA mg, []⟩, mg, base, Pg⟩ c ns
  kt : ∀ T, kitMeta T = true → kitOne K (.ref (fnA mg c)) (.type T) = some (bm.contains (.type T))
theorem em_own {K : Frag} {C : Addr} {bm : List Value} {nid : String} (c : XCls K C bm nid) : exmOne K (.ref C) (.ref C) = some true := by
  have h1 : subIn K (.ref C) (.type "BaseException") = some true := by
    unfold subIn
    exact c.base
  unfold exmOne
  rw [h1, if_pos (by decide)]
  obtain ⟨cd, h1, h2⟩ := c.clsIn
  obtain ⟨nm, q, N, bs, sn, sub, ab, col, dd, k0, k1, k2, k3, k5, ho⟩ := c.obj
  unfold kitCls
  dsimp only
  rw [h1, if_pos (by unfold typeIn; dsimp only; rw [ho]; rfl)]
  show mroIn K C _ = _
  rw [c.mro, List.contains_cons]
  simp
theorem pkx_mk {K : Frag} {mg : Str → Option Value} {h : Heap} (X : K.In h) (G : h.Ns mainGlobals mg) {x : Str} {C f : Addr} {bm bmN : List Value} {Bn nid inN : String} {fd : FuncData} {ps ns : List Str}
    (M : XMk K C bm Bn nid inN bmN) (a : nsIn K mainGlobals x = some (some (.ref C))) (ai : findIn K (.ref C) "__init__" = some (some (.ref f))) (fi : isFn K (.ref f) = true)
    (hf : ∀ (P : Program) (w : World) (base : Heap), FnOk P w K mg base CX0 1 f fd ps (spXI C ns)) (hb : Binds K fd ps []) (hn : ns ≠ []) (na : ∀ g ∈ ns, NoAttr K C g) : PkX K mg x bm ns := by
  have hm := mg_of X G a
  have e : fnA mg x = C := fnA_eq hm
  refine ⟨fun P w base Pg => ?_, fun T hT => ?_⟩
  · refine ⟨⟨bm, Bn, nid, inN, bmN, ?_, .inr ⟨hn, f, fd, ps, ?_, fi, ?_, hb⟩⟩, ?_, ?_, ?_⟩
    · show XMk K (fnA mg x) _ _ _ _ _; rw [e]; exact M
    · show findIn K (.ref (fnA mg x)) _ = _; rw [e]; exact ai
    · show FnOk P w K mg base CX0 1 f fd ps (spXI (fnA mg x) ns); rw [e]; exact hf P w base
    · show mg x = some (.ref (fnA mg x)); rw [e]; exact hm
    · show ∀ g ∈ ns, NoAttr K (fnA mg x) g; rw [e]; exact na
    · show exmOne K (.ref (fnA mg x)) (.ref (fnA mg x)) = _; rw [e]; exact em_own M.c
  · rw [e]; exact kit_type M.c hT
section
variable {P : Program} {w : World} {K : Frag} {mg : Str → Option Value} {base : Heap}
theorem putNWT (a b c : V) : putF "tie" c (putF "number" b [("part", a)]) = ([("part", a), ("number", b), ("tie", c)] : List (Str × V)) := by
  have h1 : ¬ (("part" : Str) = "number") := by decide +kernel
  have h2 : ¬ (("part" : Str) = "tie") := by decide +kernel
  have h3 : ¬ (("number" : Str) = "tie") := by decide +kernel
  simp [putF, h1, h2, h3]
end
/-- an own class -/
structure PkI (K : Frag) (mg : Str → Option Value) (c : Str) (fs : List Str) : Prop where
  ex : ∀ (P : Program) (w : World) (base : Heap) (Pg : Prog1), IOk ⟨⟨P, w, K, fnA mg, fnA mg, []⟩, mg, base, Pg⟩ c fs
theorem no_of {K : Frag} {C : Addr} (hm : mroIn K C (.type "object") = some true) (ty : typeIn K (.ref C) = some (.type "type")) : ∀ t ∈ tys, kitOne K (.type t) (.ref C) = some false := fun t ht => by
  have h1 : (clsIn K C).isSome = true := by
    unfold mroIn at hm
    cases e : clsIn K C with
    | none => rw [e] at hm; cases hm
    | some cd => rfl
  unfold kitOne
  rw [if_neg (by simp)]
  unfold kitCls
  dsimp only
  rw [h1, ty, if_pos (by decide)]
  simp only [tys, List.mem_cons, List.not_mem_nil, or_false] at ht
  rcases ht with rfl | rfl | rfl | rfl | rfl | rfl | rfl <;> rfl
theorem bindK3 {K : Frag} {fd : FuncData} {ps : List Str} (hps : ps.length = 4) (h : ∀ (s : Shared) (a b c : Value), K.In s.heap → BindsTo s fd ⟨[a, b, c], []⟩ (ps.zip [a, b, c, .none])) : Binds K fd ps [.none] := fun s us hin hl => by
  have hu : us.length = 3 := by
    rw [List.length_append, hps] at hl
    exact Nat.succ.inj hl
  match us, hu with
  | [a, b, c], _ => exact h s a b c hin
theorem bindK4 {K : Frag} {fd : FuncData} {ps : List Str} (hps : ps.length = 5) (h : ∀ (s : Shared) (a b c d : Value), K.In s.heap → BindsTo s fd ⟨[a, b, c, d], []⟩ (ps.zip [a, b, c, d, .none])) : Binds K fd ps [.none] := fun s us hin hl => by
  have hu : us.length = 4 := by
    rw [List.length_append, hps] at hl
    exact Nat.succ.inj hl
  match us, hu with
  | [a, b, c, d], _ => exact h s a b c d hin
theorem pki_mk {K : Frag} {mg : Str → Option Value} {h : Heap} (X : K.In h) (G : h.Ns mainGlobals mg) {x : Str} {C : Addr} {fs : List Str} (a : nsIn K mainGlobals x = some (some (.ref C)))
    (pg : plainGet K C Str.empty = true) (hd : hasDictIn K C = true) (po : plainOver K C = true) (sa : findIn K (.ref C) "__setattr__" = some (some (.builtin "object.__setattr__")))
    (ha : findIn K (.ref C) "__class__" = some (some (.builtin "object.__class__"))) (hn : specialIn K (.builtin "object.__class__") "__get__" = some (some (.builtin "getset_descriptor.__get__"))) (htk : takesIn K (.builtin "object.__class__") = some true)
    (hm : mroIn K C (.type "object") = some true)
    (ty : typeIn K (.ref C) = some (.type "type")) (na : ∀ g ∈ fs, NoAttr K C g) : PkI K mg x fs := ⟨fun P w base Pg => by
  have hx := mg_of X G a
  have e : fnA mg x = C := fnA_eq hx
  refine ⟨?_, ?_, ?_⟩
  · show ClsI K (fnA mg x); rw [e]; exact ⟨⟨pg, hd, po, sa⟩, ha, hn, htk, hm, no_of hm ty⟩
  · show mg x = some (.ref (fnA mg x)); rw [e]; exact hx
  · show ∀ g ∈ fs, NoAttr K (fnA mg x) g; rw [e]; exact na⟩
theorem lookup_mem {α : Type} {x : Str} {d : α} : ∀ {l : List (Str × α)}, l.lookup x = some d → (x, d) ∈ l
  | (y, e) :: r, h => by
    unfold List.lookup at h
    split at h
    · rename_i q
      cases h
      rw [eq_of_beq q]
      exact List.mem_cons_self
    · exact List.mem_cons_of_mem _ (lookup_mem h)
/-- the text's names that stand for functions -/
theorem gl_fn {P : Program} {w : World} {K : Frag} {mg : Str → Option Value} {base : Heap} {Pg : Prog1} {x : Str} {md : MDef} (D : DefOk ⟨⟨P, w, K, fnA mg, fnA mg, []⟩, mg, base, Pg⟩ x md) :
    ∃ v u, mg x = some u ∧ RelV v u ∧ ∀ ι ξ H, VR ⟨P, w, K, fnA mg, fnA mg, []⟩ ι ξ H v (.fn x) := by
  obtain ⟨nm, st, fd, dvs, ds, F, hm, hb, hv, hr, S, hc⟩ := D.ex
  exact ⟨.ref (fnA mg x), _, hm, rfl, fun ι ξ H => .fn (G := ⟨P, w, K, fnA mg, fnA mg, []⟩) x⟩
end L2

namespace K33
open PySem PySem.Spec PyProof.Rows PySem.W L2
/-- check_work -/
def m_check_work : MDef := ⟨["work"], ["work"], .keep, [], (.cons (.ife (.not (.val (.isC "Work" (.v 0 "work")))) (.cons (.raise "NoWork" (.cons (.str "work") (.cons .non (.cons .non .nil)))) .nil) .nil) .nil)⟩
/-- check_asked_plans -/
def m_check_asked_plans : MDef := ⟨["work", "looks", "open_wires"], ["work", "looks", "open_wires"], .keep, [], (.cons (.expr (.call "check_work" (.cons (.v 0 "work") .nil))) (.cons .never (.cons .never .nil)))⟩
/-- check_asked_labels -/
def m_check_asked_labels : MDef := ⟨["work", "looks", "aim"], ["work", "looks", "aim"], .keep, [], (.cons (.expr (.call "check_work" (.cons (.v 0 "work") .nil))) (.cons .never (.cons .never .nil)))⟩
/-- modes_left -/
def m_modes_left : MDef := ⟨["work", "ways", "looks"], ["work", "ways", "looks", "met", "counted", "rows"], .keep, [], (.cons (.expr (.call "check_work" (.cons (.v 0 "work") .nil))) (.cons .never (.cons .never (.cons .never (.cons .never (.cons .never (.cons .never (.cons .never (.cons .never .nil)))))))))⟩
/-- is_world -/
def m_is_world : MDef := ⟨["work", "thing"], ["work", "thing", "wires"], .keep, [], (.cons (.expr (.call "check_work" (.cons (.v 0 "work") .nil))) (.cons .never (.cons .never (.cons .never .nil))))⟩
/-- sound_in -/
def m_sound_in : MDef := ⟨["work", "world"], ["work", "world"], .keep, [], (.cons (.ife (.not (.val (.call "is_world" (.cons (.v 0 "work") (.cons (.v 1 "world") .nil))))) (.cons (.raise "NoWorld" .nil) .nil) .nil) (.cons .never .nil))⟩
/-- clashing -/
def m_clashing : MDef := ⟨["work", "looks"], ["work", "looks", "sound"], .keep, [], (.cons (.asg (.nm 2 "sound") (.dcompX ["world"] ["work"] [0] (.lst (.call "all_worlds" (.cons (.v 0 "work") (.cons (.tup .nil) (.cons (.v 1 "looks") .nil))))))) (.cons .never .nil))⟩
/-- meeting -/
def m_meeting : MDef := ⟨["work", "lots"], ["work", "lots"], .keep, [], (.cons (.expr (.call "check_work" (.cons (.v 0 "work") .nil))) (.cons .never (.cons .never .nil)))⟩
/-- broken -/
def m_broken : MDef := ⟨["work", "looks"], ["work", "looks"], .keep, [], (.cons (.ret (.call "meeting" (.cons (.v 0 "work") (.cons (.call "clashing" (.cons (.v 0 "work") (.cons (.v 1 "looks") .nil))) .nil)))) .nil)⟩
/-- blame_of -/
def m_blame_of : MDef := ⟨["work", "looks"], ["work", "looks", "lots"], .keep, [], (.cons (.asg (.nm 2 "lots") (.call "clashing" (.cons (.v 0 "work") (.cons (.v 1 "looks") .nil)))) (.cons .never .nil))⟩
/-- accounts -/
def m_accounts : MDef := ⟨["work", "looks"], ["work", "looks", "rows", "world", "lot"], .keep, [], (.cons (.asg (.nm 2 "rows") (.dcompX ["lot"] [] [] (.lst (.call "broken" (.cons (.v 0 "work") (.cons (.v 1 "looks") .nil)))))) (.cons .never (.cons .never .nil)))⟩
/-- all_worlds -/
def m_all_worlds : MDef := ⟨["work", "lot", "looks"], ["work", "lot", "looks", "ties", "worlds", "number", "values", "longer"], .keep, [], (.cons (.expr (.call "check_work" (.cons (.v 0 "work") .nil))) (.cons .never (.cons .never (.cons .never (.cons .never (.cons .never (.cons .never .nil)))))))⟩
/-- first_world -/
def m_first_world : MDef := ⟨["work", "lot", "looks"], ["work", "lot", "looks", "worlds"], .keep, [], (.cons (.asg (.nm 3 "worlds") (.call "all_worlds" (.cons (.v 0 "work") (.cons (.v 1 "lot") (.cons (.v 2 "looks") .nil))))) (.cons .never .nil))⟩
/-- count_worlds -/
def m_count_worlds : MDef := ⟨["work", "lot", "looks"], ["work", "lot", "looks"], .keep, [], (.cons (.ret (.bif .len (.cons (.call "all_worlds" (.cons (.v 0 "work") (.cons (.v 1 "lot") (.cons (.v 2 "looks") .nil)))) .nil))) .nil)⟩
/-- refuted -/
def m_refuted : MDef := ⟨["work", "lot", "looks"], ["work", "lot", "looks", "world"], .keep, [], (.cons (.asg (.nm 3 "world") (.call "first_world" (.cons (.v 0 "work") (.cons (.v 1 "lot") (.cons (.v 2 "looks") .nil))))) (.cons .never (.cons .never .nil)))⟩
/-- is_blame -/
def m_is_blame : MDef := ⟨["work", "looks", "thing"], ["work", "looks", "thing", "clashes", "worlds"], .keep, [], (.cons (.expr (.call "check_work" (.cons (.v 0 "work") .nil))) (.cons .never (.cons .never (.cons .never (.cons .never .nil)))))⟩
/-- lots_of -/
def m_lots_of : MDef := ⟨["work", "looks", "aim"], ["work", "looks", "aim"], .keep, [], (.cons (.expr (.call "check_asked_labels" (.cons (.v 0 "work") (.cons (.v 1 "looks") (.cons (.v 2 "aim") .nil))))) (.cons .never .nil))⟩
/-- label_row -/
def m_label_row : MDef := ⟨["work", "looks", "wire"], ["work", "looks", "wire", "many"], .keep, [], (.cons (.expr (.call "check_work" (.cons (.v 0 "work") .nil))) (.cons .never (.cons .never (.cons .never .nil))))⟩
/-- label_of -/
def m_label_of : MDef := ⟨["work", "looks", "aim"], ["work", "looks", "aim", "lots", "least", "clashes", "shown", "worlds"], .keep, [], (.cons (.asg (.nm 3 "lots") (.call "lots_of" (.cons (.v 0 "work") (.cons (.v 1 "looks") (.cons (.v 2 "aim") .nil))))) (.cons .never (.cons .never (.cons .never (.cons .never (.cons .never .nil))))))⟩
/-- chances -/
def m_chances : MDef := ⟨["work", "ways", "looks"], ["work", "ways", "looks", "rows", "whole"], .keep, [], (.cons (.asg (.nm 3 "rows") (.call "modes_left" (.cons (.v 0 "work") (.cons (.v 1 "ways") (.cons (.v 2 "looks") .nil))))) (.cons .never (.cons .never .nil)))⟩
/-- broken_chances -/
def m_broken_chances : MDef := ⟨["work", "ways", "looks"], ["work", "ways", "looks", "rows", "whole"], .keep, [], (.cons (.asg (.nm 3 "rows") (.call "modes_left" (.cons (.v 0 "work") (.cons (.v 1 "ways") (.cons (.v 2 "looks") .nil))))) (.cons .never (.cons .never .nil)))⟩
/-- worst_plan -/
def m_worst_plan : MDef := ⟨["work", "looks", "open_wires"], ["work", "looks", "open_wires"], .keep, [], (.cons (.expr (.call "check_asked_plans" (.cons (.v 0 "work") (.cons (.v 1 "looks") (.cons (.v 2 "open_wires") .nil))))) (.cons .never .nil))⟩
/-- mean_plan -/
def m_mean_plan : MDef := ⟨["work", "looks", "open_wires", "ways"], ["work", "looks", "open_wires", "ways", "rows", "weights", "whole", "cost", "plan"], .keep, [.non], (.cons (.expr (.call "check_asked_plans" (.cons (.v 0 "work") (.cons (.v 1 "looks") (.cons (.v 2 "open_wires") .nil))))) (.cons .never (.cons .never (.cons .never (.cons .never (.cons .never (.cons .never (.cons .never .nil))))))))⟩
/-- foe_of -/
def m_foe_of : MDef := ⟨["work", "looks", "open_wires"], ["work", "looks", "open_wires", "rows", "search", "nothing", "worst"], .keep, [], (.cons (.expr (.call "check_asked_plans" (.cons (.v 0 "work") (.cons (.v 1 "looks") (.cons (.v 2 "open_wires") .nil))))) (.cons .never (.cons .never (.cons .never (.cons .never (.cons .never (.cons .never .nil)))))))⟩
/-- follows -/
def m_follows : MDef := ⟨["work", "lot", "looks", "aim"], ["work", "lot", "looks", "aim", "world", "aimed"], .keep, [], (.cons (.expr (.call "check_work" (.cons (.v 0 "work") .nil))) (.cons .never (.cons .never (.cons .never (.cons .never (.cons .never (.cons .never (.cons .never .nil))))))))⟩
/-- is_tree -/
def m_is_tree : MDef := ⟨["work", "lot", "looks", "thing", "goal"], ["work", "lot", "looks", "thing", "goal"], .keep, [.non], (.cons (.expr (.call "check_work" (.cons (.v 0 "work") .nil))) (.cons .never (.cons .never (.cons .never (.cons .never .nil)))))⟩
/-- is_label -/
def m_is_label : MDef := ⟨["work", "looks", "aim", "thing"], ["work", "looks", "aim", "thing", "lots", "clashes", "worlds", "both"], .keep, [], (.cons (.expr (.call "check_asked_labels" (.cons (.v 0 "work") (.cons (.v 1 "looks") (.cons (.v 2 "aim") .nil))))) (.cons .never (.cons .never (.cons .never (.cons .never (.cons .never .nil))))))⟩
/-- is_plan -/
def m_is_plan : MDef := ⟨["work", "looks", "open_wires", "thing"], ["work", "looks", "open_wires", "thing"], .keep, [], (.cons (.expr (.call "check_asked_plans" (.cons (.v 0 "work") (.cons (.v 1 "looks") (.cons (.v 2 "open_wires") .nil))))) (.cons .never .nil))⟩
/-- is_foe -/
def m_is_foe : MDef := ⟨["work", "looks", "open_wires", "number", "thing"], ["work", "looks", "open_wires", "number", "thing"], .keep, [], (.cons (.expr (.call "check_asked_plans" (.cons (.v 0 "work") (.cons (.v 1 "looks") (.cons (.v 2 "open_wires") .nil))))) (.cons .never (.cons .never .nil)))⟩
/-- _law_hand -/
def m__law_hand : MDef := ⟨["_law_script", "_law_k"], ["_law_script", "_law_k", "_law_cell", "_law_seed"], .keep, [], (.cons (.asg (.nm 2 "_law_cell") (.ix (.bin .add (.sl false (.v 0 "_law_script") (.some (.v 1 "_law_k")) (.some (.bin .add (.v 1 "_law_k") (.int 1)))) (.lst false (.cons (.int 0) .nil))) (.int 0))) (.cons (.asg (.nm 3 "_law_seed") (.bin .mod (.bin .mul (.bin .add (.bin .add (.bin .mod (.v 2 "_law_cell") (.int 2147483647)) (.bin .mul (.int 7919) (.v 1 "_law_k"))) (.int 1)) (.int 48271)) (.int 2147483629))) (.cons (.ret (.lst true (.cons (.bin .mul (.bif .int (.cons (.cmp .ge (.v 2 "_law_cell") (.bin .pow (.int 10) (.int 18))) .nil)) (.v 2 "_law_cell")) (.cons (.v 3 "_law_seed") .nil)))) .nil)))⟩
/-- _law_draw -/
def m__law_draw : MDef := ⟨["_law_hand_here", "_law_size"], ["_law_hand_here", "_law_size", "_law_found"], .keep, [], (.cons (.ife (.cmp .gt (.ix (.v 0 "_law_hand_here") (.int 0)) (.int 0)) (.cons (.asg (.nm 2 "_law_found") (.bin .mod (.ix (.v 0 "_law_hand_here") (.int 0)) (.v 1 "_law_size"))) (.cons (.asg (.sub (.v 0 "_law_hand_here") (.int 0)) (.bin .fdiv (.ix (.v 0 "_law_hand_here") (.int 0)) (.v 1 "_law_size"))) (.cons (.ret (.v 2 "_law_found")) .nil))) .nil) (.cons (.asg (.sub (.v 0 "_law_hand_here") (.int 1)) (.bin .mod (.bin .add (.bin .mul (.ix (.v 0 "_law_hand_here") (.int 1)) (.int 48271)) (.int 11)) (.int 2147483647))) (.cons (.ret (.bin .mod (.bin .fdiv (.bin .mod (.bin .mul (.ix (.v 0 "_law_hand_here") (.int 1)) (.ix (.v 0 "_law_hand_here") (.int 1))) (.int 2147483629)) (.int 64)) (.v 1 "_law_size"))) .nil)))⟩
/-- _law_is_refused -/
def m__law_is_refused : MDef := ⟨["_law_door", "_law_given"], ["_law_door", "_law_given", "_law_kept", "e"], .keep, [], (.cons (.asg (.nm 2 "_law_kept") .non) (.cons (.tryAs "NoWork" 3 "e" (.cons (.ife (.cmp .eq (.bif .len (.cons (.v 1 "_law_given") .nil)) (.int 2)) (.cons (.expr (.callV 0 "_law_door" (.cons (.ix (.v 1 "_law_given") (.int 0)) (.cons (.ix (.v 1 "_law_given") (.int 1)) .nil)))) .nil) (.cons (.ife (.cmp .eq (.bif .len (.cons (.v 1 "_law_given") .nil)) (.int 3)) (.cons (.expr (.callV 0 "_law_door" (.cons (.ix (.v 1 "_law_given") (.int 0)) (.cons (.ix (.v 1 "_law_given") (.int 1)) (.cons (.ix (.v 1 "_law_given") (.int 2)) .nil))))) .nil) (.cons (.ife (.cmp .eq (.bif .len (.cons (.v 1 "_law_given") .nil)) (.int 4)) (.cons (.expr (.callV 0 "_law_door" (.cons (.ix (.v 1 "_law_given") (.int 0)) (.cons (.ix (.v 1 "_law_given") (.int 1)) (.cons (.ix (.v 1 "_law_given") (.int 2)) (.cons (.ix (.v 1 "_law_given") (.int 3)) .nil)))))) .nil) (.cons (.expr (.callV 0 "_law_door" (.cons (.ix (.v 1 "_law_given") (.int 0)) (.cons (.ix (.v 1 "_law_given") (.int 1)) (.cons (.ix (.v 1 "_law_given") (.int 2)) (.cons (.ix (.v 1 "_law_given") (.int 3)) (.cons (.ix (.v 1 "_law_given") (.int 4)) .nil))))))) .nil)) .nil)) .nil)) .nil) (.cons (.asg (.nm 2 "_law_kept") (.v 3 "e")) .nil)) (.cons (.ife (.not (.val (.isB "ValueError" (.v 2 "_law_kept")))) (.cons (.ret (.bl false)) .nil) .nil) (.cons (.ret (.cmp .eq (.tup (.cons (.xfld "NoWork" "part" (.v 2 "_law_kept")) (.cons (.xfld "NoWork" "number" (.v 2 "_law_kept")) (.cons (.xfld "NoWork" "tie" (.v 2 "_law_kept")) .nil)))) (.tup (.cons (.str "work") (.cons .non (.cons .non .nil)))))) .nil))))⟩
/-- law -/
def m_law : MDef := ⟨["_law_script"], ["_law_script", "_law_hand_here", "_law_twos", "_law_threes", "_law_fours", "_law_some", "_law_at", "_law_odd", "_law_more", "_law_door"], .keep, [], (.cons (.asg (.nm 1 "_law_hand_here") (.call "_law_hand" (.cons (.v 0 "_law_script") (.cons (.int 0) .nil)))) (.cons (.asg (.nm 2 "_law_twos") (.lst false (.cons (.g "is_world") (.cons (.g "sound_in") (.cons (.g "clashing") (.cons (.g "meeting") (.cons (.g "broken") (.cons (.g "blame_of") (.cons (.g "accounts") .nil))))))))) (.cons (.asg (.nm 3 "_law_threes") (.lst false (.cons (.g "all_worlds") (.cons (.g "first_world") (.cons (.g "count_worlds") (.cons (.g "refuted") (.cons (.g "is_blame") (.cons (.g "lots_of") (.cons (.g "label_row") (.cons (.g "label_of") (.cons (.g "chances") .nil))))))))))) (.cons (.asg (.nm 3 "_law_threes") (.bin .add (.v 3 "_law_threes") (.lst false (.cons (.g "broken_chances") (.cons (.g "worst_plan") (.cons (.g "mean_plan") (.cons (.g "foe_of") .nil))))))) (.cons (.asg (.nm 4 "_law_fours") (.lst false (.cons (.g "follows") (.cons (.g "is_tree") (.cons (.g "is_label") (.cons (.g "is_plan") .nil)))))) (.cons (.asg (.nm 5 "_law_some") (.lst false (.cons .non (.cons (.int 0) (.cons (.str "work") (.cons (.lst false .nil) (.cons (.tup .nil) (.cons (.dct0 false) (.cons (.bl true) (.cons (.tup (.cons (.lst false (.cons (.tup (.cons (.str "a") (.cons (.int 2) .nil))) .nil)) (.cons (.lst false .nil) .nil))) (.cons (.lst false (.cons (.tup (.cons (.str "a") (.cons (.int 2) .nil))) .nil)) (.cons (.str "Work([('a', 2)], [])") .nil)))))))))))) (.cons (.asg (.nm 6 "_law_at") (.call "_law_draw" (.cons (.v 1 "_law_hand_here") (.cons (.bif .len (.cons (.v 5 "_law_some") .nil)) .nil)))) (.cons (.for_ (.lst (.bin .add (.sl false (.v 5 "_law_some") (.some (.v 6 "_law_at")) .none) (.sl false (.v 5 "_law_some") .none (.some (.v 6 "_law_at"))))) (.nm 7 "_law_odd") (.cons (.asg (.nm 8 "_law_more") (.comp false ["_law_turn"] ["_law_hand_here"] [1] (.rng (.cons (.int 4) .nil)) (.nm 0 "_law_turn") .nil (.ix (.lst false (.cons .non (.cons (.lst false .nil) (.cons (.tup .nil) (.cons (.int 0) (.cons (.str "is") .nil)))))) (.call "_law_draw" (.cons (.v 1 "_law_hand_here") (.cons (.int 5) .nil)))))) (.cons (.for_ (.lst (.v 2 "_law_twos")) (.nm 9 "_law_door") (.cons (.ife (.not (.val (.call "_law_is_refused" (.cons (.v 9 "_law_door") (.cons (.bin .add (.lst false (.cons (.v 7 "_law_odd") .nil)) (.sl false (.v 8 "_law_more") .none (.some (.int 1)))) .nil))))) (.cons (.ret (.bl false)) .nil) .nil) .nil)) (.cons (.for_ (.lst (.v 3 "_law_threes")) (.nm 9 "_law_door") (.cons (.ife (.not (.val (.call "_law_is_refused" (.cons (.v 9 "_law_door") (.cons (.bin .add (.lst false (.cons (.v 7 "_law_odd") .nil)) (.sl false (.v 8 "_law_more") .none (.some (.int 2)))) .nil))))) (.cons (.ret (.bl false)) .nil) .nil) .nil)) (.cons (.for_ (.lst (.v 4 "_law_fours")) (.nm 9 "_law_door") (.cons (.ife (.not (.val (.call "_law_is_refused" (.cons (.v 9 "_law_door") (.cons (.bin .add (.lst false (.cons (.v 7 "_law_odd") .nil)) (.sl false (.v 8 "_law_more") .none (.some (.int 3)))) .nil))))) (.cons (.ret (.bl false)) .nil) .nil) .nil)) (.cons (.ife (.not (.val (.call "_law_is_refused" (.cons (.g "is_foe") (.cons (.bin .add (.lst false (.cons (.v 7 "_law_odd") .nil)) (.v 8 "_law_more")) .nil))))) (.cons (.ret (.bl false)) .nil) .nil) .nil)))))) (.cons (.ret (.bl true)) .nil)))))))))⟩
def tab : List (Str × MDef) := [(Str.ofString "check_work", m_check_work), (Str.ofString "check_asked_plans", m_check_asked_plans), (Str.ofString "check_asked_labels", m_check_asked_labels), (Str.ofString "modes_left", m_modes_left), (Str.ofString "is_world", m_is_world), (Str.ofString "sound_in", m_sound_in), (Str.ofString "clashing", m_clashing), (Str.ofString "meeting", m_meeting), (Str.ofString "broken", m_broken), (Str.ofString "blame_of", m_blame_of), (Str.ofString "accounts", m_accounts), (Str.ofString "all_worlds", m_all_worlds), (Str.ofString "first_world", m_first_world), (Str.ofString "count_worlds", m_count_worlds), (Str.ofString "refuted", m_refuted), (Str.ofString "is_blame", m_is_blame), (Str.ofString "lots_of", m_lots_of), (Str.ofString "label_row", m_label_row), (Str.ofString "label_of", m_label_of), (Str.ofString "chances", m_chances), (Str.ofString "broken_chances", m_broken_chances), (Str.ofString "worst_plan", m_worst_plan), (Str.ofString "mean_plan", m_mean_plan), (Str.ofString "foe_of", m_foe_of), (Str.ofString "follows", m_follows), (Str.ofString "is_tree", m_is_tree), (Str.ofString "is_label", m_is_label), (Str.ofString "is_plan", m_is_plan), (Str.ofString "is_foe", m_is_foe), (Str.ofString "_law_hand", m__law_hand), (Str.ofString "_law_draw", m__law_draw), (Str.ofString "_law_is_refused", m__law_is_refused), (Str.ofString "law", m_law)]
def top (i : Nat) : Stmt := PySem.Challenge.pw_leastblame_k33_no_work_at_any_door.main.body.getD i (.Pass ⟨0, 0, 0, 0⟩)
theorem sc_check_work : FnScope m_check_work.N m_check_work.ps (defScope (top 49)) := ⟨rfl, rfl, rfl, by decide +kernel, rfl, by decide +kernel, by decide +kernel⟩
theorem ck_check_work : chkSs m_check_work.body ⟨m_check_work.N, defScope (top 49), true, true⟩ (defBody (top 49)) = true := by decide +kernel
theorem sc_check_asked_plans : FnScope m_check_asked_plans.N m_check_asked_plans.ps (defScope (top 131)) := ⟨rfl, rfl, rfl, by decide +kernel, rfl, by decide +kernel, by decide +kernel⟩
theorem ck_check_asked_plans : chkSs m_check_asked_plans.body ⟨m_check_asked_plans.N, defScope (top 131), true, true⟩ (defBody (top 131)) = true := by decide +kernel
theorem sc_check_asked_labels : FnScope m_check_asked_labels.N m_check_asked_labels.ps (defScope (top 165)) := ⟨rfl, rfl, rfl, by decide +kernel, rfl, by decide +kernel, by decide +kernel⟩
theorem ck_check_asked_labels : chkSs m_check_asked_labels.body ⟨m_check_asked_labels.N, defScope (top 165), true, true⟩ (defBody (top 165)) = true := by decide +kernel
theorem sc_modes_left : FnScope m_modes_left.N m_modes_left.ps (defScope (top 121)) := ⟨rfl, rfl, rfl, by decide +kernel, rfl, by decide +kernel, by decide +kernel⟩
theorem ck_modes_left : chkSs m_modes_left.body ⟨m_modes_left.N, defScope (top 121), true, true⟩ (defBody (top 121)) = true := by decide +kernel
theorem sc_is_world : FnScope m_is_world.N m_is_world.ps (defScope (top 52)) := ⟨rfl, rfl, rfl, by decide +kernel, rfl, by decide +kernel, by decide +kernel⟩
theorem ck_is_world : chkSs m_is_world.body ⟨m_is_world.N, defScope (top 52), true, true⟩ (defBody (top 52)) = true := by decide +kernel
theorem sc_sound_in : FnScope m_sound_in.N m_sound_in.ps (defScope (top 53)) := ⟨rfl, rfl, rfl, by decide +kernel, rfl, by decide +kernel, by decide +kernel⟩
theorem ck_sound_in : chkSs m_sound_in.body ⟨m_sound_in.N, defScope (top 53), true, true⟩ (defBody (top 53)) = true := by decide +kernel
theorem sc_clashing : FnScope m_clashing.N m_clashing.ps (defScope (top 87)) := ⟨rfl, rfl, rfl, by decide +kernel, rfl, by decide +kernel, by decide +kernel⟩
theorem ck_clashing : chkSs m_clashing.body ⟨m_clashing.N, defScope (top 87), true, true⟩ (defBody (top 87)) = true := by decide +kernel
theorem sc_meeting : FnScope m_meeting.N m_meeting.ps (defScope (top 88)) := ⟨rfl, rfl, rfl, by decide +kernel, rfl, by decide +kernel, by decide +kernel⟩
theorem ck_meeting : chkSs m_meeting.body ⟨m_meeting.N, defScope (top 88), true, true⟩ (defBody (top 88)) = true := by decide +kernel
theorem sc_broken : FnScope m_broken.N m_broken.ps (defScope (top 95)) := ⟨rfl, rfl, rfl, by decide +kernel, rfl, by decide +kernel, by decide +kernel⟩
theorem ck_broken : chkSs m_broken.body ⟨m_broken.N, defScope (top 95), true, true⟩ (defBody (top 95)) = true := by decide +kernel
theorem sc_blame_of : FnScope m_blame_of.N m_blame_of.ps (defScope (top 96)) := ⟨rfl, rfl, rfl, by decide +kernel, rfl, by decide +kernel, by decide +kernel⟩
theorem ck_blame_of : chkSs m_blame_of.body ⟨m_blame_of.N, defScope (top 96), true, true⟩ (defBody (top 96)) = true := by decide +kernel
theorem sc_accounts : FnScope m_accounts.N m_accounts.ps (defScope (top 127)) := ⟨rfl, rfl, rfl, by decide +kernel, rfl, by decide +kernel, by decide +kernel⟩
theorem ck_accounts : chkSs m_accounts.body ⟨m_accounts.N, defScope (top 127), true, true⟩ (defBody (top 127)) = true := by decide +kernel
theorem sc_all_worlds : FnScope m_all_worlds.N m_all_worlds.ps (defScope (top 56)) := ⟨rfl, rfl, rfl, by decide +kernel, rfl, by decide +kernel, by decide +kernel⟩
theorem ck_all_worlds : chkSs m_all_worlds.body ⟨m_all_worlds.N, defScope (top 56), true, true⟩ (defBody (top 56)) = true := by decide +kernel
theorem sc_first_world : FnScope m_first_world.N m_first_world.ps (defScope (top 54)) := ⟨rfl, rfl, rfl, by decide +kernel, rfl, by decide +kernel, by decide +kernel⟩
theorem ck_first_world : chkSs m_first_world.body ⟨m_first_world.N, defScope (top 54), true, true⟩ (defBody (top 54)) = true := by decide +kernel
theorem sc_count_worlds : FnScope m_count_worlds.N m_count_worlds.ps (defScope (top 55)) := ⟨rfl, rfl, rfl, by decide +kernel, rfl, by decide +kernel, by decide +kernel⟩
theorem ck_count_worlds : chkSs m_count_worlds.body ⟨m_count_worlds.N, defScope (top 55), true, true⟩ (defBody (top 55)) = true := by decide +kernel
theorem sc_refuted : FnScope m_refuted.N m_refuted.ps (defScope (top 69)) := ⟨rfl, rfl, rfl, by decide +kernel, rfl, by decide +kernel, by decide +kernel⟩
theorem ck_refuted : chkSs m_refuted.body ⟨m_refuted.N, defScope (top 69), true, true⟩ (defBody (top 69)) = true := by decide +kernel
theorem sc_is_blame : FnScope m_is_blame.N m_is_blame.ps (defScope (top 97)) := ⟨rfl, rfl, rfl, by decide +kernel, rfl, by decide +kernel, by decide +kernel⟩
theorem ck_is_blame : chkSs m_is_blame.body ⟨m_is_blame.N, defScope (top 97), true, true⟩ (defBody (top 97)) = true := by decide +kernel
theorem sc_lots_of : FnScope m_lots_of.N m_lots_of.ps (defScope (top 161)) := ⟨rfl, rfl, rfl, by decide +kernel, rfl, by decide +kernel, by decide +kernel⟩
theorem ck_lots_of : chkSs m_lots_of.body ⟨m_lots_of.N, defScope (top 161), true, true⟩ (defBody (top 161)) = true := by decide +kernel
theorem sc_label_row : FnScope m_label_row.N m_label_row.ps (defScope (top 162)) := ⟨rfl, rfl, rfl, by decide +kernel, rfl, by decide +kernel, by decide +kernel⟩
theorem ck_label_row : chkSs m_label_row.body ⟨m_label_row.N, defScope (top 162), true, true⟩ (defBody (top 162)) = true := by decide +kernel
theorem sc_label_of : FnScope m_label_of.N m_label_of.ps (defScope (top 163)) := ⟨rfl, rfl, rfl, by decide +kernel, rfl, by decide +kernel, by decide +kernel⟩
theorem ck_label_of : chkSs m_label_of.body ⟨m_label_of.N, defScope (top 163), true, true⟩ (defBody (top 163)) = true := by decide +kernel
theorem sc_chances : FnScope m_chances.N m_chances.ps (defScope (top 115)) := ⟨rfl, rfl, rfl, by decide +kernel, rfl, by decide +kernel, by decide +kernel⟩
theorem ck_chances : chkSs m_chances.body ⟨m_chances.N, defScope (top 115), true, true⟩ (defBody (top 115)) = true := by decide +kernel
theorem sc_broken_chances : FnScope m_broken_chances.N m_broken_chances.ps (defScope (top 116)) := ⟨rfl, rfl, rfl, by decide +kernel, rfl, by decide +kernel, by decide +kernel⟩
theorem ck_broken_chances : chkSs m_broken_chances.body ⟨m_broken_chances.N, defScope (top 116), true, true⟩ (defBody (top 116)) = true := by decide +kernel
theorem sc_worst_plan : FnScope m_worst_plan.N m_worst_plan.ps (defScope (top 129)) := ⟨rfl, rfl, rfl, by decide +kernel, rfl, by decide +kernel, by decide +kernel⟩
theorem ck_worst_plan : chkSs m_worst_plan.body ⟨m_worst_plan.N, defScope (top 129), true, true⟩ (defBody (top 129)) = true := by decide +kernel
theorem sc_mean_plan : FnScope m_mean_plan.N m_mean_plan.ps (defScope (top 130)) := ⟨rfl, rfl, rfl, by decide +kernel, rfl, by decide +kernel, by decide +kernel⟩
theorem ck_mean_plan : chkSs m_mean_plan.body ⟨m_mean_plan.N, defScope (top 130), true, true⟩ (defBody (top 130)) = true := by decide +kernel
theorem sc_foe_of : FnScope m_foe_of.N m_foe_of.ps (defScope (top 147)) := ⟨rfl, rfl, rfl, by decide +kernel, rfl, by decide +kernel, by decide +kernel⟩
theorem ck_foe_of : chkSs m_foe_of.body ⟨m_foe_of.N, defScope (top 147), true, true⟩ (defBody (top 147)) = true := by decide +kernel
theorem sc_follows : FnScope m_follows.N m_follows.ps (defScope (top 70)) := ⟨rfl, rfl, rfl, by decide +kernel, rfl, by decide +kernel, by decide +kernel⟩
theorem ck_follows : chkSs m_follows.body ⟨m_follows.N, defScope (top 70), true, true⟩ (defBody (top 70)) = true := by decide +kernel
theorem sc_is_tree : FnScope m_is_tree.N m_is_tree.ps (defScope (top 68)) := ⟨rfl, rfl, rfl, by decide +kernel, rfl, by decide +kernel, by decide +kernel⟩
theorem ck_is_tree : chkSs m_is_tree.body ⟨m_is_tree.N, defScope (top 68), true, true⟩ (defBody (top 68)) = true := by decide +kernel
theorem sc_is_label : FnScope m_is_label.N m_is_label.ps (defScope (top 164)) := ⟨rfl, rfl, rfl, by decide +kernel, rfl, by decide +kernel, by decide +kernel⟩
theorem ck_is_label : chkSs m_is_label.body ⟨m_is_label.N, defScope (top 164), true, true⟩ (defBody (top 164)) = true := by decide +kernel
theorem sc_is_plan : FnScope m_is_plan.N m_is_plan.ps (defScope (top 128)) := ⟨rfl, rfl, rfl, by decide +kernel, rfl, by decide +kernel, by decide +kernel⟩
theorem ck_is_plan : chkSs m_is_plan.body ⟨m_is_plan.N, defScope (top 128), true, true⟩ (defBody (top 128)) = true := by decide +kernel
theorem sc_is_foe : FnScope m_is_foe.N m_is_foe.ps (defScope (top 148)) := ⟨rfl, rfl, rfl, by decide +kernel, rfl, by decide +kernel, by decide +kernel⟩
theorem ck_is_foe : chkSs m_is_foe.body ⟨m_is_foe.N, defScope (top 148), true, true⟩ (defBody (top 148)) = true := by decide +kernel
theorem sc__law_hand : FnScope m__law_hand.N m__law_hand.ps (defScope (top 169)) := ⟨rfl, rfl, rfl, by decide +kernel, rfl, by decide +kernel, by decide +kernel⟩
theorem ck__law_hand : chkSs m__law_hand.body ⟨m__law_hand.N, defScope (top 169), true, true⟩ (defBody (top 169)) = true := by decide +kernel
theorem sc__law_draw : FnScope m__law_draw.N m__law_draw.ps (defScope (top 170)) := ⟨rfl, rfl, rfl, by decide +kernel, rfl, by decide +kernel, by decide +kernel⟩
theorem ck__law_draw : chkSs m__law_draw.body ⟨m__law_draw.N, defScope (top 170), true, true⟩ (defBody (top 170)) = true := by decide +kernel
theorem sc__law_is_refused : FnScope m__law_is_refused.N m__law_is_refused.ps (defScope (top 171)) := ⟨rfl, rfl, rfl, by decide +kernel, rfl, by decide +kernel, by decide +kernel⟩
theorem ck__law_is_refused : chkSs m__law_is_refused.body ⟨m__law_is_refused.N, defScope (top 171), true, true⟩ (defBody (top 171)) = true := by decide +kernel
theorem sc_law : FnScope m_law.N m_law.ps (defScope (top 172)) := ⟨rfl, rfl, rfl, by decide +kernel, rfl, by decide +kernel, by decide +kernel⟩
theorem ck_law : chkSs m_law.body ⟨m_law.N, defScope (top 172), true, true⟩ (defBody (top 172)) = true := by decide +kernel
end K33

namespace K33
open PySem PySem.Spec PyProof.Rows PySem.W L2
def doors : List Str := ["is_world", "sound_in", "clashing", "meeting", "broken", "blame_of", "accounts", "all_worlds", "first_world", "count_worlds", "refuted", "is_blame", "lots_of", "label_row", "label_of", "chances", "broken_chances", "worst_plan", "mean_plan", "foe_of", "follows", "is_tree", "is_label", "is_plan", "is_foe"]
def Pg : Prog1 where
  gl := fun x => if doors.contains x = true then some (.fn x) else none
  xf := fun c => if c = "NoWork" then some ["part", "number", "tie"] else none
  ub := fun T => if T = "ValueError" then some ["NoWork"] else none
  ic := fun c => if c = "Work" then some [] else none
  defs := fun x => tab.lookup x
theorem ic_Work : Pg.ic "Work" = some [] := rfl
theorem xf_NoWork : Pg.xf "NoWork" = some (["part", "number", "tie"] : List Str) := rfl
theorem ub_V : Pg.ub "ValueError" = some (["NoWork"] : List Str) := rfl
theorem d_check_work : Pg.defs "check_work" = some m_check_work := rfl
theorem d_check_asked_plans : Pg.defs "check_asked_plans" = some m_check_asked_plans := rfl
theorem d_check_asked_labels : Pg.defs "check_asked_labels" = some m_check_asked_labels := rfl
theorem d_modes_left : Pg.defs "modes_left" = some m_modes_left := rfl
theorem d_is_world : Pg.defs "is_world" = some m_is_world := rfl
theorem d_meeting : Pg.defs "meeting" = some m_meeting := rfl
theorem d_all_worlds : Pg.defs "all_worlds" = some m_all_worlds := rfl
theorem d_is_blame : Pg.defs "is_blame" = some m_is_blame := rfl
theorem d_label_row : Pg.defs "label_row" = some m_label_row := rfl
theorem d_follows : Pg.defs "follows" = some m_follows := rfl
theorem d_is_tree : Pg.defs "is_tree" = some m_is_tree := rfl
theorem d_sound_in : Pg.defs "sound_in" = some m_sound_in := rfl
theorem d_first_world : Pg.defs "first_world" = some m_first_world := rfl
theorem d_count_worlds : Pg.defs "count_worlds" = some m_count_worlds := rfl
theorem d_clashing : Pg.defs "clashing" = some m_clashing := rfl
theorem d_lots_of : Pg.defs "lots_of" = some m_lots_of := rfl
theorem d_chances : Pg.defs "chances" = some m_chances := rfl
theorem d_broken_chances : Pg.defs "broken_chances" = some m_broken_chances := rfl
theorem d_worst_plan : Pg.defs "worst_plan" = some m_worst_plan := rfl
theorem d_mean_plan : Pg.defs "mean_plan" = some m_mean_plan := rfl
theorem d_foe_of : Pg.defs "foe_of" = some m_foe_of := rfl
theorem d_is_plan : Pg.defs "is_plan" = some m_is_plan := rfl
theorem d_is_foe : Pg.defs "is_foe" = some m_is_foe := rfl
theorem d_is_label : Pg.defs "is_label" = some m_is_label := rfl
theorem d_label_of : Pg.defs "label_of" = some m_label_of := rfl
theorem d_refuted : Pg.defs "refuted" = some m_refuted := rfl
theorem d_broken : Pg.defs "broken" = some m_broken := rfl
theorem d_blame_of : Pg.defs "blame_of" = some m_blame_of := rfl
theorem d_accounts : Pg.defs "accounts" = some m_accounts := rfl
theorem d__law_hand : Pg.defs "_law_hand" = some m__law_hand := rfl
theorem d__law_draw : Pg.defs "_law_draw" = some m__law_draw := rfl
theorem d__law_is_refused : Pg.defs "_law_is_refused" = some m__law_is_refused := rfl
theorem d_law : Pg.defs "law" = some m_law := rfl
def nwf : List (Str × D) := [("part", .str "work"), ("number", .non), ("tie", .non)]
def Odd (M : MS) (d : D) : Prop := insOf M d = none ∧ ∃ t, tyD M d = some t
section
variable {k : Nat} {M : MS} {d a1 a2 a3 a4 : D}
theorem r_check_work (h : Odd M d) : run1 Pg (k + 1) "check_work" [d] M = some (.ex "NoWork" nwf M) := by
  rw [run1_some d_check_work]
  obtain ⟨h1, t, h2⟩ := h
  simp [m_check_work, runB, mFn, evSs, evS, evT, evE, evA, mSeq, mIfS, mNot, mTru, mIsCC, mUn, mVar, rb, sb, truD, mRaise, lenX, mCons, mNil, mC, cloEx, cloOk, mDrop, mB, mCallF, mAsg, mRet, mDcompX, evI, fiL, evG, nG, mTryAsC, mTryAs, backAs, gTupD, sizeLine_eq, gIsC, ic_Work, xf_NoWork, h1, h2, nwf]
theorem r_check_asked_plans (h : Odd M d) : run1 Pg (k + 2) "check_asked_plans" [d, a1, a2] M = some (.ex "NoWork" nwf M) := by
  rw [run1_some d_check_asked_plans]
  simp [m_check_asked_plans, runB, mFn, evSs, evS, evT, evE, evA, mSeq, mIfS, mNot, mTru, mIsCC, mUn, mVar, rb, sb, truD, mRaise, lenX, mCons, mNil, mC, cloEx, cloOk, mDrop, mB, mCallF, mAsg, mRet, mDcompX, evI, fiL, evG, nG, mTryAsC, mTryAs, backAs, gTupD, sizeLine_eq, d_check_work, d_meeting, r_check_work (k := k) h]
theorem r_check_asked_labels (h : Odd M d) : run1 Pg (k + 2) "check_asked_labels" [d, a1, a2] M = some (.ex "NoWork" nwf M) := by
  rw [run1_some d_check_asked_labels]
  simp [m_check_asked_labels, runB, mFn, evSs, evS, evT, evE, evA, mSeq, mIfS, mNot, mTru, mIsCC, mUn, mVar, rb, sb, truD, mRaise, lenX, mCons, mNil, mC, cloEx, cloOk, mDrop, mB, mCallF, mAsg, mRet, mDcompX, evI, fiL, evG, nG, mTryAsC, mTryAs, backAs, gTupD, sizeLine_eq, d_check_work, d_meeting, r_check_work (k := k) h]
theorem r_modes_left (h : Odd M d) : run1 Pg (k + 2) "modes_left" [d, a1, a2] M = some (.ex "NoWork" nwf M) := by
  rw [run1_some d_modes_left]
  simp [m_modes_left, runB, mFn, evSs, evS, evT, evE, evA, mSeq, mIfS, mNot, mTru, mIsCC, mUn, mVar, rb, sb, truD, mRaise, lenX, mCons, mNil, mC, cloEx, cloOk, mDrop, mB, mCallF, mAsg, mRet, mDcompX, evI, fiL, evG, nG, mTryAsC, mTryAs, backAs, gTupD, sizeLine_eq, d_check_work, d_meeting, r_check_work (k := k) h]
theorem r_is_world (h : Odd M d) : run1 Pg (k + 2) "is_world" [d, a1] M = some (.ex "NoWork" nwf M) := by
  rw [run1_some d_is_world]
  simp [m_is_world, runB, mFn, evSs, evS, evT, evE, evA, mSeq, mIfS, mNot, mTru, mIsCC, mUn, mVar, rb, sb, truD, mRaise, lenX, mCons, mNil, mC, cloEx, cloOk, mDrop, mB, mCallF, mAsg, mRet, mDcompX, evI, fiL, evG, nG, mTryAsC, mTryAs, backAs, gTupD, sizeLine_eq, d_check_work, d_meeting, r_check_work (k := k) h]
theorem r_meeting (h : Odd M d) : run1 Pg (k + 2) "meeting" [d, a1] M = some (.ex "NoWork" nwf M) := by
  rw [run1_some d_meeting]
  simp [m_meeting, runB, mFn, evSs, evS, evT, evE, evA, mSeq, mIfS, mNot, mTru, mIsCC, mUn, mVar, rb, sb, truD, mRaise, lenX, mCons, mNil, mC, cloEx, cloOk, mDrop, mB, mCallF, mAsg, mRet, mDcompX, evI, fiL, evG, nG, mTryAsC, mTryAs, backAs, gTupD, sizeLine_eq, d_check_work, d_meeting, r_check_work (k := k) h]
theorem r_all_worlds (h : Odd M d) : run1 Pg (k + 2) "all_worlds" [d, a1, a2] M = some (.ex "NoWork" nwf M) := by
  rw [run1_some d_all_worlds]
  simp [m_all_worlds, runB, mFn, evSs, evS, evT, evE, evA, mSeq, mIfS, mNot, mTru, mIsCC, mUn, mVar, rb, sb, truD, mRaise, lenX, mCons, mNil, mC, cloEx, cloOk, mDrop, mB, mCallF, mAsg, mRet, mDcompX, evI, fiL, evG, nG, mTryAsC, mTryAs, backAs, gTupD, sizeLine_eq, d_check_work, d_meeting, r_check_work (k := k) h]
theorem r_is_blame (h : Odd M d) : run1 Pg (k + 2) "is_blame" [d, a1, a2] M = some (.ex "NoWork" nwf M) := by
  rw [run1_some d_is_blame]
  simp [m_is_blame, runB, mFn, evSs, evS, evT, evE, evA, mSeq, mIfS, mNot, mTru, mIsCC, mUn, mVar, rb, sb, truD, mRaise, lenX, mCons, mNil, mC, cloEx, cloOk, mDrop, mB, mCallF, mAsg, mRet, mDcompX, evI, fiL, evG, nG, mTryAsC, mTryAs, backAs, gTupD, sizeLine_eq, d_check_work, d_meeting, r_check_work (k := k) h]
theorem r_label_row (h : Odd M d) : run1 Pg (k + 2) "label_row" [d, a1, a2] M = some (.ex "NoWork" nwf M) := by
  rw [run1_some d_label_row]
  simp [m_label_row, runB, mFn, evSs, evS, evT, evE, evA, mSeq, mIfS, mNot, mTru, mIsCC, mUn, mVar, rb, sb, truD, mRaise, lenX, mCons, mNil, mC, cloEx, cloOk, mDrop, mB, mCallF, mAsg, mRet, mDcompX, evI, fiL, evG, nG, mTryAsC, mTryAs, backAs, gTupD, sizeLine_eq, d_check_work, d_meeting, r_check_work (k := k) h]
theorem r_follows (h : Odd M d) : run1 Pg (k + 2) "follows" [d, a1, a2, a3] M = some (.ex "NoWork" nwf M) := by
  rw [run1_some d_follows]
  simp [m_follows, runB, mFn, evSs, evS, evT, evE, evA, mSeq, mIfS, mNot, mTru, mIsCC, mUn, mVar, rb, sb, truD, mRaise, lenX, mCons, mNil, mC, cloEx, cloOk, mDrop, mB, mCallF, mAsg, mRet, mDcompX, evI, fiL, evG, nG, mTryAsC, mTryAs, backAs, gTupD, sizeLine_eq, d_check_work, d_meeting, r_check_work (k := k) h]
theorem r_is_tree (h : Odd M d) : run1 Pg (k + 2) "is_tree" [d, a1, a2, a3] M = some (.ex "NoWork" nwf M) := by
  rw [run1_some d_is_tree]
  simp [m_is_tree, runB, mFn, evSs, evS, evT, evE, evA, mSeq, mIfS, mNot, mTru, mIsCC, mUn, mVar, rb, sb, truD, mRaise, lenX, mCons, mNil, mC, cloEx, cloOk, mDrop, mB, mCallF, mAsg, mRet, mDcompX, evI, fiL, evG, nG, mTryAsC, mTryAs, backAs, gTupD, sizeLine_eq, d_check_work, d_meeting, r_check_work (k := k) h]
theorem r_sound_in (h : Odd M d) : run1 Pg (k + 3) "sound_in" [d, a1] M = some (.ex "NoWork" nwf M) := by
  rw [run1_some d_sound_in]
  simp [m_sound_in, runB, mFn, evSs, evS, evT, evE, evA, mSeq, mIfS, mNot, mTru, mIsCC, mUn, mVar, rb, sb, truD, mRaise, lenX, mCons, mNil, mC, cloEx, cloOk, mDrop, mB, mCallF, mAsg, mRet, mDcompX, evI, fiL, evG, nG, mTryAsC, mTryAs, backAs, gTupD, sizeLine_eq, d_is_world, d_meeting, r_is_world (k := k) h]
theorem r_first_world (h : Odd M d) : run1 Pg (k + 3) "first_world" [d, a1, a2] M = some (.ex "NoWork" nwf M) := by
  rw [run1_some d_first_world]
  simp [m_first_world, runB, mFn, evSs, evS, evT, evE, evA, mSeq, mIfS, mNot, mTru, mIsCC, mUn, mVar, rb, sb, truD, mRaise, lenX, mCons, mNil, mC, cloEx, cloOk, mDrop, mB, mCallF, mAsg, mRet, mDcompX, evI, fiL, evG, nG, mTryAsC, mTryAs, backAs, gTupD, sizeLine_eq, d_all_worlds, d_meeting, r_all_worlds (k := k) h]
theorem r_count_worlds (h : Odd M d) : run1 Pg (k + 3) "count_worlds" [d, a1, a2] M = some (.ex "NoWork" nwf M) := by
  rw [run1_some d_count_worlds]
  simp [m_count_worlds, runB, mFn, evSs, evS, evT, evE, evA, mSeq, mIfS, mNot, mTru, mIsCC, mUn, mVar, rb, sb, truD, mRaise, lenX, mCons, mNil, mC, cloEx, cloOk, mDrop, mB, mCallF, mAsg, mRet, mDcompX, evI, fiL, evG, nG, mTryAsC, mTryAs, backAs, gTupD, sizeLine_eq, d_all_worlds, d_meeting, r_all_worlds (k := k) h]
theorem r_clashing (h : Odd M d) : run1 Pg (k + 3) "clashing" [d, a1] M = some (.ex "NoWork" nwf M) := by
  rw [run1_some d_clashing]
  simp [m_clashing, runB, mFn, evSs, evS, evT, evE, evA, mSeq, mIfS, mNot, mTru, mIsCC, mUn, mVar, rb, sb, truD, mRaise, lenX, mCons, mNil, mC, cloEx, cloOk, mDrop, mB, mCallF, mAsg, mRet, mDcompX, evI, fiL, evG, nG, mTryAsC, mTryAs, backAs, gTupD, sizeLine_eq, d_all_worlds, d_meeting, r_all_worlds (k := k) h]
theorem r_lots_of (h : Odd M d) : run1 Pg (k + 3) "lots_of" [d, a1, a2] M = some (.ex "NoWork" nwf M) := by
  rw [run1_some d_lots_of]
  simp [m_lots_of, runB, mFn, evSs, evS, evT, evE, evA, mSeq, mIfS, mNot, mTru, mIsCC, mUn, mVar, rb, sb, truD, mRaise, lenX, mCons, mNil, mC, cloEx, cloOk, mDrop, mB, mCallF, mAsg, mRet, mDcompX, evI, fiL, evG, nG, mTryAsC, mTryAs, backAs, gTupD, sizeLine_eq, d_check_asked_labels, d_meeting, r_check_asked_labels (k := k) h]
theorem r_chances (h : Odd M d) : run1 Pg (k + 3) "chances" [d, a1, a2] M = some (.ex "NoWork" nwf M) := by
  rw [run1_some d_chances]
  simp [m_chances, runB, mFn, evSs, evS, evT, evE, evA, mSeq, mIfS, mNot, mTru, mIsCC, mUn, mVar, rb, sb, truD, mRaise, lenX, mCons, mNil, mC, cloEx, cloOk, mDrop, mB, mCallF, mAsg, mRet, mDcompX, evI, fiL, evG, nG, mTryAsC, mTryAs, backAs, gTupD, sizeLine_eq, d_modes_left, d_meeting, r_modes_left (k := k) h]
theorem r_broken_chances (h : Odd M d) : run1 Pg (k + 3) "broken_chances" [d, a1, a2] M = some (.ex "NoWork" nwf M) := by
  rw [run1_some d_broken_chances]
  simp [m_broken_chances, runB, mFn, evSs, evS, evT, evE, evA, mSeq, mIfS, mNot, mTru, mIsCC, mUn, mVar, rb, sb, truD, mRaise, lenX, mCons, mNil, mC, cloEx, cloOk, mDrop, mB, mCallF, mAsg, mRet, mDcompX, evI, fiL, evG, nG, mTryAsC, mTryAs, backAs, gTupD, sizeLine_eq, d_modes_left, d_meeting, r_modes_left (k := k) h]
theorem r_worst_plan (h : Odd M d) : run1 Pg (k + 3) "worst_plan" [d, a1, a2] M = some (.ex "NoWork" nwf M) := by
  rw [run1_some d_worst_plan]
  simp [m_worst_plan, runB, mFn, evSs, evS, evT, evE, evA, mSeq, mIfS, mNot, mTru, mIsCC, mUn, mVar, rb, sb, truD, mRaise, lenX, mCons, mNil, mC, cloEx, cloOk, mDrop, mB, mCallF, mAsg, mRet, mDcompX, evI, fiL, evG, nG, mTryAsC, mTryAs, backAs, gTupD, sizeLine_eq, d_check_asked_plans, d_meeting, r_check_asked_plans (k := k) h]
theorem r_mean_plan (h : Odd M d) : run1 Pg (k + 3) "mean_plan" [d, a1, a2] M = some (.ex "NoWork" nwf M) := by
  rw [run1_some d_mean_plan]
  simp [m_mean_plan, runB, mFn, evSs, evS, evT, evE, evA, mSeq, mIfS, mNot, mTru, mIsCC, mUn, mVar, rb, sb, truD, mRaise, lenX, mCons, mNil, mC, cloEx, cloOk, mDrop, mB, mCallF, mAsg, mRet, mDcompX, evI, fiL, evG, nG, mTryAsC, mTryAs, backAs, gTupD, sizeLine_eq, d_check_asked_plans, d_meeting, r_check_asked_plans (k := k) h]
theorem r_foe_of (h : Odd M d) : run1 Pg (k + 3) "foe_of" [d, a1, a2] M = some (.ex "NoWork" nwf M) := by
  rw [run1_some d_foe_of]
  simp [m_foe_of, runB, mFn, evSs, evS, evT, evE, evA, mSeq, mIfS, mNot, mTru, mIsCC, mUn, mVar, rb, sb, truD, mRaise, lenX, mCons, mNil, mC, cloEx, cloOk, mDrop, mB, mCallF, mAsg, mRet, mDcompX, evI, fiL, evG, nG, mTryAsC, mTryAs, backAs, gTupD, sizeLine_eq, d_check_asked_plans, d_meeting, r_check_asked_plans (k := k) h]
theorem r_is_plan (h : Odd M d) : run1 Pg (k + 3) "is_plan" [d, a1, a2, a3] M = some (.ex "NoWork" nwf M) := by
  rw [run1_some d_is_plan]
  simp [m_is_plan, runB, mFn, evSs, evS, evT, evE, evA, mSeq, mIfS, mNot, mTru, mIsCC, mUn, mVar, rb, sb, truD, mRaise, lenX, mCons, mNil, mC, cloEx, cloOk, mDrop, mB, mCallF, mAsg, mRet, mDcompX, evI, fiL, evG, nG, mTryAsC, mTryAs, backAs, gTupD, sizeLine_eq, d_check_asked_plans, d_meeting, r_check_asked_plans (k := k) h]
theorem r_is_foe (h : Odd M d) : run1 Pg (k + 3) "is_foe" [d, a1, a2, a3, a4] M = some (.ex "NoWork" nwf M) := by
  rw [run1_some d_is_foe]
  simp [m_is_foe, runB, mFn, evSs, evS, evT, evE, evA, mSeq, mIfS, mNot, mTru, mIsCC, mUn, mVar, rb, sb, truD, mRaise, lenX, mCons, mNil, mC, cloEx, cloOk, mDrop, mB, mCallF, mAsg, mRet, mDcompX, evI, fiL, evG, nG, mTryAsC, mTryAs, backAs, gTupD, sizeLine_eq, d_check_asked_plans, d_meeting, r_check_asked_plans (k := k) h]
theorem r_is_label (h : Odd M d) : run1 Pg (k + 3) "is_label" [d, a1, a2, a3] M = some (.ex "NoWork" nwf M) := by
  rw [run1_some d_is_label]
  simp [m_is_label, runB, mFn, evSs, evS, evT, evE, evA, mSeq, mIfS, mNot, mTru, mIsCC, mUn, mVar, rb, sb, truD, mRaise, lenX, mCons, mNil, mC, cloEx, cloOk, mDrop, mB, mCallF, mAsg, mRet, mDcompX, evI, fiL, evG, nG, mTryAsC, mTryAs, backAs, gTupD, sizeLine_eq, d_check_asked_labels, d_meeting, r_check_asked_labels (k := k) h]
theorem r_label_of (h : Odd M d) : run1 Pg (k + 4) "label_of" [d, a1, a2] M = some (.ex "NoWork" nwf M) := by
  rw [run1_some d_label_of]
  simp [m_label_of, runB, mFn, evSs, evS, evT, evE, evA, mSeq, mIfS, mNot, mTru, mIsCC, mUn, mVar, rb, sb, truD, mRaise, lenX, mCons, mNil, mC, cloEx, cloOk, mDrop, mB, mCallF, mAsg, mRet, mDcompX, evI, fiL, evG, nG, mTryAsC, mTryAs, backAs, gTupD, sizeLine_eq, d_lots_of, d_meeting, r_lots_of (k := k) h]
theorem r_refuted (h : Odd M d) : run1 Pg (k + 4) "refuted" [d, a1, a2] M = some (.ex "NoWork" nwf M) := by
  rw [run1_some d_refuted]
  simp [m_refuted, runB, mFn, evSs, evS, evT, evE, evA, mSeq, mIfS, mNot, mTru, mIsCC, mUn, mVar, rb, sb, truD, mRaise, lenX, mCons, mNil, mC, cloEx, cloOk, mDrop, mB, mCallF, mAsg, mRet, mDcompX, evI, fiL, evG, nG, mTryAsC, mTryAs, backAs, gTupD, sizeLine_eq, d_first_world, d_meeting, r_first_world (k := k) h]
theorem r_broken (h : Odd M d) : run1 Pg (k + 4) "broken" [d, a1] M = some (.ex "NoWork" nwf M) := by
  rw [run1_some d_broken]
  simp [m_broken, runB, mFn, evSs, evS, evT, evE, evA, mSeq, mIfS, mNot, mTru, mIsCC, mUn, mVar, rb, sb, truD, mRaise, lenX, mCons, mNil, mC, cloEx, cloOk, mDrop, mB, mCallF, mAsg, mRet, mDcompX, evI, fiL, evG, nG, mTryAsC, mTryAs, backAs, gTupD, sizeLine_eq, d_clashing, d_meeting, r_clashing (k := k) h]
theorem r_blame_of (h : Odd M d) : run1 Pg (k + 4) "blame_of" [d, a1] M = some (.ex "NoWork" nwf M) := by
  rw [run1_some d_blame_of]
  simp [m_blame_of, runB, mFn, evSs, evS, evT, evE, evA, mSeq, mIfS, mNot, mTru, mIsCC, mUn, mVar, rb, sb, truD, mRaise, lenX, mCons, mNil, mC, cloEx, cloOk, mDrop, mB, mCallF, mAsg, mRet, mDcompX, evI, fiL, evG, nG, mTryAsC, mTryAs, backAs, gTupD, sizeLine_eq, d_clashing, d_meeting, r_clashing (k := k) h]
theorem r_accounts (h : Odd M d) : run1 Pg (k + 5) "accounts" [d, a1] M = some (.ex "NoWork" nwf M) := by
  rw [run1_some d_accounts]
  simp [m_accounts, runB, mFn, evSs, evS, evT, evE, evA, mSeq, mIfS, mNot, mTru, mIsCC, mUn, mVar, rb, sb, truD, mRaise, lenX, mCons, mNil, mC, cloEx, cloOk, mDrop, mB, mCallF, mAsg, mRet, mDcompX, evI, fiL, evG, nG, mTryAsC, mTryAs, backAs, gTupD, sizeLine_eq, d_broken, d_meeting, r_broken (k := k) h]
end
end K33

namespace K33
open PySem PySem.Spec PyProof.Rows PySem.W L2
theorem draw_ok {k : Nat} {M : MS} {h : Nat} {a b s : Int} (hM : M[h]? = some (.lst [.int a, .int b])) (hs : 0 < s) (hs2 : s < 1073741824) :
    ∃ r a' b', run1 Pg (k + 1) "_law_draw" [.ref h, .int s] M = some (.ok (.int r) (M.set h (.lst [.int a', .int b']))) ∧ 0 ≤ r ∧ r < s := by
  rw [run1_some d__law_draw]
  have hl : h < M.length := (List.getElem?_eq_some_iff.mp hM).1
  have hset : ∀ x : MObj, (M.set h x)[h]? = some x := fun x => List.getElem?_set_self hl
  by_cases ha : 0 < a
  · refine ⟨a % s, a / s, b, ?_, Int.emod_nonneg _ (by omega), Int.emod_lt_of_pos _ hs⟩
    simp [m__law_draw, runB, mFn, evSs, evS, evT, evE, mSeq, mIfS, tru, mOp, sem2, gI0, gI, gIx, lstOf, hM, atI, ixN, mVar, rb, sb, mC, mAsg, evG, nG, nGSub, re, cDiv, cloOk, mRet, ha, hs, hs2]
  · refine ⟨((b * 48271 + 11) % 2147483647) * ((b * 48271 + 11) % 2147483647) % 2147483629 / 64 % s, a, (b * 48271 + 11) % 2147483647, ?_, Int.emod_nonneg _ (by omega), Int.emod_lt_of_pos _ hs⟩
    have c1 : cMul b 48271 = true := by simp [cMul]
    have c2 : cMul ((b * 48271 + 11) % 2147483647) ((b * 48271 + 11) % 2147483647) = true := by
      have h1 := Int.emod_nonneg (b * 48271 + 11) (b := 2147483647) (by decide)
      have h2 := Int.emod_lt_of_pos (b * 48271 + 11) (b := 2147483647) (by decide)
      simp only [cMul, Bool.or_eq_true, Bool.and_eq_true, decide_eq_true_eq]
      omega
    simp [m__law_draw, runB, mFn, evSs, evS, evT, evE, mSeq, mIfS, tru, mOp, sem2, gI0, gI, gAdd, gIx, lstOf, hM, atI, ixN, mVar, rb, sb, mC, mAsg, evG, nG, nGSub, re, cDiv, cloOk, mRet, ha, hs, hs2, c1, c2, mNext, hset]
theorem cut0 (ns : List Int) : ∃ c : Int, ∃ r, cutL (ns.map D.int) (some 0) (some 1) ++ [D.int 0] = D.int c :: r := by
  cases ns with
  | nil => exact ⟨0, [], rfl⟩
  | cons n ns =>
    refine ⟨n, [D.int 0], ?_⟩
    simp [cutL, HT.sIx]
theorem hand_ok {k : Nat} {M : MS} {ns : List Int} (hn : ns.length ≤ 63) : ∃ a b, run1 Pg (k + 1) "_law_hand" [scr ns, .int 0] M = some (.ok (.ref M.length) (M ++ [.lst [.int a, .int b]])) := by
  rw [run1_some d__law_hand]
  obtain ⟨c, r, hc⟩ := cut0 ns
  have hlen : (cutL (ns.map D.int) (some 0) (some 1)).length + 1 ≤ 16777216 := by
    have := cutL_all (ns.map D.int) (some 0) (some 1)
    rw [List.length_map] at this
    omega
  have c1 : ∀ x : Int, cMul x 48271 = true := fun x => by simp [cMul]
  have c2 : ∀ x : Int, cMul 7919 x = true := fun x => by simp [cMul]
  have c3 : ∀ x : Int, cMul 1 x = true := fun x => by simp [cMul]
  have c4 : ∀ x : Int, cMul 0 x = true := fun x => by simp [cMul]
  by_cases hb : 1000000000000000000 ≤ c
  · refine ⟨c, (c % 2147483647 + 1) * 48271 % 2147483629, ?_⟩
    simp [m__law_hand, scr, runB, mFn, evSs, evS, evT, evE, evA, evO, mSeq, mIfS, mOp, mB, mCons, mNil, mSl, oS, gSl, newL, lstOf, lstIn, gAdd, gLstD, sem2, gI0, gI, gIx, atI, ixN, mVar, rb, sb, mC, mAsg, evG, nG, cDiv, cPow, cloOk, mRet, hc, hlen, c1, c2, c3, c4, semB, gInt, sizeLine_eq, hb]
  · refine ⟨0, (c % 2147483647 + 1) * 48271 % 2147483629, ?_⟩
    simp [m__law_hand, scr, runB, mFn, evSs, evS, evT, evE, evA, evO, mSeq, mIfS, mOp, mB, mCons, mNil, mSl, oS, gSl, newL, lstOf, lstIn, gAdd, gLstD, sem2, gI0, gI, gIx, atI, ixN, mVar, rb, sb, mC, mAsg, evG, nG, cDiv, cPow, cloOk, mRet, hc, hlen, c1, c2, c3, c4, semB, gInt, sizeLine_eq, hb]
theorem eq_nw {M : MS} : gEq id (.tup [.str "work", .non, .non]) (.tup [.str "work", .non, .non]) M = some (.ok (.bl true) M) := by
  have h : PyData.strOk "work" = true := by decide +kernel
  simp [gEq, toPy, L2.D.py, pyAll, SeqAt.shaped, PyData.canLay0, PyData.canLayAll0, PyData.depth, PyData.depthAll, PyData.eqv, PyData.eqvAll, h]
theorem lk1 : List.lookup (Str.ofString "part") [(Str.ofString "part", D.str (Str.ofString "work")), (Str.ofString "number", D.non), (Str.ofString "tie", D.non)] = some (D.str (Str.ofString "work")) := by rfl
theorem lk2 : List.lookup (Str.ofString "number") [(Str.ofString "part", D.str (Str.ofString "work")), (Str.ofString "number", D.non), (Str.ofString "tie", D.non)] = some D.non := by rfl
theorem lk3 : List.lookup (Str.ofString "tie") [(Str.ofString "part", D.str (Str.ofString "work")), (Str.ofString "number", D.non), (Str.ofString "tie", D.non)] = some D.non := by rfl
theorem ct1 : (["part", "number", "tie"] : List Str).contains "part" = true := by rfl
theorem ct2 : (["part", "number", "tie"] : List Str).contains "number" = true := by rfl
theorem ct3 : (["part", "number", "tie"] : List Str).contains "tie" = true := by rfl
theorem ct4 : (["NoWork"] : List Str).contains "NoWork" = true := by rfl
theorem refused_ok {k : Nat} {M : MS} {f : Str} {d : D} {rest : List D} (hk : (Pg.defs f).isSome = true) (hl : rest.length = 1 ∨ rest.length = 2 ∨ rest.length = 3 ∨ rest.length = 4) (hf : run1 Pg k f (d :: rest) M = some (.ex "NoWork" nwf M)) :
    run1 Pg (k + 1) "_law_is_refused" [.fn f, .lst (d :: rest)] M = some (.ok (.bl true) M) := by
  rw [run1_some d__law_is_refused]
  rcases hl with hl | hl | hl | hl
  · match rest, hl with
    | [a1], _ => simp [m__law_is_refused, runB, mFn, evSs, evS, evT, evE, evA, mSeq, mIfS, mOp, mB, mCons, mNil, mVar, rb, sb, mC, mAsg, evG, nG, mTryAsC, mTryAs, backAs, xf_NoWork, tru, sem2, gEq_int, eq_nw, semB, gLen, lstOf, mCallV, hk, hf, mDrop, gIx, atI, ixN, mNot, mTru, mIsBC, ub_V, mUn, gIsB, truD, mXFldC, gXFld, nwf, lk1, lk2, lk3, ct1, ct2, ct3, ct4, gTupD, sizeLine_eq, mRet, cloOk, mNext]
  · match rest, hl with
    | [a1, a2], _ => simp [m__law_is_refused, runB, mFn, evSs, evS, evT, evE, evA, mSeq, mIfS, mOp, mB, mCons, mNil, mVar, rb, sb, mC, mAsg, evG, nG, mTryAsC, mTryAs, backAs, xf_NoWork, tru, sem2, gEq_int, eq_nw, semB, gLen, lstOf, mCallV, hk, hf, mDrop, gIx, atI, ixN, mNot, mTru, mIsBC, ub_V, mUn, gIsB, truD, mXFldC, gXFld, nwf, lk1, lk2, lk3, ct1, ct2, ct3, ct4, gTupD, sizeLine_eq, mRet, cloOk, mNext]
  · match rest, hl with
    | [a1, a2, a3], _ => simp [m__law_is_refused, runB, mFn, evSs, evS, evT, evE, evA, mSeq, mIfS, mOp, mB, mCons, mNil, mVar, rb, sb, mC, mAsg, evG, nG, mTryAsC, mTryAs, backAs, xf_NoWork, tru, sem2, gEq_int, eq_nw, semB, gLen, lstOf, mCallV, hk, hf, mDrop, gIx, atI, ixN, mNot, mTru, mIsBC, ub_V, mUn, gIsB, truD, mXFldC, gXFld, nwf, lk1, lk2, lk3, ct1, ct2, ct3, ct4, gTupD, sizeLine_eq, mRet, cloOk, mNext]
  · match rest, hl with
    | [a1, a2, a3, a4], _ => simp [m__law_is_refused, runB, mFn, evSs, evS, evT, evE, evA, mSeq, mIfS, mOp, mB, mCons, mNil, mVar, rb, sb, mC, mAsg, evG, nG, mTryAsC, mTryAs, backAs, xf_NoWork, tru, sem2, gEq_int, eq_nw, semB, gLen, lstOf, mCallV, hk, hf, mDrop, gIx, atI, ixN, mNot, mTru, mIsBC, ub_V, mUn, gIsB, truD, mXFldC, gXFld, nwf, lk1, lk2, lk3, ct1, ct2, ct3, ct4, gTupD, sizeLine_eq, mRet, cloOk, mNext]
end K33

namespace K33
open PySem PySem.Spec PyProof.Rows PySem.W L2
def twos : List D := [.fn "is_world", .fn "sound_in", .fn "clashing", .fn "meeting", .fn "broken", .fn "blame_of", .fn "accounts"]
def threes : List D := [.fn "all_worlds", .fn "first_world", .fn "count_worlds", .fn "refuted", .fn "is_blame", .fn "lots_of", .fn "label_row", .fn "label_of", .fn "chances", .fn "broken_chances", .fn "worst_plan", .fn "mean_plan", .fn "foe_of"]
def fours : List D := [.fn "follows", .fn "is_tree", .fn "is_label", .fn "is_plan"]
def somes : List D := [.non, .int 0, .str "work", .lst [], .tup [], .dct [], .bl true, .tup [.lst [.tup [.str "a", .int 2]], .lst []], .lst [.tup [.str "a", .int 2]], .str "Work([('a', 2)], [])"]
theorem somes_odd {M : MS} {d : D} (h : d ∈ somes) : Odd M d := by
  simp only [somes, List.mem_cons, List.not_mem_nil, or_false] at h
  rcases h with rfl | rfl | rfl | rfl | rfl | rfl | rfl | rfl | rfl | rfl <;> exact ⟨rfl, _, rfl⟩
/-- each door refuses -/
def Ref (n : Nat) (x : D) : Prop := ∃ f, x = .fn f ∧ (Pg.defs f).isSome = true ∧ ∀ (M : MS) (d : D) (rest : List D), Odd M d → rest.length = n → run1 Pg 38 f (d :: rest) M = some (.ex "NoWork" nwf M)
theorem twos_ref {x : D} (h : x ∈ twos) : Ref 1 x := by
  simp only [twos, List.mem_cons, List.not_mem_nil, or_false] at h
  rcases h with rfl | rfl | rfl | rfl | rfl | rfl | rfl
  · exact ⟨_, rfl, rfl, fun M d rest ho hl => match rest, hl with | [a1], _ => r_is_world (k := 36) ho⟩
  · exact ⟨_, rfl, rfl, fun M d rest ho hl => match rest, hl with | [a1], _ => r_sound_in (k := 35) ho⟩
  · exact ⟨_, rfl, rfl, fun M d rest ho hl => match rest, hl with | [a1], _ => r_clashing (k := 35) ho⟩
  · exact ⟨_, rfl, rfl, fun M d rest ho hl => match rest, hl with | [a1], _ => r_meeting (k := 36) ho⟩
  · exact ⟨_, rfl, rfl, fun M d rest ho hl => match rest, hl with | [a1], _ => r_broken (k := 34) ho⟩
  · exact ⟨_, rfl, rfl, fun M d rest ho hl => match rest, hl with | [a1], _ => r_blame_of (k := 34) ho⟩
  · exact ⟨_, rfl, rfl, fun M d rest ho hl => match rest, hl with | [a1], _ => r_accounts (k := 33) ho⟩
theorem threes_ref {x : D} (h : x ∈ threes) : Ref 2 x := by
  simp only [threes, List.mem_cons, List.not_mem_nil, or_false] at h
  rcases h with rfl | rfl | rfl | rfl | rfl | rfl | rfl | rfl | rfl | rfl | rfl | rfl | rfl
  · exact ⟨_, rfl, rfl, fun M d rest ho hl => match rest, hl with | [a1, a2], _ => r_all_worlds (k := 36) ho⟩
  · exact ⟨_, rfl, rfl, fun M d rest ho hl => match rest, hl with | [a1, a2], _ => r_first_world (k := 35) ho⟩
  · exact ⟨_, rfl, rfl, fun M d rest ho hl => match rest, hl with | [a1, a2], _ => r_count_worlds (k := 35) ho⟩
  · exact ⟨_, rfl, rfl, fun M d rest ho hl => match rest, hl with | [a1, a2], _ => r_refuted (k := 34) ho⟩
  · exact ⟨_, rfl, rfl, fun M d rest ho hl => match rest, hl with | [a1, a2], _ => r_is_blame (k := 36) ho⟩
  · exact ⟨_, rfl, rfl, fun M d rest ho hl => match rest, hl with | [a1, a2], _ => r_lots_of (k := 35) ho⟩
  · exact ⟨_, rfl, rfl, fun M d rest ho hl => match rest, hl with | [a1, a2], _ => r_label_row (k := 36) ho⟩
  · exact ⟨_, rfl, rfl, fun M d rest ho hl => match rest, hl with | [a1, a2], _ => r_label_of (k := 34) ho⟩
  · exact ⟨_, rfl, rfl, fun M d rest ho hl => match rest, hl with | [a1, a2], _ => r_chances (k := 35) ho⟩
  · exact ⟨_, rfl, rfl, fun M d rest ho hl => match rest, hl with | [a1, a2], _ => r_broken_chances (k := 35) ho⟩
  · exact ⟨_, rfl, rfl, fun M d rest ho hl => match rest, hl with | [a1, a2], _ => r_worst_plan (k := 35) ho⟩
  · exact ⟨_, rfl, rfl, fun M d rest ho hl => match rest, hl with | [a1, a2], _ => r_mean_plan (k := 35) ho⟩
  · exact ⟨_, rfl, rfl, fun M d rest ho hl => match rest, hl with | [a1, a2], _ => r_foe_of (k := 35) ho⟩
theorem fours_ref {x : D} (h : x ∈ fours) : Ref 3 x := by
  simp only [fours, List.mem_cons, List.not_mem_nil, or_false] at h
  rcases h with rfl | rfl | rfl | rfl
  · exact ⟨_, rfl, rfl, fun M d rest ho hl => match rest, hl with | [a1, a2, a3], _ => r_follows (k := 36) ho⟩
  · exact ⟨_, rfl, rfl, fun M d rest ho hl => match rest, hl with | [a1, a2, a3], _ => r_is_tree (k := 36) ho⟩
  · exact ⟨_, rfl, rfl, fun M d rest ho hl => match rest, hl with | [a1, a2, a3], _ => r_is_label (k := 35) ho⟩
  · exact ⟨_, rfl, rfl, fun M d rest ho hl => match rest, hl with | [a1, a2, a3], _ => r_is_plan (k := 35) ho⟩
theorem foe_ref : Ref 4 (.fn "is_foe") := by
  · exact ⟨_, rfl, rfl, fun M d rest ho hl => match rest, hl with | [a1, a2, a3, a4], _ => r_is_foe (k := 35) ho⟩
theorem Ref.ok {n : Nat} {x : D} (h : Ref n x) (hn : n = 1 ∨ n = 2 ∨ n = 3 ∨ n = 4) {M : MS} {d : D} {rest : List D} (ho : Odd M d) (hl : rest.length = n) : run1 Pg 39 "_law_is_refused" [x, .lst (d :: rest)] M = some (.ok (.bl true) M) := by
  obtain ⟨f, rfl, hk, hf⟩ := h
  exact refused_ok (k := 38) hk (by rw [hl]; exact hn) (hf M d rest ho hl)
noncomputable abbrev Γ : Env1 := Pg.env 39
abbrev envL (s at_ : D) (o7 o8 o9 : Option D) : EnvD := [some s, some (.ref 0), some (.lst twos), some (.lst threes), some (.lst fours), some (.lst somes), some at_, o7, o8, o9]
abbrev hnd (a b : Int) : MS := [.lst [.int a, .int b]]
def bodyOf : MSs := match m_law.body with
  | .cons _ (.cons _ (.cons _ (.cons _ (.cons _ (.cons _ (.cons _ (.cons (.for_ _ _ b) _))))))) => b
  | _ => .nil
theorem seq_nx {f g : FS} {δ δ' : EnvD} {M M' : MS} (h : f δ M = some (.nx δ' M')) : mSeq f g δ M = g δ' M' := by unfold mSeq; rw [h]
theorem mem_pick {x : D} {r : Int} (h0 : 0 ≤ r) (h5 : r < 5) : ∃ p, atI [D.non, .lst [], .tup [], .int 0, .str "is"] r = some p := by
  have : r = 0 ∨ r = 1 ∨ r = 2 ∨ r = 3 ∨ r = 4 := by omega
  rcases this with rfl | rfl | rfl | rfl | rfl <;> exact ⟨_, rfl⟩
theorem known_draw : (Pg.defs "_law_draw").isSome = true := rfl
theorem known_ref : (Pg.defs "_law_is_refused").isSome = true := rfl
end K33

namespace K33
open PySem PySem.Spec PyProof.Rows PySem.W L2
def moreX : MX := match bodyOf with
  | .cons (.asg _ e) _ => e
  | _ => .never
theorem more_ok {s at_ : D} {o7 o8 o9 : Option D} {a b : Int} : ∃ ps a' b', evE Γ moreX (envL s at_ o7 o8 o9) (hnd a b) = some (.ok (.lst ps) (hnd a' b')) ∧ ps.length = 4 := by
  obtain ⟨ps, δ', M', e, hl, _, ⟨o, a', b', _, rfl⟩⟩ := comp_inv (it := ⟨rngD 0 4, none⟩) (g := nG 0) (c := tTrueF) (e := evE Γ (match moreX with | .comp _ _ _ _ _ _ _ e => e | _ => .never))
    (fun δ M => ∃ o a b, δ = [o, some (.ref 0)] ∧ M = hnd a b) (fun _ => True) rfl (rngD 0 4) (by
      rintro x hx δ M ⟨o, a, b, rfl, rfl⟩
      obtain ⟨r, a', b', h1, h2, h3⟩ := draw_ok (k := 38) (M := hnd a b) (h := 0) (a := a) (b := b) (s := 5) rfl (by decide) (by decide)
      obtain ⟨p, hp⟩ := mem_pick (x := x) h2 h3
      refine ⟨[some x, some (.ref 0)], hnd a b, hnd a b, p, hnd a' b', rfl, rfl, ?_, trivial, _, a', b', rfl, rfl⟩
      simp [moreX, bodyOf, m_law, evE, evA, mOp, mB, mCons, mNil, mC, gLstD, newL, gTupD, mCallF, known_draw, mVar, rb, h1, gIx, lstOf, hp, sizeLine_eq]) [none, some (.ref 0)] (hnd a b) ⟨none, a, b, rfl, rfl⟩
  refine ⟨ps, a', b', ?_, hl⟩
  have e2 : evE Γ moreX (envL s at_ o7 o8 o9) (hnd a b) = rb (fiR (evA Γ (.cons (.int 4) .nil)) (envL s at_ o7 o8 o9) (hnd a b)) fun it M1 =>
      match compF it (nG 0) tTrueF (evE Γ (match moreX with | .comp _ _ _ _ _ _ _ e => e | _ => .never)) it.xs (startD 1 [1] (envL s at_ o7 o8 o9)) M1 with
      | some (ps, M2) => if ps.length ≤ sizeLine then newL false ps M2 else none
      | none => none := by
    simp only [moreX, bodyOf, m_law, evE, evI, evG, evTs, mComp]
    rfl
  rw [e2]
  have e3 : fiR (evA Γ (.cons (.int 4) .nil)) (envL s at_ o7 o8 o9) (hnd a b) = some (.ok ⟨rngD 0 4, none⟩ (hnd a b)) := by
    simp [fiR, evA, evE, mCons, mNil, mC, rb, rngOk]
  rw [e3]
  simp only [rb_ok]
  have e4 : startD 1 [1] (envL s at_ o7 o8 o9) = [none, some (.ref 0)] := rfl
  rw [e4, e]
  have hl4 : ps.length = 4 := hl
  simp [hl4, sizeLine_eq, newL]
def loopOf (i : Nat) : MSt := match i, bodyOf with
  | 0, .cons _ (.cons s _) => s
  | 1, .cons _ (.cons _ (.cons s _)) => s
  | 2, .cons _ (.cons _ (.cons _ (.cons s _))) => s
  | _, .cons _ (.cons _ (.cons _ (.cons _ (.cons s _)))) => s
  | _, _ => .never
theorem body_eq : evSs Γ bodyOf = mSeq (mAsg (evE Γ moreX) (nG 8)) (mSeq (evS Γ (loopOf 0)) (mSeq (evS Γ (loopOf 1)) (mSeq (evS Γ (loopOf 2)) (mSeq (evS Γ (loopOf 3)) mNext)))) := rfl
theorem cut4 {ps : List D} (h : ps.length = 4) : (cutL ps none (some 1)).length = 1 ∧ (cutL ps none (some 2)).length = 2 ∧ (cutL ps none (some 3)).length = 3 := by
  match ps, h with
  | [_, _, _, _], _ => exact ⟨rfl, rfl, rfl⟩
section
variable {s at_ x : D} {o9 : Option D} {ps : List D} {a b : Int}
theorem door_loop {i : Nat} {xs : List D} {n : Nat} {c : Int} (hxs : ∀ y ∈ xs, Ref n y) (hn : n = 1 ∨ n = 2 ∨ n = 3 ∨ n = 4) (ho : ∀ M, Odd M x) (hl : (cutL ps none (some c)).length = n) (hps : ps.length = 4)
    (he : ∀ δ M, evS Γ (loopOf i) δ M = sb δ (fiL (mVar (i + 2)) δ M) fun it M1 => loopF it (nG 9) (mSeq (mIfS (mNot (mTru (mCallF Γ "_law_is_refused" (mCons (mVar 9) (mCons (mOp gAdd (mB (gLstD false) (mCons (mVar 7) mNil)) (mSl false (mVar 8) oN (oS (mC (.int c))))) mNil))))) (mSeq (mRet (mC (.bl false))) mNext) mNext) mNext) it.xs δ M1)
    (hv : (envL s at_ (some x) (some (.lst ps)) o9)[i + 2]? = some (some (.lst xs))) :
    ∃ o9', evS Γ (loopOf i) (envL s at_ (some x) (some (.lst ps)) o9) (hnd a b) = some (.nx (envL s at_ (some x) (some (.lst ps)) o9') (hnd a b)) := by
  rw [he]
  have e1 : fiL (mVar (i + 2)) (envL s at_ (some x) (some (.lst ps)) o9) (hnd a b) = some (.ok ⟨xs, none⟩ (hnd a b)) := by
    simp only [fiL, mVar, hv, rb_ok, srcL]
  rw [e1]
  simp only [sb_ok]
  obtain ⟨δ', M', e, ⟨o9', rfl, rfl⟩⟩ := loop_inv (it := ⟨xs, none⟩) (g := nG 9) (body := mSeq (mIfS (mNot (mTru (mCallF Γ "_law_is_refused" (mCons (mVar 9) (mCons (mOp gAdd (mB (gLstD false) (mCons (mVar 7) mNil)) (mSl false (mVar 8) oN (oS (mC (.int c))))) mNil))))) (mSeq (mRet (mC (.bl false))) mNext) mNext) mNext)
    (fun δ M => ∃ o9', δ = envL s at_ (some x) (some (.lst ps)) o9' ∧ M = hnd a b) rfl xs (by
      rintro y hy δ M ⟨o9', rfl, rfl⟩
      refine ⟨_, _, envL s at_ (some x) (some (.lst ps)) (some y), hnd a b, rfl, .inl ?_, _, rfl, rfl⟩
      have hr := (hxs y hy).ok hn (M := hnd a b) (d := x) (rest := cutL ps none (some c)) (ho _) hl
      have h1 : 1 + (cutL ps none (some c)).length ≤ 16777216 := by rw [hl]; omega
      simp [mSeq, mIfS, mNot, mTru, mCallF, known_ref, mB, mCons, mNil, mVar, mOp, mSl, oN, oS, mC, gSl, lstOf, newL, gLstD, gAdd, lstIn, rb, sb, hr, truD, mNext, sizeLine_eq, h1])
    (envL s at_ (some x) (some (.lst ps)) o9) (hnd a b) ⟨o9, rfl, rfl⟩
  exact ⟨o9', e⟩
end
end K33

namespace K33
open PySem PySem.Spec PyProof.Rows PySem.W L2
theorem body_ok {s at_ x : D} {o8 o9 : Option D} {a b : Int} (hx : x ∈ somes) : ∃ o8' o9' a' b', evSs Γ bodyOf (envL s at_ (some x) o8 o9) (hnd a b) = some (.nx (envL s at_ (some x) o8' o9') (hnd a' b')) := by
  obtain ⟨ps, a', b', h1, hl⟩ := more_ok (s := s) (at_ := at_) (o7 := some x) (o8 := o8) (o9 := o9) (a := a) (b := b)
  have ho : ∀ M, Odd M x := fun M => somes_odd hx
  obtain ⟨c1, c2, c3⟩ := cut4 hl
  obtain ⟨p, e2⟩ := door_loop (i := 0) (s := s) (at_ := at_) (x := x) (o9 := o9) (ps := ps) (a := a') (b := b') (xs := twos) (n := 1) (c := 1) (fun y => twos_ref) (.inl rfl) ho c1 hl (fun _ _ => rfl) rfl
  obtain ⟨q, e3⟩ := door_loop (i := 1) (s := s) (at_ := at_) (x := x) (o9 := p) (ps := ps) (a := a') (b := b') (xs := threes) (n := 2) (c := 2) (fun y => threes_ref) (.inr (.inl rfl)) ho c2 hl (fun _ _ => rfl) rfl
  obtain ⟨r, e4⟩ := door_loop (i := 2) (s := s) (at_ := at_) (x := x) (o9 := q) (ps := ps) (a := a') (b := b') (xs := fours) (n := 3) (c := 3) (fun y => fours_ref) (.inr (.inr (.inl rfl))) ho c3 hl (fun _ _ => rfl) rfl
  have e1 : mAsg (evE Γ moreX) (nG 8) (envL s at_ (some x) o8 o9) (hnd a b) = some (.nx (envL s at_ (some x) (some (.lst ps)) o9) (hnd a' b')) := by
    simp only [mAsg, h1, sb_ok, nG]
    rfl
  have hr := foe_ref.ok (.inr (.inr (.inr rfl))) (M := hnd a' b') (d := x) (rest := ps) (ho _) hl
  have h5 : 1 + ps.length ≤ 16777216 := by rw [hl]; omega
  have gf : Pg.gl "is_foe" = some (.fn "is_foe") := rfl
  have e5 : evS Γ (loopOf 3) (envL s at_ (some x) (some (.lst ps)) r) (hnd a' b') = some (.nx (envL s at_ (some x) (some (.lst ps)) r) (hnd a' b')) := by
    show mIfS (mNot (mTru (mCallF Γ "_law_is_refused" (mCons (mGlob Γ "is_foe") (mCons (mOp gAdd (mB (gLstD false) (mCons (mVar 7) mNil)) (mVar 8)) mNil))))) (mSeq (mRet (mC (.bl false))) mNext) mNext _ _ = _
    simp [mSeq, mIfS, mNot, mTru, mCallF, known_ref, mB, mCons, mNil, mVar, mOp, mGlob, gf, sem2, newL, gLstD, gAdd, lstIn, lstOf, rb, sb, hr, truD, mNext, sizeLine_eq, h5]
  refine ⟨some (.lst ps), r, a', b', ?_⟩
  rw [body_eq, seq_nx e1, seq_nx e2, seq_nx e3, seq_nx e4, seq_nx e5]
  rfl
def firstOf : MSs → Nat → MSt
  | .cons s _, 0 => s
  | .cons _ r, n + 1 => firstOf r n
  | .nil, _ => .never
theorem law_eq : evSs Γ m_law.body = mSeq (evS Γ (firstOf m_law.body 0)) (mSeq (evS Γ (firstOf m_law.body 1)) (mSeq (evS Γ (firstOf m_law.body 2)) (mSeq (evS Γ (firstOf m_law.body 3)) (mSeq (evS Γ (firstOf m_law.body 4)) (mSeq (evS Γ (firstOf m_law.body 5)) (mSeq (evS Γ (firstOf m_law.body 6)) (mSeq (evS Γ (firstOf m_law.body 7)) (mSeq (mRet (mC (.bl true))) mNext)))))))) := rfl
theorem known_hand : (Pg.defs "_law_hand").isSome = true := rfl
theorem law_true (ns : List Int) (hn : ns.length ≤ 63) : ∃ M, run1 Pg 40 "law" [scr ns] [] = some (.ok (.bl true) M) := by
  obtain ⟨a, b, h0⟩ := hand_ok (k := 38) (M := []) hn
  obtain ⟨r, a', b', h6, r0, r10⟩ := draw_ok (k := 38) (M := hnd a b) (h := 0) (a := a) (b := b) (s := 10) rfl (by decide) (by decide)
  rw [run1_some d_law]
  have s0 : evS Γ (firstOf m_law.body 0) [some (scr ns), none, none, none, none, none, none, none, none, none] [] = some (.nx [some (scr ns), some (.ref 0), none, none, none, none, none, none, none, none] (hnd a b)) := by
    simp [firstOf, m_law, evS, evE, evA, mAsg, evG, nG, mCallF, known_hand, mB, mCons, mNil, mVar, mC, rb, sb, h0]
  have gl : ∀ f, doors.contains f = true → Pg.gl f = some (.fn f) := fun f h => by show (if doors.contains f = true then some (D.fn f) else none) = _; rw [if_pos h]
  have s1 : evS Γ (firstOf m_law.body 1) [some (scr ns), some (.ref 0), none, none, none, none, none, none, none, none] (hnd a b) = some (.nx [some (scr ns), some (.ref 0), some (.lst twos), none, none, none, none, none, none, none] (hnd a b)) := by
    simp [firstOf, m_law, evS, evE, evA, mAsg, evG, nG, mB, mCons, mNil, mGlob, rb, sb, gl _ (show doors.contains "is_world" = true from rfl), gl _ (show doors.contains "sound_in" = true from rfl), gl _ (show doors.contains "clashing" = true from rfl), gl _ (show doors.contains "meeting" = true from rfl), gl _ (show doors.contains "broken" = true from rfl), gl _ (show doors.contains "blame_of" = true from rfl), gl _ (show doors.contains "accounts" = true from rfl), gLstD, newL, sizeLine_eq, twos]
  have s2 : evS Γ (firstOf m_law.body 2) [some (scr ns), some (.ref 0), some (.lst twos), none, none, none, none, none, none, none] (hnd a b) = some (.nx [some (scr ns), some (.ref 0), some (.lst twos), some (.lst (threes.take 9)), none, none, none, none, none, none] (hnd a b)) := by
    simp [firstOf, m_law, evS, evE, evA, mAsg, evG, nG, mB, mCons, mNil, mGlob, rb, sb, gl _ (show doors.contains "all_worlds" = true from rfl), gl _ (show doors.contains "first_world" = true from rfl), gl _ (show doors.contains "count_worlds" = true from rfl), gl _ (show doors.contains "refuted" = true from rfl), gl _ (show doors.contains "is_blame" = true from rfl), gl _ (show doors.contains "lots_of" = true from rfl), gl _ (show doors.contains "label_row" = true from rfl), gl _ (show doors.contains "label_of" = true from rfl), gl _ (show doors.contains "chances" = true from rfl), gLstD, newL, sizeLine_eq, threes]
  have s3 : evS Γ (firstOf m_law.body 3) [some (scr ns), some (.ref 0), some (.lst twos), some (.lst (threes.take 9)), none, none, none, none, none, none] (hnd a b) = some (.nx [some (scr ns), some (.ref 0), some (.lst twos), some (.lst threes), none, none, none, none, none, none] (hnd a b)) := by
    simp [firstOf, m_law, evS, evE, evA, mAsg, evG, nG, mB, mCons, mNil, mGlob, mOp, mVar, sem2, gAdd, lstIn, lstOf, rb, sb, gl _ (show doors.contains "broken_chances" = true from rfl), gl _ (show doors.contains "worst_plan" = true from rfl), gl _ (show doors.contains "mean_plan" = true from rfl), gl _ (show doors.contains "foe_of" = true from rfl), gLstD, newL, sizeLine_eq, threes]
  have s4 : evS Γ (firstOf m_law.body 4) [some (scr ns), some (.ref 0), some (.lst twos), some (.lst threes), none, none, none, none, none, none] (hnd a b) = some (.nx [some (scr ns), some (.ref 0), some (.lst twos), some (.lst threes), some (.lst fours), none, none, none, none, none] (hnd a b)) := by
    simp [firstOf, m_law, evS, evE, evA, mAsg, evG, nG, mB, mCons, mNil, mGlob, rb, sb, gl _ (show doors.contains "follows" = true from rfl), gl _ (show doors.contains "is_tree" = true from rfl), gl _ (show doors.contains "is_label" = true from rfl), gl _ (show doors.contains "is_plan" = true from rfl), gLstD, newL, sizeLine_eq, fours]
  have s5 : evS Γ (firstOf m_law.body 5) [some (scr ns), some (.ref 0), some (.lst twos), some (.lst threes), some (.lst fours), none, none, none, none, none] (hnd a b) = some (.nx [some (scr ns), some (.ref 0), some (.lst twos), some (.lst threes), some (.lst fours), some (.lst somes), none, none, none, none] (hnd a b)) := by
    simp [firstOf, m_law, evS, evE, evA, mAsg, evG, nG, mB, mCons, mNil, mC, mDct0, gTupD, rb, sb, gLstD, newL, sizeLine_eq, somes]
  have s6 : evS Γ (firstOf m_law.body 6) [some (scr ns), some (.ref 0), some (.lst twos), some (.lst threes), some (.lst fours), some (.lst somes), none, none, none, none] (hnd a b) = some (.nx (envL (scr ns) (.int r) none none none) (hnd a' b')) := by
    have hl : (somes.length : Int) = 10 := rfl
    simp [firstOf, m_law, evS, evE, evA, mAsg, evG, nG, mCallF, known_draw, mB, mCons, mNil, mVar, semB, gLen, lstOf, rb, sb, hl, h6]
  obtain ⟨δ', M', e7, ⟨o7, o8, o9, a2, b2, rfl, rfl⟩⟩ := loop_inv (it := ⟨cutL somes (some r) none ++ cutL somes none (some r), none⟩) (g := nG 7) (body := evSs Γ bodyOf)
    (fun δ M => ∃ o7 o8 o9 a b, δ = envL (scr ns) (.int r) o7 o8 o9 ∧ M = hnd a b) rfl (cutL somes (some r) none ++ cutL somes none (some r)) (by
      rintro x hx δ M ⟨o7, o8, o9, a, b, rfl, rfl⟩
      have hm : x ∈ somes := by
        rcases List.mem_append.mp hx with h | h
        · exact List.mem_of_mem_drop (List.mem_of_mem_take h)
        · exact List.mem_of_mem_drop (List.mem_of_mem_take h)
      obtain ⟨o8', o9', a2, b2, e⟩ := body_ok (s := scr ns) (at_ := .int r) (o8 := o8) (o9 := o9) (a := a) (b := b) hm
      exact ⟨_, _, _, _, rfl, .inl e, _, _, _, _, _, rfl, rfl⟩) (envL (scr ns) (.int r) none none none) (hnd a' b') ⟨none, none, none, a', b', rfl, rfl⟩
  have hlen : (cutL somes (some r) none).length + (cutL somes none (some r)).length ≤ 16777216 := by
    have h1 := cutL_all somes (some r) none
    have h2 := cutL_all somes none (some r)
    have h3 : somes.length = 10 := rfl
    omega
  have s7 : evS Γ (firstOf m_law.body 7) (envL (scr ns) (.int r) none none none) (hnd a' b') = some (.nx (envL (scr ns) (.int r) o7 o8 o9) (hnd a2 b2)) := by
    have e : evS Γ (firstOf m_law.body 7) (envL (scr ns) (.int r) none none none) (hnd a' b') = sb (envL (scr ns) (.int r) none none none) (fiL (mOp gAdd (mSl false (mVar 5) (oS (mVar 6)) oN) (mSl false (mVar 5) oN (oS (mVar 6)))) (envL (scr ns) (.int r) none none none) (hnd a' b')) fun it M1 => loopF it (nG 7) (evSs Γ bodyOf) it.xs (envL (scr ns) (.int r) none none none) M1 := rfl
    have e2 : fiL (mOp gAdd (mSl false (mVar 5) (oS (mVar 6)) oN) (mSl false (mVar 5) oN (oS (mVar 6)))) (envL (scr ns) (.int r) none none none) (hnd a' b') = some (.ok ⟨cutL somes (some r) none ++ cutL somes none (some r), none⟩ (hnd a' b')) := by
      simp [fiL, mOp, mSl, mVar, oS, oN, gSl, lstOf, newL, gAdd, lstIn, rb, srcL, sizeLine_eq, hlen]
    rw [e, e2]
    simp only [sb_ok]
    exact e7
  have hb : evSs Γ m_law.body [some (scr ns), none, none, none, none, none, none, none, none, none] [] = some (.rt (.bl true) (hnd a2 b2)) := by
    rw [law_eq, seq_nx s0, seq_nx s1, seq_nx s2, seq_nx s3, seq_nx s4, seq_nx s5, seq_nx s6, seq_nx s7]
    rfl
  refine ⟨hnd a2 b2, ?_⟩
  show mFn m_law.ps.length m_law.N.length m_law.mode (evSs Γ m_law.body) ([scr ns] ++ m_law.dv) [] = _
  unfold mFn
  have : ([scr ns] ++ m_law.dv).length = m_law.ps.length := rfl
  rw [if_pos this]
  show (match evSs Γ m_law.body [some (scr ns), none, none, none, none, none, none, none, none, none] [] with
    | some (.nx _ M') => cloOk m_law.mode [] .non M'
    | some (.rt d M') => cloOk m_law.mode [] d M'
    | some (.ex c fs _ M') => cloEx m_law.mode [] c fs M'
    | _ => none) = _
  rw [hb]
  rfl
end K33

namespace K33
open PySem PySem.Spec PyProof.Rows PySem.W L2
abbrev sNW : Stmt := inClass (top 2) 0
theorem sc_NW : FnScope ["self", "part", "number", "tie"] ["self", "part", "number", "tie"] (defScope sNW) := ⟨rfl, rfl, rfl, by decide +kernel, rfl, by decide +kernel, by decide +kernel⟩
theorem all1 {α : Type} {P : List α → Prop} (h : ∀ a, P [a]) : ∀ us, us.length = 1 → P us
  | [a], _ => h a
theorem all2 {α : Type} {P : List α → Prop} (h : ∀ a b, P [a, b]) : ∀ us, us.length = 2 → P us
  | [a, b], _ => h a b
theorem all3 {α : Type} {P : List α → Prop} (h : ∀ a b c, P [a, b, c]) : ∀ us, us.length = 3 → P us
  | [a, b, c], _ => h a b c
theorem all4 {α : Type} {P : List α → Prop} (h : ∀ a b c d, P [a, b, c, d]) : ∀ us, us.length = 4 → P us
  | [a, b, c, d], _ => h a b c d
theorem all5 {α : Type} {P : List α → Prop} (h : ∀ a b c d e, P [a, b, c, d, e]) : ∀ us, us.length = 5 → P us
  | [a, b, c, d, e], _ => h a b c d e
section
variable {P : Program} {w : World} {K : Frag} {mg : Str → Option Value} {base : Heap}
theorem ok_NW {f C : Addr} {fd : FuncData} {bm bmN : List Value} {Bn nid inN : String} (F : FunD K "__init__" "NoWork.__init__" sNW f fd) (M : XMk K C bm Bn nid inN bmN) (n1 : NoAttr K C "part") (n2 : NoAttr K C "number") (n3 : NoAttr K C "tie") :
    FnOk P w K mg base CX0 1 f fd ["self", "part", "number", "tie"] (spXI C ["part", "number", "tie"]) := by
  refine F.ok sc_NW (fun vs H Q E h => ?_) (fun cdv A outer s H vs Q E hr h => ?_)
  · obtain ⟨x, ws, rfl, hl, _⟩ := h
    rw [List.length_cons, hl]; rfl
  · obtain ⟨x, ws, rfl, hl, hx, k⟩ := h
    obtain ⟨a, b, c, rfl⟩ : ∃ a b c, ws = [a, b, c] := by
      match ws, hl with
      | [a, b, c], _ => exact ⟨a, b, c, rfl⟩
    refine ⟨_, pss_cons (ps_xf0 (pv 0) (pv 1) rfl) (pss_cons (ps_xf1 (pv 0) (pv 2) rfl) (pss_one (ps_xf1 (pv 0) (pv 3) rfl))), ?_⟩
    refine ⟨_, rfl, _, rfl, true, x, C, bm, nid, rfl, hx, M.c, n1, fun dx H' h1 h2 h3 h4 => ?_⟩
    have nx : x ≠ dx := ne_of_none hx h1
    refine ⟨_, rfl, _, rfl, true, x, C, bm, nid, dx, _, rfl, h2, h3, M.c, n2, (by show 1 < 100; decide), ?_⟩
    refine ⟨_, rfl, _, rfl, true, x, C, bm, nid, dx, _, rfl, (by rw [upd_ne nx]; exact h2), upd_same, M.c, n3, (Nat.lt_of_le_of_lt (length_putF _ _ _) (by show 2 < 100; decide)), ?_⟩
    refine k dx _ h1 (by rw [upd_ne nx, upd_ne nx]; exact h2) (by rw [upd_same, putNWT]; rfl) fun d e1 e2 => by rw [upd_ne e2, upd_ne e2]; exact h4 d e1 e2
end
section
variable {K : Frag} {mg : Str → Option Value} {h : Heap}
theorem pk_NW (X : K.In h) (G : h.Ns mainGlobals mg) {C N f : Addr} {q : Str} {bs : List Value} {sn : List Str} {sub : List Value} {ab : Bool} {col : Option Bool} {dd od an : Option Addr} {k0 k1 k2 k3 k5 : Option Value} {oc kV dc pm cd ct : Value} {sl : Array (Option Value)}
    (aC : nsIn K mainGlobals "NoWork" = some (some (.ref C))) (lC : K.lookup C = some (excClassObj "NoWork" q C N bs mroV true sn sub ab col dd k0 k1 k2 k3 k5 "ValueError.__new__"))
    (ga : findIn K (.ref C) "__getattribute__" = some (some (.builtin "BaseException.__getattribute__"))) (gh : findIn K (.ref C) "__getattr__" = some none) (sa : findIn K (.ref C) "__setattr__" = some (some (.builtin "object.__setattr__")))
    (cl : findIn K (.ref C) "__class__" = some (some (.builtin "object.__class__"))) (kp : keepIn K (.ref C) = true)
    (ai : findIn K (.ref C) "__init__" = some (some (.ref f))) (fi : isFn K (.ref f) = true)
    (lf : K.lookup f = some ⟨oc, od, .func (fnOf "__init__" "NoWork.__init__" (defArgs sNW) (defBody sNW) (defScope sNW) .none kV dc pm an cd ct), sl⟩) (cf : codeIn K cd "NoWork.__init__" = true) (kf : keepIn K (.ref f) = true)
    (n0 : findIn K (.ref C) "part" = some none) (n1 : findIn K (.ref C) "number" = some none) (n2 : findIn K (.ref C) "tie" = some none) : PkX K mg "NoWork" mroV ["part", "number", "tie"] := by
  have cx : XCls K C mroV "ValueError.__new__" := xclsMk lC ga gh sa cl (by decide +kernel) (by decide +kernel) passMV
  have M : XMk K C mroV "ValueError" "ValueError.__new__" "ValueError.__init__" mroV := ⟨PySem.F.excBase_ValueError, by decide +kernel, by decide +kernel, by decide +kernel, cx, kp⟩
  have Ff := FunD.mk' (st := sNW) lf cf kf
  refine pkx_mk X G M aC ai fi (fun P w base => ok_NW Ff M n0 n1 n2) (.all fun us hl => match us, hl with | [_, _, _, _], _ => rfl) (by simp) fun g hg => ?_
  simp only [List.mem_cons, List.not_mem_nil, or_false] at hg
  rcases hg with rfl | rfl | rfl
  · exact n0
  · exact n1
  · exact n2
theorem dk_check_work (X : K.In h) (G : h.Ns mainGlobals mg) {f : Addr} {od an : Option Addr} {oc kV dc pm cd ct : Value} {sl : Array (Option Value)} (a : nsIn K mainGlobals "check_work" = some (some (.ref f)))
    (l : K.lookup f = some ⟨oc, od, .func (fnOf "check_work" "check_work" (defArgs (top 49)) (defBody (top 49)) (defScope (top 49)) .none kV dc pm an cd ct), sl⟩) (c : codeIn K cd "check_work" = true) (k : keepIn K (.ref f) = true) : DK Pg K mg "check_work" m_check_work :=
  dk0 X G sc_check_work ck_check_work rfl (fun _ _ _ _ _ _ => all1 fun _ => rfl) a l c k
theorem dk_check_asked_plans (X : K.In h) (G : h.Ns mainGlobals mg) {f : Addr} {od an : Option Addr} {oc kV dc pm cd ct : Value} {sl : Array (Option Value)} (a : nsIn K mainGlobals "check_asked_plans" = some (some (.ref f)))
    (l : K.lookup f = some ⟨oc, od, .func (fnOf "check_asked" "check_asked" (defArgs (top 131)) (defBody (top 131)) (defScope (top 131)) .none kV dc pm an cd ct), sl⟩) (c : codeIn K cd "check_asked" = true) (k : keepIn K (.ref f) = true) : DK Pg K mg "check_asked_plans" m_check_asked_plans :=
  dk0 X G sc_check_asked_plans ck_check_asked_plans rfl (fun _ _ _ _ _ _ => all3 fun _ _ _ => rfl) a l c k
theorem dk_check_asked_labels (X : K.In h) (G : h.Ns mainGlobals mg) {f : Addr} {od an : Option Addr} {oc kV dc pm cd ct : Value} {sl : Array (Option Value)} (a : nsIn K mainGlobals "check_asked_labels" = some (some (.ref f)))
    (l : K.lookup f = some ⟨oc, od, .func (fnOf "check_asked" "check_asked" (defArgs (top 165)) (defBody (top 165)) (defScope (top 165)) .none kV dc pm an cd ct), sl⟩) (c : codeIn K cd "check_asked" = true) (k : keepIn K (.ref f) = true) : DK Pg K mg "check_asked_labels" m_check_asked_labels :=
  dk0 X G sc_check_asked_labels ck_check_asked_labels rfl (fun _ _ _ _ _ _ => all3 fun _ _ _ => rfl) a l c k
theorem dk_modes_left (X : K.In h) (G : h.Ns mainGlobals mg) {f : Addr} {od an : Option Addr} {oc kV dc pm cd ct : Value} {sl : Array (Option Value)} (a : nsIn K mainGlobals "modes_left" = some (some (.ref f)))
    (l : K.lookup f = some ⟨oc, od, .func (fnOf "modes_left" "modes_left" (defArgs (top 121)) (defBody (top 121)) (defScope (top 121)) .none kV dc pm an cd ct), sl⟩) (c : codeIn K cd "modes_left" = true) (k : keepIn K (.ref f) = true) : DK Pg K mg "modes_left" m_modes_left :=
  dk0 X G sc_modes_left ck_modes_left rfl (fun _ _ _ _ _ _ => all3 fun _ _ _ => rfl) a l c k
theorem dk_is_world (X : K.In h) (G : h.Ns mainGlobals mg) {f : Addr} {od an : Option Addr} {oc kV dc pm cd ct : Value} {sl : Array (Option Value)} (a : nsIn K mainGlobals "is_world" = some (some (.ref f)))
    (l : K.lookup f = some ⟨oc, od, .func (fnOf "is_world" "is_world" (defArgs (top 52)) (defBody (top 52)) (defScope (top 52)) .none kV dc pm an cd ct), sl⟩) (c : codeIn K cd "is_world" = true) (k : keepIn K (.ref f) = true) : DK Pg K mg "is_world" m_is_world :=
  dk0 X G sc_is_world ck_is_world rfl (fun _ _ _ _ _ _ => all2 fun _ _ => rfl) a l c k
theorem dk_sound_in (X : K.In h) (G : h.Ns mainGlobals mg) {f : Addr} {od an : Option Addr} {oc kV dc pm cd ct : Value} {sl : Array (Option Value)} (a : nsIn K mainGlobals "sound_in" = some (some (.ref f)))
    (l : K.lookup f = some ⟨oc, od, .func (fnOf "sound_in" "sound_in" (defArgs (top 53)) (defBody (top 53)) (defScope (top 53)) .none kV dc pm an cd ct), sl⟩) (c : codeIn K cd "sound_in" = true) (k : keepIn K (.ref f) = true) : DK Pg K mg "sound_in" m_sound_in :=
  dk0 X G sc_sound_in ck_sound_in rfl (fun _ _ _ _ _ _ => all2 fun _ _ => rfl) a l c k
theorem dk_clashing (X : K.In h) (G : h.Ns mainGlobals mg) {f : Addr} {od an : Option Addr} {oc kV dc pm cd ct : Value} {sl : Array (Option Value)} (a : nsIn K mainGlobals "clashing" = some (some (.ref f)))
    (l : K.lookup f = some ⟨oc, od, .func (fnOf "clashing" "clashing" (defArgs (top 87)) (defBody (top 87)) (defScope (top 87)) .none kV dc pm an cd ct), sl⟩) (c : codeIn K cd "clashing" = true) (k : keepIn K (.ref f) = true) : DK Pg K mg "clashing" m_clashing :=
  dk0 X G sc_clashing ck_clashing rfl (fun _ _ _ _ _ _ => all2 fun _ _ => rfl) a l c k
theorem dk_meeting (X : K.In h) (G : h.Ns mainGlobals mg) {f : Addr} {od an : Option Addr} {oc kV dc pm cd ct : Value} {sl : Array (Option Value)} (a : nsIn K mainGlobals "meeting" = some (some (.ref f)))
    (l : K.lookup f = some ⟨oc, od, .func (fnOf "meeting" "meeting" (defArgs (top 88)) (defBody (top 88)) (defScope (top 88)) .none kV dc pm an cd ct), sl⟩) (c : codeIn K cd "meeting" = true) (k : keepIn K (.ref f) = true) : DK Pg K mg "meeting" m_meeting :=
  dk0 X G sc_meeting ck_meeting rfl (fun _ _ _ _ _ _ => all2 fun _ _ => rfl) a l c k
theorem dk_broken (X : K.In h) (G : h.Ns mainGlobals mg) {f : Addr} {od an : Option Addr} {oc kV dc pm cd ct : Value} {sl : Array (Option Value)} (a : nsIn K mainGlobals "broken" = some (some (.ref f)))
    (l : K.lookup f = some ⟨oc, od, .func (fnOf "broken" "broken" (defArgs (top 95)) (defBody (top 95)) (defScope (top 95)) .none kV dc pm an cd ct), sl⟩) (c : codeIn K cd "broken" = true) (k : keepIn K (.ref f) = true) : DK Pg K mg "broken" m_broken :=
  dk0 X G sc_broken ck_broken rfl (fun _ _ _ _ _ _ => all2 fun _ _ => rfl) a l c k
theorem dk_blame_of (X : K.In h) (G : h.Ns mainGlobals mg) {f : Addr} {od an : Option Addr} {oc kV dc pm cd ct : Value} {sl : Array (Option Value)} (a : nsIn K mainGlobals "blame_of" = some (some (.ref f)))
    (l : K.lookup f = some ⟨oc, od, .func (fnOf "blame_of" "blame_of" (defArgs (top 96)) (defBody (top 96)) (defScope (top 96)) .none kV dc pm an cd ct), sl⟩) (c : codeIn K cd "blame_of" = true) (k : keepIn K (.ref f) = true) : DK Pg K mg "blame_of" m_blame_of :=
  dk0 X G sc_blame_of ck_blame_of rfl (fun _ _ _ _ _ _ => all2 fun _ _ => rfl) a l c k
theorem dk_accounts (X : K.In h) (G : h.Ns mainGlobals mg) {f : Addr} {od an : Option Addr} {oc kV dc pm cd ct : Value} {sl : Array (Option Value)} (a : nsIn K mainGlobals "accounts" = some (some (.ref f)))
    (l : K.lookup f = some ⟨oc, od, .func (fnOf "accounts" "accounts" (defArgs (top 127)) (defBody (top 127)) (defScope (top 127)) .none kV dc pm an cd ct), sl⟩) (c : codeIn K cd "accounts" = true) (k : keepIn K (.ref f) = true) : DK Pg K mg "accounts" m_accounts :=
  dk0 X G sc_accounts ck_accounts rfl (fun _ _ _ _ _ _ => all2 fun _ _ => rfl) a l c k
theorem dk_all_worlds (X : K.In h) (G : h.Ns mainGlobals mg) {f : Addr} {od an : Option Addr} {oc kV dc pm cd ct : Value} {sl : Array (Option Value)} (a : nsIn K mainGlobals "all_worlds" = some (some (.ref f)))
    (l : K.lookup f = some ⟨oc, od, .func (fnOf "all_worlds" "all_worlds" (defArgs (top 56)) (defBody (top 56)) (defScope (top 56)) .none kV dc pm an cd ct), sl⟩) (c : codeIn K cd "all_worlds" = true) (k : keepIn K (.ref f) = true) : DK Pg K mg "all_worlds" m_all_worlds :=
  dk0 X G sc_all_worlds ck_all_worlds rfl (fun _ _ _ _ _ _ => all3 fun _ _ _ => rfl) a l c k
theorem dk_first_world (X : K.In h) (G : h.Ns mainGlobals mg) {f : Addr} {od an : Option Addr} {oc kV dc pm cd ct : Value} {sl : Array (Option Value)} (a : nsIn K mainGlobals "first_world" = some (some (.ref f)))
    (l : K.lookup f = some ⟨oc, od, .func (fnOf "first_world" "first_world" (defArgs (top 54)) (defBody (top 54)) (defScope (top 54)) .none kV dc pm an cd ct), sl⟩) (c : codeIn K cd "first_world" = true) (k : keepIn K (.ref f) = true) : DK Pg K mg "first_world" m_first_world :=
  dk0 X G sc_first_world ck_first_world rfl (fun _ _ _ _ _ _ => all3 fun _ _ _ => rfl) a l c k
theorem dk_count_worlds (X : K.In h) (G : h.Ns mainGlobals mg) {f : Addr} {od an : Option Addr} {oc kV dc pm cd ct : Value} {sl : Array (Option Value)} (a : nsIn K mainGlobals "count_worlds" = some (some (.ref f)))
    (l : K.lookup f = some ⟨oc, od, .func (fnOf "count_worlds" "count_worlds" (defArgs (top 55)) (defBody (top 55)) (defScope (top 55)) .none kV dc pm an cd ct), sl⟩) (c : codeIn K cd "count_worlds" = true) (k : keepIn K (.ref f) = true) : DK Pg K mg "count_worlds" m_count_worlds :=
  dk0 X G sc_count_worlds ck_count_worlds rfl (fun _ _ _ _ _ _ => all3 fun _ _ _ => rfl) a l c k
theorem dk_refuted (X : K.In h) (G : h.Ns mainGlobals mg) {f : Addr} {od an : Option Addr} {oc kV dc pm cd ct : Value} {sl : Array (Option Value)} (a : nsIn K mainGlobals "refuted" = some (some (.ref f)))
    (l : K.lookup f = some ⟨oc, od, .func (fnOf "refuted" "refuted" (defArgs (top 69)) (defBody (top 69)) (defScope (top 69)) .none kV dc pm an cd ct), sl⟩) (c : codeIn K cd "refuted" = true) (k : keepIn K (.ref f) = true) : DK Pg K mg "refuted" m_refuted :=
  dk0 X G sc_refuted ck_refuted rfl (fun _ _ _ _ _ _ => all3 fun _ _ _ => rfl) a l c k
theorem dk_is_blame (X : K.In h) (G : h.Ns mainGlobals mg) {f : Addr} {od an : Option Addr} {oc kV dc pm cd ct : Value} {sl : Array (Option Value)} (a : nsIn K mainGlobals "is_blame" = some (some (.ref f)))
    (l : K.lookup f = some ⟨oc, od, .func (fnOf "is_blame" "is_blame" (defArgs (top 97)) (defBody (top 97)) (defScope (top 97)) .none kV dc pm an cd ct), sl⟩) (c : codeIn K cd "is_blame" = true) (k : keepIn K (.ref f) = true) : DK Pg K mg "is_blame" m_is_blame :=
  dk0 X G sc_is_blame ck_is_blame rfl (fun _ _ _ _ _ _ => all3 fun _ _ _ => rfl) a l c k
theorem dk_lots_of (X : K.In h) (G : h.Ns mainGlobals mg) {f : Addr} {od an : Option Addr} {oc kV dc pm cd ct : Value} {sl : Array (Option Value)} (a : nsIn K mainGlobals "lots_of" = some (some (.ref f)))
    (l : K.lookup f = some ⟨oc, od, .func (fnOf "lots_of" "lots_of" (defArgs (top 161)) (defBody (top 161)) (defScope (top 161)) .none kV dc pm an cd ct), sl⟩) (c : codeIn K cd "lots_of" = true) (k : keepIn K (.ref f) = true) : DK Pg K mg "lots_of" m_lots_of :=
  dk0 X G sc_lots_of ck_lots_of rfl (fun _ _ _ _ _ _ => all3 fun _ _ _ => rfl) a l c k
theorem dk_label_row (X : K.In h) (G : h.Ns mainGlobals mg) {f : Addr} {od an : Option Addr} {oc kV dc pm cd ct : Value} {sl : Array (Option Value)} (a : nsIn K mainGlobals "label_row" = some (some (.ref f)))
    (l : K.lookup f = some ⟨oc, od, .func (fnOf "label_row" "label_row" (defArgs (top 162)) (defBody (top 162)) (defScope (top 162)) .none kV dc pm an cd ct), sl⟩) (c : codeIn K cd "label_row" = true) (k : keepIn K (.ref f) = true) : DK Pg K mg "label_row" m_label_row :=
  dk0 X G sc_label_row ck_label_row rfl (fun _ _ _ _ _ _ => all3 fun _ _ _ => rfl) a l c k
theorem dk_label_of (X : K.In h) (G : h.Ns mainGlobals mg) {f : Addr} {od an : Option Addr} {oc kV dc pm cd ct : Value} {sl : Array (Option Value)} (a : nsIn K mainGlobals "label_of" = some (some (.ref f)))
    (l : K.lookup f = some ⟨oc, od, .func (fnOf "label_of" "label_of" (defArgs (top 163)) (defBody (top 163)) (defScope (top 163)) .none kV dc pm an cd ct), sl⟩) (c : codeIn K cd "label_of" = true) (k : keepIn K (.ref f) = true) : DK Pg K mg "label_of" m_label_of :=
  dk0 X G sc_label_of ck_label_of rfl (fun _ _ _ _ _ _ => all3 fun _ _ _ => rfl) a l c k
theorem dk_chances (X : K.In h) (G : h.Ns mainGlobals mg) {f : Addr} {od an : Option Addr} {oc kV dc pm cd ct : Value} {sl : Array (Option Value)} (a : nsIn K mainGlobals "chances" = some (some (.ref f)))
    (l : K.lookup f = some ⟨oc, od, .func (fnOf "chances" "chances" (defArgs (top 115)) (defBody (top 115)) (defScope (top 115)) .none kV dc pm an cd ct), sl⟩) (c : codeIn K cd "chances" = true) (k : keepIn K (.ref f) = true) : DK Pg K mg "chances" m_chances :=
  dk0 X G sc_chances ck_chances rfl (fun _ _ _ _ _ _ => all3 fun _ _ _ => rfl) a l c k
theorem dk_broken_chances (X : K.In h) (G : h.Ns mainGlobals mg) {f : Addr} {od an : Option Addr} {oc kV dc pm cd ct : Value} {sl : Array (Option Value)} (a : nsIn K mainGlobals "broken_chances" = some (some (.ref f)))
    (l : K.lookup f = some ⟨oc, od, .func (fnOf "broken_chances" "broken_chances" (defArgs (top 116)) (defBody (top 116)) (defScope (top 116)) .none kV dc pm an cd ct), sl⟩) (c : codeIn K cd "broken_chances" = true) (k : keepIn K (.ref f) = true) : DK Pg K mg "broken_chances" m_broken_chances :=
  dk0 X G sc_broken_chances ck_broken_chances rfl (fun _ _ _ _ _ _ => all3 fun _ _ _ => rfl) a l c k
theorem dk_worst_plan (X : K.In h) (G : h.Ns mainGlobals mg) {f : Addr} {od an : Option Addr} {oc kV dc pm cd ct : Value} {sl : Array (Option Value)} (a : nsIn K mainGlobals "worst_plan" = some (some (.ref f)))
    (l : K.lookup f = some ⟨oc, od, .func (fnOf "worst_plan" "worst_plan" (defArgs (top 129)) (defBody (top 129)) (defScope (top 129)) .none kV dc pm an cd ct), sl⟩) (c : codeIn K cd "worst_plan" = true) (k : keepIn K (.ref f) = true) : DK Pg K mg "worst_plan" m_worst_plan :=
  dk0 X G sc_worst_plan ck_worst_plan rfl (fun _ _ _ _ _ _ => all3 fun _ _ _ => rfl) a l c k
theorem dk_mean_plan (X : K.In h) (G : h.Ns mainGlobals mg) {f : Addr} {od an : Option Addr} {oc dV kV dc pm cd ct : Value} {sl : Array (Option Value)} (a : nsIn K mainGlobals "mean_plan" = some (some (.ref f)))
    (l : K.lookup f = some ⟨oc, od, .func (fnOf "mean_plan" "mean_plan" (defArgs (top 130)) (defBody (top 130)) (defScope (top 130)) dV kV dc pm an cd ct), sl⟩) (c : codeIn K cd "mean_plan" = true) (k : keepIn K (.ref f) = true) (b : Binds K (fnOf "mean_plan" "mean_plan" (defArgs (top 130)) (defBody (top 130)) (defScope (top 130)) dV kV dc pm an cd ct) m_mean_plan.ps [.none]) : DK Pg K mg "mean_plan" m_mean_plan :=
  dk1 X G sc_mean_plan ck_mean_plan rfl a l c k b
theorem dk_foe_of (X : K.In h) (G : h.Ns mainGlobals mg) {f : Addr} {od an : Option Addr} {oc kV dc pm cd ct : Value} {sl : Array (Option Value)} (a : nsIn K mainGlobals "foe_of" = some (some (.ref f)))
    (l : K.lookup f = some ⟨oc, od, .func (fnOf "foe_of" "foe_of" (defArgs (top 147)) (defBody (top 147)) (defScope (top 147)) .none kV dc pm an cd ct), sl⟩) (c : codeIn K cd "foe_of" = true) (k : keepIn K (.ref f) = true) : DK Pg K mg "foe_of" m_foe_of :=
  dk0 X G sc_foe_of ck_foe_of rfl (fun _ _ _ _ _ _ => all3 fun _ _ _ => rfl) a l c k
theorem dk_follows (X : K.In h) (G : h.Ns mainGlobals mg) {f : Addr} {od an : Option Addr} {oc kV dc pm cd ct : Value} {sl : Array (Option Value)} (a : nsIn K mainGlobals "follows" = some (some (.ref f)))
    (l : K.lookup f = some ⟨oc, od, .func (fnOf "follows" "follows" (defArgs (top 70)) (defBody (top 70)) (defScope (top 70)) .none kV dc pm an cd ct), sl⟩) (c : codeIn K cd "follows" = true) (k : keepIn K (.ref f) = true) : DK Pg K mg "follows" m_follows :=
  dk0 X G sc_follows ck_follows rfl (fun _ _ _ _ _ _ => all4 fun _ _ _ _ => rfl) a l c k
theorem dk_is_tree (X : K.In h) (G : h.Ns mainGlobals mg) {f : Addr} {od an : Option Addr} {oc dV kV dc pm cd ct : Value} {sl : Array (Option Value)} (a : nsIn K mainGlobals "is_tree" = some (some (.ref f)))
    (l : K.lookup f = some ⟨oc, od, .func (fnOf "is_tree" "is_tree" (defArgs (top 68)) (defBody (top 68)) (defScope (top 68)) dV kV dc pm an cd ct), sl⟩) (c : codeIn K cd "is_tree" = true) (k : keepIn K (.ref f) = true) (b : Binds K (fnOf "is_tree" "is_tree" (defArgs (top 68)) (defBody (top 68)) (defScope (top 68)) dV kV dc pm an cd ct) m_is_tree.ps [.none]) : DK Pg K mg "is_tree" m_is_tree :=
  dk1 X G sc_is_tree ck_is_tree rfl a l c k b
theorem dk_is_label (X : K.In h) (G : h.Ns mainGlobals mg) {f : Addr} {od an : Option Addr} {oc kV dc pm cd ct : Value} {sl : Array (Option Value)} (a : nsIn K mainGlobals "is_label" = some (some (.ref f)))
    (l : K.lookup f = some ⟨oc, od, .func (fnOf "is_label" "is_label" (defArgs (top 164)) (defBody (top 164)) (defScope (top 164)) .none kV dc pm an cd ct), sl⟩) (c : codeIn K cd "is_label" = true) (k : keepIn K (.ref f) = true) : DK Pg K mg "is_label" m_is_label :=
  dk0 X G sc_is_label ck_is_label rfl (fun _ _ _ _ _ _ => all4 fun _ _ _ _ => rfl) a l c k
theorem dk_is_plan (X : K.In h) (G : h.Ns mainGlobals mg) {f : Addr} {od an : Option Addr} {oc kV dc pm cd ct : Value} {sl : Array (Option Value)} (a : nsIn K mainGlobals "is_plan" = some (some (.ref f)))
    (l : K.lookup f = some ⟨oc, od, .func (fnOf "is_plan" "is_plan" (defArgs (top 128)) (defBody (top 128)) (defScope (top 128)) .none kV dc pm an cd ct), sl⟩) (c : codeIn K cd "is_plan" = true) (k : keepIn K (.ref f) = true) : DK Pg K mg "is_plan" m_is_plan :=
  dk0 X G sc_is_plan ck_is_plan rfl (fun _ _ _ _ _ _ => all4 fun _ _ _ _ => rfl) a l c k
theorem dk_is_foe (X : K.In h) (G : h.Ns mainGlobals mg) {f : Addr} {od an : Option Addr} {oc kV dc pm cd ct : Value} {sl : Array (Option Value)} (a : nsIn K mainGlobals "is_foe" = some (some (.ref f)))
    (l : K.lookup f = some ⟨oc, od, .func (fnOf "is_foe" "is_foe" (defArgs (top 148)) (defBody (top 148)) (defScope (top 148)) .none kV dc pm an cd ct), sl⟩) (c : codeIn K cd "is_foe" = true) (k : keepIn K (.ref f) = true) : DK Pg K mg "is_foe" m_is_foe :=
  dk0 X G sc_is_foe ck_is_foe rfl (fun _ _ _ _ _ _ => all5 fun _ _ _ _ _ => rfl) a l c k
theorem dk__law_hand (X : K.In h) (G : h.Ns mainGlobals mg) {f : Addr} {od an : Option Addr} {oc kV dc pm cd ct : Value} {sl : Array (Option Value)} (a : nsIn K mainGlobals "_law_hand" = some (some (.ref f)))
    (l : K.lookup f = some ⟨oc, od, .func (fnOf "_law_hand" "_law_hand" (defArgs (top 169)) (defBody (top 169)) (defScope (top 169)) .none kV dc pm an cd ct), sl⟩) (c : codeIn K cd "_law_hand" = true) (k : keepIn K (.ref f) = true) : DK Pg K mg "_law_hand" m__law_hand :=
  dk0 X G sc__law_hand ck__law_hand rfl (fun _ _ _ _ _ _ => all2 fun _ _ => rfl) a l c k
theorem dk__law_draw (X : K.In h) (G : h.Ns mainGlobals mg) {f : Addr} {od an : Option Addr} {oc kV dc pm cd ct : Value} {sl : Array (Option Value)} (a : nsIn K mainGlobals "_law_draw" = some (some (.ref f)))
    (l : K.lookup f = some ⟨oc, od, .func (fnOf "_law_draw" "_law_draw" (defArgs (top 170)) (defBody (top 170)) (defScope (top 170)) .none kV dc pm an cd ct), sl⟩) (c : codeIn K cd "_law_draw" = true) (k : keepIn K (.ref f) = true) : DK Pg K mg "_law_draw" m__law_draw :=
  dk0 X G sc__law_draw ck__law_draw rfl (fun _ _ _ _ _ _ => all2 fun _ _ => rfl) a l c k
theorem dk__law_is_refused (X : K.In h) (G : h.Ns mainGlobals mg) {f : Addr} {od an : Option Addr} {oc kV dc pm cd ct : Value} {sl : Array (Option Value)} (a : nsIn K mainGlobals "_law_is_refused" = some (some (.ref f)))
    (l : K.lookup f = some ⟨oc, od, .func (fnOf "_law_is_refused" "_law_is_refused" (defArgs (top 171)) (defBody (top 171)) (defScope (top 171)) .none kV dc pm an cd ct), sl⟩) (c : codeIn K cd "_law_is_refused" = true) (k : keepIn K (.ref f) = true) : DK Pg K mg "_law_is_refused" m__law_is_refused :=
  dk0 X G sc__law_is_refused ck__law_is_refused rfl (fun _ _ _ _ _ _ => all2 fun _ _ => rfl) a l c k
theorem dk_law (X : K.In h) (G : h.Ns mainGlobals mg) {f : Addr} {od an : Option Addr} {oc kV dc pm cd ct : Value} {sl : Array (Option Value)} (a : nsIn K mainGlobals "law" = some (some (.ref f)))
    (l : K.lookup f = some ⟨oc, od, .func (fnOf "law" "law" (defArgs (top 172)) (defBody (top 172)) (defScope (top 172)) .none kV dc pm an cd ct), sl⟩) (c : codeIn K cd "law" = true) (k : keepIn K (.ref f) = true) : DK Pg K mg "law" m_law :=
  dk0 X G sc_law ck_law rfl (fun _ _ _ _ _ _ => all1 fun _ => rfl) a l c k
theorem all_dk (D_check_work : DK Pg K mg "check_work" m_check_work) (D_check_asked_plans : DK Pg K mg "check_asked_plans" m_check_asked_plans) (D_check_asked_labels : DK Pg K mg "check_asked_labels" m_check_asked_labels) (D_modes_left : DK Pg K mg "modes_left" m_modes_left) (D_is_world : DK Pg K mg "is_world" m_is_world) (D_sound_in : DK Pg K mg "sound_in" m_sound_in) (D_clashing : DK Pg K mg "clashing" m_clashing) (D_meeting : DK Pg K mg "meeting" m_meeting) (D_broken : DK Pg K mg "broken" m_broken) (D_blame_of : DK Pg K mg "blame_of" m_blame_of) (D_accounts : DK Pg K mg "accounts" m_accounts) (D_all_worlds : DK Pg K mg "all_worlds" m_all_worlds) (D_first_world : DK Pg K mg "first_world" m_first_world) (D_count_worlds : DK Pg K mg "count_worlds" m_count_worlds) (D_refuted : DK Pg K mg "refuted" m_refuted) (D_is_blame : DK Pg K mg "is_blame" m_is_blame) (D_lots_of : DK Pg K mg "lots_of" m_lots_of) (D_label_row : DK Pg K mg "label_row" m_label_row) (D_label_of : DK Pg K mg "label_of" m_label_of) (D_chances : DK Pg K mg "chances" m_chances) (D_broken_chances : DK Pg K mg "broken_chances" m_broken_chances) (D_worst_plan : DK Pg K mg "worst_plan" m_worst_plan) (D_mean_plan : DK Pg K mg "mean_plan" m_mean_plan) (D_foe_of : DK Pg K mg "foe_of" m_foe_of) (D_follows : DK Pg K mg "follows" m_follows) (D_is_tree : DK Pg K mg "is_tree" m_is_tree) (D_is_label : DK Pg K mg "is_label" m_is_label) (D_is_plan : DK Pg K mg "is_plan" m_is_plan) (D_is_foe : DK Pg K mg "is_foe" m_is_foe) (D__law_hand : DK Pg K mg "_law_hand" m__law_hand) (D__law_draw : DK Pg K mg "_law_draw" m__law_draw) (D__law_is_refused : DK Pg K mg "_law_is_refused" m__law_is_refused) (D_law : DK Pg K mg "law" m_law) : ∀ p ∈ tab, DK Pg K mg p.1 p.2 := fun p hp => by
  simp only [tab, List.mem_cons, List.not_mem_nil, or_false] at hp
  rcases hp with rfl | rfl | rfl | rfl | rfl | rfl | rfl | rfl | rfl | rfl | rfl | rfl | rfl | rfl | rfl | rfl | rfl | rfl | rfl | rfl | rfl | rfl | rfl | rfl | rfl | rfl | rfl | rfl | rfl | rfl | rfl | rfl | rfl
  · exact D_check_work
  · exact D_check_asked_plans
  · exact D_check_asked_labels
  · exact D_modes_left
  · exact D_is_world
  · exact D_sound_in
  · exact D_clashing
  · exact D_meeting
  · exact D_broken
  · exact D_blame_of
  · exact D_accounts
  · exact D_all_worlds
  · exact D_first_world
  · exact D_count_worlds
  · exact D_refuted
  · exact D_is_blame
  · exact D_lots_of
  · exact D_label_row
  · exact D_label_of
  · exact D_chances
  · exact D_broken_chances
  · exact D_worst_plan
  · exact D_mean_plan
  · exact D_foe_of
  · exact D_follows
  · exact D_is_tree
  · exact D_is_label
  · exact D_is_plan
  · exact D_is_foe
  · exact D__law_hand
  · exact D__law_draw
  · exact D__law_is_refused
  · exact D_law
theorem all_bn (X : K.In h) (G : h.Ns mainGlobals mg) (z0 : nsIn K mainGlobals "len" = some none) (z1 : nsIn K mainGlobals "all" = some none) (z2 : nsIn K mainGlobals "any" = some none) (z3 : nsIn K mainGlobals "int" = some none) (z4 : nsIn K mainGlobals "min" = some none) (z5 : nsIn K mainGlobals "max" = some none) (z6 : nsIn K mainGlobals "list" = some none) (z7 : nsIn K mainGlobals "tuple" = some none) (z8 : nsIn K mainGlobals "repr" = some none) (z9 : nsIn K mainGlobals "isinstance" = some none) (z10 : nsIn K mainGlobals "range" = some none) (z11 : nsIn K mainGlobals "enumerate" = some none) (z12 : nsIn K mainGlobals "set" = some none) (z13 : nsIn K mainGlobals "str" = some none) (z14 : nsIn K mainGlobals "bool" = some none) (z15 : nsIn K mainGlobals "dict" = some none) (z16 : nsIn K mainGlobals "ValueError" = some none) (z17 : nsIn K mainGlobals "KeyError" = some none) (z18 : nsIn K mainGlobals "IndexError" = some none) (z19 : nsIn K mainGlobals "RuntimeError" = some none) (z20 : nsIn K mainGlobals "OverflowError" = some none) (z21 : nsIn K mainGlobals "sorted" = some none) (z22 : nsIn K mainGlobals "zip" = some none) (z23 : nsIn K mainGlobals "sum" = some none) : ∀ x ∈ bltNames, mg x = none := fun x hx => by
  simp only [bltNames, List.mem_cons, List.not_mem_nil, or_false] at hx
  rcases hx with rfl | rfl | rfl | rfl | rfl | rfl | rfl | rfl | rfl | rfl | rfl | rfl | rfl | rfl | rfl | rfl | rfl | rfl | rfl | rfl | rfl | rfl | rfl | rfl
  · exact mg_none_of X G z0
  · exact mg_none_of X G z1
  · exact mg_none_of X G z2
  · exact mg_none_of X G z3
  · exact mg_none_of X G z4
  · exact mg_none_of X G z5
  · exact mg_none_of X G z6
  · exact mg_none_of X G z7
  · exact mg_none_of X G z8
  · exact mg_none_of X G z9
  · exact mg_none_of X G z10
  · exact mg_none_of X G z11
  · exact mg_none_of X G z12
  · exact mg_none_of X G z13
  · exact mg_none_of X G z14
  · exact mg_none_of X G z15
  · exact mg_none_of X G z16
  · exact mg_none_of X G z17
  · exact mg_none_of X G z18
  · exact mg_none_of X G z19
  · exact mg_none_of X G z20
  · exact mg_none_of X G z21
  · exact mg_none_of X G z22
  · exact mg_none_of X G z23
theorem all_ok33 {P : Program} {w : World} {base : Heap} (N : PkX K mg "NoWork" mroV ["part", "number", "tie"]) (W : PkI K mg "Work" []) (D : ∀ p ∈ tab, DK Pg K mg p.1 p.2) (bn : ∀ x ∈ bltNames, mg x = none)
    (hn : specialIn K (.builtin "object.__class__") "__get__" = some (some (.builtin "getset_descriptor.__get__"))) (htk : takesIn K (.builtin "object.__class__") = some true) :
    Wd.Ok ⟨⟨P, w, K, fnA mg, fnA mg, []⟩, mg, base, Pg⟩ ∧ ∀ x md, Pg.defs x = some md → DefOk ⟨⟨P, w, K, fnA mg, fnA mg, []⟩, mg, base, Pg⟩ x md := by
  have dd : ∀ x md, Pg.defs x = some md → DefOk ⟨⟨P, w, K, fnA mg, fnA mg, []⟩, mg, base, Pg⟩ x md := fun x md hx => D (x, md) (lookup_mem hx) P w base
  refine ⟨⟨fun x d hx => ?_, bn, fun c ns hc => ?_, fun c fs hc => ?_, fun T bs hT => ?_, hn, htk⟩, dd⟩
  · have hx : (if doors.contains x = true then some (L2.D.fn x) else none) = some d := hx
    split at hx
    · rename_i q
      cases hx
      have q : x ∈ doors := by simpa using q
      have hd : ∀ x ∈ doors, ∃ md, tab.lookup x = some md := by
        intro x hx
        simp only [doors, List.mem_cons, List.not_mem_nil, or_false] at hx
        rcases hx with rfl | rfl | rfl | rfl | rfl | rfl | rfl | rfl | rfl | rfl | rfl | rfl | rfl | rfl | rfl | rfl | rfl | rfl | rfl | rfl | rfl | rfl | rfl | rfl | rfl <;> exact ⟨_, rfl⟩
      obtain ⟨md, hm⟩ := hd x q
      exact gl_fn (dd x md hm)
    · cases hx
  · have hc : (if c = "NoWork" then some (["part", "number", "tie"] : List Str) else none) = some ns := hc
    split at hc
    · rename_i q; cases hc; rw [q]; exact N.ex P w base Pg
    · cases hc
  · have hc : (if c = "Work" then some ([] : List Str) else none) = some fs := hc
    split at hc
    · rename_i q; cases hc; rw [q]; exact W.ex P w base Pg
    · cases hc
  · have hT : (if T = "ValueError" then some (["NoWork"] : List Str) else none) = some bs := hT
    split at hT
    · rename_i q
      cases hT
      subst q
      refine ⟨List.mem_cons_self, fun c ns hc => ?_⟩
      have hc : (if c = "NoWork" then some (["part", "number", "tie"] : List Str) else none) = some ns := hc
      split at hc
      · rename_i q
        subst q
        exact (N.kt "ValueError" (by decide +kernel)).trans (by decide +kernel)
      · cases hc
    · cases hT
theorem b_law {f fa : Addr} {od an : Option Addr} {oc kV dc pm cd ct : Value} {sl : Array (Option Value)} (X : K.In h) (G : h.Ns mainGlobals mg) (hm : mg "law" = some (.ref fa)) (a : nsIn K mainGlobals "law" = some (some (.ref f)))
    (l : K.lookup f = some ⟨oc, od, .func (fnOf "law" "law" (defArgs (top 172)) (defBody (top 172)) (defScope (top 172)) .none kV dc pm an cd ct), sl⟩) (c : codeIn K cd "law" = true) (k : keepIn K (.ref f) = true) :
    ∃ st fd, FunD K "law" "law" st fa fd ∧ ∀ (s : Shared) (u : Value), BindsTo s fd ⟨[u], []⟩ [("_law_script", u)] := by
  have e := hm.symm.trans (mg_of X G a)
  cases e
  exact ⟨top 172, _, FunD.mk' l c k, fun s u => .of_eq rfl⟩
end
end K33

open PySem PySem.W PyProof.Rows
set_option maxRecDepth 100000 in
set_option maxHeartbeats 0 in
theorem PySem.Challenge.cw_leastblame_k33_no_work_at_any_door_holds : PySem.Challenge.rw_leastblame_k33_no_work_at_any_door.Holds := by
  refine K33Head.2 ?_
  dsimp only [K33Head]
  k_fill
  refine L2.walk_mirror (l := PySem.Challenge.rw_leastblame_k33_no_work_at_any_door) (Pg := K33.Pg) (x := "law") (y := "_law_script") (md := K33.m_law) 40 rfl rfl rfl rfl rfl rfl K33.d_law (fun w h Y => PySem.W.kIn_of Y) ?F ?B K33.law_true
  case F =>
    intro w mg h KX G base KXb Gb
    have N : L2.PkX (L2.KOf KX) mg "NoWork" L2.mroV ["part", "number", "tie"] := by
      dsimp only [L2.KOf]
      refine' K33.pk_NW KX G ?aC ?lC ?ga ?gh ?sa ?cl ?kp ?ai ?fi ?lf ?cf ?kf ?n0 ?n1 ?n2
      (case aC => k_is); (case lC => k_is); (case ga => k_is); (case gh => k_is); (case sa => k_is); (case cl => k_is); (case kp => k_is); (case ai => k_is); (case fi => k_is); (case lf => k_is); (case cf => k_is); (case kf => k_is); (case n0 => k_is); (case n1 => k_is); (case n2 => k_is)
    have W : L2.PkI (L2.KOf KX) mg "Work" [] := by
      dsimp only [L2.KOf]
      refine' L2.pki_mk KX G ?a ?pg ?hd ?po ?sa ?ha ?hn ?htk ?hm ?ty ?na
      (case a => k_is); (case pg => k_is); (case hd => k_is); (case po => k_is); (case sa => k_is); (case ha => k_is); (case hn => k_is); (case htk => k_is); (case hm => k_is); (case ty => k_is)
      (case na => intro g hg; cases hg)
    have D_check_work : L2.DK K33.Pg (L2.KOf KX) mg "check_work" K33.m_check_work := by
      dsimp only [L2.KOf]
      refine' K33.dk_check_work KX G ?a ?l ?c ?k
      (case a => k_is); (case l => k_is); (case c => k_is); (case k => k_is)
    have D_check_asked_plans : L2.DK K33.Pg (L2.KOf KX) mg "check_asked_plans" K33.m_check_asked_plans := by
      dsimp only [L2.KOf]
      refine' K33.dk_check_asked_plans KX G ?a ?l ?c ?k
      (case a => k_is); (case l => k_is); (case c => k_is); (case k => k_is)
    have D_check_asked_labels : L2.DK K33.Pg (L2.KOf KX) mg "check_asked_labels" K33.m_check_asked_labels := by
      dsimp only [L2.KOf]
      refine' K33.dk_check_asked_labels KX G ?a ?l ?c ?k
      (case a => k_is); (case l => k_is); (case c => k_is); (case k => k_is)
    have D_modes_left : L2.DK K33.Pg (L2.KOf KX) mg "modes_left" K33.m_modes_left := by
      dsimp only [L2.KOf]
      refine' K33.dk_modes_left KX G ?a ?l ?c ?k
      (case a => k_is); (case l => k_is); (case c => k_is); (case k => k_is)
    have D_is_world : L2.DK K33.Pg (L2.KOf KX) mg "is_world" K33.m_is_world := by
      dsimp only [L2.KOf]
      refine' K33.dk_is_world KX G ?a ?l ?c ?k
      (case a => k_is); (case l => k_is); (case c => k_is); (case k => k_is)
    have D_sound_in : L2.DK K33.Pg (L2.KOf KX) mg "sound_in" K33.m_sound_in := by
      dsimp only [L2.KOf]
      refine' K33.dk_sound_in KX G ?a ?l ?c ?k
      (case a => k_is); (case l => k_is); (case c => k_is); (case k => k_is)
    have D_clashing : L2.DK K33.Pg (L2.KOf KX) mg "clashing" K33.m_clashing := by
      dsimp only [L2.KOf]
      refine' K33.dk_clashing KX G ?a ?l ?c ?k
      (case a => k_is); (case l => k_is); (case c => k_is); (case k => k_is)
    have D_meeting : L2.DK K33.Pg (L2.KOf KX) mg "meeting" K33.m_meeting := by
      dsimp only [L2.KOf]
      refine' K33.dk_meeting KX G ?a ?l ?c ?k
      (case a => k_is); (case l => k_is); (case c => k_is); (case k => k_is)
    have D_broken : L2.DK K33.Pg (L2.KOf KX) mg "broken" K33.m_broken := by
      dsimp only [L2.KOf]
      refine' K33.dk_broken KX G ?a ?l ?c ?k
      (case a => k_is); (case l => k_is); (case c => k_is); (case k => k_is)
    have D_blame_of : L2.DK K33.Pg (L2.KOf KX) mg "blame_of" K33.m_blame_of := by
      dsimp only [L2.KOf]
      refine' K33.dk_blame_of KX G ?a ?l ?c ?k
      (case a => k_is); (case l => k_is); (case c => k_is); (case k => k_is)
    have D_accounts : L2.DK K33.Pg (L2.KOf KX) mg "accounts" K33.m_accounts := by
      dsimp only [L2.KOf]
      refine' K33.dk_accounts KX G ?a ?l ?c ?k
      (case a => k_is); (case l => k_is); (case c => k_is); (case k => k_is)
    have D_all_worlds : L2.DK K33.Pg (L2.KOf KX) mg "all_worlds" K33.m_all_worlds := by
      dsimp only [L2.KOf]
      refine' K33.dk_all_worlds KX G ?a ?l ?c ?k
      (case a => k_is); (case l => k_is); (case c => k_is); (case k => k_is)
    have D_first_world : L2.DK K33.Pg (L2.KOf KX) mg "first_world" K33.m_first_world := by
      dsimp only [L2.KOf]
      refine' K33.dk_first_world KX G ?a ?l ?c ?k
      (case a => k_is); (case l => k_is); (case c => k_is); (case k => k_is)
    have D_count_worlds : L2.DK K33.Pg (L2.KOf KX) mg "count_worlds" K33.m_count_worlds := by
      dsimp only [L2.KOf]
      refine' K33.dk_count_worlds KX G ?a ?l ?c ?k
      (case a => k_is); (case l => k_is); (case c => k_is); (case k => k_is)
    have D_refuted : L2.DK K33.Pg (L2.KOf KX) mg "refuted" K33.m_refuted := by
      dsimp only [L2.KOf]
      refine' K33.dk_refuted KX G ?a ?l ?c ?k
      (case a => k_is); (case l => k_is); (case c => k_is); (case k => k_is)
    have D_is_blame : L2.DK K33.Pg (L2.KOf KX) mg "is_blame" K33.m_is_blame := by
      dsimp only [L2.KOf]
      refine' K33.dk_is_blame KX G ?a ?l ?c ?k
      (case a => k_is); (case l => k_is); (case c => k_is); (case k => k_is)
    have D_lots_of : L2.DK K33.Pg (L2.KOf KX) mg "lots_of" K33.m_lots_of := by
      dsimp only [L2.KOf]
      refine' K33.dk_lots_of KX G ?a ?l ?c ?k
      (case a => k_is); (case l => k_is); (case c => k_is); (case k => k_is)
    have D_label_row : L2.DK K33.Pg (L2.KOf KX) mg "label_row" K33.m_label_row := by
      dsimp only [L2.KOf]
      refine' K33.dk_label_row KX G ?a ?l ?c ?k
      (case a => k_is); (case l => k_is); (case c => k_is); (case k => k_is)
    have D_label_of : L2.DK K33.Pg (L2.KOf KX) mg "label_of" K33.m_label_of := by
      dsimp only [L2.KOf]
      refine' K33.dk_label_of KX G ?a ?l ?c ?k
      (case a => k_is); (case l => k_is); (case c => k_is); (case k => k_is)
    have D_chances : L2.DK K33.Pg (L2.KOf KX) mg "chances" K33.m_chances := by
      dsimp only [L2.KOf]
      refine' K33.dk_chances KX G ?a ?l ?c ?k
      (case a => k_is); (case l => k_is); (case c => k_is); (case k => k_is)
    have D_broken_chances : L2.DK K33.Pg (L2.KOf KX) mg "broken_chances" K33.m_broken_chances := by
      dsimp only [L2.KOf]
      refine' K33.dk_broken_chances KX G ?a ?l ?c ?k
      (case a => k_is); (case l => k_is); (case c => k_is); (case k => k_is)
    have D_worst_plan : L2.DK K33.Pg (L2.KOf KX) mg "worst_plan" K33.m_worst_plan := by
      dsimp only [L2.KOf]
      refine' K33.dk_worst_plan KX G ?a ?l ?c ?k
      (case a => k_is); (case l => k_is); (case c => k_is); (case k => k_is)
    have D_mean_plan : L2.DK K33.Pg (L2.KOf KX) mg "mean_plan" K33.m_mean_plan := by
      dsimp only [L2.KOf]
      refine' K33.dk_mean_plan KX G ?a ?l ?c ?k ?b
      (case a => k_is); (case l => k_is); (case c => k_is); (case k => k_is)
      (case b => exact L2.bindK3 rfl fun s a b c hin => PySem.W.kp_binds hin (fun _ => rfl))
    have D_foe_of : L2.DK K33.Pg (L2.KOf KX) mg "foe_of" K33.m_foe_of := by
      dsimp only [L2.KOf]
      refine' K33.dk_foe_of KX G ?a ?l ?c ?k
      (case a => k_is); (case l => k_is); (case c => k_is); (case k => k_is)
    have D_follows : L2.DK K33.Pg (L2.KOf KX) mg "follows" K33.m_follows := by
      dsimp only [L2.KOf]
      refine' K33.dk_follows KX G ?a ?l ?c ?k
      (case a => k_is); (case l => k_is); (case c => k_is); (case k => k_is)
    have D_is_tree : L2.DK K33.Pg (L2.KOf KX) mg "is_tree" K33.m_is_tree := by
      dsimp only [L2.KOf]
      refine' K33.dk_is_tree KX G ?a ?l ?c ?k ?b
      (case a => k_is); (case l => k_is); (case c => k_is); (case k => k_is)
      (case b => exact L2.bindK4 rfl fun s a b c d hin => PySem.W.kp_binds hin (fun _ => rfl))
    have D_is_label : L2.DK K33.Pg (L2.KOf KX) mg "is_label" K33.m_is_label := by
      dsimp only [L2.KOf]
      refine' K33.dk_is_label KX G ?a ?l ?c ?k
      (case a => k_is); (case l => k_is); (case c => k_is); (case k => k_is)
    have D_is_plan : L2.DK K33.Pg (L2.KOf KX) mg "is_plan" K33.m_is_plan := by
      dsimp only [L2.KOf]
      refine' K33.dk_is_plan KX G ?a ?l ?c ?k
      (case a => k_is); (case l => k_is); (case c => k_is); (case k => k_is)
    have D_is_foe : L2.DK K33.Pg (L2.KOf KX) mg "is_foe" K33.m_is_foe := by
      dsimp only [L2.KOf]
      refine' K33.dk_is_foe KX G ?a ?l ?c ?k
      (case a => k_is); (case l => k_is); (case c => k_is); (case k => k_is)
    have D__law_hand : L2.DK K33.Pg (L2.KOf KX) mg "_law_hand" K33.m__law_hand := by
      dsimp only [L2.KOf]
      refine' K33.dk__law_hand KX G ?a ?l ?c ?k
      (case a => k_is); (case l => k_is); (case c => k_is); (case k => k_is)
    have D__law_draw : L2.DK K33.Pg (L2.KOf KX) mg "_law_draw" K33.m__law_draw := by
      dsimp only [L2.KOf]
      refine' K33.dk__law_draw KX G ?a ?l ?c ?k
      (case a => k_is); (case l => k_is); (case c => k_is); (case k => k_is)
    have D__law_is_refused : L2.DK K33.Pg (L2.KOf KX) mg "_law_is_refused" K33.m__law_is_refused := by
      dsimp only [L2.KOf]
      refine' K33.dk__law_is_refused KX G ?a ?l ?c ?k
      (case a => k_is); (case l => k_is); (case c => k_is); (case k => k_is)
    have D_law : L2.DK K33.Pg (L2.KOf KX) mg "law" K33.m_law := by
      dsimp only [L2.KOf]
      refine' K33.dk_law KX G ?a ?l ?c ?k
      (case a => k_is); (case l => k_is); (case c => k_is); (case k => k_is)
    have bn : ∀ x ∈ L2.bltNames, mg x = none := by
      refine' K33.all_bn KX G ?z0 ?z1 ?z2 ?z3 ?z4 ?z5 ?z6 ?z7 ?z8 ?z9 ?z10 ?z11 ?z12 ?z13 ?z14 ?z15 ?z16 ?z17 ?z18 ?z19 ?z20 ?z21 ?z22 ?z23
      (case z0 => k_is); (case z1 => k_is); (case z2 => k_is); (case z3 => k_is); (case z4 => k_is); (case z5 => k_is); (case z6 => k_is); (case z7 => k_is); (case z8 => k_is); (case z9 => k_is); (case z10 => k_is); (case z11 => k_is); (case z12 => k_is); (case z13 => k_is); (case z14 => k_is); (case z15 => k_is); (case z16 => k_is); (case z17 => k_is); (case z18 => k_is); (case z19 => k_is); (case z20 => k_is); (case z21 => k_is); (case z22 => k_is); (case z23 => k_is)
    refine' K33.all_ok33 N W (K33.all_dk D_check_work D_check_asked_plans D_check_asked_labels D_modes_left D_is_world D_sound_in D_clashing D_meeting D_broken D_blame_of D_accounts D_all_worlds D_first_world D_count_worlds D_refuted D_is_blame D_lots_of D_label_row D_label_of D_chances D_broken_chances D_worst_plan D_mean_plan D_foe_of D_follows D_is_tree D_is_label D_is_plan D_is_foe D__law_hand D__law_draw D__law_is_refused D_law) bn ?hn ?htk
    (case hn => k_is); (case htk => k_is)
  case B =>
    intro w mg fa h KX G hmg
    refine' K33.b_law KX G hmg ?a ?l ?c ?k
    (case a => k_is); (case l => k_is); (case c => k_is); (case k => k_is)
