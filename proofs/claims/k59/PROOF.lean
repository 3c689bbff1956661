import PyProof.Rows.All
import Wide.All
import OpenK.AllK
import Wide.FinOn
import Lean
import PyProof.EqAt
import PyProof.EqKinds
import PyProof.TupleCall
import PyProof.Rows.EqDataRows
import PyProof.Rows.InDataRows
import PyProof.StrLawsRepr
import PyProof.AutoListH
import PyProof.TupleKey
import PyProof.P3Eq
import PyProof.FString2
import PyProof.FactsAll.bool
import KE.KDictList
import PyProof.Rows.RuleB_bool
import PySem.Challenge.RW_hatchwaits_k59_means_until_empty_and_sta
def PySem.W.Fast.tw13189786392787580009:=0
def PySem.W.Fast.tw343720044430424029:=0
def PySem.W.Fast.tw2236970371108930275:=0
def PySem.W.Fast.tw11238073962403502856:=0
def PySem.W.Fast.tw8362521901212985876:=0
def PySem.W.Fast.tw2859090247052678349:=0
def PySem.W.Fast.tw11045132538069245795:=0
def PySem.W.Fast.tw1013603990358057675:=0
def PySem.W.Fast.tw5660638579663229693:=0
def PySem.W.Fast.tw1452856285724076788:=0
def PySem.W.Fast.tw13367681598713187348:=0
def PySem.W.Fast.tw16751421058757729163:=0
def PySem.W.Fast.tw17065761587696915868:=0
def PySem.W.Fast.tw2917193445724873086:=0
def PySem.W.Fast.tw1880685730513440331:=0
def PySem.W.Fast.tw8733875929343454529:=0
def PySem.W.Fast.tw7466370162642940375:=0
def PySem.W.Fast.tw6273734483267548071:=0
def PySem.W.Fast.tw3562850060506510839:=0
def PySem.W.Fast.tw1444006420019458861:=0
def PySem.W.Fast.tw1370151571427637706:=0
def PySem.W.Fast.tw219805774359194866:=0
def PySem.W.Fast.tw12554398670123270023:=0
def PySem.W.Fast.tw13397380941669143945:=0
def PySem.W.Fast.tw17404895573592305366:=0
def PySem.W.Fast.tw3697931613305202155:=0
def PySem.W.Fast.tw7890260383363152136:=0
def PySem.W.Fast.tw16113880214733569791:=0
def PySem.W.Fast.tw12600354418722524759:=0
def PySem.W.Fast.tw4926411111657513239:=0
def PySem.W.Fast.tw5188980288398862582:=0
def PySem.W.Fast.tw14973533510346407301:=0
def PySem.W.Fast.tw17742180931023051104:=0
def PySem.W.Fast.tw18305569976784090664:=0
def PySem.W.Fast.tw15582983403031877172:=0
def PySem.W.Fast.tw7572883375445173893:=0
def PySem.W.Fast.tw10018117218533962166:=0
def PySem.W.Fast.tw12889979951395704364:=0
def PySem.W.Fast.tw1550275299311262494:=0
def PySem.W.Fast.tw13285879593297753740:=0
def PySem.W.Fast.tw9253964176025569038:=0
def PySem.W.Fast.tw3944987497363485019:=0
def PySem.W.Fast.tw16914823505047516768:=0
def PySem.W.Fast.tw5119668581055723257:=0
def PySem.W.Fast.tw8144854899871626440:=0
def PySem.W.Fast.tw7418816377496291643:=0
def PySem.W.Fast.tw15007812646099337724:=0
def PySem.W.Fast.tw12378249602041947395:=0
def PySem.W.Fast.tw12401089814629927866:=0
def PySem.W.Fast.tw9185892368741967415:=0
def PySem.W.Fast.tw9913282403615032768:=0
def PySem.W.Fast.tw18427862164014863714:=0
def PySem.W.Fast.tw8806217254599677840:=0
def PySem.W.Fast.tw1400125884986537707:=0
def PySem.W.Fast.tw12164442509303853501:=0
def PySem.W.Fast.tw13451320778470048971:=0
def PySem.W.Fast.tw360332635600742469:=0
def PySem.W.Fast.tw14281690035984952956:=0
def PySem.W.Fast.tw3096600244199232590:=0
def PySem.W.Fast.tw13713417794681669592:=0
def PySem.W.Fast.tw7782382232850340659:=0
def PySem.W.Fast.tw4711496359740650714:=0
def PySem.W.Fast.tw8989916469629748585:=0
def PySem.W.Fast.tw17256290542230320382:=0
def PySem.W.Fast.tw18028338687111051452:=0
def PySem.W.Fast.tw13712844767279798314:=0
def PySem.W.Fast.tw13422813848617772456:=0
def PySem.W.Fast.tw3917971364616628283:=0
def PySem.W.Fast.tw18319694136409012648:=0
def PySem.W.Fast.tw3390005020288756605:=0
def PySem.W.Fast.tw7846105312036378494:=0
def PySem.W.Fast.tw3136343407746810273:=0
def PySem.W.Fast.tw268073901519405155:=0
def PySem.W.Fast.tw5503916369300172629:=0
def PySem.W.Fast.tw8489822800203918565:=0
def PySem.W.Fast.tw768114266652796627:=0
def PySem.W.Fast.tw4867886292566631241:=0
def PySem.W.Fast.tw9265431007791510656:=0
def PySem.W.Fast.tw17740436767144851332:=0
def PySem.W.Fast.tw12343897260643593691:=0
def PySem.W.Fast.tw12842355503021077379:=0
def PySem.W.Fast.tw6120462473163575049:=0
def PySem.W.Fast.tw14917708207478603863:=0
def PySem.W.Fast.tw4060100633085492212:=0
def PySem.W.Fast.tw11019296393211401008:=0
def PySem.W.Fast.tw12011480564133832931:=0
def PySem.W.Fast.tw7620180897394657773:=0
def PySem.W.Fast.tw17483883140655732437:=0
def PySem.W.Fast.tw1143144932888947416:=0
def PySem.W.Fast.tw11307718359453890646:=0
def PySem.W.Fast.tw5062640931140299811:=0
def PySem.W.Fast.tw9061548660926760390:=0
def PySem.W.Fast.tw16826219718269649204:=0
def PySem.W.Fast.tw16172194398069359472:=0
def PySem.W.Fast.tw1045786648766277876:=0
def PySem.W.Fast.tw6396718440312220914:=0
def PySem.W.Fast.tw8164231351063624789:=0
def PySem.W.Fast.tw509987022268223603:=0
def PySem.W.Fast.tw12660188127304205422:=0
def PySem.W.Fast.tw2261598478699564864:=0
def PySem.W.Fast.tw13588390178278308195:=0
def PySem.W.Fast.tw11562885451260070136:=0
def PySem.W.Fast.tw10599209105871321028:=0
def PySem.W.Fast.tw17960387878457011665:=0
def PySem.W.Fast.tw492759912660100954:=0
def PySem.W.Fast.tw12100346699901864234:=0
def PySem.W.Fast.tw9354472248689896254:=0
def PySem.W.Fast.tw16207231605667375360:=0
def PySem.W.Fast.tw9055282838971426459:=0
def PySem.W.Fast.tw11098774219441752384:=0
def PySem.W.Fast.tw6252206329691754880:=0
def PySem.W.Fast.tw15571773547324534271:=0
def PySem.W.Fast.tw17218701111544568327:=0
def PySem.W.Fast.tw464231483404002554:=0
def PySem.W.Fast.tw436340518797668313:=0
def PySem.W.Fast.tw1692310320351152825:=0
def PySem.W.Fast.tw13429913746984339537:=0
def PySem.W.Fast.tw1490907375724217751:=0
def PySem.W.Fast.tw17714880197187968836:=0
def PySem.W.Fast.tw15898839126427101322:=0
def PySem.W.Fast.tw5100466194201519764:=0
def PySem.W.Fast.tw18311412868244361495:=0
def PySem.W.Fast.tw7223190998284645795:=0
def PySem.W.Fast.tw17874686849472624244:=0
def PySem.W.Fast.tw13483429622393938568:=0
def PySem.W.Fast.tw2059326301142152084:=0
def PySem.W.Fast.tw7354691008843407497:=0
def PySem.W.Fast.tw13653796880523834133:=0
def PySem.W.Fast.tw11320709330264029862:=0
def PySem.W.Fast.tw7298802509343679792:=0
def PySem.W.Fast.tw17686725638852818501:=0
def PySem.W.Fast.tw2190656783295674287:=0
def PySem.W.Fast.tw2133535298109553965:=0
def PySem.W.Fast.tw11087980875992838902:=0
def PySem.W.Fast.tw2317223709534834425:=0
def PySem.W.Fast.tw10726459250014357841:=0
def PySem.W.Fast.tw7766562824201785761:=0
def PySem.W.Fast.tw12788426445154715556:=0
def PySem.W.Fast.tw15822603570646259212:=0
def PySem.W.Fast.tw16552237927169862492:=0
def PySem.W.Fast.tw8038873166939400400:=0
def PySem.W.Fast.tw13802089984263511785:=0
def PySem.W.Fast.tw1400366466340445522:=0
def PySem.W.Fast.tw9411097755439198438:=0
def PySem.W.Fast.tw11609846566269407191:=0
def PySem.W.Fast.tw219785750760308354:=0
def PySem.W.Fast.tw13746489211426081286:=0
def PySem.W.Fast.tw14192277932773756388:=0
def PySem.W.Fast.tw14971241154015073373:=0
def PySem.W.Fast.tw834105037774794473:=0
def PySem.W.Fast.tw3665087850491886328:=0
def PySem.W.Fast.tw755447492497731438:=0
def PySem.W.Fast.tw10754754890069951076:=0
def PySem.W.Fast.tw6040020486183427253:=0
def PySem.W.Fast.tw2072829651645782901:=0
def PySem.W.Fast.tw11763096161650460220:=0
def PySem.W.Fast.tw2003608056542564780:=0
def PySem.W.Fast.tw10547019967397510583:=0
def PySem.W.Fast.tw16290897277979012387:=0
def PySem.W.Fast.tw17262672827611176830:=0
def PySem.W.Fast.tw10342095603601461203:=0
def PySem.W.Fast.tw17525062502845873967:=0
def PySem.W.Fast.tw10787109110305240847:=0
def PySem.W.Fast.tw12987432760639954495:=0
def PySem.W.Fast.tw12866841915581594526:=0
def PySem.W.Fast.tw15124438116913035491:=0
def PySem.W.Fast.tw17958453644035061431:=0
def PySem.W.Fast.tw4115209394733711128:=0
def PySem.W.Fast.tw6576978359866915661:=0
def PySem.W.Fast.tw1319327534896913679:=0
def PySem.W.Fast.tw6095033323510043042:=0
def PySem.W.Fast.tw2177064284820469770:=0
def PySem.W.Fast.tw3444743947103067699:=0
def PySem.W.Fast.tw15337325491881339764:=0
def PySem.W.Fast.tw675109406767753850:=0
def PySem.W.Fast.tw13627473512829530500:=0
def PySem.W.Fast.tw5980639070051172404:=0
def PySem.W.Fast.tw11684171316616749225:=0
def PySem.W.Fast.tw1104353319572111296:=0
def PySem.W.Fast.tw436384583226686771:=0
def PySem.W.Fast.tw13857542367670289990:=0
def PySem.W.Fast.tw15528393398307745461:=0
def PySem.W.Fast.tw7524191696563935110:=0
def PySem.W.Fast.tw4001501730590135726:=0
def PySem.W.Fast.tw8068206414710313791:=0
def PySem.W.Fast.tw16716025884597808578:=0
def PySem.W.Fast.tw7274732092866679163:=0
def PySem.W.Fast.tw15536919937732369266:=0
def PySem.W.Fast.tw3976306076015845146:=0
def PySem.W.Fast.tw5832180358275436651:=0
def PySem.W.Fast.tw6187509690370389270:=0
def PySem.W.Fast.tw17621526904199917063:=0
def PySem.W.Fast.tw6193129277295660350:=0
def PySem.W.Fast.tw8709406767260687444:=0
def PySem.W.Fast.tw12646917316880855791:=0
def PySem.W.Fast.tw1755041216725620268:=0
def PySem.W.Fast.tw14807713725543824087:=0
def PySem.W.Fast.tw472639820379684767:=0
def PySem.W.Fast.tw1103955077984671770:=0
def PySem.W.Fast.tw3885617957029468329:=0
def PySem.W.Fast.tw4052085828993799602:=0
def PySem.W.Fast.tw15205491525165871085:=0
def PySem.W.Fast.tw554999072824136642:=0
def PySem.W.Fast.tw9311573423922757548:=0
def PySem.W.Fast.tw14597480143036595134:=0
def PySem.W.Fast.tw11015836620315919781:=0
def PySem.W.Fast.tw12357238901321272029:=0
def PySem.W.Fast.tw10353511098252144715:=0
def PySem.W.Fast.tw2220322828400789508:=0
def PySem.W.Fast.tw14367539647356522825:=0
def PySem.W.Fast.tw9108765446614151825:=0
def PySem.W.Fast.tw16062985433092761461:=0
def PySem.W.Fast.tw7224697994781546227:=0
def PySem.W.Fast.tw17412388359397749122:=0
def PySem.W.Fast.tw882340734970400254:=0
def PySem.W.Fast.tw12781442700912067422:=0
def PySem.W.Fast.tw8558249204050972085:=0
def PySem.W.Fast.tw11834576146363524060:=0
def PySem.W.Fast.tw12799776766980586325:=0
def PySem.W.Fast.tw1318014634439083243:=0
def PySem.W.Fast.tw11083189555193402451:=0
def PySem.W.Fast.tw10044406008287209159:=0
def PySem.W.Fast.tw4870270237359894536:=0
def PySem.W.Fast.tw4109214379291671677:=0
def PySem.W.Fast.tw4260185664114286429:=0
def PySem.W.Fast.tw7113429553289320246:=0
def PySem.W.Fast.tw12987432023469842749:=0
def PySem.W.Fast.tw10144840343227119356:=0
def PySem.W.Fast.tw15568975169098471426:=0
def PySem.W.Fast.tw16513763991869625169:=0
def PySem.W.Fast.tw13586521628414029376:=0
def PySem.W.Fast.tw12984469778883590878:=0
def PySem.W.Fast.tw10665606652527758408:=0
def PySem.W.Fast.tw4991662404525510505:=0
def PySem.W.Fast.tw4006385932137311032:=0
def PySem.W.Fast.tw4984318121903184676:=0
def PySem.W.Fast.tw12113480805484631243:=0
def PySem.W.Fast.tw15053043780390909786:=0
def PySem.W.Fast.tw8133660419817131748:=0
def PySem.W.Fast.tw15393913768751508809:=0
def PySem.W.Fast.tw11277290373943179568:=0
def PySem.W.Fast.tw2481992443381810357:=0
def PySem.W.Fast.tw10795401963177296167:=0
def PySem.W.Fast.tw15161380019310185065:=0
def PySem.W.Fast.tw8024103901194873557:=0
def PySem.W.Fast.tw12706090759560857385:=0
def PySem.W.Fast.tw16178528935700991841:=0
def PySem.W.Fast.tw17968356208336780092:=0
def PySem.W.Fast.tw15545741037686782948:=0
def PySem.W.Fast.tw5466312288769084655:=0
def PySem.W.Fast.tw13578564370126957095:=0
def PySem.W.Fast.tw12106012075317417321:=0
def PySem.W.Fast.tw17406355936870581317:=0
def PySem.W.Fast.tw217761263406690480:=0
def PySem.W.Fast.tw18369168806897171021:=0
def PySem.W.Fast.tw847951164758144498:=0
def PySem.W.Fast.tw3456231527111749431:=0
def PySem.W.Fast.tw4245297352486325363:=0
def PySem.W.Fast.tw10292499631501728117:=0
def PySem.W.Fast.tw519816585822862796:=0
def PySem.W.Fast.tw12413374808572775615:=0
def PySem.W.Fast.tw7143500896341227949:=0
def PySem.W.Fast.tw13290056653594705812:=0
def PySem.W.Fast.tw12364062719921690661:=0
def PySem.W.Fast.tw17110052426104416033:=0
def PySem.W.Fast.tw9134273035690473619:=0
def PySem.W.Fast.tw3297552462007687432:=0
def PySem.W.Fast.tw9712331028621702140:=0
def PySem.W.Fast.tw947666723278266412:=0
def PySem.W.Fast.tw14133241497042574057:=0
def PySem.W.Fast.tw3782078017219299003:=0
def PySem.W.Fast.tw4427263897828239119:=0
def PySem.W.Fast.tw13237330092997543043:=0
def PySem.W.Fast.tw31769033832421202:=0
def PySem.W.Fast.tw15766861668827264567:=0
def PySem.W.Fast.tw12930278439104999549:=0
def PySem.W.Fast.tw18221338788415905673:=0
def PySem.W.Fast.tw7729259800215666164:=0
def PySem.W.Fast.tw657608191310050852:=0
def PySem.W.Fast.tw371288138614170328:=0
def PySem.W.Fast.tw3341454611040721026:=0
def PySem.W.Fast.tw4563104323458736062:=0
def PySem.W.Fast.tw2064994177928547828:=0
def PySem.W.Fast.tw8243654476815542883:=0
def PySem.W.Fast.tw1867220764355749496:=0
def PySem.W.Fast.tw3421730382339017576:=0
def PySem.W.Fast.tw3062496705286470202:=0
def PySem.W.Fast.tw18118157877121959989:=0
def PySem.W.Fast.tw2631051745550841739:=0
def PySem.W.Fast.tw10344542453188840087:=0
def PySem.W.Fast.tw7867755678504240974:=0
def PySem.W.Fast.tw12675949363656013542:=0
def PySem.W.Fast.tw2974524685976505337:=0
def PySem.W.Fast.tw5602514228420546707:=0
def PySem.W.Fast.tw10137051759030554985:=0
def PySem.W.Fast.tw6105034489935872656:=0
def PySem.W.Fast.tw3069630432127501807:=0
def PySem.W.Fast.tw2629768809290047276:=0
def PySem.W.Fast.tw2397503531207360396:=0
def PySem.W.Fast.tw18406842959506701858:=0
def PySem.W.Fast.tw6757349548456757708:=0
def PySem.W.Fast.tw10606481514035761602:=0
def PySem.W.Fast.tw11552173331548636661:=0
def PySem.W.Fast.tw1660873711312515749:=0
def PySem.W.Fast.tw12542339589415542182:=0
def PySem.W.Fast.tw3025510973262828119:=0
def PySem.W.Fast.tw10279379811346679276:=0
def PySem.W.Fast.tw13287500434269639932:=0
def PySem.W.Fast.tw8478250862578156260:=0
def PySem.W.Fast.tw226403768219545616:=0
def PySem.W.Fast.tw13998234768860383413:=0
def PySem.W.Fast.tw6494811473104176922:=0
def PySem.W.Fast.tw12157689683937059225:=0
def PySem.W.Fast.tw11230054772350404247:=0
def PySem.W.Fast.tw600142852435486566:=0
def PySem.W.Fast.tw6903152030069345139:=0
def PySem.W.Fast.tw1426362946676700287:=0
def PySem.W.Fast.tw13616237064785197738:=0
def PySem.W.Fast.tw8555732388400412968:=0
def PySem.W.Fast.tw13480508675746530037:=0
def PySem.W.Fast.tw6558359154812771491:=0
def PySem.W.Fast.tw17633754060874948783:=0
def PySem.W.Fast.tw14060004954608421158:=0
def PySem.W.Fast.tw12702401509613930023:=0
def PySem.W.Fast.tw14295007465112775070:=0
def PySem.W.Fast.tw5970130076272458019:=0
def PySem.W.Fast.tw4098431798650948848:=0
def PySem.W.Fast.tw12568660504072702755:=0
def PySem.W.Fast.tw11424599808233518748:=0
def PySem.W.Fast.tw13235095248730768002:=0
def PySem.W.Fast.tw17653539114246354829:=0
def PySem.W.Fast.tw1333262395458122992:=0
def PySem.W.Fast.tw8721642503007624079:=0
def PySem.W.Fast.tw9242821580675017921:=0
def PySem.W.Fast.tw2345343879145670589:=0
def PySem.W.Fast.tw3305144874858491552:=0
def PySem.W.Fast.tw8716142426046470876:=0
set_option Elab.async false
set_option linter.all false
set_option maxRecDepth 100000
namespace L2
open PySem PySem.Spec PyProof.Rows
noncomputable abbrev Key := Sum Int Str
noncomputable def keyIs : Key → Value → Bool
  | .inl k, v => Value.isInt k v
  | .inr x, v => Value.isStrOf x v
noncomputable def keyH (w : World) : Key → Int
  | .inl k => hashInt k
  | .inr x => hashStr w x
theorem keyIs_shape : ∀ {k : Key} {v : Value}, keyIs k v = true → (∃ i t, k = Sum.inl i ∧ v = Value.int i t) ∨ (∃ x t, k = Sum.inr x ∧ v = Value.str x t)
  | .inl i, v, h => by
    obtain ⟨t, e⟩ := Value.isInt_shape (k := i) (v := v) h
    exact .inl ⟨i, t, rfl, e⟩
  | .inr x, v, h => by
    obtain ⟨t, e⟩ := Value.isStrOf_shape (x := x) (v := v) h
    exact .inr ⟨x, t, rfl, e⟩
theorem key_ll (a b : Int) : decide ((Sum.inl a : Key) = Sum.inl b) = (a == b) := by
  by_cases e : a = b
  · subst e; simp
  · have h : ¬ (Sum.inl a : Key) = Sum.inl b := fun q => e (Sum.inl.inj q)
    rw [decide_eq_false h]
    exact (beq_eq_false_iff_ne.mpr e).symm
theorem key_rr (a b : Str) : decide ((Sum.inr a : Key) = Sum.inr b) = decide (a = b) := by
  by_cases e : a = b
  · subst e; simp
  · have h : ¬ (Sum.inr a : Key) = Sum.inr b := fun q => e (Sum.inr.inj q)
    rw [decide_eq_false h, decide_eq_false e]
theorem key_lr (a : Int) (b : Str) : decide ((Sum.inl a : Key) = Sum.inr b) = false := decide_eq_false (fun q => nomatch q)
theorem key_rl (a : Str) (b : Int) : decide ((Sum.inr a : Key) = Sum.inl b) = false := decide_eq_false (fun q => nomatch q)
noncomputable def mixKind (prog : Program) (w : World) : PySem.KeyKind prog w Key where
  is := keyIs
  hash := keyH w
  inj := fun v a b ha hb => by
    rcases keyIs_shape ha with ⟨i, t, rfl, rfl⟩ | ⟨x, t, rfl, rfl⟩
    · rcases keyIs_shape hb with ⟨j, u, rfl, e⟩ | ⟨y, u, rfl, e⟩
      · injection e with e1 _; rw [e1]
      · exact nomatch e
    · rcases keyIs_shape hb with ⟨j, u, rfl, e⟩ | ⟨y, u, rfl, e⟩
      · exact nomatch e
      · injection e with e1 _; rw [e1]
  byValue := fun k v h => by
    rcases keyIs_shape h with ⟨i, t, rfl, rfl⟩ | ⟨x, t, rfl, rfl⟩ <;> rfl
  pyHash := fun hv h => by
    rcases keyIs_shape hv with ⟨i, t, rfl, rfl⟩ | ⟨x, t, rfl, rfl⟩
    · exact wpAny_pyHash_int h
    · exact wpAny_pyHash_str h
  eqBool := fun hu hv h => by
    rcases keyIs_shape hu with ⟨i, t, rfl, rfl⟩ | ⟨x, t, rfl, rfl⟩
    · rcases keyIs_shape hv with ⟨j, u, rfl, rfl⟩ | ⟨y, u, rfl, rfl⟩
      · rw [key_ll] at h; exact wpAny_eqBool_int h
      · rw [key_lr] at h; exact SeqAt.EqAt.int_str i t y u _ _ _ _ h
    · rcases keyIs_shape hv with ⟨j, u, rfl, rfl⟩ | ⟨y, u, rfl, rfl⟩
      · rw [key_rl] at h; exact SeqAt.EqAt.str_int x t j u _ _ _ _ h
      · rw [key_rr] at h; exact wpAny_eqBool_str h
  «strs» := fun k x t v h => by
    rcases keyIs_shape h with ⟨i, u, rfl, e⟩ | ⟨y, u, rfl, e⟩
    · exact nomatch e
    · injection e with e1 _
      subst e1
      cases v <;> rfl
end L2
namespace L2
open PySem PySem.Spec PyProof.Rows
inductive V where
  | non | bl (b : Bool) | int (i : Int) | str (x : Str) | byt (b : Array UInt8) | flt (b : UInt64) | ref (a : Addr) | ty (n : String)
  deriving DecidableEq
noncomputable def RelV : V → Value → Prop
  | .non, u => u = Value.none
  | .bl b, u => u = Value.bool b
  | .int i, u => ∃ t, u = Value.int i t
  | .str x, u => ∃ t, u = Value.str x t
  | .byt b, u => ∃ t, u = Value.bytes b t
  | .flt b, u => ∃ t, u = Value.float b t
  | .ref a, u => u = Value.ref a
  | .ty n, u => u = Value.type n
noncomputable abbrev Vals : List V → List Value → Prop := Paired RelV
theorem Vals.length {xs : List V} {us : List Value} (r : Vals xs us) : xs.length = us.length := Paired.length r
theorem Vals.get : ∀ {xs : List V} {us : List Value} {i : Nat} {x : V}, Vals xs us → xs[i]? = some x → ∃ u, us[i]? = some u ∧ RelV x u
  | _, _, _, _, .nil, e => by simp at e
  | _, _, 0, _, .cons r _, e => by simp at e; subst e; exact ⟨_, rfl, r⟩
  | _, _, i + 1, x, .cons _ t, e => by
    obtain ⟨u, h1, h2⟩ := Vals.get (i := i) (x := x) t (by simpa using e)
    exact ⟨u, by simpa using h1, h2⟩
theorem Vals.set {x : V} {u : Value} (r : RelV x u) : ∀ {xs : List V} {us : List Value} (i : Nat), Vals xs us → Vals (xs.set i x) (us.set i u)
  | _, _, _, .nil => .nil
  | _, _, 0, .cons _ t => .cons r t
  | _, _, i + 1, .cons q t => .cons q (Vals.set r i t)
theorem Vals.append : ∀ {xs ys : List V} {us ws : List Value}, Vals xs us → Vals ys ws → Vals (xs ++ ys) (us ++ ws)
  | _, _, _, _, .nil, s => s
  | _, _, _, _, .cons r t, s => .cons r (Vals.append t s)
theorem Vals.take : ∀ {xs : List V} {us : List Value} (n : Nat), Vals xs us → Vals (xs.take n) (us.take n)
  | _, _, 0, _ => .nil
  | _, _, _ + 1, .nil => .nil
  | _, _, n + 1, .cons r t => .cons r (Vals.take n t)
theorem Vals.drop : ∀ {xs : List V} {us : List Value} (n : Nat), Vals xs us → Vals (xs.drop n) (us.drop n)
  | _, _, 0, r => r
  | _, _, _ + 1, .nil => .nil
  | _, _, n + 1, .cons _ t => Vals.drop n t
noncomputable def RelO : Option V → Option Value → Prop
  | some v, some u => RelV v u
  | none, none => True
  | _, _ => False
noncomputable def KV {κ : Type} : List (κ × V) → List (κ × Value) → Prop := Paired fun (p : κ × V) (q : κ × Value) => p.1 = q.1 ∧ RelV p.2 q.2
noncomputable def kV : Key → V
  | .inl i => .int i
  | .inr x => .str x
inductive HO where
  /-- a list -/
  | lst (xs : List V)
  /-- a tuple (never changes) -/
  | tup (xs : List V)
  /-- a dict whose keys are ints and texts; one whose keys are tuples of ints and texts (the empty one is both) -/
  | dK (kvs : List (Key × V)) | dT (kvs : List (List Key × V))
  /-- a set of ints: its members, its size -/
  | set (S : Int → Bool) (n : Nat)
  /-- an instance of the class at C, its dict at dx, its attributes -/
  | ins (C dx : Addr) (fs : List (Str × V))
  /-- the dict of the instance at x -/
  | own (x : Addr)
  /-- the dict of an exception -/
  | xd (fs : List (Str × V))
  /-- a bound method, f of x -/
  | met (f x : Addr)
  /-- a range object lo, lo + 1, .. below hi -/
  | rng (lo hi : Int)
  /-- a thing that is known to the object (the script; a dict while a loop walks it): read, never written while it is so -/
  | frz (o : Obj) (u : HO)
  /-- a code object's table -/
  | tbl (ps : Array Value)
  /-- any other thing, by what is true of its one object (a def of one's own: SetO a S n := HO.ext fun h => ..) -/
  | ext (φ : Heap → Prop)
noncomputable abbrev Hp := Addr → Option HO
noncomputable def upd (H : Hp) (a : Addr) (o : HO) : Hp := fun b => if b = a then some o else H b
theorem upd_same {H : Hp} {a : Addr} {o : HO} : upd H a o a = some o := by unfold upd; rw [if_pos rfl]
theorem upd_ne {H : Hp} {a b : Addr} {o : HO} (h : b ≠ a) : upd H a o b = H b := by unfold upd; rw [if_neg h]
theorem ne_of_none {H : Hp} {a b : Addr} {o : HO} (h : H a = some o) (h' : H b = none) : a ≠ b := by
  intro e; subst e; rw [h] at h'; cases h'
noncomputable def NDc (h : Heap) (a : Addr) : Prop := ∀ o, h.get? a = some o → o.dict = none
theorem NDc.mk {h : Heap} {a : Addr} {o : Obj} (e : h.get? a = some o) (d : o.dict = none) : NDc h a := fun u z => by rw [e] at z; cases z; exact d
theorem NDc.stay {h h' : Heap} {a : Addr} {o : Obj} (d : NDc h a) (e : h.get? a = some o) (e' : h'.get? a = some o) : NDc h' a := .mk e' (d o e)
section
variable (P : Program) (w : World)
noncomputable def ObjOk (H : Hp) (h : Heap) (a : Addr) : HO → Prop
  | .lst xs => xs.length ≤ sizeLine ∧ ∃ (its : List Value) (n : Nat), Vals xs its ∧ h.get? a = some { cls := .type "list", data := .seq its.toArray n }
  | .tup xs => xs.length ≤ sizeLine ∧ ∃ its : List Value, Vals xs its ∧ IsTup h a its.toArray ∧ NDc h a
  | .dK kvs => kvs.length ≤ sizeLine ∧ (a == sysModules) = false ∧ ∃ vs, KV kvs vs ∧ h.DictOf (mixKind P w) a vs
  | .dT kvs => kvs.length ≤ sizeLine ∧ (a == sysModules) = false ∧ ∃ xs : List (List Key × Addr × Value),
      Paired (fun (p : List Key × V) (q : List Key × Addr × Value) => p.1 = q.1 ∧ H q.2.1 = some (.tup (p.1.map kV)) ∧ RelV p.2 q.2.2) kvs xs ∧
      ∃ o es ep, h.get? a = some o ∧ o.ExactDict ∧ o.data = .dict es ep ∧ es.toList = xs.map (entryOfKey (tupleKind (mixKind P w))) ∧ (xs.map (·.1)).Nodup
  | .set S n => h.SetOf (intKind P w) a S n
  | .ins C dx fs => H dx = some (.own a) ∧ fs.length ≤ 1000 ∧ dx ≠ a ∧ h.get? a = some (PySem.W.instObj C dx) ∧
      ∃ mA, h.Ns1 dx mA ∧ (∀ f, RelO (fs.lookup f) (mA f)) ∧ PySem.Within mA (fs.map (·.1))
  | .own _ => ∃ o, h.get? a = some o
  | .xd fs => ∃ mA, h.Ns1 a mA ∧ ∀ f, RelO (fs.lookup f) (mA f)
  | .rng lo hi => ∃ t u v, h.get? a = some { cls := .type "range", data := .fields #[.int lo t, .int hi u, .int 1 v] }
  | .frz o u => h.get? a = some o ∧ ObjOk H h a u
  | .tbl ps => h.get? a = some { cls := .none, data := .fields ps }
  | .met f x => h.get? a = some (PySem.W.methodObj (.ref f) (.ref x))
  | .ext φ => φ h ∧ (∃ o, h.get? a = some o) ∧ ∀ h1 h2 : Heap, φ h1 → (∀ o, h1.get? a = some o → h2.get? a = some o) → φ h2
noncomputable def HOk (H : Hp) (h : Heap) : Prop := ∀ a o, H a = some o → ObjOk P w H h a o
end
section
variable {P : Program} {w : World} {H H' : Hp} {h h' : Heap} {a : Addr} {o : HO}
theorem ObjOk.lt (x : ObjOk P w H h a o) : a < h.objs.size := by
  cases o with
  | lst xs => obtain ⟨_, _, _, _, e⟩ := x; exact Heap.lt_size e
  | tup xs => obtain ⟨_, _, _, p, _⟩ := x; exact p.lt
  | dK kvs => obtain ⟨_, _, _, _, o, _, _, e, _⟩ := x; exact Heap.lt_size e
  | dT kvs => obtain ⟨_, _, _, _, o, _, _, e, _⟩ := x; exact Heap.lt_size e
  | set S n => obtain ⟨o, _, _, _, e, _⟩ := x; exact Heap.lt_size e
  | ins C dx fs => obtain ⟨_, _, _, e, _⟩ := x; exact Heap.lt_size e
  | own y => obtain ⟨_, e⟩ := x; exact Heap.lt_size e
  | xd fs => obtain ⟨_, ⟨_, _, _, e, _⟩, _⟩ := x; exact Heap.lt_size e
  | rng lo hi => obtain ⟨_, _, _, e⟩ := x; exact Heap.lt_size e
  | frz ob u => obtain ⟨e, _⟩ := x; exact Heap.lt_size e
  | tbl ps => exact Heap.lt_size (show h.get? a = some _ from x)
  | met f y => exact Heap.lt_size (show h.get? a = some _ from x)
  | ext φ => obtain ⟨_, ⟨_, e⟩, _⟩ := x; exact Heap.lt_size e
theorem Paired.mapP {α β : Type} {F G : α → β → Prop} : ∀ {l₁ : List α} {l₂ : List β}, Paired F l₁ l₂ → (∀ a b, F a b → G a b) → Paired G l₁ l₂
  | _, _, .nil, _ => .nil
  | _, _, .cons r t, f => .cons (f _ _ r) (Paired.mapP t f)
theorem ObjOk.stay (x : ObjOk P w H h a o) (k : ∀ b u, (b = a ∨ H b = some (.own a)) → h.get? b = some u → h'.get? b = some u)
    (ho : ∀ b, H b = some (.own a) → H' b = some (.own a)) (ht : ∀ b xs, H b = some (.tup xs) → H' b = some (.tup xs)) : ObjOk P w H' h' a o := by
  induction o with
  | lst xs => obtain ⟨z, its, n, r, e⟩ := x; exact ⟨z, its, n, r, k _ _ (.inl rfl) e⟩
  | tup xs => obtain ⟨z, its, r, ⟨ob, e, c⟩, d⟩ := x; exact ⟨z, its, r, ⟨ob, k _ _ (.inl rfl) e, c⟩, d.stay e (k _ _ (.inl rfl) e)⟩
  | dK kvs => obtain ⟨z, y, vs, r, ob, es, ep, e, c⟩ := x; exact ⟨z, y, vs, r, ob, es, ep, k _ _ (.inl rfl) e, c⟩
  | dT kvs =>
    obtain ⟨z, y, xs, r, ob, es, ep, e, c⟩ := x
    exact ⟨z, y, xs, Paired.mapP r fun p q z => ⟨z.1, ht _ _ z.2.1, z.2.2⟩, ob, es, ep, k _ _ (.inl rfl) e, c⟩
  | set S n => obtain ⟨ob, es, ep, t, e, c⟩ := x; exact ⟨ob, es, ep, t, k _ _ (.inl rfl) e, c⟩
  | ins C dx fs =>
    obtain ⟨d, z, ne, e, mA, ⟨od, es, ep, e2, c⟩, r⟩ := x
    exact ⟨ho _ d, z, ne, k _ _ (.inl rfl) e, mA, ⟨od, es, ep, k _ _ (.inr d) e2, c⟩, r⟩
  | own y => obtain ⟨ob, e⟩ := x; exact ⟨ob, k _ _ (.inl rfl) e⟩
  | xd fs => obtain ⟨mA, ⟨od, es, ep, e, c⟩, r⟩ := x; exact ⟨mA, ⟨od, es, ep, k _ _ (.inl rfl) e, c⟩, r⟩
  | rng lo hi => obtain ⟨t, u, v, e⟩ := x; exact ⟨t, u, v, k _ _ (.inl rfl) e⟩
  | frz ob u ih => obtain ⟨e, q⟩ := x; exact ⟨k _ _ (.inl rfl) e, ih q⟩
  | tbl ps =>
    have e : h.get? a = some { cls := .none, data := .fields ps } := x
    show h'.get? a = some { cls := .none, data := .fields ps }
    exact k a _ (.inl rfl) e
  | met f y =>
    have e : h.get? a = some (PySem.W.methodObj (.ref f) (.ref y)) := x
    show h'.get? a = some (PySem.W.methodObj (.ref f) (.ref y))
    exact k a _ (.inl rfl) e
  | ext φ => obtain ⟨p, ⟨o, e⟩, st⟩ := x; exact ⟨st _ _ p fun o q => k _ _ (.inl rfl) q, ⟨o, k _ _ (.inl rfl) e⟩, st⟩
theorem HOk.lt (x : HOk P w H h) (e : H a = some o) : a < h.objs.size := (x a o e).lt
theorem HOk.fresh (x : HOk P w H h) (e : h.objs.size ≤ a) : H a = none := by
  cases q : H a with
  | none => rfl
  | some u => exact absurd (Nat.lt_of_lt_of_le (x.lt q) e) (Nat.lt_irrefl _)
theorem HOk.kept (x : HOk P w H h) (k : ∀ b u, h.get? b = some u → h'.get? b = some u) : HOk P w H h' := fun a o e =>
  (x a o e).stay (fun b u _ q => k b u q) (fun _ q => q) fun _ _ q => q
theorem HOk.laid (x : HOk P w H h) (k : ∀ b u, h.get? b = some u → h'.get? b = some u) (hp : h.objs.size ≤ a) (new : ObjOk P w (upd H a o) h' a o) : HOk P w (upd H a o) h' := fun b u e => by
  have hn := x.fresh hp
  by_cases hb : b = a
  · subst hb; rw [upd_same] at e; cases e; exact new
  · rw [upd_ne hb] at e
    exact (x b u e).stay (fun c v _ q => k c v q) (fun c q => by rw [upd_ne (ne_of_none q hn)]; exact q) fun c xs q => by rw [upd_ne (ne_of_none q hn)]; exact q
end
noncomputable def Rd (H : Hp) (a : Addr) (u : HO) : Prop := H a = some u ∨ ∃ o, H a = some (.frz o u)
theorem Rd.ok {P : Program} {w : World} {H : Hp} {h : Heap} {a : Addr} {u : HO} (r : Rd H a u) (x : HOk P w H h) : ObjOk P w H h a u := by
  rcases r with r | ⟨o, r⟩
  · exact x a u r
  · obtain ⟨_, q⟩ := x a _ r
    exact q
noncomputable def Mut : Option HO → Prop
  | some (.lst _) => True
  | some (.dK _) => True
  | some (.dT _) => True
  | some (.set _ _) => True
  | some (.ins _ _ _) => True
  | some (.ext _) => True
  | _ => False
section
variable {P : Program} {w : World} {H : Hp} {h h' : Heap} {x e : Addr} {o' : HO}
theorem HOk.write (ok : HOk P w H h) (mu : Mut (H x)) (he : e = x ∨ H e = some (.own x)) (k : ∀ b u, b ≠ e → h.get? b = some u → h'.get? b = some u) (heo : ∃ u, h'.get? e = some u)
    (new : ObjOk P w (upd H x o') h' x o') : HOk P w (upd H x o') h' := fun b u q => by
  have nown : ∀ c y, H c = some (.own y) → c ≠ x := fun c y r z => by subst z; rw [r] at mu; exact mu
  have ntup : ∀ c xs, H c = some (.tup xs) → c ≠ x := fun c xs r z => by subst z; rw [r] at mu; exact mu
  by_cases hb : b = x
  · subst hb; rw [upd_same] at q; cases q; exact new
  · rw [upd_ne hb] at q
    by_cases hbe : b = e
    · have q' : H b = some (.own x) := by
        rcases he with z | z
        · exact absurd (hbe.trans z) hb
        · rw [hbe]; exact z
      rw [q] at q'; cases q'
      obtain ⟨v, hv⟩ := heo
      exact ⟨v, by rw [hbe]; exact hv⟩
    · refine (ok b u q).stay (fun c v hc r => k c v ?_ r) (fun c r => by rw [upd_ne (nown c b r)]; exact r) fun c xs r => by rw [upd_ne (ntup c xs r)]; exact r
      rcases hc with rfl | hc
      · exact hbe
      · rintro rfl
        rcases he with z | z
        · exact nown c b hc z
        · rw [hc] at z; cases z; exact hb rfl
end
structure Un (fs ex : List Addr) (H H' : Hp) (h h' : Heap) : Prop where
  keep : ∀ b o, h.get? b = some o → H b = none → b ∉ fs → b ∉ ex → h'.get? b = some o
  slot : ∀ b o, h.get? b = some o → H b = none → b ∈ fs → b ∉ ex → ∃ sl, h'.get? b = some { o with slots := sl }
  free : ∀ b o, h.get? b = some o → H b = none → b ∉ ex → H' b = none
  there : ∀ b o, h.get? b = some o → b ∉ ex → ∃ o', h'.get? b = some o'
  tups : ∀ b xs, H b = some (.tup xs) → H' b = some (.tup xs)
  frzs : ∀ b o u, H b = some (.frz o u) → H' b = some (.frz o u)
  tbls : ∀ b ps, H b = some (.tbl ps) → ∃ more, H' b = some (.tbl (ps ++ more))
section
variable {fs fs' ex ex' : List Addr} {H H1 H2 : Hp} {h h1 h2 h' : Heap} {a x e : Addr} {o : HO}
theorem Un.any (u : Un fs ex H H1 h h1) {b : Addr} {ob : Obj} (q : h.get? b = some ob) (n : H b = none) (hx : b ∉ ex) : ∃ sl, h1.get? b = some { ob with slots := sl } := by
  by_cases hb : b ∈ fs
  · exact u.slot b ob q n hb hx
  · exact ⟨ob.slots, u.keep b ob q n hb hx⟩
theorem Un.kept (k : ∀ b u, h.get? b = some u → h'.get? b = some u) : Un fs ex H H h h' :=
  ⟨fun b ob q _ _ _ => k b ob q, fun b ob q _ _ _ => ⟨ob.slots, k b ob q⟩, fun _ _ _ n _ => n, fun b ob q _ => ⟨ob, k b ob q⟩, fun _ _ q => q, fun _ _ _ q => q, fun _ ps q => ⟨#[], by rw [q]; simp⟩⟩
theorem Un.refl : Un fs ex H H h h := Un.kept fun _ _ q => q
theorem Un.laid (k : ∀ b u, h.get? b = some u → h'.get? b = some u) (hp : h.objs.size ≤ a) (hn : H a = none) : Un fs ex H (upd H a o) h h' where
  keep := fun b u q _ _ _ => k b u q
  slot := fun b u q _ _ _ => ⟨u.slots, k b u q⟩
  free := fun b u q n _ => by rw [upd_ne (Nat.ne_of_lt (Nat.lt_of_lt_of_le (Heap.lt_size q) hp))]; exact n
  there := fun b u q _ => ⟨u, k b u q⟩
  tups := fun b xs q => by rw [upd_ne (ne_of_none q hn)]; exact q
  frzs := fun b u xs q => by rw [upd_ne (ne_of_none q hn)]; exact q
  tbls := fun b ps q => ⟨#[], by rw [upd_ne (ne_of_none q hn), q]; simp⟩
theorem Un.write (mu : Mut (H x)) (he : e = x ∨ H e = some (.own x)) (k : ∀ b u, b ≠ e → h.get? b = some u → h'.get? b = some u) (heo : ∃ u, h'.get? e = some u) : Un fs ex H (upd H x o) h h' := by
  have hx : ∀ b, H b = none → b ≠ x := fun b n z => by subst z; rw [n] at mu; exact mu
  have hb : ∀ b, H b = none → b ≠ e := fun b n z => by
    subst z
    rcases he with r | r
    · exact hx b n r
    · rw [n] at r; cases r
  have hm : ∀ b u, H b = some u → ¬ Mut (some u) → b ≠ x := fun b u q nm z => by subst z; rw [q] at mu; exact nm mu
  refine ⟨fun b u q n _ _ => k b u (hb b n) q, fun b u q n _ _ => ⟨u.slots, k b u (hb b n) q⟩, fun b u q n _ => by rw [upd_ne (hx b n)]; exact n, fun b u q _ => ?_,
    fun b xs q => by rw [upd_ne (hm b _ q fun z => z)]; exact q, fun b u xs q => by rw [upd_ne (hm b _ q fun z => z)]; exact q, fun b ps q => ⟨#[], by rw [upd_ne (hm b _ q fun z => z), q]; simp⟩⟩
  by_cases hbe : b = e
  · subst hbe; exact heo
  · exact ⟨u, k b u hbe q⟩
end
noncomputable def trk (h : Heap) (H : Hp) : List Addr := (List.range h.objs.size).filter fun a => (H a).isSome
noncomputable def hidT (h : Heap) (H : Hp) : Heap := PySem.W.hideAll h (trk h H)
theorem hidT_size (h : Heap) (H : Hp) : (hidT h H).objs.size = h.objs.size := PySem.W.hideAll_size _ _
theorem hidT_get {h : Heap} {H : Hp} {b : Addr} {o : Obj} (e : h.get? b = some o) (n : H b = none) : (hidT h H).get? b = some o :=
  PySem.W.hideAll_get _ e fun hm => by
    have q : (H b).isSome = true := (List.mem_filter.mp hm).2
    rw [n] at q; simp at q
theorem of_hidT {h : Heap} {H : Hp} {b : Addr} {o : Obj} (e : (hidT h H).get? b = some o) : h.get? b = some o ∧ H b = none := by
  have e' : h.get? b = some o := PySem.W.of_hideAll (trk h H) e
  refine ⟨e', ?_⟩
  cases q : H b with
  | none => rfl
  | some x =>
    have hm : b ∈ trk h H := List.mem_filter.mpr ⟨List.mem_range.mpr (Heap.lt_size e'), by simp [q]⟩
    have z : (hidT h H).get? b = none := PySem.W.hideAll_none (trk h H) hm
    rw [z] at e; cases e
end L2
namespace L2
open PySem PySem.Spec PyProof.Rows
structure Mod (K : PySem.W.Frag) (mg : Str → Option Value) (base : Heap) : Prop where
  kin : K.In base
  glob : base.Ns mainGlobals mg
  blt : ∃ mb, base.Ns builtinsNs mb ∧ ∀ x : Str, x ≠ "__name__" → mb x = bootBuiltins x
  nolimit : base.NoLimit
/-- the context: a def's body (or a comprehension's block) running. base: fixed through the whole law; s₀, H₀: the entry; outer: the frames whose slots others may change (a def's callers); stack: all frames that run;
   ex: iterators that were made ahead of the entry and are walked here (a comprehension's); fn: the names whose cells were made at the entry (a def: all; a comprehension's block: its own); calm: not within an except suite; pn: pins that every state bears; xe: what is wanted of an exception that leaves the code -/
structure Cx where
  prog : Program
  w : World
  K : PySem.W.Frag
  mg : Str → Option Value
  base : Heap
  A : Around
  N : List Str
  s₀ : Shared
  H₀ : Hp
  env : Env
  outer : List Env
  stack : List Env
  ex : List Addr
  fn : Str → Bool
  calm : Bool
  pn : List (Addr × Obj)
  xe : Value → Shared → Prop
noncomputable def frs (l : List Env) : List Addr := l.filterMap (·.frame)
noncomputable abbrev Cx.fs (X : Cx) : List Addr := frs X.outer
noncomputable def Vis (sc : Scope) (x : Str) : Prop := sc.names.lookup x = some .local ∨ sc.names.lookup x = some .cell ∨ sc.names.lookup x = some .free
noncomputable def Loc (sc : Scope) (x : Str) : Prop := sc.names.lookup x = some .local ∨ sc.names.lookup x = some .cell
noncomputable def Look (env : Env) (h : Heap) (m : Str → Option Value) (x : Str) (u : Value) : Prop :=
  (env.kindOf x = some .local ∧ m x = some u) ∨ ((env.kindOf x = some .cell ∨ env.kindOf x = some .free) ∧ ∃ c, env.cells.lookup x = some c ∧ h.IsCell c (some u))
structure Cx.Ok (X : Cx) : Prop where
  mod : Mod X.K X.mg X.base
  kind : X.env.scope.kind = .function
  glob : X.env.globals = mainGlobals
  blt : X.env.builtins = builtinsNs
  above : X.s₀.heap.objs.size ≤ X.env.locals
  inj : ∀ x y c, X.env.cells.lookup x = some c → X.env.cells.lookup y = some c → x = y
  has : ∀ x, (X.env.kindOf x = some .cell ∨ X.env.kindOf x = some .free) → ∃ c, X.env.cells.lookup x = some c
  cab : ∀ x c, X.fn x = true → X.env.cells.lookup x = some c → X.s₀.heap.objs.size ≤ c
  hd : X.calm = true → X.A.handled = none
  frames : X.A.frames = some X.stack
  stk : X.stack = X.outer ∨ (X.stack = X.env :: X.outer ∧ X.env.frame = some X.env.locals)
  exf : ∀ b ∈ X.ex, b ≠ X.env.locals ∧ ∀ x c, X.env.cells.lookup x = some c → c ≠ b
  bs : ∀ b o, X.base.get? b = some o → X.s₀.heap.get? b = some o ∧ X.H₀ b = none
  bsz : X.base.objs.size ≤ X.s₀.heap.objs.size
  noex : ∀ b o, X.base.get? b = some o → b ∉ X.ex
  exfs : ∀ b ∈ X.ex, b ∉ X.fs
  funs : X.s₀.heap.FunFrames X.base X.outer
  frf : ∀ b ∈ X.fs, X.H₀ b = none
structure Inv (X : Cx) (pins : List (Addr × Obj)) (σ : List (Option V)) (H : Hp) (s : Shared) : Prop where
  ok : X.Ok
  os : s.os = X.s₀.os
  bare : AllBare s.gens
  base : Un X.fs X.ex X.H₀ H X.s₀.heap s.heap
  loc : ∃ m, s.heap.Ns X.env.locals m ∧ ∀ (i : Nat) (x : Str) (v : V), X.N[i]? = some x → σ[i]? = some (some v) → Vis X.env.scope x → ∃ u, RelV v u ∧ Look X.env s.heap m x u
  cell : ∀ x c, X.env.cells.lookup x = some c → ∃ v, s.heap.IsCell c v
  free : H X.env.locals = none
  freeC : ∀ x c, X.env.cells.lookup x = some c → H c = none
  pin : ∀ p ∈ X.pn ++ pins, s.heap.get? p.1 = some p.2 ∧ H p.1 = none ∧ p.1 ≠ X.env.locals ∧ p.1 ∉ X.fs ∧ ∀ v, p.2.data ≠ .cell v
  hok : HOk X.prog X.w H s.heap
  len : σ.length = X.N.length
section
variable {X : Cx} {pins : List (Addr × Obj)} {σ : List (Option V)} {H H' : Hp} {s : Shared} {h' : Heap}
theorem Cx.Ok.nofr (ok : X.Ok) {b : Addr} {o : Obj} (e : X.base.get? b = some o) : b ∉ X.fs := fun hb => by
  have := (ok.funs.mem hb).1
  rw [e] at this; cases this
theorem Inv.bs (I : Inv X pins σ H s) : ∀ b o, X.base.get? b = some o → s.heap.get? b = some o ∧ H b = none := fun b o e =>
  ⟨I.base.keep b o (I.ok.bs b o e).1 (I.ok.bs b o e).2 (I.ok.nofr e) (I.ok.noex b o e), I.base.free b o (I.ok.bs b o e).1 (I.ok.bs b o e).2 (I.ok.noex b o e)⟩
theorem Inv.bk (I : Inv X pins σ H s) : ∀ b o, X.base.get? b = some o → s.heap.get? b = some o := fun b o e => (I.bs b o e).1
theorem Inv.mod (I : Inv X pins σ H s) : Mod X.K X.mg X.base := I.ok.mod
theorem Inv.kIn (I : Inv X pins σ H s) : X.K.In s.heap := I.ok.mod.kin.keeps I.bk
theorem Inv.nolimit (I : Inv X pins σ H s) : s.heap.NoLimit := I.ok.mod.nolimit.keeps I.bk
theorem Inv.lt (I : Inv X pins σ H s) : X.env.locals < s.heap.objs.size := let ⟨_, hn, _⟩ := I.loc; hn.lt
theorem Inv.sz (I : Inv X pins σ H s) : X.s₀.heap.objs.size ≤ s.heap.objs.size := Nat.le_trans I.ok.above (Nat.le_of_lt I.lt)
theorem Inv.nofs (I : Inv X pins σ H s) {a : Addr} (h : s.heap.objs.size ≤ a) : a ∉ X.fs := fun hb => by
  obtain ⟨_, o, ho, _⟩ := I.ok.funs.mem hb
  exact absurd (Nat.lt_of_lt_of_le (Heap.lt_size ho) (Nat.le_trans I.sz h)) (Nat.lt_irrefl _)
theorem Inv.cne (I : Inv X pins σ H s) : ∀ x c, X.env.cells.lookup x = some c → c ≠ X.env.locals := fun x c e z => by
  obtain ⟨v, o, ho, hd⟩ := I.cell x c e
  obtain ⟨m, ⟨o', es, ep, ho', hd', _⟩, _⟩ := I.loc
  rw [z, ho'] at ho; cases ho; rw [hd'] at hd; cases hd
theorem Inv.funs (I : Inv X pins σ H s) : s.heap.FunFrames X.base X.outer := by
  have all : ∀ (l : List Env), (∀ b ∈ frs l, b ∈ X.fs) → X.s₀.heap.FunFrames X.base l → s.heap.FunFrames X.base l := by
    intro l
    induction l with
    | nil => intro _ _; trivial
    | cons env r ih =>
      intro hs hl
      obtain ⟨hk, ⟨L, o, hf, hn, ho, hd⟩, hr⟩ := hl
      have hL : L ∈ X.fs := hs L (by unfold frs; rw [List.filterMap_cons, hf]; exact List.mem_cons_self)
      obtain ⟨sl, e⟩ := I.base.slot L o ho (I.ok.frf L hL) hL fun z => I.ok.exfs L z hL
      exact ⟨hk, ⟨L, _, hf, hn, e, hd⟩, ih (fun b hb => hs b (by unfold frs; rw [List.filterMap_cons, hf]; exact List.mem_cons_of_mem _ hb)) hr⟩
  exact all X.outer (fun _ hb => hb) I.ok.funs
theorem Inv.stack (I : Inv X pins σ H s) : s.heap.FunFrames X.base X.stack := by
  rcases I.ok.stk with e | ⟨e, hf⟩
  · rw [e]; exact I.funs
  · rw [e]
    obtain ⟨m, hn, _⟩ := I.loc
    refine .cons (by rw [I.ok.kind]; decide) hf hn ?_ I.funs
    exact Heap.get?_none_of_le (Nat.le_trans I.ok.bsz I.ok.above)
theorem Inv.stkSub (I : Inv X pins σ H s) : ∀ b ∈ frs X.stack, b ∈ X.env.locals :: X.fs := fun b hb => by
  rcases I.ok.stk with e | ⟨e, hf⟩
  · rw [e] at hb; exact List.mem_cons_of_mem _ hb
  · rw [e] at hb
    unfold frs at hb
    rw [List.filterMap_cons, hf] at hb
    exact hb
theorem Inv.stkFree (I : Inv X pins σ H s) : ∀ b ∈ frs X.stack, H b = none := fun b hb => by
  rcases List.mem_cons.mp (I.stkSub b hb) with e | hb
  · rw [e]; exact I.free
  · obtain ⟨_, o, ho, _⟩ := I.ok.funs.mem hb
    exact I.base.free b o ho (I.ok.frf b hb) fun z => I.ok.exfs b z hb
theorem Inv.step {g' : Array GenState} {t' : Nat} {d' : Drawn} {ch : List Addr} (I : Inv X pins σ H s)
    (hch : ∀ b ∈ ch, (b ∈ X.ex ∨ X.s₀.heap.objs.size ≤ b) ∧ b ≠ X.env.locals ∧ (∀ x c, X.env.cells.lookup x = some c → c ≠ b) ∧ ∀ p ∈ X.pn ++ pins, p.1 ≠ b)
    (keep : ∀ b o, b ≠ X.env.locals → b ∉ X.fs → b ∉ ch → s.heap.get? b = some o → H b = none → h'.get? b = some o)
    (slot : ∀ b o, b ≠ X.env.locals → b ∈ X.fs → b ∉ ch → s.heap.get? b = some o → H b = none → ∃ sl, h'.get? b = some { o with slots := sl }) (free : ∀ b o, b ∉ ch → s.heap.get? b = some o → H b = none → H' b = none)
    (there : ∀ b o, b ∉ ch → s.heap.get? b = some o → ∃ o', h'.get? b = some o')
    (tups : ∀ b xs, H b = some (.tup xs) → H' b = some (.tup xs)) (frzs : ∀ b o u, H b = some (.frz o u) → H' b = some (.frz o u)) (tbls : ∀ b ps, H b = some (.tbl ps) → ∃ more, H' b = some (.tbl (ps ++ more)))
    (ns : ∀ m, s.heap.Ns X.env.locals m → h'.Ns X.env.locals m) (hok : HOk X.prog X.w H' h') (hg : AllBare g') :
    Inv X pins σ H' { s with heap := h', gens := g', drawn := d', toks := t' } := by
  have neL : ∀ b o, X.s₀.heap.get? b = some o → b ≠ X.env.locals := fun b o e => Nat.ne_of_lt (Nat.lt_of_lt_of_le (Heap.lt_size e) I.ok.above)
  have neC : ∀ b o, X.s₀.heap.get? b = some o → b ∉ X.ex → b ∉ ch := fun b o e hx hb => by
    rcases (hch b hb).1 with z | z
    · exact hx z
    · exact absurd (Nat.lt_of_lt_of_le (Heap.lt_size e) z) (Nat.lt_irrefl _)
  have cellK : ∀ x c, X.env.cells.lookup x = some c → ∀ v, s.heap.IsCell c v → h'.IsCell c v := fun x c e v ⟨o, ho, hd⟩ => by
    have nch : c ∉ ch := fun z => (hch c z).2.2.1 x c e rfl
    by_cases hc : c ∈ X.fs
    · obtain ⟨sl, q⟩ := slot c o (I.cne x c e) hc nch ho (I.freeC x c e)
      exact ⟨_, q, hd⟩
    · exact ⟨o, keep c o (I.cne x c e) hc nch ho (I.freeC x c e), hd⟩
  refine ⟨I.ok, I.os, hg, ⟨fun b o e n hb hx => ?_, fun b o e n hb hx => ?_, fun b o e n hx => ?_, fun b o e hx => ?_, fun b xs e => tups b xs (I.base.tups b xs e), fun b o xs e => frzs b o xs (I.base.frzs b o xs e), fun b ps e => ?_⟩, ?_, fun x c e => ?_, ?_, fun x c e => ?_, fun p hp => ?_, hok, I.len⟩
  · exact keep b o (neL b o e) hb (neC b o e hx) (I.base.keep b o e n hb hx) (I.base.free b o e n hx)
  · obtain ⟨sl, e1⟩ := I.base.slot b o e n hb hx
    obtain ⟨sl', e2⟩ := slot b _ (neL b o e) hb (neC b o e hx) e1 (I.base.free b o e n hx)
    exact ⟨sl', e2⟩
  · obtain ⟨o', e1⟩ := I.base.there b o e hx
    exact free b o' (neC b o e hx) e1 (I.base.free b o e n hx)
  · obtain ⟨o', e1⟩ := I.base.there b o e hx
    exact there b o' (neC b o e hx) e1
  · obtain ⟨m1, e1⟩ := I.base.tbls b ps e
    obtain ⟨m2, e2⟩ := tbls b _ e1
    exact ⟨m1 ++ m2, by rw [e2, Array.append_assoc]⟩
  · obtain ⟨m, hn, hl⟩ := I.loc
    refine ⟨m, ns m hn, fun i x v e1 e2 e3 => ?_⟩
    obtain ⟨u, r, l⟩ := hl i x v e1 e2 e3
    refine ⟨u, r, ?_⟩
    rcases l with l | ⟨k, c, e, z⟩
    · exact .inl l
    · exact .inr ⟨k, c, e, cellK x c e _ z⟩
  · obtain ⟨v, z⟩ := I.cell x c e
    exact ⟨v, cellK x c e v z⟩
  · obtain ⟨m, ⟨o, _, _, ho, _⟩, _⟩ := I.loc
    exact free _ o (fun z => (hch _ z).2.1 rfl) ho I.free
  · obtain ⟨v, o, ho, hd⟩ := I.cell x c e
    exact free c o (fun z => (hch c z).2.2.1 x c e rfl) ho (I.freeC x c e)
  · obtain ⟨e, n, ne, nf, d⟩ := I.pin p hp
    have nch : p.1 ∉ ch := fun z => (hch p.1 z).2.2.2 p hp rfl
    exact ⟨keep p.1 p.2 ne nf nch e n, free p.1 p.2 nch e n, ne, nf, d⟩
theorem Inv.un {t' : Nat} (I : Inv X pins σ H s) (u : Un X.fs [] H H' s.heap h') (hok : HOk X.prog X.w H' h') : Inv X pins σ H' { s with heap := h', toks := t' } := by
  obtain ⟨m, ⟨o, es, ep, ho, r⟩, _⟩ := id I.loc
  obtain ⟨sl, hL⟩ := u.any ho I.free (by simp)
  exact I.step (g' := s.gens) (d' := s.drawn) (ch := []) (fun _ z => nomatch z) (fun b o _ hb _ e n => u.keep b o e n hb (by simp)) (fun b o _ hb _ e n => u.slot b o e n hb (by simp)) (fun b o _ e n => u.free b o e n (by simp)) (fun b o _ e => u.there b o e (by simp)) u.tups u.frzs u.tbls (fun m' hm => by
    obtain ⟨o', es', ep', ho', r'⟩ := hm
    rw [ho] at ho'; cases ho'
    exact ⟨_, es', ep', hL, r'⟩) hok I.bare
theorem Inv.call {g' : Array GenState} {t' : Nat} {d' : Drawn} {ch : List Addr} (I : Inv X pins σ H s) (u : Un (frs X.stack) ch H H' s.heap h') (hok : HOk X.prog X.w H' h') (hg : AllBare g')
    (hch : ∀ b ∈ ch, (b ∈ X.ex ∨ X.s₀.heap.objs.size ≤ b) ∧ b ≠ X.env.locals ∧ (∀ x c, X.env.cells.lookup x = some c → c ≠ b) ∧ ∀ p ∈ X.pn ++ pins, p.1 ≠ b) :
    Inv X pins σ H' { s with heap := h', gens := g', drawn := d', toks := t' } := by
  obtain ⟨m, ⟨o, es, ep, ho, r⟩, _⟩ := id I.loc
  obtain ⟨sl, hL⟩ := u.any ho I.free fun z => (hch _ z).2.1 rfl
  exact I.step (ch := ch) hch (fun b o hL hb hc e n => u.keep b o e n (fun z => (List.mem_cons.mp (I.stkSub b z)).elim hL hb) hc) (fun b o _ _ hc e n => u.any e n hc) (fun b o hc e n => u.free b o e n hc) (fun b o hc e => u.there b o e hc) u.tups u.frzs u.tbls (fun m' hm => by
    obtain ⟨o', es', ep', ho', r'⟩ := hm
    rw [ho] at ho'; cases ho'
    exact ⟨_, es', ep', hL, r'⟩) hok hg
theorem Inv.turned {t' : Nat} {it : Addr} (I : Inv X pins σ H s) (k : ∀ b o, b ≠ it → s.heap.get? b = some o → h'.get? b = some o) (hn : H it = none) (hL : it ≠ X.env.locals)
    (h1 : it ∈ X.ex ∨ X.s₀.heap.objs.size ≤ it) (h2 : ∀ x c, X.env.cells.lookup x = some c → c ≠ it) (h3 : ∀ p ∈ X.pn ++ pins, p.1 ≠ it) : Inv X pins σ H { s with heap := h', toks := t' } := by
  have nit : ∀ b u, H b = some u → b ≠ it := fun b u e z => by rw [z, hn] at e; cases e
  refine I.step (g' := s.gens) (d' := s.drawn) (ch := [it]) (fun b hb => ?_) (fun b o _ _ hc e _ => k b o (fun z => hc (by simp [z])) e) (fun b o _ _ hc e _ => ⟨o.slots, k b o (fun z => hc (by simp [z])) e⟩) (fun _ _ _ _ n => n)
    (fun b o hc e => ⟨o, k b o (fun z => hc (by simp [z])) e⟩) (fun _ _ e => e) (fun _ _ _ e => e) (fun b ps e => ⟨#[], by rw [e]; simp⟩) (fun m hm => ?_) (fun b u e => ?_) I.bare
  · have e : b = it := by simpa using hb
    subst e
    exact ⟨h1, hL, h2, h3⟩
  · obtain ⟨o, es, ep, ho, r⟩ := hm
    exact ⟨o, es, ep, k _ o (Ne.symm hL) ho, r⟩
  · refine (I.hok b u e).stay (fun c v hc q => k c v ?_ q) (fun _ q => q) fun _ _ q => q
    rcases hc with z | z
    · rw [z]; exact nit b u e
    · exact nit c _ z
theorem Inv.tok (I : Inv X pins σ H s) (t : Nat) : Inv X pins σ H { s with toks := t } := I.un (h' := s.heap) (t' := t) Un.refl I.hok
theorem Inv.kept {t' : Nat} (I : Inv X pins σ H s) (k : ∀ b u, s.heap.get? b = some u → h'.get? b = some u) : Inv X pins σ H { s with heap := h', toks := t' } := I.un (Un.kept k) (I.hok.kept k)
theorem Inv.laid {a : Addr} {o : HO} {t' : Nat} (I : Inv X pins σ H s) (k : ∀ b u, s.heap.get? b = some u → h'.get? b = some u) (hp : s.heap.objs.size ≤ a) (new : ObjOk X.prog X.w (upd H a o) h' a o) :
    Inv X pins σ (upd H a o) { s with heap := h', toks := t' } := I.un (Un.laid k hp (I.hok.fresh hp)) (I.hok.laid k hp new)
theorem Inv.write {x e : Addr} {o : HO} {t' : Nat} (I : Inv X pins σ H s) (mu : Mut (H x)) (he : e = x ∨ H e = some (.own x)) (k : ∀ b u, b ≠ e → s.heap.get? b = some u → h'.get? b = some u) (heo : ∃ u, h'.get? e = some u)
    (new : ObjOk X.prog X.w (upd H x o) h' x o) : Inv X pins σ (upd H x o) { s with heap := h', toks := t' } := I.un (Un.write mu he k heo) (I.hok.write mu he k heo new)
theorem Inv.pins_of {pins' : List (Addr × Obj)} (I : Inv X pins σ H s) (h : ∀ p ∈ pins', s.heap.get? p.1 = some p.2 ∧ H p.1 = none ∧ p.1 ≠ X.env.locals ∧ p.1 ∉ X.fs ∧ ∀ v, p.2.data ≠ .cell v) : Inv X pins' σ H s :=
  ⟨I.ok, I.os, I.bare, I.base, I.loc, I.cell, I.free, I.freeC, fun p hp => (List.mem_append.mp hp).elim (fun z => I.pin p (List.mem_append_left _ z)) (h p), I.hok, I.len⟩
theorem nodup_ix {N : List Str} (hN : N.Nodup) {i j : Nat} {x : Str} (a : N[i]? = some x) (b : N[j]? = some x) : i = j := by
  obtain ⟨h1, e1⟩ := List.getElem?_eq_some_iff.mp a
  obtain ⟨h2, e2⟩ := List.getElem?_eq_some_iff.mp b
  exact (List.getElem_inj hN).mp (e1.trans e2.symm)
theorem store_ok2 {M : Model} {A : Around} {E : Value → Shared → Prop} {i : Nat} {x : Str} {v : V} {u : Value} {Q : Unit → Shared → Prop} (I : Inv X pins σ H s) (hN : X.N.Nodup) (hi : X.N[i]? = some x) (hx : Loc X.env.scope x) (r : RelV v u)
    (h : ∀ s', Inv X pins (σ.set i (some v)) H s' → (∃ a, Heap.SameBut a s.heap s'.heap ∧ (a = X.env.locals ∨ X.env.cells.lookup x = some a)) → Q () s') (hf : X.fn x = true ∨ X.env.scope.names.lookup x = some .local := by first | exact .inl rfl | exact .inr rfl | assumption) : wpAny M A (storeName X.env x u) Q E s := by
  obtain ⟨m, hn, hl⟩ := id I.loc
  have hcls : (X.env.scope.kind == .class || (X.env.scope.kind == .module && X.env.locals != X.env.globals)) = false := by rw [I.ok.kind]; rfl
  have hiσ : i < σ.length := by rw [I.len]; exact (List.getElem?_eq_some_iff.mp hi).1
  have cne := I.cne
  have tracked : ∀ {a : Addr} {h' : Heap}, (∃ o, s.heap.get? a = some o ∧ H a = none) → Heap.SameBut a s.heap h' → HOk X.prog X.w H h' := fun {a h'} ha hs b ob e => by
    obtain ⟨_, _, hfree⟩ := ha
    refine (I.hok b ob e).stay (fun c w' hc q => (hs.2 c ?_).trans q) (fun _ q => q) fun _ _ q => q
    rintro rfl
    rcases hc with rfl | hc
    · rw [hfree] at e; cases e
    · rw [hfree] at hc; cases hc
  rcases hx with hk | hk
  · refine wpAny_storeName_local hk hn (fun h' hn' hs => ?_) hcls
    obtain ⟨oL, _, _, hoL, _⟩ := id hn
    refine h _ ⟨I.ok, I.os, I.bare, ⟨fun b o e n hb hx => ?_, fun b o e n hb hx => ?_, I.base.free, fun b o e hx => ?_, I.base.tups, I.base.frzs, I.base.tbls⟩, ⟨_, hn', fun j y v' e1 e2 e3 => ?_⟩, fun y c e => ?_, I.free, I.freeC, fun p hp => ?_, tracked ⟨oL, hoL, I.free⟩ hs, by simpa using I.len⟩ ⟨_, hs, .inl rfl⟩
    · exact (hs.2 b (Nat.ne_of_lt (Nat.lt_of_lt_of_le (Heap.lt_size e) I.ok.above))).trans (I.base.keep b o e n hb hx)
    · obtain ⟨sl, e1⟩ := I.base.slot b o e n hb hx
      exact ⟨sl, (hs.2 b (Nat.ne_of_lt (Nat.lt_of_lt_of_le (Heap.lt_size e) I.ok.above))).trans e1⟩
    · obtain ⟨o', e1⟩ := I.base.there b o e hx
      exact ⟨o', (hs.2 b (Nat.ne_of_lt (Nat.lt_of_lt_of_le (Heap.lt_size e) I.ok.above))).trans e1⟩
    · by_cases hj : j = i
      · subst hj
        rw [hi] at e1; cases e1
        rw [List.getElem?_set_self hiσ] at e2
        cases e2
        exact ⟨u, r, .inl ⟨hk, by simp⟩⟩
      · rw [List.getElem?_set_ne (Ne.symm hj)] at e2
        obtain ⟨u', r', q⟩ := hl j y v' e1 e2 e3
        refine ⟨u', r', ?_⟩
        rcases q with ⟨k, e⟩ | ⟨k, c, e, z⟩
        · refine .inl ⟨k, ?_⟩
          have : y ≠ x := fun e => hj (nodup_ix hN e1 (e ▸ hi))
          simp [this, e]
        · exact .inr ⟨k, c, e, z.sameBut hs (cne y c e)⟩
    · obtain ⟨w', z⟩ := I.cell y c e
      exact ⟨w', z.sameBut hs (cne y c e)⟩
    · obtain ⟨e, n, ne, nf, d⟩ := I.pin p hp
      exact ⟨(hs.2 p.1 ne).trans e, n, ne, nf, d⟩
  · have hfn : X.fn x = true := by
      rcases hf with z | z
      · exact z
      · rw [z] at hk; cases hk
    obtain ⟨c, hc⟩ := I.ok.has x (.inl hk)
    obtain ⟨w', z⟩ := I.cell x c hc
    refine wpAny_storeName_cell I.ok.kind hk hc z (fun h' hc' hs => ?_)
    obtain ⟨oc, hoc, hocd⟩ := id z
    refine h { s with heap := h' } ⟨I.ok, I.os, I.bare, ⟨fun b o e n hb hx => ?_, fun b o e n hb hx => ?_, I.base.free, fun b o e hx => ?_, I.base.tups, I.base.frzs, I.base.tbls⟩, ⟨m, hn.sameBut hs (Ne.symm (cne x c hc)), fun j y v' e1 e2 e3 => ?_⟩, fun y c' e => ?_, I.free, I.freeC, fun p hp => ?_, tracked ⟨oc, hoc, I.freeC x c hc⟩ hs, by simpa using I.len⟩ ⟨c, hs, .inr hc⟩
    · exact (hs.2 b (Nat.ne_of_lt (Nat.lt_of_lt_of_le (Heap.lt_size e) (I.ok.cab x c hfn hc)))).trans (I.base.keep b o e n hb hx)
    · obtain ⟨sl, e1⟩ := I.base.slot b o e n hb hx
      exact ⟨sl, (hs.2 b (Nat.ne_of_lt (Nat.lt_of_lt_of_le (Heap.lt_size e) (I.ok.cab x c hfn hc)))).trans e1⟩
    · obtain ⟨o', e1⟩ := I.base.there b o e hx
      exact ⟨o', (hs.2 b (Nat.ne_of_lt (Nat.lt_of_lt_of_le (Heap.lt_size e) (I.ok.cab x c hfn hc)))).trans e1⟩
    · by_cases hj : j = i
      · subst hj
        rw [hi] at e1; cases e1
        rw [List.getElem?_set_self hiσ] at e2
        cases e2
        exact ⟨u, r, .inr ⟨.inl hk, c, hc, hc'⟩⟩
      · rw [List.getElem?_set_ne (Ne.symm hj)] at e2
        obtain ⟨u', r', q⟩ := hl j y v' e1 e2 e3
        refine ⟨u', r', ?_⟩
        rcases q with q | ⟨k, c', e, z'⟩
        · exact .inl q
        · refine .inr ⟨k, c', e, z'.sameBut hs ?_⟩
          rintro rfl
          exact hj (nodup_ix hN e1 (I.ok.inj _ _ _ e hc ▸ hi))
    · by_cases hcc : c' = c
      · subst hcc; exact ⟨_, hc'⟩
      · obtain ⟨w2, z2⟩ := I.cell y c' e
        exact ⟨w2, z2.sameBut hs hcc⟩
    · obtain ⟨e, n, ne, nf, d⟩ := I.pin p hp
      refine ⟨(hs.2 p.1 ?_).trans e, n, ne, nf, d⟩
      intro q
      rw [q, hoc] at e
      have q' : oc = p.2 := Option.some.inj e
      exact d w' (by rw [← q']; exact hocd)
theorem store_ok {M : Model} {A : Around} {E : Value → Shared → Prop} {i : Nat} {x : Str} {v : V} {u : Value} {Q : Unit → Shared → Prop} (I : Inv X pins σ H s) (hN : X.N.Nodup) (hi : X.N[i]? = some x) (hx : Loc X.env.scope x) (r : RelV v u)
    (h : ∀ s', Inv X pins (σ.set i (some v)) H s' → Q () s') (hf : X.fn x = true ∨ X.env.scope.names.lookup x = some .local := by first | exact .inl rfl | exact .inr rfl | assumption) : wpAny M A (storeName X.env x u) Q E s :=
  store_ok2 I hN hi hx r (fun s' I' _ => h s' I') hf
theorem Inv.call' {s' : Shared} {ch : List Addr} (I : Inv X pins σ H s) (ho : s'.os = s.os) (u : Un (frs X.stack) ch H H' s.heap s'.heap) (hok : HOk X.prog X.w H' s'.heap) (hg : AllBare s'.gens)
    (hch : ∀ b ∈ ch, (b ∈ X.ex ∨ X.s₀.heap.objs.size ≤ b) ∧ b ≠ X.env.locals ∧ (∀ x c, X.env.cells.lookup x = some c → c ≠ b) ∧ ∀ p ∈ X.pn ++ pins, p.1 ≠ b) : Inv X pins σ H' s' := by
  obtain ⟨h', g', d', t', o'⟩ := s'
  have e : o' = s.os := ho
  subst e
  exact I.call (g' := g') (t' := t') (d' := d') u hok hg hch
end
noncomputable abbrev XK := Value → Option Addr → Hp → Prop
noncomputable abbrev St := List (Option V)
noncomputable abbrev VK := V → Hp → Prop
noncomputable abbrev TE := St → Hp → VK → Prop
noncomputable abbrev TT := St → Hp → (Bool → Hp → Prop) → Prop
noncomputable abbrev TA := St → Hp → (List V → Hp → Prop) → Prop
structure Ends where
  nx : St → Hp → Prop
  rt : VK
  bk : St → Hp → Prop := fun _ _ => False
  ct : St → Hp → Prop := fun _ _ => False
noncomputable abbrev TS := Ends → St → Hp → Prop
noncomputable def EP (X : Cx) (pins : List (Addr × Obj)) (σ : St) (Q : VK) (u : Value) (s' : Shared) : Prop := ∃ v H', Inv X pins σ H' s' ∧ RelV v u ∧ Q v H'
noncomputable def TP (X : Cx) (pins : List (Addr × Obj)) (σ : St) (Q : Bool → Hp → Prop) (b : Bool) (s' : Shared) : Prop := ∃ H', Inv X pins σ H' s' ∧ Q b H'
noncomputable def AP (X : Cx) (pins : List (Addr × Obj)) (σ : St) (Q : List V → Hp → Prop) (us : List Value) (s' : Shared) : Prop := ∃ vs H', Inv X pins σ H' s' ∧ Vals vs us ∧ Q vs H'
noncomputable def SP (X : Cx) (pins : List (Addr × Obj)) (D : Ends) (f : Flow) (s' : Shared) : Prop :=
  match f with
  | .next => ∃ σ' H', Inv X pins σ' H' s' ∧ D.nx σ' H'
  | .brk => ∃ σ' H', Inv X pins σ' H' s' ∧ D.bk σ' H'
  | .cont => ∃ σ' H', Inv X pins σ' H' s' ∧ D.ct σ' H'
  | .ret u => ∃ v σ' H', Inv X pins σ' H' s' ∧ RelV v u ∧ D.rt v H'
noncomputable def PE (X : Cx) (e : Expr) (t : TE) : Prop :=
  ∀ (pins : List (Addr × Obj)) (s : Shared) (σ : St) (H : Hp) (Q : VK), Inv X pins σ H s → t σ H Q → wpAny (model X.prog X.w) X.A (eval e X.env) (EP X pins σ Q) X.xe s
noncomputable def PT (X : Cx) (e : Expr) (t : TT) : Prop :=
  ∀ (pins : List (Addr × Obj)) (s : Shared) (σ : St) (H : Hp) (Q : Bool → Hp → Prop), Inv X pins σ H s → t σ H Q → wpAny (model X.prog X.w) X.A (isTrue e X.env (eval e X.env)) (TP X pins σ Q) X.xe s
noncomputable def PW (X : Cx) (e : Expr) (t : TT) : Prop :=
  ∀ (whole : Sem Value) (pins : List (Addr × Obj)) (s : Shared) (σ : St) (H : Hp) (Q : Bool → Hp → Prop), Inv X pins σ H s → t σ H Q → wpAny (model X.prog X.w) X.A (isTrue e X.env whole) (TP X pins σ Q) X.xe s
theorem PW.pt {X : Cx} {e : Expr} {t : TT} (h : PW X e t) : PT X e t := h _
noncomputable def PA (X : Cx) (es : List Expr) (t : TA) : Prop :=
  ∀ (pos : Pos) (pins : List (Addr × Obj)) (s : Shared) (σ : St) (H : Hp) (Q : List V → Hp → Prop), Inv X pins σ H s → t σ H Q → wpAny (model X.prog X.w) X.A (spliced (backTo pos (starEach es X.env))) (AP X pins σ Q) X.xe s
noncomputable def PS (X : Cx) (st : Stmt) (t : TS) : Prop :=
  ∀ (pins : List (Addr × Obj)) (s : Shared) (σ : St) (H : Hp) (D : Ends), Inv X pins σ H s → t D σ H → wpAny (model X.prog X.w) X.A (exec st X.env) (SP X pins D) X.xe s
noncomputable def PSs (X : Cx) (st : List Stmt) (t : TS) : Prop :=
  ∀ (pins : List (Addr × Obj)) (s : Shared) (σ : St) (H : Hp) (D : Ends), Inv X pins σ H s → t D σ H → wpAny (model X.prog X.w) X.A (execs st X.env) (SP X pins D) X.xe s
theorem thn {α : Type} {t : Sem α} {Q Q' : α → Shared → Prop} {M : Model} {A : Around} {E : Value → Shared → Prop} {s : Shared} (h : wpAny M A t Q E s) (hQ : ∀ a s, Q a s → Q' a s) : wpAny M A t Q' E s := wpAny_mono h hQ fun _ _ x => x
end L2
namespace L2
open PySem PySem.Spec PyProof.Rows
section
variable {X : Cx}
noncomputable def tVar (i : Nat) : TE := fun σ H Q => ∃ v, σ[i]? = some (some v) ∧ Q v H
noncomputable def tC (v : V) : TE := fun _ H Q => Q v H
theorem pe_var {i : Nat} {x : Str} {pos : Pos} (hN : X.N[i]? = some x) (hv : Vis X.env.scope x) (hd : (x == ("__debug__" : Str)) = false := by decide) (hcd : (x == ("__classdict__" : Str)) = false := by decide) : PE X (.Name x pos) (tVar i) := by
  intro pins s σ H Q I h
  obtain ⟨v, e, h⟩ := h
  obtain ⟨m, hn, hl⟩ := I.loc
  obtain ⟨u, r, l⟩ := hl i x v hN e hv
  have fin : EP X pins σ Q u s := ⟨v, H, I, r, h⟩
  rcases l with ⟨hk, hm⟩ | ⟨hk, c, hc, hcell⟩
  · exact wpAny_Name (wpAny_loadName_local I.ok.kind hk hn hm fin) hd
  · rcases hk with hk | hk
    · exact wpAny_Name (wpAny_loadName_cell I.ok.kind hk hc hcell fin) hd
    · exact wpAny_Name (wpAny_loadName_free I.ok.kind hk hc hcell fin hcd) hd
theorem pe_int {i j pos} : PE X (.Constant (.int i) j pos) (tC (.int i)) := fun _ _ _ H _ I h => wpAny_Constant_int ⟨.int i, H, I.tok _, ⟨_, rfl⟩, h⟩
theorem pe_bl {b j pos} : PE X (.Constant (.bool b) j pos) (tC (.bl b)) := fun _ _ _ H _ I h => Constant_bool ⟨.bl b, H, I, rfl, h⟩
theorem pe_non {j pos} : PE X (.Constant .none j pos) (tC .non) := fun _ _ _ H _ I h => Constant_none ⟨.non, H, I, rfl, h⟩
theorem pe_str {x j pos} : PE X (.Constant (.str x) j pos) (tC (.str x)) := fun _ _ _ H _ I h => Calls.Constant_str ⟨.str x, H, I.tok _, ⟨_, rfl⟩, h⟩
noncomputable def Gl (X : Cx) (x : Str) : Prop := X.env.kindOf x = some .globalImplicit
theorem ld_glob {E : Value → Shared → Prop} {pins : List (Addr × Obj)} {s : Shared} {σ : St} {H : Hp} {x : Str} {u : Value} {pos : Pos} {Q : Value → Shared → Prop} (I : Inv X pins σ H s) (hg : Gl X x) (hm : X.mg x = some u) (h : Q u s)
    (hd : (x == ("__debug__" : Str)) = false := by decide) : wpAny (model X.prog X.w) X.A (eval (.Name x pos) X.env) Q E s :=
  Calls.Name_function_global I.ok.kind hg (Calls.loadGlobal_global (by rw [I.ok.glob]; exact I.mod.glob.keeps I.bk) hm h) hd
theorem ld_blt {E : Value → Shared → Prop} {pins : List (Addr × Obj)} {s : Shared} {σ : St} {H : Hp} {x : Str} {u : Value} {pos : Pos} {Q : Value → Shared → Prop} (I : Inv X pins σ H s) (hg : Gl X x) (hm : X.mg x = none) (hv : bootBuiltins x = some u) (h : Q u s)
    (hn : x ≠ "__name__" := by decide) (hd : (x == ("__debug__" : Str)) = false := by decide) : wpAny (model X.prog X.w) X.A (eval (.Name x pos) X.env) Q E s := by
  obtain ⟨mb, h1, h2⟩ := I.mod.blt
  exact Calls.Name_function_global I.ok.kind hg (Calls.loadGlobal_builtin (by rw [I.ok.glob]; exact I.mod.glob.keeps I.bk) hm (by rw [I.ok.blt]; exact h1.keeps I.bk) ((h2 x hn).trans hv) h) hd
theorem pe_glob {x : Str} {v : V} {u : Value} {pos : Pos} (hg : Gl X x) (hm : X.mg x = some u) (r : RelV v u) (hd : (x == ("__debug__" : Str)) = false := by decide) : PE X (.Name x pos) (tC v) :=
  fun _ _ _ H _ I h => ld_glob I hg hm ⟨v, H, I, r, h⟩ hd
theorem pe_bltn {x : Str} {v : V} {u : Value} {pos : Pos} (hg : Gl X x) (hm : X.mg x = none) (hv : bootBuiltins x = some u) (r : RelV v u) (hn : x ≠ "__name__" := by decide) (hd : (x == ("__debug__" : Str)) = false := by decide) : PE X (.Name x pos) (tC v) :=
  fun _ _ _ H _ I h => ld_blt I hg hm hv ⟨v, H, I, r, h⟩ hn hd
variable {a b : Expr} {ta tb : TE} {pos : Pos}
noncomputable def tB (t : TE) : TT := fun σ H Q => t σ H fun x H1 => ∃ c, x = .bl c ∧ Q c H1
theorem pt_val {e : Expr} {t : TE} (h : PE X e t) (he : ∀ whole, isTrue e X.env whole = (do let v ← whole; standAt e.pos; holding [v] (truthy v)) := by intro _; rfl) : PT X e (tB t) := by
  intro pins s σ H Q I hw
  refine isTrue_plain (thn (h pins s σ H _ I hw) fun v s1 ⟨x, H1, I1, r1, q1⟩ => ?_) (he _)
  obtain ⟨d, rfl, q⟩ := q1
  cases r1
  exact wpAny_truthy_bool ⟨H1, I1, q⟩
variable {tA tB' : TT} {rest : List Expr}
noncomputable def tAnd (t u : TT) : TT := fun σ H Q => t σ H fun c H1 => if c = true then u σ H1 Q else Q false H1
noncomputable def tOr (t u : TT) : TT := fun σ H Q => t σ H fun c H1 => if c = true then Q true H1 else u σ H1 Q
noncomputable def tNot (t : TT) : TT := fun σ H Q => t σ H fun c H1 => Q (!c) H1
theorem pw_and1 (ha : PT X a tA) : PW X (.BoolOp .And [a] pos) tA := by
  intro wh pins s σ H Q I h
  refine isTrue_and (thn (ha pins s σ H Q I h) fun c s1 e => ?_)
  cases c with
  | true => exact isTrue_and_nil e
  | false => exact e
theorem pw_or1 (ha : PT X a tA) : PW X (.BoolOp .Or [a] pos) tA := by
  intro wh pins s σ H Q I h
  refine isTrue_or (thn (ha pins s σ H Q I h) fun c s1 e => ?_)
  cases c with
  | false => exact isTrue_or_nil e
  | true => exact e
theorem pw_and (ha : PT X a tA) (hb : PW X (.BoolOp .And (b :: rest) pos) tB') : PW X (.BoolOp .And (a :: b :: rest) pos) (tAnd tA tB') := by
  intro wh pins s σ H Q I h
  refine isTrue_and (thn (ha pins s σ H _ I h) fun c s1 ⟨H1, I1, q1⟩ => ?_)
  cases c with
  | true => exact hb wh pins s1 σ H1 Q I1 q1
  | false => exact ⟨H1, I1, q1⟩
theorem pw_or (ha : PT X a tA) (hb : PW X (.BoolOp .Or (b :: rest) pos) tB') : PW X (.BoolOp .Or (a :: b :: rest) pos) (tOr tA tB') := by
  intro wh pins s σ H Q I h
  refine isTrue_or (thn (ha pins s σ H _ I h) fun c s1 ⟨H1, I1, q1⟩ => ?_)
  cases c with
  | true => exact ⟨H1, I1, q1⟩
  | false => exact hb wh pins s1 σ H1 Q I1 q1
theorem pt_not (ha : PT X a tA) : PT X (.UnaryOp .Not a pos) (tNot tA) := by
  intro pins s σ H Q I h
  exact isTrue_not (ha pins s σ H (fun c H1 => Q (!c) H1) I h)
noncomputable def tAndV (ta tb : TE) : TE := fun σ H Q => ta σ H fun x H1 => ∃ c, x = .bl c ∧ if c = true then tb σ H1 Q else Q (.bl false) H1
theorem pe_one {op} {t : TE} (h : PE X a t) : PE X (.BoolOp op [a] pos) t := fun pins s σ H Q I hw => BoolOp_one (h pins s σ H Q I hw)
theorem pe_and (ha : PE X a ta) (hb : PE X (.BoolOp .And (b :: rest) pos) tb) : PE X (.BoolOp .And (a :: b :: rest) pos) (tAndV ta tb) := by
  intro pins s σ H Q I h
  refine BoolOp_and (thn (ha pins s σ H _ I h) fun v s1 ⟨x, H1, I1, r1, q1⟩ => ?_)
  obtain ⟨c, rfl, q1⟩ := q1
  cases r1
  refine wpAny_truthy_bool ?_
  cases c with
  | true => exact hb pins s1 σ H1 Q I1 q1
  | false => exact ⟨.bl false, H1, I1, rfl, q1⟩
noncomputable def tIf (t : TT) (ta tb : TE) : TE := fun σ H Q => t σ H fun c H1 => if c = true then ta σ H1 Q else tb σ H1 Q
theorem pe_ifExp {c : Expr} (hc : PT X c tA) (ha : PE X a ta) (hb : PE X b tb) : PE X (.IfExp c a b pos) (tIf tA ta tb) := by
  intro pins s σ H Q I h
  refine wpAny_IfExp (thn (hc pins s σ H _ I h) fun d s1 ⟨H1, I1, q1⟩ => ?_)
  cases d with
  | true => exact ha pins s1 σ H1 Q I1 q1
  | false => exact hb pins s1 σ H1 Q I1 q1
end
end L2
namespace L2
open PySem PySem.Spec PyProof.Rows
noncomputable def SqL (K : PySem.W.Frag) (H : Hp) (a : Addr) (xs : List V) : Prop :=
  Rd H a (.lst xs) ∨
    ∃ (o : Obj) (its : Array Value) (n : Nat), K.lookup a = some o ∧ o.cls = .type "list" ∧ o.dict = none ∧ o.data = .seq its n ∧ its.size ≤ sizeLine ∧ Vals xs its.toList
noncomputable def SqT (K : PySem.W.Frag) (H : Hp) (a : Addr) (xs : List V) : Prop :=
  Rd H a (.tup xs) ∨
    ∃ (o : Obj) (its : Array Value) (n : Nat), K.lookup a = some o ∧ o.cls = .type "tuple" ∧ o.dict = none ∧ o.data = .seq its n ∧ its.size ≤ sizeLine ∧ Vals xs its.toList
noncomputable def absV : Value → Option V
  | .none => some .non
  | .bool b => some (.bl b)
  | .int i _ => some (.int i)
  | .str x _ => some (.str x)
  | .bytes b _ => some (.byt b)
  | .float b _ => some (.flt b)
  | .ref a => some (.ref a)
  | .type n => some (.ty n)
  | _ => none
theorem RelV.abs {x : V} {u : Value} (r : RelV x u) : absV u = some x := by
  cases x with
  | non => cases r; rfl
  | bl _ => cases r; rfl
  | int _ => obtain ⟨t, rfl⟩ := r; rfl
  | str _ => obtain ⟨t, rfl⟩ := r; rfl
  | byt _ => obtain ⟨t, rfl⟩ := r; rfl
  | flt _ => obtain ⟨t, rfl⟩ := r; rfl
  | ref _ => cases r; rfl
  | ty _ => cases r; rfl
theorem RelV.inj {x y : V} {u : Value} (r : RelV x u) (q : RelV y u) : x = y := Option.some.inj (r.abs.symm.trans q.abs)
theorem Vals.inj : ∀ {xs ys : List V} {us : List Value}, Vals xs us → Vals ys us → xs = ys
  | _, _, _, .nil, .nil => rfl
  | _, _, _, .cons r t, .cons r' t' => by rw [r.inj r', Vals.inj t t']
section
variable {X : Cx} {pins : List (Addr × Obj)} {σ : St} {H : Hp} {s : Shared} {a : Addr} {xs ys : List V}
theorem SqL.of {K : PySem.W.Frag} (h : H a = some (.lst xs)) : SqL K H a xs := .inl (.inl h)
theorem SqT.of {K : PySem.W.Frag} (h : H a = some (.tup xs)) : SqT K H a xs := .inl (.inl h)
theorem Inv.list (I : Inv X pins σ H s) (h : SqL X.K H a xs) : ∃ its : List Value, Vals xs its ∧ PlainL s.heap a its.toArray ∧ xs.length ≤ sizeLine := by
  rcases h with h | ⟨o, its, n, hk, hc, hd, hs, hz, r⟩
  · obtain ⟨z, its, n, r, e⟩ := h.ok I.hok
    exact ⟨its, r, ⟨_, n, e, rfl, rfl, rfl⟩, z⟩
  · refine ⟨its.toList, r, ⟨o, n, I.kIn a o hk, hc, hd, by simpa using hs⟩, ?_⟩
    have e := r.length
    simp only [Array.length_toList] at e
    omega
theorem Inv.tuple (I : Inv X pins σ H s) (h : SqT X.K H a xs) : ∃ its : List Value, Vals xs its ∧ IsTup s.heap a its.toArray ∧ xs.length ≤ sizeLine := by
  rcases h with h | ⟨o, its, n, hk, hc, _, hs, hz, r⟩
  · obtain ⟨z, its, r, p, _⟩ := h.ok I.hok
    exact ⟨its, r, p, z⟩
  · refine ⟨its.toList, r, ⟨o, I.kIn a o hk, hc, n, by simpa using hs⟩, ?_⟩
    have e := r.length
    simp only [Array.length_toList] at e
    omega
theorem Inv.list_inj (I : Inv X pins σ H s) (h : SqL X.K H a xs) (h' : SqL X.K H a ys) : xs = ys := by
  obtain ⟨its, r, ⟨o, n, e, _, _, d⟩, _⟩ := I.list h
  obtain ⟨its', r', ⟨o', n', e', _, _, d'⟩, _⟩ := I.list h'
  rw [e] at e'; cases e'
  rw [d] at d'
  injection d' with d1 _
  have : its = its' := by simpa using congrArg Array.toList d1
  subst this
  exact r.inj r'
theorem Inv.tuple_inj (I : Inv X pins σ H s) (h : SqT X.K H a xs) (h' : SqT X.K H a ys) : xs = ys := by
  obtain ⟨its, r, ⟨o, e, _, n, d⟩, _⟩ := I.tuple h
  obtain ⟨its', r', ⟨o', e', _, n', d'⟩, _⟩ := I.tuple h'
  rw [e] at e'; cases e'
  rw [d] at d'
  injection d' with d1 _
  have : its = its' := by simpa using congrArg Array.toList d1
  subst this
  exact r.inj r'
end
noncomputable abbrev Cx.wish (X : Cx) (E : Value → Shared → Prop) : Cx := { X with xe := E }
noncomputable abbrev Cx.nox (X : Cx) : Cx := X.wish fun _ _ => False
theorem Cx.Ok.wish {X : Cx} (ok : X.Ok) (E : Value → Shared → Prop) : (X.wish E).Ok :=
  ⟨ok.mod, ok.kind, ok.glob, ok.blt, ok.above, ok.inj, ok.has, ok.cab, ok.hd, ok.frames, ok.stk, ok.exf, ok.bs, ok.bsz, ok.noex, ok.exfs, ok.funs, ok.frf⟩
theorem Cx.Ok.unwish {X : Cx} {E : Value → Shared → Prop} (ok : (X.wish E).Ok) : X.Ok :=
  ⟨ok.mod, ok.kind, ok.glob, ok.blt, ok.above, ok.inj, ok.has, ok.cab, ok.hd, ok.frames, ok.stk, ok.exf, ok.bs, ok.bsz, ok.noex, ok.exfs, ok.funs, ok.frf⟩
section
variable {X : Cx} {pins : List (Addr × Obj)} {σ : St} {H : Hp} {s : Shared} {E : Value → Shared → Prop}
theorem Inv.wish (I : Inv X pins σ H s) (E : Value → Shared → Prop) : Inv (X.wish E) pins σ H s := ⟨I.ok.wish E, I.os, I.bare, I.base, I.loc, I.cell, I.free, I.freeC, I.pin, I.hok, I.len⟩
theorem Inv.unwish (I : Inv (X.wish E) pins σ H s) : Inv X pins σ H s := ⟨I.ok.unwish, I.os, I.bare, I.base, I.loc, I.cell, I.free, I.freeC, I.pin, I.hok, I.len⟩
theorem SP.unwish {D : Ends} {f : Flow} {s' : Shared} (h : SP (X.wish E) pins D f s') : SP X pins D f s' := by
  cases f with
  | next => obtain ⟨σ', H', I, q⟩ := h; exact ⟨σ', H', I.unwish, q⟩
  | brk => obtain ⟨σ', H', I, q⟩ := h; exact ⟨σ', H', I.unwish, q⟩
  | cont => obtain ⟨σ', H', I, q⟩ := h; exact ⟨σ', H', I.unwish, q⟩
  | ret u => obtain ⟨v, σ', H', I, r, q⟩ := h; exact ⟨v, σ', H', I.unwish, r, q⟩
theorem PT.nox {e : Expr} {t : TT} (h : PT X.nox e t) : PT X e t := fun pins s σ H Q I hw =>
  wpAny_mono (h pins s σ H Q (I.wish _) hw) (fun _ _ ⟨H', I', q⟩ => ⟨H', I'.unwish, q⟩) fun _ _ z => False.elim z
theorem PSs.nox {st : List Stmt} {t : TS} (h : PSs X.nox st t) : PSs X st t := fun pins s σ H D I hw =>
  wpAny_mono (h pins s σ H D (I.wish _) hw) (fun _ _ q => q.unwish) fun _ _ z => False.elim z
end
section
variable {X : Cx} {st : Stmt} {rest : List Stmt} {t u : TS} {e : Expr} {te : TE} {pos : Pos}
noncomputable def tNext : TS := fun D σ H => D.nx σ H
noncomputable def tSeq (t u : TS) : TS := fun D σ H => t { D with nx := u D } σ H
theorem pss_nil : PSs X [] tNext := fun _ _ σ H _ I h => wpAny_execs_nil ⟨σ, H, I, h⟩
theorem pss_cons (h1 : PS X st t) (h2 : PSs X rest u) : PSs X (st :: rest) (tSeq t u) := by
  intro pins s σ H D I h
  refine wpAny_execs_cons (thn (h1 pins s σ H { D with nx := u D } I h) fun f s1 q => ?_)
  cases f with
  | next =>
    obtain ⟨σ', H', I', q⟩ := q
    exact h2 pins s1 σ' H' D I' q
  | ret v => exact q
  | brk => exact q
  | cont => exact q
theorem pss_one (h1 : PS X st t) : PSs X [st] t := by
  intro pins s σ H D I h
  refine wpAny_execs_cons (thn (h1 pins s σ H D I h) fun f s1 q => ?_)
  cases f with
  | next => exact wpAny_execs_nil q
  | ret v => exact q
  | brk => exact q
  | cont => exact q
theorem Inv.quiet {pins : List (Addr × Obj)} {σ : St} {H : Hp} {s : Shared} (I : Inv X pins σ H s) : interactive X.env = false := by simp [interactive, I.ok.kind]
noncomputable def tDrop (te : TE) : TS := fun D σ H => te σ H fun _ H1 => D.nx σ H1
theorem ps_expr (he : PE X e te) (hs : swapsWith e none pos.line X.env = pure false := by rfl) : PS X (.Expr e pos) (tDrop te) := by
  intro pins s σ H D I h
  exact wpAny_Expr_any (thn (he pins s σ H _ I h) fun v s1 ⟨x, H1, I1, r1, q1⟩ => ⟨σ, H1, I1, q1⟩) I.quiet hs
noncomputable def tRet (te : TE) : TS := fun D σ H => te σ H D.rt
theorem ps_ret (he : PE X e te) : PS X (.Return (some e) pos) (tRet te) := by
  intro pins s σ H D I h
  exact wpAny_Return_some (thn (he pins s σ H _ I h) fun v s1 ⟨x, H1, I1, r1, q1⟩ => ⟨x, σ, H1, I1, r1, q1⟩)
noncomputable def tIfS (c : TT) (t u : TS) : TS := fun D σ H => c σ H fun b H1 => if b = true then t D σ H1 else u D σ H1
theorem ps_if {c : Expr} {a b : List Stmt} {tc : TT} (hc : PT X c tc) (ha : PSs X a t) (hb : PSs X b u) : PS X (.If c a b pos) (tIfS tc t u) := by
  intro pins s σ H D I h
  refine wpAny_If (thn (hc pins s σ H _ I h) fun d s1 ⟨H1, I1, q1⟩ => ?_)
  cases d with
  | true => exact ha pins s1 σ H1 D I1 q1
  | false => exact hb pins s1 σ H1 D I1 q1
end
noncomputable abbrev TG := V → St → Hp → (St → Hp → Prop) → Prop
noncomputable abbrev TGs := List V → St → Hp → (St → Hp → Prop) → Prop
noncomputable def PG (X : Cx) (target : Expr) (t : TG) : Prop :=
  ∀ (pins : List (Addr × Obj)) (s : Shared) (σ : St) (H : Hp) (v : V) (u : Value) (Q : St → Hp → Prop), Inv X pins σ H s → RelV v u → t v σ H Q →
    wpAny (model X.prog X.w) X.A (assign target X.env u) (fun _ s' => ∃ σ' H', Inv X pins σ' H' s' ∧ Q σ' H') X.xe s
noncomputable def PGs (X : Cx) (ts : List Expr) (t : TGs) : Prop :=
  ∀ (pins : List (Addr × Obj)) (s : Shared) (σ : St) (H : Hp) (vs : List V) (us : List Value) (Q : St → Hp → Prop), Inv X pins σ H s → Vals vs us → t vs σ H Q →
    wpAny (model X.prog X.w) X.A (assignInOrder ((assignEach ts X.env).map (·.2)) us) (fun _ s' => ∃ σ' H', Inv X pins σ' H' s' ∧ Q σ' H') X.xe s
noncomputable abbrev TSet := V → V → V → Hp → (Hp → Prop) → Prop
noncomputable def PSet (X : Cx) (t : TSet) : Prop :=
  ∀ (pins : List (Addr × Obj)) (s : Shared) (σ : St) (H : Hp) (o i v : V) (ov iv u : Value) (Q : Hp → Prop), Inv X pins σ H s → RelV o ov → RelV i iv → RelV v u → t o i v H Q →
    wpAny (model X.prog X.w) X.A (setItem ov iv u) (fun _ s' => ∃ H', Inv X pins σ H' s' ∧ Q H') X.xe s
section
variable {X : Cx} {pos : Pos}
noncomputable def gName (i : Nat) : TG := fun v σ H Q => Q (σ.set i (some v)) H
theorem pg_name {i : Nat} {x : Str} (hN : X.N.Nodup) (hi : X.N[i]? = some x) (hx : Loc X.env.scope x) (hf : X.fn x = true ∨ X.env.scope.names.lookup x = some .local := by first | exact .inl rfl | exact .inr rfl | assumption) : PG X (.Name x pos) (gName i) := by
  intro pins s σ H v u Q I r h
  exact wpAny_assign_Name (store_ok I hN hi hx r (fun s' I' => ⟨_, H, I', h⟩) hf)
noncomputable def gNil : TGs := fun vs σ H Q => vs = [] ∧ Q σ H
noncomputable def gCons (t : TG) (u : TGs) : TGs := fun vs σ H Q => ∃ v r, vs = v :: r ∧ t v σ H fun σ' H' => u r σ' H' Q
theorem pgs_nil : PGs X [] gNil := by
  intro pins s σ H vs us Q I r h
  obtain ⟨e, h⟩ := h
  subst e
  cases r
  exact assignInOrder_nil ⟨σ, H, I, h⟩
theorem pgs_cons {e : Expr} {es : List Expr} {t : TG} {u : TGs} (h1 : PG X e t) (h2 : PGs X es u)
    (hs : (assignEach (e :: es) X.env).map (·.2) = assign e X.env :: (assignEach es X.env).map (·.2) := by rfl) : PGs X (e :: es) (gCons t u) := by
  intro pins s σ H vs us Q I r h
  obtain ⟨v, vr, e1, h⟩ := h
  subst e1
  cases r with
  | cons r rr =>
    rw [hs]
    refine assignInOrder_cons (thn (h1 pins s σ H _ _ _ I r h) fun _ s1 ⟨σ1, H1, I1, q1⟩ => ?_)
    exact h2 pins s1 σ1 H1 _ _ Q I1 rr q1
noncomputable def gTup (K : PySem.W.Frag) (n : Nat) (t : TGs) : TG := fun v σ H Q => ∃ a xs, v = .ref a ∧ SqT K H a xs ∧ xs.length = n ∧ t xs σ H Q
theorem pg_tup {es : List Expr} {k : Nat} {t : TGs} {n : Nat} (hc : X.calm = true) (h : PGs X es t)
    (hn : (assignEach es X.env).length = n := by rfl) (hst : (assignEach es X.env).findIdx? (·.1) = none := by rfl) : PG X (.Tuple es k pos) (gTup X.K n t) := by
  intro pins s σ H v u Q I r hw
  obtain ⟨a, xs, e1, hq, hl, hw⟩ := hw
  subst e1
  cases r
  obtain ⟨its, rv, ht, hz⟩ := I.tuple hq
  refine assign_Tuple_tuple (I.ok.hd hc) ht (by simp [hn, ← hl, rv.length]) hst fun h' hx => ?_
  have I1 : Inv X pins σ H { s with heap := h' } := I.kept (t' := s.toks) fun b o e => hx b o (Nat.ne_of_lt (Heap.lt_size e)) e
  exact h pins _ σ H xs _ Q I1 (by simpa using rv) hw
noncomputable def gSub (to ti : TE) (t : TSet) : TG := fun v σ H Q => to σ H fun o H1 => ti σ H1 fun i H2 => t o i v H2 fun H3 => Q σ H3
theorem pg_sub {o i : Expr} {to ti : TE} {t : TSet} (ho : PE X o to) (hi : PE X i ti) (hs : PSet X t)
    (ha : ∀ v, assign (.Subscript o i pos) X.env v = (do
      let ov ← holding [v] (eval o X.env)
      let iv ← holding [v, ov] (eval i X.env)
      standAt pos
      holding [v, ov, iv] (setItem ov iv v)
      release [v, ov, iv] []) := by intro _; rfl) : PG X (.Subscript o i pos) (gSub to ti t) := by
  intro pins s σ H v u Q I r h
  rw [ha]
  refine wpAny_bind (wpAny_holding (thn (ho pins s σ H _ I h) fun ov s1 ⟨x, H1, I1, r1, q1⟩ => ?_))
  refine wpAny_bind (wpAny_holding (thn (hi pins s1 σ H1 _ I1 q1) fun iv s2 ⟨y, H2, I2, r2, q2⟩ => ?_))
  refine wpAny_bind (wpAny_standAt (wpAny_bind (wpAny_holding (thn (hs pins s2 σ H2 x y v ov iv u _ I2 r1 r2 r q2) fun _ s3 ⟨H3, I3, q3⟩ => ?_))))
  exact wpAny_release ⟨σ, H3, I3, q3⟩
noncomputable def tAsg (te : TE) (g : TG) : TS := fun D σ H => te σ H fun x H1 => g x σ H1 D.nx
theorem ps_asg {tg e : Expr} {te : TE} {g : TG} (he : PE X e te) (hg : PG X tg g) (hs : swapsWithSole [tg] e pos.line X.env = pure false := by rfl) (hw : swappedStores [tg] e X.env = pure none := by rfl)
    (h1 : (assignEach [tg] X.env).map (·.2) = [assign tg X.env] := by rfl) : PS X (.Assign [tg] e pos) (tAsg te g) := by
  intro pins s σ H D I h
  refine wpAny_Assign_stores (thn (he pins s σ H _ I h) fun v s1 ⟨x, H1, I1, r1, q1⟩ => ?_) hs hw
  rw [h1]
  exact thn (hg pins s1 σ H1 x v _ I1 r1 q1) fun _ s2 q => q
theorem ps_set {i : Nat} {x : Str} {e : Expr} {te : TE} {pos' : Pos} (hN : X.N.Nodup) (hi : X.N[i]? = some x) (hx : Loc X.env.scope x) (he : PE X e te) (hs : swapsWith e (some (.Name x pos')) pos.line X.env = pure false := by rfl) (hf : X.fn x = true ∨ X.env.scope.names.lookup x = some .local := by first | exact .inl rfl | exact .inr rfl | assumption) :
    PS X (.Assign [.Name x pos'] e pos) (tAsg te (gName i)) := by
  intro pins s σ H D I h
  refine wpAny_Assign_Name (thn (he pins s σ H _ I h) fun v s1 ⟨y, H1, I1, r1, q1⟩ => ?_) hs
  exact store_ok I1 hN hi hx r1 (fun s2 I2 => ⟨_, H1, I2, q1⟩) hf
noncomputable def tPar (i j : Nat) (ta : TA) : TS := fun D σ H => ta σ H fun vs H1 => ∃ v w, vs = [v, w] ∧ D.nx ((σ.set i (some v)).set j (some w)) H1
theorem ps_par {i j : Nat} {x y : Str} {a b : Expr} {ta : TA} {px py pt : Pos} {kt k2 pt2} (hc : X.calm = true) (hN : X.N.Nodup) (hi : X.N[i]? = some x) (hj : X.N[j]? = some y) (hij : i ≠ j)
    (hx : X.env.scope.names.lookup x = some .local) (hy : X.env.scope.names.lookup y = some .local) (ha : PA X [a, b] ta)
    (hw : swappedStores [.Tuple [.Name x px, .Name y py] kt pt] (.Tuple [a, b] k2 pt2) X.env = pure (some [x, y]))
    (hs : swapsWithSole [.Tuple [.Name x px, .Name y py] kt pt] (.Tuple [a, b] k2 pt2) pos.line X.env = pure false := by rfl) :
    PS X (.Assign [.Tuple [.Name x px, .Name y py] kt pt] (.Tuple [a, b] k2 pt2) pos) (tPar i j ta) := by
  intro pins s σ H D I h
  rw [exec_Assign_arm]
  refine wpAny_bind (wpAny_standAt ?_)
  rw [hs]
  refine wpAny_bind (wpAny_pure ?_)
  rw [if_neg (by decide)]
  refine wpAny_bind (Tuple_ (thn (ha _ pins s σ H _ I h) fun us s1 ⟨vs, H1, I1, r1, q1⟩ => ?_))
  obtain ⟨v, w, e1, q1⟩ := q1
  subst e1
  obtain ⟨u1, u2, rfl, rv, rw'⟩ : ∃ u1 u2, us = [u1, u2] ∧ RelV v u1 ∧ RelV w u2 := by
    cases r1 with
    | cons p q =>
      cases q with
      | cons p' q' =>
        cases q'
        exact ⟨_, _, rfl, p, p'⟩
  refine wpAny_newObj_type ?_ (by show 2 ≤ sizeLine; decide)
  have I2 : Inv X pins σ H1 { s1 with heap := s1.heap.push { cls := .type "tuple", data := .seq [u1, u2].toArray } } := I1.kept (t' := s1.toks) fun b o e => Heap.get?_push_of_some _ e
  rw [hw]
  refine wpAny_bind (wpAny_pure ?_)
  show wpAny (model X.prog X.w) X.A (do rule "assign.swapped-stores"; let items ← unpackItems (.ref s1.heap.objs.size) 2 none; assignInOrder [fun v => bindName X.env y v, fun v => bindName X.env x v] items.reverse; pure Flow.next) _ _ _
  refine wpAny_bind (wpAny_rule (wpAny_bind (unpackItems_tuple (items := #[u1, u2]) (I.ok.hd hc) (IsTup.new s1.heap _) fun h' hx' => ?_)))
  have I3 := I2.kept (h' := h') (t' := s1.toks) fun b o e => hx' b o (Nat.ne_of_lt (Heap.lt_size e)) e
  show wpAny _ _ (assignInOrder [fun v => bindName X.env y v, fun v => bindName X.env x v] [u2, u1] >>= fun _ => pure Flow.next) _ _ _
  refine wpAny_bind (assignInOrder_cons (wpAny_bindName (store_ok I3 hN hj (.inl hy) rw' (fun s2 I4 => ?_) (.inr hy))))
  refine assignInOrder_cons (wpAny_bindName (store_ok I4 hN hi (.inl hx) rv (fun s3 I5 => assignInOrder_nil (wpAny_pure ?_)) (.inr hx)))
  rw [List.set_comm _ _ (Ne.symm hij)] at I5
  exact ⟨_, H1, I5, q1⟩
end
section
variable {X : Cx} {pos : Pos}
noncomputable def tWhile (c : TT) (tb : TS) : TS := fun D σ H => ∃ W : Nat → St → Hp → Prop, (∃ m, W m σ H) ∧ ∀ m σ H, W m σ H →
  c σ H fun b H1 => if b = true then ∃ N : St → Hp → Prop, (∀ σ' H', N σ' H' → ∃ m', m' < m ∧ W m' σ' H') ∧ tb { D with nx := N, ct := N, bk := D.nx } σ H1 else D.nx σ H1
theorem ps_while {c : Expr} {body : List Stmt} {tc : TT} {tb : TS} (hp : PassesOwn (model X.prog X.w) X.A X.env X.xe) (hc : PT X c tc) (hb : PSs X body tb) : PS X (.While c body [] pos) (tWhile tc tb) := by
  intro pins s σ H D I h
  obtain ⟨W, ⟨m0, w0⟩, turn⟩ := h
  refine wpAny_While (codeAny_whileLoop (fun n s' => ∃ σ' H', Inv X pins σ' H' s' ∧ W n σ' H') ?_ m0 ⟨σ, H, I, w0⟩)
  rintro n s1 ⟨σ1, H1, I1, w1⟩
  refine wpAny_passesOwn hp (thn (hc pins s1 σ1 H1 _ I1 (turn n σ1 H1 w1)) fun b s2 ⟨H2, I2, q2⟩ => ?_)
  cases b with
  | true =>
    obtain ⟨N, hN, q2⟩ := q2
    rw [if_pos rfl]
    refine wpAny_passesOwn hp (thn (hb pins s2 σ1 H2 _ I2 q2) fun f s3 q3 => ?_)
    cases f with
    | next =>
      obtain ⟨σ3, H3, I3, n3⟩ := q3
      obtain ⟨m', hm, w3⟩ := hN σ3 H3 n3
      exact ⟨m', hm, σ3, H3, I3, w3⟩
    | cont =>
      obtain ⟨σ3, H3, I3, n3⟩ := q3
      obtain ⟨m', hm, w3⟩ := hN σ3 H3 n3
      exact ⟨m', hm, σ3, H3, I3, w3⟩
    | brk => exact q3
    | ret v => exact q3
  | false =>
    rw [if_neg Bool.false_ne_true]
    exact wpAny_execs_nil ⟨σ1, H2, I2, q2⟩
end
structure It where
  go : Nat → Hp → Prop
  yld : Nat → Hp → V → Hp → Prop
  stop : Nat → Hp → Prop
noncomputable def FpOk (X : Cx) (pins : List (Addr × Obj)) (H : Hp) (b : Addr) : Prop :=
  H b = none ∧ b ≠ X.env.locals ∧ b ∉ X.fs ∧ (b ∈ X.ex ∨ X.s₀.heap.objs.size ≤ b) ∧ (∀ x c, X.env.cells.lookup x = some c → c ≠ b) ∧ ∀ p ∈ X.pn ++ pins, p.1 ≠ b
theorem Inv.fpOk {X : Cx} {pins : List (Addr × Obj)} {σ : St} {H H' : Hp} {s : Shared} {b : Addr} (I : Inv X pins σ H s) (hb : s.heap.objs.size ≤ b) (hn : H' b = none) : FpOk X pins H' b := by
  refine ⟨hn, Nat.ne_of_gt (Nat.lt_of_lt_of_le I.lt hb), I.nofs hb, .inr (Nat.le_trans I.sz hb), fun x c e z => ?_, fun p hp z => ?_⟩
  · obtain ⟨v, q⟩ := I.cell x c e
    exact absurd (Nat.lt_of_lt_of_le q.lt (by rw [z]; exact hb)) (Nat.lt_irrefl _)
  · exact absurd (Nat.lt_of_lt_of_le (Heap.lt_size (I.pin p hp).1) (by rw [z]; exact hb)) (Nat.lt_irrefl _)
structure Turn (P : Program) (w : World) (K : PySem.W.Frag) (tg : Expr) (J : It) (fp : List Addr) (it : Addr) (tn : Nat → Heap → Prop) : Prop where
  mem : it ∈ fp
  obj : ∀ i h, tn i h → ∀ b ∈ fp, ∃ o, h.get? b = some o ∧ ∀ v, o.data ≠ .cell v
  keep : ∀ i h h', tn i h → (∀ b ∈ fp, ∀ o, h.get? b = some o → h'.get? b = some o) → tn i h'
  item : ∀ (X : Cx), X.prog = P → X.w = w → X.K = K → X.calm = true → ∀ (i : Nat) (pins : List (Addr × Obj)) (s : Shared) (σ : St) (H : Hp) (E : Value → Shared → Prop), Inv X pins σ H s → (∀ b ∈ fp, FpOk X pins H b) → tn i s.heap → J.go i H →
    wpAny (model P w) X.A (pyNext (.ref it)) (fun r s1 => ∃ u, r = some u ∧
      wpAny (model P w) X.A (letOwnedTupleGo tg (.ref it) u) (fun _ s2 => ∃ x H', Inv X pins σ H' s2 ∧ RelV x u ∧ J.yld i H x H' ∧ tn (i + 1) s2.heap ∧ ∀ b ∈ fp, H' b = none) E s1) E s
  done : ∀ (X : Cx), X.prog = P → X.w = w → X.K = K → X.calm = true → ∀ (i : Nat) (pins : List (Addr × Obj)) (s : Shared) (σ : St) (H : Hp) (E : Value → Shared → Prop), Inv X pins σ H s → (∀ b ∈ fp, FpOk X pins H b) → tn i s.heap → J.stop i H →
    wpAny (model P w) X.A (pyNext (.ref it)) (fun r s1 => r = none ∧ Inv X pins σ H s1) E s
  self : ∀ (A : Around) (i : Nat) (s : Shared) (Q : Value → Shared → Prop) (E : Value → Shared → Prop), tn i s.heap → Q (.ref it) s → wpAny (model P w) A (pyIter (.ref it)) Q E s
noncomputable abbrev TI := St → Hp → (It → Hp → Prop) → Prop
noncomputable def PIE (X : Cx) (pins : List (Addr × Obj)) (σ : St) (tg : Expr) (R : It → Hp → Prop) (itv : Value) (s2 : Shared) : Prop :=
  ∃ (it : Addr) (fp : List Addr) (tn : Nat → Heap → Prop) (J : It) (H' : Hp), itv = .ref it ∧ Inv X pins σ H' s2 ∧ Turn X.prog X.w X.K tg J fp it tn ∧ tn 0 s2.heap ∧ (∀ b ∈ fp, FpOk X pins H' b) ∧ R J H'
noncomputable def PI (X : Cx) (tg iter : Expr) (wi : TI) : Prop :=
  ∀ (pins : List (Addr × Obj)) (s : Shared) (σ : St) (H : Hp) (R : It → Hp → Prop), Inv X pins σ H s → wi σ H R →
    wpAny (model X.prog X.w) X.A (eval iter X.env) (fun v s1 => wpAny (model X.prog X.w) X.A (pyIter v) (PIE X pins σ tg R) X.xe s1) X.xe s
theorem go_of {M : Model} {A : Around} {E : Value → Shared → Prop} {s : Shared} {tg : Expr} {it : Addr} {u : Value} {o : Obj} {n : String} {vs : Array Value} {Q : Unit → Shared → Prop} (ho : s.heap.get? it = some o) (hc : o.cls = .type n) (hd : o.data = .fields vs)
    (hn : ["enumerate", "zip", "dict_itemiterator", "dict_reverseitemiterator", "odict_iterator", "itertools.zip_longest", "itertools.pairwise"].contains n = false) (hQ : Q () s) : wpAny M A (letOwnedTupleGo tg (.ref it) u) Q E s := by
  unfold letOwnedTupleGo
  cases tg <;> first
    | exact wpAny_pure hQ
    | (cases u <;> first
        | exact wpAny_pure hQ
        | (refine wpAny_bind (wpAny_load ho ?_)
           rw [hc, hd]
           show wpAny M A (if (["enumerate", "zip", "dict_itemiterator", "dict_reverseitemiterator", "odict_iterator", "itertools.zip_longest", "itertools.pairwise"].contains n && vs[0]? == some (rawInt _)) = true then _ else _) Q E s
           rw [if_neg (by intro h; rw [hn, Bool.false_and] at h; cases h)]
           exact wpAny_pure hQ))
noncomputable def Itl (K : PySem.W.Frag) (a : Addr) : It :=
  ⟨fun i H => ∃ xs x, SqL K H a xs ∧ xs[i]? = some x, fun i H x H' => H' = H ∧ ∀ xs, SqL K H a xs → xs[i]? = some x, fun i H => ∃ xs, SqL K H a xs ∧ xs.length ≤ i⟩
noncomputable def Itt (K : PySem.W.Frag) (a : Addr) : It :=
  ⟨fun i H => ∃ xs x, SqT K H a xs ∧ xs[i]? = some x, fun i H x H' => H' = H ∧ ∀ xs, SqT K H a xs → xs[i]? = some x, fun i H => ∃ xs, SqT K H a xs ∧ xs.length ≤ i⟩
noncomputable def Itr (lo : Int) (n : Nat) : It := ⟨fun i _ => i < n, fun i H x H' => H' = H ∧ x = .int (lo + i), fun i _ => n ≤ i⟩
theorem turn_list {P : Program} {w : World} {K : PySem.W.Frag} {tg : Expr} (a it : Addr) : Turn P w K tg (Itl K a) [it] it (fun i h => h.IsListIter it a i) where
  mem := by simp
  obj := fun i h st b hb => by
    have e : b = it := by simpa using hb
    subst e
    obtain ⟨o, e, c, d⟩ := st
    exact ⟨o, e, fun v z => by rw [d] at z; cases z⟩
  keep := fun i h h' st k => st.at fun o e => k it (by simp) o e
  item := by
    intro X hP hw hK hc i pins s σ H E I hf st hg
    subst hP hw hK
    obtain ⟨xs, x, hq, hx⟩ := hg
    obtain ⟨its, rv, p, hz⟩ := I.list hq
    obtain ⟨u, hu, ru⟩ := rv.get hx
    obtain ⟨f0, f1, f2, f3, f4, f5⟩ := hf it (by simp)
    refine wpAny_pyNext_list_item st p.isList (x := u) (by simpa using hu) fun h' st' sb => ?_
    have I1 : Inv X pins σ H { s with heap := h' } := I.turned (t' := s.toks) (fun b o hb e => (sb.2 b hb).trans e) f0 f1 f3 f4 f5
    obtain ⟨o, e, c, d⟩ := id st'
    exact ⟨u, rfl, go_of (s := { s with heap := h' }) e c d (by decide) ⟨x, H, I1, ru, ⟨rfl, fun ys hy => by rw [I.list_inj hy hq]; exact hx⟩, st', fun b hb => (hf b hb).1⟩⟩
  done := by
    intro X hP hw hK hc i pins s σ H E I hf st hg
    subst hP hw hK
    obtain ⟨xs, hq, hx⟩ := hg
    obtain ⟨its, rv, p, hz⟩ := I.list hq
    obtain ⟨f0, f1, f2, f3, f4, f5⟩ := hf it (by simp)
    have hl := rv.length
    exact wpAny_pyNext_list_end (I.ok.hd hc) st p.isList (by simp; omega) fun h' eb => ⟨rfl, I.turned (t' := s.toks) (fun b o hb e => eb b o hb e) f0 f1 f3 f4 f5⟩
  self := fun _ _ _ _ _ st h => wpAny_pyIter_listiter st h
theorem turn_tuple {P : Program} {w : World} {K : PySem.W.Frag} {tg : Expr} (a it : Addr) : Turn P w K tg (Itt K a) [it] it (fun i h => h.IsTupleIter it a i) where
  mem := by simp
  obj := fun i h st b hb => by
    have e : b = it := by simpa using hb
    subst e
    obtain ⟨o, e, c, d⟩ := st
    exact ⟨o, e, fun v z => by rw [d] at z; cases z⟩
  keep := fun i h h' st k => st.at fun o e => k it (by simp) o e
  item := by
    intro X hP hw hK hc i pins s σ H E I hf st hg
    subst hP hw hK
    obtain ⟨xs, x, hq, hx⟩ := hg
    obtain ⟨its, rv, p, hz⟩ := I.tuple hq
    obtain ⟨u, hu, ru⟩ := rv.get hx
    obtain ⟨f0, f1, f2, f3, f4, f5⟩ := hf it (by simp)
    refine wpAny_pyNext_tuple_item st (show s.heap.IsTuple a its.toArray from p) (x := u) (by simpa using hu) fun h' st' sb => ?_
    have I1 : Inv X pins σ H { s with heap := h' } := I.turned (t' := s.toks) (fun b o hb e => (sb.2 b hb).trans e) f0 f1 f3 f4 f5
    obtain ⟨o, e, c, d⟩ := id st'
    exact ⟨u, rfl, go_of (s := { s with heap := h' }) e c d (by decide) ⟨x, H, I1, ru, ⟨rfl, fun ys hy => by rw [I.tuple_inj hy hq]; exact hx⟩, st', fun b hb => (hf b hb).1⟩⟩
  done := by
    intro X hP hw hK hc i pins s σ H E I hf st hg
    subst hP hw hK
    obtain ⟨xs, hq, hx⟩ := hg
    obtain ⟨its, rv, p, hz⟩ := I.tuple hq
    obtain ⟨f0, f1, f2, f3, f4, f5⟩ := hf it (by simp)
    have hl := rv.length
    exact wpAny_pyNext_tuple_end (I.ok.hd hc) st (show s.heap.IsTuple a its.toArray from p) (by simp; omega) fun h' eb => ⟨rfl, I.turned (t' := s.toks) (fun b o hb e => eb b o hb e) f0 f1 f3 f4 f5⟩
  self := fun _ _ _ _ _ st h => wpAny_pyIter_tupleiter st h
theorem turn_range {P : Program} {w : World} {K : PySem.W.Frag} {tg : Expr} (it : Addr) (lo : Int) (n : Nat) : Turn P w K tg (Itr lo n) [it] it (fun i h => IsRangeIter h it (lo + (i : Nat) * 1) ((n : Int) - (i : Nat)) 1) where
  mem := by simp
  obj := fun i h st b hb => by
    have e : b = it := by simpa using hb
    subst e
    exact ⟨_, st, fun v z => by
      have z' : Data.fields _ = Data.cell v := z
      cases z'⟩
  keep := fun i h h' st k => k it (by simp) _ st
  item := by
    intro X hP hw hK hc i pins s σ H E I hf st hg
    subst hP hw hK
    obtain ⟨f0, f1, f2, f3, f4, f5⟩ := hf it (by simp)
    have W := Walks.range (prog := X.prog) (w := X.w) (I.ok.hd hc) it lo 1 n
    refine W.item i s _ _ hg st fun v h' tk hv st' kk => ?_
    obtain ⟨t, rfl⟩ := hv
    have I1 : Inv X pins σ H { s with heap := h', toks := tk } := I.turned (fun b o hb e => kk b o (by simpa using hb) e) f0 f1 f3 f4 f5
    refine ⟨_, rfl, go_of (s := { s with heap := h', toks := tk }) (n := "range_iterator") st' rfl rfl (by decide) ⟨.int (lo + i), H, I1, ⟨t, ?_⟩, ⟨rfl, rfl⟩, st', fun b hb => (hf b hb).1⟩⟩
    rw [Int.mul_one]
  done := by
    intro X hP hw hK hc i pins s σ H E I hf st hg
    subst hP hw hK
    obtain ⟨f0, f1, f2, f3, f4, f5⟩ := hf it (by simp)
    exact wpAny_pyNext_range_end (I.ok.hd hc) st (by have : n ≤ i := hg; omega) fun h' eb => ⟨rfl, I.turned (t' := s.toks) (fun b o hb e => eb b o hb e) f0 f1 f3 f4 f5⟩
  self := fun _ _ _ _ _ st h => wpAny_pyIter_rangeiter st h
end L2
namespace L2
open PySem PySem.Spec PyProof.Rows
section
variable {X : Cx} {tg : Expr}
theorem range_it {pins : List (Addr × Obj)} {σ : St} {H : Hp} {s : Shared} {R : It → Hp → Prop} {E : Value → Shared → Prop} {lo hi : Int} {t u v : Tok} {tk : Nat} (I : Inv X pins σ H s) (h1 : -(2 ^ 62) ≤ lo) (h2 : lo < 2 ^ 62) (h3 : -(2 ^ 62) ≤ hi) (h4 : hi < 2 ^ 62)
    (q : R (Itr lo (hi - lo).toNat) H) : wpAny (model X.prog X.w) X.A (pyIter (.ref s.heap.objs.size)) (PIE X pins σ tg R) E { s with heap := s.heap.push { cls := .type "range", data := .fields #[.int lo t, .int hi u, .int 1 v] }, toks := tk } := by
  refine wpAny_pyIter_range (IsRange.new ..) (small_one h1 h2 h3 h4) ?_
  have I1 : Inv X pins σ H { s with heap := s.heap.push { cls := .type "range", data := .fields #[.int lo t, .int hi u, .int 1 v] }, toks := tk } := I.kept fun b o e => Heap.get?_push_of_some _ e
  refine ⟨(s.heap.push { cls := .type "range", data := .fields #[.int lo t, .int hi u, .int 1 v] }).objs.size, [(s.heap.push { cls := .type "range", data := .fields #[.int lo t, .int hi u, .int 1 v] }).objs.size], _, _, H, rfl,
    I1.kept (t' := tk) fun b o e => Heap.get?_push_of_some _ e, turn_range _ lo (hi - lo).toNat, ?_, fun b hb => ?_, q⟩
  · have e1 : lo + ((0 : Nat) : Int) * 1 = lo := by simp
    have e2 : (((hi - lo).toNat : Nat) : Int) - ((0 : Nat) : Int) = Builtin.Range.rangeSize lo hi 1 := by rw [rangeSize_one]; split <;> omega
    show IsRangeIter _ _ (lo + ((0 : Nat) : Int) * 1) ((((hi - lo).toNat : Nat) : Int) - ((0 : Nat) : Int)) 1
    rw [e1, e2]
    exact Heap.get?_push_size _ rfl
  · have e : b = (s.heap.push { cls := .type "range", data := .fields #[.int lo t, .int hi u, .int 1 v] }).objs.size := by simpa using hb
    subst e
    exact I1.fpOk (Nat.le_refl _) (I1.hok.fresh (Nat.le_refl _))
noncomputable def iRng1 (ta : TA) : TI := fun σ H R => ta σ H fun vs H1 => ∃ j : Int, vs = [.int j] ∧ -(2 ^ 62) ≤ j ∧ j < 2 ^ 62 ∧ R (Itr 0 j.toNat) H1
theorem pi_range1 {a : Expr} {ta : TA} {p pos : Pos} (hg : Gl X "range") (hm : X.mg "range" = none) (ha : PA X [a] ta) (hs : starEach [a] X.env = [(false, eval a X.env)] := by rfl) : PI X tg (.Call (.Name "range" p) [a] [] pos) (iRng1 ta) := by
  intro pins s σ H R I h
  refine Call_ (ld_blt I hg hm boot_range (PyProof.Rows.callWith_type1 (thn (ha pos pins s σ H _ I h) fun us s1 ⟨vs, H1, I1, r1, q1⟩ => ?_) hs rfl))
  obtain ⟨j, e, q1, q2, q⟩ := q1
  subst e
  cases r1 with
  | cons r rr =>
    cases rr
    obtain ⟨t, rfl⟩ := r
    exact call_range_1 (range_it I1 (by omega) (by omega) q1 q2 (by simpa using q))
noncomputable def tFor (wi : TI) (g : TG) (tb : TS) : TS := fun D σ H => wi σ H fun J H1 => ∃ W : Nat → Nat → St → Hp → Prop, (∃ m, W 0 m σ H1) ∧ ∀ i m σ H, W i m σ H →
  (J.stop i H ∧ D.nx σ H) ∨ (J.go i H ∧ ∃ N : St → Hp → Prop, (∀ σ' H', N σ' H' → ∃ m', m' < m ∧ W (i + 1) m' σ' H') ∧ ∀ x H', J.yld i H x H' → g x σ H' fun σ2 H2 => tb { D with nx := N, ct := N, bk := D.nx } σ2 H2)
noncomputable def pinsAt (fp : List Addr) (h : Heap) : List (Addr × Obj) := fp.filterMap fun b => (h.get? b).map fun o => (b, o)
theorem mem_pinsAt {fp : List Addr} {h : Heap} {b : Addr} {o : Obj} (hb : b ∈ fp) (e : h.get? b = some o) : (b, o) ∈ pinsAt fp h := List.mem_filterMap.mpr ⟨b, hb, by rw [e]; rfl⟩
theorem of_pinsAt {fp : List Addr} {h : Heap} {p : Addr × Obj} (hp : p ∈ pinsAt fp h) : p.1 ∈ fp ∧ h.get? p.1 = some p.2 := by
  obtain ⟨b, hb, e⟩ := List.mem_filterMap.mp hp
  cases q : h.get? b with
  | none => rw [q] at e; cases e
  | some o =>
    rw [q] at e
    have e' : (b, o) = p := Option.some.inj e
    subst e'
    exact ⟨hb, q⟩
theorem Inv.pinned {pins : List (Addr × Obj)} {σ : St} {H : Hp} {s : Shared} {fp : List Addr} (I : Inv X pins σ H s) (hf : ∀ b ∈ fp, FpOk X pins H b) (ho : ∀ b ∈ fp, ∃ o, s.heap.get? b = some o ∧ ∀ v, o.data ≠ .cell v) : Inv X (pins ++ pinsAt fp s.heap) σ H s :=
  I.pins_of fun p hp => (List.mem_append.mp hp).elim (fun z => I.pin p (List.mem_append_right _ z)) fun z => by
    obtain ⟨hb, e⟩ := of_pinsAt z
    obtain ⟨f0, f1, f2, _⟩ := hf p.1 hb
    obtain ⟨o, e', d⟩ := ho p.1 hb
    rw [e] at e'; cases e'
    exact ⟨e, f0, f1, f2, d⟩
theorem Inv.unpinned {pins pl : List (Addr × Obj)} {σ : St} {H : Hp} {s : Shared} (I : Inv X (pins ++ pl) σ H s) : Inv X pins σ H s := I.pins_of fun p hp => I.pin p (List.mem_append_right _ (List.mem_append_left _ hp))
theorem ps_for {iter : Expr} {body : List Stmt} {wi : TI} {g : TG} {tb : TS} {pos : Pos} (hp : PassesOwn (model X.prog X.w) X.A X.env X.xe) (hc : X.calm = true) (hi : PI X tg iter wi) (hg : PG X tg g) (hb : PSs X body tb)
    (hs : ∀ x, foldedSetIterable iter X.env x = pure x := by intro _; rfl) : PS X (.For tg iter body [] pos) (tFor wi g tb) := by
  intro pins s σ H D I h
  refine wpAny_For (thn (hi pins s σ H _ I h) fun v s1 h1 => thn h1 fun itv s2 h2 => ?_) hs
  obtain ⟨it, fp, tn, J, H2, e, I2, T, st2, f2, W, ⟨m0, w0⟩, turn⟩ := h2
  subst e
  -- what stays true of the iterator's objects through the loop
  have stat : ∀ {H' : Hp}, (∀ b ∈ fp, H' b = none) → ∀ b ∈ fp, FpOk X pins H' b := fun hn b hb => ⟨hn b hb, (f2 b hb).2⟩
  refine codeAny_forLoop_any (fun n s' => ∃ i σ' H', Inv X pins σ' H' s' ∧ tn i s'.heap ∧ (∀ b ∈ fp, H' b = none) ∧ W i n σ' H') ?_ m0 ⟨0, σ, H2, I2, st2, fun b hb => (f2 b hb).1, w0⟩
  rintro n s3 ⟨i, σ3, H3, I3, st3, fr3, w3⟩
  rcases turn i n σ3 H3 w3 with ⟨stop, qn⟩ | ⟨go, N, hN, step⟩
  · refine wpAny_passesOwn hp (thn (T.done X rfl rfl rfl hc i pins s3 σ3 H3 X.xe I3 (stat fr3) st3 stop) fun r s4 ⟨hr, I4⟩ => ?_)
    subst hr
    exact wpAny_execs_nil ⟨σ3, H3, I4, qn⟩
  · refine wpAny_passesOwn hp (thn (T.item X rfl rfl rfl hc i pins s3 σ3 H3 X.xe I3 (stat fr3) st3 go) fun r s4 ⟨u, hr, h4⟩ => ?_)
    subst hr
    refine wpAny_passesOwn hp (thn h4 fun _ s5 ⟨x, H5, I5, r5, y5, st5, fr5⟩ => ?_)
    have I5' := I5.pinned (stat fr5) (T.obj _ _ st5)
    refine wpAny_passesOwn hp (thn (hg _ s5 σ3 H5 x u _ I5' r5 (step x H5 y5)) fun _ s6 ⟨σ6, H6, I6, q6⟩ => ?_)
    refine wpAny_passesOwn hp (thn (hb _ s6 σ6 H6 _ I6 q6) fun f s7 q7 => ?_)
    have again : ∀ {σ7 : St} {H7 : Hp}, Inv X (pins ++ pinsAt fp s5.heap) σ7 H7 s7 → N σ7 H7 → ∃ m, m < n ∧ ∃ i σ' H', Inv X pins σ' H' s7 ∧ tn i s7.heap ∧ (∀ b ∈ fp, H' b = none) ∧ W i m σ' H' := fun {σ7 H7} I7 n7 => by
      obtain ⟨m', hm, w7⟩ := hN σ7 H7 n7
      refine ⟨m', hm, i + 1, σ7, H7, I7.unpinned, T.keep _ _ _ st5 fun b hb o e => (I7.pin (b, o) (List.mem_append_right _ (List.mem_append_right _ (mem_pinsAt hb e)))).1, fun b hb => ?_, w7⟩
      obtain ⟨o, e, d⟩ := T.obj _ _ st5 b hb
      exact (I7.pin (b, o) (List.mem_append_right _ (List.mem_append_right _ (mem_pinsAt hb e)))).2.1
    cases f with
    | next => obtain ⟨σ7, H7, I7, n7⟩ := q7; exact again I7 n7
    | cont => obtain ⟨σ7, H7, I7, n7⟩ := q7; exact again I7 n7
    | brk => obtain ⟨σ7, H7, I7, q7⟩ := q7; exact ⟨σ7, H7, I7.unpinned, q7⟩
    | ret v => obtain ⟨x7, σ7, H7, I7, r7, q7⟩ := q7; exact ⟨x7, σ7, H7, I7.unpinned, r7, q7⟩
end
end L2
namespace L2
open PySem PySem.Spec PyProof.Rows
noncomputable abbrev R2 := V → V → Hp → VK → Prop
noncomputable def OpR (X : Cx) (f : Value → Value → Sem Value) (r : R2) : Prop :=
  ∀ (pins : List (Addr × Obj)) (s : Shared) (σ : St) (H : Hp) (x y : V) (v u : Value) (Q : VK), Inv X pins σ H s → RelV x v → RelV y u → r x y H Q →
    wpAny (model X.prog X.w) X.A (f v u) (EP X pins σ Q) X.xe s
noncomputable def UnR (X : Cx) (f : Value → Sem Value) (r : V → Hp → VK → Prop) : Prop :=
  ∀ (pins : List (Addr × Obj)) (s : Shared) (σ : St) (H : Hp) (x : V) (v : Value) (Q : VK), Inv X pins σ H s → RelV x v → r x H Q →
    wpAny (model X.prog X.w) X.A (f v) (EP X pins σ Q) X.xe s
noncomputable def CallR (X : Cx) (f : Value) (r : List V → Hp → VK → Prop) : Prop :=
  ∀ (pins : List (Addr × Obj)) (s : Shared) (σ : St) (H : Hp) (xs : List V) (us : List Value) (Q : VK), Inv X pins σ H s → Vals xs us → r xs H Q →
    wpAny (model X.prog X.w) X.A (call f us) (EP X pins σ Q) X.xe s
noncomputable def TruR (X : Cx) (r : V → Hp → (Bool → Hp → Prop) → Prop) : Prop :=
  ∀ (pins : List (Addr × Obj)) (s : Shared) (σ : St) (H : Hp) (x : V) (v : Value) (Q : Bool → Hp → Prop), Inv X pins σ H s → RelV x v → r x H Q →
    wpAny (model X.prog X.w) X.A (truthy v) (TP X pins σ Q) X.xe s
noncomputable def tOp (r : R2) (ta tb : TE) : TE := fun σ H Q => ta σ H fun x H1 => tb σ H1 fun y H2 => r x y H2 Q
noncomputable def tUn (r : V → Hp → VK → Prop) (ta : TE) : TE := fun σ H Q => ta σ H fun x H1 => r x H1 Q
noncomputable def rI (C : Int → Int → Prop) (g : Int → Int → V) : R2 := fun x y H Q => ∃ i j, x = .int i ∧ y = .int j ∧ C i j ∧ Q (g i j) H
noncomputable def rI0 (g : Int → Int → V) : R2 := fun x y H Q => ∃ i j, x = .int i ∧ y = .int j ∧ Q (g i j) H
noncomputable def rU (g : Int → V) : V → Hp → VK → Prop := fun x H Q => ∃ i, x = .int i ∧ Q (g i) H
section
variable {X : Cx} {a b c : Expr} {ta tb tc : TE} {pos : Pos}
theorem binT (ha : PE X a ta) (hb : PE X b tb) {pins : List (Addr × Obj)} {s : Shared} {σ : St} {H : Hp} {R : V → V → Hp → Prop} (I : Inv X pins σ H s)
    (h : ta σ H fun x H1 => tb σ H1 fun y H2 => R x y H2) {Q : Value → Shared → Prop} {f : Value → Value → Sem Value}
    (hf : ∀ v u s2 x y H2, Inv X pins σ H2 s2 → RelV x v → RelV y u → R x y H2 → wpAny (model X.prog X.w) X.A (f v u) Q X.xe s2) :
    wpAny (model X.prog X.w) X.A (eval a X.env) (fun v s₁ => wpAny (model X.prog X.w) X.A (eval b X.env) (fun u s₂ => wpAny (model X.prog X.w) X.A (f v u) Q X.xe s₂) X.xe s₁) X.xe s := by
  refine thn (ha pins s σ H _ I h) fun v s1 ⟨x, H1, I1, r1, q1⟩ => ?_
  refine thn (hb pins s1 σ H1 _ I1 q1) fun u s2 ⟨y, H2, I2, r2, q2⟩ => ?_
  exact hf v u s2 x y H2 I2 r1 r2 q2
theorem pe_op {op : Operator} {r : R2} (ho : OpR X (binaryOp op) r) (ha : PE X a ta) (hb : PE X b tb) : PE X (.BinOp a op b pos) (tOp r ta tb) := by
  intro pins s σ H Q I h
  exact wpAny_BinOp (binT ha hb I h fun v u s2 x y H2 I2 rx ry q => ho pins s2 σ H2 x y v u Q I2 rx ry q)
theorem pe_un {op : UnaryOp} {r : V → Hp → VK → Prop} (ho : UnR X (unaryOp op) r) (ha : PE X a ta) : PE X (.UnaryOp op a pos) (tUn r ta) := by
  intro pins s σ H Q I h
  exact UnaryOp_ (thn (ha pins s σ H _ I h) fun v s1 ⟨x, H1, I1, r1, q1⟩ => ho pins s1 σ H1 x v Q I1 r1 q1)
theorem opI {f : Value → Value → Sem Value} {C : Int → Int → Prop} {g : Int → Int → Int}
    (rule : ∀ (i j : Int) (t u : Tok) (s : Shared) (Q : Value → Shared → Prop) (E : Value → Shared → Prop), C i j → Q (.int (g i j) s.toks) { s with toks := s.toks + 1 } → wpAny (model X.prog X.w) X.A (f (.int i t) (.int j u)) Q E s) :
    OpR X f (rI C fun i j => .int (g i j)) := by
  intro pins s σ H x y v u Q I rx ry h
  obtain ⟨i, j, rfl, rfl, hc, q⟩ := h
  obtain ⟨t, rfl⟩ := rx
  obtain ⟨t', rfl⟩ := ry
  exact rule i j t t' s _ _ hc ⟨.int (g i j), H, I.tok _, ⟨_, rfl⟩, q⟩
theorem opI0 {f : Value → Value → Sem Value} {g : Int → Int → Int}
    (rule : ∀ (i j : Int) (t u : Tok) (s : Shared) (Q : Value → Shared → Prop) (E : Value → Shared → Prop), Q (.int (g i j) s.toks) { s with toks := s.toks + 1 } → wpAny (model X.prog X.w) X.A (f (.int i t) (.int j u)) Q E s) :
    OpR X f (rI0 fun i j => .int (g i j)) := by
  intro pins s σ H x y v u Q I rx ry h
  obtain ⟨i, j, rfl, rfl, q⟩ := h
  obtain ⟨t, rfl⟩ := rx
  obtain ⟨t', rfl⟩ := ry
  exact rule i j t t' s _ _ ⟨.int (g i j), H, I.tok _, ⟨_, rfl⟩, q⟩
theorem opB0 {f : Value → Value → Sem Value} {g : Int → Int → Bool}
    (rule : ∀ (i j : Int) (t u : Tok) (s : Shared) (Q : Value → Shared → Prop) (E : Value → Shared → Prop), Q (.bool (g i j)) s → wpAny (model X.prog X.w) X.A (f (.int i t) (.int j u)) Q E s) :
    OpR X f (rI0 fun i j => .bl (g i j)) := by
  intro pins s σ H x y v u Q I rx ry h
  obtain ⟨i, j, rfl, rfl, q⟩ := h
  obtain ⟨t, rfl⟩ := rx
  obtain ⟨t', rfl⟩ := ry
  exact rule i j t t' s _ _ ⟨.bl (g i j), H, I, rfl, q⟩
noncomputable def CDiv (i j : Int) : Prop := 0 < j ∧ j < 1073741824
noncomputable def CPow (i j : Int) : Prop := 0 ≤ j ∧ j ≤ 1000000 ∧ i.natAbs < 2 ^ 64
noncomputable def CMul (i j : Int) : Prop := (-(2 ^ 64) < i ∧ i < 2 ^ 64) ∨ (-(2 ^ 64) < j ∧ j < 2 ^ 64)
theorem CMul.ok {i j : Int} (h : CMul i j) : IntMulOk i j := by
  rcases h with ⟨h1, h2⟩ | ⟨h1, h2⟩
  · exact .of_left (intBits_le_64 h1 h2)
  · exact .of_right (intBits_le_64 h1 h2)
theorem op_add : OpR X (binaryOp .Add) (rI0 fun i j => .int (i + j)) := opI0 fun _ _ _ _ _ _ _ q => add_int q
theorem op_sub : OpR X (binaryOp .Sub) (rI0 fun i j => .int (i - j)) := opI0 fun _ _ _ _ _ _ _ q => sub_int q
theorem op_mul : OpR X (binaryOp .Mult) (rI CMul fun i j => .int (i * j)) := opI fun _ _ _ _ _ _ _ hc q => mul_int q hc.ok
theorem op_fdiv : OpR X (binaryOp .FloorDiv) (rI CDiv fun i j => .int (i / j)) := opI fun i j _ _ _ _ _ hc q => by
  have h1 : (0 : Int) < j := hc.1
  have h2 : j < 1073741824 := hc.2
  exact floordiv_int (by omega) (by rw [Int.fdiv_eq_ediv_of_nonneg i (by omega)]; exact q) (.inl (PyProof.noPylong_small (by omega)))
theorem op_mod : OpR X (binaryOp .Mod) (rI (fun _ j => 0 < j) fun i j => .int (i % j)) := opI fun i j _ _ _ _ _ hc q => by
  have h1 : (0 : Int) < j := hc
  exact mod_int' (by omega) (by rw [Int.fmod_eq_emod_of_nonneg i (by omega)]; exact q)
theorem op_pow : OpR X (binaryOp .Pow) (rI CPow fun i j => .int (i ^ j.toNat)) := opI fun _ _ _ _ _ _ _ hc q => pow_int_small hc.1 hc.2.1 hc.2.2 q
theorem unI {f : Value → Sem Value} {g : Int → Int}
    (rule : ∀ (i : Int) (t : Tok) (s : Shared) (Q : Value → Shared → Prop) (E : Value → Shared → Prop), Q (.int (g i) s.toks) { s with toks := s.toks + 1 } → wpAny (model X.prog X.w) X.A (f (.int i t)) Q E s) :
    UnR X f (rU fun i => .int (g i)) := by
  intro pins s σ H x v Q I rx h
  obtain ⟨i, rfl, q⟩ := h
  obtain ⟨t, rfl⟩ := rx
  exact rule i t s _ _ ⟨.int (g i), H, I.tok _, ⟨_, rfl⟩, q⟩
theorem un_neg : UnR X (unaryOp .USub) (rU fun i => .int (-i)) := unI fun _ _ _ _ _ q => neg_int q
end
noncomputable def scal : V → V → Bool
  | .non, .non => true | .non, .int _ => true | .int _, .non => true | .non, .bl _ => true | .bl _, .non => true | .non, .str _ => true | .str _, .non => true
  | .int _, .int _ => true | .bl _, .bl _ => true | .str _, .str _ => true | .byt _, .byt _ => true
  | .int _, .str _ => true | .str _, .int _ => true | .bl _, .str _ => true | .str _, .bl _ => true
  | _, _ => false
noncomputable def rEq : R2 := fun x y H Q => scal x y = true ∧ Q (.bl (decide (x = y))) H
noncomputable def rNe : R2 := fun x y H Q => scal x y = true ∧ Q (.bl (!decide (x = y))) H
theorem dec_int {i j : Int} : decide (V.int i = V.int j) = (i == j) := by
  rw [Bool.eq_iff_iff]
  simp
theorem dec_bl {i j : Bool} : decide (V.bl i = V.bl j) = (i == j) := by
  rw [Bool.eq_iff_iff]
  simp
theorem dec_str {i j : Str} : decide (V.str i = V.str j) = (i == j) := by
  rw [Bool.eq_iff_iff]
  simp
theorem dec_byt {i j : Array UInt8} : decide (V.byt i = V.byt j) = (i.toList == j.toList) := by
  rw [Bool.eq_iff_iff]
  cases i
  cases j
  simp
section
variable {X : Cx} {a b c : Expr} {ta tb tc : TE} {pos : Pos}
theorem fin_bl {pins : List (Addr × Obj)} {σ : St} {H : Hp} {s : Shared} {Q : VK} {k k' : Bool} (I : Inv X pins σ H s) (q : Q (.bl k) H) (e : k = k') : EP X pins σ Q (.bool k') s := by
  subst e
  exact ⟨.bl k, H, I, rfl, q⟩
theorem op_eq : OpR X (compareOp .Eq) rEq := by
  intro pins s σ H x y v u Q I rx ry h
  obtain ⟨hs, q⟩ := h
  cases x with
  | non =>
    cases rx
    cases y with
    | non => cases ry; exact PySem.EqNone.eq_none_none (fin_bl I q (by simp))
    | bl j => cases ry; exact PySem.EqNone.eq_none_bool (fin_bl I q (by simp))
    | int j => obtain ⟨t', rfl⟩ := ry; exact PySem.EqNone.eq_none_int (fin_bl I q (by simp))
    | str j => obtain ⟨t', rfl⟩ := ry; exact PySem.EqNone.eq_none_str (fin_bl I q (by simp))
    | _ => exact absurd (show false = true from hs) Bool.false_ne_true
  | bl i =>
    cases rx
    cases y with
    | non => cases ry; exact PySem.EqNone.eq_bool_none (fin_bl I q (by simp))
    | bl j => cases ry; exact eq_bool (fin_bl I q dec_bl)
    | str j => obtain ⟨t', rfl⟩ := ry; exact PySem.EqMixed.eq_bool_str (fin_bl I q (by simp))
    | _ => exact absurd (show false = true from hs) Bool.false_ne_true
  | int i =>
    obtain ⟨t, rfl⟩ := rx
    cases y with
    | non => cases ry; exact PySem.EqNone.eq_int_none (fin_bl I q (by simp))
    | int j => obtain ⟨t', rfl⟩ := ry; exact eq_int (fin_bl I q dec_int)
    | str j => obtain ⟨t', rfl⟩ := ry; exact PySem.EqMixed.eq_int_str (fin_bl I q (by simp))
    | _ => exact absurd (show false = true from hs) Bool.false_ne_true
  | str i =>
    obtain ⟨t, rfl⟩ := rx
    cases y with
    | non => cases ry; exact PySem.EqNone.eq_str_none (fin_bl I q (by simp))
    | bl j => cases ry; exact PySem.EqMixed.eq_str_bool (fin_bl I q (by simp))
    | int j => obtain ⟨t', rfl⟩ := ry; exact PySem.EqMixed.eq_str_int (fin_bl I q (by simp))
    | str j => obtain ⟨t', rfl⟩ := ry; exact eq_str (fin_bl I q dec_str)
    | _ => exact absurd (show false = true from hs) Bool.false_ne_true
  | byt i =>
    obtain ⟨t, rfl⟩ := rx
    cases y with
    | byt j => obtain ⟨t', rfl⟩ := ry; exact PySem.W.eq_bytes (fin_bl I q dec_byt)
    | _ => exact absurd (show false = true from hs) Bool.false_ne_true
  | _ => cases y <;> exact absurd (show false = true from hs) Bool.false_ne_true
theorem op_ne : OpR X (compareOp .NotEq) rNe := by
  intro pins s σ H x y v u Q I rx ry h
  obtain ⟨hs, q⟩ := h
  cases x with
  | non =>
    cases rx
    cases y with
    | non => cases ry; exact PySem.EqNone.ne_none_none (fin_bl I q (by simp))
    | bl j => cases ry; exact PySem.EqNone.ne_none_bool (fin_bl I q (by simp))
    | int j => obtain ⟨t', rfl⟩ := ry; exact PySem.EqNone.ne_none_int (fin_bl I q (by simp))
    | str j => obtain ⟨t', rfl⟩ := ry; exact PySem.EqNone.ne_none_str (fin_bl I q (by simp))
    | _ => exact absurd (show false = true from hs) Bool.false_ne_true
  | bl i =>
    cases rx
    cases y with
    | non => cases ry; exact PySem.EqNone.ne_bool_none (fin_bl I q (by simp))
    | bl j => cases ry; exact ne_bool (fin_bl I q (congrArg not dec_bl))
    | str j => obtain ⟨t', rfl⟩ := ry; exact PySem.EqMixed.ne_bool_str (fin_bl I q (by simp))
    | _ => exact absurd (show false = true from hs) Bool.false_ne_true
  | int i =>
    obtain ⟨t, rfl⟩ := rx
    cases y with
    | non => cases ry; exact PySem.EqNone.ne_int_none (fin_bl I q (by simp))
    | int j => obtain ⟨t', rfl⟩ := ry; exact ne_int (fin_bl I q (congrArg not dec_int))
    | str j => obtain ⟨t', rfl⟩ := ry; exact PySem.EqMixed.ne_int_str (fin_bl I q (by simp))
    | _ => exact absurd (show false = true from hs) Bool.false_ne_true
  | str i =>
    obtain ⟨t, rfl⟩ := rx
    cases y with
    | non => cases ry; exact PySem.EqNone.ne_str_none (fin_bl I q (by simp))
    | bl j => cases ry; exact PySem.EqMixed.ne_str_bool (fin_bl I q (by simp))
    | int j => obtain ⟨t', rfl⟩ := ry; exact PySem.EqMixed.ne_str_int (fin_bl I q (by simp))
    | str j => obtain ⟨t', rfl⟩ := ry; exact ne_str (fin_bl I q (congrArg not dec_str))
    | _ => exact absurd (show false = true from hs) Bool.false_ne_true
  | byt i =>
    obtain ⟨t, rfl⟩ := rx
    cases y with
    | byt j => obtain ⟨t', rfl⟩ := ry; exact PySem.W.ne_bytes (fin_bl I q (congrArg not dec_byt))
    | _ => exact absurd (show false = true from hs) Bool.false_ne_true
  | _ => cases y <;> exact absurd (show false = true from hs) Bool.false_ne_true
theorem op_lt : OpR X (compareOp .Lt) (rI0 fun i j => .bl (decide (i < j))) := opB0 fun _ _ _ _ _ _ _ q => lt_int q
theorem op_le : OpR X (compareOp .LtE) (rI0 fun i j => .bl (decide (i ≤ j))) := opB0 fun _ _ _ _ _ _ _ q => le_int q
theorem op_gt : OpR X (compareOp .Gt) (rI0 fun i j => .bl (decide (j < i))) := opB0 fun _ _ _ _ _ _ _ q => gt_int q
theorem op_ge : OpR X (compareOp .GtE) (rI0 fun i j => .bl (decide (j ≤ i))) := opB0 fun _ _ _ _ _ _ _ q => ge_int q
theorem nomark (b : Expr) {op : CmpOp} (h : op ≠ .In := by decide) (h2 : op ≠ .NotIn := by decide) : behindInMarks op b = false := by
  have e1 : (op == CmpOp.In) = false := by cases op <;> first | rfl | exact absurd rfl h
  have e2 : (op == CmpOp.NotIn) = false := by cases op <;> first | rfl | exact absurd rfl h2
  cases b <;> simp [behindInMarks, e1, e2]
theorem pe_cmpR {op : CmpOp} {r : R2} (ho : OpR X (compareOp op) r) (ha : PE X a ta) (hb : PE X b tb) (hm : behindInMarks op b = false) : PE X (.Compare a [op] [b] pos) (tOp r ta tb) := by
  intro pins s σ H Q I h
  exact wpAny_Compare1 (binT ha hb I h fun v u s2 x y H2 I2 rx ry q => ho pins s2 σ H2 x y v u Q I2 rx ry q) hm
noncomputable def tTest (t : TE) : TT := fun σ H Q => t σ H fun x H' => ∃ k, x = .bl k ∧ Q k H'
theorem pt_cmpR {op : CmpOp} {r : R2} (ho : OpR X (compareOp op) r) (ha : PE X a ta) (hb : PE X b tb) (hm : behindInMarks op b = false) : PT X (.Compare a [op] [b] pos) (tTest (tOp r ta tb)) := by
  intro pins s σ H Q I h
  refine wpAny_isTrue_Compare1 (thn (ha pins s σ H _ I h) fun v s1 ⟨x, H1, I1, r1, q1⟩ => thn (hb pins s1 σ H1 _ I1 q1) fun u s2 ⟨y, H2, I2, r2, q2⟩ =>
    thn (ho pins s2 σ H2 x y v u _ I2 r1 r2 q2) fun c s3 ⟨z, H3, I3, r3, k, e, q3⟩ => ?_) hm
  subst e
  cases r3
  exact wpAny_truthy_bool ⟨H3, I3, q3⟩
noncomputable def tChain (r r' : R2) (ta tb tc : TE) : TE := fun σ H Q => ta σ H fun x H1 => tb σ H1 fun y H2 => r x y H2 fun z H3 => ∃ k, z = .bl k ∧
  (if k = true then tc σ H3 fun w' H4 => r' y w' H4 Q else Q (.bl false) H3)
theorem pt_chain {op op' : CmpOp} {r r' : R2} (ho : OpR X (compareOp op) r) (ho' : OpR X (compareOp op') r') (ha : PE X a ta) (hb : PE X b tb) (hc : PE X c tc)
    (hm : lastMarks [op, op'] [b, c] = false := by with_unfolding_all rfl) : PT X (.Compare a [op, op'] [b, c] pos) (tTest (tChain r r' ta tb tc)) := by
  intro pins s σ H Q I h
  refine isTrue_chain (thn (ha pins s σ H _ I h) fun v s1 ⟨x, H1, I1, r1, q1⟩ => test_link (thn (hb pins s1 σ H1 _ I1 q1) fun u s2 ⟨y, H2, I2, r2, q2⟩ =>
    thn (ho pins s2 σ H2 x y v u _ I2 r1 r2 q2) fun d s3 ⟨z, H3, I3, r3, k, e, q3⟩ => ?_)) hm
  subst e
  cases r3
  refine wpAny_truthy_bool ?_
  cases k with
  | false =>
    obtain ⟨k', e', q'⟩ := q3
    cases e'
    exact ite_ff ⟨H3, I3, q'⟩
  | true =>
    refine ite_tt (test_last (thn (hc pins s3 σ H3 _ I3 q3) fun w' s4 ⟨z', H4, I4, r4, q4⟩ => thn (ho' pins s4 σ H4 y z' u w' _ I4 r2 r4 q4) fun d' s5 ⟨z2, H5, I5, r5, k2, e2, q5⟩ => ?_))
    subst e2
    cases r5
    exact wpAny_truthy_bool ⟨H5, I5, q5⟩
noncomputable def TruV (K : PySem.W.Frag) (x : V) (H : Hp) (k : Bool) : Prop :=
  match x with
  | .non => k = false
  | .bl b => k = b
  | .int i => k = (i != 0)
  | .str y => y.length ≤ sizeLine ∧ k = ((y.length : Int) != 0)
  | .byt y => y.size ≤ sizeLine ∧ k = ((y.size : Int) != 0)
  | .ref p => (∃ xs, SqL K H p xs ∧ k = !xs.isEmpty) ∨ (∃ xs, SqT K H p xs ∧ k = !xs.isEmpty) ∨ ∃ kvs, H p = some (.dK kvs) ∧ k = !kvs.isEmpty
  | _ => False
theorem isEmpty_kv {κ : Type} {kvs : List (κ × V)} {vs : List (κ × Value)} (r : KV kvs vs) : (!vs.isEmpty) = !kvs.isEmpty := by
  cases r <;> rfl
theorem isEmpty_of {xs : List V} {its : List Value} (r : Vals xs its) : (!its.toArray.isEmpty) = !xs.isEmpty := by
  cases r <;> simp
theorem line63 : (sizeLine : Nat) < 2 ^ 63 := by rw [sizeLine_eq]; decide
theorem tru_ok : TruR X (fun x H Q => ∃ k, TruV X.K x H k ∧ Q k H) := by
  intro pins s σ H x v Q I rx h
  obtain ⟨k, e, q⟩ := h
  have hl := line63
  have hs : sizeLine = 16777216 := sizeLine_eq
  cases x with
  | non =>
    cases rx
    have e' : k = false := e
    subst e'
    exact truthy_none ⟨H, I, q⟩
  | bl b =>
    cases rx
    have e' : k = b := e
    subst e'
    exact wpAny_truthy_bool ⟨H, I, q⟩
  | int i =>
    obtain ⟨t, rfl⟩ := rx
    have e' : k = (i != 0) := e
    subst e'
    exact PySem.P.truthy_int ⟨H, I, q⟩
  | str y =>
    obtain ⟨t, rfl⟩ := rx
    obtain ⟨hy, e'⟩ : y.length ≤ sizeLine ∧ k = ((y.length : Int) != 0) := e
    subst e'
    exact PySem.P.truthy_str (by omega) ⟨H, I.tok _, q⟩
  | byt y =>
    obtain ⟨t, rfl⟩ := rx
    obtain ⟨hy, e'⟩ : y.size ≤ sizeLine ∧ k = ((y.size : Int) != 0) := e
    subst e'
    exact PySem.W.truthy_bytes (by omega) ⟨H, I.tok _, q⟩
  | ref p =>
    cases rx
    have e' : (∃ xs, SqL X.K H p xs ∧ k = !xs.isEmpty) ∨ (∃ xs, SqT X.K H p xs ∧ k = !xs.isEmpty) ∨ ∃ kvs, H p = some (.dK kvs) ∧ k = !kvs.isEmpty := e
    rcases e' with ⟨xs, hx, e'⟩ | ⟨xs, hx, e'⟩ | ⟨kvs, hx, e'⟩
    · subst e'
      obtain ⟨its, r, pl, hz⟩ := I.list hx
      have hlen := r.length
      exact wpAny_truthy_list pl.isList (by simp only [List.size_toArray]; omega) ⟨H, I.tok _, by rw [isEmpty_of r]; exact q⟩
    · subst e'
      obtain ⟨its, r, pl, hz⟩ := I.tuple hx
      have hlen := r.length
      exact truthy_tuple pl (by simp only [List.size_toArray]; omega) ⟨H, I.tok _, by rw [isEmpty_of r]; exact q⟩
    · subst e'
      obtain ⟨hz, hS, vs, r, m⟩ : kvs.length ≤ sizeLine ∧ (p == sysModules) = false ∧ ∃ vs, KV kvs vs ∧ s.heap.DictOf (mixKind X.prog X.w) p vs := I.hok p _ hx
      have hlen : kvs.length = vs.length := Paired.length r
      exact wpAny_truthy_dict hS m (by omega) ⟨H, I.tok _, by rw [isEmpty_kv r]; exact q⟩
  | _ => exact (show False from e).elim
theorem pt_truth (ha : PE X a ta) (he : ∀ whole, isTrue a X.env whole = (do let v ← whole; standAt a.pos; holding [v] (truthy v))) :
    PT X a (fun σ H Q => ta σ H fun x H' => ∃ k, TruV X.K x H' k ∧ Q k H') := by
  intro pins s σ H Q I h
  exact isTrue_plain (thn (ha pins s σ H _ I h) fun v s1 ⟨x, H1, I1, r1, q1⟩ => tru_ok pins s1 σ H1 x v Q I1 r1 q1) (he _)
theorem op_add_str : OpR X (binaryOp .Add) (fun x y H Q => ∃ i j, x = .str i ∧ y = .str j ∧ i.length + j.length ≤ sizeLine ∧ Q (.str (i ++ j)) H) := by
  intro pins s σ H x y v u Q I rx ry h
  obtain ⟨i, j, rfl, rfl, hz, q⟩ := h
  obtain ⟨t, rfl⟩ := rx
  obtain ⟨t', rfl⟩ := ry
  exact add_str (fun t' tk => ⟨.str (i ++ j), H, I.tok _, ⟨_, rfl⟩, q⟩) hz
theorem vals1 {x : V} {us : List Value} (r : Vals [x] us) : ∃ u, us = [u] ∧ RelV x u := by
  cases r with
  | cons r1 r2 => cases r2; exact ⟨_, rfl, r1⟩
theorem vals2 {x y : V} {us : List Value} (r : Vals [x, y] us) : ∃ u w', us = [u, w'] ∧ RelV x u ∧ RelV y w' := by
  cases r with
  | cons r1 r2 =>
    cases r2 with
    | cons r3 r4 => cases r4; exact ⟨_, _, rfl, r1, r3⟩
theorem call_abs : CallR X (.builtin "abs") (fun xs H Q => ∃ i, xs = [.int i] ∧ Q (.int (if i < 0 then -i else i)) H) := by
  intro pins s σ H xs us Q I r h
  obtain ⟨i, rfl, q⟩ := h
  obtain ⟨u, rfl, t, rfl⟩ := vals1 r
  exact call_abs_int fun u tk => ⟨.int (if i < 0 then -i else i), H, I.tok _, ⟨_, rfl⟩, q⟩
theorem call_int1 : CallR X (.type "int") (fun xs H Q => (∃ i, xs = [.int i] ∧ Q (.int i) H) ∨ ∃ k, xs = [.bl k] ∧ Q (.int (if k then 1 else 0)) H) := by
  intro pins s σ H xs us Q I r h
  rcases h with ⟨i, rfl, q⟩ | ⟨k, rfl, q⟩
  · obtain ⟨u, rfl, t, rfl⟩ := vals1 r
    exact call_int_int ⟨.int i, H, I, ⟨_, rfl⟩, q⟩
  · obtain ⟨u, rfl, r1⟩ := vals1 r
    cases r1
    exact call_int_bool ⟨.int (if k then 1 else 0), H, I.tok _, ⟨_, rfl⟩, q⟩
end
end L2
namespace L2
open PySem PySem.Spec PyProof.Rows
theorem lookIn_ns {h : Heap} {dx : Addr} {mA : Str → Option Value} (n : h.Ns1 dx mA) : ∃ od, h.get? dx = some od ∧ ∀ name, PySem.W.lookIn name od = some (mA name) := by
  obtain ⟨o, es, ep, ho, hd, hk, _, hm⟩ := n
  refine ⟨o, ho, fun name => ?_⟩
  have e := hm name
  unfold nsFind findBy at e
  rw [← Array.find?_toList] at e
  unfold PySem.W.lookIn
  rw [hd]
  dsimp only
  split
  · rename_i y q
    rw [q] at e
    exact congrArg some e
  · rename_i q
    rw [q] at e
    have a : es.toList.any (·.refKey) = false := by
      rw [List.any_eq_false]
      intro y hy
      obtain ⟨z, t, hkey⟩ := hk y (Array.mem_toList_iff.mp hy)
      simp [DictEntry.refKey, hkey]
    have a' : ¬ es.toList.any (·.refKey) = true := by rw [a]; exact Bool.false_ne_true
    rw [if_neg a']
    exact congrArg some e
section
variable {prog : Program} {w : World} {A : Around} {E : Value → Shared → Prop} {s : Shared} {K : PySem.W.Frag} {x dx C f : Addr} {mA : Str → Option Value} {name : Str} {v : Value}
end
section
variable {P : Program} {w : World} {H H' : Hp} {h h' : Heap} {a C dx : Addr} {fs fs' : List (Str × V)}
end
section
variable {X : Cx} {pins : List (Addr × Obj)} {σ : St} {H : Hp} {s : Shared} {a C dx : Addr} {fs : List (Str × V)} {f : Str} {v : V} {A : Around} {E : Value → Shared → Prop}
theorem attr_of {prog : Program} {w : World} {env : Env} {e : Expr} {f : Str} {pos : Pos} {s : Shared} {Q : Value → Shared → Prop} (hb : attributeBase e f env (eval e env) = eval e env)
    (h : wpAny (model prog w) A (eval e env) (fun o s₁ => wpAny (model prog w) A (getAttr o f true) Q E s₁) E s) : wpAny (model prog w) A (eval (.Attribute e f pos) env) Q E s :=
  Attribute_any_ h (by rw [arm_eval_Attribute, hb])
end
section
variable {X : Cx} {o e value : Expr} {f : Str} {pos pos' tpos : Pos} {ta tv : TE}
end
section
variable {X : Cx} {pins : List (Addr × Obj)} {σ : St} {H : Hp} {s : Shared} {A : Around} {E : Value → Shared → Prop} {Q : Value → Shared → Prop} {c : Value} {b : Bool}
end
end L2
namespace L2
open PySem PySem.Spec PyProof.Rows
structure Room (k : Nat) (A : Around) : Prop where
  hd : A.handled = none
  dp : A.depth + 3 * k + 5 < recursionLimit
  un : A.units + 16 * k + 200 < cLine
  gd : A.guards = some []
theorem Room.mono {j k : Nat} {A : Around} (r : Room k A) (h : j ≤ k) : Room j A := ⟨r.hd, by have := r.dp; omega, by have := r.un; omega, r.gd⟩
theorem Room.deeper {k : Nat} {A : Around} (r : Room (k + 1) A) (env : Env) : Room k (A.deeper env) :=
  ⟨r.hd, by have := r.dp; show A.depth + 1 + 3 * k + 5 < _; omega, by have := r.un; show A.units + 3 + 16 * k + 200 < _; omega, r.gd⟩
theorem make_depth {A : Around} {C : Addr} {us : List Value} {kw : List (Str × Value)} : (A.under (.builtin "type.__call__" ⟨.ref C :: us, kw⟩)).depth = A.depth + 1 := by
  first | rfl | simp [Around.under, Code.weight, Code.isCreation, Code.isGuard, Code.isCaller, Code.frames, Code.isFrame, guardIds]
theorem make_units {A : Around} {C : Addr} {us : List Value} {kw : List (Str × Value)} : (A.under (.builtin "type.__call__" ⟨.ref C :: us, kw⟩)).units = A.units + 1 := by
  first | rfl | simp [Around.under, Code.cUnits, Code.frames, Code.isFrame]
theorem make_guards {A : Around} {C : Addr} {us : List Value} {kw : List (Str × Value)} (h : A.guards = some []) : (A.under (.builtin "type.__call__" ⟨.ref C :: us, kw⟩)).guards = some [] := by
  first | exact h | simp [Around.under, Code.guards, Code.isGuard, guardIds, h]
theorem Room.make {k : Nat} {A : Around} (r : Room (k + 1) A) (C : Addr) (us : List Value) (kw : List (Str × Value)) : Room k (A.under (.builtin "type.__call__" ⟨.ref C :: us, kw⟩)) :=
  ⟨r.hd, by have := r.dp; rw [make_depth]; omega, by have := r.un; rw [make_units]; omega, make_guards r.gd⟩
theorem Room.depth {k : Nat} {A : Around} (r : Room k A) : A.depth < recursionLimit := by have := r.dp; omega
theorem Room.units {k : Nat} {A : Around} (r : Room k A) : A.units + 64 < cLine := by have := r.un; omega
noncomputable def tNil : TA := fun _ H Q => Q [] H
noncomputable def tCons (ta : TE) (tr : TA) : TA := fun σ H Q => ta σ H fun x H1 => tr σ H1 fun xs H2 => Q (x :: xs) H2
section
variable {X : Cx} {e : Expr} {es : List Expr} {te : TE} {t : TA} {pos : Pos}
theorem pa_nil : PA X [] tNil := fun _ _ _ _ H Q I h => Calls.spliced_nil ⟨[], H, I, .nil, h⟩
theorem pa_cons (ha : PE X e te) (hr : PA X es t) (hs : starEach (e :: es) X.env = (false, eval e X.env) :: starEach es X.env := by rfl) : PA X (e :: es) (tCons te t) := by
  intro pos pins s σ H Q I h
  rw [hs]
  show wpAny _ _ (spliced ((false, eval e X.env) :: backTo pos (starEach es X.env))) _ _ s
  refine Calls.spliced_cons (thn (ha pins s σ H _ I h) fun u s1 ⟨x, H1, I1, r1, q1⟩ => ?_)
  exact thn (hr pos pins s1 σ H1 _ I1 q1) fun us s2 ⟨xs, H2, I2, r2, q2⟩ => ⟨x :: xs, H2, I2, .cons r1 r2, q2⟩
noncomputable def tTup (t : TA) : TE := fun σ H Q => t σ H fun xs H1 => xs.length ≤ sizeLine ∧ ∀ p, H1 p = none → Q (.ref p) (upd H1 p (.tup xs))
noncomputable def tLst (t : TA) : TE := fun σ H Q => t σ H fun xs H1 => xs.length ≤ sizeLine ∧ ∀ p, H1 p = none → Q (.ref p) (upd H1 p (.lst xs))
theorem pe_tup {x1} (h : PA X es t) : PE X (.Tuple es x1 pos) (tTup t) := by
  intro pins s σ H Q I hq
  refine wpAny_Tuple_spliced (thn (h pos pins s σ H _ I hq) fun us s1 ⟨xs, H1, I1, r, z, q⟩ => ⟨by rw [← r.length]; exact z, ?_⟩)
  have hf : H1 s1.heap.objs.size = none := I1.hok.fresh (Nat.le_refl _)
  refine ⟨.ref s1.heap.objs.size, upd H1 s1.heap.objs.size (.tup xs), I1.laid (t' := s1.toks) (fun b u e => Heap.get?_push_of_some _ e) (Nat.le_refl _) ?_, rfl, q _ hf⟩
  exact ⟨z, us, r, ⟨_, Heap.get?_push_size _ rfl, rfl, _, rfl⟩, .mk (Heap.get?_push_size _ rfl) rfl⟩
theorem pe_lst (h : PA X es t) : PE X (.List es pos) (tLst t) := by
  intro pins s σ H Q I hq
  refine wpAny_List_spliced (thn (h pos pins s σ H _ I hq) fun us s1 ⟨xs, H1, I1, r, z, q⟩ => ⟨by rw [← r.length]; exact z, ?_⟩)
  have hf : H1 s1.heap.objs.size = none := I1.hok.fresh (Nat.le_refl _)
  refine ⟨.ref s1.heap.objs.size, upd H1 s1.heap.objs.size (.lst xs), I1.laid (t' := s1.toks) (fun b u e => Heap.get?_push_of_some _ e) (Nat.le_refl _) ?_, rfl, q _ hf⟩
  exact ⟨z, us, 0, r, Heap.get?_push_size _ rfl⟩
end
noncomputable abbrev Sp := List V → Hp → VK → XK → Prop
noncomputable abbrev CXT := List Env → Hp → Shared → XK → Value → Shared → Prop
structure Env0 (P : Program) (w : World) (K : PySem.W.Frag) (mg : Str → Option Value) (base : Heap) (A : Around) (outer : List Env) (s : Shared) (H : Hp) : Prop where
  frames : A.frames = some outer
  mod : Mod K mg base
  bs : ∀ b o, base.get? b = some o → s.heap.get? b = some o ∧ H b = none
  bsz : base.objs.size ≤ s.heap.objs.size
  funs : s.heap.FunFrames base outer
  frf : ∀ b ∈ frs outer, H b = none
  hok : HOk P w H s.heap
  bare : AllBare s.gens
noncomputable def CE (outer : List Env) (P : Program) (w : World) (H : Hp) (s : Shared) (Q : VK) (u : Value) (s' : Shared) : Prop :=
  ∃ v H', s'.os = s.os ∧ AllBare s'.gens ∧ Un (frs outer) [] H H' s.heap s'.heap ∧ HOk P w H' s'.heap ∧ RelV v u ∧ Q v H'
noncomputable def CR (CX : CXT) (outer : List Env) (P : Program) (w : World) (H : Hp) (s : Shared) (Q : VK) (E : XK) (r : Result) (s' : Shared) : Prop :=
  match r with
  | .ok (.ret u) => CE outer P w H s Q u s'
  | .ok _ => False
  | .error e => CX outer H s E e s'
structure FnOk (P : Program) (w : World) (K : PySem.W.Frag) (mg : Str → Option Value) (base : Heap) (CX : CXT) (k : Nat) (f : Addr) (fd : FuncData) (ps : List Str) (sp : Sp) : Prop where
  len : ∀ vs H Q E, sp vs H Q E → vs.length = ps.length
  run : ∀ (A : Around) (outer : List Env) (s : Shared) (H : Hp) (args : Args) (us : List Value) (vs : List V) (Q : VK) (E : XK), Room k A → Env0 P w K mg base A outer s H → BindsTo s fd args (ps.zip us) → Vals vs us → sp vs H Q E →
    codeAny (model P w) A (.call (.ref f) args) (CR CX outer P w H s Q E) s
section
variable {X : Cx} {pins : List (Addr × Obj)} {σ : St} {H : Hp} {s s' : Shared}
theorem Inv.env0 (I : Inv X pins σ H s) : Env0 X.prog X.w X.K X.mg X.base X.A X.stack s H :=
  ⟨I.ok.frames, I.ok.mod, I.bs, Nat.le_trans I.ok.bsz I.sz, I.stack, I.stkFree, I.hok, I.bare⟩
theorem Inv.after {Q : VK} {u : Value} (I : Inv X pins σ H s) (h : CE X.stack X.prog X.w H s Q u s') : EP X pins σ Q u s' := by
  obtain ⟨v, H', os, bare, un, hok, r, q⟩ := h
  obtain ⟨hh, g, d, t, os'⟩ := s'
  obtain rfl : os' = s.os := os
  exact ⟨v, H', I.call (h' := hh) (g' := g) (d' := d) (t' := t) (ch := []) un hok bare (fun b z => absurd z (by simp)), r, q⟩
end
noncomputable def tCall (sp : Sp) (dvs : List V) (E : XK) (t : TA) : TE := fun σ H Q => t σ H fun vs H1 => sp (vs ++ dvs) H1 Q E
noncomputable def Binds (K : PySem.W.Frag) (fd : FuncData) (ps : List Str) (ds : List Value) : Prop :=
  ∀ (s : Shared) (us : List Value), K.In s.heap → (us ++ ds).length = ps.length → BindsTo s fd ⟨us, []⟩ (ps.zip (us ++ ds))
theorem Binds.all {K : PySem.W.Frag} {fd : FuncData} {ps : List Str} (h : ∀ us : List Value, us.length = ps.length → bindArgs fd ⟨us, []⟩ = pure (ps.zip us)) : Binds K fd ps [] := fun s us _ hl => by
  rw [List.append_nil] at hl ⊢
  exact .of_eq (h us hl)
noncomputable def Passes (CX : CXT) (X : Cx) (E : XK) : Prop := ∀ (pins : List (Addr × Obj)) (σ : St) (H : Hp) (s : Shared) (e : Value) (s' : Shared), Inv X pins σ H s → CX X.stack H s E e s' → X.xe e s'
section
variable {X : Cx} {CX : CXT} {k : Nat} {f C : Addr} {fd : FuncData} {ps : List Str} {sp : Sp} {dvs : List V} {ds : List Value} {E : XK} {x m : Str} {p pos apos : Pos} {e o : Expr} {es : List Expr} {ta : TE} {t : TA}
theorem run_fn {pins : List (Addr × Obj)} {σ : St} {H : Hp} {s : Shared} {Q : VK} {us : List Value} {vs : List V} (F : FnOk X.prog X.w X.K X.mg X.base CX k f fd ps sp) (hr : Room k X.A) (hb : Binds X.K fd ps ds) (hd : Vals dvs ds) (hx : Passes CX X E)
    (I : Inv X pins σ H s) (r : Vals vs us) (h : sp (vs ++ dvs) H Q E) : wpAny (model X.prog X.w) X.A (call (.ref f) us) (EP X pins σ Q) X.xe s := by
  have r2 : Vals (vs ++ dvs) (us ++ ds) := r.append hd
  have hl : (us ++ ds).length = ps.length := by rw [← r2.length]; exact F.len _ _ _ _ h
  refine wpAny_call (codeAny_mono (F.run X.A X.stack s H ⟨us, []⟩ (us ++ ds) (vs ++ dvs) Q E hr I.env0 (hb s us I.kIn hl) r2 h) fun r s' hq => ?_)
  cases r with
  | error e => exact hx pins σ H s e s' I hq
  | ok fl =>
    cases fl with
    | ret u => exact I.after hq
    | next => exact False.elim hq
    | brk => exact False.elim hq
    | cont => exact False.elim hq
theorem pe_call (F : FnOk X.prog X.w X.K X.mg X.base CX k f fd ps sp) (hr : Room k X.A) (hg : Gl X x) (hm : X.mg x = some (.ref f)) (hk : PySem.W.keepIn X.K (.ref f) = true) (hb : Binds X.K fd ps ds) (hd : Vals dvs ds) (hx : Passes CX X E)
    (ha : PA X (e :: es) t) (hdb : (x == ("__debug__" : Str)) = false := by decide) (he : starEach (e :: es) X.env = (false, eval e X.env) :: starEach es X.env := by rfl) (hpl : (backTo pos (starEach es X.env)).any (·.1) = false := by rfl) :
    PE X (.Call (.Name x p) (e :: es) [] pos) (tCall sp dvs E t) := by
  intro pins s σ H Q I h
  refine wpAny_Call_Name_kw (ld_glob I hg hm ?_ hdb)
  refine PySem.W.callWith_K (h₀ := X.base) I.ok.mod.kin hk (thn (ha pos pins s σ H _ I h) fun us s1 ⟨vs, H1, I1, r, q⟩ => ⟨I1.kIn, ?_⟩) he hpl
  exact run_fn F hr hb hd hx I1 r q
end
section
variable {X : Cx} {CX : CXT} {k : Nat} {f C : Addr} {fd : FuncData} {ps ks : List Str} {sp : Sp} {E : XK} {x m : Str} {p pos apos kpos : Pos} {e o : Expr} {es : List Expr} {kws : List Keyword} {te ta : TE} {t tk : TA} {nm : Option Str}
variable {g : List Value → List Value → List Value} {gV : List V → List V → List V}
end
structure FnScope (N P : List Str) (sc : Scope) : Prop where
  kind : sc.kind = .function
  co : sc.isCoroutine = false
  gen : sc.isGenerator = false
  nd : N.Nodup
  pre : N.take P.length = P
  par : ∀ x ∈ P, sc.names.lookup x = some .local ∨ sc.names.lookup x = some .cell
  nofree : ∀ y ∈ sc.names, y.2 ≠ .free
theorem bindL_out {kindOf : Str → Option NameKind} {x : Str} : ∀ {binds : List (Str × Value)} {m : Str → Option Value}, (∀ v, (x, v) ∉ binds) → bindL kindOf binds m x = m x
  | [], _, _ => rfl
  | (n, v) :: r, m, h => by
    unfold bindL
    rw [bindL_out fun w hw => h w (List.mem_cons_of_mem _ hw)]
    split
    · have : x ≠ n := by rintro rfl; exact h v List.mem_cons_self
      simp [this]
    · rfl
theorem bindC_out {kindOf : Str → Option NameKind} {x : Str} : ∀ {binds : List (Str × Value)} {m : Str → Option Value}, (∀ v, (x, v) ∉ binds) → bindC kindOf binds m x = m x
  | [], _, _ => rfl
  | (n, v) :: r, m, h => by
    unfold bindC
    rw [bindC_out fun w hw => h w (List.mem_cons_of_mem _ hw)]
    split
    · rfl
    · have : x ≠ n := by rintro rfl; exact h v List.mem_cons_self
      simp [this]
theorem bindL_get {kindOf : Str → Option NameKind} {x : Str} {v : Value} : ∀ {P : List Str} {vs : List Value} {i : Nat} {m : Str → Option Value}, P.Nodup → P[i]? = some x → vs[i]? = some v → kindOf x = some .local →
    bindL kindOf (P.zip vs) m x = some v
  | [], _, _, _, _, h, _, _ => by simp at h
  | _ :: _, [], _, _, _, _, h, _ => by simp at h
  | p :: P, w :: vs, 0, m, nd, h1, h2, hk => by
    simp at h1 h2; subst h1; subst h2
    show bindL kindOf ((p, w) :: P.zip vs) m p = _
    unfold bindL
    rw [bindL_out fun v hv => (List.nodup_cons.mp nd).1 (List.of_mem_zip hv).1, if_pos hk]
    simp
  | p :: P, w :: vs, i + 1, m, nd, h1, h2, hk => by
    show bindL kindOf ((p, w) :: P.zip vs) m x = _
    unfold bindL
    exact bindL_get (i := i) (List.nodup_cons.mp nd).2 (by simpa using h1) (by simpa using h2) hk
theorem bindC_get {kindOf : Str → Option NameKind} {x : Str} {v : Value} : ∀ {P : List Str} {vs : List Value} {i : Nat} {m : Str → Option Value}, P.Nodup → P[i]? = some x → vs[i]? = some v → kindOf x ≠ some .local →
    bindC kindOf (P.zip vs) m x = some v
  | [], _, _, _, _, h, _, _ => by simp at h
  | _ :: _, [], _, _, _, _, h, _ => by simp at h
  | p :: P, w :: vs, 0, m, nd, h1, h2, hk => by
    simp at h1 h2; subst h1; subst h2
    show bindC kindOf ((p, w) :: P.zip vs) m p = _
    unfold bindC
    rw [bindC_out fun v hv => (List.nodup_cons.mp nd).1 (List.of_mem_zip hv).1, if_neg hk]
    simp
  | p :: P, w :: vs, i + 1, m, nd, h1, h2, hk => by
    show bindC kindOf ((p, w) :: P.zip vs) m x = _
    unfold bindC
    exact bindC_get (i := i) (List.nodup_cons.mp nd).2 (by simpa using h1) (by simpa using h2) hk
noncomputable def start (N : List Str) (vs : List V) : St := vs.map some ++ List.replicate (N.length - vs.length) none
noncomputable def cxOf (CX : CXT) (P : Program) (w : World) (K : PySem.W.Frag) (mg : Str → Option Value) (base : Heap) (N : List Str) (qual : Str) (scope : Scope) (f : Addr) (cd : Value) (A : Around) (outer : List Env) (s : Shared) (H : Hp) (E : XK) : Cx where
  prog := P
  w := w
  K := K
  mg := mg
  base := base
  A := A.deeper (envOfC qual scope s.heap.objs.size f cd)
  N := N
  s₀ := s
  H₀ := H
  env := envOfC qual scope s.heap.objs.size f cd
  outer := outer
  stack := envOfC qual scope s.heap.objs.size f cd :: outer
  ex := []
  calm := true
  fn := fun _ => true
  pn := []
  xe := fun e s' => wpAny (model P w) (A.deeper (envOfC qual scope s.heap.objs.size f cd)) (leaving (envOfC qual scope s.heap.objs.size f cd) e) (fun _ s'' => CX outer H s E e s'') (fun e' s'' => CX outer H s E e' s'') s'
theorem cell_has {sc : Scope} {n : Nat} {x : Str} (h : sc.names.lookup x = some .cell) : ∃ c, (cellsFrom n sc.names []).lookup x = some c := by
  have q := PySem.W.cellsFrom_some sc.names n [] (.inl h)
  exact Option.isSome_iff_exists.mp q
theorem inv_start {CX : CXT} {P : Program} {w : World} {K : PySem.W.Frag} {mg : Str → Option Value} {base : Heap} {N ps : List Str} {qual : Str} {scope : Scope} {f : Addr} {cd : Value} {A : Around} {outer : List Env} {s s1 : Shared} {H : Hp} {E : XK} {us : List Value} {vs : List V}
    (S : FnScope N ps scope) (hd : A.handled = none) (e0 : Env0 P w K mg base A outer s H) (hl : vs.length = ps.length) (r : Vals vs us)
    (x : InCallC s s.heap.objs.size (bindL (envOfC qual scope s.heap.objs.size f cd).kindOf (ps.zip us) fun _ => none) (cellsFrom (s.heap.objs.size + 1) scope.names []) (bindC (envOfC qual scope s.heap.objs.size f cd).kindOf (ps.zip us) fun _ => none) s1) :
    Inv (cxOf CX P w K mg base N qual scope f cd A outer s H E) [] (start N vs) H s1 := by
  have hpl : ps.length ≤ N.length := by have := congrArg List.length S.pre; rw [List.length_take] at this; omega
  obtain ⟨h1, tk, rfl, hk⟩ := x.done
  have noA : ∀ b : Addr, b ∉ (cxOf CX P w K mg base N qual scope f cd A outer s H E).ex := fun b z => absurd (show b ∈ ([] : List Addr) from z) (by simp)
  refine ⟨⟨e0.mod, S.kind, rfl, rfl, Nat.le_refl _, fun y z c h1 h2 => ?_, fun y hy => ?_, fun y c _ h => ?_, fun _ => hd, Around.frames_deeper e0.frames, .inr ⟨rfl, rfl⟩, fun b z => absurd z (noA b), e0.bs, e0.bsz, fun b _ _ => noA b, fun b z => absurd z (noA b), e0.funs, e0.frf⟩,
    rfl, e0.bare, Un.kept hk, ⟨_, x.toInCall.ns, fun i y v h1 h2 h3 => ?_⟩, fun y c h => ⟨_, x.cell y c h⟩, e0.hok.fresh (Nat.le_refl _), fun y c h => ?_, fun p hp => absurd (show p ∈ ([] : List (Addr × Obj)) from hp) (by simp), e0.hok.kept hk, ?_⟩
  · exact name_of_addr x.apart (PySem.mem_of_lookup h1) (PySem.mem_of_lookup h2)
  · have hy : scope.names.lookup y = some .cell ∨ scope.names.lookup y = some .free := hy
    rcases hy with hy | hy
    · exact cell_has hy
    · exact absurd rfl (S.nofree _ (PySem.mem_of_lookup hy))
  · exact Nat.le_of_lt (x.above y c (PySem.mem_of_lookup h))
  · have hi : i < vs.length := by
      unfold start at h2
      by_cases hi : i < vs.length
      · exact hi
      · rw [List.getElem?_append_right (by simpa using hi)] at h2
        rw [List.getElem?_replicate] at h2
        split at h2 <;> cases h2
    have ha : vs[i]? = some v := by
      unfold start at h2
      rw [List.getElem?_append_left (by simpa using hi), List.getElem?_map] at h2
      cases e : vs[i]? with
      | none => rw [e] at h2; cases h2
      | some a => rw [e] at h2; cases h2; rfl
    obtain ⟨u, hu, rv⟩ := r.get ha
    have hp : ps[i]? = some y := by
      rw [← S.pre, List.getElem?_take_of_lt (by omega)]; exact h1
    have ndP : ps.Nodup := by rw [← S.pre]; exact S.nd.sublist (List.take_sublist _ _)
    refine ⟨u, rv, ?_⟩
    rcases S.par y (List.mem_of_getElem? hp) with k | k
    · exact .inl ⟨k, bindL_get ndP hp hu k⟩
    · obtain ⟨c, e⟩ := cell_has (n := s.heap.objs.size + 1) k
      refine .inr ⟨.inl k, c, e, ?_⟩
      have q := x.cell y c e
      rw [bindC_get ndP hp hu (by show scope.names.lookup y ≠ _; rw [k]; decide)] at q
      exact q
  · exact e0.hok.fresh (Nat.le_of_lt (x.above y c (PySem.mem_of_lookup h)))
  · unfold start
    show _ = N.length
    rw [List.length_append, List.length_map, List.length_replicate]
    omega
theorem fn_of {CX : CXT} {P : Program} {w : World} {K : PySem.W.Frag} {mg : Str → Option Value} {base : Heap} {k : Nat} {f : Addr} {name qual : Str} {params : Arguments} {body : List Stmt} {scope : Scope} {dV kV doc pm cdv ct oc : Value} {an od : Option Addr}
    {osl : Array (Option Value)} {N ps : List Str} {sp : Sp} (lk : K.lookup f = some ⟨oc, od, .func (PySem.W.fnOf name qual params body scope dV kV doc pm an cdv ct), osl⟩) (hcd : PySem.W.codeIn K cdv qual = true) (S : FnScope N ps scope)
    (len : ∀ vs H Q E, sp vs H Q E → vs.length = ps.length)
    (hbody : ∀ (A : Around) (outer : List Env) (s : Shared) (H : Hp) (vs : List V) (Q : VK) (E : XK), Room k (A.deeper (envOfC qual scope s.heap.objs.size f cdv)) → sp vs H Q E →
      ∃ t, PSs (cxOf CX P w K mg base N qual scope f cdv A outer s H E) body t ∧ t { nx := fun _ H' => Q .non H', rt := Q } (start N vs) H) :
    FnOk P w K mg base CX (k + 1) f (PySem.W.fnOf name qual params body scope dV kV doc pm an cdv ct) ps sp := by
  refine ⟨len, fun A outer s H args us vs Q E hr e0 hb r hsp => ?_⟩
  have hl := len _ _ _ _ hsp
  have KX : K.In s.heap := e0.mod.kin.keeps fun b o e => (e0.bs b o e).1
  have lim : s.heap.NoLimit := e0.mod.nolimit.keeps fun b o e => (e0.bs b o e).1
  have hkind : ∀ y ∈ ps.zip us, scope.names.lookup y.1 = some .local ∨ (scope.names.lookup y.1 = some .cell ∧ ((cellsFrom (s.heap.objs.size + 1) scope.names []).lookup y.1).isSome = true) := fun ⟨n, v⟩ hy => by
    rcases S.par n (List.of_mem_zip hy).1 with q | q
    · exact .inl q
    · exact .inr ⟨q, PySem.W.cellsFrom_some _ _ _ (.inl q)⟩
  refine codeAny_call_function hr.depth (KX _ _ lk) rfl S.co S.gen rfl (PySem.W.codeRec_of KX hcd) (hb _ _ _ _ ?_)
  refine wpAny_newFunctionEnv_cells S.kind hkind fun env he s1 x => ?_
  subst he
  refine ⟨lim.keeps x.toInCall.keep, codeAny_func ?_⟩
  obtain ⟨t, ht, hq⟩ := hbody A outer s H vs Q E (hr.deeper _) hsp
  have I : Inv (cxOf CX P w K mg base N qual scope f cdv A outer s H E) [] (start N vs) H s1 := inv_start S hr.hd e0 hl r x
  refine wpAny_mono (ht [] s1 (start N vs) H _ I hq) (fun fl s' hs => ?_) fun e s' hs => hs
  have fin : ∀ {σ' : St} {H' : Hp} {v : V} {u : Value}, Inv (cxOf CX P w K mg base N qual scope f cdv A outer s H E) [] σ' H' s' → RelV v u → Q v H' → CE outer P w H s Q u s' :=
    fun {σ' H' v u} J rv q => ⟨v, H', J.os, J.bare, J.base, J.hok, rv, q⟩
  cases fl with
  | ret u =>
    obtain ⟨v, σ', H', J, rv, q⟩ := hs
    exact fin J rv q
  | next =>
    obtain ⟨σ', H', J, q⟩ := hs
    exact fin (v := V.non) (u := Value.none) J rfl q
  | brk =>
    obtain ⟨_, _, _, q⟩ := hs
    exact False.elim q
  | cont =>
    obtain ⟨_, _, _, q⟩ := hs
    exact False.elim q
end L2
namespace L2
open PySem PySem.Spec PyProof.Rows
section
variable {X : Cx} {x : Str} {p pos : Pos} {e : Expr} {es : List Expr} {t : TA} {id T : String} {r : List V → Hp → VK → Prop}
noncomputable def tCB (r : List V → Hp → VK → Prop) (t : TA) : TE := fun σ H Q => t σ H fun vs H1 => r vs H1 Q
theorem pe_callB (hc : CallR X (.builtin id) r) (hg : Gl X x) (hm : X.mg x = none) (hv : bootBuiltins x = some (.builtin id)) (ha : PA X (e :: es) t) (hn : x ≠ "__name__" := by decide) (hdb : (x == ("__debug__" : Str)) = false := by decide)
    (he : starEach (e :: es) X.env = (false, eval e X.env) :: starEach es X.env := by rfl) (hpl : (backTo pos (starEach es X.env)).any (·.1) = false := by rfl) : PE X (.Call (.Name x p) (e :: es) [] pos) (tCB r t) := by
  intro pins s σ H Q I h
  refine wpAny_Call_Name_kw (ld_blt I hg hm hv ?_ hn hdb)
  exact PyProof.Rows.callWith_builtin1 (thn (ha pos pins s σ H _ I h) fun us s1 ⟨vs, H1, I1, r1, q1⟩ => hc pins s1 σ H1 vs us Q I1 r1 q1) he hpl
theorem pe_callTy (hc : CallR X (.type T) r) (hg : Gl X x) (hm : X.mg x = none) (hv : bootBuiltins x = some (.type T)) (ha : PA X (e :: es) t) (hn : x ≠ "__name__" := by decide) (hdb : (x == ("__debug__" : Str)) = false := by decide)
    (he : starEach (e :: es) X.env = (false, eval e X.env) :: starEach es X.env := by rfl) (hpl : (backTo pos (starEach es X.env)).any (·.1) = false := by rfl) : PE X (.Call (.Name x p) (e :: es) [] pos) (tCB r t) := by
  intro pins s σ H Q I h
  refine wpAny_Call_Name_kw (ld_blt I hg hm hv ?_ hn hdb)
  exact PyProof.Rows.callWith_type1 (thn (ha pos pins s σ H _ I h) fun us s1 ⟨vs, H1, I1, r1, q1⟩ => hc pins s1 σ H1 vs us Q I1 r1 q1) he hpl
end
end L2
namespace HT
open PySem PyProof.Rows
section
open PySem.SeqAt
open PySem.AutoSeq1 (wpAny_loadPart')
open PySem.MeetsSeq PySem.MeetsSeq2 PySem.MeetsSeq3
end
section
variable {prog : Program} {w : World} {A : Around} {E : Value → Shared → Prop} {s : Shared}
theorem cat_tup {t b : Addr} {vs ws : List Value} {Q : Value → Shared → Prop} (ht : IsTup s.heap t vs.toArray) (hb : IsTup s.heap b ws.toArray) (hv : vs ≠ [])
    (h1 : ws = [] → Q (.ref t) s) (h2 : ws ≠ [] → Q (.ref s.heap.objs.size) { s with heap := s.heap.push { cls := .type "tuple", data := .seq (vs ++ ws).toArray } })
    (hsz : vs.length + ws.length ≤ sizeLine) : wpAny (model prog w) A (binaryOp .Add (.ref t) (.ref b)) Q E s := by
  obtain ⟨⟨cls, dd, data, sl⟩, ho, hc, n, hd⟩ := id ht
  obtain ⟨⟨cls2, dd2, data2, sl2⟩, ho2, hc2, n2, hd2⟩ := id hb
  simp only at hc hd hc2 hd2
  subst hc hd hc2 hd2
  have e : vs.toArray ++ ws.toArray = (vs ++ ws).toArray := by simp
  by_cases hw : ws = []
  · exact concat_meets ⟨_, ho, rfl⟩ ⟨_, ho2, rfl⟩ noFill_tuple_add seq_tuple_add PySem.F.slot_tuple_add PySem.F.entry_tuple_add (PySem.F.args_tuple_add_2 _ _)
      (tuple_addW1 t b vs.toArray ws.toArray n n2 dd dd2 sl sl2 (by simpa using hv) (by simp [hw])) ⟨ho, ho2, h1 hw⟩
  · refine concat_meets ⟨_, ho, rfl⟩ ⟨_, ho2, rfl⟩ noFill_tuple_add seq_tuple_add PySem.F.slot_tuple_add PySem.F.entry_tuple_add (PySem.F.args_tuple_add_2 _ _)
      (tuple_addW2 t b vs.toArray ws.toArray n n2 dd dd2 sl sl2 (by simpa using hv) (by simpa using hw) (by rw [List.size_toArray, List.size_toArray]; exact hsz)) ⟨ho, ho2, ?_⟩
    rw [e]
    exact h2 hw
noncomputable def sIx (n d : Nat) : Option Int → Nat
  | none => d
  | some v => if v < 0 then (v + (n : Int)).toNat else min v.toNat n
theorem sIx_none (n d : Nat) : sIx n d none = d := rfl
theorem sIx_nat (n d k : Nat) : sIx n d (some (k : Int)) = min k n := by
  show (if (k : Int) < 0 then ((k : Int) + (n : Int)).toNat else min (k : Int).toNat n) = min k n
  rw [if_neg (by omega), Int.toNat_natCast]
end
end HT
namespace L2
open PySem PySem.Spec PyProof.Rows
noncomputable abbrev TO := St → Hp → (Option Int → Hp → Prop) → Prop
noncomputable def PO (X : Cx) (e : Option Expr) (t : TO) : Prop :=
  ∀ (pins : List (Addr × Obj)) (s : Shared) (σ : St) (H : Hp) (Q : Option Int → Hp → Prop), Inv X pins σ H s → t σ H Q →
    wpAny (model X.prog X.w) X.A (evalPart e X.env) (fun u s' => ∃ o H', Inv X pins σ H' s' ∧ IsPart u o ∧ Q o H') X.xe s
noncomputable def tNoPart : TO := fun _ H Q => Q none H
noncomputable def tPart (t : TE) : TO := fun σ H Q => t σ H fun x H1 => ∃ i, x = .int i ∧ Q (some i) H1
theorem intsAre_of {ns : List Int} : ∀ {us : List Value}, Vals (ns.map V.int) us → IntsAre us ns := by
  induction ns with
  | nil => intro us r; rw [List.map_nil] at r; cases r; exact .nil
  | cons n ns ih =>
    intro us r
    rw [List.map_cons] at r
    cases r with
    | cons r1 r2 =>
      obtain ⟨t, e⟩ := r1
      subst e
      exact .cons n t (ih r2)
section
variable {X : Cx} {e : Expr} {te : TE} {lo hi : Option Expr} {tl th : TO} {pos p2 : Pos}
theorem po_none : PO X none tNoPart := by
  intro pins s σ H Q I h
  rw [evalPart_none]
  exact wpAny_pure ⟨none, H, I, .none, h⟩
theorem po_some (h : PE X e te) : PO X (some e) (tPart te) := by
  intro pins s σ H Q I hw
  rw [evalPart_some]
  refine thn (h pins s σ H _ I hw) fun u s1 ⟨x, H1, I1, r1, q1⟩ => ?_
  obtain ⟨i, rfl, q⟩ := q1
  obtain ⟨t, rfl⟩ := r1
  exact ⟨some i, H1, I1, .int i t, q⟩
noncomputable def SlR (X : Cx) (r : V → Option Int → Option Int → Hp → VK → Prop) : Prop :=
  ∀ (pins : List (Addr × Obj)) (s : Shared) (σ : St) (H : Hp) (x : V) (v vl vu : Value) (lo hi : Option Int) (sl : Addr) (Q : VK), Inv X pins σ H s → RelV x v → s.heap.IsSliceOf sl vl vu .none → IsPart vl lo → IsPart vu hi → r x lo hi H Q →
    ∃ T id, typeLookup (.type T) "__getitem__" = pure (some (.builtin id)) ∧ s.TypeIs v T ∧ wpAny (model X.prog X.w) X.A (getItem v (.ref sl)) (EP X pins σ Q) X.xe s
noncomputable def tSl (r : V → Option Int → Option Int → Hp → VK → Prop) (te : TE) (tl th : TO) : TE := fun σ H Q => te σ H fun x H1 => tl σ H1 fun l H2 => th σ H2 fun u H3 => r x l u H3 Q
theorem pe_slice {r : V → Option Int → Option Int → Hp → VK → Prop} (hr : SlR X r) (he : PE X e te) (hl : PO X lo tl) (hu : PO X hi th) : PE X (.Subscript e (.Slice lo hi none p2) pos) (tSl r te tl th) := by
  intro pins s σ H Q I h
  refine Subscript_ (thn (he pins s σ H _ I h) fun v s1 ⟨x, H1, I1, r1, q1⟩ => ?_)
  refine wpAny_Slice (thn (hl pins s1 σ H1 _ I1 q1) fun vl s2 ⟨l, H2, I2, pl, q2⟩ => thn (hu pins s2 σ H2 _ I2 q2) fun vu s3 ⟨u, H3, I3, pu, q3⟩ => ?_)
  rw [evalPart_none]
  refine wpAny_pure ?_
  have I4 : Inv X pins σ H3 { s3 with heap := s3.heap.push { cls := .type "slice", data := .fields #[vl, vu, .none] } } := I3.kept (t' := s3.toks) fun b ob q => Heap.get?_push_of_some _ q
  obtain ⟨T, id, hT, ht, hg⟩ := hr pins { s3 with heap := s3.heap.push { cls := .type "slice", data := .fields #[vl, vu, .none] } } σ H3 x v vl vu l u s3.heap.objs.size Q I4 r1 (Heap.IsSliceOf.new ..) pl pu q3
  show wpAny (model X.prog X.w) X.A (subscriptTail e (.Slice lo hi none p2) v (.ref s3.heap.objs.size)) (EP X pins σ Q) X.xe { s3 with heap := s3.heap.push { cls := .type "slice", data := .fields #[vl, vu, .none] } }
  exact tail_any (ops := [.ref s3.heap.objs.size, v]) ht hT hg (by with_unfolding_all rfl)
noncomputable def cutV (xs : List V) (lo hi : Option Int) : List V := (xs.drop (HT.sIx xs.length 0 lo)).take (HT.sIx xs.length xs.length hi - HT.sIx xs.length 0 lo)
theorem cutV_length (xs : List V) (lo hi : Option Int) : (cutV xs lo hi).length ≤ xs.length := by
  unfold cutV
  rw [List.length_take, List.length_drop]
  omega
noncomputable def rCatT (K : PySem.W.Frag) : R2 := fun x y H Q => ∃ a b xs ys, x = .ref a ∧ y = .ref b ∧ SqT K H a xs ∧ SqT K H b ys ∧ xs ≠ [] ∧ xs.length + ys.length ≤ sizeLine ∧
  (ys = [] → Q (.ref a) H) ∧ (ys ≠ [] → ∀ p, H p = none → Q (.ref p) (upd H p (.tup (xs ++ ys))))
theorem Vals.nil_iff {xs : List V} {us : List Value} (r : Vals xs us) : us = [] ↔ xs = [] := by
  cases r with
  | nil => simp
  | cons _ _ => simp
theorem op_catT : OpR X (binaryOp .Add) (rCatT X.K) := by
  intro pins s σ H x y v u Q I rx ry h
  obtain ⟨a, b, xs, ys, rfl, rfl, ha, hb, hx, hz, q1, q2⟩ := h
  cases rx
  cases ry
  obtain ⟨its, r1, p1, _⟩ := I.tuple ha
  obtain ⟨its2, r2, p2, _⟩ := I.tuple hb
  refine HT.cat_tup p1 p2 (fun z => hx (r1.nil_iff.mp z)) (fun z => ⟨.ref a, H, I, rfl, q1 (r2.nil_iff.mp z)⟩) (fun z => ?_) (by rw [← r1.length, ← r2.length]; exact hz)
  refine ⟨.ref s.heap.objs.size, _, I.laid (t' := s.toks) (o := .tup (xs ++ ys)) (fun b ob q => Heap.get?_push_of_some _ q) (Nat.le_refl _) ?_, rfl, q2 (fun w => z (r2.nil_iff.mpr w)) _ (I.hok.fresh (Nat.le_refl _))⟩
  exact ⟨by rw [List.length_append]; exact hz, _, r1.append r2, IsTup.new _ _, .mk (Heap.get?_push_size _ rfl) rfl⟩
end
end L2
namespace L2
open PySem PySem.Spec PyProof.Rows
noncomputable def ixN (n : Nat) (i : Int) : Option Nat := if 0 ≤ i then (if i < n then some i.toNat else none) else if -(n : Int) ≤ i then some (i + n).toNat else none
noncomputable def atI {α : Type} (xs : List α) (i : Int) : Option α := (ixN xs.length i).bind fun j => xs[j]?
theorem ixN_seq {n : Nat} {i : Int} {j : Nat} (h : ixN n i = some j) : seqIndex? i n = some j ∧ j < n ∧ -(n : Int) ≤ i ∧ i < n := by
  unfold ixN at h
  by_cases h0 : 0 ≤ i
  · rw [if_pos h0] at h
    by_cases h1 : i < n
    · rw [if_pos h1] at h
      have e : i.toNat = j := Option.some.inj h
      exact ⟨by rw [seqIndex_of h0 h1, e], by omega, by omega, h1⟩
    · rw [if_neg h1] at h; cases h
  · rw [if_neg h0] at h
    by_cases h1 : -(n : Int) ≤ i
    · rw [if_pos h1] at h
      have e : (i + n).toNat = j := Option.some.inj h
      exact ⟨by rw [seqIndex_neg (by omega) h1, e], by omega, h1, by omega⟩
    · rw [if_neg h1] at h; cases h
theorem atI_get {α : Type} {xs : List α} {i : Int} {v : α} (h : atI xs i = some v) : ∃ j, seqIndex? i xs.length = some j ∧ xs[j]? = some v ∧ j < xs.length ∧ -(xs.length : Int) ≤ i ∧ i < xs.length := by
  unfold atI at h
  cases e : ixN xs.length i with
  | none => rw [e] at h; cases h
  | some j =>
    rw [e] at h
    obtain ⟨h1, h2, h3, h4⟩ := ixN_seq e
    exact ⟨j, h1, h, h2, h3, h4⟩
theorem atI_nat {α : Type} {xs : List α} {j : Nat} {v : α} (h : xs[j]? = some v) : atI xs (j : Int) = some v := by
  have hj : j < xs.length := (List.getElem?_eq_some_iff.mp h).1
  have e : ixN xs.length (j : Int) = some j := by
    unfold ixN
    rw [if_pos (by omega), if_pos (by omega)]; simp
  unfold atI; rw [e]; exact h
noncomputable def PlainIx (b : Expr) : Prop := ∀ o i, subscripted b false o i = operate [o, i] (getItem o i)
noncomputable def IxR (X : Cx) (r : R2) : Prop :=
  ∀ (value slice : Expr) (pins : List (Addr × Obj)) (s : Shared) (σ : St) (H : Hp) (x y : V) (v u : Value) (Q : VK), Inv X pins σ H s → RelV x v → RelV y u → r x y H Q →
    subscripted slice false v u = operate [v, u] (getItem v u) → wpAny (model X.prog X.w) X.A (subscriptTail value slice v u) (EP X pins σ Q) X.xe s
noncomputable def MtR (X : Cx) (id : String) (r : V → List V → Hp → VK → Prop) : Prop :=
  ∀ (pins : List (Addr × Obj)) (s : Shared) (σ : St) (H : Hp) (x : V) (xs : List V) (v : Value) (us : List Value) (Q : VK), Inv X pins σ H s → RelV x v → Vals xs us → r x xs H Q →
    wpAny (model X.prog X.w) X.A (call (.builtin id) (v :: us)) (EP X pins σ Q) X.xe s
section
variable {X : Cx} {a b : Expr} {ta tb : TE} {pos : Pos}
theorem pe_ix {r : R2} (hr : IxR X r) (ha : PE X a ta) (hb : PE X b tb) (hs : PlainIx b) : PE X (.Subscript a b pos) (tOp r ta tb) := by
  intro pins s σ H Q I h
  exact Subscript_ (binT ha hb I h fun v u s2 x y H2 I2 rx ry q => hr a b pins s2 σ H2 x y v u Q I2 rx ry q (hs _ _))
noncomputable def rIxL (K : PySem.W.Frag) : R2 := fun x y H Q => ∃ p xs i v, x = .ref p ∧ y = .int i ∧ SqL K H p xs ∧ atI xs i = some v ∧ Q v H
noncomputable def rIxT (K : PySem.W.Frag) : R2 := fun x y H Q => ∃ p xs i v, x = .ref p ∧ y = .int i ∧ SqT K H p xs ∧ atI xs i = some v ∧ Q v H
noncomputable def rIxS : R2 := fun x y H Q => ∃ z i c, x = .str z ∧ y = .int i ∧ z.length ≤ sizeLine ∧ atI z.cps.toList i = some c ∧ Q (.str ⟨#[c]⟩) H
theorem ix_list : IxR X (rIxL X.K) := by
  intro value slice pins s σ H x y v u Q I rx ry h hs
  obtain ⟨p, xs, i, z, rfl, rfl, hq, he, q⟩ := h
  cases rx
  obtain ⟨t, rfl⟩ := ry
  obtain ⟨its, r, pl, hz⟩ := I.list hq
  obtain ⟨j, h1, h2, h3, h4, h5⟩ := atI_get he
  obtain ⟨w, ew, rw'⟩ := r.get h2
  have hl := r.length
  have hn := line63
  have fin : EP X pins σ Q w s := ⟨z, H, I, rw', q⟩
  by_cases h0 : 0 ≤ i
  · have hj : i.toNat = j := by
      rw [seqIndex_of h0 h5] at h1
      exact Option.some.inj h1
    exact item_listR pl.isList h0 (by omega) (by rw [hj]; simpa using ew) fin hs
  · have hj : (i + (its.toArray.size : Int)).toNat = j := by
      rw [seqIndex_neg (by omega) h4] at h1
      rw [List.size_toArray, ← hl]
      exact Option.some.inj h1
    exact subscriptTail_builtinR (x := w) pl.isList.typeIs slot_list_getitem.lookup
      (wpAny_getItem_list_neg (Q := fun r s' => r = w ∧ EP X pins σ Q r s') pl.isList (by omega) (by rw [List.size_toArray] <;> omega) (by omega) (by rw [hj]; simpa using ew) ⟨rfl, fin⟩) hs
theorem ix_tup : IxR X (rIxT X.K) := by
  intro value slice pins s σ H x y v u Q I rx ry h hs
  obtain ⟨p, xs, i, z, rfl, rfl, hq, he, q⟩ := h
  cases rx
  obtain ⟨t, rfl⟩ := ry
  obtain ⟨its, r, pl, hz⟩ := I.tuple hq
  obtain ⟨j, h1, h2, h3, h4, h5⟩ := atI_get he
  obtain ⟨w, ew, rw'⟩ := r.get h2
  have hl := r.length
  have hn := line63
  have fin : EP X pins σ Q w s := ⟨z, H, I, rw', q⟩
  exact subscriptTail_builtinR (x := w) pl.typeIs slot_tuple_getitem.lookup
    (getItem_tuple (j := j) (Q := fun r s' => r = w ∧ EP X pins σ Q r s') pl (by omega) (by omega) (by rw [List.size_toArray, ← hl]; exact h1) (by simpa using ew) ⟨rfl, fin⟩) hs
theorem ix_str : IxR X rIxS := by
  intro value slice pins s σ H x y v u Q I rx ry h hs
  obtain ⟨z, i, c, rfl, rfl, hz, he, q⟩ := h
  obtain ⟨t, rfl⟩ := rx
  obtain ⟨t', rfl⟩ := ry
  obtain ⟨j, h1, h2, h3, h4, h5⟩ := atI_get he
  have hl : z.cps.toList.length = z.length := by simp [Str.length]
  rw [hl] at h1 h4 h5
  have hn := line63
  exact tail_any (typeIs_str s z t) slot_str_getitem.lookup (getItem_str (c := c) (by
    have e1 : decide (i < -(2 ^ 63 : Int)) = false := decide_eq_false (by omega)
    have e2 : decide (i ≥ 2 ^ 63) = false := decide_eq_false (by omega)
    rw [e1, e2, Bool.or_false]) (by rw [h1]; simpa using h2) ⟨.str ⟨#[c]⟩, H, I.tok _, ⟨_, rfl⟩, q⟩) hs
theorem mapSeq_set (its : List Value) (n j : Nat) (u : Value) : Obj.mapSeq (·.setIfInBounds j u) { cls := .type "list", data := .seq its.toArray n } = { cls := .type "list", data := .seq (its.set j u).toArray n } := by
  simp [Obj.mapSeq]
theorem Inv.lst {pins : List (Addr × Obj)} {σ : St} {H : Hp} {s : Shared} {p : Addr} {xs : List V} (I : Inv X pins σ H s) (h : H p = some (.lst xs)) :
    ∃ (its : List Value) (n : Nat), Vals xs its ∧ s.heap.get? p = some { cls := .type "list", data := .seq its.toArray n } ∧ xs.length ≤ sizeLine := by
  obtain ⟨z, its, n, r, e⟩ := I.hok p _ h
  exact ⟨its, n, r, e, z⟩
theorem Inv.lstUpd {pins : List (Addr × Obj)} {σ : St} {H : Hp} {s : Shared} {p : Addr} {xs ys : List V} {its its' : List Value} {n n' : Nat} {f : Obj → Obj} (I : Inv X pins σ H s) (h : H p = some (.lst xs))
    (ho : s.heap.get? p = some { cls := .type "list", data := .seq its.toArray n }) (hf : f { cls := .type "list", data := .seq its.toArray n } = { cls := .type "list", data := .seq its'.toArray n' }) (r : Vals ys its') (hz : ys.length ≤ sizeLine) (t : Nat) :
    Inv X pins σ (upd H p (.lst ys)) { s with heap := s.heap.update p f, toks := t } := by
  have e : (s.heap.update p f).get? p = some { cls := .type "list", data := .seq its'.toArray n' } := by
    rw [Heap.get?_update_self f ho (by rw [hf] <;> rfl), hf]
  refine I.write (x := p) (e := p) (by rw [h]; trivial) (.inl rfl) (fun b u hb q => (Heap.get?_update_other _ _ (Ne.symm hb)).trans q) ⟨_, e⟩ ?_
  exact ⟨hz, its', n', r, e⟩
noncomputable def rSetL : V → V → V → Hp → (Hp → Prop) → Prop := fun o i v H Q => ∃ p xs k j, o = .ref p ∧ i = .int k ∧ H p = some (.lst xs) ∧ ixN xs.length k = some j ∧ Q (upd H p (.lst (xs.set j v)))
theorem set_list : PSet X rSetL := by
  intro pins s σ H o i v ov iv u Q I ro ri rv h
  obtain ⟨p, xs, k, j, rfl, rfl, hp, hj, q⟩ := h
  cases ro
  obtain ⟨t, rfl⟩ := ri
  obtain ⟨its, n, r, ho, hz⟩ := I.lst hp
  obtain ⟨h1, h2, h3, h4⟩ := ixN_seq hj
  have hl := r.length
  have hn := line63
  have I' : Inv X pins σ (upd H p (.lst (xs.set j v))) { s with heap := s.heap.update p (Obj.mapSeq (·.setIfInBounds j u)) } :=
    I.lstUpd hp ho (mapSeq_set its n j u) (r.set rv j) (by rw [List.length_set]; exact hz) s.toks
  by_cases h0 : 0 ≤ k
  · have hk : k.toNat = j := by
      rw [seqIndex_of h0 h4] at h1
      exact Option.some.inj h1
    exact PySem.W.ki_setAt ho h0 (by omega) (by rw [List.size_toArray, ← hl]; exact h4) (by rw [hk]; exact ⟨_, I', q⟩)
  · have hk : (k + (its.toArray.size : Int)).toNat = j := by
      rw [seqIndex_neg (by omega) h3] at h1
      rw [List.size_toArray, ← hl]
      exact Option.some.inj h1
    exact PySem.W.ki_setBack ho (by omega) (by rw [List.size_toArray, ← hl]; exact h3) (by omega) (by rw [hk]; exact ⟨_, I', q⟩)
theorem slice_bounds (lo hi : Option Int) (n : Nat) : (sliceBounds lo hi none n).1 = ((HT.sIx n 0 lo : Nat) : Int) ∧ (sliceBounds lo hi none n).2.1 = ((HT.sIx n n hi : Nat) : Int) ∧ (sliceBounds lo hi none n).2.2 = 1 := by
  refine ⟨?_, ?_, rfl⟩
  · cases lo with
    | none => simp [sliceBounds, HT.sIx]
    | some i =>
      simp only [sliceBounds, HT.sIx, Option.getD_none, show (1 : Int) > 0 by decide, if_true]
      by_cases h : i < 0
      · simp only [h, if_true] <;> omega
      · simp only [h, if_false] <;> omega
  · cases hi with
    | none => simp [sliceBounds, HT.sIx]
    | some i =>
      simp only [sliceBounds, HT.sIx, Option.getD_none, show (1 : Int) > 0 by decide, if_true]
      by_cases h : i < 0
      · simp only [h, if_true] <;> omega
      · simp only [h, if_false] <;> omega
theorem slicePick_cut (its : List Value) (lo hi : Option Int) : slicePick its.toArray lo hi none = ((its.drop (HT.sIx its.length 0 lo)).take (HT.sIx its.length its.length hi - HT.sIx its.length 0 lo)).toArray := by
  obtain ⟨h1, h2, h3⟩ := slice_bounds lo hi its.toArray.size
  unfold slicePick
  rw [h1, h2, h3]
  simp only [sliceRange_one, pick_run, List.size_toArray] <;> rfl
noncomputable def rSlL (K : PySem.W.Frag) : V → Option Int → Option Int → Hp → VK → Prop := fun x lo hi H Q => ∃ a xs, x = .ref a ∧ SqL K H a xs ∧ ∀ p, H p = none → Q (.ref p) (upd H p (.lst (cutV xs lo hi)))
theorem sl_list : SlR X (rSlL X.K) := by
  intro pins s σ H x v vl vu lo hi sl Q I rx hs pl pu h
  obtain ⟨a, xs, rfl, hx, q⟩ := h
  cases rx
  obtain ⟨its, r, ht, hz⟩ := I.list hx
  have hlen := r.length
  refine ⟨"list", _, slot_list_getitem.lookup, ht.isList.typeIs, ?_⟩
  refine wpAny_getItem_list_slice ht.isList hs pl pu .none (by simp) ?_ (by rw [List.size_toArray] <;> omega)
  rw [slicePick_cut, ← hlen]
  refine ⟨.ref s.heap.objs.size, _, I.laid (t' := s.toks) (o := .lst (cutV xs lo hi)) (fun b ob q => Heap.get?_push_of_some _ q) (Nat.le_refl _) ?_, rfl, q _ (I.hok.fresh (Nat.le_refl _))⟩
  exact ⟨Nat.le_trans (cutV_length xs lo hi) hz, _, 0, (r.drop (HT.sIx xs.length 0 lo)).take (HT.sIx xs.length xs.length hi - HT.sIx xs.length 0 lo), Heap.get?_push_size _ rfl⟩
theorem call_len_seq : CallR X (.builtin "len") (fun xs H Q => ∃ p ys, xs = [.ref p] ∧ (SqL X.K H p ys ∨ SqT X.K H p ys) ∧ Q (.int ys.length) H) := by
  intro pins s σ H xs us Q I r h
  obtain ⟨p, ys, rfl, hq, q⟩ := h
  obtain ⟨u, rfl, rx⟩ := vals1 r
  cases rx
  have hn := line63
  rcases hq with hq | hq
  · obtain ⟨its, r', pl, hz⟩ := I.list hq
    have hlen := r'.length
    exact Calls.call_len_list pl.isList (by simp only [List.size_toArray] <;> omega) ⟨.int ys.length, H, I.tok _, ⟨s.toks + 1, by rw [List.size_toArray, hlen]⟩, q⟩
  · obtain ⟨its, r', pl, hz⟩ := I.tuple hq
    have hlen := r'.length
    exact len_tuple pl (by simp only [List.size_toArray] <;> omega) ⟨.int ys.length, H, I.tok _, ⟨s.toks + 1, by rw [List.size_toArray, hlen]⟩, q⟩
theorem call_len_str : CallR X (.builtin "len") (fun xs H Q => ∃ z, xs = [.str z] ∧ z.length ≤ sizeLine ∧ Q (.int z.length) H) := by
  intro pins s σ H xs us Q I r h
  obtain ⟨z, rfl, hz, q⟩ := h
  obtain ⟨u, rfl, t, rfl⟩ := vals1 r
  have hn := line63
  exact len_str (by omega) ⟨.int z.length, H, I.tok _, ⟨_, rfl⟩, q⟩
theorem call_tuple_of : CallR X (.type "tuple") (fun xs H Q => ∃ p ys, xs = [.ref p] ∧ ((SqL X.K H p ys ∧ ∀ l, H l = none → Q (.ref l) (upd H l (.tup ys))) ∨ (SqT X.K H p ys ∧ Q (.ref p) H))) := by
  intro pins s σ H xs us Q I r h
  obtain ⟨p, ys, rfl, h⟩ := h
  obtain ⟨u, rfl, rx⟩ := vals1 r
  cases rx
  rcases h with ⟨hq, q⟩ | ⟨hq, q⟩
  · obtain ⟨its, r', pl, hz⟩ := I.list hq
    have hlen := r'.length
    refine call_tuple_list pl.isList (fun h' kp => ?_) (by simp only [List.size_toArray] <;> omega)
    have I1 : Inv X pins σ H { s with heap := h' } := I.kept (t' := s.toks) kp
    have I2 : Inv X pins σ (upd H h'.objs.size (.tup ys)) { s with heap := h'.push { cls := .type "tuple", data := .seq its.toArray } } :=
      I1.laid (t' := s.toks) (fun b o e => Heap.get?_push_of_some _ e) (Nat.le_refl _) (show ObjOk X.prog X.w _ _ _ (.tup ys) from ⟨hz, its, r', IsTup.new _ _, .mk (Heap.get?_push_size _ rfl) rfl⟩)
    exact ⟨.ref h'.objs.size, _, I2, rfl, q _ (I1.hok.fresh (Nat.le_refl _))⟩
  · obtain ⟨its, r', pl, hz⟩ := I.tuple hq
    exact call_tuple_same pl ⟨.ref p, H, I, rfl, q⟩
noncomputable def tyV (K : PySem.W.Frag) (T : String) (x : V) (H : Hp) : Prop := match x with
  | .str _ => T = "str"
  | .int _ => T = "int"
  | .ref p => (T = "list" ∧ ∃ xs, SqL K H p xs) ∨ (T = "tuple" ∧ ∃ o, K.lookup p = some o ∧ o.cls = .type "tuple" ∧ o.dict = none) ∨
      (T = "dict" ∧ ((∃ kvs, H p = some (.dK kvs)) ∨ ∃ kvs, H p = some (.dT kvs))) ∨ (T = "set" ∧ ∃ S n, H p = some (.set S n))
  | _ => False
theorem tyV_is {pins : List (Addr × Obj)} {σ : St} {H : Hp} {s : Shared} {T : String} {x : V} {v : Value} (I : Inv X pins σ H s) (r : RelV x v) (ty : tyV X.K T x H) :
    s.TypeIs v T ∧ ∀ a, v = .ref a → ∃ ob, s.heap.get? a = some ob ∧ ob.dict = none := by
  cases x with
  | str z =>
    obtain ⟨t, rfl⟩ := r
    cases (show T = "str" from ty)
    exact ⟨typeIs_str s z t, fun _ e => nomatch e⟩
  | int i =>
    obtain ⟨t, rfl⟩ := r
    cases (show T = "int" from ty)
    exact ⟨typeIs_int s i t, fun _ e => nomatch e⟩
  | ref p =>
    cases r
    rcases ty with ⟨rfl, xs, hq⟩ | ⟨rfl, o, hk, hc, hd⟩ | ⟨rfl, hk⟩ | ⟨rfl, S, n, hk⟩
    · obtain ⟨its, _, pl, _⟩ := I.list hq
      refine ⟨pl.isList.typeIs, fun a e => ?_⟩
      cases e
      obtain ⟨o, n, e, c, hd, _⟩ := pl
      exact ⟨o, e, hd⟩
    · refine ⟨⟨o, I.kIn p o hk, hc⟩, fun a e => ?_⟩
      cases e
      exact ⟨o, I.kIn _ o hk, hd⟩
    · have z : ∃ o, s.heap.get? p = some o ∧ o.ExactDict := by
        rcases hk with ⟨kvs, hk⟩ | ⟨kvs, hk⟩
        · obtain ⟨_, _, _, _, o, _, _, e, ex, _⟩ := I.hok p _ hk
          exact ⟨o, e, ex⟩
        · obtain ⟨_, _, _, _, o, _, _, e, ex, _⟩ := I.hok p _ hk
          exact ⟨o, e, ex⟩
      obtain ⟨o, e, ex⟩ := z
      refine ⟨⟨o, e, ex.1⟩, fun a e2 => ?_⟩
      cases e2
      exact ⟨o, e, ex.2.1⟩
    · obtain ⟨o, _, _, _, e, ex, _⟩ := I.hok p _ hk
      refine ⟨⟨o, e, ex.1⟩, fun a e2 => ?_⟩
      cases e2
      exact ⟨o, e, ex.2.1⟩
  | _ => exact False.elim ty
noncomputable def tBM (K : PySem.W.Frag) (T : String) (r : V → List V → Hp → VK → Prop) (to : TE) (t : TA) : TE := fun σ H Q => to σ H fun x H1 => tyV K T x H1 ∧ t σ H1 fun xs H2 => r x xs H2 Q
variable {o e : Expr} {es : List Expr} {to : TE} {t : TA} {name : Str} {apos cpos : Pos} {T id : String} {r : V → List V → Hp → VK → Prop}
theorem pe_bm (pa : PlainAttrs T) (slot : Slot T name id) (hty : typeOf (.builtin id) = pure (.type "method_descriptor")) (hm : MtR X id r) (ho : PE X o to) (ha : PA X (e :: es) t)
    (hbase : attributeBase o name X.env (eval o X.env) = eval o X.env := by rfl)
    (hfew : ((backTo cpos (starEach (e :: es) X.env)).all (fun x => !x.1) && (backToKw cpos (keywordEach [] X.env)).all (fun x => x.1.isSome)
      && decide ((e :: es).length + ([] : List Keyword).length + (if ([] : List Keyword).isEmpty then 0 else 1) < 30)) = true := by rfl)
    (hline : (apos.endLine == cpos.line) = true := by rfl) (hs : starEach (e :: es) X.env = (false, eval e X.env) :: starEach es X.env := by rfl) (hplain : (backTo cpos (starEach es X.env)).any (·.1) = false := by rfl) :
    PE X (.Call (.Attribute o name apos) (e :: es) [] cpos) (tBM X.K T r to t) := by
  intro pins s σ H Q I h
  refine wpAny_Call_method_late hbase hfew hline rfl (thn (ho pins s σ H _ I h) fun v s1 ⟨x, H1, I1, r1, ty, q1⟩ => ?_)
  obtain ⟨h1, h2⟩ := tyV_is I1 r1 ty
  refine ⟨T, id, pa, slot, hty, h1, h2, ?_⟩
  have hA := ha cpos pins s1 σ H1 _ I1 q1
  rw [hs] at hA ⊢
  refine Calls.callWith_builtin (by show (false || (backTo cpos (starEach es X.env)).any (·.1)) = false; rw [hplain] <;> rfl) (Calls.evalArgs_plain ?_)
  exact thn hA fun us s2 ⟨vs, H2, I2, r2, q2⟩ => hm pins s2 σ H2 x vs v us Q I2 r1 r2 q2
/- xs.append(e), list.index on a module's tuple .. are MtR facts of 06m -/
end
end L2
namespace L2
open PySem PySem.Spec PyProof.Rows
noncomputable def MtM (X : Cx) (id : String) (r : V → List V → Hp → VK → Prop) : Prop :=
  ∀ (pins : List (Addr × Obj)) (s : Shared) (σ : St) (H : Hp) (x : V) (xs : List V) (v : Value) (us : List Value) (Q : VK), Inv X pins σ H s → RelV x v → Vals xs us → r x xs H Q →
    wpAny (model X.prog X.w) X.A (call (.builtin id) (v :: us)) (EP X pins σ Q) X.xe s
theorem Vals.one : ∀ {x : V} {us : List Value}, Vals [x] us → ∃ u, us = [u] ∧ RelV x u
  | _, _, .cons r .nil => ⟨_, rfl, r⟩
theorem Vals.rep {xs : List V} {us : List Value} (h : Vals xs us) : ∀ k : Nat, Vals (List.replicate k xs).flatten (List.replicate k us).flatten
  | 0 => .nil
  | k + 1 => by
    rw [List.replicate_succ, List.replicate_succ, List.flatten_cons, List.flatten_cons]
    exact Vals.append h (Vals.rep h k)
theorem foldl_rep (its : List Value) : ∀ (k : Nat) (acc : List Value),
    List.foldl (fun x1 x2 => x1 ++ x2) acc.toArray (List.replicate k its.toArray) = (acc ++ (List.replicate k its).flatten).toArray
  | 0, acc => by simp
  | k + 1, acc => by
    have e : acc.toArray ++ its.toArray = (acc ++ its).toArray := by simp
    have e2 : (acc ++ its) ++ (List.replicate k its).flatten = acc ++ (List.replicate (k + 1) its).flatten := by
      rw [List.replicate_succ, List.flatten_cons, List.append_assoc]
    rw [← e2, ← foldl_rep its k (acc ++ its), ← e, List.replicate_succ, List.foldl_cons]
section
variable {X : Cx} {pins : List (Addr × Obj)} {σ : St} {H : Hp} {s : Shared} {l b : Addr} {xs ys zs : List V}
theorem Inv.lset {its its' : List Value} {n : Nat} {f : Array Value → Array Value} {t' : Nat} (I : Inv X pins σ H s) (hH : H l = some (.lst xs))
    (e : s.heap.get? l = some { cls := .type "list", data := .seq its.toArray n }) (hf : f its.toArray = its'.toArray) (hv : Vals ys its') (hz : ys.length ≤ sizeLine) :
    Inv X pins σ (upd H l (.lst ys)) { s with heap := s.heap.update l (Obj.mapSeq f), toks := t' } := by
  have q := PySem.IsL.update e f
  rw [hf] at q
  refine I.write (x := l) (e := l) (by rw [hH]; exact trivial) (.inl rfl) (fun b' u hb hu => (Heap.get?_update_other s.heap (Obj.mapSeq f) (Ne.symm hb)).trans hu) ⟨_, q⟩ ?_
  exact ⟨hz, its', _, hv, q⟩
theorem Inv.lnew {its : List Value} {t' : Nat} (I : Inv X pins σ H s) (hv : Vals ys its) (hz : ys.length ≤ sizeLine) :
    Inv X pins σ (upd H s.heap.objs.size (.lst ys)) { s with heap := s.heap.push { cls := .type "list", data := .seq its.toArray }, toks := t' } :=
  I.laid (fun _ _ q => Heap.get?_push_of_some _ q) (Nat.le_refl _) ⟨hz, its, 0, hv, Heap.get?_push_size _ rfl⟩
theorem Inv.fresh (I : Inv X pins σ H s) : H s.heap.objs.size = none := I.hok.fresh (Nat.le_refl _)
theorem Inv.lstM (I : Inv X pins σ H s) (hH : H l = some (.lst xs)) : xs.length ≤ sizeLine ∧ ∃ (its : List Value) (n : Nat), Vals xs its ∧ xs.length = its.length ∧ s.heap.get? l = some { cls := .type "list", data := .seq its.toArray n } := by
  obtain ⟨z, its, n, r, e⟩ := I.hok l _ hH
  exact ⟨z, its, n, r, r.length, e⟩
theorem notLongL {n : Nat} (h : n ≤ sizeLine) : Builtin.List.listTooLong n = false := by
  unfold Builtin.List.listTooLong
  exact decide_eq_false (by omega)
end
section
variable {X : Cx}
noncomputable def rAppend : V → List V → Hp → VK → Prop := fun x vs H Q => ∃ l xs y, x = .ref l ∧ vs = [y] ∧ H l = some (.lst xs) ∧ xs.length < sizeLine ∧ Q .non (upd H l (.lst (xs ++ [y])))
theorem mt_append : MtM X "list.append" rAppend := by
  intro pins s σ H x vs v us Q I rx rv h
  obtain ⟨l, xs, y, rfl, rfl, hH, hz, q⟩ := h
  cases rx
  obtain ⟨u, rfl, ru⟩ := rv.one
  obtain ⟨z, its, n, r, hl, e⟩ := I.lstM hH
  refine call_meets F.slot_list_append ⟨_, e, rfl⟩ F.entry_list_append (F.args_list_append_2 _ _) (PySem.list_append l its.toArray n u (by rw [List.size_toArray]; omega)) ⟨e, ?_⟩
  refine ⟨.non, _, I.lset (its' := its ++ [u]) hH e (by simp) (r.append (.cons ru .nil)) ?_, rfl, q⟩
  rw [List.length_append, List.length_singleton]
  omega
noncomputable def rCat : R2 := fun x y H Q => ∃ l b xs zs, x = .ref l ∧ y = .ref b ∧ H l = some (.lst xs) ∧ H b = some (.lst zs) ∧ xs.length + zs.length ≤ sizeLine ∧ ∀ p, H p = none → Q (.ref p) (upd H p (.lst (xs ++ zs)))
theorem op_cat : OpR X (binaryOp .Add) rCat := by
  intro pins s σ H x y v u Q I rx ry h
  obtain ⟨l, b, xs, zs, rfl, rfl, hH, hB, hz, q⟩ := h
  cases rx
  cases ry
  obtain ⟨z, its, n, r, hl, e⟩ := I.lstM hH
  obtain ⟨z2, its2, n2, r2, hl2, e2⟩ := I.lstM hB
  refine PySem.P.add_list e e2 ?_ (by rw [List.size_toArray, List.size_toArray]; omega)
  have ea : its.toArray ++ its2.toArray = (its ++ its2).toArray := by simp
  rw [ea]
  exact ⟨.ref _, _, I.lnew (t' := s.toks) (r.append r2) (by rw [List.length_append]; omega), rfl, q _ I.fresh⟩
noncomputable def rRep : R2 := fun x y H Q => ∃ l k xs, x = .ref l ∧ y = .int k ∧ H l = some (.lst xs) ∧ -(2 ^ 63) ≤ k ∧ k < 2 ^ 63 ∧ xs.length * k.toNat ≤ sizeLine ∧
  ∀ p, H p = none → Q (.ref p) (upd H p (.lst (List.replicate k.toNat xs).flatten))
theorem len_rep {α : Type} (xs : List α) (k : Nat) : (List.replicate k xs).flatten.length = k * xs.length := by
  induction k with
  | zero => simp
  | succ k ih => rw [List.replicate_succ, List.flatten_cons, List.length_append, ih, Nat.succ_mul, Nat.add_comm]
theorem op_rep : OpR X (binaryOp .Mult) rRep := by
  intro pins s σ H x y v u Q I rx ry h
  obtain ⟨l, k, xs, rfl, rfl, hH, h1, h2, hz, q⟩ := h
  cases rx
  obtain ⟨t, rfl⟩ := ry
  obtain ⟨z, its, n, r, hl, e⟩ := I.lstM hH
  have hlen : its.toArray.size * k.toNat ≤ sizeLine := by rw [List.size_toArray, ← hl]; exact hz
  have hcap : ¬ its.toArray.size * k.toNat > (2 ^ 63 - 1) / 8 := by
    have : (sizeLine : Nat) ≤ (2 ^ 63 - 1) / 8 := by decide
    omega
  have hfit : ¬ (!Builtin.List.listFitsIndex k) = true := by
    rw [fitsIndex_both h1 h2]
    exact Bool.false_ne_true
  have hlong : ¬ Builtin.List.listTooLong (its.toArray.size * k.toNat) = true := by
    rw [notLongL hlen]
    exact Bool.false_ne_true
  have hnew : List.foldl (fun x1 x2 => x1 ++ x2) #[] (List.replicate (if its.toArray.isEmpty = true then 0 else k.toNat) its.toArray) = (List.replicate k.toNat its).flatten.toArray := by
    have f0 : ∀ m : Nat, List.foldl (fun x1 x2 => x1 ++ x2) #[] (List.replicate m its.toArray) = (List.replicate m its).flatten.toArray := fun m => by
      have := foldl_rep its m []
      rw [List.nil_append] at this
      exact this
    rw [f0]
    cases its with
    | nil => simp
    | cons a r' => rw [if_neg (by simp)]
  refine wpAny_binaryOp_repeat_ref (T := "list") (U := "int") (by decide) ⟨_, e, rfl⟩ (fun s' => typeIs_int s' k t) noFill_list_mul F.fills_int_mul F.slot_int_rmul repeat_list F.slot_int_index.lookup
    (call_meets F.slot_int_rmul (typeIs_int s k t) F.entry_int_rmul (F.args_int_rmul_2 _ _) (int___rmul___int_list k t l its.toArray n)
      ⟨e, rfl, ⟨_, e, rfl⟩, call_meets F.slot_list_mul ⟨_, e, rfl⟩ F.entry_list_mul (F.args_list_mul_2 _ _) (AutoListH.list___mul___list_int_3 l its.toArray n k t hfit hcap hlong) ⟨e, ?_⟩⟩)
  rw [hnew]
  exact ⟨.ref _, _, I.lnew (t' := s.toks) (r.rep k.toNat) (by rw [len_rep, Nat.mul_comm]; exact hz), rfl, q _ I.fresh⟩
end
section
variable {prog : Program} {w : World} {A : Around} {E : Value → Shared → Prop} {s : Shared}
end
section
variable {X : Cx}
end
end L2
namespace L2
open PySem PySem.Spec PyProof.Rows
section
variable {κ : Type} [DecidableEq κ]
end
section
variable {P : Program} {w : World} {H : Hp} {h : Heap} {a : Addr}
end
section
variable {X : Cx} {pins : List (Addr × Obj)} {σ : St} {H : Hp} {s : Shared} {a : Addr} {y v : V} {u r : Value} {o : Option V} {A : Around} {E : Value → Shared → Prop}
end
section
variable {X : Cx} {pins : List (Addr × Obj)} {σ : St} {H : Hp} {s : Shared} {a : Addr} {kvs : List (Key × V)} {k : Key} {u : Value} {A : Around} {E : Value → Shared → Prop}
end
section
variable {X : Cx} {o i e value : Expr} {pos pos' tpos : Pos} {td ty tv : TE}
end
section
variable {X : Cx} {pos : Pos}
end
section
variable {X : Cx} {pins : List (Addr × Obj)} {σ : St} {H : Hp} {s : Shared} {a : Addr} {y d : V} {u r : Value} {o : Option V} {A : Around} {E : Value → Shared → Prop}
end
section
variable {X : Cx} {o e f : Expr} {apos cpos : Pos} {td ty tx : TE}
end
section
variable {X : Cx} {pins : List (Addr × Obj)} {σ : St} {H : Hp} {s : Shared} {a : Addr} {kvs : List (Key × V)} {A : Around} {E : Value → Shared → Prop}
end
section
variable {X : Cx} {pins : List (Addr × Obj)} {σ : St} {H : Hp} {s : Shared} {a : Addr} {y : V} {u : Value} {A : Around} {E : Value → Shared → Prop}
end
end L2
namespace Att
open PySem PySem.W PySem.Calls PyProof.Rows
theorem ints_of_wellAll {P : Params} {h : Heap} : ∀ (ns : List Int) (vs : List Value), WellAll P h vs (ns.map WData.int) → IntsAre vs ns := by
  intro ns
  induction ns with
  | nil =>
    intro vs w
    rw [List.map_nil] at w
    cases w
    exact .nil
  | cons n ns ih =>
    intro vs w
    rw [List.map_cons] at w
    cases w with
    | cons a b =>
      cases a
      exact .cons _ _ (ih _ b)
theorem script_of {l : OpenLaw} {n : Nat} (hn : l.most = some n) {P : Params} {h : Heap} {args : List WData} {vals : List Value}
    (hpre : l.row.toRowW.claim.pre args = true) (hwl : WellAll P h vals args) :
    ∃ a vs ns, vals = [Value.ref a] ∧ args = [WData.list (ns.map WData.int)] ∧ h.get? a = some { cls := .type "list", data := .seq vs.toArray } ∧ IntsAre vs ns ∧ ns.length ≤ n := by
  have hsh : WShape.hasAll [] args [.list .int] = true := (pre_splitW hpre).1
  have hc : l.pre.holds [] { args := args } = true := (pre_splitW hpre).2
  obtain ⟨d, r, rfl, h1, h2⟩ := hasAllW_cons hsh
  obtain rfl := hasAllW_nil h2
  obtain ⟨xs, rfl, h3⟩ := hasW_list h1
  obtain ⟨ns, rfl⟩ := items_int h3
  have hlen : ns.length ≤ n := by
    unfold OpenLaw.pre at hc
    have h4 : (WTm.not (.lt (.lit (.int (n : Int))) (.len (.arg 0)))).holds [] { args := [.list (ns.map .int)] } = true := by
      have h4 := (holds_andW hc).1
      rw [hn] at h4
      exact h4
    have h5 := condW_of h4 (w_not (w_lt w_lit (w_len_list (w_arg rfl))))
    rw [List.length_map] at h5
    refine Nat.le_of_not_lt fun q => ?_
    have q' : (n : Int) < ((ns.length : Nat) : Int) := by omega
    first
      | (rw [decide_eq_true q'] at h5; exact absurd h5 (by decide))
      | (simp at h5; omega)
  cases hwl with
  | cons w1 w2 =>
    cases w2
    cases w1 with
    | list ho hall => exact ⟨_, _, ns, rfl, rfl, ho, ints_of_wellAll ns _ hall, hlen⟩
theorem post_true (l : OpenLaw) (args : List WData) : l.row.toRowW.claim.post args (.bool true) args = true :=
  postW_of (r := l.row.toRowW) (X := (true == true))
    (show WShape.has [] (.bool true) .bool = true by first | rfl | decide | simp [WShape.has, WShape.arms, WShape.armsAll])
    (show (WTm.eq .res (.lit (.bool true))).value [] { args := args, res := some (.bool true), after := args } = some (.bool (true == true)) from w_eq_bool (w_res rfl) w_lit) rfl
theorem attach_call {l : OpenLaw} {n : Nat} {q : Program} {loose : List Str} {XP : (Str → Option Value) → Heap → Prop} {YP : World → Heap → Prop} {d : DefRec}
    (hn : l.most = some n) (hdf : d.params.defaults = [])
    (call : ∀ (w : World) (s₀ s₁ : Shared) (mg mb : Str → Option Value) (fa : Addr) (o : Obj) (pm cd doc : Value) (a : Addr) (vs : List Value) (ns : List Int),
      Ground q loose [] XP w s₀ mg mb s₁.heap → YP w s₁.heap →
      s₁.heap.get? fa = some o → o.data = .func (docDef d.name d.params d.body d.scope pm cd doc) → s₁.heap.CodeRec cd d.name → mg d.name = some (.ref fa) →
      s₁.heap.get? a = some { cls := .type "list", data := .seq vs.toArray } → IntsAre vs ns → ns.length ≤ n → s₁.gens = #[] →
      codeAny (model l.prog w) callerA (.call (.ref fa) ⟨[.ref a], []⟩) (fun r s' => r = .ok (.ret (.bool true)) ∧ OldK s₁.heap s'.heap ∧ s'.os = s₁.os ∧ AllBare s'.gens) s₁) :
    WalkO q loose XP YP l.row.toRowW d [] (fun f vs => PySem.call f vs) := by
  intro w s₀ s₁ mg mb G Y fa o pm cd doc dV kV ho hd hcd hD hmg hg args vals as hpre hlay hrd hwl hlo
  obtain rfl : dV = .none := Dflts.none hD hdf
  obtain rfl : kV = .none := Dflts.noKw hD
  obtain ⟨a, vs, ns, rfl, rfl, hobj, hints, hlen⟩ := script_of hn hpre hwl
  refine enter_call (codeAny_mono (call w s₀ s₁ mg mb fa o pm cd doc a vs ns G Y ho (fd_plain hd) hcd hmg hobj hints hlen hg) fun r s' hq => ?_)
  obtain ⟨rfl, h2, h3, h4⟩ := hq
  exact ⟨.inl ⟨.bool true, .bool true, [], rfl, fun _ => rfl, .bool true, post_true l _, fun _ => ⟨List.Pairwise.nil, fun _ hm => (nomatch hm)⟩⟩, h2, h3, h4⟩
section
variable {prog : Program} {w : World} {A : Around} {E : Value → Shared → Prop} {s : Shared} {K : Frag}
end
end Att
namespace L2
open PySem PySem.Spec PyProof.Rows
theorem vals_ints : ∀ {vs : List Value} {ns : List Int}, IntsAre vs ns → Vals (ns.map V.int) vs
  | _, _, .nil => .nil
  | _, _, .cons n t h => .cons ⟨t, rfl⟩ (vals_ints h)
end L2
namespace L2
open PySem PySem.Spec PyProof.Rows
end L2
/- THE LAST THEOREM (shape; LID, My.* are yours):
   My.Adr: a structure of the addresses that your layer names (classes, functions); My.Txt K t: a structure (Prop) of the equations over K;
   My.txt_mk : {K} {implicit addresses ..} (e1 : nsIn K mainGlobals "law" = some (some (.ref f))) (e2 : K.lookup f = some ⟨oc, od, .func (fnOf "law" "law" params body scope dV kV doc pm an cdv ct), sl⟩) (e3 : codeIn K cdv "law" = true) .. : ∃ t, My.Txt K t
set_option maxRecDepth 100000 in
set_option maxHeartbeats 0 in
theorem PySem.Challenge.cw_LID_holds : PySem.Challenge.rw_LID.Holds := by
  w_on; o_law; k_head; (case hw => w_witness2)
  k_fill
  refine L2.walk_of (l := PySem.Challenge.rw_LID) (n := 63) (k := 40) (x := "script") (CX := fun w => ..) (sp := fun _ => My.sp_law) rfl (by decide) rfl ⟨rfl, by decide, by decide⟩ (fun w h Y => PySem.W.kIn_of Y) ?F ?S ?C
  case F =>
    intro w mg fa h KX G hmg
    have T : ∃ t, My.Txt (L2.KOf KX) t := by
      dsimp only [L2.KOf]                          -- K must stand as «<heap const> w.params» for k_is
      refine' My.txt_mk ?e1 ?e2 ?e3 ..
      (case e1 => PySem.W.k_is)                    -- in the order: a name -> its address -> its object -> its parts
      (case e2 => PySem.W.k_is)
      ..
    obtain ⟨t, T⟩ := T
    have e0 := hmg.symm.trans (PySem.W.mg_of KX G T.law)
    cases e0                                       -- fa is the law's own address
    exact ⟨_, fun s u => .of_eq rfl, fun base kb nb => My.law_fn T kb nb⟩     -- if «.of_eq rfl» comes too early: refine' ⟨_, ?b, fun base kb nb => My.law_fn T kb nb⟩; exact fun s u => .of_eq rfl
  case S => exact fun w H a ns hl hO hS => ..
  case C => exact ..
(the tactic k_is has no namespace: write k_is) -/
namespace L2
open PySem PySem.Spec PyProof.Rows
noncomputable def defArgs (s : Stmt) : Arguments := match s with
  | .FunctionDef _ a _ _ _ _ _ _ _ _ => a
  | _ => { posonlyargs := [], args := [], vararg := none, kwonlyargs := [], kw_defaults := [], kwarg := none, defaults := [] }
noncomputable def defBody (s : Stmt) : List Stmt := match s with
  | .FunctionDef _ _ b _ _ _ _ _ _ _ => b
  | _ => []
noncomputable def defScope (s : Stmt) : Scope := match s with
  | .FunctionDef _ _ _ _ _ _ sc _ _ _ => sc
  | _ => { kind := .function, names := [], isGenerator := false, isCoroutine := false }
noncomputable abbrev CX0 : CXT := fun _ _ _ _ _ _ => False
noncomputable abbrev E0 : XK := fun _ _ _ => False
theorem pass0 {X : Cx} : Passes CX0 X E0 := fun _ _ _ _ _ _ _ h => h.elim
structure Fun (K : PySem.W.Frag) (x qual : Str) (st : Stmt) (f : Addr) (fd : FuncData) : Prop where
  ex : ∃ (oc : Value) (od : Option Addr) (kV doc pm : Value) (an : Option Addr) (cdv ct : Value) (osl : Array (Option Value)),
    fd = PySem.W.fnOf x qual (defArgs st) (defBody st) (defScope st) .none kV doc pm an cdv ct ∧ K.lookup f = some ⟨oc, od, .func fd, osl⟩ ∧ PySem.W.codeIn K cdv qual = true
  kp : PySem.W.keepIn K (.ref f) = true
section
variable {P : Program} {w : World} {K : PySem.W.Frag} {mg : Str → Option Value} {base : Heap}
theorem Fun.ok {x qual : Str} {st : Stmt} {f : Addr} {fd : FuncData} {N ps : List Str} {k : Nat} {sp : Sp} (F : Fun K x qual st f fd) (S : FnScope N ps (defScope st)) (len : ∀ vs H Q E, sp vs H Q E → vs.length = ps.length)
    (hbody : ∀ (cdv : Value) (A : Around) (outer : List Env) (s : Shared) (H : Hp) (vs : List V) (Q : VK) (E : XK), Room k (A.deeper (envOfC qual (defScope st) s.heap.objs.size f cdv)) → sp vs H Q E →
      ∃ t, PSs (cxOf CX0 P w K mg base N qual (defScope st) f cdv A outer s H E).nox (defBody st) t ∧ t { nx := fun _ H' => Q .non H', rt := Q } (start N vs) H) : FnOk P w K mg base CX0 (k + 1) f fd ps sp := by
  obtain ⟨oc, od, kV, doc, pm, an, cdv, ct, osl, rfl, lk, hcd⟩ := F.ex
  refine fn_of lk hcd S len fun A outer s H vs Q E hr hsp => ?_
  obtain ⟨t, h, q⟩ := hbody cdv A outer s H vs Q E hr hsp
  exact ⟨t, h.nox, q⟩
theorem Fun.binds {x qual : Str} {st : Stmt} {f : Addr} {fd : FuncData} {ps : List Str} (F : Fun K x qual st f fd)
    (h : ∀ (kV doc pm : Value) (an : Option Addr) (cdv ct : Value) (us : List Value), us.length = ps.length → bindArgs (PySem.W.fnOf x qual (defArgs st) (defBody st) (defScope st) .none kV doc pm an cdv ct) ⟨us, []⟩ = pure (ps.zip us)) : Binds K fd ps [] := by
  obtain ⟨oc, od, kV, doc, pm, an, cdv, ct, osl, rfl, lk, hcd⟩ := F.ex
  exact .all (h kV doc pm an cdv ct)
theorem fun_mk {x qual : Str} {st : Stmt} {f : Addr} {oc : Value} {od an : Option Addr} {osl : Array (Option Value)} {kV doc pm cdv ct : Value} (l : K.lookup f = some ⟨oc, od, .func (PySem.W.fnOf x qual (defArgs st) (defBody st) (defScope st) .none kV doc pm an cdv ct), osl⟩)
    (c : PySem.W.codeIn K cdv qual = true) (k : PySem.W.keepIn K (.ref f) = true) : Fun K x qual st f (PySem.W.fnOf x qual (defArgs st) (defBody st) (defScope st) .none kV doc pm an cdv ct) := ⟨⟨oc, od, kV, doc, pm, an, cdv, ct, osl, rfl, l, c⟩, k⟩
end
theorem small1000 {n : Nat} (h : n ≤ 1000) : n < sizeLine := Nat.lt_of_le_of_lt h (by decide)
section
variable {X : Cx}
theorem pv (i : Nat) {x : Str} {pos : Pos} (hN : X.N[i]? = some x := by rfl) (hv : Vis X.env.scope x := by first | exact Or.inl rfl | exact Or.inr (Or.inl rfl) | exact Or.inr (Or.inr rfl)) (hd : (x == ("__debug__" : Str)) = false := by decide)
    (hcd : (x == ("__classdict__" : Str)) = false := by decide) : PE X (.Name x pos) (tVar i) := pe_var hN hv hd hcd
end
theorem iteF {A B : Prop} (h : B) : if false = true then A else B := by
  rw [if_neg Bool.false_ne_true]
  exact h
theorem ite2 {c A B : Prop} [Decidable c] (h1 : c → A) (h2 : ¬ c → B) : if c then A else B := by
  by_cases h : c
  · rw [if_pos h]
    exact h1 h
  · rw [if_neg h]
    exact h2 h
noncomputable def Same (H H' : Hp) : Prop := ∀ b o, H b = some o → H' b = some o
theorem Same.refl (H : Hp) : Same H H := fun _ _ h => h
section
variable {X : Cx}
end
section
variable {κ : Type} [DecidableEq κ]
end
end L2
set_option Elab.async false
set_option linter.all false
set_option maxRecDepth 100000
set_option maxHeartbeats 4000000
namespace L2
open PySem PySem.Spec PyProof.Rows
noncomputable def closL (f : Str → Addr) : List (Str × NameKind) → List (Str × Addr) → List (Str × Addr)
  | [], acc => acc
  | (n, kd) :: r, acc => closL f r (if (kd == NameKind.free) = true then (n, f n) :: acc else acc)
theorem closureFor_closL {scope : Scope} {env : Env} {f : Str → Addr} (h : ∀ y ∈ scope.names, y.2 = .free → cellOf env y.1 = pure (f y.1)) :
    closureFor scope env = pure (closL f scope.names []) := by
  have key : ∀ (l : List (Str × NameKind)) (acc : List (Str × Addr)), (∀ y ∈ l, y.2 = .free → cellOf env y.1 = pure (f y.1)) →
      (forIn l acc (fun (x : Str × NameKind) (cs : List (Str × Addr)) => if (x.2 == NameKind.free) = true then (do let c ← cellOf env x.1; pure (ForInStep.yield ((x.1, c) :: cs))) else pure (ForInStep.yield cs)) : Sem (List (Str × Addr))) = pure (closL f l acc) := by
    intro l
    induction l with
    | nil => intro acc _; rfl
    | cons y r ih =>
      intro acc hy
      obtain ⟨n, kd⟩ := y
      rw [List.forIn_cons]
      by_cases hk : (kd == NameKind.free) = true
      · have e : kd = .free := by simpa using hk
        have hc := hy (n, kd) List.mem_cons_self e
        simp only [hk, if_true]
        dsimp only at hc
        rw [hc]
        show (forIn r ((n, f n) :: acc) _ : Sem _) = _
        rw [ih _ fun z hz => hy z (List.mem_cons_of_mem _ hz)]
        simp only [closL, hk, if_true]
      · simp only [hk, if_false]
        show (forIn r acc _ : Sem _) = _
        rw [ih _ fun z hz => hy z (List.mem_cons_of_mem _ hz)]
        simp only [closL, hk, if_false]
        rfl
  have := key scope.names [] h
  unfold closureFor
  show (forIn scope.names [] _ >>= fun r => pure r) = _
  rw [show (forIn scope.names ([] : List (Str × Addr)) _ : Sem _) = _ from this]
  rfl
theorem closL_lookup {f : Str → Addr} : ∀ (l : List (Str × NameKind)) (acc : List (Str × Addr)) {x : Str} {c : Addr}, (closL f l acc).lookup x = some c → ((x, NameKind.free) ∈ l ∧ c = f x) ∨ acc.lookup x = some c
  | [], _, _, _, h => .inr h
  | (n, kd) :: r, acc, x, c, h => by
    rw [closL] at h
    rcases closL_lookup r _ h with ⟨h1, h2⟩ | h1
    · exact .inl ⟨List.mem_cons_of_mem _ h1, h2⟩
    · by_cases hk : (kd == NameKind.free) = true
      · rw [if_pos hk] at h1
        have e : kd = .free := by simpa using hk
        subst e
        by_cases hx : x = n
        · subst hx
          simp at h1
          exact .inl ⟨List.mem_cons_self, h1.symm⟩
        · have hb : (x == n) = false := beq_eq_false_iff_ne.mpr hx
          rw [List.lookup_cons, hb] at h1
          exact .inr h1
      · rw [if_neg hk] at h1
        exact .inr h1
theorem closL_has {f : Str → Addr} : ∀ (l : List (Str × NameKind)) (acc : List (Str × Addr)) {x : Str}, ((x, NameKind.free) ∈ l ∨ acc.lookup x = some (f x)) → (closL f l acc).lookup x = some (f x)
  | [], _, _, h => by
    rcases h with h | h
    · exact absurd h (by simp)
    · exact h
  | (n, kd) :: r, acc, x, h => by
    rw [closL]
    refine closL_has r _ ?_
    by_cases hk : (kd == NameKind.free) = true
    · rw [if_pos hk]
      have e : kd = .free := by simpa using hk
      subst e
      by_cases hx : x = n
      · subst hx
        exact .inr (by simp)
      · have hb : (x == n) = false := beq_eq_false_iff_ne.mpr hx
        rcases h with h | h
        · rcases List.mem_cons.mp h with z | z
          · cases z; exact absurd rfl hx
          · exact .inl z
        · exact .inr (by rw [List.lookup_cons, hb]; exact h)
    · rw [if_neg hk]
      rcases h with h | h
      · rcases List.mem_cons.mp h with z | z
        · cases z; exact absurd rfl hk
        · exact .inl z
      · exact .inr h
theorem relabel_mem {scope : Scope} {env : Env} {x : Str} (h : (relabel scope env).names.lookup x = some .cell ∨ (relabel scope env).names.lookup x = some .free) : (x, NameKind.free) ∈ scope.names ∨ (x, NameKind.cell) ∈ scope.names := by
  have go : ∀ kd, (relabel scope env).names.lookup x = some kd → kd = .cell ∨ kd = .free → (x, NameKind.free) ∈ scope.names ∨ (x, NameKind.cell) ∈ scope.names := by
    intro kd h hk
    have hm := PySem.mem_of_lookup h
    unfold relabel at hm
    obtain ⟨⟨n, k0⟩, hy, e⟩ := List.mem_map.mp hm
    by_cases hc : (k0 == NameKind.free && env.scope.kind == .function && env.kindOf n == some .cell) = true
    · simp only [hc, if_true] at e
      cases e
      have : k0 = .free := by
        simp only [Bool.and_eq_true] at hc
        simpa using hc.1.1
      subst this
      exact .inl hy
    · simp only [hc, if_false] at e
      cases e
      rcases hk with r | r
      · subst r; exact .inr hy
      · subst r; exact .inl hy
  rcases h with h | h
  · exact go _ h (.inl rfl)
  · exact go _ h (.inr rfl)
noncomputable def ownC (scope : Scope) (cl : List (Str × Addr)) (n : Nat) : List (Str × Addr) := cellsFrom (n + 1) scope.names cl
theorem cells_app : ∀ (names : List (Str × NameKind)) (n : Nat) (acc : List (Str × Addr)), cellsFrom n names acc = cellsFrom n names [] ++ acc
  | [], _, _ => rfl
  | (x, k) :: r, n, acc => by
    unfold cellsFrom
    split
    · rw [cells_app r (n + 1) ((x, n) :: acc), cells_app r (n + 1) [(x, n)], List.append_assoc]; rfl
    · exact cells_app r n acc
theorem cells_mem : ∀ (names : List (Str × NameKind)) (n : Nat) {x : Str} {c : Addr}, (x, c) ∈ cellsFrom n names [] → (x, NameKind.cell) ∈ names
  | [], _, _, _, h => by cases h
  | (y, k) :: r, n, x, c, h => by
    unfold cellsFrom at h
    split at h
    · rename_i hk
      rw [cells_app] at h
      rcases List.mem_append.mp h with h | h
      · exact List.mem_cons_of_mem _ (cells_mem r (n + 1) h)
      · have hk : k = .cell := by simpa using hk
        subst hk
        cases List.mem_singleton.mp h
        exact List.mem_cons_self
    · exact List.mem_cons_of_mem _ (cells_mem r n h)
theorem lk_app {α : Type} : ∀ {l r : List (Str × α)} {x : Str} {c : α}, (l ++ r).lookup x = some c → l.lookup x = some c ∨ (l.lookup x = none ∧ r.lookup x = some c)
  | [], r, x, c, h => .inr ⟨rfl, h⟩
  | (y, v) :: l, r, x, c, h => by
    rw [List.cons_append, List.lookup_cons] at h
    rw [List.lookup_cons]
    cases hb : x == y with
    | true => rw [hb] at h; exact .inl h
    | false => rw [hb] at h; exact lk_app h
theorem lk_app2 {α : Type} : ∀ {l r : List (Str × α)} {x : Str}, l.lookup x = none → (l ++ r).lookup x = r.lookup x
  | [], r, x, h => rfl
  | (y, v) :: l, r, x, h => by
    rw [List.lookup_cons] at h
    rw [List.cons_append, List.lookup_cons]
    cases hb : x == y with
    | true => rw [hb] at h; cases h
    | false => rw [hb] at h; exact lk_app2 h
theorem lk_app1 {α : Type} : ∀ {l r : List (Str × α)} {x : Str} {c : α}, l.lookup x = some c → (l ++ r).lookup x = some c
  | [], r, x, c, h => by cases h
  | (y, v) :: l, r, x, c, h => by
    rw [List.lookup_cons] at h
    rw [List.cons_append, List.lookup_cons]
    cases hb : x == y with
    | true => rw [hb] at h; exact h
    | false => rw [hb] at h; exact lk_app1 h
theorem newEnv_own {M : Model} {A : Around} {E : Value → Shared → Prop} {s : Shared} {scope : Scope} {globals : Addr} {closure : List (Str × Addr)} {qual : Str} {func : Option Addr} {code : Value} {env : Env} {builtins : Addr} {Q : Env → Shared → Prop}
    (hQ : ∀ h₁ : Heap, h₁.Ns s.heap.objs.size (fun _ => none) → (∀ b o, s.heap.get? b = some o → h₁.get? b = some o) → CellsOk h₁ (s.heap.objs.size + 1) (cellsFrom (s.heap.objs.size + 1) scope.names []) →
      Q (newEnv scope s.heap.objs.size globals (cellsFrom (s.heap.objs.size + 1) scope.names closure) qual func code (some env) builtins) { s with heap := h₁ }) :
    wpAny M A (newFunctionEnv scope globals closure [] qual func code (some env) builtins) Q E s := by
  simp only [newFunctionEnv, Option.isSome_some, if_true]
  refine wpAny_bind (wpAny_alloc ?_)
  refine wpAny_bind (wpAny_layCells _ (fun name kind cells => by cases hkc : kind == NameKind.cell <;> simp [hkc]) _ _ _ _ ?_)
  have ok := cellsFrom_ok scope.names (s.heap.push { cls := .type "dict", data := .dict #[] }) (s.heap.objs.size + 1) [] ⟨fun _ _ hm => (nomatch hm), List.Pairwise.nil⟩ (by rw [Heap.size_push]; exact Nat.le_refl _)
  rw [Heap.size_push] at ok
  rw [show ({ s with heap := s.heap.push { cls := .type "dict", data := .dict #[] } } : Shared).heap.objs.size = s.heap.objs.size + 1 from Heap.size_push ..]
  rw [List.forIn_nil]
  refine wpAny_bind (wpAny_pure (wpAny_pure ?_))
  exact hQ _ ((Heap.Ns.new s.heap (.type "dict")).keeps (pushCells_keeps _ _)) (fun b o e => pushCells_keeps _ _ b o (Heap.get?_push_of_some _ e)) ok
theorem lookup_mapped {φ : Str × NameKind → Str × NameKind} (hφ : ∀ n k, φ (n, k) = (n, k) ∨ (k = .free ∧ φ (n, k) = (n, .cell))) : ∀ {names : List (Str × NameKind)} {x : Str}, names.lookup x = some .free → (names.map φ).lookup x = some .cell ∨ (names.map φ).lookup x = some .free
  | [], _, h => by simp at h
  | (n, k) :: r, x, h => by
    have ih := @lookup_mapped φ hφ r x
    rw [List.map_cons]
    cases hx : x == n with
    | true =>
      simp only [List.lookup_cons, hx] at h
      cases h
      rcases hφ n .free with e | ⟨_, e⟩
      · rw [e, List.lookup_cons, hx]; exact .inr rfl
      · rw [e, List.lookup_cons, hx]; exact .inl rfl
    | false =>
      simp only [List.lookup_cons, hx] at h
      rcases hφ n k with e | ⟨_, e⟩
      · rw [e, List.lookup_cons, hx]; exact ih h
      · rw [e, List.lookup_cons, hx]; exact ih h
theorem relabel_free {scope : Scope} {env : Env} {x : Str} (h : scope.names.lookup x = some .free) : (relabel scope env).names.lookup x = some .cell ∨ (relabel scope env).names.lookup x = some .free := by
  unfold relabel
  refine lookup_mapped (fun n k => ?_) h
  by_cases hc : (k == NameKind.free && env.scope.kind == .function && env.kindOf n == some .cell) = true
  · refine .inr ⟨?_, if_pos hc⟩
    simp only [Bool.and_eq_true] at hc
    simpa using hc.1.1
  · exact .inl (if_neg hc)
noncomputable def turnC (target iter : Expr) (ifs : List Expr) (it : Value) (env : Env) (act : Sem Fin → Sem Fin) (more : Sem Fin) : Sem Fin := do
  standAt iter.pos
  match ← pyNext it with
  | none => pure (.done .next)
  | some v =>
    letOwnedTupleGo target it v
    assign target env v
    let mut ok := true
    for c in ifs do
      if ok then ok ← isTrue c env (eval c env)
    if ok then act more else more
noncomputable def actEm (elt : Expr) (acc : Value) (env : Env) : Sem Unit := do let _ ← call (.builtin "list.append") [acc, ← eval elt env]
section
variable {prog : Program} {w : World} {A : Around} {R : Result → Shared → Prop} {s : Shared}
theorem loopC {elt : Expr} {gens : List Comprehension} {scope : Scope} {pos : Pos} {d : Nat} {it acc : Value} {env : Env} {target iter : Expr} {ifs : List Expr} {act : Sem Fin → Sem Fin} (I : Nat → Shared → Prop)
    (ht : compTurn (.ListComp elt gens scope pos) d it acc env = turnC target iter ifs it env act (again (.compLoop (.ListComp elt gens scope pos) d it acc env)))
    (turn : ∀ n s, I n s → wpAny (model prog w) A (pyNext it) (fun r s₁ => match r with
      | none => R (.ok .next) s₁
      | some v => wpAny (model prog w) A (letOwnedTupleGo target it v) (fun _ s₀ => wpAny (model prog w) A (assign target env v) (fun _ s₂ =>
          wpAny (model prog w) A (forIn ifs true fun c r => if r = true then do let ok ← isTrue c env (eval c env); pure (ForInStep.yield ok) else pure (ForInStep.yield r)) (fun ok s₃ =>
            if ok = true then ∀ (k : Sem Fin) (Q : Fin → Shared → Prop) (E : Value → Shared → Prop), (∀ s₅, (∃ m, m < n ∧ I m s₅) → wpAny (model prog w) A k Q E s₅) → wpAny (model prog w) A (act k) Q E s₃
            else ∃ m, m < n ∧ I m s₃) (fun _ _ => False) s₂) (fun _ _ => False) s₀) (fun _ _ => False) s₁) (fun _ _ => False) s)
    (n : Nat) (h : I n s) : codeAny (model prog w) A (.compLoop (.ListComp elt gens scope pos) d it acc env) R s := by
  refine codeAny_loop rfl I (fun n s hI => ?_) n h
  show wpAny _ A ((compTurn (.ListComp elt gens scope pos) d it acc env).onRaise (fun x => do noteFrame x env; theTreesLotGoes x)) _ _ s
  refine wpAny_noted ?_
  rw [ht]
  unfold turnC
  refine wpAny_bind (wpAny_standAt (wpAny_bind (wpAny_mono (turn n s hI) (fun r s₁ h₁ => ?_) fun _ _ h' => h'.elim)))
  cases r with
  | none => exact wpAny_pure h₁
  | some v =>
    refine wpAny_bind (wpAny_mono h₁ (fun _ s₀ h₀ => ?_) fun _ _ h' => h'.elim)
    refine wpAny_bind (wpAny_mono h₀ (fun _ s₂ h₂ => wpAny_bind (wpAny_mono h₂ (fun ok s₃ h₃ => ?_) fun _ _ h' => h'.elim)) fun _ _ h' => h'.elim)
    cases ok with
    | false => exact wpAny_pure ⟨rfl, h₃⟩
    | true => exact h₃ _ _ _ fun s₅ h₅ => wpAny_pure ⟨rfl, h₅⟩
end
noncomputable def capt (k : Nat) (cap : List Nat) (σ : St) : St := List.replicate k none ++ cap.map fun j => (σ[j]?).join
structure Caps (ON : List Str) (osc : Scope) (N : List Str) (k : Nat) (cap : List Nat) (scope : Scope) : Prop where
  kind : scope.kind = .function := by rfl
  cell : ∀ y ∈ scope.names, y.2 = .cell → scope.names.lookup y.1 = some .cell := by decide +kernel
  loc : ∀ y ∈ scope.names, y.2 = .local → scope.names.lookup y.1 = some .local := by decide +kernel
  free : ∀ y ∈ scope.names, y.2 = .free → osc.names.lookup y.1 = some .cell ∨ osc.names.lookup y.1 = some .free := by decide +kernel
  len : N.length = k + cap.length := by rfl
  capx : (cap.map fun j => ON[j]?) = (N.drop k).map some := by rfl
  capf : ∀ x ∈ N.drop k, scope.names.lookup x = some .free := by decide +kernel
noncomputable def cxC (X : Cx) (N : List Str) (scope : Scope) (cl : List (Str × Addr)) (C : Addr) (ex : List Addr) (pins : List (Addr × Obj)) (s₀ : Shared) (H₀ : Hp) : Cx where
  prog := X.prog
  w := X.w
  K := X.K
  mg := X.mg
  base := X.base
  A := X.A
  N := N
  s₀ := s₀
  H₀ := H₀
  env := compEnvC scope cl C X.env
  outer := X.stack
  stack := X.stack
  ex := ex
  fn := fun x => match scope.names.lookup x with
    | some .cell => true
    | _ => false
  calm := X.calm
  pn := X.pn ++ pins
  xe := fun _ _ => False
noncomputable def PTs (X : Cx) (ifs : List Expr) (t : TT) : Prop :=
  ∀ (pins : List (Addr × Obj)) (s : Shared) (σ : St) (H : Hp) (Q : Bool → Hp → Prop), Inv X pins σ H s → t σ H Q →
    wpAny (model X.prog X.w) X.A (forIn ifs true fun c r => if r = true then do let ok ← isTrue c X.env (eval c X.env); pure (ForInStep.yield ok) else pure (ForInStep.yield r)) (TP X pins σ Q) X.xe s
noncomputable def tNoT : TT := fun _ H Q => Q true H
theorem pts_nil {X : Cx} : PTs X [] tNoT := fun _ _ _ H _ I h => wpAny_tests_nil ⟨H, I, h⟩
noncomputable def tLC (wi : TI) (k : Nat) (cap : List Nat) (g : TG) (tt : TT) (te : TE) : TE := fun σ H Q => wi σ H fun J H1 => ∀ D, H1 D = none →
  ∃ W : Nat → Nat → St → List V → Hp → Prop, (∃ m, W 0 m (capt k cap σ) [] (upd H1 D (.lst []))) ∧ ∀ i m σ' acc H', W i m σ' acc H' →
    (J.stop i H' ∧ Q (.ref D) H') ∨
    (J.go i H' ∧ ∀ x H2, J.yld i H' x H2 → g x σ' H2 fun σ2 H3 => tt σ2 H3 fun ok H4 => if ok = true then te σ2 H4 fun y H5 => H5 D = some (.lst acc) ∧ acc.length < sizeLine ∧ ∃ m', m' < m ∧ W (i + 1) m' σ2 (acc ++ [y]) (upd H5 D (.lst (acc ++ [y])))
      else H4 D = some (.lst acc) ∧ ∃ m', m' < m ∧ W (i + 1) m' σ2 acc H4)
theorem lc_core {X : Cx} {elt tg iter : Expr} {ifs : List Expr} {rest : List Comprehension} {scope osc : Scope} {pos : Pos} {N : List Str} {k : Nat} {cap : List Nat} {g : TG} {tt : TT} {cl : List (Str × Addr)} {act : Env → Sem Fin → Sem Fin}
    {pins : List (Addr × Obj)} {σ : St} {H3 : Hp} {s3 : Shared} {D it : Addr} {fp : List Addr} {tn : Nat → Heap → Prop} {J : It} {Qs : Hp → Prop} {W : Nat → Nat → St → Hp → Prop} {m0 : Nat} {P : Addr → Result → Shared → Prop}
    (hturn : ∀ env, compTurn (.ListComp elt (⟨tg, iter, ifs, 0⟩ :: rest) scope pos) 0 (.ref it) (.ref D) env = turnC tg iter ifs (.ref it) env (act env) (again (.compLoop (.ListComp elt (⟨tg, iter, ifs, 0⟩ :: rest) scope pos) 0 (.ref it) (.ref D) env)))
    (hc : X.calm = true) (hosc : X.env.scope = osc) (hcap : Caps X.N osc N k cap scope)
    (hcl : ∀ {x : Str} {c : Addr}, cl.lookup x = some c → X.env.cells.lookup x = some c) (hhas : ∀ x, (x, NameKind.free) ∈ scope.names → ∃ c, cl.lookup x = some c)
    (hg : ∀ cl C ex pins s H, PG (cxC X N scope cl C ex pins s H) tg g)
    (ht : ∀ cl C ex pins s H, PTs (cxC X N scope cl C ex pins s H) ifs tt)
    (I3 : Inv X pins σ H3 s3) (T : Turn X.prog X.w X.K tg J fp it tn) (st : tn 0 s3.heap) (f3 : ∀ b ∈ fp, FpOk X pins H3 b) (w0 : W 0 m0 (capt k cap σ) H3)
    (hend : ∀ s6 σ5 H5, Inv (cxC X N scope (ownC scope cl s3.heap.objs.size) s3.heap.objs.size fp pins s3 H3) [] σ5 H5 s6 → Inv X pins σ H5 s6 → Qs H5 → P s3.heap.objs.size (.ok .next) s6)
    (turn : ∀ i m σ' H', W i m σ' H' → (J.stop i H' ∧ Qs H') ∨
      (J.go i H' ∧ ∃ C : Bool → St → Hp → Prop, (∀ x H2, J.yld i H' x H2 → g x σ' H2 fun σ2 H3 => tt σ2 H3 fun ok H4 => C ok σ2 H4) ∧ (∀ σ2 H4, C false σ2 H4 → ∃ m', m' < m ∧ W (i + 1) m' σ2 H4) ∧
        ∀ (pins' : List (Addr × Obj)) (s : Shared) (σ2 : St) (H4 : Hp), Inv (cxC X N scope (ownC scope cl s3.heap.objs.size) s3.heap.objs.size fp pins s3 H3) pins' σ2 H4 s → C true σ2 H4 → ∀ (k : Sem Fin) (R : Fin → Shared → Prop) (E : Value → Shared → Prop),
          (∀ s' σ3 H5, Inv (cxC X N scope (ownC scope cl s3.heap.objs.size) s3.heap.objs.size fp pins s3 H3) pins' σ3 H5 s' → (∃ m', m' < m ∧ W (i + 1) m' σ3 H5) → wpAny (model X.prog X.w) X.A k R E s') → wpAny (model X.prog X.w) X.A (act (compEnvC scope (ownC scope cl s3.heap.objs.size) s3.heap.objs.size X.env) k) R E s)) :
    wpAny (model X.prog X.w) X.A (newFunctionEnv scope X.env.globals cl [] X.env.qual none .none (some X.env)) (fun cenv s₄ =>
      codeAny (model X.prog X.w) X.A (.compStart (.ListComp elt (⟨tg, iter, ifs, 0⟩ :: rest) scope pos) 0 (.ref it) (.ref D) { cenv with scope := relabel scope X.env }) (P cenv.locals) s₄) X.xe s3 := by
  refine newEnv_own fun h₁ hns₁ old okc => ?_
  have ownS : ∀ {x : Str} {c : Addr}, (ownC scope cl s3.heap.objs.size).lookup x = some c → ((cellsFrom (s3.heap.objs.size + 1) scope.names []).lookup x = some c ∧ scope.names.lookup x = some .cell ∧ h₁.IsCell c none ∧ s3.heap.objs.size < c) ∨ cl.lookup x = some c := fun {x c} e => by
    unfold ownC at e
    rw [cells_app] at e
    rcases lk_app e with z | z
    · have hm := PySem.mem_of_lookup z
      obtain ⟨a1, a2⟩ := okc.empty x c hm
      exact .inl ⟨z, hcap.cell _ (cells_mem _ _ hm) rfl, a1, a2⟩
    · exact .inr z.2
  have clt : ∀ {x : Str} {c : Addr}, cl.lookup x = some c → c < s3.heap.objs.size := fun {x c} e => by
    obtain ⟨v, z⟩ := I3.cell x c (hcl e)
    exact z.lt
  have ownF : ∀ {x : Str}, scope.names.lookup x = some .free → (ownC scope cl s3.heap.objs.size).lookup x = cl.lookup x := fun {x} e => by
    unfold ownC
    rw [cells_app]
    refine lk_app2 ?_
    cases q : (cellsFrom (s3.heap.objs.size + 1) scope.names []).lookup x with
    | none => rfl
    | some c =>
      have z := hcap.cell _ (cells_mem _ _ (PySem.mem_of_lookup q)) rfl
      rw [e] at z; cases z
  have ownI : ∀ x y c, (ownC scope cl s3.heap.objs.size).lookup x = some c → (ownC scope cl s3.heap.objs.size).lookup y = some c → x = y := fun x y c h1 h2 => by
    rcases ownS h1 with ⟨a1, _, _, a4⟩ | a <;> rcases ownS h2 with ⟨b1, _, _, b4⟩ | b
    · exact name_of_addr okc.apart (PySem.mem_of_lookup a1) (PySem.mem_of_lookup b1)
    · exact absurd (clt b) (Nat.not_lt.mpr (Nat.le_of_lt a4))
    · exact absurd (clt a) (Nat.not_lt.mpr (Nat.le_of_lt b4))
    · exact I3.ok.inj x y c (hcl a) (hcl b)
  have ownH : ∀ x, ((relabel scope X.env).names.lookup x = some .cell ∨ (relabel scope X.env).names.lookup x = some .free) → ∃ c, (ownC scope cl s3.heap.objs.size).lookup x = some c := fun x hx => by
    unfold ownC
    rw [cells_app]
    cases q : (cellsFrom (s3.heap.objs.size + 1) scope.names []).lookup x with
    | some c => exact ⟨c, lk_app1 q⟩
    | none =>
      rcases relabel_mem hx with z | z
      · obtain ⟨c, e⟩ := hhas x z
        exact ⟨c, (lk_app2 q).trans e⟩
      · have y := PySem.W.cellsFrom_some scope.names (s3.heap.objs.size + 1) [] (.inl (hcap.cell _ z rfl))
        rw [q] at y; cases y
  have ownA : ∀ x c, (cxC X N scope (ownC scope cl s3.heap.objs.size) s3.heap.objs.size fp pins s3 H3).fn x = true → (ownC scope cl s3.heap.objs.size).lookup x = some c → s3.heap.objs.size ≤ c := fun x c h e => by
    rcases ownS e with ⟨_, _, _, a4⟩ | a
    · exact Nat.le_of_lt a4
    · have hx : scope.names.lookup x = some .cell := by
        have h : (match scope.names.lookup x with | some .cell => true | _ => false) = true := h
        split at h
        · assumption
        · cases h
      have y := PySem.W.cellsFrom_some scope.names (s3.heap.objs.size + 1) [] (.inl hx)
      obtain ⟨c', hc'⟩ := Option.isSome_iff_exists.mp y
      have e2 : (ownC scope cl s3.heap.objs.size).lookup x = some c' := by unfold ownC; rw [cells_app]; exact lk_app1 hc'
      rw [e] at e2
      cases e2
      exact Nat.le_of_lt (okc.empty x c (PySem.mem_of_lookup hc')).2
  have neC : ∀ b ∈ fp, b ≠ s3.heap.objs.size := fun b hb => by
    obtain ⟨o, e, _⟩ := T.obj _ _ st b hb
    exact Nat.ne_of_lt (Heap.lt_size e)
  have cne : ∀ b ∈ fp, ∀ {x : Str} {c : Addr}, (ownC scope cl s3.heap.objs.size).lookup x = some c → c ≠ b := fun b hb {x c} e => by
    rcases ownS e with ⟨_, _, _, a4⟩ | a
    · obtain ⟨o, e, _⟩ := T.obj _ _ st b hb
      exact Ne.symm (Nat.ne_of_lt (Nat.lt_trans (Heap.lt_size e) a4))
    · exact (f3 b hb).2.2.2.2.1 x c (hcl a)
  have freeC : ∀ {x : Str} {c : Addr}, (ownC scope cl s3.heap.objs.size).lookup x = some c → H3 c = none := fun {x c} e => by
    rcases ownS e with ⟨_, _, _, a4⟩ | a
    · exact I3.hok.fresh (Nat.le_of_lt a4)
    · exact I3.freeC x c (hcl a)
  have nofs : ∀ {b : Addr}, b ≠ X.env.locals → b ∉ X.fs → b ∉ frs X.stack := fun {b} h1 h2 z => (List.mem_cons.mp (I3.stkSub b z)).elim h1 h2
  have IY : Inv (cxC X N scope (ownC scope cl s3.heap.objs.size) s3.heap.objs.size fp pins s3 H3) [] (capt k cap σ) H3 { s3 with heap := h₁ } := by
    refine ⟨⟨I3.ok.mod, hcap.kind, I3.ok.glob, I3.ok.blt, Nat.le_refl _, ownI, ownH, ownA, I3.ok.hd, I3.ok.frames, .inl rfl,
      fun b hb => ⟨neC b hb, fun x c e => cne b hb e⟩, I3.bs, Nat.le_trans I3.ok.bsz I3.sz, fun b o e hb => ?_, fun b hb => nofs (f3 b hb).2.1 (f3 b hb).2.2.1, I3.stack, I3.stkFree⟩,
      rfl, I3.bare, Un.kept old, ⟨_, hns₁, fun i x v e1 e2 e3 => ?_⟩, fun x c e => ?_, I3.hok.fresh (Nat.le_refl _), fun x c e => freeC e, fun p hp => ?_, I3.hok.kept old, ?_⟩
    · rcases (f3 b hb).2.2.2.1 with z | z
      · exact I3.ok.noex b o e z
      · exact absurd (Nat.lt_of_lt_of_le (Heap.lt_size e) (Nat.le_trans I3.ok.bsz z)) (Nat.lt_irrefl _)
    · by_cases hi : i < k
      · unfold capt at e2
        rw [List.getElem?_append_left (by simpa using hi), List.getElem?_replicate, if_pos hi] at e2
        cases e2
      · obtain ⟨d, rfl⟩ : ∃ d, i = k + d := ⟨i - k, by omega⟩
        unfold capt at e2
        rw [List.getElem?_append_right (by simp), List.length_replicate, Nat.add_sub_cancel_left, List.getElem?_map] at e2
        obtain ⟨j, hj, hv⟩ := Option.map_eq_some_iff.mp e2
        have hσ : σ[j]? = some (some v) := by
          cases q : σ[j]? with
          | none => rw [q] at hv; cases hv
          | some o => rw [q] at hv; exact congrArg some hv
        have e1' : (N.drop k)[d]? = some x := by rw [List.getElem?_drop]; exact e1
        have hx : X.N[j]? = some x := by
          have z := congrArg (fun l => l[d]?) hcap.capx
          simp only [List.getElem?_map, hj, e1', Option.map_some] at z
          exact Option.some.inj z
        have hfr := hcap.capf x (List.mem_of_getElem? e1')
        have hfm := PySem.mem_of_lookup hfr
        have hok := hcap.free _ hfm rfl
        rw [← hosc] at hok
        obtain ⟨m, hn, hl⟩ := I3.loc
        obtain ⟨u, r, l⟩ := hl j x v hx hσ (.inr hok)
        refine ⟨u, r, ?_⟩
        rcases l with ⟨hk, _⟩ | ⟨hk, c, hc1, hc2⟩
        · have hk : X.env.scope.names.lookup x = some .local := hk
          rcases hok with z | z <;> (rw [hk] at z; cases z)
        · obtain ⟨c', hc'⟩ := hhas x hfm
          have : c' = c := Option.some.inj ((hcl hc').symm.trans hc1)
          subst this
          exact .inr ⟨relabel_free hfr, c', (ownF hfr).trans hc', hc2.keeps old⟩
    · rcases ownS e with ⟨_, _, a3, _⟩ | a
      · exact ⟨_, a3⟩
      · obtain ⟨v, z⟩ := I3.cell x c (hcl a)
        exact ⟨v, z.keeps old⟩
    · have hp : p ∈ (X.pn ++ pins) ++ [] := hp
      rw [List.append_nil] at hp
      obtain ⟨a1, a2, a3, a4, a5⟩ := I3.pin p hp
      exact ⟨old _ _ a1, a2, Nat.ne_of_lt (Heap.lt_size a1), nofs a3 a4, a5⟩
    · show (capt k cap σ).length = N.length
      unfold capt
      rw [List.length_append, List.length_replicate, List.length_map, hcap.len]
  have stat : ∀ {H' : Hp}, (∀ b ∈ fp, H' b = none) → ∀ b ∈ fp, FpOk (cxC X N scope (ownC scope cl s3.heap.objs.size) s3.heap.objs.size fp pins s3 H3) [] H' b := fun {H'} hn b hb => by
    obtain ⟨a0, a1, a2, a3, a4, a5⟩ := f3 b hb
    refine ⟨hn b hb, neC b hb, nofs a1 a2, .inl hb, fun x c e => cne b hb e, fun p hp => a5 p ?_⟩
    have hp : p ∈ (X.pn ++ pins) ++ [] := hp
    rwa [List.append_nil] at hp
  have loop : codeAny (model X.prog X.w) X.A (.compLoop (.ListComp elt (⟨tg, iter, ifs, 0⟩ :: rest) scope pos) 0 (.ref it) (.ref D) (compEnvC scope (ownC scope cl s3.heap.objs.size) s3.heap.objs.size X.env))
      (P s3.heap.objs.size) { s3 with heap := h₁ } := by
    refine loopC (fun n s' => ∃ i σ' H', Inv (cxC X N scope (ownC scope cl s3.heap.objs.size) s3.heap.objs.size fp pins s3 H3) [] σ' H' s' ∧ tn i s'.heap ∧ (∀ b ∈ fp, H' b = none) ∧ W i n σ' H') (hturn _) ?_ m0
      ⟨0, _, H3, IY, T.keep _ _ _ st fun b _ o e => old b o e, fun b hb => (f3 b hb).1, w0⟩
    rintro n s5 ⟨i, σ5, H5, I5, st5, fr5, w5⟩
    rcases turn i n σ5 H5 w5 with ⟨stop, q⟩ | ⟨go, C, step, hno, hyes⟩
    · refine thn (T.done (cxC X N scope (ownC scope cl s3.heap.objs.size) s3.heap.objs.size fp pins s3 H3) rfl rfl rfl hc i [] s5 σ5 H5 _ I5 (stat fr5) st5 stop) fun r s6 ⟨hr, I6⟩ => ?_
      subst hr
      have I7 : Inv X pins σ H5 s6 := I3.call' I6.os I6.base I6.hok I6.bare fun b hb => by
        obtain ⟨a0, a1, a2, a3, a4, a5⟩ := f3 b hb
        exact ⟨a3, a1, a4, a5⟩
      exact hend s6 σ5 H5 I6 I7 q
    · refine thn (T.item (cxC X N scope (ownC scope cl s3.heap.objs.size) s3.heap.objs.size fp pins s3 H3) rfl rfl rfl hc i [] s5 σ5 H5 _ I5 (stat fr5) st5 go) fun r s6 ⟨u, hr, h6⟩ => ?_
      subst hr
      refine thn h6 fun _ s7 ⟨x, H7, I7, r7, y7, st7, fr7⟩ => ?_
      have I7' := I7.pinned (stat fr7) (T.obj _ _ st7)
      have keepI : ∀ {s' : Shared} {σ' : St} {H' : Hp}, Inv (cxC X N scope (ownC scope cl s3.heap.objs.size) s3.heap.objs.size fp pins s3 H3) ([] ++ pinsAt fp s7.heap) σ' H' s' → tn (i + 1) s'.heap ∧ ∀ b ∈ fp, H' b = none := fun {s' σ' H'} I' => by
        refine ⟨T.keep _ _ _ st7 fun b hb o e => (I'.pin (b, o) (List.mem_append_right _ (List.mem_append_right _ (mem_pinsAt hb e)))).1, fun b hb => ?_⟩
        obtain ⟨o, e, d⟩ := T.obj _ _ st7 b hb
        exact (I'.pin (b, o) (List.mem_append_right _ (List.mem_append_right _ (mem_pinsAt hb e)))).2.1
      refine thn (hg _ _ _ _ _ _ _ s7 σ5 H7 x u _ I7' r7 (step x H7 y7)) fun _ s8 ⟨σ8, H8, I8, q8⟩ => ?_
      refine thn (ht _ _ _ _ _ _ _ s8 σ8 H8 _ I8 q8) fun ok s9 ⟨H9, I9, q9⟩ => ?_
      cases ok with
      | false =>
        obtain ⟨m', hm, w9⟩ := hno _ _ q9
        obtain ⟨k1, k2⟩ := keepI I9
        exact ⟨m', hm, i + 1, σ8, H9, I9.unpinned, k1, k2, w9⟩
      | true =>
        intro kk R E hk
        refine hyes _ s9 σ8 H9 I9 q9 kk R E fun s10 σ10 H10 I10 ⟨m', hm, w10⟩ => hk s10 ?_
        obtain ⟨k1, k2⟩ := keepI I10
        exact ⟨m', hm, i + 1, σ10, H10, I10.unpinned, k1, k2, w10⟩
  exact codeAny_compStart_list loop (T.self X.A 0 _ _ _ (T.keep _ _ _ st fun b _ o e => old b o e) loop)
theorem lc_block {X : Cx} {elt tg iter : Expr} {ifs : List Expr} {scope osc : Scope} {pos : Pos} {N : List Str} {k : Nat} {cap : List Nat} {g : TG} {tt : TT} {te : TE} {cl : List (Str × Addr)}
    {pins : List (Addr × Obj)} {σ : St} {H3 : Hp} {s3 : Shared} {D it : Addr} {fp : List Addr} {tn : Nat → Heap → Prop} {J : It} {Q : VK} {W : Nat → Nat → St → List V → Hp → Prop} {m0 : Nat}
    (hc : X.calm = true) (hosc : X.env.scope = osc) (hcap : Caps X.N osc N k cap scope)
    (hcl : ∀ {x : Str} {c : Addr}, cl.lookup x = some c → X.env.cells.lookup x = some c) (hhas : ∀ x, (x, NameKind.free) ∈ scope.names → ∃ c, cl.lookup x = some c)
    (hg : ∀ cl C ex pins s H, PG (cxC X N scope cl C ex pins s H) tg g)
    (ht : ∀ cl C ex pins s H, PTs (cxC X N scope cl C ex pins s H) ifs tt)
    (he : ∀ cl C ex pins s H, PE (cxC X N scope cl C ex pins s H) elt te)
    (I3 : Inv X pins σ H3 s3) (hD : H3 D = some (.lst [])) (T : Turn X.prog X.w X.K tg J fp it tn) (st : tn 0 s3.heap) (f3 : ∀ b ∈ fp, FpOk X pins H3 b) (w0 : W 0 m0 (capt k cap σ) [] H3)
    (turn : ∀ i m σ' acc H', W i m σ' acc H' → (J.stop i H' ∧ Q (.ref D) H') ∨
      (J.go i H' ∧ ∀ x H2, J.yld i H' x H2 → g x σ' H2 fun σ2 H3 => tt σ2 H3 fun ok H4 => if ok = true then te σ2 H4 fun y H5 => H5 D = some (.lst acc) ∧ acc.length < sizeLine ∧ ∃ m', m' < m ∧ W (i + 1) m' σ2 (acc ++ [y]) (upd H5 D (.lst (acc ++ [y])))
        else H4 D = some (.lst acc) ∧ ∃ m', m' < m ∧ W (i + 1) m' σ2 acc H4)) :
    wpAny (model X.prog X.w) X.A (newFunctionEnv scope X.env.globals cl [] X.env.qual none .none (some X.env)) (fun cenv s₄ =>
      codeAny (model X.prog X.w) X.A (.compStart (.ListComp elt [⟨tg, iter, ifs, 0⟩] scope pos) 0 (.ref it) (.ref D) { cenv with scope := relabel scope X.env }) (compPost (model X.prog X.w) X.A X.xe none (EP X pins σ Q) (.ref D) cenv.locals) s₄) X.xe s3 := by
  refine lc_core (act := fun env k => do actEm elt (.ref D) env; k) (P := fun C => compPost (model X.prog X.w) X.A X.xe none (EP X pins σ Q) (.ref D) C) (Qs := Q (.ref D)) (W := fun i m σ' H' => ∃ acc, H' D = some (.lst acc) ∧ W i m σ' acc H') (fun env => by rfl) hc hosc hcap hcl hhas hg ht I3 T st f3 ⟨[], hD, w0⟩ (fun s6 σ5 H5 I6 I7 q => ?_) fun i m σ' H' ⟨acc, hD', w⟩ => ?_
  · obtain ⟨m, hn, _⟩ := id I6.loc
    refine ⟨m, hn, fun h' hsb => ?_⟩
    obtain ⟨g0, g1, g2, g3, g4, g5⟩ := I3.fpOk (H' := H5) (b := s3.heap.objs.size) (Nat.le_refl _) I6.free
    exact ⟨.ref D, H5, I7.turned (t' := s6.toks) (fun b o hb e => (hsb.2 b hb).trans e) g0 g1 g3 g4 g5, rfl, q⟩
  · rcases turn i m σ' acc H' w with h | ⟨go, step⟩
    · exact .inl h
    · refine .inr ⟨go, _, step, fun σ2 H4 h => ?_, fun pins' s σ2 H4 I h k R E hk => ?_⟩
      · obtain ⟨hD9, m', hm, w9⟩ := (show H4 D = some (.lst acc) ∧ ∃ m', m' < m ∧ W (i + 1) m' σ2 acc H4 from h)
        exact ⟨m', hm, acc, hD9, w9⟩
      · refine wpAny_bind (wpAny_bind (wpAny_mono (he _ _ _ _ _ _ _ s σ2 H4 _ I h) (fun yv s10 ⟨y, H10, I10, r10, hD10, hz, m', hm, w10⟩ => ?_) fun _ _ h' => h'.elim))
        refine wpAny_bind (wpAny_mono (mt_append (X := cxC X N scope (ownC scope cl s3.heap.objs.size) s3.heap.objs.size fp pins s3 H3) _ s10 σ2 H10 (.ref D) [y] (.ref D) [yv] (fun _ H' => H' = upd H10 D (.lst (acc ++ [y]))) I10 rfl (.cons r10 .nil) ⟨D, acc, y, rfl, rfl, hD10, hz, rfl⟩)
          (fun _ s11 ⟨_, H11, I11, _, e11⟩ => wpAny_pure ?_) fun _ _ h' => h'.elim)
        subst e11
        exact hk s11 σ2 _ I11 ⟨m', hm, _, upd_same, w10⟩
theorem pe_lc {X : Cx} {elt tg iter : Expr} {ifs : List Expr} {scope osc : Scope} {pos : Pos} {N : List Str} {k : Nat} {cap : List Nat} {wi : TI} {g : TG} {tt : TT} {te : TE}
    (hc : X.calm = true) (hosc : X.env.scope = osc) (hcap : Caps X.N osc N k cap scope) (hi : PI X tg iter wi)
    (hg : ∀ cl C ex pins s H, PG (cxC X N scope cl C ex pins s H) tg g)
    (ht : ∀ cl C ex pins s H, PTs (cxC X N scope cl C ex pins s H) ifs tt)
    (he : ∀ cl C ex pins s H, PE (cxC X N scope cl C ex pins s H) elt te)
    (hs : ∀ x, foldedSetIterable iter X.env x = pure x := by intro _; rfl) :
    PE X (.ListComp elt [⟨tg, iter, ifs, 0⟩] scope pos) (tLC wi k cap g tt te) := by
  intro pins s σ H Q I h
  have hcell : ∀ y ∈ scope.names, y.2 = .free → ∃ c, X.env.cells.lookup y.1 = some c := fun y hy hk => I.ok.has y.1 (by
    show X.env.scope.names.lookup y.1 = _ ∨ X.env.scope.names.lookup y.1 = _
    rw [hosc]; exact hcap.free y hy hk)
  let f : Str → Addr := fun x => (X.env.cells.lookup x).getD 0
  have hf : ∀ y ∈ scope.names, y.2 = .free → X.env.cells.lookup y.1 = some (f y.1) := fun y hy hk => by
    obtain ⟨c, e⟩ := hcell y hy hk
    show _ = some ((X.env.cells.lookup y.1).getD 0)
    rw [e]; rfl
  have hclos : closureFor scope X.env = pure (closL f scope.names []) := closureFor_closL fun y hy hk => by
    unfold cellOf
    rw [hf y hy hk]
  have hcl : ∀ {x : Str} {c : Addr}, (closL f scope.names []).lookup x = some c → X.env.cells.lookup x = some c := fun {x c} e => by
    rcases closL_lookup _ _ e with ⟨h1, h2⟩ | h1
    · rw [h2]; exact hf (x, .free) h1 rfl
    · simp at h1
  have hhas : ∀ x, (x, NameKind.free) ∈ scope.names → ∃ c, (closL f scope.names []).lookup x = some c := fun x hx => ⟨_, closL_has _ _ (.inl hx)⟩
  generalize closL f scope.names [] = cl at hclos hcl hhas
  rw [eval_ListComp]
  refine wpAny_comprehension_free (use := none) (cl := cl) rfl hs hclos hcap.kind hcap.loc ?_
  refine thn (hi pins s σ H _ I h) fun v s1 h1 => thn h1 fun itv s2 h2 => ?_
  obtain ⟨it, fp, tn, J, H2, e, I2, T, st2, f2, q2⟩ := h2
  subst e
  obtain ⟨W, ⟨m0, w0⟩, turn⟩ := q2 s2.heap.objs.size (I2.hok.fresh (Nat.le_refl _))
  refine wpAny_newObj_type ?_
  have I3 : Inv X pins σ (upd H2 s2.heap.objs.size (.lst [])) { s2 with heap := s2.heap.push { cls := .type "list", data := .seq ([] : List Value).toArray } } := I2.lnew (ys := []) (its := []) (t' := s2.toks) .nil (Nat.zero_le _)
  have lt2 : ∀ b ∈ fp, b ≠ s2.heap.objs.size := fun b hb => by
    obtain ⟨o, e, _⟩ := T.obj _ _ st2 b hb
    exact Nat.ne_of_lt (Heap.lt_size e)
  exact lc_block hc hosc hcap hcl hhas hg ht he I3 upd_same T (T.keep _ _ (s2.heap.push { cls := .type "list", data := .seq ([] : List Value).toArray }) st2 fun b _ o e => Heap.get?_push_of_some _ e) (fun b hb => ⟨by rw [upd_ne (lt2 b hb)]; exact (f2 b hb).1, (f2 b hb).2⟩) w0 turn
end L2
set_option Elab.async false
set_option linter.all false
set_option maxRecDepth 100000
set_option maxHeartbeats 4000000
namespace L2
open PySem PySem.Spec PyProof.Rows
mutual
noncomputable def DatIs (K : PySem.W.Frag) (H : Hp) : PyData → V → Prop
  | .none, v => v = .non
  | .bool b, v => v = .bl b
  | .int i, v => v = .int i
  | .str x, v => v = .str x
  | .tuple ds, v => ∃ a xs, v = .ref a ∧ SqT K H a xs ∧ DatsAre K H ds xs
  | .list ds, v => ∃ a xs, v = .ref a ∧ H a = some (.lst xs) ∧ DatsAre K H ds xs
  | .dict _, _ => False
noncomputable def DatsAre (K : PySem.W.Frag) (H : Hp) : List PyData → List V → Prop
  | [], xs => xs = []
  | d :: ds, xs => ∃ x r, xs = x :: r ∧ DatIs K H d x ∧ DatsAre K H ds r
end
section
variable {X : Cx} {pins : List (Addr × Obj)} {σ : St} {H : Hp} {s : Shared}
mutual
theorem reads_of (I : Inv X pins σ H s) : ∀ (d : PyData) (v : V) (u : Value), DatIs X.K H d v → RelV v u → ∃ as, Reads s.heap u d as
  | .none, v, u, h, r => by
    simp only [DatIs] at h; subst h; cases (show u = Value.none from r); exact ⟨_, .none⟩
  | .bool b, v, u, h, r => by
    simp only [DatIs] at h; subst h; cases (show u = Value.bool b from r); exact ⟨_, .bool b⟩
  | .int i, v, u, h, r => by
    simp only [DatIs] at h; subst h; obtain ⟨t, rfl⟩ := (show ∃ t, u = Value.int i t from r); exact ⟨_, .int i t⟩
  | .str x, v, u, h, r => by
    simp only [DatIs] at h; subst h; obtain ⟨t, rfl⟩ := (show ∃ t, u = Value.str x t from r); exact ⟨_, .str x t⟩
  | .tuple ds, v, u, h, r => by
    simp only [DatIs] at h
    obtain ⟨a, xs, rfl, hq, hd⟩ := h
    cases (show u = Value.ref a from r)
    obtain ⟨its, rv, ht, _⟩ := I.tuple hq
    obtain ⟨o, h1, h2, n, h3⟩ := ht
    obtain ⟨as, ra⟩ := readsAll_of I ds xs its hd rv
    exact ⟨_, .tuple h1 h2 h3 ra⟩
  | .list ds, v, u, h, r => by
    simp only [DatIs] at h
    obtain ⟨a, xs, rfl, hq, hd⟩ := h
    cases (show u = Value.ref a from r)
    obtain ⟨its, rv, ht, _⟩ := I.list (SqL.of hq)
    obtain ⟨o, h1, h2, n, h3⟩ := ht.isList
    obtain ⟨as, ra⟩ := readsAll_of I ds xs its hd rv
    exact ⟨_, .list h1 h2 h3 ra⟩
  | .dict kvs, v, u, h, r => by
    simp only [DatIs] at h
theorem readsAll_of (I : Inv X pins σ H s) : ∀ (ds : List PyData) (xs : List V) (us : List Value), DatsAre X.K H ds xs → Vals xs us → ∃ as, ReadsAll s.heap us ds as
  | [], xs, us, h, r => by
    simp only [DatsAre] at h; subst h; cases r; exact ⟨_, .nil⟩
  | d :: ds, xs, us, h, r => by
    simp only [DatsAre] at h
    obtain ⟨x, rr, rfl, h1, h2⟩ := h
    cases r with
    | cons r1 r2 =>
      obtain ⟨as, ra⟩ := reads_of I d x _ h1 r1
      obtain ⟨bs, rb⟩ := readsAll_of I ds rr _ h2 r2
      exact ⟨_, .cons ra rb⟩
end
end
structure Shw (d : PyData) (dp n : Nat) : Prop where
  sh : d.showable = true
  nd : d.hasDict = false
  de : d.depth ≤ dp
  ln : d.shown.length ≤ n
theorem Shw.int {i : Int} {k : Nat} (h : i.natAbs < 2 ^ k) (hk : 0 < k) (hk2 : k ≤ 1900) : Shw (.int i) 0 (k + 20) := by
  have hlog : i.natAbs.log2 < 1920 := by
    by_cases h0 : i.natAbs = 0
    · rw [h0]; decide
    · have := (Nat.log2_lt h0).mpr h
      omega
  refine ⟨by simp only [PyData.showable, hlog, decide_true], by simp only [PyData.hasDict], by simp only [PyData.depth]; omega, ?_⟩
  have hl2 : i.natAbs.log2 < k := by
    by_cases h0 : i.natAbs = 0
    · rw [h0]; exact hk
    · exact (Nat.log2_lt h0).mpr h
  have e := int_text_length_le hk hl2
  simp only [PyData.shown]
  rw [PySem.ofString_length]
  omega
section
variable {X : Cx}
noncomputable def rRepr (K : PySem.W.Frag) : List V → Hp → VK → Prop := fun xs H Q => ∃ a d, xs = [.ref a] ∧ DatIs K H d (.ref a) ∧ Shw d 50 16000000 ∧ Q (.str d.shown) H
theorem call_repr (hg : X.A.guards = some []) (hu : X.A.units + 64 < cLine) : CallR X (.builtin "repr") (rRepr X.K) := by
  intro pins s σ H xs us Q I r h
  obtain ⟨a, d, rfl, hd, hs, q⟩ := h
  obtain ⟨u, rfl, ru⟩ := vals1 r
  cases ru
  obtain ⟨as, rd⟩ := reads_of I d (.ref a) (.ref a) hd rfl
  refine repr_of_reads' rd hs.sh (PyData.noDict_hsm hs.nd) hg (by have := hs.de; omega) (fun _ _ e => e) (fun h' u tk hk => ⟨.str d.shown, H, I.kept hk, ⟨u, rfl⟩, q⟩) (Nat.le_trans hs.ln (by rw [sizeLine_eq]; decide))
end
end L2
set_option Elab.async false
set_option linter.all false
set_option maxRecDepth 100000
set_option maxHeartbeats 4000000
namespace HT
open PySem PyProof.Rows
section
variable {prog : Program} {w : World} {A : Around} {E : Value → Shared → Prop} {s : Shared}
end
end HT
namespace L2
open PySem PySem.Spec PyProof.Rows
section
variable {X : Cx}
theorem call_sum (hc : X.calm = true) : CallR X (.builtin "sum") (fun xs H Q => ∃ (a : Addr) (ns : List Int), xs = [.ref a] ∧ SqL X.K H a (ns.map V.int) ∧ Q (.int ns.sum) H) := by
  intro pins s σ H xs us Q I r h
  obtain ⟨a, ns, rfl, hq, q⟩ := h
  obtain ⟨u, rfl, ru⟩ := vals1 r
  cases ru
  obtain ⟨its, rv, p, hz⟩ := I.list hq
  have hi := intsAre_of rv
  obtain ⟨zs, hzs⟩ := hi.allInts.items
  have hl : s.heap.IsList a (intItems zs) := hzs ▸ p.isList
  refine sum_intListG (I.ok.hd hc) hl fun h' tk t' hk => ⟨.int ns.sum, H, I.kept hk, ⟨t', ?_⟩, q⟩
  have hn := hi.numsOf
  have e : numsOf (intItems zs).toList = ns := by rw [← hzs]; exact hn
  rw [nums_intItems] at e
  rw [preSum_eq, List.take_of_length_le (by simp), e]
end
end L2
set_option Elab.async false
set_option linter.all false
set_option maxRecDepth 100000
set_option maxHeartbeats 4000000
namespace L2
open PySem PySem.Spec PyProof.Rows
noncomputable def Callee (P : Program) (w : World) (K : PySem.W.Frag) (mg : Str → Option Value) (base : Heap) (x : Str) (k : Nat) (ps : List Str) (sp : Sp) : Prop :=
  ∃ f fd, FnOk P w K mg base CX0 k f fd ps sp ∧ mg x = some (.ref f) ∧ PySem.W.keepIn K (.ref f) = true ∧ Binds K fd ps []
theorem pe_callee {X : Cx} {x : Str} {k : Nat} {ps : List Str} {sp : Sp} {p pos : Pos} {e : Expr} {es : List Expr} {t : TA} (C : Callee X.prog X.w X.K X.mg X.base x k ps sp) (hr : Room k X.A) (hg : Gl X x) (ha : PA X (e :: es) t)
    (hdb : (x == ("__debug__" : Str)) = false := by decide) (he : starEach (e :: es) X.env = (false, eval e X.env) :: starEach es X.env := by rfl) (hpl : (backTo pos (starEach es X.env)).any (·.1) = false := by rfl) :
    PE X (.Call (.Name x p) (e :: es) [] pos) (tCall sp [] E0 t) := by
  obtain ⟨f, fd, G, m, kp, b⟩ := C
  exact pe_call G hr hg m kp b .nil pass0 ha hdb he hpl
noncomputable def KpE (D : Addr → Prop) (H H' : Hp) : Prop := ∀ b o, H b = some o → ¬ D b → H' b = some o
theorem SqT.kp {K : PySem.W.Frag} {H H' : Hp} {a : Addr} {xs : List V} {D : Addr → Prop} (h : SqT K H a xs) (k : KpE D H H') (hD : ∀ b, D b → ∃ kvs, H b = some (.dK kvs)) : SqT K H' a xs := by
  rcases h with (h | ⟨o, h⟩) | h
  · refine .inl (.inl (k _ _ h fun z => ?_))
    obtain ⟨kvs, e⟩ := hD _ z; rw [h] at e; cases e
  · refine .inl (.inr ⟨o, k _ _ h fun z => ?_⟩)
    obtain ⟨kvs, e⟩ := hD _ z; rw [h] at e; cases e
  · exact .inr h
section
variable {K : PySem.W.Frag} {H H' : Hp} {D : Addr → Prop}
mutual
theorem DatIs.kp (k : KpE D H H') (hD : ∀ b, D b → ∃ kvs, H b = some (.dK kvs)) : ∀ (d : PyData) (v : V), DatIs K H d v → DatIs K H' d v
  | .none, v, h => by simpa only [DatIs] using h
  | .bool b, v, h => by simpa only [DatIs] using h
  | .int i, v, h => by simpa only [DatIs] using h
  | .str x, v, h => by simpa only [DatIs] using h
  | .tuple ds, v, h => by
    simp only [DatIs] at h ⊢
    obtain ⟨a, xs, e, hq, hd⟩ := h
    exact ⟨a, xs, e, hq.kp k hD, DatsAre.kp k hD ds xs hd⟩
  | .list ds, v, h => by
    simp only [DatIs] at h ⊢
    obtain ⟨a, xs, e, hq, hd⟩ := h
    refine ⟨a, xs, e, k _ _ hq fun z => ?_, DatsAre.kp k hD ds xs hd⟩
    obtain ⟨kvs, e⟩ := hD _ z; rw [hq] at e; cases e
  | .dict kvs, v, h => by simp only [DatIs] at h
theorem DatsAre.kp (k : KpE D H H') (hD : ∀ b, D b → ∃ kvs, H b = some (.dK kvs)) : ∀ (ds : List PyData) (xs : List V), DatsAre K H ds xs → DatsAre K H' ds xs
  | [], xs, h => by simpa only [DatsAre] using h
  | d :: ds, xs, h => by
    simp only [DatsAre] at h ⊢
    obtain ⟨x, r, e, h1, h2⟩ := h
    exact ⟨x, r, e, DatIs.kp k hD d x h1, DatsAre.kp k hD ds r h2⟩
end
end
theorem Same.kpE {H H' : Hp} (s : Same H H') : KpE (fun _ => False) H H' := fun b o h _ => s b o h
theorem DatIs.same {K : PySem.W.Frag} {H H' : Hp} {d : PyData} {v : V} (h : DatIs K H d v) (s : Same H H') : DatIs K H' d v := DatIs.kp s.kpE (fun _ z => z.elim) d v h
theorem DatsAre.same {K : PySem.W.Frag} {H H' : Hp} {ds : List PyData} {xs : List V} (h : DatsAre K H ds xs) (s : Same H H') : DatsAre K H' ds xs := DatsAre.kp s.kpE (fun _ z => z.elim) ds xs h
theorem SqT.same {K : PySem.W.Frag} {H H' : Hp} {a : Addr} {xs : List V} (h : SqT K H a xs) (s : Same H H') : SqT K H' a xs := h.kp s.kpE (fun _ z => z.elim)
theorem Same.upd {H : Hp} {p : Addr} {o : HO} (hp : H p = none) : Same H (upd H p o) := fun b u e => by rw [upd_ne (ne_of_none e hp)]; exact e
section
variable {K : PySem.W.Frag} {H : Hp}
theorem DatsAre.length : ∀ {ds : List PyData} {xs : List V}, DatsAre K H ds xs → xs.length = ds.length
  | [], xs, h => by simp only [DatsAre] at h; subst h; rfl
  | d :: ds, xs, h => by
    simp only [DatsAre] at h
    obtain ⟨x, r, rfl, h1, h2⟩ := h
    rw [List.length_cons, List.length_cons, h2.length]
theorem DatsAre.get : ∀ {ds : List PyData} {xs : List V} {i : Nat} {x : V}, DatsAre K H ds xs → xs[i]? = some x → ∃ d, ds[i]? = some d ∧ DatIs K H d x
  | [], xs, i, x, h, e => by simp only [DatsAre] at h; subst h; simp at e
  | d :: ds, xs, i, x, h, e => by
    simp only [DatsAre] at h
    obtain ⟨y, r, rfl, h1, h2⟩ := h
    cases i with
    | zero => simp at e; subst e; exact ⟨d, rfl, h1⟩
    | succ i => simpa using h2.get (i := i) (by simpa using e)
theorem DatsAre.snoc : ∀ {ds : List PyData} {xs : List V} {d : PyData} {x : V}, DatsAre K H ds xs → DatIs K H d x → DatsAre K H (ds ++ [d]) (xs ++ [x])
  | [], xs, d, x, h, h' => by simp only [DatsAre] at h; subst h; simp only [List.nil_append, DatsAre]; exact ⟨x, [], rfl, h', rfl⟩
  | e :: ds, xs, d, x, h, h' => by
    simp only [DatsAre] at h
    obtain ⟨y, r, rfl, h1, h2⟩ := h
    simp only [List.cons_append, DatsAre]
    exact ⟨y, r ++ [x], rfl, h1, h2.snoc h'⟩
theorem DatsAre.append {ds' : List PyData} {xs' : List V} (h' : DatsAre K H ds' xs') : ∀ {ds : List PyData} {xs : List V}, DatsAre K H ds xs → DatsAre K H (ds ++ ds') (xs ++ xs')
  | [], xs, h => by simp only [DatsAre] at h; subst h; simpa using h'
  | e :: ds, xs, h => by
    simp only [DatsAre] at h
    obtain ⟨y, r, rfl, h1, h2⟩ := h
    simp only [List.cons_append, DatsAre]
    exact ⟨y, r ++ xs', rfl, h1, DatsAre.append h' h2⟩
theorem DatIs.tup {ds : List PyData} {xs : List V} {a : Addr} (h : H a = some (.tup xs)) (h2 : DatsAre K H ds xs) : DatIs K H (.tuple ds) (.ref a) := by
  simp only [DatIs]; exact ⟨a, xs, rfl, SqT.of h, h2⟩
theorem DatIs.lst {ds : List PyData} {xs : List V} {a : Addr} (h : H a = some (.lst xs)) (h2 : DatsAre K H ds xs) : DatIs K H (.list ds) (.ref a) := by
  simp only [DatIs]; exact ⟨a, xs, rfl, h, h2⟩
theorem DatsAre.nil : DatsAre K H [] [] := by simp only [DatsAre]
theorem DatsAre.cons {d : PyData} {x : V} {ds : List PyData} {xs : List V} (h : DatIs K H d x) (h2 : DatsAre K H ds xs) : DatsAre K H (d :: ds) (x :: xs) := by
  simp only [DatsAre]; exact ⟨x, xs, rfl, h, h2⟩
theorem DatIs.int {i : Int} : DatIs K H (.int i) (.int i) := by simp only [DatIs]
theorem DatIs.bl {b : Bool} : DatIs K H (.bool b) (.bl b) := by simp only [DatIs]
theorem DatIs.st {x : Str} : DatIs K H (.str x) (.str x) := by simp only [DatIs]
theorem DatIs.non : DatIs K H .none .non := by simp only [DatIs]
end
theorem lc_gen {J : It} {D : Addr} (n : Nat) {g : TG} {tt : TT} {te : TE} {Q : Hp → Prop} {σ0 : St} {H0 : Hp} (Pv : Nat → St → List V → Hp → Prop) (h0 : Pv 0 σ0 [] H0)
    (hgo : ∀ i σ acc H, i < n → Pv i σ acc H → J.go i H) (hstop : ∀ σ acc H, Pv n σ acc H → J.stop n H)
    (hs : ∀ i σ acc H, i < n → Pv i σ acc H → ∀ x H2, J.yld i H x H2 → ∀ R : St → List V → Hp → Prop, (∀ σ acc H, Pv (i + 1) σ acc H → R σ acc H) →
      g x σ H2 fun σ2 H3 => tt σ2 H3 fun ok H4 => if ok = true then te σ2 H4 fun y H5 => H5 D = some (.lst acc) ∧ acc.length < sizeLine ∧ R σ2 (acc ++ [y]) (upd H5 D (.lst (acc ++ [y]))) else H4 D = some (.lst acc) ∧ R σ2 acc H4)
    (hd : ∀ σ acc H, Pv n σ acc H → Q H) :
    ∃ W : Nat → Nat → St → List V → Hp → Prop, (∃ m, W 0 m σ0 [] H0) ∧ ∀ i m σ' acc H', W i m σ' acc H' →
    (J.stop i H' ∧ Q H') ∨
    (J.go i H' ∧ ∀ x H2, J.yld i H' x H2 → g x σ' H2 fun σ2 H3 => tt σ2 H3 fun ok H4 => if ok = true then te σ2 H4 fun y H5 => H5 D = some (.lst acc) ∧ acc.length < sizeLine ∧ ∃ m', m' < m ∧ W (i + 1) m' σ2 (acc ++ [y]) (upd H5 D (.lst (acc ++ [y])))
      else H4 D = some (.lst acc) ∧ ∃ m', m' < m ∧ W (i + 1) m' σ2 acc H4) := by
  refine ⟨fun i m σ acc H => m = n - i ∧ i ≤ n ∧ Pv i σ acc H, ⟨n, by simp, Nat.zero_le _, h0⟩, ?_⟩
  rintro i m σ acc H ⟨rfl, hi, p⟩
  by_cases hlt : i < n
  · exact .inr ⟨hgo i σ acc H hlt p, fun x H2 y => hs i σ acc H hlt p x H2 y (fun σ acc H => ∃ m', m' < n - i ∧ m' = n - (i + 1) ∧ i + 1 ≤ n ∧ Pv (i + 1) σ acc H) fun σ acc H q => ⟨n - (i + 1), by omega, rfl, hlt, q⟩⟩
  · have e : i = n := by omega
    subst e
    exact .inl ⟨hstop σ acc H p, hd σ acc H p⟩
end L2
set_option Elab.async false
set_option linter.all false
set_option maxRecDepth 100000
set_option maxHeartbeats 4000000
namespace L2
open PySem PySem.Spec PyProof.Rows
section
variable {X : Cx} {K : PySem.W.Frag}
theorem pg_tupK {es : List Expr} {k : Nat} {t : TGs} {n : Nat} {pos : Pos} (hK : X.K = K) (hc : X.calm = true) (h : PGs X es t)
    (hn : (assignEach es X.env).length = n := by rfl) (hst : (assignEach es X.env).findIdx? (·.1) = none := by rfl) : PG X (.Tuple es k pos) (gTup K n t) := by
  subst hK; exact pg_tup hc h hn hst
theorem ix_tupK (hK : X.K = K) : IxR X (rIxT K) := by subst hK; exact ix_tup
theorem ix_listK (hK : X.K = K) : IxR X (rIxL K) := by subst hK; exact ix_list
theorem call_len_seqK (hK : X.K = K) : CallR X (.builtin "len") (fun xs H Q => ∃ p ys, xs = [.ref p] ∧ (SqL K H p ys ∨ SqT K H p ys) ∧ Q (.int ys.length) H) := by subst hK; exact call_len_seq
theorem call_tuple_ofK (hK : X.K = K) : CallR X (.type "tuple") (fun xs H Q => ∃ p ys, xs = [.ref p] ∧ ((SqL K H p ys ∧ ∀ l, H l = none → Q (.ref l) (upd H l (.tup ys))) ∨ (SqT K H p ys ∧ Q (.ref p) H))) := by subst hK; exact call_tuple_of
theorem call_reprK (hK : X.K = K) (hg : X.A.guards = some []) (hu : X.A.units + 64 < cLine) : CallR X (.builtin "repr") (rRepr K) := by subst hK; exact call_repr hg hu
theorem pt_truthK {a : Expr} {ta : TE} (hK : X.K = K) (ha : PE X a ta) (he : ∀ whole, isTrue a X.env whole = (do let v ← whole; standAt a.pos; holding [v] (truthy v))) :
    PT X a (fun σ H Q => ta σ H fun x H' => ∃ k, TruV K x H' k ∧ Q k H') := by subst hK; exact pt_truth ha he
end
end L2
set_option Elab.async false
set_option linter.all false
set_option maxRecDepth 100000
set_option maxHeartbeats 4000000
namespace L2
open PySem PySem.Spec PyProof.Rows
section
variable {X : Cx} {K : PySem.W.Frag}
noncomputable def rCatA (K : PySem.W.Frag) : R2 := fun x y H Q => ∃ a b xs ys, x = .ref a ∧ y = .ref b ∧ SqT K H a xs ∧ SqT K H b ys ∧ xs.length + ys.length ≤ sizeLine ∧
  (xs = [] → Q (.ref b) H) ∧ (ys = [] → Q (.ref a) H) ∧ ∀ p, H p = none → Q (.ref p) (upd H p (.tup (xs ++ ys)))
theorem op_catA (hK : X.K = K) : OpR X (binaryOp .Add) (rCatA K) := by
  subst hK
  intro pins s σ H x y v u Q I rx ry h
  obtain ⟨a, b, xs, ys, rfl, rfl, ha, hb, hz, q0, q1, q2⟩ := h
  by_cases hx : xs = []
  · cases rx
    cases ry
    obtain ⟨its, r1, p1, _⟩ := I.tuple ha
    obtain ⟨its2, r2, p2, _⟩ := I.tuple hb
    subst hx
    cases r1
    obtain ⟨⟨cls, dd, data, sl⟩, ho, hc, n, hd⟩ := id p1
    obtain ⟨⟨cls2, dd2, data2, sl2⟩, ho2, hc2, n2, hd2⟩ := id p2
    simp only at hc hd hc2 hd2
    subst hc hd hc2 hd2
    exact concat_meets ⟨_, ho, rfl⟩ ⟨_, ho2, rfl⟩ noFill_tuple_add seq_tuple_add PySem.F.slot_tuple_add PySem.F.entry_tuple_add (PySem.F.args_tuple_add_2 _ _)
      (tuple_addW0 a b #[] its2.toArray n n2 dd dd2 sl sl2 rfl) ⟨ho, ho2, ⟨.ref b, H, I, rfl, q0 rfl⟩⟩
  · exact op_catT pins s σ H (.ref a) (.ref b) v u Q I rx ry ⟨a, b, xs, ys, rfl, rfl, ha, hb, hx, hz, q1, fun _ => q2⟩
end
end L2
set_option Elab.async false
set_option linter.all false
set_option maxRecDepth 100000
set_option maxHeartbeats 4000000
namespace L2
open PySem PySem.Spec PyProof.Rows
theorem lc_blockS {X : Cx} {y : Str} {py : Pos} {ix : Nat} {elt tg iter : Expr} {ifs : List Expr} {scope osc : Scope} {pos : Pos} {N : List Str} {k : Nat} {cap : List Nat} {g : TG} {tt : TT} {te : TE} {cl : List (Str × Addr)}
    {pins : List (Addr × Obj)} {σ : St} {H3 : Hp} {s3 : Shared} {D it : Addr} {fp : List Addr} {tn : Nat → Heap → Prop} {J : It} {Q : St → Hp → Prop} {W : Nat → Nat → St → List V → Hp → Prop} {m0 : Nat}
    (hNd : X.N.Nodup) (hix : X.N[ix]? = some y) (hLy : Loc X.env.scope y) (hfy : X.fn y = true ∨ X.env.scope.names.lookup y = some .local)
    (hc : X.calm = true) (hosc : X.env.scope = osc) (hcap : Caps X.N osc N k cap scope)
    (hcl : ∀ {x : Str} {c : Addr}, cl.lookup x = some c → X.env.cells.lookup x = some c) (hhas : ∀ x, (x, NameKind.free) ∈ scope.names → ∃ c, cl.lookup x = some c)
    (hg : ∀ cl C ex pins s H, PG (cxC X N scope cl C ex pins s H) tg g)
    (ht : ∀ cl C ex pins s H, PTs (cxC X N scope cl C ex pins s H) ifs tt)
    (he : ∀ cl C ex pins s H, PE (cxC X N scope cl C ex pins s H) elt te)
    (I3 : Inv X pins σ H3 s3) (hD : H3 D = some (.lst [])) (T : Turn X.prog X.w X.K tg J fp it tn) (st : tn 0 s3.heap) (f3 : ∀ b ∈ fp, FpOk X pins H3 b) (w0 : W 0 m0 (capt k cap σ) [] H3)
    (turn : ∀ i m σ' acc H', W i m σ' acc H' → (J.stop i H' ∧ Q (σ.set ix (some (.ref D))) H') ∨
      (J.go i H' ∧ ∀ x H2, J.yld i H' x H2 → g x σ' H2 fun σ2 H3 => tt σ2 H3 fun ok H4 => if ok = true then te σ2 H4 fun y H5 => H5 D = some (.lst acc) ∧ acc.length < sizeLine ∧ ∃ m', m' < m ∧ W (i + 1) m' σ2 (acc ++ [y]) (upd H5 D (.lst (acc ++ [y])))
        else H4 D = some (.lst acc) ∧ ∃ m', m' < m ∧ W (i + 1) m' σ2 acc H4)) :
    wpAny (model X.prog X.w) X.A (newFunctionEnv scope X.env.globals cl [] X.env.qual none .none (some X.env)) (fun cenv s₄ =>
      codeAny (model X.prog X.w) X.A (.compStart (.ListComp elt [⟨tg, iter, ifs, 0⟩] scope pos) 0 (.ref it) (.ref D) { cenv with scope := relabel scope X.env }) (compPost (model X.prog X.w) X.A X.xe (some (assign (.Name y py) X.env)) (fun _ s' => ∃ σ' H', Inv X pins σ' H' s' ∧ Q σ' H') (.ref D) cenv.locals) s₄) X.xe s3 := by
  refine lc_core (act := fun env k => do actEm elt (.ref D) env; k) (P := fun C => compPost (model X.prog X.w) X.A X.xe (some (assign (.Name y py) X.env)) (fun _ s' => ∃ σ' H', Inv X pins σ' H' s' ∧ Q σ' H') (.ref D) C) (Qs := fun H' => Q (σ.set ix (some (.ref D))) H') (W := fun i m σ' H' => ∃ acc, H' D = some (.lst acc) ∧ W i m σ' acc H') (fun env => by rfl) hc hosc hcap hcl hhas hg ht I3 T st f3 ⟨[], hD, w0⟩ (fun s6 σ5 H5 I6 I7 q => ?_) fun i m σ' H' ⟨acc, hD', w⟩ => ?_
  · obtain ⟨m, hn, _⟩ := id I6.loc
    obtain ⟨g0, g1, g2, g3, g4, g5⟩ := I3.fpOk (H' := H5) (b := s3.heap.objs.size) (Nat.le_refl _) I6.free
    obtain ⟨o, es, ep, ho, hdat, rest⟩ := id hn
    have I7p : Inv X (pins ++ [(s3.heap.objs.size, o)]) σ H5 s6 := I7.pins_of fun p hp => by
      rcases List.mem_append.mp hp with z | z
      · exact I7.pin p (List.mem_append_right _ z)
      · rw [List.mem_singleton.mp z]
        exact ⟨ho, g0, g1, g2, fun v z => by have z' : o.data = .cell v := z; rw [hdat] at z'; cases z'⟩
    show wpAny (model X.prog X.w) X.A (assign (.Name y py) X.env (.ref D)) _ _ s6
    refine wpAny_assign_Name (store_ok I7p hNd hix hLy (v := .ref D) rfl (fun s7 I8 => ?_) hfy)
    have hC7 := (I8.pin (s3.heap.objs.size, o) (List.mem_append_right _ (List.mem_append_right _ (List.mem_singleton.mpr rfl)))).1
    refine ⟨m, ⟨o, es, ep, hC7, hdat, rest⟩, fun h' hsb => ?_⟩
    exact ⟨_, H5, I8.unpinned.turned (t' := s7.toks) (fun b o hb e => (hsb.2 b hb).trans e) g0 g1 g3 g4 g5, q⟩
  · rcases turn i m σ' acc H' w with h | ⟨go, step⟩
    · exact .inl h
    · refine .inr ⟨go, _, step, fun σ2 H4 h => ?_, fun pins' s σ2 H4 I h k R E hk => ?_⟩
      · obtain ⟨hD9, m', hm, w9⟩ := (show H4 D = some (.lst acc) ∧ ∃ m', m' < m ∧ W (i + 1) m' σ2 acc H4 from h)
        exact ⟨m', hm, acc, hD9, w9⟩
      · refine wpAny_bind (wpAny_bind (wpAny_mono (he _ _ _ _ _ _ _ s σ2 H4 _ I h) (fun yv s10 ⟨y, H10, I10, r10, hD10, hz, m', hm, w10⟩ => ?_) fun _ _ h' => h'.elim))
        refine wpAny_bind (wpAny_mono (mt_append (X := cxC X N scope (ownC scope cl s3.heap.objs.size) s3.heap.objs.size fp pins s3 H3) _ s10 σ2 H10 (.ref D) [y] (.ref D) [yv] (fun _ H' => H' = upd H10 D (.lst (acc ++ [y]))) I10 rfl (.cons r10 .nil) ⟨D, acc, y, rfl, rfl, hD10, hz, rfl⟩)
          (fun _ s11 ⟨_, H11, I11, _, e11⟩ => wpAny_pure ?_) fun _ _ h' => h'.elim)
        subst e11
        exact hk s11 σ2 _ I11 ⟨m', hm, _, upd_same, w10⟩
theorem ps_setLC {X : Cx} {y : Str} {py spos : Pos} {ix : Nat} {elt tg iter : Expr} {ifs : List Expr} {scope osc : Scope} {pos : Pos} {N : List Str} {k : Nat} {cap : List Nat} {wi : TI} {g : TG} {tt : TT} {te : TE}
    (hNd : X.N.Nodup) (hix : X.N[ix]? = some y) (hLy : Loc X.env.scope y)
    (hc : X.calm = true) (hosc : X.env.scope = osc) (hcap : Caps X.N osc N k cap scope) (hi : PI X tg iter wi)
    (hg : ∀ cl C ex pins s H, PG (cxC X N scope cl C ex pins s H) tg g)
    (ht : ∀ cl C ex pins s H, PTs (cxC X N scope cl C ex pins s H) ifs tt)
    (he : ∀ cl C ex pins s H, PE (cxC X N scope cl C ex pins s H) elt te)
    (hs : ∀ x, foldedSetIterable iter X.env x = pure x := by intro _; rfl) (hfy : X.fn y = true ∨ X.env.scope.names.lookup y = some .local := by first | exact .inl rfl | exact .inr rfl | assumption)
    (hsw : swapsWith (.ListComp elt [⟨tg, iter, ifs, 0⟩] scope pos) (some (.Name y py)) spos.line X.env = pure true := by rfl) :
    PS X (.Assign [.Name y py] (.ListComp elt [⟨tg, iter, ifs, 0⟩] scope pos) spos) (tAsg (tLC wi k cap g tt te) (gName ix)) := by
  intro pins s σ H D0 I h
  have hcell : ∀ y ∈ scope.names, y.2 = .free → ∃ c, X.env.cells.lookup y.1 = some c := fun y hy hk => I.ok.has y.1 (by
    show X.env.scope.names.lookup y.1 = _ ∨ X.env.scope.names.lookup y.1 = _
    rw [hosc]; exact hcap.free y hy hk)
  let f : Str → Addr := fun x => (X.env.cells.lookup x).getD 0
  have hf : ∀ y ∈ scope.names, y.2 = .free → X.env.cells.lookup y.1 = some (f y.1) := fun y hy hk => by
    obtain ⟨c, e⟩ := hcell y hy hk
    show _ = some ((X.env.cells.lookup y.1).getD 0)
    rw [e]; rfl
  have hclos : closureFor scope X.env = pure (closL f scope.names []) := closureFor_closL fun y hy hk => by
    unfold cellOf
    rw [hf y hy hk]
  have hcl : ∀ {x : Str} {c : Addr}, (closL f scope.names []).lookup x = some c → X.env.cells.lookup x = some c := fun {x c} e => by
    rcases closL_lookup _ _ e with ⟨h1, h2⟩ | h1
    · rw [h2]; exact hf (x, .free) h1 rfl
    · simp at h1
  have hhas : ∀ x, (x, NameKind.free) ∈ scope.names → ∃ c, (closL f scope.names []).lookup x = some c := fun x hx => ⟨_, closL_has _ _ (.inl hx)⟩
  generalize closL f scope.names [] = cl at hclos hcl hhas
  rw [exec_Assign_Name_used _ _ _ _ hsw]
  refine wpAny_bind (wpAny_standAt (wpAny_bind ?_))
  show wpAny _ X.A (do let _ ← comprehension (.ListComp elt [⟨tg, iter, ifs, 0⟩] scope pos) scope X.env _ (newList []) false (eval iter X.env) (some (assign (.Name y py) X.env))) _ _ s
  refine wpAny_bind (wpAny_mono (wpAny_comprehension_free (use := some (assign (.Name y py) X.env)) (cl := cl) (Q := fun _ s' => ∃ σ' H', Inv X pins σ' H' s' ∧ D0.nx σ' H') rfl hs hclos hcap.kind hcap.loc ?_) (fun _ s' hq => wpAny_pure (wpAny_pure hq)) fun _ _ e => e)
  refine thn (hi pins s σ H _ I h) fun v s1 h1 => thn h1 fun itv s2 h2 => ?_
  obtain ⟨it, fp, tn, J, H2, e, I2, T, st2, f2, q2⟩ := h2
  subst e
  obtain ⟨W, ⟨m0, w0⟩, turn⟩ := q2 s2.heap.objs.size (I2.hok.fresh (Nat.le_refl _))
  refine wpAny_newObj_type ?_
  have I3 : Inv X pins σ (upd H2 s2.heap.objs.size (.lst [])) { s2 with heap := s2.heap.push { cls := .type "list", data := .seq ([] : List Value).toArray } } := I2.lnew (ys := []) (its := []) (t' := s2.toks) .nil (Nat.zero_le _)
  have lt2 : ∀ b ∈ fp, b ≠ s2.heap.objs.size := fun b hb => by
    obtain ⟨o, e, _⟩ := T.obj _ _ st2 b hb
    exact Nat.ne_of_lt (Heap.lt_size e)
  exact lc_blockS hNd hix hLy hfy hc hosc hcap hcl hhas hg ht he I3 upd_same T (T.keep _ _ (s2.heap.push { cls := .type "list", data := .seq ([] : List Value).toArray }) st2 fun b _ o e => Heap.get?_push_of_some _ e) (fun b hb => ⟨by rw [upd_ne (lt2 b hb)]; exact (f2 b hb).1, (f2 b hb).2⟩) w0 turn
end L2
set_option Elab.async false
set_option linter.all false
set_option maxRecDepth 100000
set_option maxHeartbeats 4000000
namespace L2
open PySem PySem.Spec PyProof.Rows
section
variable {X : Cx} {K : PySem.W.Frag}
end
end L2
set_option Elab.async false
set_option linter.all false
set_option maxRecDepth 100000
set_option maxHeartbeats 4000000
namespace L2
open PySem PySem.Spec PyProof.Rows
noncomputable def isT (a T : String) : Bool := a == T || (a == "bool" && T == "int")
section
variable {X : Cx} {K : PySem.W.Frag}
end
end L2
set_option Elab.async false
set_option linter.all false
set_option maxRecDepth 100000
set_option maxHeartbeats 4000000
namespace L2
open PySem PySem.Spec PyProof.Rows
section
variable {X : Cx} {K : PySem.W.Frag}
end
end L2
set_option Elab.async false
set_option linter.all false
set_option maxRecDepth 100000
set_option maxHeartbeats 4000000
namespace L2
open PySem PySem.Spec PyProof.Rows
section
variable {X : Cx} {K : PySem.W.Frag}
end
end L2
set_option Elab.async false
set_option linter.all false
set_option maxRecDepth 100000
set_option maxHeartbeats 4000000
namespace L2
open PySem PyProof.Rows
section
variable {prog : Program} {w : World} {A : Around} {E : Value → Shared → Prop} {s : Shared} {a0 : Array Keyed} {κ : Nat → Int} {kd : SortKind}
end
end L2
set_option Elab.async false
set_option linter.all false
set_option maxRecDepth 100000
set_option maxHeartbeats 4000000
namespace L2
open PySem PySem.Spec PyProof.Rows PySem.W
noncomputable def cdO (c : Addr) (q : Str) : HO := .ext fun h => h.CodeRec (.ref c) q
noncomputable def TabOk (H : Hp) (P : Addr) (q : Str) : Prop := ∃ ps, H P = some (.tbl ps) ∧ TriplesOk ps.toList ∧ ∀ pos cv, codeAmong pos ps.toList = some cv → ∃ c, cv = .ref c ∧ H c = some (cdO c q)
theorem among_snoc {q p : Pos} {c cv : Value} : ∀ (l : List Value), TriplesOk l → codeAmong q (l ++ [rawInt p.line, rawInt p.col, c]) = some cv → codeAmong q l = some cv ∨ cv = c := by
  intro l h e
  fun_induction TriplesOk l with
  | case1 =>
    simp only [List.nil_append, codeAmong, rawInt] at e
    split at e
    · exact .inr (Option.some.inj e).symm
    · cases e
  | case2 a b c' d e' rest ih =>
    simp only [List.cons_append, codeAmong] at e ⊢
    split
    · rename_i h1
      rw [if_pos h1] at e
      exact .inl e
    · rename_i h1
      rw [if_neg h1] at e
      exact ih h e
  | case3 => exact h.elim
noncomputable def BMd (base : Heap) (mg : Str → Option Value) : Prop := ∃ bm ob, mg "__builtins__" = some (.ref bm) ∧ bm ≠ builtinsNs ∧ base.get? bm = some ob ∧ ob.cls = .type "module" ∧ ob.dict = some builtinsNs ∧ ob.data = .plain
noncomputable def Grew (P : Addr) (q : Str) (H H' : Hp) : Prop := H' = H ∨ ∃ ps more c, H P = some (.tbl ps) ∧ H c = none ∧ c ≠ P ∧ H' = upd (upd H P (.tbl (ps ++ more))) c (cdO c q)
theorem cdO_stay {c : Addr} {q : Str} : ∀ h1 h2 : Heap, h1.CodeRec (.ref c) q → (∀ o, h1.get? c = some o → h2.get? c = some o) → h2.CodeRec (.ref c) q := fun h1 h2 ⟨c', o, vs, t, e, g, r⟩ k => by
  cases e
  exact ⟨c, o, vs, t, rfl, k o g, r⟩
section
variable {X : Cx} {pins : List (Addr × Obj)} {σ : St} {H : Hp} {s : Shared}
theorem Inv.pin1 {a : Addr} {o : Obj} (I : Inv X pins σ H s) (ho : s.heap.get? a = some o) (hH : H a = none) (hL : a ≠ X.env.locals) (hf : a ∉ X.fs) (hd : ∀ v, o.data ≠ .cell v) : Inv X ((a, o) :: pins) σ H s :=
  I.pins_of fun p hp => by
    rcases List.mem_cons.mp hp with rfl | hp
    · exact ⟨ho, hH, hL, hf, hd⟩
    · exact I.pin p (List.mem_append_right _ hp)
theorem Inv.pinFresh {a : Addr} {o : Obj} {s0 : Shared} {pins0 : List (Addr × Obj)} {σ0 : St} {H0 : Hp} (I : Inv X pins σ H s) (I0 : Inv X pins0 σ0 H0 s0) (ho : s.heap.get? a = some o) (h : s0.heap.objs.size ≤ a) (hH : H a = none) (hd : ∀ v, o.data ≠ .cell v) : Inv X ((a, o) :: pins) σ H s :=
  I.pin1 ho hH (fun e => absurd (Nat.lt_of_lt_of_le I0.lt h) (by rw [e]; exact Nat.lt_irrefl _)) (I0.nofs h) hd
theorem lam_made {params : Arguments} {body : Expr} {scope : Scope} {lpos : Pos} {c P : Addr} {q : Str} {cl : List (Str × Addr)} {Q : Value → Shared → Prop} (I : Inv X pins σ H s) (hdef : defaultsOf params X.env = ([], [])) (hcl : closureFor scope X.env = pure cl)
    (hcode : X.env.code = .ref c) (C : CodeHd X.base c P) (BM : BMd X.base X.mg) (T : TabOk H P q) (hq : X.env.qual ++ "<lambda>" = q)
    (h : ∀ f c' ctv H' s', s.heap.objs.size ≤ f → Grew P q H H' → TabOk H' P q → H' c' = some (cdO c' q) → Inv X ((f, kla_obj "<lambda>" q params body scope cl ((X.mg "__name__").getD .none) c' ctv) :: pins) σ H' s' → Q (.ref f) s') :
    wpAny (model X.prog X.w) X.A (eval (.Lambda params body scope lpos) X.env) Q X.xe s := by
  subst hq
  obtain ⟨ps, hP, ht, hall⟩ := T
  have hP' : s.heap.get? P = some (tabObj ps) := I.hok P _ hP
  have hg : s.heap.Ns mainGlobals X.mg := I.mod.glob.keeps I.bk
  obtain ⟨bm, ob, b1, b2, b3, b4, b5, b6⟩ := BM
  have hgP : mainGlobals ≠ P := fun q => by
    obtain ⟨o, es, ep, e, hd, _⟩ := hg
    rw [q, hP'] at e; cases e; cases hd
  have hbP : bm ≠ P := fun q => by
    have e := I.bk _ _ b3
    rw [q, hP'] at e; cases e; cases b4
  have hbG : bm ≠ mainGlobals := fun q => by
    obtain ⟨o, es, ep, e, hd, _⟩ := I.mod.glob
    rw [q, e] at b3; cases b3; rw [hd] at b6; cases b6
  have hB : s.heap.BuiltinsAt X.mg P := ⟨bm, ob, b1, b2, hbG, hbP, I.bk _ _ b3, b4, b5, b6⟩
  refine kla_eval hdef ?_
  cases hf : codeAmong lpos ps.toList with
  | some cv =>
    obtain ⟨c', rfl, hc'⟩ := hall _ _ hf
    refine kla_makeFunctionHit hcl I.ok.glob hg hcode (C.keeps I.bk) hP' ht hf hB fun ctv h' tk hk hsz => ?_
    have I1 : Inv X pins σ H { s with heap := h'.push (kla_obj "<lambda>" (X.env.qual ++ "<lambda>") params body scope cl ((X.mg "__name__").getD .none) c' ctv), toks := tk } := I.kept fun b o e => Heap.get?_push_of_some _ (hk b o e)
    exact h _ c' ctv H _ hsz (.inl rfl) ⟨ps, hP, ht, hall⟩ hc' (I1.pinFresh I (Heap.get?_push_size _ rfl) hsz (I.hok.fresh hsz) (fun v e => nomatch e))
  | none =>
    refine kla_makeFunction hcl I.ok.glob hg hcode (C.keeps I.bk) hP' ht hf hgP hB fun c' ctv h' tk hx hge hlt hrec htb => ?_
    have hcP : c' ≠ P := fun e => absurd (Nat.lt_of_lt_of_le (Heap.lt_size hP') hge) (by rw [e]; exact Nat.lt_irrefl _)
    have hcn : H c' = none := I.hok.fresh hge
    have hk : ∀ b o, b ≠ P → s.heap.get? b = some o → (h'.push (kla_obj "<lambda>" (X.env.qual ++ "<lambda>") params body scope cl ((X.mg "__name__").getD .none) c' ctv)).get? b = some o := fun b o hb e => Heap.get?_push_of_some _ (hx b o hb e)
    have hrec' := hrec.push (kla_obj "<lambda>" (X.env.qual ++ "<lambda>") params body scope cl ((X.mg "__name__").getD .none) c' ctv)
    have htb' := Heap.get?_push_of_some (kla_obj "<lambda>" (X.env.qual ++ "<lambda>") params body scope cl ((X.mg "__name__").getD .none) c' ctv) htb
    have hsz : s.heap.objs.size ≤ h'.objs.size := Nat.le_trans hge (Nat.le_of_lt hlt)
    generalize hH' : upd (upd H P (.tbl (ps ++ #[rawInt lpos.line, rawInt lpos.col, .ref c']))) c' (cdO c' (X.env.qual ++ "<lambda>")) = H'
    have a1 : H' c' = some (cdO c' (X.env.qual ++ "<lambda>")) := by rw [← hH']; exact upd_same
    have a2 : H' P = some (.tbl (ps ++ #[rawInt lpos.line, rawInt lpos.col, .ref c'])) := by rw [← hH', upd_ne hcP.symm]; exact upd_same
    have a3 : ∀ b, b ≠ c' → b ≠ P → H' b = H b := fun b h1 h2 => by rw [← hH', upd_ne h1, upd_ne h2]
    have ne : ∀ b o, H b = some o → b ≠ c' := fun b o e z => by rw [z, hcn] at e; cases e
    generalize hh2 : h'.push (kla_obj "<lambda>" (X.env.qual ++ "<lambda>") params body scope cl ((X.mg "__name__").getD .none) c' ctv) = h2 at hk hrec' htb'
    have un : Un X.fs [] H H' s.heap h2 := by
      refine ⟨fun b o e n _ _ => hk b o (fun z => by rw [z, hP] at n; cases n) e, fun b o e n _ _ => ⟨o.slots, hk b o (fun z => by rw [z, hP] at n; cases n) e⟩, fun b o e n _ => ?_, fun b o e _ => ?_, fun b xs e => ?_, fun b o u e => ?_, fun b qs e => ?_⟩
      · rw [a3 b (fun z => absurd (Nat.lt_of_lt_of_le (Heap.lt_size e) hge) (by rw [z]; exact Nat.lt_irrefl _)) fun z => by rw [z, hP] at n; cases n]
        exact n
      · by_cases hb : b = P
        · exact ⟨_, by rw [hb]; exact htb'⟩
        · exact ⟨o, hk b o hb e⟩
      · rw [a3 b (ne b _ e) fun z => by rw [z, hP] at e; cases e]; exact e
      · rw [a3 b (ne b _ e) fun z => by rw [z, hP] at e; cases e]; exact e
      · by_cases hb : b = P
        · subst hb
          rw [hP] at e; cases e
          exact ⟨_, a2⟩
        · exact ⟨#[], by rw [a3 b (ne b _ e) hb, e]; simp⟩
    have ok : HOk X.prog X.w H' h2 := by
      intro b u e
      by_cases hb : b = c'
      · subst hb
        rw [a1] at e; cases e
        obtain ⟨c2, o, vs, t, e2, g, r⟩ := id hrec'
        cases e2
        exact ⟨hrec', ⟨o, g⟩, cdO_stay⟩
      · by_cases hbP' : b = P
        · subst hbP'
          rw [a2] at e; cases e
          exact htb'
        · rw [a3 b hb hbP'] at e
          refine (I.hok b u e).stay (fun b2 u2 hc q => hk b2 u2 ?_ q) (fun b2 q => ?_) fun b2 xs q => ?_
          · rcases hc with z | z
            · rw [z]; exact hbP'
            · intro z2; rw [z2, hP] at z; cases z
          · rw [a3 b2 (ne b2 _ q) fun z => by rw [z, hP] at q; cases q]; exact q
          · rw [a3 b2 (ne b2 _ q) fun z => by rw [z, hP] at q; cases q]; exact q
    have I1 : Inv X pins σ H' { s with heap := h2, toks := tk } := I.un un ok
    have hfn : H' h'.objs.size = none := by
      rw [a3 _ (Nat.ne_of_gt hlt) fun z => absurd (Nat.lt_of_lt_of_le (Heap.lt_size hP') hsz) (by rw [z]; exact Nat.lt_irrefl _)]
      exact I.hok.fresh hsz
    refine h _ c' ctv H' _ hsz (.inr ⟨ps, _, c', hP, hcn, hcP, hH'.symm⟩) ⟨_, a2, ?_, fun pos cv e => ?_⟩ a1 (I1.pinFresh I (by rw [← hh2]; exact Heap.get?_push_size _ rfl) hsz hfn (fun v e => nomatch e))
    · rw [Array.toList_append]; exact TriplesOk_snoc _ _ _ _ ht
    · rw [Array.toList_append] at e
      rcases among_snoc _ ht e with e | e
      · obtain ⟨c2, r1, r2⟩ := hall _ _ e
        refine ⟨c2, r1, ?_⟩
        by_cases hb : c2 = c'
        · subst hb; exact a1
        · rw [a3 c2 hb fun z => by rw [z, hP] at r2; cases r2]; exact r2
      · exact ⟨c', e, a1⟩
end
end L2
set_option Elab.async false
set_option linter.all false
set_option maxRecDepth 100000
set_option maxHeartbeats 4000000
namespace L2
open PySem PySem.Spec PyProof.Rows PySem.W
section
variable {X : Cx} {pins : List (Addr × Obj)} {σ : St} {H : Hp} {s : Shared}
end
end L2
set_option Elab.async false
set_option linter.all false
set_option maxRecDepth 100000
set_option maxHeartbeats 4000000
namespace L2
open PySem PySem.Spec PyProof.Rows PySem.W
section
variable {X : Cx} {pins : List (Addr × Obj)} {σ : St} {H : Hp} {s : Shared}
end
end L2
set_option Elab.async false
set_option linter.all false
set_option maxRecDepth 100000
set_option maxHeartbeats 4000000
namespace L2
open PySem PySem.Spec PyProof.Rows PySem.W
section
variable {X : Cx} {pins : List (Addr × Obj)} {σ : St} {H : Hp} {s : Shared} {Y : Around} {E : Value → Shared → Prop} {P : PySem.Fin → Shared → Prop} {a kS : Addr} {xs ks : List V} {its : List Value} {e1 : Nat}
end
end L2
set_option Elab.async false
set_option linter.all false
set_option maxRecDepth 100000
set_option maxHeartbeats 4000000
namespace L2
open PySem PySem.Spec PyProof.Rows PySem.W
section
variable {X : Cx} {pins : List (Addr × Obj)} {σ : St} {H : Hp} {s : Shared} {Y : Around} {E : Value → Shared → Prop} {P : PySem.Fin → Shared → Prop} {a : Addr} {xs ks : List V} {its : List Value}
end
end L2
set_option Elab.async false
set_option linter.all false
set_option maxRecDepth 100000
set_option maxHeartbeats 4000000
namespace L2
open PySem PySem.Spec PyProof.Rows PySem.W
end L2
set_option Elab.async false
set_option linter.all false
set_option maxRecDepth 100000
set_option maxHeartbeats 4000000
namespace L2
open PySem PySem.Spec PyProof.Rows PySem.W
section
variable {prog : Program} {w : World} {A : Around} {E : Value → Shared → Prop} {s : Shared}
end
section
variable {X : Cx} {K : PySem.W.Frag}
end
end L2
set_option Elab.async false
set_option linter.all false
set_option maxRecDepth 100000
set_option maxHeartbeats 4000000
namespace L2
end L2
set_option Elab.async false
set_option linter.all false
set_option maxRecDepth 100000
set_option maxHeartbeats 1000000
namespace L3
open PySem
open Sem (wp)
structure SubKind (prog : Program) (w : World) (K : Type) [DecidableEq K] extends HeapKind prog w K where
  deep : Nat
  quietN : ∀ {A : Around} {E : Value → Shared → Prop} {s : Shared} {k : K} {a : Addr} {n : Nat} {Q : Bool → Shared → Prop}, deep ≤ n → is s.heap k a → Q true s → wpAny (model prog w) A (eqIsQuiet n (.ref a)) Q E s
section
variable {prog : Program} {w : World} {K K2 : Type} [DecidableEq K] [DecidableEq K2] (knd : KeyKind prog w K) (sub : SubKind prog w K2) (p : Nat → Bool)
inductive ItemsN (h : Heap) : Nat → List (K ⊕ K2) → List Value → Prop
  | nil {j : Nat} : ItemsN h j [] []
  | val {j : Nat} {k : K} {v : Value} {ks : List (K ⊕ K2)} {vs : List Value} : p j = false → knd.is k v = true → ItemsN h (j + 1) ks vs → ItemsN h j (.inl k :: ks) (v :: vs)
  | ref {j : Nat} {k : K2} {a : Addr} {ks : List (K ⊕ K2)} {vs : List Value} : p j = true → sub.is h k a → ItemsN h (j + 1) ks vs → ItemsN h j (.inr k :: ks) (.ref a :: vs)
noncomputable def IsNest (h : Heap) (ks : List (K ⊕ K2)) (a : Addr) : Prop := ∃ o items n, h.get? a = some o ∧ o.cls = .type "tuple" ∧ o.data = .seq items n ∧ ItemsN knd sub p h 0 ks items.toList
variable {knd sub p}
theorem ItemsN.inj {h : Heap} {j : Nat} {x y : List (K ⊕ K2)} {vs : List Value} (hx : ItemsN knd sub p h j x vs) (hy : ItemsN knd sub p h j y vs) : x = y := by
  induction hx generalizing y with
  | nil => cases hy; rfl
  | val hp h1 _ ih =>
    cases hy with
    | val hp2 h2 t2 => rw [knd.inj _ _ _ h1 h2, ih t2]
    | ref hp2 h2 t2 => rw [hp] at hp2; cases hp2
  | ref hp h1 _ ih =>
    cases hy with
    | val hp2 h2 t2 => rw [hp] at hp2; cases hp2
    | ref hp2 h2 t2 => rw [sub.inj h1 h2, ih t2]
theorem IsNest.typeIs {s : Shared} {ks : List (K ⊕ K2)} {a : Addr} (x : IsNest knd sub p s.heap ks a) : s.TypeIs (.ref a) "tuple" := let ⟨o, _, _, ho, hc, _⟩ := x; ⟨o, ho, hc⟩
theorem IsNest.inj {h : Heap} {a : Addr} {x y : List (K ⊕ K2)} (hx : IsNest knd sub p h x a) (hy : IsNest knd sub p h y a) : x = y := by
  obtain ⟨o, items, n, ho, _, hd, hi⟩ := hx
  obtain ⟨o', items', n', ho', _, hd', hi'⟩ := hy
  obtain rfl : o = o' := Option.some.inj (ho.symm.trans ho')
  rw [hd] at hd'
  injection hd' with h1 _
  subst h1
  exact hi.inj hi'
theorem ItemsN.keeps {h h' : Heap} {d : Addr} {o : Obj} {es ep} {j : Nat} {ks : List (K ⊕ K2)} {vs : List Value} (x : ItemsN knd sub p h j ks vs) (ho : h.get? d = some o) (hd : o.data = .dict es ep) (hs : Heap.SameBut d h h') : ItemsN knd sub p h' j ks vs := by
  induction x with
  | nil => exact .nil
  | val hp h1 _ ih => exact .val hp h1 ih
  | ref hp h1 _ ih => exact .ref hp (sub.keeps h1 ho hd hs) ih
theorem IsNest.keeps {h h' : Heap} {ks : List (K ⊕ K2)} {a d : Addr} {o : Obj} {es ep} (x : IsNest knd sub p h ks a) (ho : h.get? d = some o) (hd : o.data = .dict es ep) (hs : Heap.SameBut d h h') : IsNest knd sub p h' ks a := by
  obtain ⟨o', items, n, ho', hc, hd', hi⟩ := x
  have hne : a ≠ d := by
    rintro rfl
    obtain rfl : o' = o := Option.some.inj (ho'.symm.trans ho)
    rw [hd] at hd'; exact nomatch hd'
  exact ⟨o', items, n, (hs.2 a hne).trans ho', hc, hd', hi.keeps ho hd hs⟩
noncomputable def hashN (knd : KeyKind prog w K) (sub : SubKind prog w K2) : K ⊕ K2 → Int
  | .inl k => knd.hash k
  | .inr k => sub.hash k
noncomputable def drawsN (sub : SubKind prog w K2) : K ⊕ K2 → Nat
  | .inl _ => 1
  | .inr k => sub.draws k
noncomputable def nestHash (knd : KeyKind prog w K) (sub : SubKind prog w K2) (ks : List (K ⊕ K2)) : Int := reduceHash (Builtin.Tuple.tupleHashOf (ks.map (hashN knd sub)))
variable {A : Around} {E : Value → Shared → Prop} {s : Shared}
theorem pyHash_nest {ks : List (K ⊕ K2)} {a : Addr} {Q : Int → Shared → Prop} (hu : A.units < cLine) (hr : sub.room A.in1) (hk : IsNest knd sub p s.heap ks a) (h : Q (nestHash knd sub ks) { s with toks := s.toks + ((ks.map (drawsN sub)).sum + 1) }) :
    wpAny (model prog w) A (PySem.pyHash (.ref a)) Q E s := by
  have hT := hk.typeIs
  obtain ⟨o, items, n, ho, _, hd, hi⟩ := hk
  unfold PySem.pyHash
  first | unfold pyHashByItsType | skip
  first | refine wpAny_bind (wpAny_cRoomFor_or (.inr hu) ?_) | skip
  refine wpAny_bind (wpAny_specialOf hT F.slot_tuple_hash.lookup ?_)
  show wpAny _ _ (if (some (Value.builtin "tuple.__hash__") == some Value.none) = true then _ else _) Q E s
  rw [if_neg (by rw [beq_builtin_none]; exact Bool.false_ne_true)]
  refine wpAny_bind (wpAny_specialOf hT F.slot_tuple_hash.lookup ?_)
  show wpAny _ _ (callSpecialIfBoundUnlessNone? (.ref a) "__hash__" _ >>= _) Q E s
  refine wpAny_bind (wpAny_callSpecialIfBoundUnlessNone?_slot hT F.slot_tuple_hash (wpAny_call_entry F.slot_tuple_hash hT F.entry_tuple_hash ?_ (F.args_tuple_hash_1 _)))
  show wpAny _ _ (Builtin.Tuple.tupleItemsOf (.ref a) >>= _) _ _ s
  refine wpAny_bind (wpAny_tupleItemsOf ho hd ?_)
  refine wpAny_bind ?_
  rw [← Array.forIn_toList]
  refine wpAny_forIn_list _
    (fun rest (b : Array Int) s' => ∃ done left, ks = done ++ left ∧ ItemsN knd sub p s.heap done.length left rest ∧ b.toList = done.map (hashN knd sub) ∧ s' = { s with toks := s.toks + (done.map (drawsN sub)).sum })
    _ ?_ ?_ _ _ ⟨[], ks, rfl, hi, rfl, rfl⟩
  · rintro x rest b s' ⟨done, left, rfl, hl, hb, rfl⟩
    cases hl with
    | @val _ k _ ks' _ hp h1 hl' =>
      refine wpAny_bind (knd.pyHash h1 ?_)
      exact wpAny_pure ⟨done ++ [.inl k], ks', by simp, by simpa using hl', by simp [hb, hashN], by simp [Nat.add_assoc, drawsN]⟩
    | @ref _ k a ks' _ hp h1 hl' =>
      refine wpAny_bind (sub.pyHash hr h1 ?_)
      exact wpAny_pure ⟨done ++ [.inr k], ks', by simp, by simpa using hl', by simp [hb, hashN], by simp [Nat.add_assoc, drawsN]⟩
  · rintro b s' ⟨done, left, rfl, hl, hb, rfl⟩
    cases hl
    rw [List.append_nil] at h
    show wpAny _ _ (retInt (Builtin.Tuple.tupleHashOf b.toList)) _ _ _
    rw [hb]
    refine wpAny_ret_mkInt ?_
    show wpAny _ _ (if (decide (-(2 : Int) ^ 63 ≤ Builtin.Tuple.tupleHashOf (done.map (hashN knd sub))) && decide (Builtin.Tuple.tupleHashOf (done.map (hashN knd sub)) < 2 ^ 63)) = true then _ else _) Q E _
    unfold nestHash reduceHash at h
    by_cases hr : (decide (-(2 : Int) ^ 63 ≤ Builtin.Tuple.tupleHashOf (done.map (hashN knd sub))) && decide (Builtin.Tuple.tupleHashOf (done.map (hashN knd sub)) < 2 ^ 63)) = true
    · rw [if_pos hr]
      rw [if_pos hr] at h
      exact wpAny_pure (by simpa [Nat.add_assoc] using h)
    · rw [if_neg hr]
      rw [if_neg hr] at h
      exact wpAny_bind (wpAny_rule (wpAny_pure (by simpa [Nat.add_assoc] using h)))
theorem nest_eq_tree {x y : List (K ⊕ K2)} {a b : Addr} {P : Fin → Shared → Prop} (hr : sub.room A) (hx : IsNest knd sub p s.heap x a) (hy : IsNest knd sub p s.heap y b) (h : P (.done (.ret (.bool (decide (x = y))))) s) :
    wpAny (model prog w) A (Builtin.«tuple.__eq__» ⟨[.ref a, .ref b], []⟩) P E s := by
  have hTb := hy.typeIs
  obtain ⟨oa, xs, na, hoa, _, hda, hia⟩ := hx
  obtain ⟨ob, ys, nb, hob, _, hdb, hib⟩ := hy
  show wpAny _ _ (isInstance (.ref b) (.type "tuple") >>= _) _ _ s
  refine wpAny_bind (wpAny_isInstance hTb isSubtype_tuple_tuple ?_)
  simp only [Bool.not_true, Bool.false_eq_true, if_false]
  refine wpAny_bind (wpAny_tupleItemsOf hoa hda ?_)
  refine wpAny_bind (wpAny_tupleItemsOf hob hdb ?_)
  refine wpAny_bind ?_
  refine wpAny_forIn_list _
    (fun rest r s' => r.1 = none ∧ s' = s ∧ ∃ j x' y' xs' ys', rest = List.zip xs' ys' ∧ ItemsN knd sub p s.heap j x' xs' ∧ ItemsN knd sub p s.heap j y' ys' ∧ decide (x' = y') = decide (x = y) ∧ (xs'.length == ys'.length) = (xs.size == ys.size))
    _ ?_ ?_ _ _ ⟨rfl, rfl, 0, x, y, xs.toList, ys.toList, rfl, hia, hib, rfl, by simp⟩
  · rintro ⟨u, v⟩ rest r s' ⟨hr', rfl, j, x', y', xs', ys', hz, hx', hy', hdec, hlen⟩
    cases hx' with
    | nil => simp at hz
    | @val _ k1 u' x'' xs'' hp h1 hx'' =>
      cases hy' with
      | nil => simp at hz
      | @ref _ k2 b' y'' ys'' hp2 h2 hy'' => rw [hp] at hp2; cases hp2
      | @val _ k2 v' y'' ys'' hp2 h2 hy'' =>
        simp only [List.zip_cons_cons, List.cons.injEq, Prod.mk.injEq] at hz
        obtain ⟨⟨rfl, rfl⟩, rfl⟩ := hz
        refine wpAny_bind (knd.eqBool (a := k1) (b := k2) h1 h2 ?_)
        by_cases hk : k1 = k2
        · subst hk
          rw [decide_eq_true rfl]
          simp only [Bool.not_true, Bool.false_eq_true, if_false]
          refine wpAny_pure ⟨rfl, rfl, j + 1, x'', y'', xs'', ys'', rfl, hx'', hy'', ?_, by simpa using hlen⟩
          rw [← hdec]
          by_cases hxy : x'' = y''
          · simp [hxy]
          · simp [hxy]
        · rw [decide_eq_false hk]
          simp only [Bool.not_false, if_true]
          have hf : decide (x = y) = false := by rw [← hdec]; simp [hk]
          rw [hf] at h
          exact wpAny_bind (wpAny_pure (wpAny_pure (wpAny_pure h)))
    | @ref _ k1 a' x'' xs'' hp h1 hx'' =>
      cases hy' with
      | nil => simp at hz
      | @val _ k2 v' y'' ys'' hp2 h2 hy'' => rw [hp] at hp2; cases hp2
      | @ref _ k2 b' y'' ys'' hp2 h2 hy'' =>
        simp only [List.zip_cons_cons, List.cons.injEq, Prod.mk.injEq] at hz
        obtain ⟨⟨rfl, rfl⟩, rfl⟩ := hz
        refine wpAny_bind (sub.eqBool (x := k1) (y := k2) hr h1 h2 ?_)
        by_cases hk : k1 = k2
        · subst hk
          rw [decide_eq_true rfl]
          simp only [Bool.not_true, Bool.false_eq_true, if_false]
          refine wpAny_pure ⟨rfl, rfl, j + 1, x'', y'', xs'', ys'', rfl, hx'', hy'', ?_, by simpa using hlen⟩
          rw [← hdec]
          by_cases hxy : x'' = y''
          · simp [hxy]
          · simp [hxy]
        · rw [decide_eq_false hk]
          simp only [Bool.not_false, if_true]
          have hf : decide (x = y) = false := by rw [← hdec]; simp [hk]
          rw [hf] at h
          exact wpAny_bind (wpAny_pure (wpAny_pure (wpAny_pure h)))
  · rintro ⟨r1, r2⟩ s' ⟨hr', rfl, j, x', y', xs', ys', hz, hx', hy', hdec, hlen⟩
    simp only at hr'
    subst hr'
    refine wpAny_pure ?_
    have hfin : (xs.size == ys.size) = decide (x = y) := by
      rw [← hdec, ← hlen]
      cases hx' with
      | nil =>
        cases hy' with
        | nil => simp
        | val _ _ _ => simp
        | ref _ _ _ => simp
      | val _ _ _ =>
        cases hy' with
        | nil => simp
        | val _ _ _ => simp at hz
        | ref _ _ _ => simp at hz
      | ref _ _ _ =>
        cases hy' with
        | nil => simp
        | val _ _ _ => simp at hz
        | ref _ _ _ => simp at hz
    show P (.done (.ret (.bool (xs.size == ys.size)))) s'
    rw [hfin]; exact h
theorem eqBool_nest {x y : List (K ⊕ K2)} {a b : Addr} {Q : Bool → Shared → Prop} (hu : A.units < cLine) (hr : sub.room A.in1) (hx : IsNest knd sub p s.heap x a) (hy : IsNest knd sub p s.heap y b) (h : Q (decide (x = y)) s) :
    wpAny (model prog w) A (PySem.eqBool (.ref a) (.ref b)) Q E s := by
  unfold PySem.eqBool
  try with_reducible refine wpAny_holding ?_
  show wpAny _ _ (if (Value.ref a == Value.ref b) = true then _ else _) Q E s
  by_cases hab : (Value.ref a == Value.ref b) = true
  · rw [if_pos hab]
    have e : a = b := by have := eq_of_beq hab; injection this
    subst e
    obtain rfl := hx.inj hy
    exact wpAny_bind (wpAny_rule (wpAny_pure (by simpa using h)))
  · rw [if_neg hab]
    refine wpAny_bind (wpAny_richCompare_same_room (op := .Eq) hx.typeIs hy.typeIs F.slot_tuple_eq
      (wpAny_call_entry F.slot_tuple_eq hx.typeIs F.entry_tuple_eq (nest_eq_tree ?rm hx hy ⟨_, rfl, (fun e => nomatch e), wpAny_truthy_bool h⟩) (F.args_tuple_eq_2 _ _)) hu)
    case rm => exact hr
theorem quiet_nest {ks : List (K ⊕ K2)} {a : Addr} {n : Nat} {Q : Bool → Shared → Prop} (hn : sub.deep + 1 ≤ n) (hk : IsNest knd sub p s.heap ks a) (h : Q true s) : wpAny (model prog w) A (eqIsQuiet n (.ref a)) Q E s := by
  have hT := hk.typeIs
  obtain ⟨o, items, m, ho, _, hd, hi⟩ := hk
  obtain ⟨n, rfl⟩ : ∃ k, n = k + 1 := ⟨n - 1, by omega⟩
  unfold eqIsQuiet
  refine wpAny_bind (wpAny_specialOf hT F.slot_tuple_eq.lookup ?_)
  show wpAny _ _ (isInstance (.ref a) (.type "tuple") >>= _) _ _ s
  refine wpAny_bind (wpAny_isInstance hT isSubtype_tuple_tuple ?_)
  simp only [Bool.not_true, Bool.false_eq_true, if_false]
  refine wpAny_bind (wpAny_seqItems ho hd ?_)
  refine wpAny_bind ?_
  show wpAny _ _ (forIn items _ _) _ _ s
  rw [← Array.forIn_toList]
  refine wpAny_forIn_list _ (fun rest r s' => r.1 = none ∧ s' = s ∧ ∃ j ks, ItemsN knd sub p s.heap j ks rest) _ ?_ ?_ _ _ ⟨rfl, rfl, 0, ks, hi⟩
  · rintro v rest r s' ⟨hr, rfl, j, ks, hall⟩
    cases hall with
    | val hp h1 ht =>
      rw [eqIsQuiet_byValue _ (knd.byValue _ _ h1)]
      refine wpAny_bind (wpAny_pure ?_)
      simp only [Bool.not_true, Bool.false_eq_true, if_false]
      exact wpAny_pure ⟨rfl, rfl, _, _, ht⟩
    | ref hp h1 ht =>
      refine wpAny_bind (sub.quietN (by omega) h1 ?_)
      simp only [Bool.not_true, Bool.false_eq_true, if_false]
      exact wpAny_pure ⟨rfl, rfl, _, _, ht⟩
  · rintro ⟨r1, r2⟩ s' ⟨hr, rfl, _⟩
    simp only at hr
    subst hr
    exact wpAny_pure h
end
noncomputable def nestKind {prog : Program} {w : World} {K K2 : Type} [DecidableEq K] [DecidableEq K2] (knd : KeyKind prog w K) (sub : SubKind prog w K2) (p : Nat → Bool) (hd : sub.deep < 8) : SubKind prog w (List (K ⊕ K2)) where
  is := IsNest knd sub p
  hash := nestHash knd sub
  draws := fun ks => (ks.map (drawsN sub)).sum + 1
  room := fun A => A.units < cLine ∧ sub.room A.in1
  inj := fun hx hy => hx.inj hy
  keeps := fun x ho hd hs => x.keeps ho hd hs
  pyHash := fun hu hk h => pyHash_nest hu.1 hu.2 hk h
  eqBool := fun hu hx hy h => eqBool_nest hu.1 hu.2 hx hy h
  quiet := fun hk h => quiet_nest (by omega) hk h
  deep := sub.deep + 1
  quietN := fun hn hk h => quiet_nest hn hk h
end L3
set_option Elab.async false
set_option linter.all false
set_option maxRecDepth 100000
set_option maxHeartbeats 1000000
namespace L3
open PySem
open Sem (wp)
noncomputable def bIn (b : Bool) : Int := if b then 1 else 0
noncomputable def isNum (i : Int) : Value → Bool
  | .int j _ => j == i
  | .bool b => bIn b == i
  | _ => false
theorem isNum_shape {i : Int} {v : Value} (h : isNum i v = true) : (∃ t, v = .int i t) ∨ ∃ b, v = .bool b ∧ bIn b = i := by
  cases v with
  | int j t => exact .inl ⟨t, by simp [isNum] at h; rw [h]⟩
  | bool b => exact .inr ⟨b, rfl, by simpa [isNum] using h⟩
  | _ => simp [isNum] at h
section
variable {prog : Program} {w : World} {A : Around} {E : Value → Shared → Prop} {s : Shared}
theorem pyHash_bool {b : Bool} {Q : Int → Shared → Prop} (h : Q (hashInt (bIn b)) { s with toks := s.toks + 1 }) : wpAny (model prog w) A (PySem.pyHash (.bool b)) Q E s := by
  have hr := rawHash_range (bIn b)
  unfold PySem.pyHash
  have hv : [Value.bool b].any Value.onHeap = false := rfl
  refine wpAny_bind ?_
  rw [cRoomFor, if_neg (by rw [hv]; exact Bool.false_ne_true)]; refine wpAny_pure ?_
  refine wpAny_bind (wpAny_specialOf (typeIs_bool s b) F.slot_bool_hash.lookup ?_)
  show wpAny _ _ (if (some (Value.builtin "int.__hash__") == some Value.none) = true then _ else _) Q E s
  rw [if_neg (by rw [beq_builtin_none]; exact Bool.false_ne_true)]
  refine wpAny_bind (wpAny_specialOf (typeIs_bool s b) F.slot_bool_hash.lookup ?_)
  show wpAny _ _ (callSpecialIfBoundUnlessNone? (.bool b) "__hash__" _ >>= _) Q E s
  refine wpAny_bind (wpAny_callSpecialIfBoundUnlessNone?_slot (typeIs_bool s b) F.slot_bool_hash
    (wpAny_call_entry F.slot_bool_hash (typeIs_bool s b) entry_int_hash
      (show wpAny _ _ (do ret (← mkInt (rawHash (bIn b)))) _ _ s from wpAny_ret_mkInt ?_) (args_int_hash _)))
  show wpAny _ _ (if (decide (-(2 : Int) ^ 63 ≤ rawHash (bIn b)) && decide (rawHash (bIn b) < 2 ^ 63)) = true then _ else _) Q E _
  rw [if_pos (by rw [decide_eq_true hr.1, decide_eq_true hr.2]; rfl)]
  exact wpAny_pure h
end
noncomputable def numKind (prog : Program) (w : World) : PySem.KeyKind prog w Int where
  is := isNum
  hash := hashInt
  inj := fun v a b ha hb => by
    rcases isNum_shape ha with ⟨t, rfl⟩ | ⟨x, rfl, rfl⟩
    · simpa [isNum] using hb
    · simpa [isNum] using hb
  byValue := fun k v h => by
    rcases isNum_shape h with ⟨t, rfl⟩ | ⟨x, rfl, rfl⟩ <;> rfl
  pyHash := fun hv h => by
    rcases isNum_shape hv with ⟨t, rfl⟩ | ⟨x, rfl, rfl⟩
    · exact wpAny_pyHash_int h
    · exact pyHash_bool h
  eqBool := fun {A E s a b u v Q} hu hv h => by
    have e0 : ∀ x y : Int, (x == y) = decide (x = y) := fun x y => by by_cases e : x = y <;> simp [e]
    rw [← e0] at h
    rcases isNum_shape hu with ⟨t, rfl⟩ | ⟨x, rfl, rfl⟩
    · rcases isNum_shape hv with ⟨t2, rfl⟩ | ⟨y, rfl, rfl⟩
      · exact wpAny_eqBool_int h
      · exact SeqAt.EqAt.int_bool a t y _ _ _ _ h
    · rcases isNum_shape hv with ⟨t2, rfl⟩ | ⟨y, rfl, rfl⟩
      · exact SeqAt.EqAt.bool_int x b t2 _ _ _ _ h
      · refine SeqAt.EqAt.bool_bool x y _ _ _ _ ?_
        have : (bIn x == bIn y) = (x == y) := by cases x <;> cases y <;> rfl
        rw [← this]
        exact h
  «strs» := fun k x t v h => by simp [isNum] at h
end L3
set_option Elab.async false
set_option linter.all false
set_option maxRecDepth 100000
set_option maxHeartbeats 1000000
namespace L3
open PySem PySem.Spec PyProof.Rows L2
section
variable {K : Type} [DecidableEq K]
variable {P : Program} {w : World} {kind : SubKind P w K} {a : Addr} {xs : List (K × Addr × V)}
end
section
variable {K : Type} [DecidableEq K] {X : Cx} {kind : SubKind X.prog X.w K} {pins : List (Addr × Obj)} {σ : L2.St} {H : Hp} {s : Shared} {a b : Addr} {v : V} {k : K} {r : Value} {xs : List (K × Addr × V)} {A : Around} {E : Value → Shared → Prop}
end
end L3
set_option Elab.async false
set_option linter.all false
set_option maxRecDepth 100000
set_option maxHeartbeats 1000000
namespace L3
open PySem PySem.Spec PyProof.Rows L2
structure NKey where
  K : Type
  dec : DecidableEq K
  kind : ∀ (P : Program) (w : World), SubKind P w K
  hsh : K → Int
  hs : ∀ P w k, (kind P w).hash k = hsh k
  dp : Nat
  hdp : ∀ P w, (kind P w).deep = dp
  At : PySem.W.Frag → Hp → K → Addr → Prop
  ok : ∀ {X : Cx} {pins : List (Addr × Obj)} {σ : L2.St} {H : Hp} {s : Shared} {k : K} {b : Addr}, Inv X pins σ H s → At X.K H k b → (kind X.prog X.w).is s.heap k b
  keeps : ∀ {L : PySem.W.Frag} {H H' : Hp} {k : K} {b : Addr}, At L H k b → (∀ c xs, SqT L H c xs → SqT L H' c xs) → At L H' k b
  room : ∀ (P : Program) (w : World) (A : Around), A.units + dp < cLine → (kind P w).room A
noncomputable instance (κ : NKey) : DecidableEq κ.K := κ.dec
noncomputable def voidS (P : Program) (w : World) : SubKind P w Empty where
  is := fun _ _ _ => False
  hash := fun k => k.elim
  draws := fun k => k.elim
  room := fun _ => True
  inj := fun h => h.elim
  keeps := fun h => h.elim
  pyHash := fun _ h => h.elim
  eqBool := fun _ h => h.elim
  quiet := fun h => h.elim
  deep := 0
  quietN := fun _ h => h.elim
noncomputable def voidK : NKey where
  K := Empty
  dec := inferInstance
  kind := voidS
  hsh := fun k => k.elim
  hs := fun _ _ k => k.elim
  dp := 0
  hdp := fun _ _ => rfl
  At := fun _ _ _ _ => False
  ok := fun _ h => h.elim
  keeps := fun h => h.elim
  room := fun _ _ _ _ => True.intro
section
variable (κ : NKey) (p : Nat → Bool)
inductive VKeys (L : PySem.W.Frag) (H : Hp) : Nat → List (Int ⊕ κ.K) → List V → Prop
  | nil {j : Nat} : VKeys L H j [] []
  | int {j : Nat} {i : Int} {ks : List (Int ⊕ κ.K)} {vs : List V} : p j = false → VKeys L H (j + 1) ks vs → VKeys L H j (.inl i :: ks) (.int i :: vs)
  | bl {j : Nat} {b : Bool} {ks : List (Int ⊕ κ.K)} {vs : List V} : p j = false → VKeys L H (j + 1) ks vs → VKeys L H j (.inl (bIn b) :: ks) (.bl b :: vs)
  | ref {j : Nat} {k : κ.K} {a : Addr} {ks : List (Int ⊕ κ.K)} {vs : List V} : p j = true → κ.At L H k a → VKeys L H (j + 1) ks vs → VKeys L H j (.inr k :: ks) (.ref a :: vs)
variable {κ p}
theorem VKeys.keeps {L : PySem.W.Frag} {H H' : Hp} {j : Nat} {ks : List (Int ⊕ κ.K)} {vs : List V} (x : VKeys κ p L H j ks vs) (hk : ∀ c xs, SqT L H c xs → SqT L H' c xs) : VKeys κ p L H' j ks vs := by
  induction x with
  | nil => exact .nil
  | int hp _ ih => exact .int hp ih
  | bl hp _ ih => exact .bl hp ih
  | ref hp h1 _ ih => exact .ref hp (κ.keeps h1 hk) ih
theorem VKeys.items {X : Cx} {pins : List (Addr × Obj)} {σ : L2.St} {H : Hp} {s : Shared} (ok : Inv X pins σ H s) {j : Nat} {ks : List (Int ⊕ κ.K)} {vs : List V} (x : VKeys κ p X.K H j ks vs) : ∀ {us : List Value}, Vals vs us → ItemsN (numKind X.prog X.w) (κ.kind X.prog X.w) p s.heap j ks us := by
  induction x with
  | nil => intro us r; cases r; exact .nil
  | @int j i ks vs hp _ ih =>
    intro us r
    cases r with
    | cons r1 r2 =>
      obtain ⟨t, e⟩ := (show ∃ t, _ = Value.int i t from r1)
      subst e
      exact .val hp (show isNum i (.int i t) = true by simp [isNum]) (ih r2)
  | @bl j b ks vs hp _ ih =>
    intro us r
    cases r with
    | cons r1 r2 =>
      cases (show _ = Value.bool b from r1)
      exact .val hp (show isNum (bIn b) (.bool b) = true by simp [isNum]) (ih r2)
  | @ref j k a ks vs hp h1 _ ih =>
    intro us r
    cases r with
    | cons r1 r2 =>
      cases (show _ = Value.ref a from r1)
      exact .ref hp (κ.ok ok h1) (ih r2)
end
noncomputable def nestK (κ : NKey) (p : Nat → Bool) (hd : κ.dp < 8) : NKey where
  K := List (Int ⊕ κ.K)
  dec := inferInstance
  kind := fun P w => nestKind (numKind P w) (κ.kind P w) p (by rw [κ.hdp]; exact hd)
  hsh := fun ks => reduceHash (Builtin.Tuple.tupleHashOf (ks.map fun k => match k with | .inl i => hashInt i | .inr k => κ.hsh k))
  hs := fun P w ks => by
    show nestHash _ _ ks = _
    unfold nestHash
    congr 2
    refine List.map_congr_left fun k _ => ?_
    cases k with
    | inl i => rfl
    | inr k => exact κ.hs P w k
  dp := κ.dp + 1
  hdp := fun P w => by show (κ.kind P w).deep + 1 = _; rw [κ.hdp]
  At := fun L H ks b => ∃ vs, SqT L H b vs ∧ VKeys κ p L H 0 ks vs
  ok := fun {X pins σ H s k b} I ⟨vs, e, x⟩ => by
    obtain ⟨its, r, ⟨o, h1, h2, n, h3⟩, _⟩ := I.tuple e
    exact ⟨o, its.toArray, n, h1, h2, h3, by simpa using x.items I r⟩
  keeps := fun ⟨vs, e, x⟩ hk => ⟨vs, hk _ _ e, x.keeps hk⟩
  room := fun P w A hu => ⟨by omega, κ.room P w A.in1 (by show A.units + 1 + κ.dp < cLine; omega)⟩
noncomputable def flatK : NKey := nestK voidK (fun _ => false) (by decide)
noncomputable def rowsK : NKey := nestK flatK (fun _ => true) (by decide)
noncomputable def placeK : NKey := nestK rowsK (fun j => j == 0) (by decide)
end L3
set_option Elab.async false
set_option linter.all false
set_option maxRecDepth 100000
set_option maxHeartbeats 1000000
namespace L3
open PySem PySem.Spec PyProof.Rows L2
noncomputable def NDi (κ : NKey) (a : Addr) (xs : List (κ.K × Addr × V)) : Heap → Prop := fun h => xs.length ≤ sizeLine ∧ (a == sysModules) = false ∧ ∃ vs : List (κ.K × Addr × Value),
  Paired (fun (p : κ.K × Addr × V) (q : κ.K × Addr × Value) => p.1 = q.1 ∧ p.2.1 = q.2.1 ∧ RelV p.2.2 q.2.2) xs vs ∧
  ∃ o es ep, h.get? a = some o ∧ o.ExactDict ∧ o.data = .dict es ep ∧ es.toList = vs.map (fun q => (⟨κ.hsh q.1, .ref q.2.1, q.2.2⟩ : DictEntry)) ∧ (vs.map (·.1)).Nodup
section
variable {κ : NKey} {X : Cx} {pins : List (Addr × Obj)} {σ : L2.St} {H : Hp} {s : Shared} {a : Addr} {xs : List (κ.K × Addr × V)} {A : Around} {E : Value → Shared → Prop}
end
section
variable {κ : NKey} {X : Cx} {o i e f value : Expr} {pos pos' tpos apos cpos : Pos} {td ty tv tx : TE}
end
end L3
set_option Elab.async false
set_option linter.all false
set_option maxRecDepth 100000
set_option maxHeartbeats 1000000
namespace L3
open PySem PySem.Spec PyProof.Rows L2 PySem.W
section
variable {prog : Program} {w : World} {A : Around} {E : Value → Shared → Prop} {s : Shared} {it d : Addr} {i ep : Nat} {es : Array DictEntry}
end
end L3
set_option Elab.async false
set_option linter.all false
set_option maxRecDepth 100000
set_option maxHeartbeats 200000
namespace L3
open PySem PySem.Spec PyProof.Rows L2
noncomputable def numD : PyData → Option Int
  | .int i => some i
  | .bool b => some (bIn b)
  | _ => none
noncomputable def flatL : List PyData → Option (List (Int ⊕ Empty))
  | [] => some []
  | d :: ds => (numD d).bind fun i => (flatL ds).map (.inl i :: ·)
noncomputable def rowsL : List PyData → Option (List (Int ⊕ List (Int ⊕ Empty)))
  | [] => some []
  | .tuple es :: ds => (flatL es).bind fun k => (rowsL ds).map (.inr k :: ·)
  | _ :: _ => none
noncomputable def flatD : PyData → Option flatK.K
  | .tuple ds => flatL ds
  | _ => none
noncomputable def rowsD : PyData → Option rowsK.K
  | .tuple ds => rowsL ds
  | _ => none
noncomputable def placeD : PyData → Option placeK.K
  | .tuple [.tuple ds, .int i] => (rowsL ds).map fun k => [.inr k, .inl i]
  | _ => none
section
variable {K : PySem.W.Frag} {H : Hp}
end
end L3
set_option Elab.async false
set_option linter.all false
set_option maxRecDepth 100000
set_option maxHeartbeats 2000000
namespace L3
open PySem PySem.Spec PyProof.Rows L2
noncomputable def inlK (p : Int × V) : Key × V := (.inl p.1, p.2)
noncomputable def FrI (a : Addr) (kvs : List (Int × V)) (vs : List (Key × Value)) (ep : Nat) : Heap → Prop := fun h => kvs.length ≤ sizeLine ∧ (a == sysModules) = false ∧ KV (kvs.map inlK) vs ∧ ∀ P w, h.DictAt (mixKind P w) a vs ep
noncomputable def DicN (a : Addr) (φ : Heap → Prop) : Prop := ∃ h, φ h ∧ ∃ o es ep, h.get? a = some o ∧ o.data = .dict es ep
section
variable {P : Program} {w : World} {X : Cx} {pins : List (Addr × Obj)} {σ : L2.St} {H : Hp} {s : Shared} {h : Heap} {a : Addr} {kvs : List (Int × V)}
end
end L3
set_option Elab.async false
set_option linter.all false
set_option maxRecDepth 100000
set_option maxHeartbeats 4000000
namespace L3
open PySem PySem.Spec PyProof.Rows L2
noncomputable abbrev St := L2.St
noncomputable def hid (H : Hp) (B : List Addr) : Hp := fun b => if b ∈ B then none else H b
theorem hid_out {H : Hp} {B : List Addr} {b : Addr} (h : b ∉ B) : hid H B b = H b := by unfold hid; rw [if_neg h]
theorem hid_in {H : Hp} {B : List Addr} {b : Addr} (h : b ∈ B) : hid H B b = none := by unfold hid; rw [if_pos h]
theorem hid_same {H : Hp} {B : List Addr} : Same (hid H B) H := fun b o e => by
  by_cases h : b ∈ B
  · rw [hid_in h] at e; cases e
  · rwa [hid_out h] at e
theorem hid_sub {H : Hp} {B B' : List Addr} (s : ∀ b ∈ B', b ∈ B) : Same (hid H B) (hid H B') := fun b o e => by
  by_cases h : b ∈ B
  · rw [hid_in h] at e; cases e
  · rw [hid_out h] at e; rw [hid_out fun z => h (s b z)]; exact e
noncomputable def Kp (fp : List Addr) (H H' : Hp) : Prop := ∀ b o, H b = some o → b ∉ fp → H' b = some o
theorem Kp.refl {fp : List Addr} {H : Hp} : Kp fp H H := fun _ _ e _ => e
theorem Kp.trans {fp : List Addr} {H H1 H2 : Hp} (a : Kp fp H H1) (b : Kp fp H1 H2) : Kp fp H H2 := fun c o e n => b c o (a c o e n) n
theorem Kp.same {fp : List Addr} {H H' : Hp} (s : Same H H') : Kp fp H H' := fun b o e _ => s b o e
theorem Kp.upd {fp : List Addr} {H : Hp} {p : Addr} {o : HO} (hp : H p = none) : Kp fp H (upd H p o) := Kp.same (Same.upd hp)
theorem Kp.hid {fp B : List Addr} {H H' : Hp} (k : Kp fp H H') (s : ∀ b ∈ fp, b ∈ B) : Same (hid H B) (hid H' B) := fun b o e => by
  by_cases h : b ∈ B
  · rw [hid_in h] at e; cases e
  · rw [hid_out h] at e ⊢; exact k b o e fun z => h (s b z)
theorem hid_upd {H : Hp} {B : List Addr} {a : Addr} {o : HO} (h : a ∈ B) : hid (upd H a o) B = hid H B := by
  funext b
  by_cases hb : b ∈ B
  · rw [hid_in hb, hid_in hb]
  · rw [hid_out hb, hid_out hb, upd_ne]; intro e; subst e; exact hb h
noncomputable def DatSh (K : PySem.W.Frag) (fp B : List Addr) (H : Hp) : PyData → V → Prop
  | .tuple ds, v => ∃ a xs, v = .ref a ∧ SqT K (hid H B) a xs ∧ DatsAre K (hid H B) ds xs
  | .list ds, v => ∃ a xs, v = .ref a ∧ hid H fp a = some (.lst xs) ∧ DatsAre K (hid H B) ds xs
  | .none, v => v = .non
  | .bool b, v => v = .bl b
  | .int i, v => v = .int i
  | .str x, v => v = .str x
  | .dict _, _ => False
section
variable {K : PySem.W.Frag} {fp B : List Addr} {H H' : Hp} {d : PyData} {v : V}
theorem sh_of (h : DatIs K (hid H B) d v) (s : ∀ b ∈ fp, b ∈ B) : DatSh K fp B H d v := by
  cases d with
  | tuple ds =>
    simp only [DatIs] at h
    obtain ⟨a, xs, e, hq, hd⟩ := h
    exact ⟨a, xs, e, hq, hd⟩
  | list ds =>
    simp only [DatIs] at h
    obtain ⟨a, xs, e, hq, hd⟩ := h
    exact ⟨a, xs, e, hid_sub s _ _ hq, hd⟩
  | _ => simpa only [DatIs, DatSh] using h
theorem DatSh.dat (h : DatSh K fp B H d v) : DatIs K H d v := by
  cases d with
  | tuple ds =>
    obtain ⟨a, xs, e, hq, hd⟩ := h
    simp only [DatIs]
    exact ⟨a, xs, e, hq.same hid_same, hd.same hid_same⟩
  | list ds =>
    obtain ⟨a, xs, e, hq, hd⟩ := h
    simp only [DatIs]
    exact ⟨a, xs, e, hid_same _ _ hq, hd.same hid_same⟩
  | _ => simpa only [DatIs, DatSh] using h
theorem DatSh.step (h : DatSh K fp B H d v) (k : Kp fp H H') (s : ∀ b ∈ fp, b ∈ B) : DatSh K fp B H' d v := by
  have sm := k.hid s
  have sf := k.hid (B := fp) fun _ z => z
  cases d with
  | tuple ds =>
    obtain ⟨a, xs, e, hq, hd⟩ := h
    exact ⟨a, xs, e, hq.same sm, hd.same sm⟩
  | list ds =>
    obtain ⟨a, xs, e, hq, hd⟩ := h
    exact ⟨a, xs, e, sf _ _ hq, hd.same sm⟩
  | _ => exact h
theorem DatSh.tup {ds : List PyData} (h : DatSh K fp B H (.tuple ds) v) : DatIs K (hid H B) (.tuple ds) v := by
  obtain ⟨a, xs, e, hq, hd⟩ := h
  simp only [DatIs]
  exact ⟨a, xs, e, hq, hd⟩
noncomputable def BOk (H : Hp) (B : List Addr) : Prop := ∀ b ∈ B, ∃ o, H b = some o
theorem BOk.nin (h : BOk H B) {p : Addr} (hp : H p = none) : p ∉ B := fun z => by
  obtain ⟨o, e⟩ := h p z; rw [hp] at e; cases e
theorem new_tup {p : Addr} {ds : List PyData} {xs : List V} (bk : BOk H B) (hp : H p = none) (h : DatsAre K (hid H B) ds xs) : DatIs K (hid (upd H p (.tup xs)) B) (.tuple ds) (.ref p) := by
  have e : Same (hid H B) (hid (upd H p (.tup xs)) B) := (Kp.upd (fp := []) hp).hid (by simp)
  refine DatIs.tup ?_ (h.same e)
  rw [hid_out (bk.nin hp)]; exact upd_same
theorem new_lst {p : Addr} {ds : List PyData} {xs : List V} (bk : BOk H B) (hp : H p = none) (h : DatsAre K (hid H B) ds xs) : DatIs K (hid (upd H p (.lst xs)) B) (.list ds) (.ref p) := by
  have e : Same (hid H B) (hid (upd H p (.lst xs)) B) := (Kp.upd (fp := []) hp).hid (by simp)
  refine DatIs.lst ?_ (h.same e)
  rw [hid_out (bk.nin hp)]; exact upd_same
end
noncomputable def NoT (o : HO) : Prop := (∀ ps, o ≠ .tbl ps) ∧ ∀ φ, o ≠ .ext φ
class Feeds where
  S : Type
  At : Addr → Addr → Hp → S → Prop
  some1 : ∀ {d c H F}, At d c H F → ∃ o, H d = some o ∧ NoT o
  some2 : ∀ {d c H F}, At d c H F → ∃ o, H c = some o ∧ NoT o
  congr : ∀ {d c H H' F}, At d c H F → H' d = H d → H' c = H c → At d c H' F
  lam : List Str
noncomputable abbrev GF := Option (Addr × Addr)
noncomputable def tabsK (l : List Str) (K : PySem.W.Frag) : List (Str × Addr × Addr) := l.filterMap fun x => (PySem.W.tabIn K x).map fun p => (x, p)
noncomputable def lamQ (x : Str) : Str := x ++ ".<locals>." ++ "<lambda>"
noncomputable def TabsOk (ts : List (Str × Addr × Addr)) (H : Hp) : Prop := ∀ t ∈ ts, TabOk H t.2.2 (lamQ t.1)
theorem TabsOk.congr {ts : List (Str × Addr × Addr)} {H H' : Hp} (h : TabsOk ts H) (e : ∀ b, (b ∈ ts.map (·.2.2) ∨ ∃ φ, H b = some (.ext φ)) → H' b = H b) : TabsOk ts H' := fun t ht => by
  obtain ⟨ps, h1, h2, h3⟩ := h t ht
  refine ⟨ps, (e _ (.inl (List.mem_map_of_mem ht))).trans h1, h2, fun pos cv q => ?_⟩
  obtain ⟨c, r1, r2⟩ := h3 pos cv q
  exact ⟨c, r1, (e c (.inr ⟨_, r2⟩)).trans r2⟩
theorem TabsOk.but {ts : List (Str × Addr × Addr)} {H H' : Hp} {d : Addr} {o0 : HO} (h : TabsOk ts H) (hd : H d = some o0) (hn : NoT o0) (kp : ∀ b o, H b = some o → b ≠ d → H' b = some o) : TabsOk ts H' := h.congr fun b hb => by
  obtain ⟨o, e, hne⟩ : ∃ o, H b = some o ∧ b ≠ d := by
    rcases hb with hb | ⟨φ, e⟩
    · obtain ⟨t, ht, rfl⟩ := List.mem_map.mp hb
      obtain ⟨ps, e, _⟩ := h t ht
      exact ⟨_, e, fun z => by rw [z, hd] at e; exact hn.1 ps (Option.some.inj e)⟩
    · exact ⟨_, e, fun z => by rw [z, hd] at e; exact hn.2 φ (Option.some.inj e)⟩
  rw [e]; exact kp b o e hne
section
variable [Feeds]
noncomputable def tabP (K : PySem.W.Frag) : List Addr := (tabsK Feeds.lam K).map (·.2.2)
noncomputable def fpOf (K : PySem.W.Frag) : GF → List Addr
  | none => tabP K
  | some (d, c) => d :: c :: tabP K
theorem fp_tab {K : PySem.W.Frag} {G : GF} {b : Addr} (h : b ∈ tabP K) : b ∈ fpOf K G := by
  cases G with
  | none => exact h
  | some p => exact List.mem_cons_of_mem _ (List.mem_cons_of_mem _ h)
noncomputable abbrev FS := Feeds.S
noncomputable abbrev M (α : Type) := FS → Option (α × FS)
noncomputable def FdAt (G : GF) (H : Hp) (F : FS) : Prop := match G with
  | none => True
  | some (d, c) => Feeds.At d c H F
noncomputable def FAt (K : PySem.W.Frag) (G : GF) (H : Hp) (F : FS) : Prop := FdAt G H F ∧ TabsOk (tabsK Feeds.lam K) H
theorem FAt.bok {K : PySem.W.Frag} {G : GF} {H : Hp} {F : FS} (h : FAt K G H F) : BOk H (fpOf K G) := fun b hb => by
  have tb : b ∈ tabP K → ∃ o, H b = some o := fun z => by
    obtain ⟨t, ht, rfl⟩ := List.mem_map.mp z
    obtain ⟨ps, h1, _⟩ := h.2 t ht
    exact ⟨_, h1⟩
  cases G with
  | none => exact tb hb
  | some p =>
    obtain ⟨d, c⟩ := p
    simp only [fpOf, List.mem_cons] at hb
    rcases hb with rfl | rfl | hb
    · obtain ⟨o, e, _⟩ := Feeds.some1 h.1; exact ⟨o, e⟩
    · obtain ⟨o, e, _⟩ := Feeds.some2 h.1; exact ⟨o, e⟩
    · exact tb hb
theorem FAt.congr {K : PySem.W.Frag} {G : GF} {H H' : Hp} {F : FS} (h : FAt K G H F) (e : ∀ b, (b ∈ fpOf K G ∨ ∃ φ, H b = some (.ext φ)) → H' b = H b) : FAt K G H' F := by
  refine ⟨?_, h.2.congr fun b hb => e b (hb.imp fp_tab id)⟩
  cases G with
  | none => trivial
  | some p =>
    obtain ⟨d, c⟩ := p
    exact Feeds.congr h.1 (e d (.inl (by simp [fpOf]))) (e c (.inl (by simp [fpOf])))
theorem FAt.same {K : PySem.W.Frag} {G : GF} {H H' : Hp} {F : FS} (h : FAt K G H F) (s : Same H H') : FAt K G H' F := h.congr fun b hb => by
  rcases hb with hb | ⟨φ, e⟩
  · obtain ⟨o, e⟩ := h.bok b hb
    rw [e]; exact s b o e
  · rw [e]; exact s b _ e
inductive DV where
  | dat (d : PyData) | feed | own (ds : List PyData) | fn (x : Str) | adr (a : Addr) | dic (w : Bool) (c : Nat) (ps : List (PyData × PyData))
noncomputable def DV.ow : DV → Bool
  | .own _ => true
  | .dic _ _ _ => true
  | _ => false
noncomputable def kcOf : Nat → NKey
  | 0 => rowsK
  | 1 => placeK
  | _ + 2 => flatK
noncomputable def keyD : (c : Nat) → PyData → Option (kcOf c).K
  | 0 => rowsD
  | 1 => placeD
  | _ + 2 => flatD
noncomputable def KVs (K : PySem.W.Frag) (H : Hp) (c : Nat) : List (PyData × PyData) → List ((kcOf c).K × Addr × V) → Prop
  | [], xs => xs = []
  | p :: ps, xs => ∃ k b v r, xs = (k, b, v) :: r ∧ keyD c p.1 = some k ∧ DatIs K H p.1 (.ref b) ∧ DatIs K H p.2 v ∧ KVs K H c ps r
theorem KVs.same {K : PySem.W.Frag} {H H' : Hp} {c : Nat} (s : Same H H') : ∀ {ps : List (PyData × PyData)} {xs : List ((kcOf c).K × Addr × V)}, KVs K H c ps xs → KVs K H' c ps xs
  | [], _, h => h
  | _ :: _, _, ⟨k, b, v, r, e, h1, h2, h3, h4⟩ => ⟨k, b, v, r, e, h1, h2.same s, h3.same s, h4.same s⟩
noncomputable def IVs (K : PySem.W.Frag) (H : Hp) : List (PyData × PyData) → List (Int × V) → Prop
  | [], xs => xs = []
  | p :: ps, xs => ∃ i v r, xs = (i, v) :: r ∧ p.1 = .int i ∧ DatIs K H p.2 v ∧ IVs K H ps r
theorem IVs.same {K : PySem.W.Frag} {H H' : Hp} (s : Same H H') : ∀ {ps : List (PyData × PyData)} {xs : List (Int × V)}, IVs K H ps xs → IVs K H' ps xs
  | [], _, h => h
  | _ :: _, _, ⟨i, v, r, e, h1, h3, h4⟩ => ⟨i, v, r, e, h1, h3.same s, h4.same s⟩
noncomputable def DicV (K : PySem.W.Frag) (H : Hp) (c : Nat) (ps : List (PyData × PyData)) (a : Addr) (φ : Heap → Prop) : Prop :=
  (c ≠ 9 ∧ ∃ xs, φ = NDi (kcOf c) a xs ∧ KVs K H c ps xs) ∨ (c = 9 ∧ ∃ kvs vs ep, φ = FrI a kvs vs ep ∧ IVs K H ps kvs)
theorem DicV.same {K : PySem.W.Frag} {H H' : Hp} {c : Nat} {ps : List (PyData × PyData)} {a : Addr} {φ : Heap → Prop} (h : DicV K H c ps a φ) (s : Same H H') : DicV K H' c ps a φ := by
  rcases h with ⟨hc, xs, e, h⟩ | ⟨hc, kvs, vs, ep, e, h⟩
  · exact .inl ⟨hc, xs, e, h.same s⟩
  · exact .inr ⟨hc, kvs, vs, ep, e, h.same s⟩
noncomputable abbrev DE := List (Option DV)
noncomputable def DVr (K : PySem.W.Frag) (G : GF) (B : List Addr) (H : Hp) : DV → V → Prop
  | .dat d, v => DatIs K (hid H B) d v
  | .feed, v => ∃ d c, G = some (d, c) ∧ v = .ref d
  | .fn x, v => ∃ a, v = .ref a ∧ PySem.W.nsIn K mainGlobals x = some (some (.ref a))
  | .adr a, v => v = .ref a
  | .dic _ c ps, v => ∃ a φ, v = .ref a ∧ a ∈ B ∧ a ∉ fpOf K G ∧ H a = some (.ext φ) ∧ DicN a φ ∧ DicV K (hid H B) c ps a φ
  | .own ds, v => ∃ a xs, v = .ref a ∧ a ∈ B ∧ a ∉ fpOf K G ∧ H a = some (.lst xs) ∧ DatsAre K (hid H B) ds xs
structure SitE (K : PySem.W.Frag) (G : GF) (B : List Addr) (E : DE) (F : FS) (σ : St) (H : Hp) : Prop where
  fd : FAt K G H F
  fB : ∀ b ∈ fpOf K G, b ∈ B
  bk : BOk H B
  ln : E.length = σ.length
  loc : ∀ (i : Nat) (x : DV), E[i]? = some (some x) → ∃ v, σ[i]? = some (some v) ∧ DVr K G B H x v
section
variable {K : PySem.W.Frag} {G : GF} {B : List Addr} {E : DE} {F F' : FS} {σ : St} {H H' : Hp}
theorem bok_step (bk : BOk H B) (k : Kp (fpOf K G) H H') (f : FAt K G H' F') : BOk H' B := fun b hb => by
  by_cases h : b ∈ fpOf K G
  · exact f.bok b h
  · obtain ⟨o, e⟩ := bk b hb
    exact ⟨o, k b o e h⟩
theorem DVr.step {x : DV} {v : V} (h : DVr K G B H x v) (k : Kp (fpOf K G) H H') (fB : ∀ b ∈ fpOf K G, b ∈ B) : DVr K G B H' x v := by
  cases x with
  | dat d => exact DatIs.same (h : DatIs _ _ _ _) (k.hid fB)
  | feed => exact h
  | fn _ => exact h
  | adr _ => exact h
  | own ds =>
    obtain ⟨a, xs, e, hB, hf, ha, hd⟩ := h
    exact ⟨a, xs, e, hB, hf, k a _ ha hf, hd.same (k.hid fB)⟩
  | dic w c ps =>
    obtain ⟨a, xs, e, hB, hf, ha, hn, hd⟩ := h
    exact ⟨a, xs, e, hB, hf, k a _ ha hf, hn, hd.same (k.hid fB)⟩
theorem SitE.step (I : SitE K G B E F σ H) (k : Kp (fpOf K G) H H') (f : FAt K G H' F') : SitE K G B E F' σ H' :=
  ⟨f, I.fB, bok_step I.bk k f, I.ln, fun i x e => by
    obtain ⟨v, h1, h2⟩ := I.loc i x e
    exact ⟨v, h1, h2.step k I.fB⟩⟩
end
end
end L3
set_option Elab.async false
set_option linter.all false
set_option maxRecDepth 100000
set_option maxHeartbeats 4000000
namespace L3
open PySem PySem.Spec PyProof.Rows L2
section
variable [Feeds]
noncomputable def TEd (K : PySem.W.Frag) (te : TE) (m : DE → M PyData) : Prop := ∀ (G : GF) (B : List Addr) (E : DE) (F : FS) (σ : St) (H : Hp) (Q : VK) (d : PyData) (F' : FS), SitE K G B E F σ H → m E F = some (d, F') →
  (∀ v H', Kp (fpOf K G) H H' → FAt K G H' F' → DatIs K (hid H' B) d v → Q v H') → te σ H Q
noncomputable def TEs (K : PySem.W.Frag) (te : TE) (m : DE → M PyData) : Prop := ∀ (G : GF) (B : List Addr) (E : DE) (F : FS) (σ : St) (H : Hp) (Q : VK) (d : PyData) (F' : FS), SitE K G B E F σ H → m E F = some (d, F') →
  (∀ v H', Kp (fpOf K G) H H' → FAt K G H' F' → DatSh K (fpOf K G) B H' d v → Q v H') → te σ H Q
theorem TEd.sh {K : PySem.W.Frag} {te : TE} {m : DE → M PyData} (h : TEd K te m) : TEs K te m := fun G B E F σ H Q d F' I e q => h G B E F σ H Q d F' I e fun v H' k f hd => q v H' k f (sh_of hd I.fB)
noncomputable def TTd (K : PySem.W.Frag) (tt : TT) (m : DE → M Bool) : Prop := ∀ (G : GF) (B : List Addr) (E : DE) (F : FS) (σ : St) (H : Hp) (Q : Bool → Hp → Prop) (b : Bool) (F' : FS), SitE K G B E F σ H → m E F = some (b, F') →
  (∀ H', Kp (fpOf K G) H H' → FAt K G H' F' → Q b H') → tt σ H Q
noncomputable def TAd (K : PySem.W.Frag) (ta : TA) (m : DE → M (List PyData)) : Prop := ∀ (G : GF) (B : List Addr) (E : DE) (F : FS) (σ : St) (H : Hp) (Q : List V → Hp → Prop) (ds : List PyData) (F' : FS), SitE K G B E F σ H → m E F = some (ds, F') →
  (∀ vs H', Kp (fpOf K G) H H' → FAt K G H' F' → DatsAre K (hid H' B) ds vs → Q vs H') → ta σ H Q
noncomputable def DatShs (K : PySem.W.Frag) (fp B : List Addr) (H : Hp) : List PyData → List V → Prop
  | [], vs => vs = []
  | d :: ds, vs => ∃ v r, vs = v :: r ∧ DatSh K fp B H d v ∧ DatShs K fp B H ds r
noncomputable def TAs (K : PySem.W.Frag) (ta : TA) (m : DE → M (List PyData)) : Prop := ∀ (G : GF) (B : List Addr) (E : DE) (F : FS) (σ : St) (H : Hp) (Q : List V → Hp → Prop) (ds : List PyData) (F' : FS), SitE K G B E F σ H → m E F = some (ds, F') →
  (∀ vs H', Kp (fpOf K G) H H' → FAt K G H' F' → DatShs K (fpOf K G) B H' ds vs → Q vs H') → ta σ H Q
structure Ev (K : PySem.W.Frag) (X : Cx) (e : Expr) (te : TE) (m : DE → M PyData) : Prop where
  pe : PE X e te
  ok : TEd K te m
structure Eb (K : PySem.W.Frag) (X : Cx) (e : Expr) (te : TE) (m : DE → M PyData) : Prop where
  pe : PE X e te
  ok : TEs K te m
structure Et (K : PySem.W.Frag) (X : Cx) (e : Expr) (tt : TT) (m : DE → M Bool) : Prop where
  pt : PT X e tt
  ok : TTd K tt m
structure Ew (K : PySem.W.Frag) (X : Cx) (e : Expr) (tt : TT) (m : DE → M Bool) : Prop where
  pw : PW X e tt
  ok : TTd K tt m
structure Ea (K : PySem.W.Frag) (X : Cx) (es : List Expr) (ta : TA) (m : DE → M (List PyData)) : Prop where
  pa : PA X es ta
  ok : TAd K ta m
structure Es (K : PySem.W.Frag) (X : Cx) (es : List Expr) (ta : TA) (m : DE → M (List PyData)) : Prop where
  pa : PA X es ta
  ok : TAs K ta m
variable {K : PySem.W.Frag} {X : Cx} {a b c e : Expr} {es : List Expr} {ta tb tc te : TE} {ma mb mc m : DE → M PyData} {pos : Pos}
theorem Ev.bw (h : Ev K X e te m) : Eb K X e te m := ⟨h.pe, h.ok.sh⟩
noncomputable def sC (d : PyData) : DE → M PyData := fun _ F => some (d, F)
noncomputable def sV (i : Nat) : DE → M PyData := fun E F => match E[i]? with
  | some (some (.dat d)) => some (d, F)
  | _ => none
noncomputable def sW (i : Nat) : DE → M PyData := fun E F => match E[i]? with
  | some (some (.dat d)) => some (d, F)
  | some (some (.own ds)) => some (.list ds, F)
  | _ => none
theorem tc_d {d : PyData} {v : V} (h : ∀ H, DatIs K H d v) : TEd K (tC v) (sC d) := fun G B E F σ H Q d' F' I e q => by
  cases e
  exact q v H Kp.refl I.fd (h _)
theorem ev_int {i j} : Ev K X (.Constant (.int i) j pos) (tC (.int i)) (sC (.int i)) := ⟨pe_int, tc_d fun _ => DatIs.int⟩
theorem ev_bl {x j} : Ev K X (.Constant (.bool x) j pos) (tC (.bl x)) (sC (.bool x)) := ⟨pe_bl, tc_d fun _ => DatIs.bl⟩
theorem ev_non {j} : Ev K X (.Constant .none j pos) (tC .non) (sC .none) := ⟨pe_non, tc_d fun _ => DatIs.non⟩
theorem ev_str {x j} : Ev K X (.Constant (.str x) j pos) (tC (.str x)) (sC (.str x)) := ⟨pe_str, tc_d fun _ => DatIs.st⟩
theorem var_d (i : Nat) : TEd K (tVar i) (sV i) := fun G B E F σ H Q d F' I e q => by
  unfold sV at e
  split at e
  · rename_i x hx
    cases e
    obtain ⟨v, h1, h2⟩ := I.loc i _ hx
    exact ⟨v, h1, q v H Kp.refl I.fd h2⟩
  · cases e
theorem var_s (i : Nat) : TEs K (tVar i) (sW i) := fun G B E F σ H Q d F' I e q => by
  unfold sW at e
  split at e
  · rename_i x hx
    cases e
    obtain ⟨v, h1, h2⟩ := I.loc i _ hx
    exact ⟨v, h1, q v H Kp.refl I.fd (sh_of h2 I.fB)⟩
  · rename_i x hx
    cases e
    obtain ⟨v, h1, h2⟩ := I.loc i _ hx
    refine ⟨v, h1, q v H Kp.refl I.fd ?_⟩
    obtain ⟨p, xs, rfl, hB, hf, hp, hd⟩ := h2
    exact ⟨p, xs, rfl, by rw [hid_out hf]; exact hp, hd⟩
  · cases e
theorem ev_v (i : Nat) {x : Str} (hN : X.N[i]? = some x := by rfl) (hv : Vis X.env.scope x := by first | exact Or.inl rfl | exact Or.inr (Or.inl rfl) | exact Or.inr (Or.inr rfl)) (hd : (x == ("__debug__" : Str)) = false := by decide)
    (hcd : (x == ("__classdict__" : Str)) = false := by decide) : Ev K X (.Name x pos) (tVar i) (sV i) := ⟨pe_var hN hv hd hcd, var_d i⟩
theorem eb_v (i : Nat) {x : Str} (hN : X.N[i]? = some x := by rfl) (hv : Vis X.env.scope x := by first | exact Or.inl rfl | exact Or.inr (Or.inl rfl) | exact Or.inr (Or.inr rfl)) (hd : (x == ("__debug__" : Str)) = false := by decide)
    (hcd : (x == ("__classdict__" : Str)) = false := by decide) : Eb K X (.Name x pos) (tVar i) (sW i) := ⟨pe_var hN hv hd hcd, var_s i⟩
noncomputable def rD1 (K : PySem.W.Frag) (f : PyData → Option PyData) : V → Hp → VK → Prop := fun x H Q => ∃ fp B d r, BOk H B ∧ DatSh K fp B H d x ∧ f d = some r ∧ ∀ v H', Same H H' → DatIs K (hid H' B) r v → Q v H'
noncomputable def rD2 (K : PySem.W.Frag) (f : PyData → PyData → Option PyData) : R2 := fun x y H Q => ∃ fp B d e r, BOk H B ∧ DatSh K fp B H d x ∧ DatSh K fp B H e y ∧ f d e = some r ∧ ∀ v H', Same H H' → DatIs K (hid H' B) r v → Q v H'
noncomputable def rDN (K : PySem.W.Frag) (f : List PyData → Option PyData) : List V → Hp → VK → Prop := fun xs H Q => ∃ fp B ds r, BOk H B ∧ DatShs K fp B H ds xs ∧ f ds = some r ∧ ∀ v H', Same H H' → DatIs K (hid H' B) r v → Q v H'
noncomputable def s1 (f : PyData → Option PyData) (a : DE → M PyData) : DE → M PyData := fun E F => (a E F).bind fun p => (f p.1).bind fun z => some (z, p.2)
noncomputable def s2 (f : PyData → PyData → Option PyData) (a b : DE → M PyData) : DE → M PyData := fun E F => (a E F).bind fun p => (b E p.2).bind fun q => (f p.1 q.1).bind fun z => some (z, q.2)
noncomputable def sN (f : List PyData → Option PyData) (a : DE → M (List PyData)) : DE → M PyData := fun E F => (a E F).bind fun p => (f p.1).bind fun z => some (z, p.2)
theorem op1_d {f : PyData → Option PyData} (ha : TEs K ta ma) : TEd K (tUn (rD1 K f) ta) (s1 f ma) := fun G B E F σ H Q d F' I e q => by
  obtain ⟨⟨x, F1⟩, e1, e⟩ := Option.bind_eq_some_iff.mp e
  obtain ⟨z, e2, e⟩ := Option.bind_eq_some_iff.mp e
  cases e
  refine ha G B E F σ H _ x F1 I e1 fun v H1 k1 f1 h1 => ⟨fpOf K G, B, x, _, bok_step I.bk k1 f1, h1, e2, fun w H2 s hw => q w H2 (k1.trans (Kp.same s)) (f1.same s) hw⟩
theorem op2_d {f : PyData → PyData → Option PyData} (ha : TEs K ta ma) (hb : TEs K tb mb) : TEd K (tOp (rD2 K f) ta tb) (s2 f ma mb) := fun G B E F σ H Q d F' I e q => by
  obtain ⟨⟨x, F1⟩, e1, e⟩ := Option.bind_eq_some_iff.mp e
  obtain ⟨⟨y, F2⟩, e2, e⟩ := Option.bind_eq_some_iff.mp e
  obtain ⟨z, e3, e⟩ := Option.bind_eq_some_iff.mp e
  cases e
  refine ha G B E F σ H _ x F1 I e1 fun v H1 k1 f1 h1 => ?_
  refine hb G B E F1 σ H1 _ y F2 (I.step k1 f1) e2 fun w H2 k2 f2 h2 => ⟨fpOf K G, B, x, y, _, bok_step I.bk (k1.trans k2) f2, h1.step k2 I.fB, h2, e3, fun u H3 s hu => q u H3 ((k1.trans k2).trans (Kp.same s)) (f2.same s) hu⟩
theorem opN_d {f : List PyData → Option PyData} {t : TA} {ms : DE → M (List PyData)} (ha : TAs K t ms) : TEd K (tCB (rDN K f) t) (sN f ms) := fun G B E F σ H Q d F' I e q => by
  obtain ⟨⟨x, F1⟩, e1, e⟩ := Option.bind_eq_some_iff.mp e
  obtain ⟨z, e2, e⟩ := Option.bind_eq_some_iff.mp e
  cases e
  exact ha G B E F σ H _ x F1 I e1 fun vs H1 k1 f1 h1 => ⟨fpOf K G, B, x, _, bok_step I.bk k1 f1, h1, e2, fun w H2 s hw => q w H2 (k1.trans (Kp.same s)) (f1.same s) hw⟩
theorem ev_op {op : Operator} {f : PyData → PyData → Option PyData} (ho : OpR X (binaryOp op) (rD2 K f)) (ha : Eb K X a ta ma) (hb : Eb K X b tb mb) : Ev K X (.BinOp a op b pos) (tOp (rD2 K f) ta tb) (s2 f ma mb) := ⟨pe_op ho ha.pe hb.pe, op2_d ha.ok hb.ok⟩
theorem ev_un {op : UnaryOp} {f : PyData → Option PyData} (ho : UnR X (unaryOp op) (rD1 K f)) (ha : Eb K X a ta ma) : Ev K X (.UnaryOp op a pos) (tUn (rD1 K f) ta) (s1 f ma) := ⟨pe_un ho ha.pe, op1_d ha.ok⟩
theorem ev_cmp {op : CmpOp} {f : PyData → PyData → Option PyData} (ho : OpR X (compareOp op) (rD2 K f)) (ha : Eb K X a ta ma) (hb : Eb K X b tb mb) (hm : behindInMarks op b = false := by first | exact nomark _ | rfl) : Ev K X (.Compare a [op] [b] pos) (tOp (rD2 K f) ta tb) (s2 f ma mb) := ⟨pe_cmpR ho ha.pe hb.pe hm, op2_d ha.ok hb.ok⟩
theorem ev_ix {f : PyData → PyData → Option PyData} (hr : IxR X (rD2 K f)) (ha : Eb K X a ta ma) (hb : Eb K X b tb mb) (hs : PlainIx b := by intro _ _; rfl) : Ev K X (.Subscript a b pos) (tOp (rD2 K f) ta tb) (s2 f ma mb) := ⟨pe_ix hr ha.pe hb.pe hs, op2_d ha.ok hb.ok⟩
theorem ev_callB {f : List PyData → Option PyData} {id : String} {x : Str} {p : Pos} {t : TA} {ms : DE → M (List PyData)} (hc : CallR X (.builtin id) (rDN K f)) (hm : X.mg x = none) (hv : bootBuiltins x = some (.builtin id)) (ha : Es K X (e :: es) t ms) (hg : Gl X x := by rfl) (hn : x ≠ "__name__" := by decide) (hdb : (x == ("__debug__" : Str)) = false := by decide)
    (he : starEach (e :: es) X.env = (false, eval e X.env) :: starEach es X.env := by rfl) (hpl : (backTo pos (starEach es X.env)).any (·.1) = false := by rfl) : Ev K X (.Call (.Name x p) (e :: es) [] pos) (tCB (rDN K f) t) (sN f ms) := ⟨pe_callB hc hg hm hv ha.pa hn hdb he hpl, opN_d ha.ok⟩
theorem ev_callT {f : List PyData → Option PyData} {T : String} {x : Str} {p : Pos} {t : TA} {ms : DE → M (List PyData)} (hc : CallR X (.type T) (rDN K f)) (hm : X.mg x = none) (hv : bootBuiltins x = some (.type T)) (ha : Es K X (e :: es) t ms) (hg : Gl X x := by rfl) (hn : x ≠ "__name__" := by decide) (hdb : (x == ("__debug__" : Str)) = false := by decide)
    (he : starEach (e :: es) X.env = (false, eval e X.env) :: starEach es X.env := by rfl) (hpl : (backTo pos (starEach es X.env)).any (·.1) = false := by rfl) : Ev K X (.Call (.Name x p) (e :: es) [] pos) (tCB (rDN K f) t) (sN f ms) := ⟨pe_callTy hc hg hm hv ha.pa hn hdb he hpl, opN_d ha.ok⟩
noncomputable def sNil : DE → M (List PyData) := fun _ F => some ([], F)
noncomputable def sCons (a : DE → M PyData) (r : DE → M (List PyData)) : DE → M (List PyData) := fun E F => (a E F).bind fun p => (r E p.2).bind fun q => some (p.1 :: q.1, q.2)
theorem ea_nil : Ea K X [] tNil sNil := ⟨pa_nil, fun G B E F σ H Q ds F' I e q => by cases e; exact q [] H Kp.refl I.fd DatsAre.nil⟩
theorem ea_cons {t : TA} {ms : DE → M (List PyData)} (ha : Ev K X e te m) (hr : Ea K X es t ms) (hs : starEach (e :: es) X.env = (false, eval e X.env) :: starEach es X.env := by rfl) : Ea K X (e :: es) (tCons te t) (sCons m ms) :=
  ⟨pa_cons ha.pe hr.pa hs, fun G B E F σ H Q ds F' I e q => by
    obtain ⟨⟨x, F1⟩, e1, e⟩ := Option.bind_eq_some_iff.mp e
    obtain ⟨⟨ys, F2⟩, e2, e⟩ := Option.bind_eq_some_iff.mp e
    cases e
    refine ha.ok G B E F σ H _ x F1 I e1 fun v H1 k1 f1 h1 => ?_
    refine hr.ok G B E F1 σ H1 _ ys F2 (I.step k1 f1) e2 fun vs H2 k2 f2 h2 => q _ H2 (k1.trans k2) f2 (.cons (h1.same (k2.hid I.fB)) h2)⟩
theorem es_nil : Es K X [] tNil sNil := ⟨pa_nil, fun G B E F σ H Q ds F' I e q => by cases e; exact q [] H Kp.refl I.fd rfl⟩
theorem es_cons {t : TA} {ms : DE → M (List PyData)} (ha : Eb K X e te m) (hr : Es K X es t ms) (hs : starEach (e :: es) X.env = (false, eval e X.env) :: starEach es X.env := by rfl) : Es K X (e :: es) (tCons te t) (sCons m ms) :=
  ⟨pa_cons ha.pe hr.pa hs, fun G B E F σ H Q ds F' I e q => by
    obtain ⟨⟨x, F1⟩, e1, e⟩ := Option.bind_eq_some_iff.mp e
    obtain ⟨⟨ys, F2⟩, e2, e⟩ := Option.bind_eq_some_iff.mp e
    cases e
    refine ha.ok G B E F σ H _ x F1 I e1 fun v H1 k1 f1 h1 => ?_
    refine hr.ok G B E F1 σ H1 _ ys F2 (I.step k1 f1) e2 fun vs H2 k2 f2 h2 => q _ H2 (k1.trans k2) f2 ⟨v, vs, rfl, h1.step k2 I.fB, h2⟩⟩
noncomputable def sTup (a : DE → M (List PyData)) : DE → M PyData := fun E F => (a E F).bind fun p => if p.1.length ≤ sizeLine then some (.tuple p.1, p.2) else none
noncomputable def sLst (a : DE → M (List PyData)) : DE → M PyData := fun E F => (a E F).bind fun p => if p.1.length ≤ sizeLine then some (.list p.1, p.2) else none
theorem ev_tup {k} {t : TA} {ms : DE → M (List PyData)} (h : Ea K X es t ms) : Ev K X (.Tuple es k pos) (tTup t) (sTup ms) := ⟨pe_tup h.pa, fun G B E F σ H Q d F' I e q => by
  obtain ⟨⟨x, F1⟩, e1, e⟩ := Option.bind_eq_some_iff.mp e
  split at e
  · rename_i hl
    cases e
    refine h.ok G B E F σ H _ x F1 I e1 fun vs H1 k1 f1 h1 => ⟨by rw [h1.length]; exact hl, fun p hp => q _ _ (k1.trans (Kp.upd hp)) (f1.same (Same.upd hp)) (new_tup (bok_step I.bk k1 f1) hp h1)⟩
  · cases e⟩
theorem ev_lst {t : TA} {ms : DE → M (List PyData)} (h : Ea K X es t ms) : Ev K X (.List es pos) (tLst t) (sLst ms) := ⟨pe_lst h.pa, fun G B E F σ H Q d F' I e q => by
  obtain ⟨⟨x, F1⟩, e1, e⟩ := Option.bind_eq_some_iff.mp e
  split at e
  · rename_i hl
    cases e
    refine h.ok G B E F σ H _ x F1 I e1 fun vs H1 k1 f1 h1 => ⟨by rw [h1.length]; exact hl, fun p hp => q _ _ (k1.trans (Kp.upd hp)) (f1.same (Same.upd hp)) (new_lst (bok_step I.bk k1 f1) hp h1)⟩
  · cases e⟩
noncomputable def boolOf : PyData → Option Bool
  | .bool b => some b
  | _ => none
theorem boolOf_some {d : PyData} {b : Bool} (h : boolOf d = some b) : d = .bool b := by
  cases d <;> simp [boolOf] at h
  rw [h]
noncomputable def sAnd (a b : DE → M PyData) : DE → M PyData := fun E F => (a E F).bind fun p => (boolOf p.1).bind fun c => if c = true then b E p.2 else some (.bool false, p.2)
theorem ev_one {op} (h : Ev K X a te m) : Ev K X (.BoolOp op [a] pos) te m := ⟨pe_one h.pe, h.ok⟩
theorem ev_and {rest : List Expr} (ha : Ev K X a ta ma) (hb : Ev K X (.BoolOp .And (b :: rest) pos) tb mb) : Ev K X (.BoolOp .And (a :: b :: rest) pos) (tAndV ta tb) (sAnd ma mb) := ⟨pe_and ha.pe hb.pe, fun G B E F σ H Q d F' I e q => by
  obtain ⟨⟨x, F1⟩, e1, e⟩ := Option.bind_eq_some_iff.mp e
  obtain ⟨c, e2, e⟩ := Option.bind_eq_some_iff.mp e
  refine ha.ok G B E F σ H _ x F1 I e1 fun v H1 k1 f1 h1 => ?_
  have := boolOf_some e2
  simp only at this
  subst this
  simp only [DatIs] at h1
  refine ⟨c, h1, ?_⟩
  cases c with
  | true => exact hb.ok G B E F1 σ H1 _ d F' (I.step k1 f1) e fun w H2 k2 f2 h2 => q w H2 (k1.trans k2) f2 h2
  | false => cases e; exact q _ H1 k1 f1 DatIs.bl⟩
noncomputable def sIf (c : DE → M Bool) (a b : DE → M PyData) : DE → M PyData := fun E F => (c E F).bind fun p => if p.1 = true then a E p.2 else b E p.2
theorem ev_if {tt : TT} {mt : DE → M Bool} (hc : Et K X c tt mt) (ha : Ev K X a ta ma) (hb : Ev K X b tb mb) : Ev K X (.IfExp c a b pos) (tIf tt ta tb) (sIf mt ma mb) := ⟨pe_ifExp hc.pt ha.pe hb.pe, fun G B E F σ H Q d F' I e q => by
  obtain ⟨⟨x, F1⟩, e1, e⟩ := Option.bind_eq_some_iff.mp e
  refine hc.ok G B E F σ H _ x F1 I e1 fun H1 k1 f1 => ?_
  cases x with
  | true => exact ha.ok G B E F1 σ H1 _ d F' (I.step k1 f1) e fun w H2 k2 f2 h2 => q w H2 (k1.trans k2) f2 h2
  | false => exact hb.ok G B E F1 σ H1 _ d F' (I.step k1 f1) e fun w H2 k2 f2 h2 => q w H2 (k1.trans k2) f2 h2⟩
variable {tA tB : TT} {na nb : DE → M Bool}
noncomputable def uB (a : DE → M PyData) : DE → M Bool := fun E F => (a E F).bind fun p => (boolOf p.1).bind fun c => some (c, p.2)
noncomputable def uAnd (a b : DE → M Bool) : DE → M Bool := fun E F => (a E F).bind fun p => if p.1 = true then b E p.2 else some (false, p.2)
noncomputable def uOr (a b : DE → M Bool) : DE → M Bool := fun E F => (a E F).bind fun p => if p.1 = true then some (true, p.2) else b E p.2
noncomputable def uNot (a : DE → M Bool) : DE → M Bool := fun E F => (a E F).bind fun p => some (!p.1, p.2)
theorem et_cmp {op : CmpOp} {f : PyData → PyData → Option PyData} (ho : OpR X (compareOp op) (rD2 K f)) (ha : Eb K X a ta ma) (hb : Eb K X b tb mb) (hm : behindInMarks op b = false := by first | exact nomark _ | rfl) : Et K X (.Compare a [op] [b] pos) (tTest (tOp (rD2 K f) ta tb)) (uB (s2 f ma mb)) :=
  ⟨pt_cmpR ho ha.pe hb.pe hm, fun G B E F σ H Q d F' I e q => by
    obtain ⟨⟨x, F1⟩, e1, e⟩ := Option.bind_eq_some_iff.mp e
    obtain ⟨c, e2, e⟩ := Option.bind_eq_some_iff.mp e
    cases e
    refine op2_d ha.ok hb.ok G B E F σ H _ x F1 I e1 fun v H1 k1 f1 h1 => ?_
    have := boolOf_some e2
    simp only at this
    subst this
    simp only [DatIs] at h1
    exact ⟨_, h1, q H1 k1 f1⟩⟩
theorem ew_and1 (ha : Et K X a tA na) : Ew K X (.BoolOp .And [a] pos) tA na := ⟨pw_and1 ha.pt, ha.ok⟩
theorem ew_or1 (ha : Et K X a tA na) : Ew K X (.BoolOp .Or [a] pos) tA na := ⟨pw_or1 ha.pt, ha.ok⟩
theorem ew_and {rest : List Expr} (ha : Et K X a tA na) (hb : Ew K X (.BoolOp .And (b :: rest) pos) tB nb) : Ew K X (.BoolOp .And (a :: b :: rest) pos) (tAnd tA tB) (uAnd na nb) := ⟨pw_and ha.pt hb.pw, fun G B E F σ H Q d F' I e q => by
  obtain ⟨⟨x, F1⟩, e1, e⟩ := Option.bind_eq_some_iff.mp e
  refine ha.ok G B E F σ H _ x F1 I e1 fun H1 k1 f1 => ?_
  cases x with
  | true => exact hb.ok G B E F1 σ H1 _ d F' (I.step k1 f1) e fun H2 k2 f2 => q H2 (k1.trans k2) f2
  | false => cases e; exact q H1 k1 f1⟩
theorem ew_or {rest : List Expr} (ha : Et K X a tA na) (hb : Ew K X (.BoolOp .Or (b :: rest) pos) tB nb) : Ew K X (.BoolOp .Or (a :: b :: rest) pos) (tOr tA tB) (uOr na nb) := ⟨pw_or ha.pt hb.pw, fun G B E F σ H Q d F' I e q => by
  obtain ⟨⟨x, F1⟩, e1, e⟩ := Option.bind_eq_some_iff.mp e
  refine ha.ok G B E F σ H _ x F1 I e1 fun H1 k1 f1 => ?_
  cases x with
  | false => exact hb.ok G B E F1 σ H1 _ d F' (I.step k1 f1) e fun H2 k2 f2 => q H2 (k1.trans k2) f2
  | true => cases e; exact q H1 k1 f1⟩
theorem Ew.t (h : Ew K X a tA na) : Et K X a tA na := ⟨h.pw.pt, h.ok⟩
theorem et_not (ha : Et K X a tA na) : Et K X (.UnaryOp .Not a pos) (tNot tA) (uNot na) := ⟨pt_not ha.pt, fun G B E F σ H Q d F' I e q => by
  obtain ⟨⟨x, F1⟩, e1, e⟩ := Option.bind_eq_some_iff.mp e
  cases e
  exact ha.ok G B E F σ H _ x F1 I e1 fun H1 k1 f1 => q H1 k1 f1⟩
noncomputable def truD : PyData → Option Bool
  | .none => some false
  | .bool b => some b
  | .int i => some (i != 0)
  | .str x => if x.length ≤ sizeLine then some ((x.length : Int) != 0) else none
  | .tuple ds => some (!ds.isEmpty)
  | .list ds => some (!ds.isEmpty)
  | .dict _ => none
noncomputable def uT (a : DE → M PyData) : DE → M Bool := fun E F => (a E F).bind fun p => (truD p.1).bind fun c => some (c, p.2)
theorem isEmpty_dats {H : Hp} {ds : List PyData} {xs : List V} (h : DatsAre K H ds xs) : xs.isEmpty = ds.isEmpty := by
  cases ds with
  | nil => simp only [DatsAre] at h; subst h; rfl
  | cons d r => simp only [DatsAre] at h; obtain ⟨x, r, rfl, _⟩ := h; rfl
theorem tru_of {fp B : List Addr} {H : Hp} {d : PyData} {v : V} {c : Bool} (h : DatSh K fp B H d v) (e : truD d = some c) : TruV K v H c := by
  cases d with
  | none => cases h; cases e; rfl
  | bool b => cases h; cases e; rfl
  | int i => cases h; cases e; rfl
  | str x =>
    cases h
    simp only [truD] at e
    split at e
    · rename_i hl; cases e; exact ⟨hl, rfl⟩
    · cases e
  | tuple ds =>
    obtain ⟨p, xs, rfl, hq, hd⟩ := h
    cases e
    exact .inr (.inl ⟨xs, hq.same hid_same, by rw [isEmpty_dats hd]⟩)
  | list ds =>
    obtain ⟨p, xs, rfl, hq, hd⟩ := h
    cases e
    exact .inl ⟨xs, SqL.of (hid_same _ _ hq), by rw [isEmpty_dats hd]⟩
  | dict kvs => exact (show False from h).elim
theorem et_val (ha : Eb K X a ta ma) (hK : X.K = K := by rfl) (he : ∀ whole, isTrue a X.env whole = (do let v ← whole; standAt a.pos; holding [v] (truthy v)) := by intro _; rfl) :
    Et K X a (fun σ H Q => ta σ H fun x H' => ∃ k, TruV K x H' k ∧ Q k H') (uT ma) := ⟨pt_truthK hK ha.pe he, fun G B E F σ H Q d F' I e q => by
  obtain ⟨⟨x, F1⟩, e1, e⟩ := Option.bind_eq_some_iff.mp e
  obtain ⟨c, e2, e⟩ := Option.bind_eq_some_iff.mp e
  cases e
  exact ha.ok G B E F σ H _ x F1 I e1 fun v H1 k1 f1 h1 => ⟨_, tru_of h1 e2, q H1 k1 f1⟩⟩
end
end L3
set_option Elab.async false
set_option linter.all false
set_option maxRecDepth 100000
set_option maxHeartbeats 4000000
namespace L3
open PySem PySem.Spec PyProof.Rows L2
section
variable {K : PySem.W.Frag} {X : Cx}
theorem shs1 {fp B : List Addr} {H : Hp} {ds : List PyData} {d : PyData} {vs : List V} (h : DatShs K fp B H ds vs) (e : ds = [d]) : ∃ v, vs = [v] ∧ DatSh K fp B H d v := by
  subst e
  obtain ⟨v, r, rfl, h1, h2⟩ := h
  cases h2
  exact ⟨v, rfl, h1⟩
noncomputable def i2 (C : Int → Int → Prop) [∀ i j, Decidable (C i j)] (g : Int → Int → PyData) : PyData → PyData → Option PyData
  | .int i, .int j => if C i j then some (g i j) else none
  | _, _ => none
theorem i2_some {C : Int → Int → Prop} [∀ i j, Decidable (C i j)] {g : Int → Int → PyData} {d e r : PyData} (h : i2 C g d e = some r) : ∃ i j, d = .int i ∧ e = .int j ∧ C i j ∧ r = g i j := by
  cases d <;> cases e <;> simp only [i2] at h <;> try cases h
  split at h
  · rename_i hc; cases h; exact ⟨_, _, rfl, rfl, hc, rfl⟩
  · cases h
theorem opI_d {f : Value → Value → Sem Value} {C : Int → Int → Prop} [∀ i j, Decidable (C i j)] {g : Int → Int → V} {gd : Int → Int → PyData} (ho : OpR X f (rI C g)) (hg : ∀ H i j, DatIs K H (gd i j) (g i j)) : OpR X f (rD2 K (i2 C gd)) := by
  intro pins s σ H x y v u Q I rx ry h
  obtain ⟨fp, B, d, e, r, bk, h1, h2, hf, q⟩ := h
  obtain ⟨i, j, rfl, rfl, hc, rfl⟩ := i2_some hf
  cases h1
  cases h2
  exact ho pins s σ H _ _ v u Q I rx ry ⟨i, j, rfl, rfl, hc, q _ H (Same.refl H) (hg _ i j)⟩
theorem opI0_d {f : Value → Value → Sem Value} {g : Int → Int → V} {gd : Int → Int → PyData} (ho : OpR X f (rI0 g)) (hg : ∀ H i j, DatIs K H (gd i j) (g i j)) : OpR X f (rD2 K (i2 (fun _ _ => True) gd)) := by
  intro pins s σ H x y v u Q I rx ry h
  obtain ⟨fp, B, d, e, r, bk, h1, h2, hf, q⟩ := h
  obtain ⟨i, j, rfl, rfl, hc, rfl⟩ := i2_some hf
  cases h1
  cases h2
  exact ho pins s σ H _ _ v u Q I rx ry ⟨i, j, rfl, rfl, q _ H (Same.refl H) (hg _ i j)⟩
noncomputable abbrev subD := i2 (fun _ _ => True) fun i j => .int (i - j)
theorem od_sub : OpR X (binaryOp .Sub) (rD2 K subD) := opI0_d op_sub fun _ _ _ => DatIs.int
noncomputable instance : ∀ i j, Decidable (CPow i j) := fun i j => inferInstanceAs (Decidable (_ ∧ _ ∧ _))
noncomputable instance : ∀ i j, Decidable (CMul i j) := fun i j => inferInstanceAs (Decidable ((_ ∧ _) ∨ (_ ∧ _)))
noncomputable abbrev modD := i2 (fun _ j => 0 < j) fun i j => .int (i % j)
theorem od_mod : OpR X (binaryOp .Mod) (rD2 K modD) := opI_d op_mod fun _ _ _ => DatIs.int
noncomputable def CDivB (i j : Int) : Prop := j ≠ 0 ∧ j.natAbs < 2 ^ 9000
noncomputable instance {i j : Int} : Decidable (CDivB i j) := inferInstanceAs (Decidable (_ ∧ _))
@[irreducible] def bigN : Nat := 2 ^ 400000
theorem bigN_eq : bigN = 2 ^ 400000 := by unfold bigN; rfl
theorem bigN_ge {n : Nat} (h : n ≤ 400000) : 2 ^ n ≤ bigN := by rw [bigN_eq]; exact Nat.pow_le_pow_right (by decide) h
noncomputable def Big (i j : Int) : Prop := CMul i j ∨ (i.natAbs < bigN ∧ j.natAbs < bigN)
noncomputable instance {i j : Int} : Decidable (Big i j) := inferInstanceAs (Decidable (_ ∨ _))
theorem bits_le {n : Nat} {i : Int} (h : i.natAbs < 2 ^ n) : Builtin.Int.intBits i ≤ n := by
  unfold Builtin.Int.intBits
  split
  · exact Nat.zero_le _
  · rename_i h0
    have h0 : i.natAbs ≠ 0 := fun z => h0 (by simpa using z)
    exact (Nat.log2_lt h0).mpr h
theorem Big.ok {i j : Int} (h : Big i j) : IntMulOk i j := by
  rcases h with h | ⟨h1, h2⟩
  · exact h.ok
  · unfold IntMulOk
    have e : Builtin.Int.intTooBig ((Builtin.Int.intBits i : Int) + Builtin.Int.intBits j) = false := by
      unfold Builtin.Int.intTooBig
      rw [bigN_eq] at h1 h2
      have a := bits_le h1
      have b := bits_le h2
      have c : (bitsLine : Nat) = 134217728 := by decide
      refine decide_eq_false ?_
      rw [c]
      omega
    rw [e, Bool.and_false]
    exact Bool.false_ne_true
theorem op_mulB : OpR X (binaryOp .Mult) (rI Big fun i j => .int (i * j)) := opI fun _ _ _ _ _ _ _ hc q => mul_int q hc.ok
theorem op_fdivB : OpR X (binaryOp .FloorDiv) (rI CDivB fun i j => .int (i.fdiv j)) := opI fun i j _ _ _ _ _ hc q => by
  have h0 : j.natAbs ≠ 0 := fun z => hc.1 (Int.natAbs_eq_zero.mp z)
  exact floordiv_int hc.1 q (.inl (PyProof.noPylong_of_log2 ((Nat.log2_lt h0).mpr hc.2)))
noncomputable abbrev fdivD := i2 CDivB fun i j => .int (i.fdiv j)
theorem od_fdiv : OpR X (binaryOp .FloorDiv) (rD2 K fdivD) := opI_d op_fdivB fun _ _ _ => DatIs.int
noncomputable abbrev ltD := i2 (fun _ _ => True) fun i j => .bool (decide (i < j))
noncomputable abbrev leD := i2 (fun _ _ => True) fun i j => .bool (decide (i ≤ j))
noncomputable abbrev gtD := i2 (fun _ _ => True) fun i j => .bool (decide (j < i))
theorem od_lt : OpR X (compareOp .Lt) (rD2 K ltD) := opI0_d op_lt fun _ _ _ => DatIs.bl
theorem od_le : OpR X (compareOp .LtE) (rD2 K leD) := opI0_d op_le fun _ _ _ => DatIs.bl
theorem od_gt : OpR X (compareOp .Gt) (rD2 K gtD) := opI0_d op_gt fun _ _ _ => DatIs.bl
noncomputable def addD : PyData → PyData → Option PyData
  | .int i, .int j => some (.int (i + j))
  | .str x, .str y => if x.length + y.length ≤ sizeLine then some (.str (x ++ y)) else none
  | .tuple xs, .tuple ys => if xs.length + ys.length ≤ sizeLine then some (.tuple (xs ++ ys)) else none
  | .list xs, .list ys => if xs.length + ys.length ≤ sizeLine then some (.list (xs ++ ys)) else none
  | _, _ => none
theorem DatsAre.nil_of {H : Hp} {ds : List PyData} {xs : List V} (h : DatsAre K H ds xs) (e : xs = []) : ds = [] := by
  subst e; exact List.length_eq_zero_iff.mp (by rw [← h.length]; rfl)
theorem od_add (hK : X.K = K) : OpR X (binaryOp .Add) (rD2 K addD) := by
  intro pins s σ H x y v u Q I rx ry h
  obtain ⟨fp, B, d, e, r, bk, h1, h2, hf, q⟩ := h
  cases d <;> cases e <;> simp only [addD] at hf <;> try cases hf
  · cases h1
    cases h2
    exact op_add pins s σ H _ _ v u Q I rx ry ⟨_, _, rfl, rfl, q _ H (Same.refl H) DatIs.int⟩
  · cases h1
    cases h2
    split at hf
    · rename_i hl
      cases hf
      exact op_add_str pins s σ H _ _ v u Q I rx ry ⟨_, _, rfl, rfl, hl, q _ H (Same.refl H) DatIs.st⟩
    · cases hf
  · obtain ⟨a, xs, rfl, ha, hd⟩ := h1
    obtain ⟨b, ys, rfl, hb, he⟩ := h2
    split at hf
    · rename_i hl
      cases hf
      refine op_cat pins s σ H _ _ v u Q I rx ry ⟨a, b, xs, ys, rfl, rfl, hid_same _ _ ha, hid_same _ _ hb, by rw [hd.length, he.length]; exact hl, fun p hp => q _ _ (Same.upd hp) (new_lst bk hp (DatsAre.append he hd))⟩
    · cases hf
  · obtain ⟨a, xs, rfl, ha, hd⟩ := h1
    obtain ⟨b, ys, rfl, hb, he⟩ := h2
    split at hf
    · rename_i hl
      cases hf
      refine op_catA hK pins s σ H _ _ v u Q I rx ry ⟨a, b, xs, ys, rfl, rfl, ha.same hid_same, hb.same hid_same, by rw [hd.length, he.length]; exact hl, fun z => q _ H (Same.refl H) ?_, fun z => q _ H (Same.refl H) ?_, fun p hp => q _ _ (Same.upd hp) (new_tup bk hp (DatsAre.append he hd))⟩
      · cases DatsAre.nil_of hd z
        simp only [DatIs, List.nil_append]
        exact ⟨b, ys, rfl, hb, he⟩
      · cases DatsAre.nil_of he z
        simp only [DatIs, List.append_nil]
        exact ⟨a, xs, rfl, ha, hd⟩
    · cases hf
noncomputable def mulD : PyData → PyData → Option PyData
  | .int i, .int j => if Big i j then some (.int (i * j)) else none
  | .list xs, .int k => if -(2 ^ 63) ≤ k ∧ k < 2 ^ 63 ∧ xs.length * k.toNat ≤ sizeLine then some (.list (List.replicate k.toNat xs).flatten) else none
  | _, _ => none
theorem DatsAre.rep {H : Hp} {ds : List PyData} {xs : List V} (h : DatsAre K H ds xs) : ∀ n, DatsAre K H (List.replicate n ds).flatten (List.replicate n xs).flatten
  | 0 => DatsAre.nil
  | n + 1 => by
    rw [List.replicate_succ, List.replicate_succ, List.flatten_cons, List.flatten_cons]
    exact DatsAre.append (DatsAre.rep h n) h
theorem od_mul : OpR X (binaryOp .Mult) (rD2 K mulD) := by
  intro pins s σ H x y v u Q I rx ry h
  obtain ⟨fp, B, d, e, r, bk, h1, h2, hf, q⟩ := h
  cases d <;> cases e <;> simp only [mulD] at hf <;> try cases hf
  · cases h1
    cases h2
    split at hf
    · rename_i hc
      cases hf
      exact op_mulB pins s σ H _ _ v u Q I rx ry ⟨_, _, rfl, rfl, hc, q _ H (Same.refl H) DatIs.int⟩
    · cases hf
  · obtain ⟨a, xs, rfl, ha, hd⟩ := h1
    cases h2
    split at hf
    · rename_i hc
      cases hf
      exact op_rep pins s σ H _ _ v u Q I rx ry ⟨a, _, xs, rfl, rfl, hid_same _ _ ha, hc.1, hc.2.1, by rw [hd.length]; exact hc.2.2, fun p hp => q _ _ (Same.upd hp) (new_lst bk hp (DatsAre.rep hd _))⟩
    · cases hf
open PySem.SeqAt in
noncomputable def eqD (neg : Bool) : PyData → PyData → Option PyData
  | .str x, .str y => some (.bool (if neg then !decide (x = y) else decide (x = y)))
  | d, e => if shaped d = true ∧ shaped e = true then some (.bool (if neg then !PyData.eqv d e else PyData.eqv d e)) else none
theorem od_eq (hK : X.K = K) (hu : X.A.units + 64 < cLine) : OpR X (compareOp .Eq) (rD2 K (eqD false)) := by
  subst hK
  intro pins s σ H x y v u Q I rx ry h
  obtain ⟨fp, B, d, e, r, bk, h1, h2, hf, q⟩ := h
  unfold eqD at hf
  split at hf
  · cases hf
    cases h1
    cases h2
    have z := q _ H (Same.refl H) DatIs.bl
    rename_i a b
    have e : decide (V.str a = V.str b) = decide (a = b) := by simp
    exact op_eq pins s σ H _ _ v u Q I rx ry ⟨rfl, by rw [e]; exact z⟩
  · split at hf
    · rename_i hs
      cases hf
      obtain ⟨as, ra⟩ := reads_of I _ x v h1.dat rx
      obtain ⟨bs, rb⟩ := reads_of I _ y u h2.dat ry
      exact eq_dataH ra rb hs.1 hs.2 hu ⟨.bl _, H, I, rfl, q _ H (Same.refl H) DatIs.bl⟩
    · cases hf
theorem od_ne (hK : X.K = K) (hu : X.A.units + 64 < cLine) : OpR X (compareOp .NotEq) (rD2 K (eqD true)) := by
  subst hK
  intro pins s σ H x y v u Q I rx ry h
  obtain ⟨fp, B, d, e, r, bk, h1, h2, hf, q⟩ := h
  unfold eqD at hf
  split at hf
  · cases hf
    cases h1
    cases h2
    have z := q _ H (Same.refl H) DatIs.bl
    rename_i a b
    have e : decide (V.str a = V.str b) = decide (a = b) := by simp
    exact op_ne pins s σ H _ _ v u Q I rx ry ⟨rfl, by rw [e]; exact z⟩
  · split at hf
    · rename_i hs
      cases hf
      obtain ⟨as, ra⟩ := reads_of I _ x v h1.dat rx
      obtain ⟨bs, rb⟩ := reads_of I _ y u h2.dat ry
      exact ne_dataH ra rb hs.1 hs.2 hu ⟨.bl _, H, I, rfl, q _ H (Same.refl H) DatIs.bl⟩
    · cases hf
end
end L3
set_option Elab.async false
set_option linter.all false
set_option maxRecDepth 100000
set_option maxHeartbeats 4000000
namespace L3
open PySem PySem.Spec PyProof.Rows L2
section
variable {K : PySem.W.Frag} {X : Cx}
theorem DatsAre.at {H : Hp} {ds : List PyData} {xs : List V} {i : Int} {d : PyData} (h : DatsAre K H ds xs) (e : atI ds i = some d) : ∃ v, atI xs i = some v ∧ DatIs K H d v := by
  unfold atI at e ⊢
  rw [h.length]
  cases q : ixN ds.length i with
  | none => rw [q] at e; cases e
  | some j =>
    rw [q] at e
    have e : ds[j]? = some d := e
    obtain ⟨hj, _⟩ := List.getElem?_eq_some_iff.mp e
    have hx : xs[j]? = some (xs[j]'(by rw [h.length]; exact hj)) := by simp
    obtain ⟨d', h1, h2⟩ := h.get hx
    rw [e] at h1; cases h1
    exact ⟨_, hx, h2⟩
noncomputable def ixD : PyData → PyData → Option PyData
  | .list ds, .int i => atI ds i
  | .tuple ds, .int i => atI ds i
  | .str x, .int i => if x.length ≤ sizeLine then (atI x.cps.toList i).map fun c => .str ⟨#[c]⟩ else none
  | _, _ => none
theorem id_ix (hK : X.K = K) : IxR X (rD2 K ixD) := by
  intro value slice pins s σ H x y v u Q I rx ry h hs
  obtain ⟨fp, B, d, e, r, bk, h1, h2, hf, q⟩ := h
  cases d <;> cases e <;> simp only [ixD] at hf <;> try cases hf
  · cases h1
    cases h2
    split at hf
    · rename_i hl
      obtain ⟨c, e1, rfl⟩ := Option.map_eq_some_iff.mp hf
      exact ix_str value slice pins s σ H _ _ v u Q I rx ry ⟨_, _, c, rfl, rfl, hl, e1, q _ H (Same.refl H) DatIs.st⟩ hs
    · cases hf
  · obtain ⟨a, xs, rfl, ha, hd⟩ := h1
    cases h2
    obtain ⟨w, e1, e2⟩ := DatsAre.at hd hf
    exact ix_listK hK value slice pins s σ H _ _ v u Q I rx ry ⟨a, xs, _, w, rfl, rfl, SqL.of (hid_same _ _ ha), e1, q w H (Same.refl H) e2⟩ hs
  · obtain ⟨a, xs, rfl, ha, hd⟩ := h1
    cases h2
    obtain ⟨w, e1, e2⟩ := DatsAre.at hd hf
    exact ix_tupK hK value slice pins s σ H _ _ v u Q I rx ry ⟨a, xs, _, w, rfl, rfl, ha.same hid_same, e1, q w H (Same.refl H) e2⟩ hs
end
section
variable [Feeds] {K : PySem.W.Frag} {X : Cx} {e : Expr} {te : TE} {m : DE → M PyData} {pos p2 : Pos}
end
section
variable {K : PySem.W.Frag} {X : Cx}
noncomputable def lenD : List PyData → Option PyData
  | [.list ds] => some (.int ds.length)
  | [.tuple ds] => some (.int ds.length)
  | [.str x] => if x.length ≤ sizeLine then some (.int x.length) else none
  | _ => none
theorem cd_len (hK : X.K = K) : CallR X (.builtin "len") (rDN K lenD) := by
  intro pins s σ H xs us Q I r h
  obtain ⟨fp, B, ds, z, bk, h1, hf, q⟩ := h
  unfold lenD at hf
  split at hf <;> try cases hf
  · obtain ⟨v, rfl, a, xs, rfl, ha, hd⟩ := shs1 h1 rfl
    have := q _ H (Same.refl H) DatIs.int
    rw [← hd.length] at this
    exact call_len_seqK hK pins s σ H _ us Q I r ⟨a, xs, rfl, .inl (SqL.of (hid_same _ _ ha)), this⟩
  · obtain ⟨v, rfl, a, xs, rfl, ha, hd⟩ := shs1 h1 rfl
    have := q _ H (Same.refl H) DatIs.int
    rw [← hd.length] at this
    exact call_len_seqK hK pins s σ H _ us Q I r ⟨a, xs, rfl, .inr (ha.same hid_same), this⟩
  · rename_i x0
    obtain ⟨v, rfl, hv⟩ := shs1 h1 rfl
    have hv : v = .str x0 := hv
    subst hv
    split at hf
    · rename_i hl
      cases hf
      exact call_len_str pins s σ H _ us Q I r ⟨_, rfl, hl, q _ H (Same.refl H) DatIs.int⟩
    · cases hf
noncomputable def tupleD : List PyData → Option PyData
  | [.list ds] => some (.tuple ds)
  | [.tuple ds] => some (.tuple ds)
  | _ => none
theorem cd_tuple (hK : X.K = K) : CallR X (.type "tuple") (rDN K tupleD) := by
  intro pins s σ H xs us Q I r h
  obtain ⟨fp, B, ds, z, bk, h1, hf, q⟩ := h
  unfold tupleD at hf
  split at hf <;> try cases hf
  · obtain ⟨v, rfl, a, xs, rfl, ha, hd⟩ := shs1 h1 rfl
    exact call_tuple_ofK hK pins s σ H _ us Q I r ⟨a, xs, rfl, .inl ⟨SqL.of (hid_same _ _ ha), fun l hl => q _ _ (Same.upd hl) (new_tup bk hl hd)⟩⟩
  · obtain ⟨v, rfl, hv⟩ := shs1 h1 rfl
    have hv' := hv.tup
    obtain ⟨a, xs, rfl, ha, hd⟩ := hv
    exact call_tuple_ofK hK pins s σ H _ us Q I r ⟨a, xs, rfl, .inr ⟨ha.same hid_same, q _ H (Same.refl H) hv'⟩⟩
noncomputable def intsOf : List PyData → Option (List Int)
  | [] => some []
  | .int i :: r => (intsOf r).map (i :: ·)
  | _ => none
theorem intsOf_some : ∀ {ds : List PyData} {ns : List Int}, intsOf ds = some ns → ds = ns.map .int
  | [], ns, h => by cases h; rfl
  | d :: r, ns, h => by
    cases d <;> simp only [intsOf] at h <;> try cases h
    obtain ⟨m, e, rfl⟩ := Option.map_eq_some_iff.mp h
    rw [intsOf_some e]; rfl
theorem ints_v {H : Hp} : ∀ {ns : List Int} {xs : List V}, DatsAre K H (ns.map .int) xs → xs = ns.map V.int
  | [], xs, h => by simpa only [List.map_nil, DatsAre] using h
  | n :: ns, xs, h => by
    simp only [List.map_cons, DatsAre] at h
    obtain ⟨x, r, rfl, h1, h2⟩ := h
    simp only [DatIs] at h1
    rw [h1, ints_v h2]; rfl
noncomputable def reprOk (d : PyData) : Bool := d.showable && !d.hasDict && decide (d.depth ≤ 50) && decide (d.shown.length ≤ 16000000)
end
end L3
set_option Elab.async false
set_option linter.all false
set_option maxRecDepth 100000
set_option maxHeartbeats 4000000
namespace L3
open PySem PySem.Spec PyProof.Rows L2
section
variable {K : PySem.W.Frag} {X : Cx}
theorem reprOk_shw {d : PyData} (h : reprOk d = true) : Shw d 50 16000000 := by
  unfold reprOk at h
  simp only [Bool.and_eq_true, decide_eq_true_eq, Bool.not_eq_true'] at h
  exact ⟨h.1.1.1, h.1.1.2, h.1.2, h.2⟩
noncomputable def reprD : List PyData → Option PyData
  | [d] => if reprOk d = true then some (.str d.shown) else none
  | _ => none
theorem cd_repr (hK : X.K = K) (hg : X.A.guards = some []) (hu : X.A.units + 64 < cLine) : CallR X (.builtin "repr") (rDN K reprD) := by
  intro pins s σ H xs us Q I r h
  obtain ⟨fp, B, ds, z, bk, h1, hf, q⟩ := h
  unfold reprD at hf
  split at hf <;> try cases hf
  rename_i d
  split at hf
  · rename_i ho
    cases hf
    obtain ⟨v, rfl, hv⟩ := shs1 h1 rfl
    have sh := reprOk_shw ho
    have qq := q _ H (Same.refl H) DatIs.st
    cases d with
    | tuple ds =>
      have hd := hv.dat
      obtain ⟨a, xs, rfl, ha, _⟩ := hv
      exact call_reprK hK hg hu pins s σ H _ us Q I r ⟨a, _, rfl, hd, sh, qq⟩
    | list ds =>
      have hd := hv.dat
      obtain ⟨a, xs, rfl, ha, _⟩ := hv
      exact call_reprK hK hg hu pins s σ H _ us Q I r ⟨a, _, rfl, hd, sh, qq⟩
    | none =>
      cases (show v = .non from hv)
      obtain ⟨u, rfl, rfl⟩ := vals1 r
      exact PySem.P.repr_of_none ⟨.str _, H, I.tok _, ⟨_, rfl⟩, by simpa only [PyData.shown] using qq⟩
    | bool b =>
      cases (show v = .bl b from hv)
      obtain ⟨u, rfl, rfl⟩ := vals1 r
      exact PySem.P.repr_of_bool ⟨.str _, H, I.tok _, ⟨_, rfl⟩, by simpa only [PyData.shown] using qq⟩
    | int i =>
      cases (show v = .int i from hv)
      obtain ⟨u, rfl, t, rfl⟩ := vals1 r
      have hl : i.natAbs.log2 < 1920 := by have := sh.sh; simpa only [PyData.showable, decide_eq_true_eq] using this
      exact PySem.P.repr_of_int hl ⟨.str _, H, I.tok _, ⟨_, rfl⟩, by simpa only [PyData.shown] using qq⟩
    | str x =>
      cases (show v = .str x from hv)
      obtain ⟨u, rfl, t, rfl⟩ := vals1 r
      have hl : (reprText x).length ≤ sizeLine := by have := sh.ln; simp only [PyData.shown] at this; exact Nat.le_trans this (by rw [sizeLine_eq]; decide)
      exact PySem.P.repr_of_str ⟨.str _, H, I.tok _, ⟨_, rfl⟩, by simpa only [PyData.shown] using qq⟩ hl
    | dict b => exact (show False from hv).elim
  · cases hf
noncomputable def intD : List PyData → Option PyData
  | [.int i] => some (.int i)
  | [.bool b] => some (.int (if b then 1 else 0))
  | _ => none
theorem cd_int : CallR X (.type "int") (rDN K intD) := by
  intro pins s σ H xs us Q I r h
  obtain ⟨fp, B, ds, z, bk, h1, hf, q⟩ := h
  unfold intD at hf
  split at hf <;> try cases hf
  · rename_i i
    obtain ⟨v, rfl, hv⟩ := shs1 h1 rfl
    cases (show v = .int i from hv)
    exact call_int1 pins s σ H _ us Q I r (.inl ⟨i, rfl, q _ H (Same.refl H) DatIs.int⟩)
  · rename_i b
    obtain ⟨v, rfl, hv⟩ := shs1 h1 rfl
    cases (show v = .bl b from hv)
    exact call_int1 pins s σ H _ us Q I r (.inr ⟨b, rfl, q _ H (Same.refl H) DatIs.int⟩)
noncomputable def absD : List PyData → Option PyData
  | [.int i] => some (.int (if i < 0 then -i else i))
  | _ => none
theorem cd_abs : CallR X (.builtin "abs") (rDN K absD) := by
  intro pins s σ H xs us Q I r h
  obtain ⟨fp, B, ds, z, bk, h1, hf, q⟩ := h
  unfold absD at hf
  split at hf <;> try cases hf
  rename_i i
  obtain ⟨v, rfl, hv⟩ := shs1 h1 rfl
  cases (show v = .int i from hv)
  exact call_abs pins s σ H _ us Q I r ⟨i, rfl, q _ H (Same.refl H) DatIs.int⟩
noncomputable def negD : PyData → Option PyData
  | .int i => some (.int (-i))
  | _ => none
theorem ud_neg : UnR X (unaryOp .USub) (rD1 K negD) := by
  intro pins s σ H x v Q I rx h
  obtain ⟨fp, B, d, r, bk, h1, hf, q⟩ := h
  cases d <;> simp only [negD] at hf <;> try cases hf
  rename_i i
  cases (show x = .int i from h1)
  exact un_neg pins s σ H _ v Q I rx ⟨i, rfl, q _ H (Same.refl H) DatIs.int⟩
end
section
variable [Feeds] {K : PySem.W.Frag} {X : Cx} {e : Expr} {te : TE} {m : DE → M PyData} {pos p p2 p3 : Pos}
end
section
variable {K : PySem.W.Frag} {X : Cx}
end
end L3
namespace L3
open PySem PySem.Spec PyProof.Rows L2
section
variable [Feeds] {K : PySem.W.Frag} {X : Cx} {e : Expr} {te : TE} {m : DE → M PyData} {pos p p2 p3 : Pos}
end
end L3
set_option Elab.async false
set_option linter.all false
set_option maxRecDepth 100000
set_option maxHeartbeats 4000000
namespace L3
open PySem PySem.Spec L2
theorem noFill_tuple_mul : fillsNumberSlot (.type "tuple") "mul" = pure false :=
  fillsNumberSlot_seq (id := "tuple.__mul__") (r := some (.builtin "tuple.__rmul__")) F.slot_tuple_mul.lookup (by decide +kernel) F.slot_tuple_rmul.lookup (by decide +kernel)
theorem repeat_tuple : seqRepeat? (.type "tuple") = pure (some (.builtin "tuple.__mul__")) := by
  unfold seqRepeat?
  rw [seqSlot_of (T := "tuple") (name := "__mul__") (id := "tuple.__mul__") F.slot_tuple_mul.lookup (by decide +kernel), seqSlot_of (T := "tuple") (name := "__rmul__") (id := "tuple.__rmul__") F.slot_tuple_rmul.lookup (by decide +kernel)]
  rfl
theorem int_rmul_tuple (a : Int) (t : Tok) (l : Addr) (items : Array Value) (n : Nat) (dd : Option Addr) (sl : Array (Option Value)) :
    Meets (Builtin.«int.__rmul__» ⟨[.int a t, .ref l], []⟩) (fun _ R s => s.heap.get? l = some { cls := .type "tuple", dict := dd, data := .seq items n, slots := sl } ∧ R (.ok (.ret Value.notImplemented)) s) :=
  .of_wp fun prog w A R s h => by obtain ⟨hp, g, d, tk, os⟩ := s; obtain ⟨hl, h⟩ := h; wp_walk; exact ⟨_, rfl, h⟩
theorem tuple_mul0 (l : Addr) (items : Array Value) (n : Nat) (dd : Option Addr) (sl : Array (Option Value)) (k : Int) (u : Tok) (hc0 : (decide (k < -(2 ^ 63)) || decide (k ≥ 2 ^ 63)) = false) (hc1 : (items.isEmpty || k == 1) = true) :
    Meets (Builtin.«tuple.__mul__» ⟨[.ref l, .int k u], []⟩) (fun _ R s => s.heap.get? l = some { cls := .type "tuple", dict := dd, data := .seq items n, slots := sl } ∧ R (.ok (.ret (.ref l))) s) :=
  .of_wp fun prog w A R s h => by
    obtain ⟨hp, g, d, tk, os⟩ := s; obtain ⟨hl, h⟩ := h
    have f1 := AutoSeq1.idx_int; have f2 := AutoSeq1.sub_tuple_tuple; have f3 := AutoSeq1.sub_list_list; have f4 := AutoSeq1.sub_tuple_list; have f5 := AutoSeq1.sub_list_tuple
    wp_walk
    refine wpAny_ite_false (by rw [hc0]; rfl) ?_
    wp_walk
    exact ⟨_, rfl, h⟩
theorem tuple_mul1 (l : Addr) (items : Array Value) (n : Nat) (dd : Option Addr) (sl : Array (Option Value)) (k : Int) (u : Tok) (hc0 : (decide (k < -(2 ^ 63)) || decide (k ≥ 2 ^ 63)) = false) (hc1 : (items.isEmpty || k == 1) = false) (hc2 : (decide (k ≤ 0) || items.isEmpty) = true) :
    Meets (Builtin.«tuple.__mul__» ⟨[.ref l, .int k u], []⟩) (fun _ R s => s.heap.get? l = some { cls := .type "tuple", dict := dd, data := .seq items n, slots := sl } ∧ R (.ok (.ret (.ref s.heap.objs.size))) { s with heap := s.heap.push { cls := .type "tuple", data := .seq #[] } }) :=
  .of_wp fun prog w A R s h => by
    obtain ⟨hp, g, d, tk, os⟩ := s; obtain ⟨hl, h⟩ := h
    have f1 := AutoSeq1.idx_int; have f2 := AutoSeq1.sub_tuple_tuple; have f3 := AutoSeq1.sub_list_list; have f4 := AutoSeq1.sub_tuple_list; have f5 := AutoSeq1.sub_list_tuple
    wp_walk
    refine wpAny_ite_false (by rw [hc0]; rfl) ?_
    wp_walk
    exact ⟨_, rfl, h⟩
theorem tuple_mul2 (l : Addr) (items : Array Value) (n : Nat) (dd : Option Addr) (sl : Array (Option Value)) (k : Int) (u : Tok) (hc0 : (decide (k < -(2 ^ 63)) || decide (k ≥ 2 ^ 63)) = false) (hc1 : (items.isEmpty || k == 1) = false) (hc2 : (decide (k ≤ 0) || items.isEmpty) = false) (hc3 : decide ((items.size : Int) * k > (2 ^ 63 - 1) / 8) = false) (hc4 : Builtin.Tuple.tupleTooMany ((items.size : Int) * k) = false)
    (hsz : (List.foldl (fun x1 x2 => x1 ++ x2) #[] (List.replicate k.toNat items)).size ≤ sizeLine) :
    Meets (Builtin.«tuple.__mul__» ⟨[.ref l, .int k u], []⟩) (fun _ R s => s.heap.get? l = some { cls := .type "tuple", dict := dd, data := .seq items n, slots := sl } ∧ R (.ok (.ret (.ref s.heap.objs.size))) { s with heap := s.heap.push { cls := .type "tuple", data := .seq (List.foldl (fun x1 x2 => x1 ++ x2) #[] (List.replicate k.toNat items)) } }) :=
  .of_wp fun prog w A R s h => by
    obtain ⟨hp, g, d, tk, os⟩ := s; obtain ⟨hl, h⟩ := h
    have f1 := AutoSeq1.idx_int; have f2 := AutoSeq1.sub_tuple_tuple; have f3 := AutoSeq1.sub_list_list; have f4 := AutoSeq1.sub_tuple_list; have f5 := AutoSeq1.sub_list_tuple
    wp_walk
    refine wpAny_ite_false (by rw [hc0]; rfl) ?_
    wp_walk
    refine wpAny_ite_false hc3 ?_
    wp_walk
    exact ⟨_, rfl, h⟩
section
open PyProof.Rows
variable {K : PySem.W.Frag} {X : Cx}
noncomputable def mulD' : PyData → PyData → Option PyData
  | .tuple xs, .int k => if -(2 ^ 63) ≤ k ∧ k < 2 ^ 63 ∧ xs.length * k.toNat ≤ sizeLine then some (.tuple (List.replicate k.toNat xs).flatten) else none
  | d, e => mulD d e
theorem op_repT (hK : X.K = K) : OpR X (binaryOp .Mult) (fun x y H Q => ∃ l k xs, x = .ref l ∧ y = .int k ∧ SqT K H l xs ∧ -(2 ^ 63) ≤ k ∧ k < 2 ^ 63 ∧ xs.length * k.toNat ≤ sizeLine ∧
    ((List.replicate k.toNat xs).flatten = xs → Q (.ref l) H) ∧ ∀ p, H p = none → Q (.ref p) (upd H p (.tup (List.replicate k.toNat xs).flatten))) := by
  subst hK
  intro pins s σ H x y v u Q I rx ry h
  obtain ⟨l, k, xs, rfl, rfl, hq, h1, h2, hz, q0, q1⟩ := h
  cases rx
  obtain ⟨t, rfl⟩ := ry
  obtain ⟨its, r, p, hl⟩ := I.tuple hq
  have hlen := r.length
  obtain ⟨⟨cls, dd, data, sl⟩, ho, hc, n, hd⟩ := id p
  simp only at hc hd
  subst hc hd
  have hc0 : (decide (k < -(2 ^ 63)) || decide (k ≥ 2 ^ 63)) = false := by
    rw [decide_eq_false (by omega), decide_eq_false (by omega)]; rfl
  have e1 : s.TypeIs (.ref l) "tuple" := ⟨_, ho, rfl⟩
  refine wpAny_binaryOp_repeat_ref (T := "tuple") (U := "int") (by decide) e1 (fun s' => typeIs_int s' k t) noFill_tuple_mul F.fills_int_mul F.slot_int_rmul repeat_tuple F.slot_int_index.lookup
    (call_meets F.slot_int_rmul (typeIs_int s k t) F.entry_int_rmul (F.args_int_rmul_2 _ _) (int_rmul_tuple k t l its.toArray n dd sl) ⟨ho, rfl, e1, ?_⟩)
  by_cases c1 : (its.toArray.isEmpty || k == 1) = true
  · refine call_meets F.slot_tuple_mul e1 F.entry_tuple_mul (F.args_tuple_mul_2 _ _) (tuple_mul0 l its.toArray n dd sl k t hc0 c1) ⟨ho, ⟨.ref l, H, I, rfl, q0 ?_⟩⟩
    simp only [Bool.or_eq_true, beq_iff_eq] at c1
    rcases c1 with c1 | c1
    · have : xs = [] := by
        cases r with
        | nil => rfl
        | cons a b => simp at c1
      subst this
      simp
    · subst c1
      simp
  · have c1 : (its.toArray.isEmpty || k == 1) = false := by simpa using c1
    by_cases c2 : (decide (k ≤ 0) || its.toArray.isEmpty) = true
    · refine call_meets F.slot_tuple_mul e1 F.entry_tuple_mul (F.args_tuple_mul_2 _ _) (tuple_mul1 l its.toArray n dd sl k t hc0 c1 c2) ⟨ho, ?_⟩
      have ez : (List.replicate k.toNat xs).flatten = [] := by
        rw [Bool.or_eq_false_iff] at c1
        rw [c1.1, Bool.or_false] at c2
        have : k.toNat = 0 := by have := of_decide_eq_true c2; omega
        rw [this]; rfl
      have z := q1 _ I.fresh
      rw [ez] at z
      exact ⟨.ref _, _, I.laid (t' := s.toks) (o := .tup []) (fun b ob q => Heap.get?_push_of_some _ q) (Nat.le_refl _) ⟨Nat.zero_le _, [], .nil, IsTup.new _ _, .mk (Heap.get?_push_size _ rfl) rfl⟩, rfl, z⟩
    · have c2 : (decide (k ≤ 0) || its.toArray.isEmpty) = false := by simpa using c2
      have hk0 : 0 < k := by
        rw [Bool.or_eq_false_iff] at c2
        have := of_decide_eq_false c2.1
        omega
      have hm : (its.toArray.size : Int) * k ≤ sizeLine := by
        obtain ⟨j, rfl⟩ : ∃ j : Nat, k = j := ⟨k.toNat, by omega⟩
        rw [List.size_toArray, ← hlen]
        simp only [Int.toNat_natCast] at hz
        exact_mod_cast hz
      have hfold : List.foldl (fun x1 x2 => x1 ++ x2) #[] (List.replicate k.toNat its.toArray) = (List.replicate k.toNat its).flatten.toArray := by
        have := foldl_rep its k.toNat []
        rw [List.nil_append] at this
        exact this
      have hsl : (sizeLine : Int) ≤ (2 ^ 63 - 1) / 8 := by rw [sizeLine_eq]; decide
      refine call_meets F.slot_tuple_mul e1 F.entry_tuple_mul (F.args_tuple_mul_2 _ _) (tuple_mul2 l its.toArray n dd sl k t hc0 c1 c2 (decide_eq_false (by omega)) (decide_eq_false (by omega)) ?_) ⟨ho, ?_⟩
      · rw [hfold, List.size_toArray, len_rep, ← hlen, Nat.mul_comm]; exact hz
      · rw [hfold]
        exact ⟨.ref _, _, I.laid (t' := s.toks) (o := .tup (List.replicate k.toNat xs).flatten) (fun b ob q => Heap.get?_push_of_some _ q) (Nat.le_refl _) ⟨by rw [len_rep, Nat.mul_comm]; exact hz, _, r.rep k.toNat, IsTup.new _ _, .mk (Heap.get?_push_size _ rfl) rfl⟩, rfl, q1 _ I.fresh⟩
theorem od_mul' (hK : X.K = K) : OpR X (binaryOp .Mult) (rD2 K mulD') := by
  intro pins s σ H x y v u Q I rx ry h
  obtain ⟨fp, B, d, e, r, bk, h1, h2, hf, q⟩ := h
  unfold mulD' at hf
  split at hf
  · rename_i ds k
    obtain ⟨a, xs, rfl, ha, hd⟩ := h1
    cases (show y = .int k from h2)
    split at hf
    · rename_i hc
      cases hf
      refine op_repT hK pins s σ H _ _ v u Q I rx ry ⟨a, k, xs, rfl, rfl, ha.same hid_same, hc.1, hc.2.1, by rw [hd.length]; exact hc.2.2, fun e => q _ H (Same.refl H) ?_, fun p hp => q _ _ (Same.upd hp) (new_tup bk hp (DatsAre.rep hd _))⟩
      have := DatsAre.rep hd k.toNat
      rw [e] at this
      simp only [DatIs]
      exact ⟨a, xs, rfl, ha, this⟩
    · cases hf
  · exact od_mul pins s σ H x y v u Q I rx ry ⟨fp, B, d, e, r, bk, h1, h2, hf, q⟩
end
end L3
set_option Elab.async false
set_option linter.all false
set_option maxRecDepth 100000
set_option maxHeartbeats 4000000
namespace L3
open PySem PySem.Spec PyProof.Rows L2
section
variable [Feeds]
noncomputable def IterOk (K : PySem.W.Frag) (P : Hp → List Addr → Prop) (J : It) (items : List PyData) : Prop := ∀ H B, P H B →
  (∀ i d, items[i]? = some d → J.go i H ∧ ∀ x H2, J.yld i H x H2 → Same H H2 ∧ (BOk H B → DatIs K (hid H2 B) d x)) ∧ J.stop items.length H
noncomputable def TId (K : PySem.W.Frag) (wi : TI) (mi : DE → M (List PyData)) : Prop := ∀ (G : GF) (B : List Addr) (E : DE) (F : FS) (σ : St) (H : Hp) (R : It → Hp → Prop) (ds : List PyData) (F' : FS), SitE K G B E F σ H → mi E F = some (ds, F') →
  (∀ J H', Kp (fpOf K G) H H' → FAt K G H' F' → IterOk K (fun H2 B2 => Same (hid H' B) (hid H2 B2)) J ds → R J H') → wi σ H R
noncomputable def TIs (K : PySem.W.Frag) (wi : TI) (mi : DE → M (List PyData)) : Prop := ∀ (G : GF) (B : List Addr) (E : DE) (F : FS) (σ : St) (H : Hp) (R : It → Hp → Prop) (ds : List PyData) (F' : FS), SitE K G B E F σ H → mi E F = some (ds, F') →
  (∀ J H', Kp (fpOf K G) H H' → FAt K G H' F' → IterOk K (fun H2 B2 => Kp (fpOf K G) H' H2 ∧ Same (hid H' B) (hid H2 B2)) J ds → R J H') → wi σ H R
theorem TId.sh {K : PySem.W.Frag} {wi : TI} {mi : DE → M (List PyData)} (h : TId K wi mi) : TIs K wi mi := fun G B E F σ H R ds F' I e q => h G B E F σ H R ds F' I e fun J H' k f ok => q J H' k f fun H2 B2 kp => ok H2 B2 kp.2
structure Ei (K : PySem.W.Frag) (X : Cx) (tg iter : Expr) (wi : TI) (mi : DE → M (List PyData)) : Prop where
  pi : PI X tg iter wi
  ok : TId K wi mi
structure Eib (K : PySem.W.Frag) (X : Cx) (tg iter : Expr) (wi : TI) (mi : DE → M (List PyData)) : Prop where
  pi : PI X tg iter wi
  ok : TIs K wi mi
variable {K : PySem.W.Frag} {X : Cx} {tg iter e : Expr} {te : TE} {m : DE → M PyData} {pos p : Pos}
theorem Ei.bw {wi : TI} {mi : DE → M (List PyData)} (h : Ei K X tg iter wi mi) : Eib K X tg iter wi mi := ⟨h.pi, h.ok.sh⟩
noncomputable def iSeq (K : PySem.W.Frag) (tl : TE) : TI := fun σ H R => tl σ H fun x H1 => ∃ a, x = .ref a ∧ (((∃ xs, SqL K H1 a xs) ∧ R (Itl K a) H1) ∨ ((∃ xs, SqT K H1 a xs) ∧ R (Itt K a) H1))
theorem pi_seq {l : Expr} {tl : TE} (hK : X.K = K) (hl : PE X l tl) : PI X tg l (iSeq K tl) := by
  subst hK
  intro pins s σ H R I h
  refine thn (hl pins s σ H _ I h) fun v s1 ⟨x, H1, I1, r1, q1⟩ => ?_
  obtain ⟨a, e, q⟩ := q1
  subst e
  cases r1
  rcases q with ⟨⟨xs, hq⟩, q⟩ | ⟨⟨xs, hq⟩, q⟩
  · obtain ⟨its, rv, p, hz⟩ := I1.list hq
    refine wpAny_pyIter_list p.isList ?_
    refine ⟨s1.heap.objs.size, [s1.heap.objs.size], _, _, H1, rfl, I1.kept (t' := s1.toks) fun b o e => Heap.get?_push_of_some _ e, turn_list a _, ⟨_, Heap.get?_push_size _ rfl, rfl, rfl⟩, fun b hb => ?_, q⟩
    have e : b = s1.heap.objs.size := by simpa using hb
    subst e
    exact I1.fpOk (Nat.le_refl _) (I1.hok.fresh (Nat.le_refl _))
  · obtain ⟨its, rv, p, hz⟩ := I1.tuple hq
    refine wpAny_pyIter_tuple (show s1.heap.IsTuple a its.toArray from p) ?_
    refine ⟨s1.heap.objs.size, [s1.heap.objs.size], _, _, H1, rfl, I1.kept (t' := s1.toks) fun b o e => Heap.get?_push_of_some _ e, turn_tuple a _, ⟨_, Heap.get?_push_size _ rfl, rfl, rfl⟩, fun b hb => ?_, q⟩
    have e : b = s1.heap.objs.size := by simpa using hb
    subst e
    exact I1.fpOk (Nat.le_refl _) (I1.hok.fresh (Nat.le_refl _))
noncomputable def seqOf : PyData → Option (List PyData)
  | .list ds => some ds
  | .tuple ds => some ds
  | _ => none
noncomputable def mSeq (a : DE → M PyData) : DE → M (List PyData) := fun E F => (a E F).bind fun p => (seqOf p.1).bind fun ds => some (ds, p.2)
theorem DatsAre.item {H : Hp} {ds : List PyData} {xs : List V} {i : Nat} {d : PyData} (h : DatsAre K H ds xs) (e : ds[i]? = some d) : ∃ v, xs[i]? = some v ∧ DatIs K H d v := by
  obtain ⟨hj, _⟩ := List.getElem?_eq_some_iff.mp e
  have hx : xs[i]? = some (xs[i]'(by rw [h.length]; exact hj)) := by simp
  obtain ⟨d', h1, h2⟩ := h.get hx
  rw [e] at h1; cases h1
  exact ⟨_, hx, h2⟩
theorem it_list {P : Hp → List Addr → Prop} {a : Addr} {ds : List PyData} {xs : List V} (h : ∀ H B, P H B → H a = some (.lst xs) ∧ DatsAre K (hid H B) ds xs) : IterOk K P (Itl K a) ds := fun H B hp => by
  obtain ⟨h1, h2⟩ := h H B hp
  refine ⟨fun i d e => ?_, ⟨xs, SqL.of h1, by rw [h2.length]; exact Nat.le_refl _⟩⟩
  obtain ⟨v, e1, e2⟩ := DatsAre.item h2 e
  refine ⟨⟨xs, v, SqL.of h1, e1⟩, fun x H2 y => ?_⟩
  obtain ⟨rfl, y⟩ := y
  have := y xs (SqL.of h1)
  rw [e1] at this; cases this
  exact ⟨Same.refl _, fun _ => e2⟩
theorem it_tup {P : Hp → List Addr → Prop} {a : Addr} {ds : List PyData} {xs : List V} (h : ∀ H B, P H B → SqT K H a xs ∧ DatsAre K (hid H B) ds xs) : IterOk K P (Itt K a) ds := fun H B hp => by
  obtain ⟨h1, h2⟩ := h H B hp
  refine ⟨fun i d e => ?_, ⟨xs, h1, by rw [h2.length]; exact Nat.le_refl _⟩⟩
  obtain ⟨v, e1, e2⟩ := DatsAre.item h2 e
  refine ⟨⟨xs, v, h1, e1⟩, fun x H2 y => ?_⟩
  obtain ⟨rfl, y⟩ := y
  have := y xs h1
  rw [e1] at this; cases this
  exact ⟨Same.refl _, fun _ => e2⟩
theorem eib_seq (h : Eb K X e te m) (hK : X.K = K := by rfl) : Eib K X tg e (iSeq K te) (mSeq m) := ⟨pi_seq hK h.pe, fun G B E F σ H R ds F' I e q => by
  obtain ⟨⟨y, F1⟩, e1, e⟩ := Option.bind_eq_some_iff.mp e
  obtain ⟨z, e2, e⟩ := Option.bind_eq_some_iff.mp e
  cases e
  refine h.ok G B E F σ H _ y F1 I e1 fun v H1 k1 f1 h1 => ?_
  cases y with
  | list ys =>
    cases e2
    obtain ⟨a, xs, rfl, ha, hd⟩ := h1
    refine ⟨a, rfl, .inl ⟨⟨xs, SqL.of (hid_same _ _ ha)⟩, q _ H1 k1 f1 (it_list fun H2 B2 k => ⟨hid_same _ _ (k.1.hid (B := fpOf K G) (fun _ z => z) _ _ ha), hd.same k.2⟩)⟩⟩
  | tuple ys =>
    cases e2
    obtain ⟨a, xs, rfl, ha, hd⟩ := h1
    refine ⟨a, rfl, .inr ⟨⟨xs, ha.same hid_same⟩, q _ H1 k1 f1 (it_tup fun H2 B2 k => ⟨(ha.same k.2).same hid_same, hd.same k.2⟩)⟩⟩
  | _ => cases e2⟩
noncomputable def rngL (lo : Int) (n : Nat) : List PyData := (List.range n).map fun (i : Nat) => .int (lo + i)
theorem it_rng {P : Hp → List Addr → Prop} {lo : Int} {n : Nat} : IterOk K P (Itr lo n) (rngL lo n) := fun H B _ => by
  refine ⟨fun i d e => ?_, by show n ≤ _; simp [rngL]⟩
  unfold rngL at e
  rw [List.getElem?_map] at e
  obtain ⟨j, e1, rfl⟩ := Option.map_eq_some_iff.mp e
  obtain ⟨hj, e2⟩ := List.getElem?_eq_some_iff.mp e1
  simp at hj e2
  subst e2
  refine ⟨hj, fun x H2 y => ?_⟩
  obtain ⟨rfl, rfl⟩ := y
  exact ⟨Same.refl _, fun _ => DatIs.int⟩
noncomputable def rngOf1 : List PyData → Option (List PyData)
  | [.int j] => if -(2 ^ 62) ≤ j ∧ j < 2 ^ 62 then some (rngL 0 j.toNat) else none
  | _ => none
noncomputable def mRng1 (a : DE → M (List PyData)) : DE → M (List PyData) := fun E F => (a E F).bind fun p => (rngOf1 p.1).bind fun ds => some (ds, p.2)
theorem ei_rng1 {a : Expr} {ta : TA} {ms : DE → M (List PyData)} (h : Ea K X [a] ta ms) (hm : X.mg "range" = none) (hg : Gl X "range" := by rfl) (hs : starEach [a] X.env = [(false, eval a X.env)] := by rfl) : Ei K X tg (.Call (.Name "range" p) [a] [] pos) (iRng1 ta) (mRng1 ms) := ⟨pi_range1 hg hm h.pa hs, fun G B E F σ H R ds F' I e q => by
  obtain ⟨⟨ys, F1⟩, e1, e⟩ := Option.bind_eq_some_iff.mp e
  obtain ⟨z, e2, e⟩ := Option.bind_eq_some_iff.mp e
  cases e
  refine h.ok G B E F σ H _ ys F1 I e1 fun vs H1 k1 f1 h1 => ?_
  unfold rngOf1 at e2
  split at e2
  · rename_i j hj
    split at e2
    · rename_i hc
      cases e2
      have hj : ys = [.int j] := hj
      subst hj
      simp only [DatsAre] at h1
      obtain ⟨x, r, rfl, h2, rfl⟩ := h1
      simp only [DatIs] at h2
      subst h2
      exact ⟨j, rfl, hc.1, hc.2, q _ H1 k1 f1 it_rng⟩
    · cases e2
  · cases e2⟩
noncomputable def TGd (K : PySem.W.Frag) (g : TG) (bd : PyData → DE → Option DE) : Prop := ∀ (G : GF) (B : List Addr) (E : DE) (F : FS) (σ : St) (H : Hp) (x : V) (d : PyData) (E' : DE) (Q : St → Hp → Prop), SitE K G B E F σ H → DatIs K (hid H B) d x → bd d E = some E' →
  (∀ σ', SitE K G B E' F σ' H → (∀ i : Nat, (∀ y, E'[i]? ≠ some (some (.dat y))) → E'[i]? = E[i]? ∧ σ'[i]? = σ[i]?) → Q σ' H) → g x σ H Q
noncomputable def TGsd (K : PySem.W.Frag) (g : TGs) (bd : List PyData → DE → Option DE) : Prop := ∀ (G : GF) (B : List Addr) (E : DE) (F : FS) (σ : St) (H : Hp) (xs : List V) (ds : List PyData) (E' : DE) (Q : St → Hp → Prop), SitE K G B E F σ H → DatsAre K (hid H B) ds xs → bd ds E = some E' →
  (∀ σ', SitE K G B E' F σ' H → (∀ i : Nat, (∀ y, E'[i]? ≠ some (some (.dat y))) → E'[i]? = E[i]? ∧ σ'[i]? = σ[i]?) → Q σ' H) → g xs σ H Q
structure Eg (K : PySem.W.Frag) (X : Cx) (tg : Expr) (g : TG) (bd : PyData → DE → Option DE) : Prop where
  pg : PG X tg g
  ok : TGd K g bd
structure Egs (K : PySem.W.Frag) (X : Cx) (tgs : List Expr) (g : TGs) (bd : List PyData → DE → Option DE) : Prop where
  pg : PGs X tgs g
  ok : TGsd K g bd
noncomputable def bN (i : Nat) : PyData → DE → Option DE := fun d E => if i < E.length then some (E.set i (some (.dat d))) else none
theorem SitE.set {G : GF} {B : List Addr} {E : DE} {F : FS} {σ : St} {H : Hp} {i : Nat} {d : PyData} {v : V} (I : SitE K G B E F σ H) (h : DatIs K (hid H B) d v) (hi : i < E.length) : SitE K G B (E.set i (some (.dat d))) F (σ.set i (some v)) H := by
  refine ⟨I.fd, I.fB, I.bk, by rw [List.length_set, List.length_set]; exact I.ln, fun j x e => ?_⟩
  have hs : i < σ.length := by rw [← I.ln]; exact hi
  by_cases hj : i = j
  · subst hj
    rw [List.getElem?_set_self hi] at e
    cases e
    exact ⟨v, by rw [List.getElem?_set_self hs], h⟩
  · rw [List.getElem?_set_ne hj] at e
    rw [List.getElem?_set_ne hj]
    exact I.loc j x e
theorem eg_n {i : Nat} {x : Str} (hN : X.N.Nodup) (hi : X.N[i]? = some x := by rfl) (hx : Loc X.env.scope x := by first | exact Or.inl rfl | exact Or.inr rfl) (hf : X.fn x = true ∨ X.env.scope.names.lookup x = some .local := by first | exact .inl rfl | exact .inr rfl | assumption) : Eg K X (.Name x pos) (gName i) (bN i) := ⟨pg_name hN hi hx hf, fun G B E F σ H x d E' Q I h e q => by
  unfold bN at e
  split at e
  · rename_i hl
    cases e
    refine q _ (I.set h hl) fun j hj => ?_
    by_cases hij : i = j
    · subst hij
      exact absurd (List.getElem?_set_self hl) (hj d)
    · rw [List.getElem?_set_ne hij, List.getElem?_set_ne hij]
      exact ⟨rfl, rfl⟩
  · cases e⟩
theorem eg_c {i : Nat} {x : Str} {N : List Str} {scope : Scope} {cl C ex pins s H} (hN : N.Nodup := by decide +kernel) (hi : N[i]? = some x := by rfl) (hx : Loc (cxC X N scope cl C ex pins s H).env.scope x := by first | exact Or.inl rfl | exact Or.inr rfl) (hf : (cxC X N scope cl C ex pins s H).fn x = true ∨ (cxC X N scope cl C ex pins s H).env.scope.names.lookup x = some .local := by first | exact .inl rfl | exact .inr rfl | assumption) : Eg K (cxC X N scope cl C ex pins s H) (.Name x pos) (gName i) (bN i) := eg_n hN hi hx hf
noncomputable def bNil : List PyData → DE → Option DE := fun ds E => if ds.isEmpty then some E else none
noncomputable def bCons (a : PyData → DE → Option DE) (r : List PyData → DE → Option DE) : List PyData → DE → Option DE
  | d :: ds, E => (a d E).bind fun E1 => r ds E1
  | [], _ => none
theorem egs_nil : Egs K X [] gNil bNil := ⟨pgs_nil, fun G B E F σ H xs ds E' Q I h e q => by
  cases ds with
  | nil => cases e; simp only [DatsAre] at h; exact ⟨h, q σ I fun _ _ => ⟨rfl, rfl⟩⟩
  | cons d r => cases e⟩
theorem egs_cons {es : List Expr} {t : TG} {u : TGs} {ba : PyData → DE → Option DE} {br : List PyData → DE → Option DE} (h1 : Eg K X e t ba) (h2 : Egs K X es u br)
    (hs : (assignEach (e :: es) X.env).map (·.2) = assign e X.env :: (assignEach es X.env).map (·.2) := by rfl) : Egs K X (e :: es) (gCons t u) (bCons ba br) := ⟨pgs_cons h1.pg h2.pg hs, fun G B E F σ H xs ds E' Q I h e q => by
  cases ds with
  | nil => cases e
  | cons d r =>
    obtain ⟨E1, e1, e⟩ := Option.bind_eq_some_iff.mp e
    simp only [DatsAre] at h
    obtain ⟨x, rr, rfl, hx, hr⟩ := h
    refine ⟨x, rr, rfl, h1.ok G B E F σ H x d E1 _ I hx e1 fun σ1 I1 k1 => ?_⟩
    refine h2.ok G B E1 F σ1 H rr r E' _ I1 hr e fun σ2 I2 k2 => q σ2 I2 fun i hi => ?_
    obtain ⟨a1, a2⟩ := k2 i hi
    obtain ⟨b1, b2⟩ := k1 i (fun y z => hi y (a1.trans z))
    exact ⟨a1.trans b1, a2.trans b2⟩⟩
noncomputable def bTup (n : Nat) (r : List PyData → DE → Option DE) : PyData → DE → Option DE
  | .tuple ds, E => if ds.length = n then r ds E else none
  | _, _ => none
theorem eg_tup {es : List Expr} {k : Nat} {t : TGs} {n : Nat} {br : List PyData → DE → Option DE} (hc : X.calm = true) (h : Egs K X es t br) (hK : X.K = K := by rfl)
    (hn : (assignEach es X.env).length = n := by rfl) (hst : (assignEach es X.env).findIdx? (·.1) = none := by rfl) : Eg K X (.Tuple es k pos) (gTup K n t) (bTup n br) := ⟨pg_tupK hK hc h.pg hn hst, fun G B E F σ H x d E' Q I hd e q => by
  cases d <;> simp only [bTup] at e <;> try cases e
  split at e
  · rename_i hl
    simp only [DatIs] at hd
    obtain ⟨a, xs, rfl, ha, hx⟩ := hd
    exact ⟨a, xs, rfl, ha.same hid_same, by rw [hx.length]; exact hl, h.ok G B E F σ H xs _ E' Q I hx e q⟩
  · cases e⟩
noncomputable def capE (k : Nat) (cap : List Nat) (E : DE) : DE := List.replicate k none ++ cap.map fun j => (E[j]?).join
theorem SitE.cap {G : GF} {B : List Addr} {E : DE} {F : FS} {σ : St} {H : Hp} (I : SitE K G B E F σ H) (k : Nat) (cap : List Nat) : SitE K G B (capE k cap E) F (capt k cap σ) H := by
  refine ⟨I.fd, I.fB, I.bk, by simp [capE, capt], fun i x e => ?_⟩
  unfold capE at e
  by_cases hi : i < k
  · rw [List.getElem?_append_left (by simpa using hi), List.getElem?_replicate, if_pos hi] at e
    cases e
  · rw [List.getElem?_append_right (by simpa using hi), List.length_replicate, List.getElem?_map] at e
    obtain ⟨j, hj, hv⟩ := Option.map_eq_some_iff.mp e
    have hE : E[j]? = some (some x) := by
      cases q : E[j]? with
      | none => rw [q] at hv; cases hv
      | some o => rw [q] at hv; exact congrArg some hv
    obtain ⟨v, h1, h2⟩ := I.loc j x hE
    refine ⟨v, ?_, h2⟩
    unfold capt
    rw [List.getElem?_append_right (by simpa using hi), List.length_replicate, List.getElem?_map, hj, Option.map_some, h1]
    rfl
theorem SitE.more {G : GF} {B : List Addr} {E : DE} {F : FS} {σ : St} {H : Hp} {D : Addr} {o : HO} (I : SitE K G B E F σ H) (hD : H D = none) : SitE K G (D :: B) E F σ (upd H D o) := by
  have hn : D ∉ B := I.bk.nin hD
  have e1 : hid (upd H D o) (D :: B) = hid H B := by
    funext b
    by_cases hb : b = D
    · subst hb; rw [hid_in List.mem_cons_self, hid_out hn, hD]
    · by_cases hB : b ∈ B
      · rw [hid_in hB, hid_in (List.mem_cons_of_mem _ hB)]
      · rw [hid_out hB, hid_out (by simp [hb, hB]), upd_ne hb]
  refine ⟨I.fd.same (Same.upd hD), fun b hb => List.mem_cons_of_mem _ (I.fB b hb), fun b hb => ?_, I.ln, fun i x e => ?_⟩
  · rcases List.mem_cons.mp hb with rfl | hb
    · exact ⟨o, upd_same⟩
    · obtain ⟨u, e⟩ := I.bk b hb
      exact ⟨u, by rw [upd_ne (ne_of_none e hD)]; exact e⟩
  · obtain ⟨v, h1, h2⟩ := I.loc i x e
    refine ⟨v, h1, ?_⟩
    cases x with
    | dat d => show DatIs K (hid (upd H D o) (D :: B)) d v; rw [e1]; exact h2
    | feed => exact h2
    | fn _ => exact h2
    | adr _ => exact h2
    | own ds =>
      obtain ⟨a, xs, ea, hB, hf, ha, hd⟩ := h2
      exact ⟨a, xs, ea, List.mem_cons_of_mem _ hB, hf, by rw [upd_ne (ne_of_none ha hD)]; exact ha, by rw [e1]; exact hd⟩
    | dic w c ps =>
      obtain ⟨a, xs, ea, hB, hf, ha, hn, hd⟩ := h2
      exact ⟨a, xs, ea, List.mem_cons_of_mem _ hB, hf, by rw [upd_ne (ne_of_none ha hD)]; exact ha, hn, by rw [e1]; exact hd⟩
theorem SitE.wr {G : GF} {B : List Addr} {E : DE} {F : FS} {σ : St} {H : Hp} {D : Addr} {o : HO} (I : SitE K G (D :: B) E F σ H) (hf : D ∉ fpOf K G) (hown : ∀ (i : Nat) (ds : List PyData), E[i]? = some (some (DV.own ds)) → σ[i]? ≠ some (some (V.ref D))) {acc : List V} (hD : H D = some (.lst acc)) : SitE K G (D :: B) E F σ (upd H D o) := by
  have e1 : hid (upd H D o) (D :: B) = hid H (D :: B) := hid_upd List.mem_cons_self
  refine ⟨I.fd.congr fun b hb => upd_ne (fun e => hb.elim (fun hb => hf (e ▸ hb)) fun ⟨φ, q⟩ => by rw [e, hD] at q; cases q), I.fB, fun b hb => ?_, I.ln, fun i x e => ?_⟩
  · by_cases h : b = D
    · subst h; exact ⟨o, upd_same⟩
    · rw [upd_ne h]; exact I.bk b hb
  · obtain ⟨v, h1, h2⟩ := I.loc i x e
    refine ⟨v, h1, ?_⟩
    cases x with
    | dat d => show DatIs K (hid (upd H D o) (D :: B)) d v; rw [e1]; exact h2
    | feed => exact h2
    | fn _ => exact h2
    | adr _ => exact h2
    | own ds =>
      obtain ⟨a, xs, rfl, hB, hfa, ha, hd⟩ := h2
      have hne : a ≠ D := fun z => hown i ds e (by rw [← z]; exact h1)
      exact ⟨a, xs, rfl, hB, hfa, by rw [upd_ne hne]; exact ha, by rw [e1]; exact hd⟩
    | dic w c ps =>
      obtain ⟨a, xs, rfl, hB, hfa, ha, hn, hd⟩ := h2
      have hne : a ≠ D := fun z => by rw [z, hD] at ha; cases ha
      exact ⟨a, xs, rfl, hB, hfa, by rw [upd_ne hne]; exact ha, hn, by rw [e1]; exact hd⟩
structure Ets (K : PySem.W.Frag) (X : Cx) (ifs : List Expr) (tt : TT) (m : DE → M Bool) : Prop where
  pts : PTs X ifs tt
  ok : TTd K tt m
noncomputable def uYes : DE → M Bool := fun _ F => some (true, F)
theorem ets_nil : Ets K X [] tNoT uYes := ⟨pts_nil, fun G B E F σ H Q b F' I e q => by cases e; exact q H Kp.refl I.fd⟩
noncomputable def lcGo (bd : PyData → DE → Option DE) (mt : DE → M Bool) (me : DE → M PyData) : List PyData → DE → M (List PyData)
  | [], _, F => some ([], F)
  | d :: r, E, F => (bd d E).bind fun E1 => (mt E1 F).bind fun p => if p.1 = true then (me E1 p.2).bind fun y => (lcGo bd mt me r E1 y.2).bind fun z => some (y.1 :: z.1, z.2) else lcGo bd mt me r E1 p.2
noncomputable def sLC (mi : DE → M (List PyData)) (k : Nat) (cap : List Nat) (bd : PyData → DE → Option DE) (mt : DE → M Bool) (me : DE → M PyData) : DE → M PyData := fun E F =>
  (mi E F).bind fun p => if p.1.length ≤ sizeLine then (lcGo bd mt me p.1 (capE k cap E) p.2).bind fun z => some (.list z.1, z.2) else none
noncomputable def LcInv (K : PySem.W.Frag) (G : GF) (B : List Addr) (D : Addr) (H1 : Hp) (bd : PyData → DE → Option DE) (mt : DE → M Bool) (me : DE → M PyData) (items whole : List PyData) (Fz : FS) (i : Nat) (σ : St) (acc : List V) (H : Hp) : Prop :=
  ∃ E F done rest, SitE K G (D :: B) E F σ H ∧ H D = some (.lst acc) ∧ Kp (fpOf K G) H1 H ∧ (∀ (j : Nat) (ds : List PyData), E[j]? = some (some (DV.own ds)) → σ[j]? ≠ some (some (V.ref D))) ∧ DatsAre K (hid H (D :: B)) done acc ∧ lcGo bd mt me (items.drop i) E F = some (rest, Fz) ∧ whole = done ++ rest ∧ done.length ≤ i
noncomputable def TFd (K : PySem.W.Frag) (te : TE) (m : DE → M (List PyData)) : Prop := ∀ (G : GF) (B : List Addr) (E : DE) (F : FS) (σ : St) (H : Hp) (Q : VK) (ds : List PyData) (F' : FS), SitE K G B E F σ H → m E F = some (ds, F') →
  (∀ a vs H', H a = none → H' a = some (.lst vs) → Kp (fpOf K G) H H' → FAt K G H' F' → DatsAre K (hid H' (a :: B)) ds vs → Q (.ref a) H') → te σ H Q
theorem Kp.none {fp : List Addr} {H H' : Hp} {b : Addr} (k : Kp fp H H') (h : H' b = none) (n : b ∉ fp) : H b = none := by
  cases q : H b with
  | none => rfl
  | some o => rw [k b o q n] at h; cases h
noncomputable def fLC (mi : DE → M (List PyData)) (k : Nat) (cap : List Nat) (bd : PyData → DE → Option DE) (mt : DE → M Bool) (me : DE → M PyData) : DE → M (List PyData) := fun E F =>
  (mi E F).bind fun p => if p.1.length ≤ sizeLine then (lcGo bd mt me p.1 (capE k cap E) p.2).bind fun z => some (z.1, z.2) else none
theorem lcf_d {wi : TI} {mi : DE → M (List PyData)} {k : Nat} {cap : List Nat} {g : TG} {bd : PyData → DE → Option DE} {tt : TT} {mt : DE → M Bool} {me : DE → M PyData} (hi : TIs K wi mi) (hg : TGd K g bd) (ht : TTd K tt mt) (he : TEd K te me) :
    TFd K (tLC wi k cap g tt te) (fLC mi k cap bd mt me) := fun G B E F σ H Q d F' I e q => by
  obtain ⟨⟨items, F1⟩, e1, e⟩ := Option.bind_eq_some_iff.mp e
  split at e
  · rename_i hsz
    obtain ⟨⟨whole, F2⟩, e2, e⟩ := Option.bind_eq_some_iff.mp e
    cases e
    refine hi G B E F σ H _ items F1 I e1 fun J H1 k1 f1 ok D hD => ?_
    have I1 : SitE K G B E F1 σ H1 := I.step k1 f1
    have hBD : D ∉ B := I1.bk.nin hD
    have hfD : D ∉ fpOf K G := fun z => hBD (I.fB D z)
    have hsz : items.length ≤ sizeLine := hsz
    have stab : ∀ {H' : Hp}, Kp (fpOf K G) H1 H' → Kp (fpOf K G) H1 H' ∧ Same (hid H1 B) (hid H' (D :: B)) := fun {H'} k => ⟨k, fun b o eb => by
      by_cases hb : b ∈ B
      · rw [hid_in hb] at eb; cases eb
      · rw [hid_out hb] at eb
        rw [hid_out (by
          intro z
          rcases List.mem_cons.mp z with rfl | z
          · rw [hD] at eb; cases eb
          · exact hb z)]
        exact k b o eb fun z => hb (I.fB b z)⟩
    refine lc_gen items.length (LcInv K G B D H1 bd mt me items whole F2) ?_ ?_ ?_ ?_ ?_
    · refine ⟨capE k cap E, F1, [], whole, (I1.cap k cap).more hD, upd_same, Kp.upd hD, fun j ds ej z => ?_, DatsAre.nil, e2, rfl, Nat.le_refl _⟩
      obtain ⟨v, v1, a, xs, rfl, _, _, ha, _⟩ := (I1.cap k cap).loc j _ ej
      rw [v1] at z
      cases z
      rw [hD] at ha; cases ha
    · rintro i σ' acc H' hlt ⟨E', F3, done, rest, I2, hD2, k2, ow, hd2, e3, ew, hdi⟩
      exact ((ok H' (D :: B) (stab k2)).1 i items[i] (by simp [hlt])).1
    · rintro σ' acc H' ⟨E', F3, done, rest, I2, hD2, k2, ow, hd2, e3, ew, hdi⟩
      exact (ok H' (D :: B) (stab k2)).2
    · rintro i σ' acc H' hlt ⟨E', F3, done, rest, I2, hD2, k2, ow, hd2, e3, ew, hdi⟩ x H2 y R hR
      obtain ⟨s2, hx⟩ := ((ok H' (D :: B) (stab k2)).1 i items[i] (by simp [hlt])).2 x H2 y
      have hx' := hx I2.bk
      rw [List.drop_eq_getElem_cons hlt, lcGo] at e3
      obtain ⟨E4, e4, e3⟩ := Option.bind_eq_some_iff.mp e3
      obtain ⟨⟨b, F5⟩, e5, e3⟩ := Option.bind_eq_some_iff.mp e3
      have I3 : SitE K G (D :: B) E' F3 σ' H2 := I2.step (Kp.same s2) (I2.fd.same s2)
      refine hg G (D :: B) E' F3 σ' H2 x items[i] E4 _ I3 hx' e4 fun σ4 I4 fr => ?_
      have ow4 : ∀ (j : Nat) (ds : List PyData), E4[j]? = some (some (DV.own ds)) → σ4[j]? ≠ some (some (V.ref D)) := fun j ds ej => by
        obtain ⟨a1, a2⟩ := fr j fun y z => by rw [ej] at z; cases z
        rw [a2]; exact ow j ds (a1 ▸ ej)
      refine ht G (D :: B) E4 F3 σ4 H2 _ b F5 I4 e5 fun H5 k5 f5 => ?_
      have kall : Kp (fpOf K G) H1 H5 := (k2.trans (Kp.same s2)).trans k5
      have I5 : SitE K G (D :: B) E4 F5 σ4 H5 := I4.step k5 f5
      have hD5 : H5 D = some (.lst acc) := k5 D _ (s2 D _ hD2) hfD
      have hd5 : DatsAre K (hid H5 (D :: B)) done acc := (hd2.same ((Kp.same s2).hid (fp := []) (by simp))).same (k5.hid I4.fB)
      cases b with
      | false =>
        exact ⟨hD5, hR _ _ _ ⟨E4, F5, done, rest, I5, hD5, kall, ow4, hd5, e3, ew, by omega⟩⟩
      | true =>
        obtain ⟨⟨yd, F6⟩, e6, e3⟩ := Option.bind_eq_some_iff.mp e3
        obtain ⟨⟨zs, F7⟩, e7, e3⟩ := Option.bind_eq_some_iff.mp e3
        cases e3
        refine he G (D :: B) E4 F5 σ4 H5 _ yd F6 I5 e6 fun v H6 k6 f6 h6 => ?_
        have hD6 : H6 D = some (.lst acc) := k6 D _ hD5 hfD
        have I6 : SitE K G (D :: B) E4 F6 σ4 H6 := I5.step k6 f6
        have hd6 := hd5.same (k6.hid I5.fB)
        have hlen : acc.length < sizeLine := by rw [hd2.length]; omega
        refine ⟨hD6, hlen, hR _ _ _ ⟨E4, F6, done ++ [yd], zs, I6.wr hfD ow4 hD6, upd_same, fun b o eb nb => ?_, ow4, ?_, e7, by rw [ew]; simp, by simp; omega⟩⟩
        · have := k6 b o (kall b o eb nb) nb
          rw [upd_ne]; exact this
          intro z; subst z; rw [hD] at eb; cases eb
        · rw [hid_upd List.mem_cons_self]
          exact hd6.snoc h6
    · rintro σ' acc H' ⟨E', F3, done, rest, I2, hD2, k2, ow, hd2, e3, ew, hdi⟩
      rw [List.drop_length, lcGo] at e3
      cases e3
      rw [List.append_nil] at ew
      subst ew
      exact q D acc H' (k1.none hD hfD) hD2 (k1.trans k2) I2.fd hd2
  · cases e
theorem lc_d {wi : TI} {mi : DE → M (List PyData)} {k : Nat} {cap : List Nat} {g : TG} {bd : PyData → DE → Option DE} {tt : TT} {mt : DE → M Bool} {me : DE → M PyData} (hi : TIs K wi mi) (hg : TGd K g bd) (ht : TTd K tt mt) (he : TEd K te me) :
    TEd K (tLC wi k cap g tt te) (sLC mi k cap bd mt me) := fun G B E F σ H Q d F' I e q => by
  obtain ⟨ds, rfl, ef⟩ : ∃ ds, d = .list ds ∧ fLC mi k cap bd mt me E F = some (ds, F') := by
    obtain ⟨⟨items, F1⟩, e1, e⟩ := Option.bind_eq_some_iff.mp e
    split at e
    · rename_i hsz
      obtain ⟨⟨whole, F2⟩, e2, e⟩ := Option.bind_eq_some_iff.mp e
      cases e
      refine ⟨whole, rfl, ?_⟩
      unfold fLC
      rw [e1, Option.bind_some, if_pos hsz, e2]; rfl
    · cases e
  exact lcf_d hi hg ht he G B E F σ H Q ds F' I ef fun z ws H' hz hw k1 f1 hd => q _ H' k1 f1 (DatIs.lst (by rw [hid_out (I.bk.nin hz)]; exact hw) (hd.same (hid_sub fun b hb => List.mem_cons_of_mem _ hb)))
theorem ev_lc {elt : Expr} {ifs : List Expr} {scope : Scope} (osc : Scope) (N : List Str) {k : Nat} {cap : List Nat} {wi : TI} {g : TG} {tt : TT} {mi : DE → M (List PyData)} {bd : PyData → DE → Option DE} {mt : DE → M Bool} {me : DE → M PyData}
    (hi : Eib K X tg iter wi mi)
    (hg : ∀ {cl C ex pins s H}, Eg K (cxC X N scope cl C ex pins s H) tg g bd)
    (ht : ∀ {cl C ex pins s H}, Ets K (cxC X N scope cl C ex pins s H) ifs tt mt)
    (he : ∀ {cl C ex pins s H}, Ev K (cxC X N scope cl C ex pins s H) elt te me)
    (hc : X.calm = true := by rfl) (hosc : X.env.scope = osc := by rfl) (hcap : Caps X.N osc N k cap scope := by exact {})
    (hs : ∀ x, foldedSetIterable iter X.env x = pure x := by intro _; rfl) :
    Ev K X (.ListComp elt [⟨tg, iter, ifs, 0⟩] scope pos) (tLC wi k cap g tt te) (sLC mi k cap bd mt me) :=
  ⟨pe_lc hc hosc hcap hi.pi (fun _ _ _ _ _ _ => hg.pg) (fun _ _ _ _ _ _ => ht.pts) (fun _ _ _ _ _ _ => he.pe) hs,
    lc_d hi.ok (@hg [] 0 [] [] X.s₀ X.H₀).ok (@ht [] 0 [] [] X.s₀ X.H₀).ok (@he [] 0 [] [] X.s₀ X.H₀).ok⟩
end
end L3
set_option Elab.async false
set_option linter.all false
set_option maxRecDepth 100000
set_option maxHeartbeats 4000000
namespace L3
open PySem PySem.Spec PyProof.Rows L2
section
variable [Feeds]
inductive Out where
  | nx (E : DE) | rt (d : PyData) | bk (E : DE) | ct (E : DE)
noncomputable def DicOk (B0 : List Addr) (H0 : Hp) (E : DE) (σ : St) : Prop := ∀ (i c : Nat) (ps : List (PyData × PyData)) (a : Addr), E[i]? = some (some (DV.dic true c ps)) → σ[i]? = some (some (V.ref a)) → (H0 a = none ∧ a ∉ B0) ∧ ∀ (j : Nat) (w' : Bool) (c' : Nat) (ps' : List (PyData × PyData)), E[j]? = some (some (DV.dic w' c' ps')) → σ[j]? = some (some (V.ref a)) → i = j
theorem DicOk.of {B0 : List Addr} {H0 : Hp} {E E' : DE} {σ σ' : St} (h : DicOk B0 H0 E σ) (fr : ∀ (i : Nat) (w : Bool) (c : Nat) (ps : List (PyData × PyData)), E'[i]? = some (some (DV.dic w c ps)) → E'[i]? = E[i]? ∧ σ'[i]? = σ[i]?) : DicOk B0 H0 E' σ' := fun i c ps a ei si => by
  obtain ⟨a1, a2⟩ := fr i _ _ _ ei
  obtain ⟨h1, h2⟩ := h i c ps a (a1 ▸ ei) (a2 ▸ si)
  refine ⟨h1, fun j w' c' ps' ej sj => ?_⟩
  obtain ⟨b1, b2⟩ := fr j _ _ _ ej
  exact h2 j w' c' ps' (b1 ▸ ej) (b2 ▸ sj)
theorem DicOk.set {B0 : List Addr} {H0 : Hp} {E : DE} {σ : St} (h : DicOk B0 H0 E σ) {i : Nat} {x : DV} {y : Option V} (hx : ∀ w c ps, x ≠ DV.dic w c ps) : DicOk B0 H0 (E.set i (some x)) (σ.set i y) := h.of fun j w c ps ej => by
  by_cases hj : i = j
  · subst hj
    by_cases hl : i < E.length
    · rw [List.getElem?_set_self hl] at ej
      cases ej
      exact absurd rfl (hx w c ps)
    · rw [List.getElem?_eq_none (by rw [List.length_set]; omega)] at ej; cases ej
  · exact ⟨List.getElem?_set_ne hj, List.getElem?_set_ne hj⟩
theorem DicOk.set1 {B0 : List Addr} {H0 : Hp} {E : DE} {σ : St} (h : DicOk B0 H0 E σ) {i : Nat} {x : DV} (hx : ∀ w c ps, x ≠ DV.dic w c ps) : DicOk B0 H0 (E.set i (some x)) σ := h.of fun j w c ps ej => by
  by_cases hj : i = j
  · subst hj
    by_cases hl : i < E.length
    · rw [List.getElem?_set_self hl] at ej
      cases ej
      exact absurd rfl (hx w c ps)
    · rw [List.getElem?_eq_none (by rw [List.length_set]; omega)] at ej; cases ej
  · exact ⟨List.getElem?_set_ne hj, rfl⟩
structure Sit (K : PySem.W.Frag) (G : GF) (B0 : List Addr) (H0 : Hp) (E : DE) (F : FS) (σ : St) (H : Hp) : Prop where
  ex : ∃ B, (∀ b ∈ B0, b ∈ B) ∧ (∀ b ∈ B, b ∈ B0 ∨ H0 b = none) ∧ SitE K G B E F σ H
  fB : ∀ b ∈ fpOf K G, b ∈ B0
  kp : Kp (fpOf K G) H0 H
  own : ∀ (i : Nat) (ds : List PyData) (a : Addr), E[i]? = some (some (DV.own ds)) → σ[i]? = some (some (V.ref a)) → H0 a = none ∧ a ∉ B0
  inj : ∀ (i j : Nat) (ds es : List PyData) (a : Addr), E[i]? = some (some (DV.own ds)) → E[j]? = some (some (DV.own es)) → σ[i]? = some (some (V.ref a)) → σ[j]? = some (some (V.ref a)) → i = j
  dic : DicOk B0 H0 E σ
noncomputable def OutOk (K : PySem.W.Frag) (G : GF) (B0 : List Addr) (H0 : Hp) (F : FS) (D : Ends) : Out → Prop
  | .nx E => ∀ σ H, Sit K G B0 H0 E F σ H → D.nx σ H
  | .bk E => ∀ σ H, Sit K G B0 H0 E F σ H → D.bk σ H
  | .ct E => ∀ σ H, Sit K G B0 H0 E F σ H → D.ct σ H
  | .rt d => ∀ v H, Kp (fpOf K G) H0 H → FAt K G H F → DatIs K (hid H B0) d v → D.rt v H
noncomputable def TSd (K : PySem.W.Frag) (ts : TS) (m : DE → M Out) : Prop := ∀ (G : GF) (B0 : List Addr) (H0 : Hp) (E : DE) (F : FS) (σ : St) (H : Hp) (D : Ends) (r : Out) (F' : FS), Sit K G B0 H0 E F σ H → m E F = some (r, F') → OutOk K G B0 H0 F' D r → ts D σ H
structure Ss (K : PySem.W.Frag) (X : Cx) (st : Stmt) (ts : TS) (m : DE → M Out) : Prop where
  ps : PS X st ts
  ok : TSd K ts m
structure Sss (K : PySem.W.Frag) (X : Cx) (sts : List Stmt) (ts : TS) (m : DE → M Out) : Prop where
  ps : PSs X sts ts
  ok : TSd K ts m
variable {K : PySem.W.Frag} {X : Cx} {a b c e tg iter : Expr} {es : List Expr} {st : Stmt} {sts rest : List Stmt} {ta tb te : TE} {ma mb m : DE → M PyData} {t u : TS} {mt mu : DE → M Out} {pos pos' p p2 : Pos}
theorem Sit.step {G : GF} {B0 : List Addr} {H0 : Hp} {E : DE} {F F' : FS} {σ : St} {H H' : Hp} (S : Sit K G B0 H0 E F σ H) (k : Kp (fpOf K G) H H') (f : FAt K G H' F') : Sit K G B0 H0 E F' σ H' := by
  obtain ⟨B, s, sn, I⟩ := S.ex
  exact ⟨⟨B, s, sn, I.step k f⟩, S.fB, S.kp.trans k, S.own, S.inj, S.dic⟩
noncomputable def mNx : DE → M Out := fun E F => some (.nx E, F)
noncomputable def mSq (a b : DE → M Out) : DE → M Out := fun E F => (a E F).bind fun p => match p.1 with
  | .nx E1 => b E1 p.2
  | o => some (o, p.2)
theorem ss_nil : Sss K X [] tNext mNx := ⟨pss_nil, fun G B0 H0 E F σ H D r F' S e q => by cases e; exact q σ H S⟩
theorem ss_cons (h1 : Ss K X st t mt) (h2 : Sss K X rest u mu) : Sss K X (st :: rest) (tSeq t u) (mSq mt mu) := ⟨pss_cons h1.ps h2.ps, fun G B0 H0 E F σ H D r F' S e q => by
  obtain ⟨⟨o, F1⟩, e1, e⟩ := Option.bind_eq_some_iff.mp e
  refine h1.ok G B0 H0 E F σ H _ o F1 S e1 ?_
  cases o with
  | nx E1 => exact fun σ' H' S' => h2.ok G B0 H0 E1 F1 σ' H' D r F' S' e q
  | rt d => cases e; exact q
  | bk E1 => cases e; exact q
  | ct E1 => cases e; exact q⟩
theorem ss_one (h1 : Ss K X st t mt) : Sss K X [st] t mt := ⟨pss_one h1.ps, h1.ok⟩
noncomputable def mRt (a : DE → M PyData) : DE → M Out := fun E F => (a E F).bind fun p => some (.rt p.1, p.2)
theorem st_ret (h : Ev K X e te m) : Ss K X (.Return (some e) pos) (tRet te) (mRt m) := ⟨ps_ret h.pe, fun G B0 H0 E F σ H D r F' S e q => by
  obtain ⟨⟨d, F1⟩, e1, e⟩ := Option.bind_eq_some_iff.mp e
  cases e
  obtain ⟨B, s, sn, I⟩ := S.ex
  exact h.ok G B E F σ H _ d F1 I e1 fun v H1 k1 f1 h1 => q v H1 (S.kp.trans k1) f1 (h1.same (hid_sub s))⟩
noncomputable def mSet (i : Nat) (a : DE → M PyData) : DE → M Out := fun E F => (a E F).bind fun p => (bN i p.1 E).bind fun E1 => some (.nx E1, p.2)
theorem Sit.bind {G : GF} {B0 B : List Addr} {H0 : Hp} {E E' : DE} {F F' : FS} {σ σ' : St} {H : Hp} (S : Sit K G B0 H0 E F σ H) (s : ∀ b ∈ B0, b ∈ B) (sn : ∀ b ∈ B, b ∈ B0 ∨ H0 b = none) (I : SitE K G B E' F' σ' H) (fr : ∀ i : Nat, (∀ y, E'[i]? ≠ some (some (.dat y))) → E'[i]? = E[i]? ∧ σ'[i]? = σ[i]?) : Sit K G B0 H0 E' F' σ' H := by
  refine ⟨⟨B, s, sn, I⟩, S.fB, S.kp, fun i ds a ei si => ?_, fun i j ds es a ei ej si sj => ?_, S.dic.of fun i w c ps ei => fr i fun y z => by rw [ei] at z; cases z⟩
  · obtain ⟨a1, a2⟩ := fr i fun y z => by rw [ei] at z; cases z
    exact S.own i ds a (a1 ▸ ei) (a2 ▸ si)
  · obtain ⟨a1, a2⟩ := fr i fun y z => by rw [ei] at z; cases z
    obtain ⟨b1, b2⟩ := fr j fun y z => by rw [ej] at z; cases z
    exact S.inj i j ds es a (a1 ▸ ei) (b1 ▸ ej) (a2 ▸ si) (b2 ▸ sj)
theorem asg_d {g : TG} {bd : PyData → DE → Option DE} (he : TEd K te m) (hg : TGd K g bd) : TSd K (tAsg te g) (fun E F => (m E F).bind fun p => (bd p.1 E).bind fun E1 => some (.nx E1, p.2)) := fun G B0 H0 E F σ H D r F' S e q => by
  obtain ⟨⟨d, F1⟩, e1, e⟩ := Option.bind_eq_some_iff.mp e
  obtain ⟨E1, e2, e⟩ := Option.bind_eq_some_iff.mp e
  cases e
  obtain ⟨B, s, sn, I⟩ := S.ex
  refine he G B E F σ H _ d F1 I e1 fun v H1 k1 f1 h1 => ?_
  have S1 := S.step k1 f1
  exact hg G B E F1 σ H1 v d E1 _ (I.step k1 f1) h1 e2 fun σ' I' fr => q σ' H1 (S1.bind s sn I' fr)
theorem name_d (i : Nat) : TGd K (gName i) (bN i) := fun G B E F σ H x d E' Q I h e q => by
  unfold bN at e
  split at e
  · rename_i hl
    cases e
    refine q _ (I.set h hl) fun j hj => ?_
    by_cases hij : i = j
    · subst hij
      exact absurd (List.getElem?_set_self hl) (hj d)
    · rw [List.getElem?_set_ne hij, List.getElem?_set_ne hij]
      exact ⟨rfl, rfl⟩
  · cases e
theorem st_set (i : Nat) {x : Str} (hN : X.N.Nodup) (he : Ev K X e te m) (hi : X.N[i]? = some x := by rfl) (hx : Loc X.env.scope x := by first | exact Or.inl rfl | exact Or.inr rfl) (hs : swapsWith e (some (.Name x pos')) pos.line X.env = pure false := by rfl) (hf : X.fn x = true ∨ X.env.scope.names.lookup x = some .local := by first | exact .inl rfl | exact .inr rfl | assumption) :
    Ss K X (.Assign [.Name x pos'] e pos) (tAsg te (gName i)) (mSet i m) := ⟨ps_set hN hi hx he.pe hs hf, asg_d he.ok (name_d i)⟩
theorem st_setLC (i : Nat) {y : Str} {py : Pos} {elt : Expr} {ifs : List Expr} {scope : Scope} (osc : Scope) (N : List Str) {k : Nat} {cap : List Nat} {wi : TI} {g : TG} {tt : TT} {mi : DE → M (List PyData)} {bd : PyData → DE → Option DE} {mt : DE → M Bool} {me : DE → M PyData}
    (hN : X.N.Nodup) (hi : Eib K X tg iter wi mi)
    (hg : ∀ {cl C ex pins s H}, Eg K (cxC X N scope cl C ex pins s H) tg g bd)
    (ht : ∀ {cl C ex pins s H}, Ets K (cxC X N scope cl C ex pins s H) ifs tt mt)
    (he : ∀ {cl C ex pins s H}, Ev K (cxC X N scope cl C ex pins s H) elt te me)
    (hc : X.calm = true := by rfl) (hosc : X.env.scope = osc := by rfl) (hcap : Caps X.N osc N k cap scope := by exact {})
    (hix : X.N[i]? = some y := by rfl) (hLy : Loc X.env.scope y := by first | exact Or.inl rfl | exact Or.inr rfl)
    (hs : ∀ x, foldedSetIterable iter X.env x = pure x := by intro _; rfl) (hfy : X.fn y = true ∨ X.env.scope.names.lookup y = some .local := by first | exact .inl rfl | exact .inr rfl | assumption)
    (hsw : swapsWith (.ListComp elt [⟨tg, iter, ifs, 0⟩] scope p) (some (.Name y py)) pos.line X.env = pure true := by rfl) :
    Ss K X (.Assign [.Name y py] (.ListComp elt [⟨tg, iter, ifs, 0⟩] scope p) pos) (tAsg (tLC wi k cap g tt te) (gName i)) (mSet i (sLC mi k cap bd mt me)) :=
  ⟨ps_setLC hN hix hLy hc hosc hcap hi.pi (fun _ _ _ _ _ _ => hg.pg) (fun _ _ _ _ _ _ => ht.pts) (fun _ _ _ _ _ _ => he.pe) hs hfy hsw,
    asg_d (lc_d hi.ok (@hg [] 0 [] [] X.s₀ X.H₀).ok (@ht [] 0 [] [] X.s₀ X.H₀).ok (@he [] 0 [] [] X.s₀ X.H₀).ok) (name_d i)⟩
noncomputable def mIf (c : DE → M Bool) (a b : DE → M Out) : DE → M Out := fun E F => (c E F).bind fun p => if p.1 = true then a E p.2 else b E p.2
theorem st_if {x y : List Stmt} {tt : TT} {mc : DE → M Bool} (hc : Et K X c tt mc) (ha : Sss K X x t mt) (hb : Sss K X y u mu) : Ss K X (.If c x y pos) (tIfS tt t u) (mIf mc mt mu) := ⟨ps_if hc.pt ha.ps hb.ps, fun G B0 H0 E F σ H D r F' S e q => by
  obtain ⟨⟨d, F1⟩, e1, e⟩ := Option.bind_eq_some_iff.mp e
  obtain ⟨B, s, sn, I⟩ := S.ex
  refine hc.ok G B E F σ H _ d F1 I e1 fun H1 k1 f1 => ?_
  cases d with
  | true => exact ha.ok G B0 H0 E F1 σ H1 D r F' (S.step k1 f1) e q
  | false => exact hb.ok G B0 H0 E F1 σ H1 D r F' (S.step k1 f1) e q⟩
noncomputable def mPar (i j : Nat) (a : DE → M (List PyData)) : DE → M Out := fun E F => (a E F).bind fun p => match p.1 with
  | [x, y] => (bN i x E).bind fun E1 => (bN j y E1).bind fun E2 => some (.nx E2, p.2)
  | _ => none
theorem st_par (i j : Nat) {x y : Str} {tl : TA} {ms : DE → M (List PyData)} {px py pt : Pos} {kt k2 pt2} (hc : X.calm = true) (hN : X.N.Nodup) (ha : Ea K X [a, b] tl ms) (hi : X.N[i]? = some x := by rfl) (hj : X.N[j]? = some y := by rfl) (hij : i ≠ j := by decide)
    (hx : X.env.scope.names.lookup x = some .local := by rfl) (hy : X.env.scope.names.lookup y = some .local := by rfl)
    (hw : swappedStores [.Tuple [.Name x px, .Name y py] kt pt] (.Tuple [a, b] k2 pt2) X.env = pure (some [x, y]) := by rfl)
    (hs : swapsWithSole [.Tuple [.Name x px, .Name y py] kt pt] (.Tuple [a, b] k2 pt2) pos.line X.env = pure false := by rfl) :
    Ss K X (.Assign [.Tuple [.Name x px, .Name y py] kt pt] (.Tuple [a, b] k2 pt2) pos) (tPar i j tl) (mPar i j ms) := ⟨ps_par hc hN hi hj hij hx hy ha.pa hw hs, fun G B0 H0 E F σ H D r F' S e q => by
  obtain ⟨⟨ds, F1⟩, e1, e⟩ := Option.bind_eq_some_iff.mp e
  obtain ⟨B, s, sn, I⟩ := S.ex
  refine ha.ok G B E F σ H _ ds F1 I e1 fun vs H1 k1 f1 h1 => ?_
  dsimp only at e
  split at e
  · obtain ⟨E1, e2, e⟩ := Option.bind_eq_some_iff.mp e
    obtain ⟨E2, e3, e⟩ := Option.bind_eq_some_iff.mp e
    cases e
    simp only [DatsAre] at h1
    obtain ⟨v, r1, rfl, hv, w, r2, rfl, hw, rfl⟩ := h1
    have S1 := S.step k1 f1
    refine ⟨v, w, rfl, ?_⟩
    refine name_d i G B E _ σ H1 v _ E1 (fun σ' H' => D.nx (σ'.set j (some w)) H') (I.step k1 f1) hv e2 fun σ' I' fr => ?_
    have S2 := S1.bind s sn I' fr
    exact name_d j G B E1 _ σ' H1 w _ E2 D.nx I' hw e3 fun σ2 I2 fr2 => q σ2 H1 (S2.bind s sn I2 fr2)
  · cases e⟩
end
end L3
set_option Elab.async false
set_option linter.all false
set_option maxRecDepth 100000
set_option maxHeartbeats 4000000
namespace L3
open PySem PySem.Spec PyProof.Rows L2
section
variable [Feeds] {K : PySem.W.Frag} {X : Cx} {a b c e tg iter : Expr} {es : List Expr} {st : Stmt} {sts rest : List Stmt} {ta tb te : TE} {ma mb m : DE → M PyData} {t u : TS} {mt mu : DE → M Out} {pos pos' p p2 : Pos}
noncomputable def cutH (H : Hp) (B B0 : List Addr) : Hp := hid H (B.filter fun b => decide (b ∉ B0))
theorem cutH_none {H : Hp} {B B0 : List Addr} {b : Addr} (h1 : b ∈ B) (h2 : b ∉ B0) : cutH H B B0 b = none := hid_in (List.mem_filter.mpr ⟨h1, by simpa using h2⟩)
theorem cutH_some {H : Hp} {B B0 : List Addr} {b : Addr} (h : b ∉ B ∨ b ∈ B0) : cutH H B B0 b = H b := hid_out fun z => by
  obtain ⟨z1, z2⟩ := List.mem_filter.mp z
  rcases h with h | h
  · exact h z1
  · simp at z2; exact z2 h
section
variable {G : GF} {B0 B : List Addr} {H0 : Hp} {E E2 : DE} {F F2 : FS} {σ σ2 : St} {H H2 : Hp}
theorem Sit.base (S : Sit K G B0 H0 E F σ H) (s : ∀ b ∈ B0, b ∈ B) (sn : ∀ b ∈ B, b ∈ B0 ∨ H0 b = none) (I : SitE K G B E F σ H) : Sit K G B0 (cutH H B B0) E F σ H := by
  refine ⟨⟨B, s, fun b hb => ?_, I⟩, S.fB, Kp.same hid_same, fun i ds a ei si => ?_, S.inj, fun i c ps a ei si => ?_⟩
  · by_cases h : b ∈ B0
    · exact .inl h
    · exact .inr (cutH_none hb h)
  · obtain ⟨v, v1, a', xs, rfl, hB, _⟩ := I.loc i _ ei
    rw [v1] at si; cases si
    exact ⟨cutH_none hB (S.own i ds _ ei v1).2, (S.own i ds _ ei v1).2⟩
  · obtain ⟨v, v1, a', xs, rfl, hB, _⟩ := I.loc i _ ei
    rw [v1] at si; cases si
    obtain ⟨⟨_, h2⟩, h3⟩ := S.dic i c ps _ ei v1
    exact ⟨⟨cutH_none hB h2, h2⟩, h3⟩
theorem cut_kp (S : Sit K G B0 H0 E F σ H) (sn : ∀ b ∈ B, b ∈ B0 ∨ H0 b = none) (k : Kp (fpOf K G) (cutH H B B0) H2) : Kp (fpOf K G) H0 H2 := fun b o e n => by
  refine k b o ?_ n
  rw [cutH_some]
  · exact S.kp b o e n
  · by_cases hb : b ∈ B
    · rcases sn b hb with h | h
      · exact .inr h
      · rw [h] at e; cases e
    · exact .inl hb
theorem Sit.unbase (S : Sit K G B0 H0 E F σ H) (sn : ∀ b ∈ B, b ∈ B0 ∨ H0 b = none) (S2 : Sit K G B0 (cutH H B B0) E2 F2 σ2 H2) : Sit K G B0 H0 E2 F2 σ2 H2 := by
  have no : ∀ b, cutH H B B0 b = none → b ∈ B0 ∨ H0 b = none := fun b e => by
    by_cases hb : b ∈ B
    · exact sn b hb
    · rw [cutH_some (.inl hb)] at e
      by_cases hf : b ∈ fpOf K G
      · exact .inl (S.fB b hf)
      · cases q : H0 b with
        | none => exact .inr rfl
        | some o => rw [S.kp b o q hf] at e; cases e
  obtain ⟨B2, s2, sn2, I2⟩ := S2.ex
  refine ⟨⟨B2, s2, fun b hb => ?_, I2⟩, S.fB, cut_kp S sn S2.kp, fun i ds a ei si => ?_, S2.inj, fun i c ps a ei si => ?_⟩
  · rcases sn2 b hb with h | h
    · exact .inl h
    · exact no b h
  · obtain ⟨h1, h2⟩ := S2.own i ds a ei si
    exact ⟨(no a h1).resolve_left h2, h2⟩
  · obtain ⟨⟨h1, h2⟩, h3⟩ := S2.dic i c ps a ei si
    exact ⟨⟨(no a h1).resolve_left h2, h2⟩, h3⟩
end
noncomputable def forGo (bd : PyData → DE → Option DE) (body : DE → M Out) : List PyData → DE → M Out
  | [], E, F => some (.nx E, F)
  | d :: r, E, F => (bd d E).bind fun E1 => (body E1 F).bind fun p => match p.1 with
    | .nx E2 => forGo bd body r E2 p.2
    | .ct E2 => forGo bd body r E2 p.2
    | .bk E2 => some (.nx E2, p.2)
    | .rt d => some (.rt d, p.2)
noncomputable def mFor (mi : DE → M (List PyData)) (bd : PyData → DE → Option DE) (body : DE → M Out) : DE → M Out := fun E F => (mi E F).bind fun p => forGo bd body p.1 E p.2
theorem for_d {wi : TI} {g : TG} {tb : TS} {mi : DE → M (List PyData)} {bd : PyData → DE → Option DE} {mb : DE → M Out} (hi : TId K wi mi) (hg : TGd K g bd) (hb : TSd K tb mb) : TSd K (tFor wi g tb) (mFor mi bd mb) := fun G B0 H0 E F σ H D r F' S e q => by
  obtain ⟨⟨items, F1⟩, e1, e⟩ := Option.bind_eq_some_iff.mp e
  obtain ⟨B, s, sn, I⟩ := S.ex
  refine hi G B E F σ H _ items F1 I e1 fun J H1 k1 f1 ok => ?_
  have S1 := S.step k1 f1
  have I1 := I.step k1 f1
  have S1' := S1.base s sn I1
  have qn : ∀ {E2 : DE} {F2 : FS}, r = .nx E2 → F' = F2 → ∀ σ2 H2, Sit K G B0 (cutH H1 B B0) E2 F2 σ2 H2 → D.nx σ2 H2 := fun {E2 F2} er ef σ2 H2 S2 => by
    subst er ef
    exact q σ2 H2 (S1.unbase sn S2)
  have stab : ∀ {E2 : DE} {F2 : FS} {σ2 : St} {H2 : Hp} {B2 : List Addr}, Sit K G B0 (cutH H1 B B0) E2 F2 σ2 H2 → (∀ b ∈ B2, b ∈ B0 ∨ cutH H1 B B0 b = none) → Same (hid H1 B) (hid H2 B2) := fun {E2 F2 σ2 H2 B2} S2 sn2 b o eb => by
    by_cases hB : b ∈ B
    · rw [hid_in hB] at eb; cases eb
    · rw [hid_out hB] at eb
      have ec : cutH H1 B B0 b = some o := by rw [cutH_some (.inl hB)]; exact eb
      rw [hid_out fun z => (sn2 b z).elim (fun h => hB (s b h)) fun h => by rw [h] at ec; cases ec]
      exact S2.kp b o ec fun z => hB (s b (S.fB b z))
  refine ⟨fun i m σ H => m = items.length - i ∧ i ≤ items.length ∧ ∃ E F, Sit K G B0 (cutH H1 B B0) E F σ H ∧ forGo bd mb (items.drop i) E F = some (r, F'), ⟨items.length, by simp, Nat.zero_le _, E, F1, S1', e⟩, ?_⟩
  rintro i mm σ2 H2 ⟨rfl, hi2, E2, F2, S2, e2⟩
  obtain ⟨B2, s2, sn2, I2⟩ := S2.ex
  have st2 := stab S2 sn2
  by_cases hlt : i < items.length
  · refine .inr ⟨((ok H2 B2 st2).1 i items[i] (by simp [hlt])).1, fun σ' H' => i + 1 ≤ items.length ∧ ∃ E F, Sit K G B0 (cutH H1 B B0) E F σ' H' ∧ forGo bd mb (items.drop (i + 1)) E F = some (r, F'), fun σ' H' ⟨h1, h2⟩ => ⟨items.length - (i + 1), by omega, rfl, h1, h2⟩, fun x H3 y => ?_⟩
    obtain ⟨s3, hx⟩ := ((ok H2 B2 st2).1 i items[i] (by simp [hlt])).2 x H3 y
    have hx := hx I2.bk
    rw [List.drop_eq_getElem_cons hlt, forGo] at e2
    obtain ⟨E4, e4, e2⟩ := Option.bind_eq_some_iff.mp e2
    obtain ⟨⟨o, F5⟩, e5, e2⟩ := Option.bind_eq_some_iff.mp e2
    have S3 := S2.step (Kp.same s3) (I2.fd.same s3)
    have I3 : SitE K G B2 E2 F2 σ2 H3 := I2.step (Kp.same s3) (I2.fd.same s3)
    refine hg G B2 E2 F2 σ2 H3 x items[i] E4 _ I3 hx e4 fun σ4 I4 fr => ?_
    refine hb G B0 (cutH H1 B B0) E4 F2 σ4 H3 _ o F5 (S3.bind s2 sn2 I4 fr) e5 ?_
    cases o with
    | nx E6 => exact fun σ6 H6 S6 => ⟨hlt, E6, F5, S6, e2⟩
    | ct E6 => exact fun σ6 H6 S6 => ⟨hlt, E6, F5, S6, e2⟩
    | bk E6 => cases e2; exact fun σ6 H6 S6 => qn rfl rfl σ6 H6 S6
    | rt d => cases e2; exact fun v H6 k6 f6 h6 => q v H6 (cut_kp S1 sn k6) f6 h6
  · have ei : i = items.length := by omega
    subst ei
    rw [List.drop_length, forGo] at e2
    cases e2
    exact .inl ⟨(ok H2 B2 st2).2, qn rfl rfl σ2 H2 S2⟩
theorem st_for {body : List Stmt} {wi : TI} {g : TG} {tb : TS} {mi : DE → M (List PyData)} {bd : PyData → DE → Option DE} {mb : DE → M Out} (hc : X.calm = true) (hi : Ei K X tg iter wi mi) (hg : Eg K X tg g bd) (hb : Sss K X body tb mb) (hp : PassesOwn (model X.prog X.w) X.A X.env X.xe := by exact PassesOwn.never)
    (hs : ∀ x, foldedSetIterable iter X.env x = pure x := by intro _; rfl) : Ss K X (.For tg iter body [] pos) (tFor wi g tb) (mFor mi bd mb) := ⟨ps_for hp hc hi.pi hg.pg hb.ps hs, for_d hi.ok hg.ok hb.ok⟩
structure Ef (K : PySem.W.Frag) (X : Cx) (e : Expr) (te : TE) (m : DE → M (List PyData)) : Prop where
  pe : PE X e te
  ok : TFd K te m
theorem hid_more {H : Hp} {B : List Addr} {p : Addr} {o : HO} (hp : H p = none) : Same (hid H B) (hid (upd H p o) (p :: B)) := fun b u e => by
  by_cases hb : b ∈ B
  · rw [hid_in hb] at e; cases e
  · rw [hid_out hb] at e
    have hne := ne_of_none e hp
    rw [hid_out (by simp [hne, hb]), upd_ne hne]; exact e
noncomputable def fLst (a : DE → M (List PyData)) : DE → M (List PyData) := fun E F => (a E F).bind fun p => if p.1.length ≤ sizeLine then some (p.1, p.2) else none
theorem ef_lst {t : TA} {ms : DE → M (List PyData)} (h : Ea K X es t ms) : Ef K X (.List es pos) (tLst t) (fLst ms) := ⟨pe_lst h.pa, fun G B E F σ H Q d F' I e q => by
  obtain ⟨⟨x, F1⟩, e1, e⟩ := Option.bind_eq_some_iff.mp e
  split at e
  · rename_i hl
    cases e
    refine h.ok G B E F σ H _ x F1 I e1 fun vs H1 k1 f1 h1 => ⟨by rw [h1.length]; exact hl, fun p hp => ?_⟩
    have hnf : p ∉ fpOf K G := fun z => (bok_step I.bk k1 f1).nin hp (I.fB p z)
    exact q p vs _ (k1.none hp hnf) upd_same (k1.trans (Kp.upd hp)) (f1.same (Same.upd hp)) (h1.same (hid_more hp))
  · cases e⟩
noncomputable def mOwn (i : Nat) (a : DE → M (List PyData)) : DE → M Out := fun E F => (a E F).bind fun p => if i < E.length then some (.nx (E.set i (some (.own p.1))), p.2) else none
theorem own_d {i : Nat} {mf : DE → M (List PyData)} (he : TFd K te mf) : TSd K (tAsg te (gName i)) (mOwn i mf) := fun G B0 H0 E F σ H D r F' S e q => by
  obtain ⟨⟨ds, F1⟩, e1, e⟩ := Option.bind_eq_some_iff.mp e
  split at e
  · rename_i hl
    cases e
    obtain ⟨B, s, sn, I⟩ := S.ex
    refine he G B E F σ H _ ds _ I e1 fun a vs H1 hn ha k1 f1 h1 => ?_
    have I1 := I.step k1 f1
    have hsl : i < σ.length := by rw [← I.ln]; exact hl
    have haB : a ∉ B := I.bk.nin hn
    have haf : a ∉ fpOf K G := fun z => haB (I.fB a z)
    have h0 : H0 a = none := S.kp.none hn haf
    have sm : Same (hid H B) (hid H1 (a :: B)) := fun b o eb => by
      by_cases hb : b ∈ B
      · rw [hid_in hb] at eb; cases eb
      · rw [hid_out hb] at eb
        have hne := ne_of_none eb hn
        rw [hid_out (by simp [hne, hb])]
        exact k1 b o eb fun z => hb (I.fB b z)
    refine q _ H1 ⟨⟨a :: B, fun b hb => List.mem_cons_of_mem _ (s b hb), fun b hb => ?_, ⟨f1, fun b hb => List.mem_cons_of_mem _ (I.fB b hb), fun b hb => ?_, by rw [List.length_set, List.length_set]; exact I.ln, fun j x ej => ?_⟩⟩, S.fB, S.kp.trans k1, fun j es a' ej sj => ?_, fun j k es es' a' ej ek sj sk => ?_, S.dic.set nofun⟩
    · rcases List.mem_cons.mp hb with rfl | hb
      · exact .inr h0
      · exact sn b hb
    · rcases List.mem_cons.mp hb with rfl | hb
      · exact ⟨_, ha⟩
      · exact I1.bk b hb
    · by_cases hj : i = j
      · subst hj
        rw [List.getElem?_set_self hl] at ej
        cases ej
        exact ⟨.ref a, by rw [List.getElem?_set_self hsl], a, vs, rfl, List.mem_cons_self, haf, ha, h1⟩
      · rw [List.getElem?_set_ne hj] at ej
        obtain ⟨v, v1, v2⟩ := I.loc j x ej
        refine ⟨v, by rw [List.getElem?_set_ne hj]; exact v1, ?_⟩
        cases x with
        | dat d => exact DatIs.same (show DatIs K (hid H B) d v from v2) sm
        | feed => exact v2
        | fn _ => exact v2
        | adr _ => exact v2
        | own es =>
          obtain ⟨a', xs', rfl, hB', hf', ha', hd'⟩ := v2
          exact ⟨a', xs', rfl, List.mem_cons_of_mem _ hB', hf', k1 _ _ ha' hf', hd'.same sm⟩
        | dic w c ps =>
          obtain ⟨a', xs', rfl, hB', hf', ha', hn', hd'⟩ := v2
          exact ⟨a', xs', rfl, List.mem_cons_of_mem _ hB', hf', k1 _ _ ha' hf', hn', hd'.same sm⟩
    · by_cases hj : i = j
      · subst hj
        rw [List.getElem?_set_self hsl] at sj
        cases sj
        exact ⟨h0, fun z => haB (s a z)⟩
      · rw [List.getElem?_set_ne hj] at ej sj
        exact S.own j es a' ej sj
    · have other : ∀ (j : Nat) (es : List PyData), i ≠ j → E[j]? = some (some (DV.own es)) → σ[j]? ≠ some (some (V.ref a)) := fun j es _ ej z => by
        obtain ⟨v, v1, a', xs', rfl, hB', _⟩ := I.loc j _ ej
        rw [v1] at z; cases z
        exact haB hB'
      by_cases hj : i = j
      · by_cases hk : i = k
        · exact hj.symm.trans hk
        · subst hj
          rw [List.getElem?_set_self hsl] at sj
          cases sj
          rw [List.getElem?_set_ne hk] at ek sk
          exact absurd sk (other k es' hk ek)
      · rw [List.getElem?_set_ne hj] at ej sj
        by_cases hk : i = k
        · subst hk
          rw [List.getElem?_set_self hsl] at sk
          cases sk
          exact absurd sj (other j es hj ej)
        · rw [List.getElem?_set_ne hk] at ek sk
          exact S.inj j k es es' a' ej ek sj sk
  · cases e
theorem st_own (i : Nat) {x : Str} {mf : DE → M (List PyData)} (hN : X.N.Nodup) (he : Ef K X e te mf) (hi : X.N[i]? = some x := by rfl) (hx : Loc X.env.scope x := by first | exact Or.inl rfl | exact Or.inr rfl) (hs : swapsWith e (some (.Name x pos')) pos.line X.env = pure false := by rfl) (hf : X.fn x = true ∨ X.env.scope.names.lookup x = some .local := by first | exact .inl rfl | exact .inr rfl | assumption) :
    Ss K X (.Assign [.Name x pos'] e pos) (tAsg te (gName i)) (mOwn i mf) := ⟨ps_set hN hi hx he.pe hs hf, own_d he.ok⟩
end
end L3
set_option Elab.async false
set_option linter.all false
set_option maxRecDepth 100000
set_option maxHeartbeats 4000000
namespace L3
open PySem PySem.Spec PyProof.Rows L2
section
variable [Feeds] {K : PySem.W.Frag} {X : Cx} {a b c e tg iter : Expr} {es : List Expr} {st : Stmt} {sts rest : List Stmt} {ta tb te : TE} {ma mb m : DE → M PyData} {t u : TS} {mt mu : DE → M Out} {pos pos' p p2 : Pos}
section
variable {G : GF} {B0 B : List Addr} {H0 : Hp} {E : DE} {F : FS} {σ : St} {H : Hp}
theorem Sit.write {i : Nat} {ds ds' : List PyData} {x : Addr} {vs' : List V} (S : Sit K G B0 H0 E F σ H) (s : ∀ b ∈ B0, b ∈ B) (sn : ∀ b ∈ B, b ∈ B0 ∨ H0 b = none) (I : SitE K G B E F σ H) (ei : E[i]? = some (some (DV.own ds))) (si : σ[i]? = some (some (V.ref x)))
    (hd : DatsAre K (hid H B) ds' vs') : Sit K G B0 H0 (E.set i (some (.own ds'))) F σ (upd H x (.lst vs')) := by
  have hl : i < E.length := (List.getElem?_eq_some_iff.mp ei).1
  obtain ⟨v, v1, x', xs, rfl, hB, hf, hx, _⟩ := I.loc i _ ei
  rw [si] at v1; cases v1
  have e1 : hid (upd H x (.lst vs')) B = hid H B := hid_upd hB
  obtain ⟨n1, n2⟩ := S.own i ds x ei si
  refine ⟨⟨B, s, sn, ⟨I.fd.congr fun b hb => upd_ne (fun z => hb.elim (fun hb => hf (z ▸ hb)) fun ⟨φ, q⟩ => by rw [z, hx] at q; cases q), I.fB, fun b hb => ?_, by rw [List.length_set]; exact I.ln, fun j y ej => ?_⟩⟩, S.fB, fun b o eb nb => ?_, fun j es a' ej sj => ?_, fun j k es es' a' ej ek sj sk => ?_, S.dic.set1 nofun⟩
  · by_cases h : b = x
    · subst h; exact ⟨_, upd_same⟩
    · rw [upd_ne h]; exact I.bk b hb
  · by_cases hj : i = j
    · subst hj
      rw [List.getElem?_set_self hl] at ej
      cases ej
      exact ⟨.ref x, si, x, vs', rfl, hB, hf, upd_same, by rw [e1]; exact hd⟩
    · rw [List.getElem?_set_ne hj] at ej
      obtain ⟨w, w1, w2⟩ := I.loc j y ej
      refine ⟨w, w1, ?_⟩
      cases y with
      | dat d => show DatIs K (hid (upd H x (.lst vs')) B) d w; rw [e1]; exact w2
      | feed => exact w2
      | fn _ => exact w2
      | adr _ => exact w2
      | own es =>
        obtain ⟨a', xs', rfl, hB', hf', ha', hd'⟩ := w2
        have hne : a' ≠ x := fun z => hj (S.inj i j ds es x ei ej si (z ▸ w1))
        exact ⟨a', xs', rfl, hB', hf', by rw [upd_ne hne]; exact ha', by rw [e1]; exact hd'⟩
      | dic w c ps =>
        obtain ⟨a', xs', rfl, hB', hf', ha', hn', hd'⟩ := w2
        have hne : a' ≠ x := fun z => by rw [z, hx] at ha'; cases ha'
        exact ⟨a', xs', rfl, hB', hf', by rw [upd_ne hne]; exact ha', hn', by rw [e1]; exact hd'⟩
  · rw [upd_ne]
    · exact S.kp b o eb nb
    · intro z; subst z; rw [n1] at eb; cases eb
  · by_cases hj : i = j
    · subst hj
      exact S.own i ds a' ei sj
    · rw [List.getElem?_set_ne hj] at ej
      exact S.own j es a' ej sj
  · have back : ∀ (j : Nat) (es : List PyData), (E.set i (some (.own ds')))[j]? = some (some (DV.own es)) → ∃ es, E[j]? = some (some (DV.own es)) := fun j es ej => by
      by_cases hj : i = j
      · subst hj; exact ⟨ds, ei⟩
      · rw [List.getElem?_set_ne hj] at ej; exact ⟨es, ej⟩
    obtain ⟨f1, ej'⟩ := back j es ej
    obtain ⟨f2, ek'⟩ := back k es' ek
    exact S.inj j k f1 f2 a' ej' ek' sj sk
end
noncomputable def ownOf (E : DE) (i : Nat) : Option (List PyData) := match E[i]? with
  | some (some (.own ds)) => some ds
  | _ => none
theorem ownOf_some {E : DE} {i : Nat} {ds : List PyData} (h : ownOf E i = some ds) : E[i]? = some (some (DV.own ds)) := by
  unfold ownOf at h
  split at h
  · rename_i q; cases h; exact q
  · cases h
noncomputable def mApp (i : Nat) (v : DE → M PyData) : DE → M Out := fun E F => (v E F).bind fun p => (ownOf E i).bind fun ds => if ds.length < sizeLine then some (.nx (E.set i (some (.own (ds ++ [p.1])))), p.2) else none
theorem app_d {i : Nat} (hv : TEd K te m) : TSd K (tDrop (tBM K "list" rAppend (tVar i) (tCons te tNil))) (mApp i m) := fun G B0 H0 E F σ H D r F' S e q => by
  obtain ⟨⟨d, F1⟩, e1, e⟩ := Option.bind_eq_some_iff.mp e
  obtain ⟨ds, e4, e⟩ := Option.bind_eq_some_iff.mp e
  split at e
  · rename_i hl
    cases e
    obtain ⟨B, s, sn, I⟩ := S.ex
    have eo := ownOf_some e4
    obtain ⟨w, w1, a, xs, rfl, hB, hf, hx, hdx⟩ := I.loc i _ eo
    refine ⟨_, w1, .inl ⟨rfl, xs, SqL.of hx⟩, hv G B E F σ H _ d _ I e1 fun u H2 k2 f2 h2 => ?_⟩
    have hd2 := hdx.same (k2.hid I.fB)
    exact ⟨a, xs, u, rfl, rfl, k2 a _ hx hf, by rw [hdx.length]; exact hl, q σ _ ((S.step k2 f2).write s sn (I.step k2 f2) eo w1 (hd2.snoc h2))⟩
  · cases e
noncomputable def ArgR (K : PySem.W.Frag) (G : GF) (B : List Addr) (H : Hp) : List DV → List V → Prop
  | [], vs => vs = []
  | x :: xs, vs => ∃ v r, vs = v :: r ∧ x.ow = false ∧ DVr K G B H x v ∧ ArgR K G B H xs r
noncomputable def spD (K : PySem.W.Frag) (n : Nat) (f : List DV → M PyData) : Sp := fun vs H Q _ => ∃ G B F args d F', vs.length = n ∧ (∀ b ∈ fpOf K G, b ∈ B) ∧ BOk H B ∧ FAt K G H F ∧ ArgR K G B H args vs ∧ f args F = some (d, F') ∧
  ∀ v H', Kp (fpOf K G) H H' → FAt K G H' F' → DatIs K (hid H' B) d v → Q v H'
noncomputable def startE (N : List Str) (args : List DV) : DE := args.map some ++ List.replicate (N.length - args.length) none
noncomputable def runD (N : List Str) (m : DE → M Out) : List DV → M PyData := fun args F => (m (startE N args) F).bind fun p => match p.1 with
  | .rt d => some (d, p.2)
  | .nx _ => some (.none, p.2)
  | _ => none
theorem ArgR.length {G : GF} {B : List Addr} {H : Hp} : ∀ {args : List DV} {vs : List V}, ArgR K G B H args vs → vs.length = args.length
  | [], vs, h => by cases h; rfl
  | x :: xs, vs, ⟨v, r, e, _, _, h⟩ => by subst e; rw [List.length_cons, List.length_cons, h.length]
theorem ArgR.get {G : GF} {B : List Addr} {H : Hp} : ∀ {args : List DV} {vs : List V} {i : Nat} {x : DV}, ArgR K G B H args vs → args[i]? = some x → ∃ v, vs[i]? = some v ∧ x.ow = false ∧ DVr K G B H x v
  | [], vs, i, x, h, e => by simp at e
  | y :: xs, vs, i, x, ⟨v, r, e1, h1, h2, h3⟩, e => by
    subst e1
    cases i with
    | zero => simp at e; subst e; exact ⟨v, rfl, h1, h2⟩
    | succ i => simpa using h3.get (i := i) (by simpa using e)
theorem start_get {N : List Str} {args : List DV} {i : Nat} {x : DV} (h : (startE N args)[i]? = some (some x)) : args[i]? = some x := by
  unfold startE at h
  by_cases hi : i < args.length
  · rw [List.getElem?_append_left (by simpa using hi), List.getElem?_map] at h
    obtain ⟨y, e1, e2⟩ := Option.map_eq_some_iff.mp h
    cases e2; exact e1
  · rw [List.getElem?_append_right (by simpa using hi), List.getElem?_replicate] at h
    split at h <;> simp at h
theorem sit_start {G : GF} {B : List Addr} {F : FS} {H : Hp} {N : List Str} {args : List DV} {vs : List V} (fB : ∀ b ∈ fpOf K G, b ∈ B) (bk : BOk H B) (f : FAt K G H F) (h : ArgR K G B H args vs) : Sit K G B H (startE N args) F (L2.start N vs) H := by
  have noown : ∀ (i : Nat) (ds : List PyData), (startE N args)[i]? ≠ some (some (DV.own ds)) := fun i ds e => by
    obtain ⟨v, _, n, _⟩ := h.get (start_get e)
    cases n
  refine ⟨⟨B, fun _ z => z, fun b hb => .inl hb, ⟨f, fB, bk, by simp [startE, L2.start, h.length], fun i x e => ?_⟩⟩, fB, Kp.refl, fun i ds a e _ => absurd e (noown i ds), fun i j ds es a e _ _ _ => absurd e (noown i ds), fun i c ps a e _ => by obtain ⟨v, _, n, _⟩ := h.get (start_get e); cases n⟩
  obtain ⟨v, v1, _, v2⟩ := h.get (start_get e)
  refine ⟨v, ?_, v2⟩
  have hi : i < vs.length := (List.getElem?_eq_some_iff.mp v1).1
  unfold L2.start
  rw [List.getElem?_append_left (by simpa using hi), List.getElem?_map, v1]
  rfl
variable {P : Program} {w : World} {mg : Str → Option Value} {base : Heap}
theorem def_ok {x qual : Str} {f : Addr} {fd : FuncData} {N ps : List Str} {k : Nat} {m : DE → M Out} (Fn : Fun K x qual st f fd) (S : FnScope N ps (defScope st))
    (hbody : ∀ (cdv : Value) (A : Around) (outer : List Env) (s : Shared) (H : Hp) (E : XK), Room k (A.deeper (envOfC qual (defScope st) s.heap.objs.size f cdv)) →
      ∃ ts, Sss K (cxOf CX0 P w K mg base N qual (defScope st) f cdv A outer s H E).nox (defBody st) ts m) : FnOk P w K mg base CX0 (k + 1) f fd ps (spD K ps.length (runD N m)) := by
  refine Fn.ok S (fun vs H Q E h => ?_) (fun cdv A outer s H vs Q E hr h => ?_)
  · obtain ⟨G, B, F, args, d, F', hl, _⟩ := h
    exact hl
  · obtain ⟨G, B, F, args, d, F', hl, fB, bk, fa, ha, hm, q⟩ := h
    obtain ⟨ts, hts⟩ := hbody cdv A outer s H E hr
    refine ⟨ts, hts.ps, ?_⟩
    obtain ⟨⟨o, F1⟩, e1, e⟩ := Option.bind_eq_some_iff.mp hm
    refine hts.ok G B H (startE N args) F (L2.start N vs) H _ o F1 (sit_start fB bk fa ha) e1 ?_
    cases o with
    | rt d' => cases e; exact fun v H' k1 f1 h1 => q v H' k1 f1 h1
    | nx E' => cases e; exact fun σ' H' S' => q _ H' S'.kp (by obtain ⟨B, _, _, I⟩ := S'.ex; exact I.fd) DatIs.non
    | bk E' => cases e
    | ct E' => cases e
noncomputable def TVd (K : PySem.W.Frag) (ta : TA) (m : DE → M (List DV)) : Prop := ∀ (G : GF) (B : List Addr) (E : DE) (F : FS) (σ : St) (H : Hp) (Q : List V → Hp → Prop) (ds : List DV) (F' : FS), SitE K G B E F σ H → m E F = some (ds, F') →
  (∀ vs H', Kp (fpOf K G) H H' → FAt K G H' F' → ArgR K G B H' ds vs → Q vs H') → ta σ H Q
structure Evs (K : PySem.W.Frag) (X : Cx) (es : List Expr) (ta : TA) (m : DE → M (List DV)) : Prop where
  pa : PA X es ta
  ok : TVd K ta m
noncomputable def vNil : DE → M (List DV) := fun _ F => some ([], F)
noncomputable def vD (a : DE → M PyData) (r : DE → M (List DV)) : DE → M (List DV) := fun E F => (a E F).bind fun p => (r E p.2).bind fun q => some (.dat p.1 :: q.1, q.2)
noncomputable def vF (i : Nat) (r : DE → M (List DV)) : DE → M (List DV) := fun E F => match E[i]? with
  | some (some .feed) => (r E F).bind fun q => some (.feed :: q.1, q.2)
  | _ => none
theorem av_nil : Evs K X [] tNil vNil := ⟨pa_nil, fun G B E F σ H Q ds F' I e q => by cases e; exact q [] H Kp.refl I.fd rfl⟩
theorem av_d {tl : TA} {ms : DE → M (List DV)} (ha : Ev K X e te m) (hr : Evs K X es tl ms) (hs : starEach (e :: es) X.env = (false, eval e X.env) :: starEach es X.env := by rfl) : Evs K X (e :: es) (tCons te tl) (vD m ms) :=
  ⟨pa_cons ha.pe hr.pa hs, fun G B E F σ H Q ds F' I e q => by
    obtain ⟨⟨x, F1⟩, e1, e⟩ := Option.bind_eq_some_iff.mp e
    obtain ⟨⟨ys, F2⟩, e2, e⟩ := Option.bind_eq_some_iff.mp e
    cases e
    refine ha.ok G B E F σ H _ x F1 I e1 fun v H1 k1 f1 h1 => ?_
    refine hr.ok G B E F1 σ H1 _ ys _ (I.step k1 f1) e2 fun vs H2 k2 f2 h2 => q _ H2 (k1.trans k2) f2 ⟨v, vs, rfl, rfl, h1.same (k2.hid I.fB), h2⟩⟩
theorem av_f (i : Nat) {x : Str} {tl : TA} {ms : DE → M (List DV)} (hr : Evs K X es tl ms) (hN : X.N[i]? = some x := by rfl) (hv : Vis X.env.scope x := by first | exact Or.inl rfl | exact Or.inr (Or.inl rfl) | exact Or.inr (Or.inr rfl)) (hd : (x == ("__debug__" : Str)) = false := by decide)
    (hcd : (x == ("__classdict__" : Str)) = false := by decide) (hs : starEach (.Name x p :: es) X.env = (false, eval (.Name x p) X.env) :: starEach es X.env := by rfl) : Evs K X (.Name x p :: es) (tCons (tVar i) tl) (vF i ms) :=
  ⟨pa_cons (pe_var hN hv hd hcd) hr.pa hs, fun G B E F σ H Q ds F' I e q => by
    unfold vF at e
    split at e
    · rename_i hx
      obtain ⟨⟨ys, F2⟩, e2, e⟩ := Option.bind_eq_some_iff.mp e
      cases e
      obtain ⟨v, v1, v2⟩ := I.loc i _ hx
      refine ⟨v, v1, hr.ok G B E F σ H _ ys _ I e2 fun vs H2 k2 f2 h2 => q _ H2 k2 f2 ⟨v, vs, rfl, rfl, v2.step k2 I.fB, h2⟩⟩
    · cases e⟩
noncomputable def sCall (f : List DV → M PyData) (ms : DE → M (List DV)) : DE → M PyData := fun E F => (ms E F).bind fun p => f p.1 p.2
theorem call_d {n : Nat} {f : List DV → M PyData} {ta : TA} {ms : DE → M (List DV)} (h : TVd K ta ms) (hn : ∀ E F args F', ms E F = some (args, F') → args.length = n) : TEd K (tCall (spD K n f) [] E0 ta) (sCall f ms) := fun G B E F σ H Q d F' I e q => by
  obtain ⟨⟨args, F1⟩, e1, e⟩ := Option.bind_eq_some_iff.mp e
  refine h G B E F σ H _ args F1 I e1 fun vs H1 k1 f1 h1 => ?_
  rw [List.append_nil]
  exact ⟨G, B, F1, args, d, F', by rw [h1.length]; exact hn _ _ _ _ e1, I.fB, bok_step I.bk k1 f1, f1, h1, e, fun v H2 k2 f2 h2 => q v H2 (k1.trans k2) f2 h2⟩
theorem ln_nil : ∀ E F args F', vNil E F = some (args, F') → args.length = 0 := fun E F args F' e => by cases e; rfl
theorem ln_d {n : Nat} {ms : DE → M (List DV)} (h : ∀ E F args F', ms E F = some (args, F') → args.length = n) : ∀ E F args F', vD m ms E F = some (args, F') → args.length = n + 1 := fun E F args F' e => by
  obtain ⟨⟨x, F1⟩, e1, e⟩ := Option.bind_eq_some_iff.mp e
  obtain ⟨⟨ys, F2⟩, e2, e⟩ := Option.bind_eq_some_iff.mp e
  cases e
  rw [List.length_cons, h _ _ _ _ e2]
theorem ln_f {n i : Nat} {ms : DE → M (List DV)} (h : ∀ E F args F', ms E F = some (args, F') → args.length = n) : ∀ E F args F', vF i ms E F = some (args, F') → args.length = n + 1 := fun E F args F' e => by
  unfold vF at e
  split at e
  · obtain ⟨⟨ys, F2⟩, e2, e⟩ := Option.bind_eq_some_iff.mp e
    cases e
    rw [List.length_cons, h _ _ _ _ e2]
  · cases e
theorem ev_call {x : Str} {k n : Nat} {ps : List Str} {f : List DV → M PyData} {tl : TA} {ms : DE → M (List DV)} (C : Callee X.prog X.w X.K X.mg X.base x k ps (spD K n f)) (hr : Room k X.A) (ha : Evs K X (e :: es) tl ms) (hn : ∀ E F args F', ms E F = some (args, F') → args.length = n) (hg : Gl X x := by rfl)
    (hdb : (x == ("__debug__" : Str)) = false := by decide) (he : starEach (e :: es) X.env = (false, eval e X.env) :: starEach es X.env := by rfl) (hpl : (backTo pos (starEach es X.env)).any (·.1) = false := by rfl) :
    Ev K X (.Call (.Name x p) (e :: es) [] pos) (tCall (spD K n f) [] E0 tl) (sCall f ms) := ⟨pe_callee C hr hg ha.pa hdb he hpl, call_d ha.ok hn⟩
end
end L3
set_option Elab.async false
set_option linter.all false
set_option maxRecDepth 100000
set_option maxHeartbeats 4000000
namespace L3
open PySem PySem.Spec PyProof.Rows L2
section
variable {H : Hp} {d c : Addr} {a l t : Int}
end
structure FdS where
  ns : List Int
  a : Int
  l : Int
  t : Int
class Fam where
  At : Addr → Addr → Hp → FdS → Prop
  some1 : ∀ {d c H F}, At d c H F → ∃ o, H d = some o ∧ NoT o
  some2 : ∀ {d c H F}, At d c H F → ∃ o, H c = some o ∧ NoT o
  congr : ∀ {d c H H' F}, At d c H F → H' d = H d → H' c = H c → At d c H' F
  lam : List Str
  drawF : Int → FdS → Option (Int × FdS)
  draw_some : ∀ {m : Int} {F : FdS}, 0 < m → m < 1073741824 → F.t < 199999 → ∃ r F', drawF m F = some (r, F') ∧ 0 ≤ r ∧ r < m ∧ F'.t = F.t + 1
noncomputable instance fdI [Fam] : Feeds where
  S := FdS
  At := Fam.At
  some1 := Fam.some1
  some2 := Fam.some2
  congr := Fam.congr
  lam := Fam.lam
noncomputable def FdS.cell (F : FdS) : Int := if F.ns = [] then 11 else (F.ns[(F.a % (F.ns.length : Int)).toNat]?).getD 0
noncomputable def drawS [Fam] : List DV → M PyData
  | [.feed, .dat (.int m)] => fun F => (Fam.drawF m F).bind fun p => some (.int p.1, p.2)
  | _ => fun _ => none
theorem mod_lt {x m : Int} (h : 0 < m) : 0 ≤ x % m ∧ x % m < m := ⟨Int.emod_nonneg _ (by omega), Int.emod_lt_of_pos _ h⟩
theorem cell_at {F : FdS} (h0 : ¬ F.ns = []) : atI (F.ns.map V.int) (F.a % ((F.ns.map V.int).length : Int)) = some (.int F.cell) := by
  have hp : 0 < F.ns.length := List.length_pos_iff.mpr h0
  rw [List.length_map]
  obtain ⟨q1, q2⟩ := mod_lt (x := F.a) (m := (F.ns.length : Int)) (by omega)
  obtain ⟨j, hj⟩ : ∃ j : Nat, F.a % (F.ns.length : Int) = j := ⟨(F.a % (F.ns.length : Int)).toNat, by omega⟩
  have hjl : j < F.ns.length := by omega
  unfold FdS.cell
  rw [if_neg h0, hj]
  refine atI_nat ?_
  rw [List.getElem?_map]
  simp [hjl]
noncomputable def FdS.cellL (F : FdS) : Int := if F.ns = [] then 0 else (F.ns[(F.a % (F.ns.length : Int)).toNat]?).getD 0
noncomputable def FdS.fst (F : FdS) : Int := (F.cellL % 1000003 + 47 * F.a * F.a + 31 * F.a + 907) * 40009 % 999961
noncomputable def FdS.mixL (F : FdS) : Int := ((F.fst * F.fst + 38317 * F.a + 101) % 2097143) * 48271 % 2147483629 / 7
noncomputable def drawL (m : Int) (F : FdS) : Option (Int × FdS) := if 0 < m ∧ m < 1073741824 ∧ F.t < 199999 then
    some (if 0 < F.l then (F.l % m, ⟨F.ns, F.a, F.l / m, F.t + 1⟩)
      else if 10 ^ 18 ≤ F.cellL ∧ F.a < F.ns.length then (F.cellL % m, ⟨F.ns, F.a + 1, F.cellL / m, F.t + 1⟩)
      else (F.mixL % m, ⟨F.ns, F.a + 1, F.l, F.t + 1⟩))
  else none
theorem drawL_some {m : Int} {F : FdS} (h0 : 0 < m) (h1 : m < 1073741824) (h2 : F.t < 199999) : ∃ r F', drawL m F = some (r, F') ∧ 0 ≤ r ∧ r < m ∧ F'.t = F.t + 1 := by
  have b : ∀ x : Int, 0 ≤ x % m ∧ x % m < m := fun x => ⟨Int.emod_nonneg _ (by omega), Int.emod_lt_of_pos _ h0⟩
  unfold drawL
  rw [if_pos ⟨h0, h1, h2⟩]
  by_cases hl : 0 < F.l
  · rw [if_pos hl]; exact ⟨_, _, rfl, (b _).1, (b _).2, rfl⟩
  · rw [if_neg hl]
    by_cases hc : 10 ^ 18 ≤ F.cellL ∧ F.a < F.ns.length
    · rw [if_pos hc]; exact ⟨_, _, rfl, (b _).1, (b _).2, rfl⟩
    · rw [if_neg hc]; exact ⟨_, _, rfl, (b _).1, (b _).2, rfl⟩
theorem cellL_at {F : FdS} (h0 : ¬ F.ns = []) : atI (F.ns.map V.int) (F.a % ((F.ns.map V.int).length : Int)) = some (.int F.cellL) := by
  have e : F.cellL = F.cell := by unfold FdS.cellL FdS.cell; rw [if_neg h0, if_neg h0]
  rw [e]
  exact cell_at h0
@[reducible] noncomputable def famL (l : List Str) : Fam where
  At := fun d c H F => H d = some (.lst [.ref c, .int F.a, .int F.l]) ∧ H c = some (.lst (F.ns.map V.int)) ∧ F.ns.length ≤ 63 ∧ 0 ≤ F.a ∧ F.a ≤ F.t ∧ d ≠ c
  some1 := fun h => ⟨_, h.1, ⟨fun _ z => (by cases z), fun _ z => (by cases z)⟩⟩
  some2 := fun h => ⟨_, h.2.1, ⟨fun _ z => (by cases z), fun _ z => (by cases z)⟩⟩
  lam := l
  congr := fun h e1 e2 => ⟨e1.trans h.1, e2.trans h.2.1, h.2.2⟩
  drawF := drawL
  draw_some := drawL_some
noncomputable def newF (ns : List Int) : FdS := ⟨ns, 0, 0, 0⟩
end L3
set_option Elab.async false
set_option linter.all false
set_option maxRecDepth 100000
set_option maxHeartbeats 4000000
namespace L3
open PySem PySem.Spec PyProof.Rows L2
noncomputable def cC : Const → Option PyData
  | .int i => some (.int i)
  | .bool b => some (.bool b)
  | .none => some .none
  | .str x => some (.str x)
  | _ => none
noncomputable def cI : Expr → Option Int
  | .Constant c _ _ => match c with
    | .int i => some i
    | _ => none
  | _ => none
noncomputable def cU : UnaryOp → Bool
  | .USub => true
  | _ => false
noncomputable def cP : Operator → Bool
  | .Pow => true
  | _ => false
mutual
noncomputable def constD : Expr → Option PyData
  | .Constant c _ _ => cC c
  | .UnaryOp o e _ => if cU o = true then (cI e).map fun i => .int (-i) else none
  | .BinOp a o b _ => if cP o = true then (cI a).bind fun i => (cI b).bind fun j => if CPow i j then some (.int (i ^ j.toNat)) else none else none
  | .Tuple es _ _ => (constDs es).bind fun ds => if ds.length ≤ 10000 then some (.tuple ds) else none
  | .List es _ => (constDs es).bind fun ds => if ds.length ≤ 10000 then some (.list ds) else none
  | _ => none
noncomputable def constDs : List Expr → Option (List PyData)
  | [] => some []
  | e :: es => (constD e).bind fun d => (constDs es).bind fun ds => some (d :: ds)
end
mutual
noncomputable def constT : PyData → TE
  | .int i => tC (.int i)
  | .bool b => tC (.bl b)
  | .none => tC .non
  | .str x => tC (.str x)
  | .tuple ds => tTup (constTs ds)
  | .list ds => tLst (constTs ds)
  | .dict _ => fun _ _ _ => False
noncomputable def constTs : List PyData → TA
  | [] => tNil
  | d :: ds => tCons (constT d) (constTs ds)
end
theorem cI_some {e : Expr} {i : Int} (h : cI e = some i) : ∃ k p, e = .Constant (.int i) k p := by
  unfold cI at h
  split at h
  · split at h
    · cases h; exact ⟨_, _, rfl⟩
    · cases h
  · cases h
theorem star_const {e : Expr} {es : List Expr} {env : Env} {d : PyData} (h : constD e = some d) : starEach (e :: es) env = (false, eval e env) :: starEach es env := by
  unfold constD at h
  split at h
  · rfl
  · rfl
  · rfl
  · rfl
  · rfl
  · cases h
section
variable [Feeds] {K : PySem.W.Frag} {X : Cx}
theorem const_all : ∀ n : Nat, (∀ (e : Expr) (d : PyData), sizeOf e < n → constD e = some d → Ev K X e (constT d) (sC d)) ∧ (∀ (es : List Expr) (ds : List PyData), sizeOf es < n → constDs es = some ds → Ea K X es (constTs ds) (fun _ F => some (ds, F))) := by
  intro n
  induction n with
  | zero => exact ⟨fun _ _ h => absurd h (Nat.not_lt_zero _), fun _ _ h => absurd h (Nat.not_lt_zero _)⟩
  | succ n ih =>
    refine ⟨fun e d hn h => ?_, fun es ds hn h => ?_⟩
    · unfold constD at h
      split at h
      · unfold cC at h
        split at h
        · cases h; simp only [constT]; exact ev_int
        · cases h; simp only [constT]; exact ev_bl
        · cases h; simp only [constT]; exact ev_non
        · cases h; simp only [constT]; exact ev_str
        · cases h
      · rename_i o e1 p1
        split at h
        · rename_i ho
          obtain ⟨i, e2, h2⟩ := Option.map_eq_some_iff.mp h
          clear h
          obtain ⟨k, p, rfl⟩ := cI_some e2
          have : o = .USub := by cases o <;> first | rfl | (exact absurd ho (by decide))
          subst this h2
          simp only [constT]
          have hp : PE X (.UnaryOp .USub (.Constant (.int i) k p) p1) (tUn (rU fun i => .int (-i)) (tC (.int i))) := pe_un un_neg pe_int
          exact ⟨fun pins s σ H Q I h => hp pins s σ H Q I ⟨i, rfl, h⟩, fun G B E F σ H Q d F' I e q => by cases e; exact q _ H Kp.refl I.fd DatIs.int⟩
        · cases h
      · rename_i a o b p1
        split at h
        · rename_i ho
          obtain ⟨i, e2, h2⟩ := Option.bind_eq_some_iff.mp h
          clear h
          obtain ⟨j, e3, h⟩ := Option.bind_eq_some_iff.mp h2
          clear h2
          obtain ⟨k, p, rfl⟩ := cI_some e2
          obtain ⟨k', p', rfl⟩ := cI_some e3
          have : o = .Pow := by cases o <;> first | rfl | (exact absurd ho (by decide))
          subst this
          split at h
          · rename_i hc
            cases h
            simp only [constT]
            have hp : PE X (.BinOp (.Constant (.int i) k p) .Pow (.Constant (.int j) k' p') p1) (tOp (rI CPow fun i j => .int (i ^ j.toNat)) (tC (.int i)) (tC (.int j))) := pe_op op_pow pe_int pe_int
            exact ⟨fun pins s σ H Q I h => hp pins s σ H Q I ⟨i, j, rfl, rfl, hc, h⟩, fun G B E F σ H Q d F' I e q => by cases e; exact q _ H Kp.refl I.fd DatIs.int⟩
          · cases h
        · cases h
      · rename_i es k p
        obtain ⟨ds, e1, h⟩ := Option.bind_eq_some_iff.mp h
        split at h
        · rename_i hl
          cases h; simp only [constT]
          have hh := ih.2 es ds (by simp at hn; omega) e1
          exact ⟨pe_tup hh.pa, fun G B E F σ H Q d F' I e q => by
            cases e
            refine hh.ok G B E F σ H _ ds _ I rfl fun vs H1 k1 f1 h1 => ⟨?_, fun p hp => q _ _ (k1.trans (Kp.upd hp)) (f1.same (Same.upd hp)) (new_tup (bok_step I.bk k1 f1) hp h1)⟩
            rw [h1.length]
            exact Nat.le_trans hl (by rw [sizeLine_eq]; decide)⟩
        · cases h
      · rename_i es p
        obtain ⟨ds, e1, h⟩ := Option.bind_eq_some_iff.mp h
        split at h
        · rename_i hl
          cases h; simp only [constT]
          have hh := ih.2 es ds (by simp at hn; omega) e1
          exact ⟨pe_lst hh.pa, fun G B E F σ H Q d F' I e q => by
            cases e
            refine hh.ok G B E F σ H _ ds _ I rfl fun vs H1 k1 f1 h1 => ⟨?_, fun p hp => q _ _ (k1.trans (Kp.upd hp)) (f1.same (Same.upd hp)) (new_lst (bok_step I.bk k1 f1) hp h1)⟩
            rw [h1.length]
            exact Nat.le_trans hl (by rw [sizeLine_eq]; decide)⟩
        · cases h
      · cases h
    · cases es with
      | nil => simp only [constDs] at h; cases h; simp only [constTs]; exact ea_nil
      | cons e es =>
        simp only [constDs] at h
        obtain ⟨d, e1, h⟩ := Option.bind_eq_some_iff.mp h
        obtain ⟨ds', e2, h⟩ := Option.bind_eq_some_iff.mp h
        cases h
        simp only [constTs]
        exact ea_cons (ih.1 e d (by simp at hn; omega) e1) (ih.2 es ds' (by simp at hn; omega) e2) (star_const e1)
theorem const_ev (e : Expr) (d : PyData) (h : constD e = some d) : Ev K X e (constT d) (sC d) := (const_all (sizeOf e + 1)).1 e d (Nat.lt_succ_self _) h
theorem ev_k (d : PyData) {e : Expr} (h : constD e = some d) : Ev K X e (constT d) (sC d) := const_ev e d h
end
end L3
set_option Elab.async false
namespace L3
open PySem
theorem bt_len : bootBuiltins "len" = some (.builtin "len") := by decide +kernel
theorem bt_sum : bootBuiltins "sum" = some (.builtin "sum") := by decide +kernel
theorem bt_abs : bootBuiltins "abs" = some (.builtin "abs") := by decide +kernel
theorem bt_repr : bootBuiltins "repr" = some (.builtin "repr") := by decide +kernel
theorem bt_isinstance : bootBuiltins "isinstance" = some (.builtin "isinstance") := by decide +kernel
theorem bt_tuple : bootBuiltins "tuple" = some (.type "tuple") := by decide +kernel
theorem bt_list : bootBuiltins "list" = some (.type "list") := by decide +kernel
theorem bt_int : bootBuiltins "int" = some (.type "int") := by decide +kernel
end L3
set_option Elab.async false
set_option linter.all false
set_option maxRecDepth 100000
set_option maxHeartbeats 4000000
namespace L3
open PySem PySem.Spec PyProof.Rows L2
section
variable [Feeds] {K : PySem.W.Frag} {X : Cx} {a b c e tg iter : Expr} {es : List Expr} {ta tb tc te : TE} {ma mb mc m : DE → M PyData} {pos pos' p p2 : Pos}
noncomputable def sCh (f g : PyData → PyData → Option PyData) (a b c : DE → M PyData) : DE → M PyData := fun E F => (a E F).bind fun p => (b E p.2).bind fun q => (f p.1 q.1).bind fun z => (boolOf z).bind fun t => if t then (c E q.2).bind fun r => (g q.1 r.1).bind fun y => some (y, r.2) else some (.bool false, q.2)
theorem chain_d {f g : PyData → PyData → Option PyData} (ha : TEs K ta ma) (hb : TEs K tb mb) (hc : TEs K tc mc) : TEd K (tChain (rD2 K f) (rD2 K g) ta tb tc) (sCh f g ma mb mc) := fun G B E F σ H Q d F' I e q => by
  obtain ⟨⟨x, F1⟩, e1, e⟩ := Option.bind_eq_some_iff.mp e
  obtain ⟨⟨y, F2⟩, e2, e⟩ := Option.bind_eq_some_iff.mp e
  obtain ⟨z, e3, e⟩ := Option.bind_eq_some_iff.mp e
  obtain ⟨t, e4, eL⟩ := Option.bind_eq_some_iff.mp e
  refine ha G B E F σ H _ x F1 I e1 fun v H1 k1 f1 h1 => ?_
  refine hb G B E F1 σ H1 _ y F2 (I.step k1 f1) e2 fun w H2 k2 f2 h2 => ⟨fpOf K G, B, x, y, _, bok_step I.bk (k1.trans k2) f2, h1.step k2 I.fB, h2, e3, fun u H3 s hu => ?_⟩
  have := boolOf_some e4
  subst this
  simp only [DatIs] at hu
  refine ⟨t, hu, ?_⟩
  have k3 := (k1.trans k2).trans (Kp.same s)
  cases t with
  | false =>
    rw [if_neg (by decide)] at eL ⊢
    cases eL
    exact q _ H3 k3 (f2.same s) DatIs.bl
  | true =>
    rw [if_pos rfl] at eL ⊢
    obtain ⟨⟨r, F3⟩, e5, eM⟩ := Option.bind_eq_some_iff.mp eL
    obtain ⟨z2, e6, eN⟩ := Option.bind_eq_some_iff.mp eM
    cases eN
    refine hc G B E F2 σ H3 _ r F3 (I.step k3 (f2.same s)) e5 fun w' H4 k4 f4 h4 => ⟨fpOf K G, B, y, r, _, bok_step I.bk (k3.trans k4) f4, (h2.step (Kp.same s) I.fB).step k4 I.fB, h4, e6, fun u5 H5 s5 hu5 => q u5 H5 ((k3.trans k4).trans (Kp.same s5)) (f4.same s5) hu5⟩
theorem et_chain {op op' : CmpOp} {f g : PyData → PyData → Option PyData} (ho : OpR X (compareOp op) (rD2 K f)) (ho' : OpR X (compareOp op') (rD2 K g)) (ha : Eb K X a ta ma) (hb : Eb K X b tb mb) (hc : Eb K X c tc mc)
    (hm : lastMarks [op, op'] [b, c] = false := by with_unfolding_all rfl) : Et K X (.Compare a [op, op'] [b, c] pos) (tTest (tChain (rD2 K f) (rD2 K g) ta tb tc)) (uB (sCh f g ma mb mc)) :=
  ⟨pt_chain ho ho' ha.pe hb.pe hc.pe hm, fun G B E F σ H Q d F' I e q => by
    obtain ⟨⟨x, F1⟩, e1, e⟩ := Option.bind_eq_some_iff.mp e
    obtain ⟨t, e2, e⟩ := Option.bind_eq_some_iff.mp e
    cases e
    refine chain_d ha.ok hb.ok hc.ok G B E F σ H _ x F1 I e1 fun v H1 k1 f1 h1 => ?_
    have := boolOf_some e2
    simp only at this
    subst this
    simp only [DatIs] at h1
    exact ⟨_, h1, q H1 k1 f1⟩⟩
theorem st_app (i : Nat) {x : Str} {px ap cp : Pos} (hK : X.K = K) (hv : Ev K X e te m) (hN : X.N[i]? = some x := by rfl) (hvis : Vis X.env.scope x := by first | exact Or.inl rfl | exact Or.inr (Or.inl rfl) | exact Or.inr (Or.inr rfl)) (hd : (x == ("__debug__" : Str)) = false := by decide) (hcd : (x == ("__classdict__" : Str)) = false := by decide)
    (hbase : attributeBase (.Name x px) "append" X.env (eval (.Name x px) X.env) = eval (.Name x px) X.env := by rfl)
    (hfew : ((backTo cp (starEach [e] X.env)).all (fun x => !x.1) && (backToKw cp (keywordEach [] X.env)).all (fun x => x.1.isSome)
      && decide ([e].length + ([] : List Keyword).length + (if ([] : List Keyword).isEmpty then 0 else 1) < 30)) = true := by rfl)
    (hline : (ap.endLine == cp.line) = true := by rfl) (hst : starEach [e] X.env = (false, eval e X.env) :: starEach [] X.env := by rfl) (hplain : (backTo cp (starEach [] X.env)).any (·.1) = false := by rfl)
    (hs : swapsWith (.Call (.Attribute (.Name x px) "append" ap) [e] [] cp) none pos.line X.env = pure false := by rfl) :
    Ss K X (.Expr (.Call (.Attribute (.Name x px) "append" ap) [e] [] cp) pos) (tDrop (tBM K "list" rAppend (tVar i) (tCons te tNil))) (mApp i m) := by
  subst hK
  exact ⟨ps_expr (pe_bm PySem.F.plainAttrs_list PySem.F.slot_list_append PySem.F.type_list_append mt_append (pe_var hN hvis hd hcd) (pa_cons hv.pe pa_nil hst) hbase hfew hline hst hplain) hs, app_d hv.ok⟩
end
end L3
set_option Elab.async false
set_option linter.all false
set_option maxRecDepth 100000
set_option maxHeartbeats 4000000
namespace L3
open PySem PySem.Spec PyProof.Rows L2
section
variable [Feeds] {K : PySem.W.Frag} {X : Cx} {a b c e tg iter : Expr} {es : List Expr} {ta tb tc te : TE} {ma mb mc m : DE → M PyData} {pos pos' p p2 : Pos} {P : Program} {w : World} {mg : Str → Option Value} {base : Heap}
noncomputable def GD (K : PySem.W.Frag) (mg : Str → Option Value) (x : Str) (d : PyData) : Prop := ∃ a, mg x = some (.ref a) ∧ ∀ H, DatIs K H d (.ref a)
theorem ev_g {x : Str} {d : PyData} (h : GD K X.mg x d) (hg : Gl X x := by rfl) (hd : (x == ("__debug__" : Str)) = false := by decide) : Ev K X (.Name x p) (tC (.ref h.choose)) (sC d) :=
  ⟨pe_glob hg h.choose_spec.1 rfl hd, fun G B E F σ H Q d F' I e q => by
    cases e
    exact q _ H Kp.refl I.fd (h.choose_spec.2 _)⟩
end
end L3
set_option Elab.async false
set_option linter.all false
set_option maxRecDepth 100000
set_option maxHeartbeats 4000000
namespace L3
open PySem PySem.Spec PyProof.Rows L2
section
variable {prog : Program} {w : World} {A : Around} {E : Value → Shared → Prop} {s : Shared}
theorem nextOf_tuple_item {it l : Addr} {i : Nat} {items} {x : Value} {Q : Value → Shared → Prop} (hit : s.heap.IsTupleIter it l i)
    (hl : s.heap.IsTuple l items) (hx : items[i]? = some x)
    (hQ : ∀ h', h'.IsTupleIter it l (i + 1) → Heap.SameBut it s.heap h' → Q x { s with heap := h' }) :
    wpAny (model prog w) A (Builtin.SmallTypes.nextOf (.ref it)) Q E s := by
  obtain ⟨o, ho, hc, hd⟩ := id hit
  obtain ⟨ol, hol, _, nl, hdl⟩ := hl
  unfold Builtin.SmallTypes.nextOf
  refine wpAny_bind (wpAny_callSpecial?_slot (name := Str.ofString "__next__") hit.typeIs PySem.F.slot_tuple_iterator_next
    (wpAny_call_entry PySem.F.slot_tuple_iterator_next hit.typeIs PySem.F.entry_tuple_iterator_next ?_ (PySem.F.args_tuple_iterator_next_1 _)))
  show wpAny _ _ (field (.ref it) 0 >>= _) _ _ s
  refine wpAny_bind (wpAny_field ho hd (x := .ref l) rfl ?_)
  show wpAny _ _ (if (Value.ref l == Value.none) = true then _ else _) _ _ s
  rw [if_neg (show ¬ ((Value.ref l == Value.none) = true) from Bool.false_ne_true)]
  show wpAny _ _ (field (.ref it) 1 >>= _) _ _ s
  refine wpAny_bind (wpAny_field ho hd (x := .int i 0) rfl ?_)
  show wpAny _ _ (seqItems? (.ref l) >>= _) _ _ s
  refine wpAny_bind (wpAny_seqItems hol hdl ?_)
  simp only [Int.toNat_natCast, hx]
  refine wpAny_bind (wpAny_setField ho hd (by simp) (wpAny_pure ⟨x, rfl, wpAny_pure (hQ _ ?_ (Heap.SameBut.update ..))⟩))
  exact ⟨_, Heap.get?_update_self _ ho (Obj.isFreed_of_fields (Obj.data_mapFields hd _)), (Obj.cls_mapFields ..).trans hc, by
    rw [Obj.data_mapFields hd]; simp [rawInt]⟩
theorem nextOf_tuple_end {it l : Addr} {i : Nat} {items} {Q : Value → Shared → Prop} (hh : A.handled = none)
    (hit : s.heap.IsTupleIter it l i) (hl : s.heap.IsTuple l items) (hx : items[i]? = none)
    (hE : ∀ h' e, Heap.ExtBut it s.heap h' → (∃ o, h'.get? e = some o ∧ o.cls = .type "StopIteration") → E (.ref e) { s with heap := h' }) :
    wpAny (model prog w) A (Builtin.SmallTypes.nextOf (.ref it)) Q E s := by
  obtain ⟨o, ho, hc, hd⟩ := id hit
  obtain ⟨ol, hol, _, nl, hdl⟩ := hl
  unfold Builtin.SmallTypes.nextOf
  refine wpAny_bind (wpAny_callSpecial?_slot (name := Str.ofString "__next__") hit.typeIs PySem.F.slot_tuple_iterator_next
    (wpAny_call_entry PySem.F.slot_tuple_iterator_next hit.typeIs PySem.F.entry_tuple_iterator_next ?_ (PySem.F.args_tuple_iterator_next_1 _)))
  show wpAny _ _ (field (.ref it) 0 >>= _) _ _ s
  refine wpAny_bind (wpAny_field ho hd (x := .ref l) rfl ?_)
  show wpAny _ _ (if (Value.ref l == Value.none) = true then _ else _) _ _ s
  rw [if_neg (show ¬ ((Value.ref l == Value.none) = true) from Bool.false_ne_true)]
  show wpAny _ _ (field (.ref it) 1 >>= _) _ _ s
  refine wpAny_bind (wpAny_field ho hd (x := .int i 0) rfl ?_)
  show wpAny _ _ (seqItems? (.ref l) >>= _) _ _ s
  refine wpAny_bind (wpAny_seqItems hol hdl ?_)
  simp only [Int.toNat_natCast, hx]
  refine wpAny_bind (wpAny_rule (wpAny_bind (wpAny_setField ho hd (by simp) ?_)))
  show wpAny _ _ (newExc (.type "StopIteration") [] >>= _) _ _ _
  refine wpAny_bind ?_
  simp only [newExc, newTuple]
  refine wpAny_bind (wpAny_newObj_type ?_ (by size_fits))
  refine wpAny_bind (m := firstArgMember _ _) (wpAny_of_eq (a := Value.none) (by first | rfl | (simp only [firstArgMember]; rfl)) ?_)
  refine wpAny_newObj_type ?_ (by size_fits)
  simp only [raiseNew]
  refine wpAny_bind (wpAny_handled ?_)
  first | rw [show A.in1.handled = none from hh] | rw [hh]
  refine wpAny_bind (wpAny_pure (wpAny_throw ?_))
  exact hE _ _ (((Heap.SameBut.update ..).extBut.push _).push _) ⟨_, Heap.get?_push_size _ rfl, rfl⟩
end
noncomputable def ItSt (b : Bool) (h : Heap) (it l : Addr) (i : Nat) : Prop := if b then h.IsListIter it l i else h.IsTupleIter it l i
noncomputable def SqSt (b : Bool) (h : Heap) (l : Addr) (items : Array Value) : Prop := if b then h.IsList l items else h.IsTuple l items
theorem ItSt.at {b : Bool} {h h' : Heap} {it l : Addr} {i : Nat} (x : ItSt b h it l i) (k : ∀ o, h.get? it = some o → h'.get? it = some o) : ItSt b h' it l i := by
  cases b
  · exact Heap.IsTupleIter.at (show h.IsTupleIter it l i from x) k
  · exact Heap.IsListIter.at (show h.IsListIter it l i from x) k
theorem SqSt.at {b : Bool} {h h' : Heap} {l : Addr} {items : Array Value} (x : SqSt b h l items) (k : ∀ o, h.get? l = some o → h'.get? l = some o) : SqSt b h' l items := by
  cases b
  · obtain ⟨o, ho, r⟩ := (show h.IsTuple l items from x)
    exact ⟨o, k o ho, r⟩
  · exact Heap.IsList.at (show h.IsList l items from x) k
theorem ItSt.obj {b : Bool} {h : Heap} {it l : Addr} {i : Nat} (x : ItSt b h it l i) : ∃ o, h.get? it = some o ∧ ∀ v, o.data ≠ .cell v := by
  cases b
  · obtain ⟨o, e, c, d⟩ := (show h.IsTupleIter it l i from x)
    exact ⟨o, e, fun v z => by rw [d] at z; cases z⟩
  · obtain ⟨o, e, c, d⟩ := (show h.IsListIter it l i from x)
    exact ⟨o, e, fun v z => by rw [d] at z; cases z⟩
theorem drawsSeq {prog : Program} {w : World} {A : Around} (b : Bool) (hh : A.handled = none) (it l : Addr) (hne : l ≠ it) (items : Array Value) :
    Draws prog w A it [it, l] items.size (fun i v => items[i]? = some v) (fun i h => ItSt b h it l i ∧ SqSt b h l items) where
  live := fun _ _ st => let ⟨o, ho, _⟩ := st.1.obj; ⟨o, ho⟩
  frame := fun _ _ _ st hk => ⟨st.1.at fun o e => hk it (by simp) o e, st.2.at fun o e => hk l (by simp) o e⟩
  item := fun i s Q E hi st hQ => by
    cases b
    · refine nextOf_tuple_item (show s.heap.IsTupleIter it l i from st.1) (show s.heap.IsTuple l items from st.2) (x := items[i]) (by simp [hi]) fun h' hit' hs' => ?_
      exact hQ _ h' s.toks (by simp [hi]) ⟨hit', st.2.at fun o e => hs'.extBut l o hne e⟩ hs'
    · refine wpAny_nextOf_list_item (show s.heap.IsListIter it l i from st.1) (show s.heap.IsList l items from st.2) (x := items[i]) (by simp [hi]) fun h' hit' hs' => ?_
      exact hQ _ h' s.toks (by simp [hi]) ⟨hit', st.2.at fun o e => hs'.extBut l o hne e⟩ hs'
  done := fun s Q E st hE => by
    cases b
    · exact nextOf_tuple_end hh (show s.heap.IsTupleIter it l items.size from st.1) (show s.heap.IsTuple l items from st.2) (by simp) hE
    · exact wpAny_nextOf_list_end hh (show s.heap.IsListIter it l items.size from st.1) (show s.heap.IsList l items from st.2) (by simp) hE
open AutoSeq1 (wpAny_loadPart') in
theorem meets_enumerate_newT (l : Addr) (items : Array Value) (n : Nat) (dct : Option Addr) (sl : Array (Option Value)) :
    Meets (Builtin.«enumerate.__new__» ⟨[.type "enumerate", .ref l], []⟩) (fun _ R s => s.heap.get? l = some { cls := .type "tuple", dict := dct, data := .seq items n, slots := sl } ∧
      R (.ok (.ret (.ref (s.heap.push { cls := .type "tuple_iterator", data := .fields #[.ref l, .int 0 0] }).objs.size)))
        { s with heap := (s.heap.push { cls := .type "tuple_iterator", data := .fields #[.ref l, .int 0 0] }).push { cls := .type "enumerate", data := .fields #[.none, .bool false, .ref s.heap.objs.size, rawInt 0, .none, .none] } }) :=
  .of_wp fun prog w A R s h => by
    obtain ⟨hp, g, d, tk, os⟩ := s; obtain ⟨hl, h⟩ := h
    have hsub := sub_enumerate
    have hL : Heap.IsTuple (Shared.heap ⟨hp, g, d, tk, os⟩) l items := ⟨_, hl, rfl, n, rfl⟩
    wp_walk using wpAny_loadPart' hl
    refine wpAny_stack_any fun st => wpAny_pure ?_
    split
    · rename_i c _ _ _ _ _
      cases (c == Value.type "enumerate")
      · wp_walk using wpAny_loadPart' hl, wpAny_pyIter_tuple hL
        exact ⟨_, rfl, h⟩
      · wp_walk using wpAny_loadPart' hl, wpAny_pyIter_tuple hL
        exact ⟨_, rfl, h⟩
    · wp_walk using wpAny_loadPart' hl, wpAny_pyIter_tuple hL
      exact ⟨_, rfl, h⟩
section
variable {prog : Program} {w : World} {A : Around} {E : Value → Shared → Prop} {s : Shared}
theorem call_enumerate_tuple {l : Addr} {items : Array Value} {Q : Value → Shared → Prop} (hL : s.heap.IsTuple l items)
    (h : ∀ h', IsEnum h' (s.heap.objs.size + 1) s.heap.objs.size 0 .none → h'.IsTupleIter s.heap.objs.size l 0 → h'.objs.size = s.heap.objs.size + 2 →
      (∀ b o, s.heap.get? b = some o → h'.get? b = some o) → Q (.ref (s.heap.objs.size + 1)) { s with heap := h' }) :
    wpAny (model prog w) A (call (.type "enumerate") [.ref l]) Q E s := by
  obtain ⟨⟨c, dct, dt, sl⟩, hl, hc, n, hd⟩ := hL
  replace hc : c = .type "tuple" := hc
  replace hd : dt = .seq items n := hd
  subst hc hd
  refine callType_new PySem.F.called_enumerate (by decide) (PySem.F.typeCall_enumerate_1 _) (PySem.F.newCall_enumerate_1 _) (fun obj => PySem.F.args_object_init_2 obj _) PySem.F.entry_enumerate_new
    (meets_enumerate_newT l items n dct sl) ⟨hl, ?_⟩
  have hz : (s.heap.push { cls := .type "tuple_iterator", data := .fields #[.ref l, .int 0 0] }).objs.size = s.heap.objs.size + 1 := Heap.size_push ..
  show _ ∧ _
  rw [hz]
  have he : IsEnum ((s.heap.push { cls := .type "tuple_iterator", data := .fields #[.ref l, .int 0 0] }).push
      { cls := .type "enumerate", data := .fields #[.none, .bool false, .ref s.heap.objs.size, rawInt 0, .none, .none] }) (s.heap.objs.size + 1) s.heap.objs.size 0 .none := by
    have := Heap.get?_push_size (s.heap.push { cls := .type "tuple_iterator", data := .fields #[.ref l, .int 0 0] })
      (o := { cls := .type "enumerate", data := .fields #[.none, .bool false, .ref s.heap.objs.size, rawInt 0, .none, .none] }) rfl
    rw [hz] at this; exact this
  refine ⟨⟨_, he, rfl⟩, h _ he ⟨_, Heap.get?_push_of_some _ (Heap.get?_push_size _ rfl), rfl, rfl⟩ (by rw [Heap.size_push, hz]) fun b o x => Heap.get?_push_of_some _ (Heap.get?_push_of_some _ x)⟩
theorem call_enum {b : Bool} {l : Addr} {items : Array Value} {Q : Value → Shared → Prop} (hL : SqSt b s.heap l items)
    (h : ∀ h', IsEnum h' (s.heap.objs.size + 1) s.heap.objs.size 0 .none → ItSt b h' s.heap.objs.size l 0 → h'.objs.size = s.heap.objs.size + 2 →
      (∀ b o, s.heap.get? b = some o → h'.get? b = some o) → Q (.ref (s.heap.objs.size + 1)) { s with heap := h' }) :
    wpAny (model prog w) A (call (.type "enumerate") [.ref l]) Q E s := by
  cases b
  · exact call_enumerate_tuple (show s.heap.IsTuple l items from hL) h
  · exact call_enumerate_list (show s.heap.IsList l items from hL) h
end
noncomputable def SqA (b : Bool) (K : PySem.W.Frag) (H : Hp) (a : Addr) (xs : List V) : Prop := if b then SqL K H a xs else SqT K H a xs
noncomputable def Ite (b : Bool) (K : PySem.W.Frag) (a : Addr) : It :=
  ⟨fun i H => ∃ xs x, SqA b K H a xs ∧ xs[i]? = some x, fun i H v H' => ∃ t x, v = .ref t ∧ H t = none ∧ H' = upd H t (.tup [.int i, x]) ∧ ∀ xs, SqA b K H a xs → xs[i]? = some x, fun i H => ∃ xs, SqA b K H a xs ∧ xs.length = i⟩
theorem SqA.get {b : Bool} {X : Cx} {pins : List (Addr × Obj)} {σ : St} {H : Hp} {s : Shared} {a : Addr} {xs : List V} (I : Inv X pins σ H s) (h : SqA b X.K H a xs) : ∃ its : List Value, Vals xs its ∧ SqSt b s.heap a its.toArray := by
  cases b
  · obtain ⟨its, rv, p, _⟩ := I.tuple (show SqT X.K H a xs from h)
    exact ⟨its, rv, p⟩
  · obtain ⟨its, rv, p, _⟩ := I.list (show SqL X.K H a xs from h)
    exact ⟨its, rv, p.isList⟩
theorem SqA.inj {b : Bool} {X : Cx} {pins : List (Addr × Obj)} {σ : St} {H : Hp} {s : Shared} {a : Addr} {xs ys : List V} (I : Inv X pins σ H s) (h : SqA b X.K H a xs) (h' : SqA b X.K H a ys) : ys = xs := by
  cases b
  · exact I.tuple_inj (show SqT X.K H a ys from h') (show SqT X.K H a xs from h)
  · exact I.list_inj (show SqL X.K H a ys from h') (show SqL X.K H a xs from h)
end L3
set_option Elab.async false
set_option linter.all false
set_option maxRecDepth 100000
set_option maxHeartbeats 4000000
namespace L3
open PySem PySem.Spec PyProof.Rows L2
theorem push_old {h : Heap} {c : Addr} {o o' : Obj} (hl : c < h.objs.size) (e : (h.push o).get? c = some o') : h.get? c = some o' := by
  obtain ⟨e1, e2⟩ := Heap.get?_some_iff.mp e
  refine Heap.get?_some_iff.mpr ⟨?_, e2⟩
  have := Nat.ne_of_lt hl
  cases h; simpa [Heap.push, Array.getElem?_push, this] using e1
theorem inv_turned {X : Cx} {pins : List (Addr × Obj)} {σ : St} {H : Hp} {s : Shared} {h' : Heap} {t' : Nat} {fp : List Addr} (I : Inv X pins σ H s) (hf : ∀ b ∈ fp, FpOk X pins H b) (k : ∀ b o, b ∉ fp → s.heap.get? b = some o → h'.get? b = some o) : Inv X pins σ H { s with heap := h', toks := t' } := by
  have nit : ∀ b u, H b = some u → b ∉ fp := fun b u e z => by rw [(hf b z).1] at e; cases e
  refine I.step (g' := s.gens) (d' := s.drawn) (ch := fp) (fun b hb => ?_) (fun b o _ _ hc e _ => k b o hc e) (fun b o _ _ hc e _ => ⟨o.slots, k b o hc e⟩) (fun _ _ _ _ n => n)
    (fun b o hc e => ⟨o, k b o hc e⟩) (fun _ _ e => e) (fun _ _ _ e => e) (fun b ps e => ⟨#[], by rw [e]; simp⟩) (fun m hm => ?_) (fun b u e => ?_) I.bare
  · obtain ⟨_, f1, f2, f3, f4, f5⟩ := hf b hb
    exact ⟨f3, f1, f4, f5⟩
  · obtain ⟨o, es, ep, ho, r⟩ := hm
    exact ⟨o, es, ep, k _ o (fun z => (hf _ z).2.1 rfl) ho, r⟩
  · refine (I.hok b u e).stay (fun c v hc q => k c v ?_ q) (fun _ q => q) fun _ _ q => q
    rcases hc with z | z
    · rw [z]; exact nit b u e
    · exact nit c _ z
theorem turn_enum {P : Program} {w : World} {K : PySem.W.Frag} {es : List Expr} {k : Nat} {pos : Pos} (b : Bool) (a e it : Addr) : Turn P w K (.Tuple es k pos) (Ite b K a) [e, it] e (fun i h => (e ≠ it ∧ a ≠ e ∧ a ≠ it) ∧ (∃ old, IsEnum h e it i old) ∧ ItSt b h it a i) where
  mem := by simp
  obj := fun i h st c hb => by
    obtain ⟨_, ⟨old, he⟩, hit⟩ := st
    rcases List.mem_cons.mp hb with rfl | hb
    · exact ⟨_, he, fun v z => by cases (show Data.fields _ = Data.cell v from z)⟩
    · rw [List.mem_singleton.mp hb]; exact hit.obj
  keep := fun i h h' st kk => by
    obtain ⟨n, ⟨old, he⟩, hit⟩ := st
    exact ⟨n, ⟨old, kk e (by simp) _ he⟩, hit.at fun o z => kk it (by simp) o z⟩
  item := by
    intro X hP hw hK hc i pins s σ H E I hf st hg
    subst hP hw hK
    obtain ⟨⟨n1, n2, n3⟩, ⟨old, he⟩, hit⟩ := st
    obtain ⟨xs, x, hq, hx⟩ := hg
    obtain ⟨its, rv, p⟩ := SqA.get I hq
    obtain ⟨u, hu, ru⟩ := rv.get hx
    have hlt : i < its.toArray.size := by
      have := (List.getElem?_eq_some_iff.mp hu).1
      simpa using this
    have hel : e < s.heap.objs.size := Heap.lt_size he
    have hil : it < s.heap.objs.size := by obtain ⟨o, z, _⟩ := hit.obj; exact Heap.lt_size z
    refine wpAny_pyNext_enum_itemD (drawsSeq b (A := X.A.in1) (I.ok.hd hc) it a n3 its.toArray) he ⟨hit, p⟩ hlt n1 (by simp [n1, Ne.symm n2]) fun y h' tk hy ho hst' ht hz hk => ?_
    have hyu : y = u := by
      have hy : its.toArray[i]? = some y := hy
      rw [List.getElem?_toArray, hu] at hy
      exact (Option.some.inj hy).symm
    subst hyu
    refine ⟨_, rfl, wpAny_letOwnedTupleGo_enum ho fun h2 he2 hs2 => ?_⟩
    have hs2 : Heap.SameBut e h' h2 := hs2
    have hf0 : H s.heap.objs.size = none := I.hok.fresh (Nat.le_refl _)
    have I1 : Inv X pins σ (upd H s.heap.objs.size (.tup [.int i, x])) { s with heap := s.heap.push { cls := .type "tuple", data := .seq #[.int i tk, y] }, toks := tk } := by
      refine I.laid (t' := tk) (fun b u e => Heap.get?_push_of_some _ e) (Nat.le_refl _) ?_
      exact ⟨Nat.le_trans (show 2 ≤ 10000 by decide) (by rw [sizeLine_eq]; decide), [.int i tk, y], .cons ⟨tk, rfl⟩ (.cons ru .nil), ⟨_, Heap.get?_push_size _ rfl, rfl, _, rfl⟩, .mk (Heap.get?_push_size _ rfl) rfl⟩
    have hfp : ∀ c ∈ [e, it], FpOk X pins (upd H s.heap.objs.size (.tup [.int i, x])) c := fun c hcm => by
      obtain ⟨f0, f⟩ := hf c hcm
      have hne : c ≠ s.heap.objs.size := by
        rcases List.mem_cons.mp hcm with rfl | hcm
        · exact Nat.ne_of_lt hel
        · rw [List.mem_singleton.mp hcm]; exact Nat.ne_of_lt hil
      exact ⟨by rw [upd_ne hne]; exact f0, f⟩
    have hT2 : h2.get? s.heap.objs.size = some { cls := .type "tuple", data := .seq #[.int i tk, y] } := hs2.extBut _ _ (Nat.ne_of_gt hel) ht
    have I2 : Inv X pins σ (upd H s.heap.objs.size (.tup [.int i, x])) { s with heap := h2, toks := tk + 1 } := by
      refine inv_turned (s := { s with heap := s.heap.push { cls := .type "tuple", data := .seq #[.int i tk, y] }, toks := tk }) I1 hfp fun c o hcn ec => ?_
      have c1 : c ≠ e := fun z => hcn (by simp [z])
      have c2 : c ≠ it := fun z => hcn (by simp [z])
      by_cases hcT : c = s.heap.objs.size
      · subst hcT
        have : (s.heap.push { cls := .type "tuple", data := .seq #[.int i tk, y] }).get? s.heap.objs.size = some o := ec
        rw [Heap.get?_push_size _ rfl] at this
        rw [hT2]; exact this
      · have hlc : c < s.heap.objs.size := by
          have h1 : c < (s.heap.push { cls := .type "tuple", data := .seq #[.int i tk, y] }).objs.size := Heap.lt_size ec
          rw [Heap.size_push] at h1
          exact Nat.lt_of_le_of_ne (Nat.le_of_lt_succ h1) hcT
        have ec' : s.heap.get? c = some o := by
          have ec : (s.heap.push { cls := .type "tuple", data := .seq #[.int i tk, y] }).get? c = some o := ec
          exact push_old hlc ec
        exact hs2.extBut c o c1 (hk c o c1 c2 ec')
    refine ⟨.ref s.heap.objs.size, upd H s.heap.objs.size (.tup [.int i, x]), I2, rfl, ⟨_, x, rfl, hf0, rfl, fun ys hy => by rw [SqA.inj I hq hy]; exact hx⟩, ⟨⟨n1, n2, n3⟩, ⟨y, by simpa using he2⟩, hst'.1.at fun o z => hs2.extBut it o (Ne.symm n1) z⟩, fun c hcm => (hfp c hcm).1⟩
  done := by
    intro X hP hw hK hc i pins s σ H E I hf st hg
    subst hP hw hK
    obtain ⟨⟨n1, n2, n3⟩, ⟨old, he⟩, hit⟩ := st
    obtain ⟨xs, hq, hx⟩ := hg
    obtain ⟨its, rv, p⟩ := SqA.get I hq
    have hl : its.toArray.size = i := by rw [List.size_toArray, ← rv.length]; exact hx
    refine wpAny_pyNext_enum_endD (drawsSeq b (A := X.A.in1) (I.ok.hd hc) it a n3 its.toArray) he (by rw [hl]; exact ⟨hit, p⟩) fun h' eb => ⟨rfl, inv_turned (t' := s.toks) I hf fun c o hc ec => eb c o (fun z => hc (by simp [z])) ec⟩
  self := fun _ _ _ _ _ st h => by
    obtain ⟨_, ⟨old, he⟩, _⟩ := st
    exact wpAny_pyIter_enum he h
section
variable [Feeds] {K : PySem.W.Frag} {X : Cx} {tg iter e : Expr} {te : TE} {m : DE → M PyData} {pos p tp : Pos} {es : List Expr} {tk : Nat}
noncomputable def enumL : Nat → List PyData → List PyData
  | _, [] => []
  | k, d :: r => .tuple [.int k, d] :: enumL (k + 1) r
theorem enumL_len : ∀ {ds : List PyData} {k : Nat}, (enumL k ds).length = ds.length
  | [], k => rfl
  | d :: r, k => by rw [enumL, List.length_cons, List.length_cons, enumL_len]
theorem enumL_get : ∀ {ds : List PyData} {k i : Nat} {z : PyData}, (enumL k ds)[i]? = some z → ∃ d, ds[i]? = some d ∧ z = .tuple [.int ((k + i : Nat)), d]
  | [], k, i, z, h => by simp [enumL] at h
  | d :: r, k, 0, z, h => by simp [enumL] at h; exact ⟨d, by simp, by simp [h]⟩
  | d :: r, k, i + 1, z, h => by
    rw [enumL, List.getElem?_cons_succ] at h
    obtain ⟨d', h1, h2⟩ := enumL_get h
    refine ⟨d', by simpa using h1, ?_⟩
    rw [h2, show k + 1 + i = k + (i + 1) by omega]
noncomputable def mEnum (a : DE → M PyData) : DE → M (List PyData) := fun E F => (a E F).bind fun p => (seqOf p.1).bind fun ds => some (enumL 0 ds, p.2)
noncomputable def iEnum (K : PySem.W.Frag) (tl : TA) : TI := fun σ H R => tl σ H fun xs H1 => ∃ a, xs = [.ref a] ∧ ∃ b ys, SqA b K H1 a ys ∧ R (Ite b K a) H1
theorem pi_enum {l : Expr} {tl : TA} (hK : X.K = K) (hg : Gl X "enumerate") (hm : X.mg "enumerate" = none) (ha : PA X [l] tl) (hs : starEach [l] X.env = [(false, eval l X.env)] := by rfl) : PI X (.Tuple es tk tp) (.Call (.Name "enumerate" p) [l] [] pos) (iEnum K tl) := by
  subst hK
  intro pins s σ H R I h
  refine Call_ (ld_blt I hg hm boot_enumerate (PyProof.Rows.callWith_type1 (thn (ha pos pins s σ H _ I h) fun us s1 ⟨vs, H1, I1, r1, q1⟩ => ?_) hs rfl))
  obtain ⟨a, e, b, ys, hq, q⟩ := q1
  subst e
  cases r1 with
  | cons r rr =>
    cases rr
    cases r
    obtain ⟨its, rv, p⟩ := SqA.get I1 hq
    refine call_enum p fun h' he hit hz hk => ?_
    have I2 : Inv X pins σ H1 { s1 with heap := h' } := I1.kept (t' := s1.toks) hk
    have hal : a < s1.heap.objs.size := by
      cases b
      · obtain ⟨o, z, _⟩ := (show s1.heap.IsTuple a its.toArray from p); exact Heap.lt_size z
      · obtain ⟨o, z, _⟩ := (show s1.heap.IsList a its.toArray from p); exact Heap.lt_size z
    refine wpAny_pyIter_enum he ⟨s1.heap.objs.size + 1, [s1.heap.objs.size + 1, s1.heap.objs.size], _, _, H1, rfl, I2, turn_enum b a _ _, ⟨⟨Nat.succ_ne_self _, Nat.ne_of_lt (Nat.lt_succ_of_lt hal), Nat.ne_of_lt hal⟩, ⟨_, he⟩, hit⟩, fun c hc => ?_, q⟩
    have hle : s1.heap.objs.size ≤ c := by
      rcases List.mem_cons.mp hc with rfl | hc
      · exact Nat.le_succ _
      · rw [List.mem_singleton.mp hc]; exact Nat.le_refl _
    exact I1.fpOk hle (I1.hok.fresh hle)
theorem it_enum {P : Hp → List Addr → Prop} {b : Bool} {a : Addr} {ds : List PyData} {xs : List V} (h : ∀ H B, P H B → SqA b K H a xs ∧ DatsAre K (hid H B) ds xs) : IterOk K P (Ite b K a) (enumL 0 ds) := fun H B hp => by
  obtain ⟨h1, h2⟩ := h H B hp
  refine ⟨fun i d e => ?_, ⟨xs, h1, by rw [enumL_len, h2.length]⟩⟩
  obtain ⟨d', hd', rfl⟩ := enumL_get e
  obtain ⟨v, e1, e2⟩ := DatsAre.item h2 hd'
  refine ⟨⟨xs, v, h1, e1⟩, fun x H2 y => ?_⟩
  obtain ⟨t, x', rfl, ht, rfl, y⟩ := y
  have := y xs h1
  rw [e1] at this; cases this
  refine ⟨Same.upd ht, fun bk => ?_⟩
  rw [Nat.zero_add]
  exact new_tup bk ht ⟨_, _, rfl, DatIs.int, _, _, rfl, e2, rfl⟩
theorem eib_enum (h : Eb K X e te m) (hm : X.mg "enumerate" = none) (hK : X.K = K := by rfl) (hg : Gl X "enumerate" := by rfl) (hs : starEach [e] X.env = [(false, eval e X.env)] := by rfl) : Eib K X (.Tuple es tk tp) (.Call (.Name "enumerate" p) [e] [] pos) (iEnum K (tCons te tNil)) (mEnum m) := ⟨pi_enum hK hg hm (pa_cons h.pe pa_nil hs) hs, fun G B E F σ H R ds F' I e q => by
  obtain ⟨⟨y, F1⟩, e1, e⟩ := Option.bind_eq_some_iff.mp e
  obtain ⟨z, e2, e⟩ := Option.bind_eq_some_iff.mp e
  cases e
  refine h.ok G B E F σ H _ y F1 I e1 fun v H1 k1 f1 h1 => ?_
  cases y with
  | list ys =>
    cases e2
    obtain ⟨a, xs, rfl, ha, hd⟩ := h1
    exact ⟨a, rfl, true, xs, SqL.of (hid_same _ _ ha), q _ H1 k1 f1 (it_enum fun H2 B2 k => ⟨SqL.of (hid_same _ _ (k.1.hid (B := fpOf K G) (fun _ z => z) _ _ ha)), hd.same k.2⟩)⟩
  | tuple ys =>
    cases e2
    obtain ⟨a, xs, rfl, ha, hd⟩ := h1
    exact ⟨a, rfl, false, xs, ha.same hid_same, q _ H1 k1 f1 (it_enum fun H2 B2 k => ⟨(ha.same k.2).same hid_same, hd.same k.2⟩)⟩
  | _ => cases e2⟩
end
end L3
set_option Elab.async false
set_option linter.all false
set_option maxRecDepth 100000
set_option maxHeartbeats 4000000
namespace L3
open PySem PySem.Spec PyProof.Rows L2
section
variable [Feeds] {K : PySem.W.Frag} {X : Cx} {a b c e tg iter : Expr} {es : List Expr} {ta tb tc te : TE} {ma mb mc m : DE → M PyData} {pos pos' p p2 : Pos} {t u : TS} {mt mu : DE → M Out}
noncomputable def whGo (c : DE → M Bool) (b : DE → M Out) : Nat → DE → M Out
  | 0, _, _ => none
  | n + 1, E, F => (c E F).bind fun p => if p.1 = true then (b E p.2).bind fun q => match q.1 with
    | .nx E2 => whGo c b n E2 q.2
    | .ct E2 => whGo c b n E2 q.2
    | .bk E2 => some (.nx E2, q.2)
    | .rt d => some (.rt d, q.2)
    else some (.nx E, p.2)
theorem whGo_mono {c : DE → M Bool} {b : DE → M Out} : ∀ {n m : Nat} {E : DE} {F : FS} {r : Out × FS}, n ≤ m → whGo c b n E F = some r → whGo c b m E F = some r
  | 0, m, E, F, r, _, h => by cases h
  | n + 1, 0, E, F, r, hl, h => absurd hl (by omega)
  | n + 1, m + 1, E, F, r, hl, h => by
    rw [whGo] at h ⊢
    obtain ⟨⟨x, F1⟩, e1, h⟩ := Option.bind_eq_some_iff.mp h
    rw [e1, Option.bind_some]
    dsimp only at h ⊢
    cases x with
    | false => exact h
    | true =>
      rw [if_pos rfl] at h ⊢
      obtain ⟨⟨o, F2⟩, e2, h⟩ := Option.bind_eq_some_iff.mp h
      rw [e2, Option.bind_some]
      cases o with
      | nx E2 => exact whGo_mono (n := n) (m := m) (by omega) h
      | ct E2 => exact whGo_mono (n := n) (m := m) (by omega) h
      | bk E2 => exact h
      | rt d => exact h
open Classical in
noncomputable def mWh (c : DE → M Bool) (b : DE → M Out) : DE → M Out := fun E F => if h : ∃ n r, whGo c b n E F = some r then some (Classical.choose (Classical.choose_spec h)) else none
theorem mWh_of {c : DE → M Bool} {b : DE → M Out} {n : Nat} {E : DE} {F : FS} {r : Out × FS} (h : whGo c b n E F = some r) : mWh c b E F = some r := by
  unfold mWh
  have hx : ∃ n r, whGo c b n E F = some r := ⟨n, r, h⟩
  rw [dif_pos hx]
  have h2 := Classical.choose_spec (Classical.choose_spec hx)
  have a1 := whGo_mono (Nat.le_max_left n (Classical.choose hx)) h
  have a2 := whGo_mono (Nat.le_max_right n (Classical.choose hx)) h2
  rw [a1] at a2
  exact a2.symm
theorem mWh_to {c : DE → M Bool} {b : DE → M Out} {E : DE} {F : FS} {r : Out × FS} (h : mWh c b E F = some r) : ∃ n, whGo c b n E F = some r := by
  unfold mWh at h
  split at h
  · rename_i hx
    cases h
    exact ⟨_, Classical.choose_spec (Classical.choose_spec hx)⟩
  · cases h
theorem while_d {tt : TT} {tb : TS} {mc : DE → M Bool} {mb : DE → M Out} (hc : TTd K tt mc) (hb : TSd K tb mb) : TSd K (tWhile tt tb) (mWh mc mb) := fun G B0 H0 E F σ H D r F' S e q => by
  obtain ⟨n, e⟩ := mWh_to e
  refine ⟨fun m σ H => ∃ E F, Sit K G B0 H0 E F σ H ∧ whGo mc mb m E F = some (r, F'), ⟨n, E, F, S, e⟩, ?_⟩
  rintro m σ2 H2 ⟨E2, F2, S2, e2⟩
  cases m with
  | zero => cases e2
  | succ m =>
    rw [whGo] at e2
    obtain ⟨⟨x, F3⟩, e3, e2⟩ := Option.bind_eq_some_iff.mp e2
    obtain ⟨B, s, sn, I⟩ := S2.ex
    refine hc G B E2 F2 σ2 H2 _ x F3 I e3 fun H3 k3 f3 => ?_
    have S3 := S2.step k3 f3
    cases x with
    | false =>
      rw [if_neg Bool.false_ne_true]
      cases e2
      exact q σ2 H3 S3
    | true =>
      rw [if_pos rfl]
      rw [if_pos rfl] at e2
      obtain ⟨⟨o, F4⟩, e4, e2⟩ := Option.bind_eq_some_iff.mp e2
      refine ⟨fun σ' H' => ∃ E F, Sit K G B0 H0 E F σ' H' ∧ whGo mc mb m E F = some (r, F'), fun σ' H' h => ⟨m, Nat.lt_succ_self _, h⟩, ?_⟩
      refine hb G B0 H0 E2 F3 σ2 H3 _ o F4 S3 e4 ?_
      cases o with
      | nx E6 => exact fun σ6 H6 S6 => ⟨E6, F4, S6, e2⟩
      | ct E6 => exact fun σ6 H6 S6 => ⟨E6, F4, S6, e2⟩
      | bk E6 => cases e2; exact fun σ6 H6 S6 => q σ6 H6 S6
      | rt d => cases e2; exact fun v H6 k6 f6 h6 => q v H6 k6 f6 h6
theorem st_while {body : List Stmt} {tt : TT} {tb : TS} {mc : DE → M Bool} {mb : DE → M Out} (hc : Et K X c tt mc) (hb : Sss K X body tb mb) (hp : PassesOwn (model X.prog X.w) X.A X.env X.xe := by exact PassesOwn.never) : Ss K X (.While c body [] pos) (tWhile tt tb) (mWh mc mb) :=
  ⟨ps_while hp hc.pt hb.ps, while_d hc.ok hb.ok⟩
end
end L3
set_option Elab.async false
set_option linter.all false
set_option maxRecDepth 100000
set_option maxHeartbeats 4000000
namespace L3
open PySem PySem.Spec PyProof.Rows L2
section
variable [Feeds] {K : PySem.W.Frag} {X : Cx} {a b c e tg iter : Expr} {es : List Expr} {ta tb tc te : TE} {ma mb mc m : DE → M PyData} {pos pos' p p2 : Pos}
end
end L3
set_option Elab.async false
set_option linter.all false
set_option maxRecDepth 100000
set_option maxHeartbeats 4000000
namespace L3
open PySem PySem.Spec PyProof.Rows L2
section
variable {X : Cx}
end
section
variable [Feeds] {K : PySem.W.Frag} {X : Cx} {a b c e tg iter : Expr} {es : List Expr} {ta tb tc te : TE} {ma mb mc m : DE → M PyData} {pos pos' p p2 pos2 : Pos}
end
end L3
set_option Elab.async false
set_option linter.all false
set_option maxRecDepth 100000
set_option maxHeartbeats 4000000
namespace L3
open PySem PySem.Spec PyProof.Rows L2
noncomputable abbrev IsEnumG (h : Heap) (e it : Addr) (i : Int) (T : Addr) (f : Bool) (old : Value) : Prop :=
  h.get? e = some { cls := .type "enumerate", dict := none, data := .fields #[rawInt T, .bool f, .ref it, rawInt i, .none, old], slots := #[] }
section
variable {prog : Program} {w : World} {A : Around} {E : Value → Shared → Prop} {s : Shared}
theorem alive {a : Addr} {o : Obj} {Q : Option Obj → Shared → Prop} (ho : s.heap.get? a = some o) (h : Q (some o) s) : wpAny (model prog w) A (loadIfAlive a) Q E s := by
  have h' : Q (s.heap.get? a) s := by rw [ho]; exact h
  exact fun _ _ _ => h'
theorem enum_next_out {e it T0 : Addr} {oT : Obj} {fp : List Addr} {n i : Nat} {f : Bool} {P : Nat → Value → Prop} {St : Nat → Heap → Prop} {old : Value} {Q : Value → Shared → Prop}
    (D : Draws prog w A it fp n P St) (he : IsEnumG s.heap e it i T0 f old) (hT0 : s.heap.get? T0 = some oT) (hTe : T0 ≠ e) (hTi : T0 ≠ it) (hst : St i s.heap) (hlt : i < n) (hne : e ≠ it) (hef : e ∉ fp)
    (hQ : ∀ x h' tk, P i x → IsEnumG h' e it ((i : Int) + 1) T0 true old → St (i + 1) h' →
      h'.get? s.heap.objs.size = some { cls := .type "tuple", data := .seq #[.int i tk, x] } → h'.objs.size = s.heap.objs.size + 1 →
      (∀ b o, b ≠ e → b ≠ it → s.heap.get? b = some o → h'.get? b = some o) → Q (.ref s.heap.objs.size) { s with heap := h', toks := tk + 1 }) :
    wpAny (model prog w) A (Builtin.«enumerate.__next__» ⟨[.ref e], []⟩) (fun fin s' => ∃ v, fin = .done (.ret v) ∧ Q v s') E s := by
  obtain ⟨hp, g, d, tk₀, os⟩ := s
  show wpAny _ _ (field (.ref e) 2 >>= _) _ _ _
  refine wpAny_bind (wpAny_field he rfl (x := .ref it) rfl ?_)
  refine wpAny_bind (D.item i _ _ _ hlt hst fun x h₁ tk hPx hit₁ hs₁ => ?_)
  replace hs₁ : Heap.SameBut it hp h₁ := hs₁
  have he₁ : IsEnumG h₁ e it i T0 f old := (hs₁.2 e hne).trans he
  show wpAny _ _ (field (.ref e) 3 >>= _) _ _ ⟨h₁, g, d, tk, os⟩
  refine wpAny_bind (wpAny_field he₁ rfl (x := rawInt i) rfl ?_)
  show wpAny _ _ (field (.ref e) 4 >>= _) _ _ ⟨h₁, g, d, tk, os⟩
  refine wpAny_bind (wpAny_field he₁ rfl (x := .none) rfl ?_)
  show wpAny _ _ (mkInt i >>= _) _ _ ⟨h₁, g, d, tk, os⟩
  refine wpAny_bind (wpAny_mkInt ?_)
  show wpAny _ _ (setField (.ref e) 3 (rawInt ((i : Int) + 1)) >>= _) _ _ ⟨h₁, g, d, tk + 1, os⟩
  refine wpAny_bind (wpAny_setField_rec he₁ (by simp) fun h₂ he₂ hs₂ => ?_)
  replace hs₂ : Heap.SameBut e h₁ h₂ := hs₂
  replace he₂ : IsEnumG h₂ e it ((i : Int) + 1) T0 f old := he₂
  show wpAny _ _ (setField (.ref e) 4 .none >>= _) _ _ ⟨h₂, g, d, tk + 1, os⟩
  refine wpAny_bind (wpAny_setField_rec he₂ (by simp) fun h₃ he₃ hs₃ => ?_)
  replace hs₃ : Heap.SameBut e h₂ h₃ := hs₃
  replace he₃ : IsEnumG h₃ e it ((i : Int) + 1) T0 f old := he₃
  show wpAny _ _ (newTuple [.int i tk, x] >>= _) _ _ ⟨h₃, g, d, tk + 1, os⟩
  refine wpAny_bind (wpAny_newTuple ?_)
  have he₄ : IsEnumG (h₃.push { cls := .type "tuple", data := .seq #[.int i tk, x] }) e it ((i : Int) + 1) T0 f old := Heap.get?_push_of_some _ he₃
  generalize hh₄ : h₃.push { cls := .type "tuple", data := .seq #[.int i tk, x] } = h₄ at he₄
  have hsz : h₃.objs.size = hp.objs.size := by rw [hs₃.1, hs₂.1, hs₁.1]
  have hel : e < hp.objs.size := Heap.lt_size he
  have ht₄ : h₄.get? hp.objs.size = some { cls := .type "tuple", data := .seq #[.int i tk, x] } := by rw [← hh₄, ← hsz]; exact Heap.get?_push_size _ rfl
  have hz₄ : h₄.objs.size = hp.objs.size + 1 := by rw [← hh₄, Heap.size_push, hsz]
  have hk₄ : ∀ b o, b ≠ e → b ≠ it → hp.get? b = some o → h₄.get? b = some o := fun b o hbe hbi hb => by
    rw [← hh₄]; exact Heap.get?_push_of_some _ (hs₃.extBut b o hbe (hs₂.extBut b o hbe (hs₁.extBut b o hbi hb)))
  have hit₄ : St (i + 1) h₄ := D.frame _ _ _ hit₁ fun b hb o y => by
    have hbe : b ≠ e := fun q => hef (q ▸ hb)
    rw [← hh₄]; exact Heap.get?_push_of_some _ (hs₃.extBut b o hbe (hs₂.extBut b o hbe y))
  have hT₄ : h₄.get? T0 = some oT := hk₄ T0 oT hTe hTi hT0
  show wpAny _ _ (Builtin.SmallTypes.ownedTupleIsFree (.ref e) >>= _) _ _ ⟨h₄, g, d, tk + 1, os⟩
  rw [hsz]
  clear hh₄ he₃ hs₃ he₂ hs₂ he₁ hs₁ hit₁ hsz h₃ h₂ h₁
  refine wpAny_bind ?_
  · unfold Builtin.SmallTypes.ownedTupleIsFree
    refine wpAny_bind (wpAny_field he₄ rfl (x := rawInt T0) rfl ?_)
    show wpAny _ _ (loadIfAlive ((T0 : Int).toNat) >>= _) _ _ _
    rw [Int.toNat_natCast]
    refine wpAny_bind (alive (s := ⟨h₄, g, d, tk + 1, os⟩) hT₄ ?_)
    show wpAny _ _ (field (.ref e) 1 >>= _) _ _ ⟨h₄, g, d, tk + 1, os⟩
    refine wpAny_bind (wpAny_field he₄ rfl (x := .bool f) rfl ?_)
    cases f with
    | true =>
      show wpAny _ _ (pure false) _ _ _
      refine wpAny_pure ?_
      exact wpAny_pure ⟨_, rfl, hQ x h₄ tk hPx he₄ hit₄ ht₄ hz₄ hk₄⟩
    | false =>
      show wpAny _ _ (setField (.ref e) 1 (.bool true) >>= fun _ => pure false) _ _ ⟨h₄, g, d, tk + 1, os⟩
      refine wpAny_bind (wpAny_setField_rec he₄ (by simp) fun h₅ he₅ hs₅ => ?_)
      replace hs₅ : Heap.SameBut e h₄ h₅ := hs₅
      replace he₅ : IsEnumG h₅ e it ((i : Int) + 1) T0 true old := he₅
      refine wpAny_pure ?_
      refine wpAny_pure ⟨_, rfl, hQ x h₅ tk hPx he₅ ?_ ?_ ?_ ?_⟩
      · exact D.frame _ _ _ hit₄ fun b hb o y => hs₅.extBut b o (fun q => hef (q ▸ hb)) y
      · exact hs₅.extBut _ _ (Nat.ne_of_gt hel) ht₄
      · rw [hs₅.1, hz₄]
      · exact fun b o hbe hbi hb => hs₅.extBut b o hbe (hk₄ b o hbe hbi hb)
noncomputable def EnSt (h : Heap) (e it : Addr) (i : Nat) : Prop := (∃ old, IsEnum h e it i old) ∨ ∃ T o f old, IsEnumG h e it i T f old ∧ (h.get? T = some o ∧ o.cls = .type "tuple") ∧ T ≠ e ∧ T ≠ it
theorem EnSt.at {h h' : Heap} {e it : Addr} {i : Nat} (x : EnSt h e it i) (k : ∀ b o, (b = e ∨ o.cls = .type "tuple") → h.get? b = some o → h'.get? b = some o) : EnSt h' e it i := by
  rcases x with ⟨old, he⟩ | ⟨T, o, f, old, he, ⟨hT, hc⟩, h1, h2⟩
  · exact .inl ⟨old, k e _ (.inl rfl) he⟩
  · exact .inr ⟨T, o, f, old, k e _ (.inl rfl) he, ⟨k T o (.inr hc) hT, hc⟩, h1, h2⟩
theorem enst_item {e it l : Addr} {b : Bool} {items : Array Value} {i : Nat} {Q : Option Value → Shared → Prop} (hh : A.handled = none) (hs : EnSt s.heap e it i) (hit : ItSt b s.heap it l i) (hl : SqSt b s.heap l items) (hlt : i < items.size) (hne : e ≠ it) (hle : l ≠ e) (hli : l ≠ it)
    (hQ : ∀ x h' tk, items[i]? = some x → EnSt h' e it (i + 1) → ItSt b h' it l (i + 1) →
      h'.get? s.heap.objs.size = some { cls := .type "tuple", data := .seq #[.int i tk, x] } → h'.objs.size = s.heap.objs.size + 1 →
      (∀ b o, b ≠ e → b ≠ it → s.heap.get? b = some o → h'.get? b = some o) → Q (some (.ref s.heap.objs.size)) { s with heap := h', toks := tk + 1 }) :
    wpAny (model prog w) A (pyNext (.ref e)) Q E s := by
  have hil : it < s.heap.objs.size := by obtain ⟨o, z, _⟩ := hit.obj; exact Heap.lt_size z
  rcases hs with ⟨old, he⟩ | ⟨T, o, f, old, he, ⟨hT, hcl⟩, h1, h2⟩
  · have hel : e < s.heap.objs.size := Heap.lt_size he
    refine wpAny_pyNext_enum_itemD (drawsSeq b (A := A.in1) hh it l hli items) he ⟨hit, hl⟩ hlt hne (by simp [hne, Ne.symm hle]) fun x h' tk hx ho hst ht hz hk => ?_
    exact hQ x h' tk hx (.inr ⟨_, _, false, x, by simpa using ho, ⟨ht, rfl⟩, Nat.ne_of_gt hel, Nat.ne_of_gt hil⟩) hst.1 ht hz hk
  · have hTy : s.TypeIs (.ref e) "enumerate" := ⟨_, he, rfl⟩
    unfold pyNext
    refine wpAny_bind (wpAny_attempt (wpAny_callSpecial?_slot (name := Str.ofString "__next__") hTy PySem.F.slot_enumerate_next
      (wpAny_call_entry PySem.F.slot_enumerate_next hTy PySem.F.entry_enumerate_next
        (enum_next_out (drawsSeq b (A := A.in1) hh it l hli items) he hT h1 h2 ⟨hit, hl⟩ hlt hne (by simp [hne, Ne.symm hle]) fun x h' tk hx ho hst ht hz hk => wpAny_pure ?_) (PySem.F.args_enumerate_next_1 _))))
    exact hQ x h' tk hx (.inr ⟨T, o, true, old, by simpa using ho, ⟨hk T o h1 h2 hT, hcl⟩, h1, h2⟩) hst.1 ht hz hk
theorem enst_end {e it l : Addr} {b : Bool} {items : Array Value} {Q : Option Value → Shared → Prop} (hh : A.handled = none) (hs : EnSt s.heap e it items.size) (hit : ItSt b s.heap it l items.size) (hl : SqSt b s.heap l items) (hli : l ≠ it)
    (hQ : ∀ h', Heap.ExtBut it s.heap h' → Q none { s with heap := h' }) : wpAny (model prog w) A (pyNext (.ref e)) Q E s := by
  have hT : s.TypeIs (.ref e) "enumerate" := by
    rcases hs with ⟨old, he⟩ | ⟨T, o, f, old, he, _⟩
    · exact ⟨_, he, rfl⟩
    · exact ⟨_, he, rfl⟩
  unfold pyNext
  refine wpAny_bind (wpAny_attempt (wpAny_callSpecial?_slot (name := Str.ofString "__next__") hT PySem.F.slot_enumerate_next
    (wpAny_call_entry PySem.F.slot_enumerate_next hT PySem.F.entry_enumerate_next ?_ (PySem.F.args_enumerate_next_1 _))))
  have D := drawsSeq (prog := prog) (w := w) b (A := A.in1) hh it l hli items
  show wpAny _ _ (field (.ref e) 2 >>= _) _ _ _
  have fin : wpAny (model prog w) A.in1 (Builtin.SmallTypes.nextOf (.ref it)) (fun _ _ => False) (fun x s' => ∃ h', Heap.ExtBut it s.heap h' ∧ s' = { s with heap := h' } ∧ ∃ e, x = .ref e ∧ ∃ o, h'.get? e = some o ∧ o.cls = .type "StopIteration") s :=
    D.done _ _ _ ⟨hit, hl⟩ fun h' x he' hx' => ⟨h', he', rfl, x, rfl, hx'⟩
  rcases hs with ⟨old, he⟩ | ⟨T, o, f, old, he, _⟩
  · refine wpAny_bind (wpAny_field he rfl (x := .ref it) rfl ?_)
    refine wpAny_bind (D.done _ _ _ ⟨hit, hl⟩ fun h' x he' hx' => ?_)
    obtain ⟨o, ho, hc⟩ := hx'
    refine wpAny_bind (wpAny_isInstance (T := "StopIteration") (b := true) ⟨o, ho, hc⟩ isSubtype_stop ?_)
    exact wpAny_pure (hQ _ he')
  · refine wpAny_bind (wpAny_field he rfl (x := .ref it) rfl ?_)
    refine wpAny_bind (D.done _ _ _ ⟨hit, hl⟩ fun h' x he' hx' => ?_)
    obtain ⟨o, ho, hc⟩ := hx'
    refine wpAny_bind (wpAny_isInstance (T := "StopIteration") (b := true) ⟨o, ho, hc⟩ isSubtype_stop ?_)
    exact wpAny_pure (hQ _ he')
structure Tups (h : Heap) (S e it : Addr) (items acc : Array Value) (i : Nat) : Prop where
  sz : acc.size = i
  at_ : ∀ (j : Nat) v, acc[j]? = some v → ∃ T tk x, v = .ref T ∧ items[j]? = some x ∧ h.get? T = some { cls := .type "tuple", data := .seq #[.int j tk, x] } ∧ S < T ∧ T ≠ e ∧ T ≠ it
theorem Tups.keep {h h' : Heap} {S e it : Addr} {items acc : Array Value} {i : Nat} (x : Tups h S e it items acc i) (k : ∀ b o, b ≠ S → b ≠ e → b ≠ it → h.get? b = some o → h'.get? b = some o) : Tups h' S e it items acc i :=
  ⟨x.sz, fun j v hv => by
    obtain ⟨T, tk, y, h1, h2, h3, h4, h5, h6⟩ := x.at_ j v hv
    exact ⟨T, tk, y, h1, h2, k T _ (Nat.ne_of_gt h4) h5 h6 h3, h4, h5, h6⟩⟩
theorem en_loop {e it l S : Addr} {b : Bool} {items : Array Value} {R : Result → Shared → Prop} (hh : A.handled = none) (hn : items.size ≤ sizeLine) (hne : e ≠ it) (hle : l ≠ e) (hli : l ≠ it) (hSe : S ≠ e) (hSi : S ≠ it) (hSl : S ≠ l) (res : Value) :
    ∀ (k i : Nat) (s : Shared) (acc : Array Value) (c : Nat), items.size - i = k → i ≤ items.size → EnSt s.heap e it i → ItSt b s.heap it l i → SqSt b s.heap l items → s.heap.get? S = some { cls := .type "list", dict := none, data := .seq acc c, slots := #[] } → Tups s.heap S e it items acc i →
    (∀ h' tk acc' c', (∀ b o, b ≠ S → b ≠ e → b ≠ it → s.heap.get? b = some o → h'.get? b = some o) → h'.get? S = some { cls := .type "list", dict := none, data := .seq acc' c', slots := #[] } → Tups h' S e it items acc' items.size → R (.ok (.ret res)) { s with heap := h', toks := tk }) →
    codeAny (model prog w) A (.builtin "list.extend.loop" ⟨[.ref S, .ref e, res], []⟩) R s := by
  intro k
  induction k with
  | zero =>
    intro i s acc c hk hi hst hit hl hS ht hR
    have hin : i = items.size := by omega
    subst hin
    refine codeAny_builtin F.entry_extend_loop ?_
    rw [Around.under_plainId F.plain_extend_loop _]
    show wpAny _ A.in1 (pyNext (.ref e) >>= _) _ _ s
    refine wpAny_bind (enst_end hh hst hit hl hli fun h' eb => ?_)
    exact wpAny_pure (hR h' s.toks acc c (fun b o _ _ h3 z => eb b o h3 z) (eb S _ hSi hS) (ht.keep fun b o _ _ h3 z => eb b o h3 z))
  | succ k ih =>
    intro i s acc c hk hi hst hit hl hS ht hR
    have hlt : i < items.size := by omega
    have hSlt : S < s.heap.objs.size := Heap.lt_size hS
    have hel : e < s.heap.objs.size := by
      rcases hst with ⟨old, he⟩ | ⟨T, o, f, old, he, _⟩
      · exact Heap.lt_size he
      · exact Heap.lt_size he
    have hil : it < s.heap.objs.size := by obtain ⟨o, z, _⟩ := hit.obj; exact Heap.lt_size z
    refine codeAny_builtin F.entry_extend_loop ?_
    rw [Around.under_plainId F.plain_extend_loop _]
    show wpAny _ A.in1 (pyNext (.ref e) >>= _) _ _ s
    refine wpAny_bind (enst_item hh hst hit hl hlt hne hle hli fun x h' tk hx hst' hit' hT hz hkp => ?_)
    have hS' := hkp S _ hSe hSi hS
    show wpAny _ A.in1 (updateSeq S (·.push (.ref s.heap.objs.size)) >>= _) _ _ _
    refine wpAny_bind ?_
    have oth : ∀ b, b ≠ S → (h'.update S (Obj.mapSeq (·.push (Value.ref s.heap.objs.size)))).get? b = h'.get? b := fun b hb => Heap.get?_update_other _ _ (Ne.symm hb)
    have hTS : s.heap.objs.size ≠ S := Nat.ne_of_gt hSlt
    refine wpAny_updateSeq hS' rfl (wpAny_pure ⟨plainId_quiet F.plain_extend_loop _, ih (i + 1) _ (acc.push (.ref s.heap.objs.size)) _ (by omega) hlt ?_ ?_ ?_ (Heap.get?_update_self _ hS' rfl) ⟨by rw [Array.size_push, ht.sz], fun j v hv => ?_⟩ fun h'' tk' acc' c' hk'' hS'' ht'' => ?_⟩)
      (by rw [ht.sz]; omega) (by show (acc.push _).size ≤ sizeLine + 1; rw [Array.size_push, ht.sz]; omega)
    · refine hst'.at fun b o hb z => ?_
      rcases hb with rfl | hc
      · exact (oth _ (Ne.symm hSe)).trans z
      · refine (oth b fun q => ?_).trans z
        subst q
        rw [hS'] at z; cases z; simp at hc
    · exact hit'.at fun o z => (oth it (Ne.symm hSi)).trans z
    · exact (hl.at fun o z => hkp l o hle hli z).at fun o z => (oth l (Ne.symm hSl)).trans z
    · rw [Array.getElem?_push] at hv
      split at hv
      · rename_i ej
        cases hv
        rw [ht.sz] at ej
        subst ej
        exact ⟨_, tk, x, rfl, hx, (oth _ hTS).trans hT, hSlt, Nat.ne_of_gt hel, Nat.ne_of_gt hil⟩
      · obtain ⟨T, tk2, y, h1, h2, h3, h4, h5, h6⟩ := ht.at_ j v hv
        exact ⟨T, tk2, y, h1, h2, (oth T (Nat.ne_of_gt h4)).trans (hkp T _ h5 h6 h3), h4, h5, h6⟩
    · exact hR h'' tk' acc' c' (fun b o h1 h2 h3 z => hk'' b o h1 h2 h3 ((oth b h1).trans (hkp b o h2 h3 z))) hS'' ht''
theorem lk_len : typeLookup (.type "enumerate") "__len__" = pure none := by rw [typeLookup_type, builtinLookup_eq_fast]; kernel_rfl
theorem lk_hint : typeLookup (.type "enumerate") "__length_hint__" = pure none := by rw [typeLookup_type, builtinLookup_eq_fast]; kernel_rfl
theorem hint_enum {e : Addr} {Q : Bool → Shared → Prop} (hT : s.TypeIs (.ref e) "enumerate") (h : Q true s) : wpAny (model prog w) A (Builtin.List.listLengthHint (.ref e)) Q E s := by
  unfold Builtin.List.listLengthHint
  refine wpAny_bind (wpAny_specialOf hT lk_len ?_)
  wp_delta
  refine wpAny_ite_split (fun hab => absurd hab (by decide)) (fun _ => ?_)
  refine wpAny_ite_split (fun hab => absurd hab (by decide)) (fun _ => ?_)
  refine wpAny_bind (wpAny_specialOf hT lk_hint ?_)
  exact wpAny_pure h
theorem en_extend {R : Result → Shared → Prop} {e it l S : Addr} {b : Bool} {items : Array Value} (hh : A.handled = none) (hn : items.size ≤ sizeLine) (he : IsEnum s.heap e it 0 .none) (hit : ItSt b s.heap it l 0) (hl : SqSt b s.heap l items) (hne : e ≠ it) (hle : l ≠ e) (hli : l ≠ it) (hSe : S ≠ e) (hSi : S ≠ it) (hSl : S ≠ l) (res : Value) (c₀ : Nat) (hS : s.heap.get? S = some { cls := .type "list", data := .seq #[] c₀ })
    (hR : ∀ h' tk acc' c', (∀ b o, b ≠ S → b ≠ e → b ≠ it → s.heap.get? b = some o → h'.get? b = some o) → h'.get? S = some { cls := .type "list", dict := none, data := .seq acc' c', slots := #[] } → Tups h' S e it items acc' items.size → R (.ok (.ret res)) { s with heap := h', toks := tk }) :
    wpAny (model prog w) A.in1 (Builtin.List.listExtendWith (.ref S) (.ref e) res)
      (fun fin s' => match fin with | .done f => R (.ok f) s' | .again c' => c'.quiet = true ∧ codeAny (model prog w) A c' R s') (fun e s' => R (.error e) s') s := by
  have hT : s.TypeIs (.ref e) "enumerate" := ⟨_, he, rfl⟩
  unfold Builtin.List.listExtendWith
  refine wpAny_bind (wpAny_typeOf (T := "enumerate") hT ?_)
  have h1 : Builtin.List.listSameRef (.ref S) (.ref e) = false := by simp [Builtin.List.listSameRef, hSe]
  have h2 : (Value.type "enumerate" == Value.type "list") = false := by decide
  have h3 : (Value.type "enumerate" == Value.type "tuple") = false := by decide
  simp only [h1, h2, h3, Bool.or_false, Bool.false_eq_true, if_false]
  refine wpAny_bind (wpAny_pyIter_enum he ?_)
  refine wpAny_bind (wpAny_holding (hint_enum hT ?_))
  refine wpAny_ite_split (fun _ => ?_) (fun hab => absurd (by simp) hab)
  refine wpAny_bind (wpAny_rule ?_)
  refine wpAny_bind ?_
  show wpAny _ _ (updateSeq S (·.push .none) >>= fun _ => updateSeq S (·.pop)) _ _ _
  refine wpAny_bind (wpAny_updateSeq hS rfl ?_)
  have hS₂ := Heap.get?_update_self (Obj.mapSeq (·.push Value.none)) hS rfl
  refine wpAny_updateSeq (hz := by seq_fits) hS₂ rfl ?_
  have hS₃ := Heap.get?_update_self (Obj.mapSeq (·.pop)) hS₂ rfl
  have oth : ∀ b o, b ≠ S → s.heap.get? b = some o → ((s.heap.update S (Obj.mapSeq (·.push Value.none))).update S (Obj.mapSeq (·.pop))).get? b = some o := fun b o hb z => (Heap.get?_update_other _ _ (Ne.symm hb)).trans ((Heap.get?_update_other _ _ (Ne.symm hb)).trans z)
  refine wpAny_pure ⟨plainId_quiet F.plain_extend_loop _, ?_⟩
  refine en_loop hh hn hne hle hli hSe hSi hSl res items.size 0 _ #[] _ (by omega) (Nat.zero_le _) (.inl ⟨_, oth e _ (Ne.symm hSe) he⟩) (hit.at fun o z => oth it o (Ne.symm hSi) z) (hl.at fun o z => oth l o (Ne.symm hSl) z) hS₃ ⟨rfl, fun j v hv => by simp at hv⟩ fun h' tk acc' c' hk hS' ht => ?_
  exact hR h' tk acc' c' (fun b o h1 h2 h3 z => hk b o h1 h2 h3 (oth b o h1 z)) hS' ht
theorem en_init {R : Result → Shared → Prop} {e it l S : Addr} {b : Bool} {items : Array Value} (hh : A.handled = none) (hn : items.size ≤ sizeLine) (he : IsEnum s.heap e it 0 .none) (hit : ItSt b s.heap it l 0) (hl : SqSt b s.heap l items) (hne : e ≠ it) (hle : l ≠ e) (hli : l ≠ it) (hSe : S ≠ e) (hSi : S ≠ it) (hSl : S ≠ l) (hS : s.heap.get? S = some { cls := .type "list", data := .seq #[] })
    (hR : ∀ h' tk acc' c', (∀ b o, b ≠ S → b ≠ e → b ≠ it → s.heap.get? b = some o → h'.get? b = some o) → h'.get? S = some { cls := .type "list", dict := none, data := .seq acc' c', slots := #[] } → Tups h' S e it items acc' items.size → R (.ok (.ret .none)) { s with heap := h', toks := tk }) :
    wpAny (model prog w) A.in1 (Builtin.«list.__init__» ⟨[.ref S, .ref e], []⟩)
      (fun fin s' => match fin with | .done f => R (.ok f) s' | .again c' => c'.quiet = true ∧ codeAny (model prog w) A c' R s') (fun e s' => R (.error e) s') s := by
  show wpAny _ _ (do let old ← Builtin.List.listItems (.ref S); Builtin.List.listUpdate (.ref S) (fun _ => #[]); letGo old.toList.reverse; Builtin.List.listExtendWith (.ref S) (.ref e) .none) _ _ s
  refine wpAny_bind ?_
  unfold Builtin.List.listItems
  refine wpAny_bind (wpAny_seqItems hS rfl (wpAny_pure ?_))
  show wpAny _ _ (updateSeq S (fun _ => #[]) >>= fun _ => letGo (#[] : Array Value).toList.reverse >>= fun _ => Builtin.List.listExtendWith (.ref S) (.ref e) .none) _ _ s
  refine wpAny_bind (wpAny_updateSeq hS rfl ?_)
  have hS₂ := Heap.get?_update_self (Obj.mapSeq (fun _ => (#[] : Array Value))) hS rfl
  have oth : ∀ b o, b ≠ S → s.heap.get? b = some o → (s.heap.update S (Obj.mapSeq (fun _ => (#[] : Array Value)))).get? b = some o :=
    fun b o hb e => (Heap.get?_update_other _ _ (Ne.symm hb)).trans e
  refine wpAny_bind (wpAny_letGo ?_)
  refine en_extend hh hn (oth e _ (Ne.symm hSe) he) (hit.at fun o z => oth it o (Ne.symm hSi) z) (hl.at fun o z => oth l o (Ne.symm hSl) z) hne hle hli hSe hSi hSl .none _ hS₂ fun h' tk acc' c' hk hS' hacc => ?_
  exact hR h' tk acc' c' (fun b o h1 h2 h3 e => hk b o h1 h2 h3 (oth b o h1 e)) hS' hacc
theorem call_list_enum {Q : Value → Shared → Prop} {e it l : Addr} {b : Bool} {items : Array Value} (hh : A.handled = none) (hn : items.size ≤ sizeLine) (he : IsEnum s.heap e it 0 .none) (hit : ItSt b s.heap it l 0) (hl : SqSt b s.heap l items) (hne : e ≠ it) (hle : l ≠ e) (hli : l ≠ it)
    (hQ : ∀ h' tk acc' c', (∀ b o, b ≠ e → b ≠ it → s.heap.get? b = some o → h'.get? b = some o) →
      h'.get? s.heap.objs.size = some { cls := .type "list", dict := none, data := .seq acc' c', slots := #[] } → Tups h' s.heap.objs.size e it items acc' items.size → Q (.ref s.heap.objs.size) { s with heap := h', toks := tk }) :
    wpAny (model prog w) A (call (.type "list") [.ref e]) Q E s := by
  have lt : ∀ {a o}, s.heap.get? a = some o → s.heap.objs.size ≠ a := fun z => Nat.ne_of_gt (Heap.lt_size z)
  have hll : s.heap.objs.size ≠ l := by
    cases b
    · obtain ⟨o, z, _⟩ := (show s.heap.IsTuple l items from hl); exact lt z
    · obtain ⟨o, z, _⟩ := (show s.heap.IsList l items from hl); exact lt z
  have hil : s.heap.objs.size ≠ it := by obtain ⟨o, z, _⟩ := hit.obj; exact lt z
  refine callType_codes (Q₁ := fun obj s₁ => obj = .ref s.heap.objs.size ∧ s₁ = { s with heap := s.heap.push { cls := .type "list", data := .seq #[] } }) F.called_list (F.typeCall_list_1 _) F.entry_list_init
    (code_list_new _ ⟨rfl, rfl⟩) fun obj s₁ h₁ => ?_
  obtain ⟨rfl, rfl⟩ := h₁
  have hS : (s.heap.push { cls := .type "list", data := .seq #[] }).get? s.heap.objs.size = some { cls := .type "list", data := .seq #[] } := Heap.get?_push_size _ rfl
  refine ⟨⟨_, hS, rfl⟩, F.args_list_init_2 _ _, en_init (A := A.in1) hh hn (Heap.get?_push_of_some _ he) (hit.at fun o z => Heap.get?_push_of_some _ z) (hl.at fun o z => Heap.get?_push_of_some _ z) hne hle hli (lt he) hil hll hS fun h' tk acc' c' hk hS' hacc => ?_⟩
  exact ⟨rfl, hQ h' tk acc' c' (fun b o h1 h2 e => hk b o (Ne.symm (lt e)) h1 h2 (Heap.get?_push_of_some _ e)) hS' hacc⟩
end
section
variable {X : Cx} {K : PySem.W.Frag} {p p2 pos pos2 : Pos}
noncomputable def phE (n0 e it a : Nat) : Heap → Prop := fun h => IsEnum h e it 0 .none ∧ n0 ≤ e ∧ n0 ≤ it ∧ e ≠ it ∧ a ≠ e ∧ a ≠ it
noncomputable def phI (b : Bool) (it a : Addr) : Heap → Prop := fun h => ItSt b h it a 0
noncomputable def tEn (n0 : Nat) (K : PySem.W.Frag) (tl : TA) : TE := fun σ H Q => tl σ H fun xs H1 => ∃ a, xs = [.ref a] ∧ ∃ b ys, SqA b K H1 a ys ∧ ∀ it e, H1 it = none → H1 e = none → it ≠ e → Q (.ref e) (upd (upd H1 it (.ext (phI b it a))) e (.ext (phE n0 e it a)))
theorem pe_enum {l : Expr} {tl : TA} (hK : X.K = K) (hg : Gl X "enumerate") (hm : X.mg "enumerate" = none) (ha : PA X [l] tl) (hs : starEach [l] X.env = [(false, eval l X.env)] := by rfl) : PE X (.Call (.Name "enumerate" p) [l] [] pos) (tEn X.s₀.heap.objs.size K tl) := by
  subst hK
  intro pins s σ H R I h
  refine Call_ (ld_blt I hg hm boot_enumerate (PyProof.Rows.callWith_type1 (thn (ha pos pins s σ H _ I h) fun us s1 ⟨vs, H1, I1, r1, q1⟩ => ?_) hs rfl))
  obtain ⟨a, e, b, ys, hq, q⟩ := q1
  subst e
  cases r1 with
  | cons r rr =>
    cases rr
    cases r
    obtain ⟨its, rv, p⟩ := SqA.get I1 hq
    refine call_enum p fun h' he hit hz hk => ?_
    have hal : a < s1.heap.objs.size := by
      cases b
      · obtain ⟨o, z, _⟩ := (show s1.heap.IsTuple a its.toArray from p); exact Heap.lt_size z
      · obtain ⟨o, z, _⟩ := (show s1.heap.IsList a its.toArray from p); exact Heap.lt_size z
    have n0 : H1 s1.heap.objs.size = none := I1.hok.fresh (Nat.le_refl _)
    have n1 : H1 (s1.heap.objs.size + 1) = none := I1.hok.fresh (Nat.le_succ _)
    refine ⟨.ref (s1.heap.objs.size + 1), _, ?_, rfl, q s1.heap.objs.size (s1.heap.objs.size + 1) n0 n1 (Nat.ne_of_lt (Nat.lt_succ_self _))⟩
    have hne : s1.heap.objs.size + 1 ≠ s1.heap.objs.size := Nat.succ_ne_self _
    have sm : ∀ c o, H1 c = some o → upd (upd H1 s1.heap.objs.size (.ext (phI b s1.heap.objs.size a))) (s1.heap.objs.size + 1) (.ext (phE X.s₀.heap.objs.size (s1.heap.objs.size + 1) s1.heap.objs.size a)) c = some o := fun c o z => by
      rw [upd_ne (ne_of_none z n1), upd_ne (ne_of_none z n0)]; exact z
    refine I1.un (t' := s1.toks) ⟨fun b u q _ _ _ => hk b u q, fun b u q _ _ _ => ⟨u.slots, hk b u q⟩, fun b u q n _ => ?_, fun b u q _ => ⟨u, hk b u q⟩, fun b xs q => sm _ _ q, fun b u xs q => sm _ _ q, fun b ps q => ⟨#[], by rw [sm _ _ q]; simp⟩⟩ fun c u ec => ?_
    · have hb := Heap.lt_size q
      rw [upd_ne (Nat.ne_of_lt (Nat.lt_succ_of_lt hb)), upd_ne (Nat.ne_of_lt hb)]; exact n
    · by_cases c1 : c = s1.heap.objs.size + 1
      · subst c1
        rw [upd_same] at ec; cases ec
        refine ⟨⟨he, Nat.le_succ_of_le I1.sz, I1.sz, hne, Nat.ne_of_lt (Nat.lt_succ_of_lt hal), Nat.ne_of_lt hal⟩, ⟨_, he⟩, fun h1 h2 z k => ⟨k _ z.1, z.2⟩⟩
      · rw [upd_ne c1] at ec
        by_cases c2 : c = s1.heap.objs.size
        · subst c2
          rw [upd_same] at ec; cases ec
          exact ⟨hit, let ⟨o, z, _⟩ := hit.obj; ⟨o, z⟩, fun h1 h2 z k => ItSt.at (show ItSt b h1 _ a 0 from z) k⟩
        · rw [upd_ne c2] at ec
          exact (I1.hok c u ec).stay (fun d v _ z => hk d v z) (fun d z => sm d _ z) fun d xs z => sm d _ z
noncomputable def enH (H : Hp) (S e it : Addr) (acc : Array Value) (ts : List Addr) (ys : List V) : Hp := fun b =>
  open Classical in
  if b = e ∨ b = it then none else if b = S then some (.lst (ts.map V.ref)) else if h : ∃ j : Nat, ts[j]? = some b then some (.tup [.int (h.choose : Nat), ys.getD h.choose .non]) else H b
noncomputable def rLEn (n0 : Nat) (K : PySem.W.Frag) : List V → Hp → VK → Prop := fun xs H Q => ∃ e it a b ys, xs = [.ref e] ∧ H e = some (.ext (phE n0 e it a)) ∧ H it = some (.ext (phI b it a)) ∧ SqA b K H a ys ∧ ys.length ≤ 1000 ∧
  ∀ H' l (ts : List Addr), H l = none → ts.length = ys.length → (∀ (j : Nat) t, ts[j]? = some t → H t = none ∧ ∃ y, ys[j]? = some y ∧ H' t = some (.tup [.int (j : Nat), y])) → H' l = some (.lst (ts.map V.ref)) →
    (∀ c o, c ≠ e → c ≠ it → H c = some o → H' c = some o) → Q (.ref l) H'
theorem vals_len {xs : List V} {us : List Value} (h : Vals xs us) : us.length = xs.length := by
  induction h with
  | nil => rfl
  | cons _ _ ih => simp [ih]
theorem vals_refs : ∀ ts : List Addr, Vals (ts.map V.ref) (ts.map Value.ref)
  | [] => .nil
  | _ :: r => .cons rfl (vals_refs r)
theorem call_list_en (hK : X.K = K) (hc : X.calm = true) : CallR X (.type "list") (rLEn X.s₀.heap.objs.size K) := by
  subst hK
  intro pins s σ H xs us Q I r h
  obtain ⟨e, it, a, b, ys, rfl, he, hi, hq, hz, q⟩ := h
  obtain ⟨u, rfl, ru⟩ := vals1 r
  cases ru
  obtain ⟨⟨pe, p1, p2, n1, n2, n3⟩, _, _⟩ := I.hok e _ he
  obtain ⟨pi, _, _⟩ := I.hok it _ hi
  obtain ⟨its, rv, pq⟩ := SqA.get I hq
  have hlen : its.length = ys.length := vals_len rv
  refine call_list_enum (I.ok.hd hc) (by rw [List.size_toArray, hlen]; exact Nat.le_of_lt (small1000 hz)) pe pi pq n1 n2 n3 fun h' tk acc c' hk hS ht => ?_
  obtain ⟨ts, hts, hacc⟩ : ∃ ts : List Addr, acc.toList = ts.map Value.ref ∧ ts.length = ys.length := by
    have all : ∀ l : List Value, (∀ v ∈ l, ∃ T, v = .ref T) → ∃ ts : List Addr, l = ts.map Value.ref := by
      intro l
      induction l with
      | nil => intro _; exact ⟨[], rfl⟩
      | cons v r ih =>
        intro hv
        obtain ⟨T, rfl⟩ := hv v (by simp)
        obtain ⟨ts, rfl⟩ := ih fun w hw => hv w (by simp [hw])
        exact ⟨T :: ts, rfl⟩
    obtain ⟨ts, e1⟩ := all acc.toList fun v hv => by
      obtain ⟨j, hj⟩ := List.getElem?_of_mem hv
      obtain ⟨T, _, _, rfl, _⟩ := ht.at_ j v (by rw [← Array.getElem?_toList]; exact hj)
      exact ⟨T, rfl⟩
    refine ⟨ts, e1, ?_⟩
    have : acc.toList.length = ts.length := by rw [e1, List.length_map]
    rw [← this, Array.length_toList, ht.sz, List.size_toArray, hlen]
  have at_ : ∀ (j : Nat) T, ts[j]? = some T → ∃ tk x y, its[j]? = some x ∧ ys[j]? = some y ∧ RelV y x ∧ h'.get? T = some { cls := .type "tuple", data := .seq #[.int j tk, x] } ∧ s.heap.objs.size < T ∧ T ≠ e ∧ T ≠ it := fun j T hj => by
    obtain ⟨T', tk, x, e1, e2, e3, e4, e5, e6⟩ := ht.at_ j (.ref T) (by rw [← Array.getElem?_toList, hts, List.getElem?_map, hj]; rfl)
    cases e1
    have e2 : its[j]? = some x := by simpa using e2
    have hjl : j < ys.length := by rw [← hlen]; exact (List.getElem?_eq_some_iff.mp e2).1
    obtain ⟨u, hu, ru⟩ := rv.get (List.getElem?_eq_getElem hjl)
    rw [e2] at hu; cases hu
    exact ⟨tk, x, _, e2, List.getElem?_eq_getElem hjl, ru, e3, e4, e5, e6⟩
  have uni : ∀ (i j : Nat) T, ts[i]? = some T → ts[j]? = some T → i = j := fun i j T hi hj => by
    obtain ⟨_, _, _, _, _, _, z1, _⟩ := at_ i T hi
    obtain ⟨_, _, _, _, _, _, z2, _⟩ := at_ j T hj
    rw [z1] at z2
    simp at z2
    omega
  have nS : H s.heap.objs.size = none := I.hok.fresh (Nat.le_refl _)
  have hel : e < s.heap.objs.size := I.hok.lt he
  have hil : it < s.heap.objs.size := I.hok.lt hi
  have low : ∀ c, c < s.heap.objs.size → c ≠ e → c ≠ it → enH H s.heap.objs.size e it acc ts ys c = H c := fun c hc h1 h2 => by
    have hn : ¬ ∃ j : Nat, ts[j]? = some c := fun ⟨j, hj⟩ => by
      obtain ⟨_, _, _, _, _, _, _, z, _⟩ := at_ j c hj
      exact absurd (Nat.lt_trans hc z) (Nat.lt_irrefl _)
    unfold enH
    rw [if_neg (by simp [h1, h2]), if_neg (Nat.ne_of_lt hc), dif_neg hn]
  have hold : ∀ c o, c ≠ e → c ≠ it → H c = some o → enH H s.heap.objs.size e it acc ts ys c = some o := fun c o h1 h2 z => by rw [low c (I.hok.lt z) h1 h2]; exact z
  have topv : ∀ (j : Nat) T, ts[j]? = some T → ∃ y, ys[j]? = some y ∧ enH H s.heap.objs.size e it acc ts ys T = some (.tup [.int (j : Nat), y]) := fun j T hj => by
    obtain ⟨_, _, y, _, hy, _, _, z, z1, z2⟩ := at_ j T hj
    refine ⟨y, hy, ?_⟩
    have ex : ∃ j : Nat, ts[j]? = some T := ⟨j, hj⟩
    unfold enH
    rw [if_neg (by simp [z1, z2]), if_neg (Nat.ne_of_gt z), dif_pos ex]
    have : ex.choose = j := uni _ _ T ex.choose_spec hj
    rw [this]
    simp [hy]
  have eS : enH H s.heap.objs.size e it acc ts ys s.heap.objs.size = some (.lst (ts.map V.ref)) := by
    unfold enH
    rw [if_neg (by simp [Nat.ne_of_gt hel, Nat.ne_of_gt hil]), if_pos rfl]
  have ntr : ∀ c, H c = none → c ≠ e ∧ c ≠ it := fun c z => ⟨fun w => (by rw [w, he] at z; cases z), fun w => (by rw [w, hi] at z; cases z)⟩
  have npl : ∀ c o, H c = some o → (∀ φ, o ≠ .ext φ) → c ≠ e ∧ c ≠ it := fun c o z w => ⟨fun x => (by rw [x, he] at z; cases z; exact w _ rfl), fun x => (by rw [x, hi] at z; cases z; exact w _ rfl)⟩
  have cin : ∀ c, c ∉ [e, it] → c ≠ e ∧ c ≠ it := fun c z => ⟨fun w => z (by simp [w]), fun w => z (by simp [w])⟩
  have I1 : Inv X pins σ (enH H s.heap.objs.size e it acc ts ys) { s with heap := h', toks := tk } := by
    refine I.step (g' := s.gens) (d' := s.drawn) (ch := [e, it]) (fun c hc => ?_) (fun c o _ _ hc z _ => hk c o (cin c hc).1 (cin c hc).2 z) (fun c o _ _ hc z _ => ⟨o.slots, hk c o (cin c hc).1 (cin c hc).2 z⟩)
      (fun c o hc z n => by rw [low c (Heap.lt_size z) (cin c hc).1 (cin c hc).2]; exact n) (fun c o hc z => ⟨o, hk c o (cin c hc).1 (cin c hc).2 z⟩)
      (fun c xs z => let w := npl c _ z (fun _ y => by cases y); hold c _ w.1 w.2 z) (fun c o u z => let w := npl c _ z (fun _ y => by cases y); hold c _ w.1 w.2 z)
      (fun c ps z => let w := npl c _ z (fun _ y => by cases y); ⟨#[], by rw [hold c _ w.1 w.2 z]; simp⟩) (fun m hm => ?_) (fun c u ec => ?_) I.bare
    · have hs : ∃ φ, H c = some (.ext φ) := by
        rcases List.mem_cons.mp hc with rfl | hc
        · exact ⟨_, he⟩
        · rw [List.mem_singleton.mp hc]; exact ⟨_, hi⟩
      obtain ⟨φ, hs⟩ := hs
      refine ⟨.inr ?_, fun z => ?_, fun x d z w => ?_, fun pp hp w => ?_⟩
      · rcases List.mem_cons.mp hc with rfl | hc
        · exact p1
        · rw [List.mem_singleton.mp hc]; exact p2
      · rw [z, I.free] at hs; cases hs
      · rw [← w, I.freeC x d z] at hs; cases hs
      · rw [← w, (I.pin pp hp).2.1] at hs; cases hs
    · obtain ⟨o, es, ep, ho, r⟩ := hm
      have w := ntr _ I.free
      exact ⟨o, es, ep, hk _ o w.1 w.2 ho, r⟩
    · by_cases c0 : c = e ∨ c = it
      · unfold enH at ec; rw [if_pos c0] at ec; cases ec
      have c1 : c ≠ e := fun z => c0 (.inl z)
      have c2 : c ≠ it := fun z => c0 (.inr z)
      by_cases c3 : c = s.heap.objs.size
      · subst c3
        rw [eS] at ec; cases ec
        refine ⟨by rw [List.length_map, hacc]; exact Nat.le_of_lt (small1000 hz), acc.toList, c', ?_, by rw [hS]⟩
        rw [hts]
        exact vals_refs ts
      · by_cases ex : ∃ j : Nat, ts[j]? = some c
        · obtain ⟨j, hj⟩ := ex
          obtain ⟨y, hy, e2⟩ := topv j c hj
          obtain ⟨tk, x, y', hx, hy', ry, z, _⟩ := at_ j c hj
          rw [hy] at hy'; cases hy'
          rw [e2] at ec; cases ec
          exact ⟨Nat.le_trans (show 2 ≤ 10000 by decide) (by rw [sizeLine_eq]; decide), [.int j tk, x], .cons ⟨tk, rfl⟩ (.cons ry .nil), ⟨_, z, rfl, _, rfl⟩, .mk z rfl⟩
        · have ec' : H c = some u := by
            unfold enH at ec
            rwa [if_neg c0, if_neg c3, dif_neg ex] at ec
          refine (I.hok c u ec').stay (fun d v hd z => ?_) (fun d z => let w := npl d _ z (fun _ y => by cases y); hold d _ w.1 w.2 z) fun d xs z => let w := npl d _ z (fun _ y => by cases y); hold d _ w.1 w.2 z
          rcases hd with rfl | hd
          · exact hk _ v c1 c2 z
          · have w := npl d _ hd (fun _ y => by cases y)
            exact hk d v w.1 w.2 z
  refine ⟨.ref s.heap.objs.size, _, I1, rfl, q _ _ ts nS hacc (fun j T hj => ?_) eS hold⟩
  obtain ⟨y, hy, e2⟩ := topv j T hj
  obtain ⟨_, _, _, _, _, _, _, z, _⟩ := at_ j T hj
  exact ⟨I.hok.fresh (Nat.le_of_lt z), y, hy, e2⟩
end
section
variable {prog : Program} {w : World} {A : Around} {E : Value → Shared → Prop} {s : Shared}
theorem sum_intTuple {l : Addr} {xs : Array (Int × Tok)} {Q : Value → Shared → Prop} (hh : A.handled = none) (hl : s.heap.IsTuple l (intItems xs))
    (h : ∀ h' tk t', (∀ b o, s.heap.get? b = some o → h'.get? b = some o) → Q (.int (preSum (numAt xs) xs.size) t') { s with heap := h', toks := tk }) :
    wpAny (model prog w) A (call (.builtin "sum") [.ref l]) Q E s := by
  have hlt : l < s.heap.objs.size := by obtain ⟨_, e, _⟩ := hl; exact Heap.lt_size e
  refine call_sum_walkG (wpAny_pyIter_tuple hl ?_)
  refine ⟨s.heap.objs.size, [s.heap.objs.size, l], [s.heap.objs.size], _, _, _, numAt xs, rfl, Walks.tuple (A := A.in1) hh _ l (Nat.ne_of_lt hlt) (intItems xs), ⟨⟨_, Heap.get?_push_size _ rfl, rfl, rfl⟩, hl.push _⟩, fun b hb => ?_, (fun _ _ => intItems_at), fun h' tk t' hk => ?_⟩
  · show b < (s.heap.push _).objs.size
    rw [Heap.size_push]
    rcases List.mem_cons.mp hb with rfl | hb
    · exact Nat.lt_succ_self _
    · rw [List.mem_singleton.mp hb]; exact Nat.lt_succ_of_lt hlt
  · have := h h' tk t' fun b o e => hk b o (fun hm => by rw [List.mem_singleton.mp hm] at e; exact absurd (Heap.lt_size e) (Nat.lt_irrefl _)) (Heap.get?_push_of_some _ e)
    simpa [intItems] using this
end
section
variable {X : Cx} {K : PySem.W.Frag} {p p2 pos pos2 : Pos}
theorem call_sumT (hc : X.calm = true) : CallR X (.builtin "sum") (fun xs H Q => ∃ (a : Addr) (ns : List Int), xs = [.ref a] ∧ SqT X.K H a (ns.map V.int) ∧ Q (.int ns.sum) H) := by
  intro pins s σ H xs us Q I r h
  obtain ⟨a, ns, rfl, hq, q⟩ := h
  obtain ⟨u, rfl, ru⟩ := vals1 r
  cases ru
  obtain ⟨its, rv, p, hz⟩ := I.tuple hq
  have hi := intsAre_of rv
  obtain ⟨zs, hzs⟩ := hi.allInts.items
  have hl : s.heap.IsTuple a (intItems zs) := hzs ▸ p
  refine sum_intTuple (I.ok.hd hc) hl fun h' tk t' hk => ⟨.int ns.sum, H, I.kept hk, ⟨t', ?_⟩, q⟩
  have hn := hi.numsOf
  have e : numsOf (intItems zs).toList = ns := by rw [← hzs]; exact hn
  rw [nums_intItems] at e
  rw [preSum_eq, List.take_of_length_le (by simp), e]
noncomputable def sumD' : List PyData → Option PyData
  | [.list ds] => (intsOf ds).map fun ns => .int ns.sum
  | [.tuple ds] => (intsOf ds).map fun ns => .int ns.sum
  | _ => none
theorem cd_sum' (hK : X.K = K) (hc : X.calm = true) : CallR X (.builtin "sum") (rDN K sumD') := by
  subst hK
  intro pins s σ H xs us Q I r h
  obtain ⟨fp, B, ds, z, bk, h1, hf, q⟩ := h
  unfold sumD' at hf
  split at hf <;> try cases hf
  · obtain ⟨ns, e, rfl⟩ := Option.map_eq_some_iff.mp hf
    cases intsOf_some e
    obtain ⟨v, rfl, a, xs, rfl, ha, hd⟩ := shs1 h1 rfl
    cases ints_v hd
    exact call_sum hc pins s σ H _ us Q I r ⟨a, ns, rfl, SqL.of (hid_same _ _ ha), q _ H (Same.refl H) DatIs.int⟩
  · obtain ⟨ns, e, rfl⟩ := Option.map_eq_some_iff.mp hf
    cases intsOf_some e
    obtain ⟨v, rfl, a, xs, rfl, ha, hd⟩ := shs1 h1 rfl
    cases ints_v hd
    exact call_sumT hc pins s σ H _ us Q I r ⟨a, ns, rfl, ha.same hid_same, q _ H (Same.refl H) DatIs.int⟩
theorem en_dats {H' : Hp} : ∀ (ys : List PyData) (xs : List V) (ts : List Addr) (k : Nat), ts.length = xs.length → DatsAre K H' ys xs → (∀ (j : Nat) t, ts[j]? = some t → ∃ y, xs[j]? = some y ∧ H' t = some (.tup [.int ((k + j : Nat)), y])) → DatsAre K H' (enumL k ys) (ts.map V.ref)
  | [], xs, ts, k, hl, h, _ => by
    simp only [DatsAre] at h
    subst h
    cases ts with
    | nil => exact DatsAre.nil
    | cons t r => simp at hl
  | y :: ys, xs, ts, k, hl, h, ha => by
    simp only [DatsAre] at h
    obtain ⟨x, r, rfl, h1, h2⟩ := h
    cases ts with
    | nil => simp at hl
    | cons t ts =>
      obtain ⟨z, e1, e2⟩ := ha 0 t rfl
      cases e1
      refine ⟨_, _, rfl, DatIs.tup e2 ⟨_, _, rfl, DatIs.int, _, _, rfl, h1, rfl⟩, en_dats ys r ts (k + 1) (by simpa using hl) h2 fun j u hu => ?_⟩
      obtain ⟨z, e1, e2⟩ := ha (j + 1) u (by simpa using hu)
      exact ⟨z, by simpa using e1, by rw [show k + 1 + j = k + (j + 1) by omega]; exact e2⟩
variable [Feeds]
noncomputable def sLEn (m : DE → M PyData) : DE → M PyData := fun E F => (m E F).bind fun p => (seqOf p.1).bind fun ds => if ds.length ≤ 1000 then some (.list (enumL 0 ds), p.2) else none
theorem len_d {B : List Addr} {H1 : Hp} {a : Addr} {b : Bool} {xs : List V} {ys : List PyData} {Q : VK} {n0 : Nat} (hq : SqA b K H1 a xs) (hd : DatsAre K (hid H1 B) ys xs) (hz : ys.length ≤ 1000) (bk : BOk H1 B)
    (q : ∀ H' l, Same H1 H' → DatIs K (hid H' B) (.list (enumL 0 ys)) (.ref l) → Q (.ref l) H') : ∀ it e, H1 it = none → H1 e = none → it ≠ e → rLEn n0 K [.ref e] (upd (upd H1 it (.ext (phI b it a))) e (.ext (phE n0 e it a))) Q := by
  intro it e n1 n2 hne
  have sm2 : Same H1 (upd (upd H1 it (.ext (phI b it a))) e (.ext (phE n0 e it a))) := fun c o z => by
    rw [upd_ne (ne_of_none z n2), upd_ne (ne_of_none z n1)]; exact z
  refine ⟨e, it, a, b, xs, rfl, upd_same, by rw [upd_ne hne]; exact upd_same, ?_, by rw [hd.length]; exact hz, fun H' l ts hl hlen hat hl' hk => ?_⟩
  · cases b
    · exact SqT.same (show SqT K H1 a xs from hq) sm2
    · rcases (show SqL K H1 a xs from hq) with (z | ⟨o, z⟩) | z
      · exact .inl (.inl (sm2 _ _ z))
      · exact .inl (.inr ⟨o, sm2 _ _ z⟩)
      · exact .inr z
  · have nn : ∀ c, upd (upd H1 it (.ext (phI b it a))) e (.ext (phE n0 e it a)) c = none → H1 c = none := fun c z => by
      cases w : H1 c with
      | none => rfl
      | some o => rw [sm2 c o w] at z; cases z
    have sm : Same H1 H' := fun c o z => hk c o (ne_of_none z n2) (ne_of_none z n1) (sm2 c o z)
    refine q H' l sm (DatIs.lst (by rw [hid_out (bk.nin (nn l hl))]; exact hl') (en_dats ys xs ts 0 hlen (hd.same ((Kp.same (fp := []) sm).hid (by simp))) fun j t hj => ?_))
    obtain ⟨h1, y, h2, h3⟩ := hat j t hj
    exact ⟨y, h2, by rw [hid_out (bk.nin (nn t h1)), Nat.zero_add]; exact h3⟩
theorem ev_lenum {e : Expr} {te : TE} {m : DE → M PyData} (h : Ev K X e te m) (hc : X.calm = true) (hm : X.mg "enumerate" = none) (hml : X.mg "list" = none) (hbt : bootBuiltins "list" = some (.type "list")) (hK : X.K = K := by rfl) (hg : Gl X "enumerate" := by rfl) (hgl : Gl X "list" := by rfl) (hs : starEach [e] X.env = [(false, eval e X.env)] := by rfl)
    (he : starEach [.Call (.Name "enumerate" p2) [e] [] pos2] X.env = (false, eval (.Call (.Name "enumerate" p2) [e] [] pos2) X.env) :: starEach [] X.env := by rfl) (hpl : (backTo pos (starEach [] X.env)).any (·.1) = false := by rfl) :
    Ev K X (.Call (.Name "list" p) [.Call (.Name "enumerate" p2) [e] [] pos2] [] pos) (tCB (rLEn X.s₀.heap.objs.size K) (tCons (tEn X.s₀.heap.objs.size K (tCons te tNil)) tNil)) (sLEn m) :=
  ⟨pe_callTy (call_list_en hK hc) hgl hml hbt (pa_cons (pe_enum hK hg hm (pa_cons h.pe pa_nil hs) hs) pa_nil he) (by decide) (by decide) he hpl, fun G B E F σ H Q d F' I e q => by
    obtain ⟨⟨y, F1⟩, e1, e⟩ := Option.bind_eq_some_iff.mp e
    obtain ⟨z, e2, e⟩ := Option.bind_eq_some_iff.mp e
    split at e
    · rename_i hz
      cases e
      refine h.ok G B E F σ H _ y F1 I e1 fun v H1 k1 f1 h1 => ?_
      have bk1 := bok_step I.bk k1 f1
      cases y with
      | list ys =>
        cases e2
        simp only [DatIs] at h1
        obtain ⟨a, xs, rfl, ha, hd⟩ := h1
        exact ⟨a, rfl, true, xs, SqL.of (hid_same _ _ ha), len_d (SqL.of (hid_same _ _ ha)) hd hz bk1 fun H' l sm hh => q _ _ (k1.trans (Kp.same sm)) (f1.same sm) hh⟩
      | tuple ys =>
        cases e2
        simp only [DatIs] at h1
        obtain ⟨a, xs, rfl, ha, hd⟩ := h1
        exact ⟨a, rfl, false, xs, ha.same hid_same, len_d (ha.same hid_same) hd hz bk1 fun H' l sm hh => q _ _ (k1.trans (Kp.same sm)) (f1.same sm) hh⟩
      | _ => cases e2
    · cases e⟩
end
end L3
set_option Elab.async false
set_option linter.all false
set_option maxRecDepth 100000
set_option maxHeartbeats 4000000
namespace L3
open PySem PySem.Spec PyProof.Rows L2
section
variable {X : Cx} {K : PySem.W.Frag}
variable {mg : Str → Option Value}
noncomputable def intsV : List Value → Option (List Int)
  | [] => some []
  | .int x _ :: r => (intsV r).map (x :: ·)
  | _ => none
theorem intsV_vals : ∀ {us : List Value} {ss : List Int}, intsV us = some ss → Vals (ss.map V.int) us ∧ ∀ H, DatsAre K H (ss.map .int) (ss.map V.int)
  | [], ss, h => by cases h; exact ⟨.nil, fun H => DatsAre.nil⟩
  | u :: r, ss, h => by
    cases u with
    | int x t =>
      obtain ⟨ss', e1, rfl⟩ := Option.map_eq_some_iff.mp (show (intsV r).map (x :: ·) = some ss from h)
      obtain ⟨h1, h2⟩ := intsV_vals e1
      exact ⟨.cons ⟨t, rfl⟩ h1, fun H => ⟨_, _, rfl, DatIs.int, h2 H⟩⟩
    | _ => cases h
theorem gd_mkI {h : Heap} {x : Str} {t : Addr} {its : Array Value} {n : Nat} {sl : Array (Option Value)} {ss : List Int} (X : K.In h) (G : h.Ns mainGlobals mg) (hn : PySem.W.nsIn K mainGlobals x = some (some (.ref t))) (hl : K.lookup t = some ⟨.type "tuple", none, .seq its n, sl⟩) (hs : intsV its.toList = some ss) (hz : ss.length ≤ 1000) : GD K mg x (.tuple (ss.map .int)) := by
  obtain ⟨h1, h2⟩ := intsV_vals (K := K) hs
  refine ⟨t, PySem.W.mg_of X G hn, fun H => ⟨t, ss.map V.int, rfl, .inr ⟨_, its, n, hl, rfl, rfl, rfl, ?_, h1⟩, h2 H⟩⟩
  have := h1.length
  rw [List.length_map] at this
  have e : its.size = ss.length := by rw [this]; simp
  rw [e]
  exact Nat.le_trans hz (by rw [sizeLine_eq]; decide)
end
section
variable [Feeds] {X : Cx} {K : PySem.W.Frag}
end
end L3
set_option Elab.async false
set_option linter.all false
set_option maxRecDepth 100000
set_option maxHeartbeats 4000000
namespace L3
open PySem PySem.Spec PyProof.Rows L2
section
variable {X : Cx}
end
section
variable [Feeds] {X : Cx} {K : PySem.W.Frag} {e : Expr} {te : TE} {m : DE → M PyData} {pos pos' : Pos}
end
end L3
set_option Elab.async false
set_option linter.all false
set_option maxRecDepth 100000
set_option maxHeartbeats 4000000
namespace L3
open PySem PySem.Spec PyProof.Rows L2
section
variable {prog : Program} {w : World} {A : Around} {E : Value → Shared → Prop} {s : Shared}
end
section
variable [Feeds] {K : PySem.W.Frag} {X : Cx} {pos : Pos}
end
end L3
set_option Elab.async false
set_option linter.all false
set_option maxRecDepth 100000
set_option maxHeartbeats 4000000
namespace L3
open PySem PySem.Spec PyProof.Rows L2
section
variable [Feeds] {X : Cx} {K : PySem.W.Frag} {e : Expr} {te : TE} {m : DE → M PyData} {pos : Pos}
end
end L3
set_option Elab.async false
set_option linter.all false
set_option maxRecDepth 100000
set_option maxHeartbeats 4000000
namespace L3
open PySem PySem.Spec PyProof.Rows L2
section
variable [Feeds] {X : Cx} {K : PySem.W.Frag} {e : Expr} {te : TE} {m : DE → M PyData} {pos p2 : Pos}
end
end L3
set_option Elab.async false
set_option linter.all false
set_option maxRecDepth 100000
set_option maxHeartbeats 4000000
namespace L3
open PySem PySem.Spec PyProof.Rows L2
theorem len_1 {us : List Value} (h : us.length = 1) : ∃ a, us = [a] := List.length_eq_one_iff.mp h
theorem len_s {us : List Value} {n : Nat} (h : us.length = n + 1) : ∃ a r, us = a :: r ∧ r.length = n := by
  cases us with
  | nil => cases h
  | cons a r => exact ⟨a, r, rfl, Nat.succ.inj h⟩
theorem len_2 {us : List Value} (h : us.length = 2) : ∃ a b, us = [a, b] := by
  obtain ⟨a, r, rfl, h2⟩ := len_s h
  obtain ⟨b, rfl⟩ := len_1 h2
  exact ⟨a, b, rfl⟩
section
variable {K : PySem.W.Frag} {H : Hp} {B A : List Addr}
end
section
variable [Feeds]
variable {K : PySem.W.Frag} {X : Cx} {e : Expr} {es : List Expr} {te : TE} {m : DE → M PyData} {tl : TA} {ms : DE → M (List DV)} {pos p : Pos}
end
end L3
set_option Elab.async false
set_option linter.all false
set_option maxRecDepth 100000
set_option maxHeartbeats 4000000
namespace L3
open PySem PySem.Spec PyProof.Rows L2
section
variable [Feeds] {K : PySem.W.Frag} {X : Cx}
structure LamB (K : PySem.W.Frag) (mg : Str → Option Value) (base : Heap) (x : Str) (fd : FuncData) (c P : Addr) : Prop where
  mem : (x, c, P) ∈ tabsK Feeds.lam K
  code : fd.code = .ref c
  hd : PySem.W.CodeHd base c P
  bm : BMd base mg
  nd : (tabP K).Nodup
theorem nodup_map_inj {α β : Type} {f : α → β} : ∀ {l : List α}, (l.map f).Nodup → ∀ {a b}, a ∈ l → b ∈ l → f a = f b → a = b
  | [], _, _, _, h, _, _ => by simp at h
  | x :: l, h, a, b, ha, hb, e => by
    rw [List.map_cons, List.nodup_cons] at h
    rcases List.mem_cons.mp ha with e1 | ha1
    · rcases List.mem_cons.mp hb with e2 | hb1
      · rw [e1, e2]
      · exact absurd (by rw [← e1, e]; exact List.mem_map_of_mem hb1) h.1
    · rcases List.mem_cons.mp hb with e2 | hb1
      · exact absurd (by rw [← e2, ← e]; exact List.mem_map_of_mem ha1) h.1
      · exact nodup_map_inj h.2 ha1 hb1 e
theorem grew_ok {G : GF} {H H2 : Hp} {F : FS} {x : Str} {c P : Addr} (hm : (x, c, P) ∈ tabsK Feeds.lam K) (nd : (tabP K).Nodup) (f : FAt K G H F) (g : Grew P (lamQ x) H H2) (hT : TabOk H2 P (lamQ x)) : Kp (fpOf K G) H H2 ∧ FAt K G H2 F := by
  rcases g with rfl | ⟨ps, more, c', hP, hc', hcP, rfl⟩
  · exact ⟨Kp.refl, f⟩
  · have hPf : P ∈ tabP K := List.mem_map_of_mem (f := fun t : Str × Addr × Addr => t.2.2) hm
    have stay : ∀ b o, H b = some o → b ≠ P → upd (upd H P (.tbl (ps ++ more))) c' (cdO c' (lamQ x)) b = some o := fun b o e hb => by
      rw [upd_ne (ne_of_none e hc'), upd_ne hb]; exact e
    have ne : ∀ {b o}, H b = some o → NoT o → b ≠ P := fun {b o} e h z => by
      rw [z, hP] at e
      exact h.1 _ (Option.some.inj e).symm
    refine ⟨fun b o e hb => stay b o e fun z => hb (z ▸ fp_tab hPf), ?_, fun t ht => ?_⟩
    · cases G with
      | none => trivial
      | some p =>
        obtain ⟨d, c0⟩ := p
        obtain ⟨o1, a1, b1⟩ := Feeds.some1 f.1
        obtain ⟨o2, a2, b2⟩ := Feeds.some2 f.1
        exact Feeds.congr f.1 (by rw [a1]; exact stay _ _ a1 (ne a1 b1)) (by rw [a2]; exact stay _ _ a2 (ne a2 b2))
    · by_cases htP : t.2.2 = P
      · have e : t = (x, c, P) := nodup_map_inj (f := fun t : Str × Addr × Addr => t.2.2) nd ht hm htP
        rw [e]; exact hT
      · obtain ⟨qs, h1, h2, h3⟩ := f.2 t ht
        refine ⟨qs, stay _ _ h1 htP, h2, fun pos cv q => ?_⟩
        obtain ⟨c2, r1, r2⟩ := h3 pos cv q
        exact ⟨c2, r1, stay _ _ r2 fun z => by rw [z, hP] at r2; cases r2⟩
end
end L3
set_option Elab.async false
set_option linter.all false
set_option maxRecDepth 100000
set_option maxHeartbeats 4000000
namespace L3
open PySem PySem.Spec PyProof.Rows L2
section
variable [Feeds] {K : PySem.W.Frag} {X : Cx}
end
end L3
namespace L2
open PySem PySem.Spec PyProof.Rows
section
variable {P : Program} {w : World} {K : PySem.W.Frag} {mg : Str → Option Value} {base : Heap}
theorem Fun.okC {x qual : Str} {st : Stmt} {f : Addr} {fd : FuncData} {N ps : List Str} {k : Nat} {sp : Sp} (F : Fun K x qual st f fd) (S : FnScope N ps (defScope st)) (len : ∀ vs H Q E, sp vs H Q E → vs.length = ps.length)
    (hbody : ∀ (cdv : Value) (A : Around) (outer : List Env) (s : Shared) (H : Hp) (vs : List V) (Q : VK) (E : XK), fd.code = cdv → Room k (A.deeper (envOfC qual (defScope st) s.heap.objs.size f cdv)) → sp vs H Q E →
      ∃ t, PSs (cxOf CX0 P w K mg base N qual (defScope st) f cdv A outer s H E).nox (defBody st) t ∧ t { nx := fun _ H' => Q .non H', rt := Q } (start N vs) H) : FnOk P w K mg base CX0 (k + 1) f fd ps sp := by
  obtain ⟨oc, od, kV, doc, pm, an, cdv, ct, osl, rfl, lk, hcd⟩ := F.ex
  refine fn_of lk hcd S len fun A outer s H vs Q E hr hsp => ?_
  obtain ⟨t, h, q⟩ := hbody cdv A outer s H vs Q E rfl hr hsp
  exact ⟨t, h.nox, q⟩
end
end L2
namespace L3
open PySem PySem.Spec PyProof.Rows L2
section
variable [Feeds] {P : Program} {w : World} {K : PySem.W.Frag} {mg : Str → Option Value} {base : Heap}
theorem def_okL {x qual : Str} {st : Stmt} {f : Addr} {fd : FuncData} {N ps : List Str} {k : Nat} {m : DE → M Out} (Fn : Fun K x qual st f fd) (S : FnScope N ps (defScope st))
    (hbody : ∀ (cdv : Value) (A : Around) (outer : List Env) (s : Shared) (H : Hp) (E : XK), fd.code = cdv → Room k (A.deeper (envOfC qual (defScope st) s.heap.objs.size f cdv)) →
      ∃ ts, Sss K (cxOf CX0 P w K mg base N qual (defScope st) f cdv A outer s H E).nox (defBody st) ts m) : FnOk P w K mg base CX0 (k + 1) f fd ps (spD K ps.length (runD N m)) := by
  refine Fn.okC S (fun vs H Q E h => ?_) (fun cdv A outer s H vs Q E hcd hr h => ?_)
  · obtain ⟨G, B, F, args, d, F', hl, _⟩ := h
    exact hl
  · obtain ⟨G, B, F, args, d, F', hl, fB, bk, fa, ha, hm, q⟩ := h
    obtain ⟨ts, hts⟩ := hbody cdv A outer s H E hcd hr
    refine ⟨ts, hts.ps, ?_⟩
    obtain ⟨⟨o, F1⟩, e1, e⟩ := Option.bind_eq_some_iff.mp hm
    refine hts.ok G B H (startE N args) F (L2.start N vs) H _ o F1 (sit_start fB bk fa ha) e1 ?_
    cases o with
    | rt d' => cases e; exact fun v H' k1 f1 h1 => q v H' k1 f1 h1
    | nx E' => cases e; exact fun σ' H' S' => q _ H' S'.kp (by obtain ⟨B, _, _, I⟩ := S'.ex; exact I.fd) DatIs.non
    | bk E' => cases e
    | ct E' => cases e
end
end L3
set_option Elab.async false
set_option linter.all false
set_option maxRecDepth 100000
set_option maxHeartbeats 4000000
namespace L3
open PySem PySem.Spec PyProof.Rows L2
noncomputable abbrev TabL := List (Str × Addr × Addr)
noncomputable def TabsAt (ts : TabL) (h : Heap) : Prop := ∀ t ∈ ts, PySem.W.CodeHd h t.2.1 t.2.2 ∧ h.get? t.2.2 = some (PySem.W.tabObj #[])
theorem law_callT {P : Program} {w : World} {K : PySem.W.Frag} {mg mb : Str → Option Value} {CX : CXT} {k : Nat} {fa a : Addr} {fd : FuncData} {x : Str} {sp : Sp} {s₁ : Shared} {vs : List Value} {ns : List Int} {ts : TabL}
    (KX : K.In s₁.heap) (hns : s₁.heap.Ns mainGlobals mg) (hb : s₁.heap.Ns builtinsNs mb) (hbb : ∀ x : Str, x ≠ "__name__" → mb x = bootBuiltins x) (hlim : s₁.heap.NoLimit) (hg : s₁.gens = #[])
    (ha : s₁.heap.get? a = some { cls := .type "list", data := .seq vs.toArray }) (hi : IntsAre vs ns) (hl : ns.length ≤ sizeLine) (hr : Room k callerA)
    (hT : TabsAt ts s₁.heap) (hnt : PySem.W.noTabs K = true) (BM : BMd s₁.heap mg)
    (F : ∀ base : Heap, K.In base → base.Ns mainGlobals mg → BMd base mg → (∀ t ∈ ts, PySem.W.CodeHd base t.2.1 t.2.2) → FnOk P w K mg base CX k fa fd [x] sp) (hbind : ∀ (s : Shared) (u : Value), BindsTo s fd ⟨[u], []⟩ [(x, u)])
    (hsp : ∀ H : Hp, SqL K H a (ns.map V.int) → TabsOk ts H → sp [.ref a] H (fun v _ => v = .bl true) fun _ _ _ => False)
    (hCX : ∀ H e s', CX [] H s₁ (fun _ _ _ => False) e s' → False) :
    codeAny (model P w) callerA (.call (.ref fa) ⟨[.ref a], []⟩) (fun r s' => r = .ok (.ret (.bool true)) ∧ OldK s₁.heap s'.heap ∧ s'.os = s₁.os ∧ AllBare s'.gens) s₁ := by
  have rv := vals_ints hi
  have lenV := hi.length
  have aP : ∀ t ∈ ts, t.2.2 ≠ a := fun t ht e => by
    have := (hT t ht).2
    rw [e, ha] at this; cases this
  have core : ∀ H : Hp, (∀ b, H b = none ∨ (b = a ∧ H b = some (.frz { cls := .type "list", data := .seq vs.toArray } (.lst (ns.map V.int)))) ∨ (b ∈ ts.map (·.2.2) ∧ H b = some (.tbl #[]))) → (∀ t ∈ ts, H t.2.2 = some (.tbl #[])) → SqL K H a (ns.map V.int) → (H a ≠ none → K.lookup a = none) →
      codeAny (model P w) callerA (.call (.ref fa) ⟨[.ref a], []⟩) (fun r s' => r = .ok (.ret (.bool true)) ∧ OldK s₁.heap s'.heap ∧ s'.os = s₁.os ∧ AllBare s'.gens) s₁ := by
    intro H hO hTH hS hK
    have tabO : ∀ {b : Addr}, b ∈ ts.map (·.2.2) → s₁.heap.get? b = some (PySem.W.tabObj #[]) := fun {b} hb => by
      obtain ⟨t, ht, rfl⟩ := List.mem_map.mp hb
      exact (hT t ht).2
    have hok : HOk P w H s₁.heap := fun b u e => by
      rcases hO b with z | ⟨rfl, z⟩ | ⟨hb, z⟩
      · rw [z] at e; cases e
      · rw [z] at e; cases e
        exact ⟨ha, by rw [List.length_map]; exact hl, vs, _, rv, ha⟩
      · rw [z] at e; cases e
        exact tabO hb
    have base_of : ∀ {b : Addr} {o : Obj}, s₁.heap.get? b = some o → H b = none → (hidT s₁.heap H).get? b = some o := fun e n => hidT_get e n
    have other : ∀ {b : Addr} {o : Obj}, s₁.heap.get? b = some o → o ≠ { cls := .type "list", data := .seq vs.toArray } → o ≠ PySem.W.tabObj #[] → H b = none := fun {b o} e h1 h2 => by
      rcases hO b with z | ⟨rfl, z⟩ | ⟨hb, z⟩
      · exact z
      · rw [ha] at e; exact absurd (Option.some.inj e).symm h1
      · rw [tabO hb] at e; exact absurd (Option.some.inj e).symm h2
    have nsK : ∀ {b : Addr} {m : Str → Option Value}, s₁.heap.Ns b m → (hidT s₁.heap H).Ns b m := fun {b m} ⟨o, es, ep, e, d, r⟩ => ⟨o, es, ep, base_of e (other e (fun z => by rw [z] at d; cases d) fun z => by rw [z] at d; cases d), d, r⟩
    have hKb : K.In (hidT s₁.heap H) := fun b o e => base_of (KX b o e) (by
      rcases hO b with z | ⟨rfl, z⟩ | ⟨hb, z⟩
      · exact z
      · rw [hK (by rw [z]; simp)] at e; cases e
      · have e2 := KX b o e
        rw [tabO hb] at e2
        cases e2
        have h2 := List.all_eq_true.mp hnt _ (PySem.W.mem_of_lookupK e)
        exact absurd (show false = true from h2) Bool.false_ne_true)
    have hM : Mod K mg (hidT s₁.heap H) := ⟨hKb, nsK hns, ⟨mb, nsK hb, hbb⟩, let ⟨mc, h1, h2⟩ := hlim; ⟨mc, nsK h1, h2⟩⟩
    have hBM : BMd (hidT s₁.heap H) mg := by
      obtain ⟨bm, ob, b1, b2, b3, b4, b5, b6⟩ := BM
      exact ⟨bm, ob, b1, b2, base_of b3 (other b3 (fun z => by rw [z] at b4; have b4 : Value.type "list" = Value.type "module" := b4; exact absurd b4 (by decide)) fun z => by rw [z] at b4; have b4 : Value.none = Value.type "module" := b4; exact absurd b4 (by decide)), b4, b5, b6⟩
    have hCd : ∀ t ∈ ts, PySem.W.CodeHd (hidT s₁.heap H) t.2.1 t.2.2 := fun t ht => by
      obtain ⟨o, vs', file, tf, flags, tg, inF, text, tt, e1, r1, r2⟩ := (hT t ht).1
      exact ⟨o, vs', file, tf, flags, tg, inF, text, tt, base_of e1 (other e1 (fun z => by rw [z] at r1; have r1 : Value.type "list" = Value.type "code" := r1; exact absurd r1 (by decide)) fun z => by rw [z] at r1; have r1 : Value.none = Value.type "code" := r1; exact absurd r1 (by decide)), r1, r2⟩
    have e0 : Env0 P w K mg (hidT s₁.heap H) callerA [] s₁ H := ⟨rfl, hM, fun b o e => of_hidT e, Nat.le_of_eq (hidT_size _ _), trivial, fun b hb => absurd (show b ∈ ([] : List Addr) from hb) (by simp), hok, .of_eq hg⟩
    have hTO : TabsOk ts H := fun t ht => ⟨#[], hTH t ht, trivial, fun pos cv e => by cases e⟩
    refine codeAny_mono ((F _ hKb (nsK hns) hBM hCd).run callerA [] s₁ H ⟨[.ref a], []⟩ [.ref a] [.ref a] _ _ hr e0 (hbind s₁ (.ref a)) (.cons rfl .nil) (hsp H hS hTO)) fun r s' h => ?_
    cases r with
    | error e => exact (hCX H e s' h).elim
    | ok fl =>
      cases fl with
      | next => exact False.elim h
      | brk => exact False.elim h
      | cont => exact False.elim h
      | ret u =>
        obtain ⟨v, H', os, bare, un, hok', r', q⟩ := h
        have q' : v = .bl true := q
        subst q'
        obtain rfl : u = Value.bool true := r'
        have kept : ∀ b o, s₁.heap.get? b = some o → H b = none → s'.heap.get? b = some o := fun b o e q => un.keep b o e q (by intro z; exact absurd (show b ∈ ([] : List Addr) from z) (by simp)) (by simp)
        have scr : ∀ b o, s₁.heap.get? b = some o → b = a → H b = some (.frz { cls := .type "list", data := .seq vs.toArray } (.lst (ns.map V.int))) → s'.heap.get? b = some o := fun b o e hb z => by
          have z2 := un.frzs b _ _ z
          obtain ⟨e1, _⟩ := hok b _ z
          obtain ⟨e2, _⟩ := hok' b _ z2
          rw [e] at e1; cases e1
          exact e2
        have tab : ∀ b, H b = some (.tbl #[]) → ∃ more, s'.heap.get? b = some (PySem.W.tabObj more) := fun b z => by
          obtain ⟨more, z2⟩ := un.tbls b _ z
          exact ⟨_, hok' b _ z2⟩
        refine ⟨rfl, ⟨fun b o e => ?_, fun b o e => ?_⟩, os, bare⟩
        · rcases hO b with z | ⟨hb, z⟩ | ⟨hb, z⟩
          · exact .inl (kept b o e z)
          · exact .inl (scr b o e hb z)
          · obtain ⟨more, e2⟩ := tab b z
            have e3 := tabO hb
            rw [e] at e3; cases e3
            obtain ⟨t, ht, rfl⟩ := List.mem_map.mp hb
            refine .inr (.inl ⟨((hT t ht).1.tab (hT t ht).2).isCodeTable, rfl, #[], more, rfl, by rw [Array.empty_append]; exact e2⟩)
        · rcases hO b with z | ⟨hb, z⟩ | ⟨hb, z⟩
          · exact ⟨o, kept b o e z⟩
          · exact ⟨o, scr b o e hb z⟩
          · obtain ⟨more, e2⟩ := tab b z
            exact ⟨_, e2⟩
  cases hk : K.lookup a with
  | some o =>
    have e := KX a o hk
    rw [ha] at e
    cases e
    have haT : a ∉ ts.map (·.2.2) := fun z => by
      obtain ⟨t, ht, e⟩ := List.mem_map.mp z
      exact aP t ht e
    refine core (fun b => if b ∈ ts.map (·.2.2) then some (.tbl #[]) else none) (fun b => ?_) (fun t ht => if_pos (List.mem_map_of_mem ht)) (.inr ⟨_, vs.toArray, _, hk, rfl, rfl, rfl, by rw [List.size_toArray, lenV]; exact hl, by simpa using rv⟩) fun z => absurd (if_neg haT) z
    by_cases hb : b ∈ ts.map (·.2.2)
    · exact .inr (.inr ⟨hb, if_pos hb⟩)
    · exact .inl (if_neg hb)
  | none =>
    refine core (fun b => if b = a then some (.frz { cls := .type "list", data := .seq vs.toArray } (.lst (ns.map V.int))) else if b ∈ ts.map (·.2.2) then some (.tbl #[]) else none) (fun b => ?_) (fun t ht => ?_) (.inl (.inr ⟨{ cls := .type "list", data := .seq vs.toArray }, if_pos rfl⟩)) fun _ => hk
    · by_cases hb : b = a
      · exact .inr (.inl ⟨hb, if_pos hb⟩)
      · by_cases hb2 : b ∈ ts.map (·.2.2)
        · exact .inr (.inr ⟨hb2, by rw [if_neg hb, if_pos hb2]⟩)
        · exact .inl (by rw [if_neg hb, if_neg hb2])
    · rw [if_neg (aP t ht)]
      exact if_pos (List.mem_map_of_mem (f := fun t : Str × Addr × Addr => t.2.2) ht)
theorem walk_ofT {l : PySem.W.OpenLaw} {n k : Nat} {q : Program} {loose : List Str} {XP : (Str → Option Value) → Heap → Prop} {YP : World → Heap → Prop} {d : DefRec} {K : Params → PySem.W.Frag} {CX : World → CXT} {sp : World → Sp} {x : Str} (lam : List Str)
    (hn : l.most = some n) (hn2 : n ≤ sizeLine) (hdf : d.params.defaults = []) (hr : Room k callerA)
    (hrec : (lam.all fun x => ((recsOf q).find? fun e => e.name == x).isSome) = true) (hnt : ∀ w : World, PySem.W.noTabs (K w.params) = true)
    (hY : ∀ (w : World) (h : Heap), YP w h → (K w.params).In h)
    (F : ∀ (w : World) (mg : Str → Option Value) (fa : Addr) (h : Heap), (K w.params).In h → h.Ns mainGlobals mg → mg d.name = some (.ref fa) →
      ∃ fd : FuncData, (∀ (s : Shared) (u : Value), BindsTo s fd ⟨[u], []⟩ [(x, u)]) ∧
        ∀ base : Heap, (K w.params).In base → base.Ns mainGlobals mg → BMd base mg → (∀ t ∈ tabsK lam (K w.params), PySem.W.CodeHd base t.2.1 t.2.2) → FnOk l.prog w (K w.params) mg base (CX w) k fa fd [x] (sp w))
    (hsp : ∀ (w : World) (H : Hp) (a : Addr) (ns : List Int), ns.length ≤ n → SqL (K w.params) H a (ns.map V.int) → TabsOk (tabsK lam (K w.params)) H → sp w [.ref a] H (fun v _ => v = .bl true) fun _ _ _ => False)
    (hCX : ∀ (w : World) (H : Hp) (s : Shared) (e : Value) (s' : Shared), CX w [] H s (fun _ _ _ => False) e s' → False) :
    PySem.W.WalkO q loose XP YP l.row.toRowW d [] (fun f vs => PySem.call f vs) := by
  refine Att.attach_call hn hdf fun w s₀ s₁ mg mb fa o pm cd doc a vs ns G Y ho hd hcd hmg hobj hints hlen hg => ?_
  have KX := hY w _ Y
  obtain ⟨fd, hb, hF⟩ := F w mg fa _ KX G.T.g hmg
  refine law_callT (ts := tabsK lam (K w.params)) KX G.T.g G.T.b G.T.builtins G.T.nolimit hg hobj hints (Nat.le_trans hlen hn2) hr (fun t ht => ?_) (hnt w) G.T.bmain hF hb (fun H hS hT => hsp w H a ns hlen hS hT) fun H e s' => hCX w H s₁ e s'
  obtain ⟨x, hx, e⟩ := List.mem_filterMap.mp ht
  obtain ⟨⟨c, P⟩, e1, e2⟩ := Option.map_eq_some_iff.mp e
  cases e2
  obtain ⟨dr, hdr⟩ := Option.isSome_iff_exists.mp (List.all_eq_true.mp hrec x hx)
  exact PySem.W.tab_of G.T KX hdr e1
theorem lamB_mk [Feeds] {K : PySem.W.Frag} {mg : Str → Option Value} {base : Heap} {x : Str} {f : Addr} {oc : Value} {od : Option Addr} {fd : FuncData} {osl : Array (Option Value)} (ga : PySem.W.nsIn K mainGlobals x = some (some (.ref f))) (gl : K.lookup f = some ⟨oc, od, .func fd, osl⟩)
    (hx : x ∈ (Feeds.lam : List Str)) (hs : (PySem.W.tabIn K x).isSome = true) (nd : (tabP K).Nodup) (BM : BMd base mg) (hC : ∀ t ∈ tabsK Feeds.lam K, PySem.W.CodeHd base t.2.1 t.2.2) : ∃ c P, LamB K mg base x fd c P := by
  obtain ⟨⟨c, P⟩, e⟩ := Option.isSome_iff_exists.mp hs
  have hm : (x, c, P) ∈ tabsK Feeds.lam K := List.mem_filterMap.mpr ⟨x, hx, by rw [e]; rfl⟩
  refine ⟨c, P, hm, ?_, hC _ hm, BM, nd⟩
  unfold PySem.W.tabIn at e
  rw [ga] at e
  simp only [gl] at e
  split at e
  · rename_i c2 hc
    split at e
    · split at e
      · cases e; exact hc
      · cases e
    · cases e
  · cases e
end L3
set_option Elab.async false
set_option linter.all false
set_option maxRecDepth 100000
set_option maxHeartbeats 4000000
namespace L3
open PySem PySem.Spec PyProof.Rows L2
section
variable [Feeds] {K : PySem.W.Frag} {X : Cx} {e a b c : Expr} {te : TE} {pos : Pos}
section
variable {G : GF} {B B0 : List Addr} {E : DE} {F F1 : FS} {σ : St} {H H1 H0 : Hp} {dv : DV} {v : V} {i : Nat}
end
end
end L3
set_option Elab.async false
set_option linter.all false
set_option maxRecDepth 100000
set_option maxHeartbeats 4000000
namespace L3
open PySem PySem.Spec PyProof.Rows L2
section
variable {K : PySem.W.Frag} {X0 : Cx} {tg iter : Expr} {te : TE} {pos : Pos}
end
section
variable {K : PySem.W.Frag} {X : Cx} [Feeds]
end
end L3
set_option Elab.async false
set_option linter.all false
set_option maxRecDepth 100000
set_option maxHeartbeats 4000000
namespace L3
open PySem PySem.Spec PyProof.Rows L2
end L3
set_option Elab.async false
set_option linter.all false
set_option maxRecDepth 100000
set_option maxHeartbeats 4000000
namespace L3
open PySem PySem.Spec PyProof.Rows L2
section
variable {K : PySem.W.Frag} {X : Cx} [Feeds]
end
end L3
set_option Elab.async false
set_option linter.all false
set_option maxRecDepth 100000
set_option maxHeartbeats 4000000
namespace L3
open PySem PySem.Spec PyProof.Rows L2
section
variable {M : Lang} {A : Around} {E : Value → Shared → Prop} {s : Shared}
end
section
variable {prog : Program} {w : World} {A : Around} {E : Value → Shared → Prop} {s : Shared}
end
section
variable {K : PySem.W.Frag} {X : Cx} [Feeds]
variable {e : Expr} {te : TE} {m : DE → M PyData} {pos : Pos}
variable {a b : Expr}
end
end L3
set_option Elab.async false
set_option linter.all false
set_option maxRecDepth 100000
set_option maxHeartbeats 4000000
namespace L3
open PySem PySem.Spec PyProof.Rows L2
section
variable [Feeds]
variable {K : PySem.W.Frag} {X : Cx} {e i v1 v2 v3 : Expr} {es : List Expr} {te t1 t2 t3 ti : TE} {m1 m2 m3 mi : DE → M PyData} {p pos p1 p2 p3 : Pos}
variable {P : Program} {w : World} {mg : Str → Option Value} {base : Heap}
end
end L3
set_option Elab.async false
set_option linter.all false
set_option maxRecDepth 100000
set_option maxHeartbeats 4000000
namespace L3
open PySem PySem.W PySem.Spec PyProof.Rows L2
abbrev vMro : List Value := [.type "ValueError", .type "Exception", .type "BaseException", .type "object"]
structure ECls (K : Frag) (Wt C f : Addr) : Prop where
  obj : ∃ nm q N bs hdct sn sub ab col dd k0 k1 k2 k3 k5, K.lookup C = some (excClassObj nm q C N bs (.ref Wt :: vMro) hdct sn sub ab col dd k0 k1 k2 k3 k5 "ValueError.__new__")
  top : ∃ c0 dd cd sl, K.lookup Wt = some { cls := c0, dict := dd, data := .cls cd, slots := sl } ∧ nsOkIn K cd.ns = true ∧ nsIn K cd.ns "__init__" = some none
  init : findIn K (.ref C) "__init__" = some (some (.ref f))
  fn : typeIn K (.ref f) = some (.type "function")
  call : specialIn K (.ref C) "__call__" = some (some (.builtin "type.__call__"))
  typ : instIn K (.ref C) (.type "type") = some true
  kp : keepIn K (.ref C) = true
  dict : (clsIn K C).any (·.hasDict) = true
  sa : findIn K (.ref C) "__setattr__" = some (some (.builtin "object.__setattr__"))
noncomputable abbrev excObj (C t : Addr) (dx : Option Addr) : Obj := { cls := .ref C, dict := dx, data := .fields #[.ref t, .none, .none, .none, .bool false, .none] }
section
variable {prog : Program} {w : World} {A : Around} {E : Value → Shared → Prop} {R : Result → Shared → Prop} {K : Frag} {Wt C f : Addr} {h : Heap} {g : Array GenState} {d : Drawn} {t : Nat} {os : OsState}
theorem ECls.tail (c : ECls K Wt C f) (X : K.In h) : OwnTail h vMro (.ref Wt :: vMro) := by
  obtain ⟨c0, dd, cd, sl, l, n1, n2⟩ := c.top
  exact .own (X _ _ l) (.of_isNs (isNs_of_in X n1)) (nsMap_none_of_in X n1 n2) .base
theorem exc_call {rest : List Value} (c : ECls K Wt C f) (X : K.In h) (hz : rest.length ≤ sizeLine)
    (hq : codeAny (model prog w) (A.under (.builtin "type.__call__" ⟨.ref C :: rest, []⟩)) (.call (.ref f) ⟨.ref (h.objs.size + 1) :: rest, []⟩) (InitBack (h.objs.size + 1) R)
      ⟨(h.push { cls := .type "tuple", data := .seq rest.toArray }).push (excObj C h.objs.size none), g, d, t, os⟩) :
    codeAny (model prog w) A (.call (.ref C) ⟨rest, []⟩) R ⟨h, g, d, t, os⟩ := by
  obtain ⟨nm, q, N, bs, hdct, sn, sub, ab, col, dd, k0, k1, k2, k3, k5, lk⟩ := c.obj
  have hC := X _ _ lk
  have T := c.tail X
  have call := looks_specialIn (M := model prog w) X c.call
  have typ := looks_instIn (M := model prog w) X c.typ
  have hi := looks_findIn (M := model prog w) X c.init
  have FB := PySem.F.excBase_ValueError
  refine codeAny_of_tree ?_
  show wpAny _ _ (callAny (.ref C) _) _ _ _
  refine nd_load hC ?_
  show wpAny _ _ (callAny.viaDunder (.ref C) _) _ _ _
  unfold callAny.viaDunder
  refine wpAny_bind (call.at ?_)
  dsimp only
  rw [tc_bind]
  refine wpAny_bind (wpAny_pure (wpAny_bind (wpAny_pure ?_)))
  refine wpAny_pure (a := Fin.again (.call (.builtin "type.__call__") ⟨.ref C :: rest, []⟩)) ⟨rfl, ?_⟩
  refine codeAny_call_builtin_at (Code.quiet_builtin _ (by decide +kernel)) entry_typeCall (check_slot tc_kind tc_split typ (tc_args _ _ _) ?_)
  unfold Builtin.«type.__call__»
  have hm : Looks (model prog w) h (mroOf (.ref C)) (.ref C :: .ref Wt :: vMro) := ((Looks.ld (part := none) hC).andThen .now).andThen .now
  have made : Looks (model prog w) h (Bind.madeBy (.ref C)) (some "ValueError.__new__") := fun A Q E s k q => by
    obtain ⟨hh, gg, dd', tt, oo⟩ := s
    exact wpAny_madeBy_exc (k _ _ hC) q
  repeat (first | simp only [List.isEmpty_cons, Bool.false_eq_true, if_false] | with_reducible refine wpAny_call ?_ | lk)
  refine codeAny_call_builtin_code (Code.quiet_builtin _ FB.quiet) (wpAny_check_new_subT FB T hC ?_)
  refine codeAny_exc_new_subT FB T hC ?_ hz
  generalize hh : (h.push { cls := .type "tuple", data := .seq rest.toArray }).push (excObj C h.objs.size none) = h1 at hq ⊢
  have up : ∀ b o, h.get? b = some o → h1.get? b = some o := fun b o z => by rw [← hh]; exact Heap.get?_push_of_some _ (Heap.get?_push_of_some _ z)
  have here : h1.get? (h.objs.size + 1) = some (excObj C h.objs.size none) := by rw [← hh]; heap_get
  have X1 : K.In h1 := X.keeps up
  have ty : Looks (model prog w) h1 (typeOf (.ref (h.objs.size + 1))) (.ref C) := (Looks.ld here).andThen .now
  have mr : mroIn K C (.ref C) = some true := by unfold mroIn clsIn; rw [lk]; simp
  have own := looks_mroIn (M := model prog w) X1 mr
  have ini := looks_findIn (M := model prog w) X1 c.init
  have bnd := bind_fn (M := model prog w) X1 (.ref (h.objs.size + 1)) c.fn
  show wpAny _ _ _ _ _ _
  unfold isInstance callSpecial? specialOf
  repeat (first | with_reducible refine wpAny_call ?_ | lk)
  refine codeAny_mono hq fun r s2 z => ?_
  rcases r with e | (v | _ | _ | _) <;> first | exact z | exact z.elim | skip
  obtain ⟨rfl, z⟩ := z
  exact wpAny_pure (wpAny_pure z)
end
end L3
set_option Elab.async false
set_option linter.all false
set_option maxRecDepth 100000
set_option maxHeartbeats 4000000
namespace L3
open PySem PySem.W PySem.Spec PyProof.Rows L2
open Builtin Builtin.ObjectAttr
section
variable {prog : Program} {w : World} {A : Around} {E : Value → Shared → Prop} {R : Result → Shared → Prop} {K : Frag} {Wt C f e : Addr} {h : Heap} {g : Array GenState} {d : Drawn} {t : Nat} {os : OsState} {mA : Str → Option Value} {name : Str} {v : Value}
theorem ECls.cls (c : ECls K Wt C f) : ∃ cd, clsIn K C = some cd ∧ cd.mro = .ref C :: .ref Wt :: vMro ∧ cd.hasDict = true := by
  obtain ⟨nm, q, N, bs, hdct, sn, sub, ab, col, dd, k0, k1, k2, k3, k5, lk⟩ := c.obj
  obtain ⟨cd, e1, e2⟩ := any_some c.dict
  refine ⟨cd, e1, ?_, e2⟩
  unfold clsIn at e1
  rw [lk] at e1
  cases e1
  rfl
noncomputable def Left (h h' : Heap) (e : Addr) : Prop :=
  (∀ b o, b ≠ e → (∀ o0 dx, h.get? e = some o0 → o0.dict = some dx → b ≠ dx) → h.get? b = some o → h'.get? b = some o) ∧
  ∀ o0, h.get? e = some o0 → ∃ o1 dx, h'.get? e = some o1 ∧ o1.cls = o0.cls ∧ o1.data = o0.data ∧ o1.slots = o0.slots ∧ o1.dict = some dx ∧ (o0.dict = some dx ∨ (o0.dict = none ∧ dx = h.objs.size))
theorem exc_put {tk : Tok} {ns : List Str} (c : ECls K Wt C f) (X : K.In h) (na : findIn K (.ref C) name = some none) (I : h.Inst e C mA) (hw : Within mA ns) (hl : ns.length ≤ 1000)
    (hq : ∀ h' tk', h'.Inst e C (fun y => if y = name then some v else mA y) → Left h h' e → R (.ok (.ret .none)) ⟨h', g, d, tk', os⟩) :
    codeAny (model prog w) A (.call (.builtin "object.__setattr__") ⟨[.ref e, .str name tk, v], []⟩) R ⟨h, g, d, t, os⟩ := by
  have SO := PySem.F.store_object
  have SV := PySem.F.store_ValueError
  obtain ⟨cd, hc, hmro, hdict⟩ := c.cls
  obtain ⟨⟨cl, dct, dat, sls⟩, hx, hcl, hnc, hd⟩ := I
  dsimp only at hcl hnc hd
  subst hcl
  have ty : Looks (model prog w) h (typeOf (.ref e)) (.ref C) := (Looks.ld hx).andThen .now
  have mr : mroIn K C (.type "object") = some true := by unfold mroIn; rw [hc, Option.bind_some, hmro]; rfl
  have sub : Looks (model prog w) h (isInstance (.ref e) (.type "object")) true := ty.andThen (looks_mroIn X mr)
  have hm : Looks (model prog w) h (mroOf (.ref C)) cd.mro := (looks_clsIn X hc).andThen .now
  have lkn := looks_findIn (M := model prog w) X na
  refine codeAny_call_builtin SO.slot.plain SO.entry (@check_slot (model prog w) _ _ ⟨h, g, d, t, os⟩ "object.__setattr__" "object" "__setattr__" (.ref e) [.str name tk, v] [] _ SO.kind SO.split sub (SO.args (.ref e) (.str name tk) v) ?_)
  rw [osa_eq, refuse_eq]
  refine wpAny_bind (wpAny_bind (ty.here (wpAny_bind (hm.here ?_))))
  rw [hmro, refuseLoop_ref, refuseLoop_ref, SV.passes]
  refine wpAny_pure (wpAny_bind (ty.here (wpAny_bind (lkn.here (wpAny_bind (wpAny_pure ?_))))))
  show wpAny _ _ (storeInOwnDict (.ref e) (.ref C) (.str name tk) name v false) _ _ _
  have cdl := looks_clsIn (M := model prog w) X hc
  unfold storeInOwnDict ownDictForStores instanceDict
  refine wpAny_bind (wpAny_pure (wpAny_bind (wpAny_bind (wpAny_loadPart hx (wpAny_bind (cdl.here ?_))))))
  rw [hdict]
  simp only [Bool.not_true, Bool.false_eq_true, if_false]
  rcases hd with ⟨rfl, hmA⟩ | ⟨dx, rfl, hne, hns⟩
  · dsimp only
    rw [if_neg (by simp [typeHasDict])]
    have hlt : e < h.objs.size := Heap.lt_size hx
    have hes : e ≠ h.objs.size := Nat.ne_of_lt hlt
    refine wpAny_bind (wpAny_alloc' (wpAny_bind (wpAny_update' (Heap.get?_push_of_some _ hx) (wpAny_pure ?_))))
    generalize hh1 : (h.push { cls := .type "dict", data := .dict #[] }).update e (fun o => { cls := o.cls, dict := some h.objs.size, data := o.data, slots := o.slots }) = h1
    have gd : h1.get? h.objs.size = some { cls := .type "dict", data := .dict #[] } := by rw [← hh1]; exact (Heap.get?_update_ne _ _ _ _ hes.symm).trans (Heap.get?_push_at rfl rfl)
    have ge : h1.get? e = some { cls := .ref C, dict := some h.objs.size, data := dat, slots := sls } := by
      rw [← hh1]
      refine Heap.get?_update_self _ (Heap.get?_push_of_some _ hx) ?_
      have fr := (Heap.get?_some_iff.mp hx).2
      cases dat <;> first | rfl | exact fr
    have up1 : ∀ b o, b ≠ e → h.get? b = some o → h1.get? b = some o := fun b o hb z => by rw [← hh1]; exact (Heap.get?_update_ne _ _ _ _ hb).trans (Heap.get?_push_of_some _ z)
    have e0 : h1.Ns h.objs.size (fun _ => none) := ⟨_, #[], _, gd, rfl, fun z hz => absurd hz (by simp), fun _ => rfl⟩
    show wpAny _ _ (storeInDict h.objs.size (.str name tk) name v) _ _ _
    unfold storeInDict newKeyGuard
    refine wpAny_bind (wpAny_pure (wpAny_bind (wpAny_nsSet1 (Heap.Ns1.of_empty e0) fun h2 n2 s2 => ?_)))
    obtain ⟨oD, esD, epD, hoD, hdD, hcD⟩ := n2.count (Within.cons name v Within.nil)
    refine wpAny_bind (wpAny_lookBehind hoD (by rw [hdD]; exact pastItsLine_dict (Nat.le_trans hcD (by simp [sizeLine_eq]))) ?_)
    refine wpAny_pure (hq h2 _ ⟨_, (s2.2 e hes).trans ge, rfl, hnc, .inr ⟨h.objs.size, rfl, hes.symm, ?_⟩⟩ ⟨fun b o hb _ z => (s2.2 b (Nat.ne_of_lt (Heap.lt_size z))).trans (up1 b o hb z), fun o0 z => ?_⟩)
    · have ef : (fun y => if y = name then some v else mA y) = fun y => if y = name then some v else (none : Option Value) := by
        funext y; rw [hmA y]
      rw [ef]; exact n2
    · rw [hx] at z; cases z
      exact ⟨_, _, (s2.2 e hes).trans ge, rfl, rfl, rfl, rfl, .inr ⟨rfl, rfl⟩⟩
  · refine wpAny_pure ?_
    show wpAny _ _ (storeInDict dx (.str name tk) name v) _ _ _
    unfold storeInDict newKeyGuard
    refine wpAny_bind (wpAny_pure (wpAny_bind (wpAny_nsSet1 hns fun h2 n2 s2 => ?_)))
    obtain ⟨oD, esD, epD, hoD, hdD, hcD⟩ := n2.count (Within.cons name v hw)
    refine wpAny_bind (wpAny_lookBehind hoD (by rw [hdD]; exact pastItsLine_dict (Nat.le_trans hcD (by rw [List.length_cons, sizeLine_eq]; omega))) ?_)
    refine wpAny_pure (hq h2 _ ⟨_, (s2.2 e hne.symm).trans hx, rfl, hnc, .inr ⟨dx, rfl, hne, n2⟩⟩ ⟨fun b o hb hbd z => (s2.2 b (hbd _ dx hx rfl)).trans z, fun o0 z => ⟨o0, dx, (s2.2 e hne.symm).trans z, rfl, rfl, rfl, by rw [hx] at z; cases z; rfl, .inl (by rw [hx] at z; cases z; rfl)⟩⟩)
end
end L3
set_option Elab.async false
set_option linter.all false
set_option maxRecDepth 100000
set_option maxHeartbeats 4000000
namespace L3
open PySem PySem.W PySem.Spec PyProof.Rows L2
open Builtin Builtin.ObjectAttr
section
variable {prog : Program} {w : World} {A : Around} {E : Value → Shared → Prop} {R : Result → Shared → Prop} {K : Frag} {Wt C f e : Addr} {h : Heap} {g : Array GenState} {d : Drawn} {t : Nat} {os : OsState} {mA : Str → Option Value} {name : Str} {v : Value}
theorem exc_setattr {ns : List Str} {Q : Unit → Shared → Prop} (c : ECls K Wt C f) (X : K.In h) (na : findIn K (.ref C) name = some none) (I : h.Inst e C mA) (hw : Within mA ns) (hl : ns.length ≤ 1000)
    (hq : ∀ h' tk', h'.Inst e C (fun y => if y = name then some v else mA y) → Left h h' e → Q () ⟨h', g, d, tk', os⟩) :
    wpAny (model prog w) A (setAttr (.ref e) name v) Q E ⟨h, g, d, t, os⟩ := by
  have SO := PySem.F.store_object
  obtain ⟨⟨cl, dct, dat, sls⟩, hx, hcl, hnc, hd⟩ := id I
  dsimp only at hcl hnc hd
  subst hcl
  have ty : Looks (model prog w) h (typeOf (.ref e)) (.ref C) := (Looks.ld hx).andThen .now
  have sa := looks_findIn (M := model prog w) X c.sa
  have bnd := SO.slot.bind (.ref e)
  unfold setAttr callSpecial? specialOf
  refine wpAny_bind (wpAny_mkText ?_)
  refine wpAny_bind (wpAny_bind (wpAny_bind (ty.here (sa.here (wpAny_holding ?_)))))
  rw [bnd]
  refine wpAny_bind (wpAny_pure (wpAny_bind (wpAny_call ?_)))
  refine exc_put c X na I hw hl fun h' tk' I' L => ?_
  exact wpAny_pure (wpAny_pure (hq h' tk' I' L))
end
end L3
set_option Elab.async false
set_option linter.all false
set_option maxRecDepth 100000
set_option maxHeartbeats 4000000
namespace L3
open PySem PySem.W PySem.Spec PyProof.Rows L2
inductive InitBody : List Str → List Stmt → Prop
  | nil : InitBody [] []
  | pass {pos : Pos} : InitBody [] [.Pass pos]
  | cons {p : Str} {ps : List Str} {b : List Stmt} {x y z pos : Pos} : InitBody ps b → InitBody (p :: ps) (.Assign [.Attribute (.Name "self" x) p y] (.Name p z) pos :: b)
noncomputable def setsM (m : Str → Option Value) : List Str → (Str → Option Value) → Str → Option Value
  | [], M => M
  | p :: ps, M => setsM m ps fun y => if y = p then m p else M y
structure ISt (hb : Heap) (L e C t : Addr) (m mA : Str → Option Value) (ns : List Str) (h : Heap) : Prop where
  keep : ∀ b o, hb.get? b = some o → b ≠ e → h.get? b = some o
  fr : h.Ns L m
  obj : ∃ dct, h.get? e = some (excObj C t dct) ∧ ((dct = none ∧ ∀ n, mA n = none) ∨ ∃ dx, dct = some dx ∧ dx ≠ e ∧ dx ≠ L ∧ hb.objs.size ≤ dx ∧ h.Ns1 dx mA)
  wi : Within mA ns
  sz : hb.objs.size ≤ h.objs.size
section
variable {prog : Program} {w : World} {A : Around} {E : Value → Shared → Prop} {K : Frag} {Wt C f e L t0 : Addr} {hb : Heap} {g : Array GenState} {d : Drawn} {os : OsState} {m mA : Str → Option Value} {env : Env}
theorem ISt.inst {ns : List Str} {h : Heap} (I : ISt hb L e C t0 m mA ns h) : h.Inst e C mA := by
  obtain ⟨dct, ge, z⟩ := I.obj
  refine ⟨_, ge, rfl, fun c q => (nomatch q), ?_⟩
  rcases z with z | ⟨dx, rfl, n1, _, _, n⟩
  · exact .inl z
  · exact .inr ⟨dx, rfl, n1, n⟩
theorem ISt.put {ns : List Str} {h h' : Heap} {name : Str} {v : Value} (I : ISt hb L e C t0 m mA ns h) (he : e < hb.objs.size) (hL : hb.objs.size ≤ L) (J : h'.Inst e C (fun y => if y = name then some v else mA y)) (lf : Left h h' e) :
    ISt hb L e C t0 m (fun y => if y = name then some v else mA y) (name :: ns) h' := by
  obtain ⟨dct, ge, z⟩ := I.obj
  obtain ⟨o1, dx, g1, c1, d1, s1, e1, e2⟩ := lf.2 _ ge
  have hLs : L < h.objs.size := I.fr.lt
  have hes : e < h.objs.size := Heap.lt_size ge
  have dxs : dx ≠ e ∧ dx ≠ L ∧ hb.objs.size ≤ dx := by
    rcases e2 with q | ⟨q, rfl⟩
    · rcases z with ⟨z, _⟩ | ⟨dy, z, a1, a2, a3, _⟩
      · rw [z] at q; cases q
      · rw [z] at q; cases q; exact ⟨a1, a2, a3⟩
    · exact ⟨Nat.ne_of_gt hes, Nat.ne_of_gt hLs, I.sz⟩
  have old : ∀ o0 dy, h.get? e = some o0 → o0.dict = some dy → dy ≠ L ∧ hb.objs.size ≤ dy := fun o0 dy q1 q2 => by
    rw [ge] at q1; cases q1
    rcases z with ⟨z, _⟩ | ⟨dz, z, a1, a2, a3, _⟩
    · rw [z] at q2; cases q2
    · rw [z] at q2; cases q2; exact ⟨a2, a3⟩
  have n1 : h'.Ns1 dx (fun y => if y = name then some v else mA y) := by
    obtain ⟨o, q1, _, _, q2⟩ := J
    rw [g1] at q1; cases q1
    rcases q2 with ⟨q2, _⟩ | ⟨dy, q2, _, q3⟩
    · rw [e1] at q2; cases q2
    · rw [e1] at q2; cases q2; exact q3
  refine ⟨fun b o q1 q2 => lf.1 b o q2 (fun o0 dy r1 r2 => Nat.ne_of_lt (Nat.lt_of_lt_of_le (Heap.lt_size q1) (old o0 dy r1 r2).2)) (I.keep b o q1 q2), ?_, ⟨some dx, ?_, .inr ⟨dx, rfl, dxs.1, dxs.2.1, dxs.2.2, n1⟩⟩, Within.cons name v I.wi, ?_⟩
  · obtain ⟨o, es, ep, q, r⟩ := I.fr
    exact ⟨o, es, ep, lf.1 L o (Nat.ne_of_gt (Nat.lt_of_lt_of_le he hL)) (fun o0 dy r1 r2 => (old o0 dy r1 r2).1.symm) q, r⟩
  · obtain ⟨c, dd, da, sl⟩ := o1
    dsimp only at c1 d1 s1 e1
    subst c1 d1 s1 e1
    exact g1
  · have : L < h'.objs.size := by
      obtain ⟨o, es, ep, q, r⟩ := I.fr
      exact Heap.lt_size (lf.1 L o (Nat.ne_of_gt (Nat.lt_of_lt_of_le he hL)) (fun o0 dy r1 r2 => (old o0 dy r1 r2).1.symm) q)
    exact Nat.le_of_lt (Nat.lt_of_le_of_lt hL this)
theorem init_run (c : ECls K Wt C f) (X : K.In hb) (he : e < hb.objs.size) (hKe : K.lookup e = none) (hL : hb.objs.size ≤ L) (hk : env.scope.kind = .function) (hl : env.locals = L) (hself : m "self" = some (.ref e) ∧ env.kindOf "self" = some .local) {Q : Flow → Shared → Prop} :
    ∀ (ps : List Str) (body : List Stmt) (mA : Str → Option Value) (ns : List Str) (h : Heap) (tk : Nat), InitBody ps body → ISt hb L e C t0 m mA ns h → ns.length + ps.length ≤ 1000 →
    (∀ p ∈ ps, findIn K (.ref C) p = some none ∧ (p == ("__debug__" : Str)) = false ∧ env.kindOf p = some .local ∧ ∃ v, m p = some v) →
    (∀ h' tk' ns', ISt hb L e C t0 m (setsM m ps mA) ns' h' → Q .next ⟨h', g, d, tk', os⟩) → wpAny (model prog w) A (execs body env) Q E ⟨h, g, d, tk, os⟩
  | [], _, mA, ns, h, tk, .nil, I, _, _, q => wpAny_execs_nil (q h tk ns I)
  | [], _, mA, ns, h, tk, .pass, I, _, _, q => wpAny_execs_cons (wpAny_Pass (wpAny_execs_nil (q h tk ns I)))
  | p :: ps, _, mA, ns, h, tk, .cons B, I, hz, hp, q => by
    obtain ⟨na, nd, kp, v, hv⟩ := hp p List.mem_cons_self
    rw [List.length_cons] at hz
    have XK : K.In h := fun b o z => I.keep b o (X b o z) fun y => by rw [y, hKe] at z; cases z
    have fr : h.Ns env.locals m := by rw [hl]; exact I.fr
    refine wpAny_execs_cons (plainObj_wpAny_Assign_Attribute (wpAny_Name (wpAny_loadName_local hk kp fr hv (wpAny_Name (wpAny_loadName_local hk hself.2 fr hself.1 ?_))) nd))
    refine exc_setattr c XK na I.inst I.wi (by omega) fun h' tk' J lf => ?_
    refine init_run c X he hKe hL hk hl hself ps _ _ (p :: ns) h' tk' B (I.put he hL J lf) (by rw [List.length_cons]; omega) (fun x hx => hp x (List.mem_cons_of_mem _ hx)) fun h2 tk2 ns2 I2 => q h2 tk2 ns2 ?_
    rw [setsM]
    rw [hv]
    exact I2
end
end L3
set_option Elab.async false
set_option linter.all false
set_option maxRecDepth 100000
set_option maxHeartbeats 4000000
namespace L3
open PySem PySem.W PySem.Spec PyProof.Rows L2
structure EIni (K : Frag) (C f : Addr) (ps : List Str) : Prop where
  fn : ∃ (qual : Str) (params : Arguments) (body : List Stmt) (scope : Scope) (oc : Value) (od : Option Addr) (kV doc pm : Value) (an : Option Addr) (cdv ct : Value) (osl : Array (Option Value)),
    K.lookup f = some ⟨oc, od, .func (fnOf "__init__" qual params body scope .none kV doc pm an cdv ct), osl⟩ ∧ codeIn K cdv qual = true ∧ FnScope (("self" : Str) :: ps) (("self" : Str) :: ps) scope ∧ (∀ p ∈ ("self" : Str) :: ps, scope.names.lookup p = some .local) ∧ InitBody ps body ∧
    ∀ us : List Value, us.length = ps.length + 1 → bindArgs (fnOf "__init__" qual params body scope .none kV doc pm an cdv ct) ⟨us, []⟩ = pure ((("self" : Str) :: ps).zip us)
  na : ∀ p ∈ ps, findIn K (.ref C) p = some none ∧ (p == ("__debug__" : Str)) = false
  few : ps.length ≤ 100
structure EMade (h h' : Heap) (e C : Addr) (mF : Str → Option Value) : Prop where
  keeps : ∀ b o, h.get? b = some o → h'.get? b = some o
  new : h.objs.size ≤ e
  obj : ∃ t dct, h'.get? e = some (excObj C t dct) ∧ ((dct = none ∧ ∀ n, mF n = none) ∨ ∃ dx, dct = some dx ∧ dx ≠ e ∧ h.objs.size ≤ dx ∧ h'.Ns1 dx mF)
noncomputable def fMap : List Str → List Value → Str → Option Value
  | p :: ps, v :: vs, y => if y = p then some v else fMap ps vs y
  | _, _, _ => none
theorem setsM_at (m : Str → Option Value) : ∀ (ps : List Str) (M : Str → Option Value) (y : Str), setsM m ps M y = if y ∈ ps then m y else M y
  | [], M, y => by simp [setsM]
  | p :: ps, M, y => by
    rw [setsM, setsM_at m ps]
    by_cases h : y ∈ ps
    · simp [h]
    · by_cases h2 : y = p
      · subst h2; simp [h]
      · simp [h, h2]
theorem fMap_get : ∀ {ps : List Str} {vs : List Value} {i : Nat} {p : Str} {v : Value}, ps.Nodup → ps[i]? = some p → vs[i]? = some v → fMap ps vs p = some v
  | [], _, _, _, _, _, h, _ => by simp at h
  | _ :: _, [], _, _, _, _, _, h => by simp at h
  | q :: ps, w :: vs, 0, p, v, nd, h1, h2 => by
    cases h1; cases h2; simp [fMap]
  | q :: ps, w :: vs, i + 1, p, v, nd, h1, h2 => by
    have nd' := List.nodup_cons.mp nd
    have h1 : ps[i]? = some p := h1
    have h2 : vs[i]? = some v := h2
    have hne : p ≠ q := fun z => nd'.1 (by rw [← z]; exact List.mem_of_getElem? h1)
    rw [fMap, if_neg hne]
    exact fMap_get nd'.2 h1 h2
theorem fMap_out : ∀ {ps : List Str} {vs : List Value} {y : Str}, y ∉ ps → fMap ps vs y = none
  | [], _, _, _ => by simp [fMap]
  | _ :: _, [], _, _ => by simp [fMap]
  | q :: ps, w :: vs, y, h => by
    rw [fMap, if_neg (fun z => h (by simp [z]))]
    exact fMap_out fun z => h (List.mem_cons_of_mem _ z)
section
variable {prog : Program} {w : World} {A : Around} {E : Value → Shared → Prop} {K : Frag} {Wt C f : Addr} {ps : List Str} {h : Heap} {g : Array GenState} {d : Drawn} {tk : Nat} {os : OsState}
theorem exc_made {us : List Value} {Q : Value → Shared → Prop} (c : ECls K Wt C f) (i : EIni K C f ps) (X : K.In h) (lim : h.NoLimit) (hr : Room 2 A) (hl : us.length = ps.length)
    (hq : ∀ h' tk' e, EMade h h' e C (fMap ps us) → Q (.ref e) ⟨h', g, d, tk', os⟩) : wpAny (model prog w) A (call (.ref C) us) Q E ⟨h, g, d, tk, os⟩ := by
  have few := i.few
  refine wpAny_call (exc_call c X (by rw [sizeLine_eq]; omega) ?_)
  obtain ⟨qual, params, body, scope, oc, od, kV, doc, pm, an, cdv, ct, osl, lk, hcd, S, loc, IB, bd⟩ := i.fn
  generalize hh : (h.push { cls := .type "tuple", data := .seq us.toArray }).push (excObj C h.objs.size none) = hb
  have up : ∀ b o, h.get? b = some o → hb.get? b = some o := fun b o z => by rw [← hh]; exact Heap.get?_push_of_some _ (Heap.get?_push_of_some _ z)
  have here : hb.get? (h.objs.size + 1) = some (excObj C h.objs.size none) := by rw [← hh]; heap_get
  have hsz : hb.objs.size = h.objs.size + 2 := by rw [← hh, Heap.size_push, Heap.size_push]
  have X1 : K.In hb := X.keeps up
  have hKe : K.lookup (h.objs.size + 1) = none := by
    cases q : K.lookup (h.objs.size + 1) with
    | none => rfl
    | some o => exact absurd (Heap.lt_size (X _ _ q)) (Nat.not_lt.mpr (Nat.le_succ _))
  have hlu : (Value.ref (h.objs.size + 1) :: us).length = ps.length + 1 := by simp [hl]
  have hr1 : Room 1 (A.under (.builtin "type.__call__" ⟨.ref C :: us, []⟩)) := hr.make C us []
  refine codeAny_call_function hr1.depth (X1 _ _ lk) rfl S.co S.gen rfl (codeRec_of X1 hcd) (BindsTo.of_eq (bd _ hlu) _ _ _ _ ?_)
  refine wpAny_newFunctionEnv_cells S.kind (fun y hy => .inl (loc y.1 (List.of_mem_zip hy).1)) fun env he s1 x => ?_
  subst he
  refine ⟨lim.keeps fun b o z => x.toInCall.keep b o (up b o z), codeAny_func ?_⟩
  obtain ⟨h1, tk1, rfl, hk1⟩ := x.done
  have fr := x.toInCall.ns
  have nd := List.nodup_cons.mp S.nd
  have kd : ∀ p ∈ ("self" : Str) :: ps, (envOfC qual scope hb.objs.size f cdv).kindOf p = some .local := fun p hp => loc p hp
  have bg : ∀ {i : Nat} {p : Str} {v : Value}, (("self" : Str) :: ps)[i]? = some p → (Value.ref (h.objs.size + 1) :: us)[i]? = some v → bindL (envOfC qual scope hb.objs.size f cdv).kindOf ((("self" : Str) :: ps).zip (Value.ref (h.objs.size + 1) :: us)) (fun _ => none) p = some v :=
    fun h1 h2 => bindL_get S.nd h1 h2 (kd _ (List.mem_of_getElem? h1))
  have at_ : ∀ p ∈ ps, ∃ v, fMap ps us p = some v ∧ bindL (envOfC qual scope hb.objs.size f cdv).kindOf ((("self" : Str) :: ps).zip (Value.ref (h.objs.size + 1) :: us)) (fun _ => none) p = some v := fun p hp => by
    obtain ⟨j, hj, e⟩ := List.mem_iff_getElem.mp hp
    have e1 : ps[j]? = some p := by rw [List.getElem?_eq_getElem hj, e]
    have e2 : us[j]? = some (us[j]'(by omega)) := List.getElem?_eq_getElem _
    exact ⟨_, fMap_get nd.2 e1 e2, bg (i := j + 1) e1 e2⟩
  have hk2 : ∀ b o, hb.get? b = some o → h1.get? b = some o := hk1
  refine init_run (hb := hb) (L := hb.objs.size) (t0 := h.objs.size) (C := C) (e := h.objs.size + 1) (f := f) c X1 (by rw [hsz]; exact Nat.lt_succ_self _) hKe (Nat.le_refl _) S.kind rfl ⟨bg (i := 0) rfl rfl, kd _ List.mem_cons_self⟩ ps body (fun _ => none) [] h1 tk1 IB
    ⟨fun b o z _ => hk2 b o z, fr, ⟨none, hk2 _ _ here, .inl ⟨rfl, fun _ => rfl⟩⟩, Within.nil, Nat.le_of_lt fr.lt⟩ (by rw [List.length_nil, Nat.zero_add]; exact Nat.le_trans few (by decide)) (fun p hp => ⟨(i.na p hp).1, (i.na p hp).2, kd p (List.mem_cons_of_mem _ hp), let ⟨v, _, z⟩ := at_ p hp; ⟨v, z⟩⟩) fun h' tk' ns' I' => ?_
  refine ⟨rfl, hq h' tk' _ ⟨fun b o z => I'.keep b o (up b o z) (Nat.ne_of_lt (Nat.lt_succ_of_lt (Heap.lt_size z))), Nat.le_succ _, ?_⟩⟩
  have em : setsM (bindL (envOfC qual scope hb.objs.size f cdv).kindOf ((("self" : Str) :: ps).zip (Value.ref (h.objs.size + 1) :: us)) (fun _ => none)) ps (fun _ => none) = fMap ps us := by
    funext y
    rw [setsM_at]
    by_cases hy : y ∈ ps
    · obtain ⟨v, z1, z2⟩ := at_ y hy
      rw [if_pos hy, z1, z2]
    · rw [if_neg hy, fMap_out hy]
  obtain ⟨dct, ge, z⟩ := I'.obj
  rw [em] at z
  refine ⟨_, dct, ge, ?_⟩
  rcases z with z | ⟨dx, z1, z2, _, z4, z5⟩
  · exact .inl z
  · exact .inr ⟨dx, z1, z2, Nat.le_trans (by rw [hsz]; exact Nat.le_add_right _ 2) z4, z5⟩
end
end L3
set_option Elab.async false
set_option linter.all false
set_option maxRecDepth 100000
set_option maxHeartbeats 4000000
namespace L3
open PySem PySem.W PySem.Spec PyProof.Rows L2
section
variable {M : Model} {A : Around} {E : Value → Shared → Prop} {K : Frag} {Wt C f : Addr} {s : Shared} {env : Env}
theorem exc_throw {x : Sem Value} {Q : Flow → Shared → Prop} (c : ECls K Wt C f) (hh : A.handled = none)
    (h : wpAny M A x (fun v s1 => ∃ e t dct, v = .ref e ∧ K.In s1.heap ∧ s1.heap.get? e = some (excObj C t dct) ∧ E (.ref e) s1) E s) :
    wpAny M A (raiseStmt env (some x) none) Q E s := by
  unfold raiseStmt
  refine wpAny_bind (wpAny_mono h (fun v s1 h1 => ?_) fun _ _ z => z)
  obtain ⟨e, t, dct, rfl, X, ge, q⟩ := h1
  obtain ⟨nm, qn, N, bs, hdct, sn, sub, ab, col, dd, k0, k1, k2, k3, k5, lk⟩ := c.obj
  have hC := X _ _ lk
  have has : (Value.ref C :: .ref Wt :: vMro).contains (.type "BaseException") = true := rfl
  obtain ⟨hp, g, d, tk, os⟩ := s1
  repeat (first | with_reducible refine wpAny_loadPart_at ge ?_ | with_reducible refine wpAny_loadPart_at hC ?_ | (with_reducible refine wpAny_isSubtype_exc hC ?_; rw [has]) | wp_step)
  exact wpAny_raiseNew_none hh q
end
section
variable {X : Cx} {K : Frag} {Wt C f : Addr} {ps : List Str} {x : Str} {p cp pos : Pos} {a : Expr} {es : List Expr} {t : TA}
noncomputable def tRaise (W : List V → Hp → Prop) (ps : List Str) (t : TA) : TS := fun _ σ H => t σ H fun vs H1 => vs.length = ps.length ∧ W vs H1
noncomputable def Asks (X : Cx) (C : Addr) (ps : List Str) (W : List V → Hp → Prop) : Prop := ∀ (pins : List (Addr × Obj)) (σ : St) (H : Hp) (s : Shared) (e : Addr) (h' : Heap) (tk : Nat) (us : List Value) (vs : List V),
  Inv X pins σ H s → Vals vs us → EMade s.heap h' e C (fMap ps us) → W vs H → X.xe (.ref e) { s with heap := h', toks := tk }
theorem ps_raise {W : List V → Hp → Prop} (c : ECls X.K Wt C f) (i : EIni X.K C f ps) (hr : Room 2 X.A) (hg : Gl X x) (hm : X.mg x = some (.ref C)) (hA : Asks X C ps W) (ha : PA X (a :: es) t)
    (hdb : (x == ("__debug__" : Str)) = false := by decide) (he : starEach (a :: es) X.env = (false, eval a X.env) :: starEach es X.env := by rfl) (hpl : (backTo cp (starEach es X.env)).any (·.1) = false := by rfl) :
    PS X (.Raise (some (.Call (.Name x p) (a :: es) [] cp)) none pos) (tRaise W ps t) := by
  intro pins s σ H D I h
  rw [arm_exec_Raise]
  refine wpAny_bind (wpAny_standAt (exc_throw (K := X.K) c hr.hd ?_))
  refine wpAny_bind (wpAny_mono ?_ (fun v s2 q => wpAny_bind (wpAny_standAt (wpAny_pure q))) fun _ _ z => z)
  refine wpAny_Call_Name_kw (ld_glob I hg hm ?_ hdb)
  refine PySem.W.callWith_K (h₀ := X.base) I.ok.mod.kin c.kp (thn (ha cp pins s σ H _ I h) fun us s1 ⟨vs, H1, I1, r, q⟩ => ⟨I1.kIn, ?_⟩) he hpl
  obtain ⟨hp, g, d, tk, os⟩ := s1
  refine exc_made c i I1.kIn I1.nolimit hr (by show us.length = _; rw [← r.length]; exact q.1) fun h' tk' e M => ?_
  obtain ⟨t0, dct, ge, z⟩ := M.obj
  exact ⟨e, t0, dct, rfl, I1.kIn.keeps M.keeps, ge, hA pins σ H1 _ e h' tk' us vs I1 r M q.2⟩
end
end L3
set_option Elab.async false
set_option linter.all false
set_option maxRecDepth 100000
set_option maxHeartbeats 4000000
namespace L3
open PySem PySem.W PySem.Spec PyProof.Rows L2
noncomputable def Err (h : Heap) (e C : Addr) (dct : Option Addr) (tb : Value) : Prop := ∃ vs, h.get? e = some { cls := .ref C, dict := dct, data := .fields vs } ∧ vs[1]? = some tb
noncomputable def Tbk (h : Heap) (T : Addr) (fl : Value) : Prop := ∃ o ts, h.get? T = some o ∧ o.data = .fields ts ∧ ts[3]? = some fl
structure Turned (fr S : List Addr) (h h' : Heap) : Prop where
  keep : ∀ b o, b ∉ fr → b ∉ S → h.get? b = some o → h'.get? b = some o
  slot : ∀ b o, b ∉ S → h.get? b = some o → ∃ sl, h'.get? b = some { o with slots := sl }
  size : h.objs.size ≤ h'.objs.size
theorem Turned.trans {fr S S' : List Addr} {h h1 h2 : Heap} (a : Turned fr S h h1) (b : Turned fr S' h1 h2) : Turned fr (S ++ S') h h2 where
  keep := fun c o n1 n2 z => b.keep c o n1 (fun q => n2 (List.mem_append_right _ q)) (a.keep c o n1 (fun q => n2 (List.mem_append_left _ q)) z)
  slot := fun c o n z => by
    obtain ⟨sl, z1⟩ := a.slot c o (fun q => n (List.mem_append_left _ q)) z
    obtain ⟨sl', z2⟩ := b.slot c _ (fun q => n (List.mem_append_right _ q)) z1
    exact ⟨sl', z2⟩
  size := Nat.le_trans a.size b.size
theorem turned_upd {fr : List Addr} {h : Heap} {a : Addr} {g : Obj → Obj} : Turned fr [a] h (h.update a g) where
  keep := fun b o _ n z => (Heap.get?_update_ne _ _ _ _ (by simpa using n)).trans z
  slot := fun b o n z => ⟨o.slots, (Heap.get?_update_ne _ _ _ _ (by simpa using n)).trans z⟩
  size := Nat.le_of_eq (Heap.size_update _ _ _).symm
section
variable {M : Model} {A : Around} {E : Value → Shared → Prop} {s : Shared} {base : Heap} {env : Env} {outer : List Env} {L e C T : Addr} {dct : Option Addr} {tb : Value}
theorem new_entry {hadNext : Bool} {head : Value} {Q : Unit → Shared → Prop} (hfr : A.frames = some (env :: outer)) (hl : s.heap.FunFrames base (env :: outer)) (hf : env.frame = some L) (he : Err s.heap e C dct tb)
    (q : ∀ h' T, s.heap.objs.size ≤ T → Err h' e C dct (.ref T) → Tbk h' T (rawInt L) → Turned (frs (env :: outer)) [e] s.heap h' → Q () { s with heap := h' }) :
    wpAny M A (do let a ← frameOf env; let pl ← entryPlaceOf L hadNext; let b ← EntryCells.newEntry head a .none (rawInt L) .none pl; setField (.ref e) 1 b) Q E s := by
  obtain ⟨vs, ge, g1⟩ := he
  have hsz : 1 < vs.size := (Array.getElem?_eq_some_iff.mp g1).1
  have hne : e ∉ frs (env :: outer) := fun z => by
    obtain ⟨_, o, ho, nf⟩ := hl.mem z
    rw [ge] at ho; cases ho
    exact nf vs rfl
  refine wpAny_bind (wpAny_frameOf_fun hfr hl hf fun h1 ⟨z1, z2, z3⟩ => wpAny_bind (wpAny_entryPlaceOf fun pl hpl => ?_))
  unfold EntryCells.newEntry newFields
  refine wpAny_bind (wpAny_newObj_type ?_ (hpl.sizeOk5 _ _ _ _ _))
  have ge1 : h1.get? e = some { cls := .ref C, dict := dct, data := .fields vs } := (z2 e hne).trans ge
  generalize hts : ([head, Value.ref L, Value.none, rawInt L, Value.none] ++ (if pl.isEmpty then List.replicate 6 Value.none else pl)).toArray = ts
  have t3 : ts[3]? = some (rawInt L) := by rw [← hts]; first | (simp; done) | (rcases hpl with rfl | ⟨_, _, _, _, _, _, _, rfl⟩ <;> simp)
  generalize hO : ({ cls := Value.type "traceback", dict := none, data := Data.fields ts } : Obj) = O
  have ge2 : (h1.push O).get? e = some { cls := .ref C, dict := dct, data := .fields vs } := Heap.get?_push_of_some O ge1
  refine wpAny_setField ge2 rfl hsz ?_
  have hTe : h1.objs.size ≠ e := Nat.ne_of_gt (Heap.lt_size ge1)
  have sz1 : h1.objs.size = s.heap.objs.size := z1
  refine q _ h1.objs.size (Nat.le_of_eq sz1.symm) ⟨vs.setIfInBounds 1 (.ref h1.objs.size), ?_, by simp [hsz]⟩ ⟨O, ts, ?_, by rw [← hO], t3⟩ ⟨fun b o n1 n2 z => ?_, fun b o n z => ?_, ?_⟩
  · exact Heap.get?_update_self (Obj.mapFields (·.setIfInBounds 1 (Value.ref h1.objs.size))) ge2 rfl
  · refine (Heap.get?_update_ne _ _ _ _ hTe).trans (Heap.get?_push_size h1 ?_)
    rw [← hO]; rfl
  · have hb : b ≠ e := by simpa using n2
    exact (Heap.get?_update_ne _ _ _ _ hb).trans (Heap.get?_push_of_some O ((z2 b n1).trans z))
  · have hb : b ≠ e := by simpa using n
    obtain ⟨sl, y⟩ := z3 b o z
    exact ⟨sl, (Heap.get?_update_ne _ _ _ _ hb).trans (Heap.get?_push_of_some O y)⟩
  · rw [Heap.size_update, Heap.size_push, sz1]; exact Nat.le_succ _
theorem note_first {Q : Unit → Shared → Prop} (hfr : A.frames = some (env :: outer)) (hl : s.heap.FunFrames base (env :: outer)) (hf : env.frame = some L) (he : Err s.heap e C dct .none)
    (q : ∀ h' T, s.heap.objs.size ≤ T → Err h' e C dct (.ref T) → Tbk h' T (rawInt L) → Turned (frs (env :: outer)) [e] s.heap h' → Q () { s with heap := h' }) : wpAny M A (noteFrame (.ref e) env) Q E s := by
  obtain ⟨vs, ge, g1⟩ := id he
  unfold noteFrame
  simp only [hf]
  refine wpAny_bind (wpAny_field ge rfl g1 ?_)
  rw [if_neg (show ¬ ((Value.none != Value.none) = true) by decide)]
  exact new_entry hfr hl hf he q
theorem note_next {Q : Unit → Shared → Prop} (hfr : A.frames = some (env :: outer)) (hl : s.heap.FunFrames base (env :: outer)) (hf : env.frame = some L) (he : Err s.heap e C dct (.ref T)) (ht : Tbk s.heap T .none) (hTe : T ≠ e)
    (q : ∀ h' T', s.heap.objs.size ≤ T' → Err h' e C dct (.ref T') → Tbk h' T' (rawInt L) → Turned (frs (env :: outer)) [T, e] s.heap h' → Q () { s with heap := h' }) : wpAny M A (noteFrame (.ref e) env) Q E s := by
  obtain ⟨vs, ge, g1⟩ := id he
  obtain ⟨oT, ts, gt, dt, t3⟩ := ht
  unfold noteFrame
  simp only [hf]
  refine wpAny_bind (wpAny_field ge rfl g1 ?_)
  rw [if_pos (show (Value.ref T != Value.none) = true by simp)]
  refine wpAny_bind (wpAny_field gt dt t3 ?_)
  rw [if_neg (show ¬ ((Value.none == rawInt L) = true) by simp [rawInt])]
  refine wpAny_bind (wpAny_setField gt dt (Array.getElem?_eq_some_iff.mp t3).1 ?_)
  have tu : Turned (frs (env :: outer)) [T] s.heap (s.heap.update T (Obj.mapFields (·.setIfInBounds 3 Value.none))) := turned_upd
  refine new_entry (s := { s with heap := s.heap.update T (Obj.mapFields (·.setIfInBounds 3 Value.none)) }) hfr (hl.of_keeps fun b o z nf => ?_) hf ⟨vs, (Heap.get?_update_ne _ _ _ _ hTe.symm).trans ge, g1⟩ fun h' T' z1 z2 z3 z4 => q h' T' (Nat.le_trans tu.size z1) z2 z3 (tu.trans z4)
  refine ⟨o, (Heap.get?_update_ne _ _ _ _ fun y => ?_).trans z, rfl⟩
  rw [y, gt] at z; cases z
  exact nf ts dt
theorem flight_off {fl : Value} {Q : Unit → Shared → Prop} (he : Err s.heap e C dct (.ref T)) (ht : Tbk s.heap T fl) (hTe : T ≠ e)
    (q : ∀ h', Err h' e C dct (.ref T) → Tbk h' T .none → Turned [] [T] s.heap h' → Q () { s with heap := h' }) : wpAny M A (setFlight (.ref e) none) Q E s := by
  obtain ⟨vs, ge, g1⟩ := he
  obtain ⟨oT, ts, gt, dt, t3⟩ := ht
  have h3 := (Array.getElem?_eq_some_iff.mp t3).1
  unfold setFlight
  refine wpAny_bind (wpAny_field ge rfl g1 ?_)
  rw [if_pos (show (Value.ref T != Value.none) = true by simp)]
  refine wpAny_setField gt dt h3 (q _ ⟨vs, (Heap.get?_update_ne _ _ _ _ hTe.symm).trans ge, g1⟩ ⟨_, ts.setIfInBounds 3 .none, Heap.get?_update_self _ gt (Obj.isFreed_of_fields (Obj.data_mapFields dt _)), Obj.data_mapFields dt _, by simp [h3]⟩ turned_upd)
end
end L3
set_option Elab.async false
set_option linter.all false
set_option maxRecDepth 100000
set_option maxHeartbeats 4000000
namespace L3
open PySem PySem.W PySem.Spec PyProof.Rows L2
section
variable {M : Model} {A : Around} {E : Value → Shared → Prop} {s : Shared} {base : Heap} {env : Env} {outer : List Env} {L e C T : Addr} {dct : Option Addr}
theorem Turned.off {fr S : List Addr} {h h1 h2 : Heap} (a : Turned fr S h h1) (b : Turned [] [T] h1 h2) (hT : h.objs.size ≤ T) : Turned fr S h h2 where
  keep := fun c o n1 n2 z => b.keep c o (by simp) (by simpa using Nat.ne_of_lt (Nat.lt_of_lt_of_le (Heap.lt_size z) hT)) (a.keep c o n1 n2 z)
  slot := fun c o n z => by
    obtain ⟨sl, z1⟩ := a.slot c o n z
    exact ⟨sl, b.keep c _ (by simp) (by simpa using Nat.ne_of_lt (Nat.lt_of_lt_of_le (Heap.lt_size z) hT)) z1⟩
  size := Nat.le_trans a.size b.size
noncomputable def Aloft (h : Heap) (e C : Addr) (dct : Option Addr) (S : List Addr) : Prop := (Err h e C dct .none ∧ S = [e]) ∨ ∃ T, Err h e C dct (.ref T) ∧ Tbk h T .none ∧ T ≠ e ∧ S = [T, e]
theorem Aloft.lt {h : Heap} {S : List Addr} (a : Aloft h e C dct S) : e < h.objs.size := by
  rcases a with ⟨⟨vs, g, _⟩, _⟩ | ⟨T, ⟨vs, g, _⟩, _⟩ <;> exact Heap.lt_size g
theorem leave_any {S : List Addr} {Q : Unit → Shared → Prop} (hfr : A.frames = some (env :: outer)) (hl : s.heap.FunFrames base (env :: outer)) (hf : env.frame = some L) (ha : Aloft s.heap e C dct S)
    (q : ∀ h' T, s.heap.objs.size ≤ T → T ≠ e → Err h' e C dct (.ref T) → Tbk h' T .none → Turned (frs (env :: outer)) S s.heap h' → Q () { s with heap := h' }) : wpAny M A (leaving env (.ref e)) Q E s := by
  have hlt := ha.lt
  unfold leaving
  rcases ha with ⟨he, rfl⟩ | ⟨T, he, ht, hTe, rfl⟩
  · refine wpAny_bind (note_first hfr hl hf he fun h1 T z1 z2 z3 z4 => ?_)
    have hne : T ≠ e := Nat.ne_of_gt (Nat.lt_of_lt_of_le hlt z1)
    exact flight_off (s := { s with heap := h1 }) z2 z3 hne fun h2 y1 y2 y3 => q h2 T z1 hne y1 y2 (z4.off y3 z1)
  · refine wpAny_bind (note_next hfr hl hf he ht hTe fun h1 T' z1 z2 z3 z4 => ?_)
    have hne : T' ≠ e := Nat.ne_of_gt (Nat.lt_of_lt_of_le hlt z1)
    exact flight_off (s := { s with heap := h1 }) z2 z3 hne fun h2 y1 y2 y3 => q h2 T' z1 hne y1 y2 (z4.off y3 z1)
end
theorem hok_turned {P : Program} {w : World} {H : Hp} {h h' : Heap} {fr S : List Addr} (ok : HOk P w H h) (t : Turned fr S h h') (n1 : ∀ b ∈ fr, H b = none) (n2 : ∀ b ∈ S, H b = none) : HOk P w H h' := fun b u z => by
  refine (ok b u z).stay (fun c v hc q => t.keep c v (fun y => ?_) (fun y => ?_) q) (fun _ q => q) fun _ _ q => q
  · rcases hc with rfl | hc
    · rw [n1 _ y] at z; cases z
    · rw [n1 _ y] at hc; cases hc
  · rcases hc with rfl | hc
    · rw [n2 _ y] at z; cases z
    · rw [n2 _ y] at hc; cases hc
noncomputable def Flds (lo : Nat) (dct : Option Addr) (mF : Str → Option Value) (S : List Addr) (H : Hp) (h : Heap) : Prop :=
  (dct = none ∧ ∀ n, mF n = none) ∨ ∃ dx, dct = some dx ∧ dx ∉ S ∧ lo ≤ dx ∧ H dx = none ∧ h.Ns1 dx mF
noncomputable def Fly (lo : Nat) (e C : Addr) (mF : Str → Option Value) (H : Hp) (h : Heap) : Prop :=
  ∃ dct T, Err h e C dct (.ref T) ∧ Tbk h T .none ∧ T ≠ e ∧ lo ≤ e ∧ lo ≤ T ∧ H e = none ∧ H T = none ∧ Flds lo dct mF [T, e] H h
noncomputable def CXe (P : Program) (w : World) : CXT := fun outer H s E ev s' => ∃ (e : Addr) (H' : Hp) (C : Addr) (ps : List Str) (us : List Value) (vs : List V), ev = .ref e ∧ s'.os = s.os ∧ AllBare s'.gens ∧ Un (frs outer) [] H H' s.heap s'.heap ∧ HOk P w H' s'.heap ∧
  Vals vs us ∧ Fly s.heap.objs.size e C (fMap ps us) H' s'.heap ∧ E (.ref C) (some e) (upd H' e (.xd (ps.zip vs)))
structure Goes (X : Cx) (E : XK) : Prop where
  stk : X.stack = X.env :: X.outer
  fr : X.env.frame = some X.env.locals
  ex : X.ex = []
  xe : ∀ e s', wpAny (model X.prog X.w) X.A (leaving X.env e) (fun _ s'' => CXe X.prog X.w X.outer X.H₀ X.s₀ E e s'') (fun e' s'' => CXe X.prog X.w X.outer X.H₀ X.s₀ E e' s'') s' → X.xe e s'
theorem goes_of {P : Program} {w : World} {K : Frag} {mg : Str → Option Value} {base : Heap} {N : List Str} {qual : Str} {scope : Scope} {f : Addr} {cd : Value} {A : Around} {outer : List Env} {s : Shared} {H : Hp} {E : XK} :
    Goes (cxOf (CXe P w) P w K mg base N qual scope f cd A outer s H E) E := ⟨rfl, rfl, rfl, fun _ _ h => h⟩
section
variable {X : Cx} {E : XK} {pins : List (Addr × Obj)} {σ : St} {H : Hp} {s : Shared}
theorem out_of (G : Goes X E) (I : Inv X pins σ H s) {e C : Addr} {dct : Option Addr} {S : List Addr} {ps : List Str} {us : List Value} {vs : List V} (ha : Aloft s.heap e C dct S) (hS : ∀ b ∈ S, X.s₀.heap.objs.size ≤ b ∧ H b = none ∧ b ∉ frs X.stack)
    (hF : Flds X.s₀.heap.objs.size dct (fMap ps us) S H s.heap) (hd : ∀ dx, dct = some dx → dx ∉ frs X.stack) (r : Vals vs us) (q : E (.ref C) (some e) (upd H e (.xd (ps.zip vs)))) : X.xe (.ref e) s := by
  refine G.xe _ _ ?_
  have hfr := I.ok.frames
  have hl := I.stack
  have hfree := I.stkFree
  rw [G.stk] at hfr hl hfree hd hS
  have heS : e ∈ S := by rcases ha with ⟨_, rfl⟩ | ⟨T, _, _, _, rfl⟩ <;> simp
  have ha' := ha
  refine leave_any (base := X.base) hfr hl G.fr ha fun h' T z1 z2 z3 z4 z5 => ?_
  have out : ∀ b o, X.s₀.heap.get? b = some o → b ∉ S := fun b o y z => absurd (Heap.lt_size y) (Nat.not_lt.mpr (hS b z).1)
  have nL : ∀ b o, X.s₀.heap.get? b = some o → b ∉ X.fs → b ∉ frs (X.env :: X.outer) := fun b o y n z => by
    unfold frs at z
    rw [List.filterMap_cons, G.fr] at z
    rcases List.mem_cons.mp z with rfl | z
    · exact absurd (Heap.lt_size y) (Nat.not_lt.mpr I.ok.above)
    · exact n z
  have bs := I.base
  rw [G.ex] at bs
  refine ⟨e, H, C, ps, us, vs, rfl, I.os, I.bare, ⟨fun b o y n hb _ => z5.keep b o (nL b o y hb) (out b o y) (bs.keep b o y n hb (by simp)), fun b o y n hb _ => ?_, fun b o y n _ => bs.free b o y n (by simp), fun b o y _ => ?_, bs.tups, bs.frzs, bs.tbls⟩, hok_turned I.hok z5 hfree fun b hb => (hS b hb).2.1, r,
    ⟨dct, T, z3, z4, z2, (hS e heS).1, Nat.le_trans I.sz z1, (hS e heS).2.1, I.hok.fresh z1, ?_⟩, q⟩
  · obtain ⟨sl, y1⟩ := bs.slot b o y n hb (by simp)
    obtain ⟨sl2, y2⟩ := z5.slot b _ (out b o y) y1
    exact ⟨sl2, y2⟩
  · obtain ⟨o', y1⟩ := bs.there b o y (by simp)
    obtain ⟨sl, y2⟩ := z5.slot b _ (out b o y) y1
    exact ⟨_, y2⟩
  · rcases hF with hF | ⟨dx, rfl, n1, n2, n3, n4⟩
    · exact .inl hF
    · have hdl : dx < s.heap.objs.size := n4.ns.lt
      refine .inr ⟨dx, rfl, fun z => ?_, n2, n3, n4.at fun o y => z5.keep dx o (hd dx rfl) n1 y⟩
      simp only [List.mem_cons, List.not_mem_nil, or_false] at z
      rcases z with z | z
      · exact absurd hdl (by rw [z]; exact Nat.not_lt.mpr z1)
      · exact n1 (by rw [z]; exact heS)
theorem asks_of (G : Goes X E) {C : Addr} {ps : List Str} : Asks X C ps fun vs H => ∀ e, H e = none → E (.ref C) (some e) (upd H e (.xd (ps.zip vs))) := fun pins σ H s e h' tk us vs I r M w => by
  obtain ⟨t, dct, ge, z⟩ := M.obj
  have I' : Inv X pins σ H { s with heap := h', toks := tk } := I.kept M.keeps
  have fre : ∀ b, s.heap.objs.size ≤ b → b ∉ frs X.stack := fun b hb hm => by
    obtain ⟨_, o, ho, _⟩ := I.stack.mem hm
    exact absurd (Heap.lt_size ho) (Nat.not_lt.mpr hb)
  refine out_of G I' (C := C) (dct := dct) (S := [e]) (ps := ps) (us := us) (vs := vs) (.inl ⟨⟨_, ge, rfl⟩, rfl⟩) (fun b hb => ?_) ?_ (fun dx hdx => ?_) r (w e (I.hok.fresh M.new))
  · rw [List.mem_singleton.mp hb]
    exact ⟨Nat.le_trans I.sz M.new, I.hok.fresh M.new, fre e M.new⟩
  · rcases z with z | ⟨dx, z1, z2, z3, z4⟩
    · exact .inl z
    · exact .inr ⟨dx, z1, by simpa using z2, Nat.le_trans I.sz z3, I.hok.fresh z3, z4⟩
  · rcases z with z | ⟨dy, z1, z2, z3, z4⟩
    · rw [z.1] at hdx; cases hdx
    · rw [z1] at hdx; cases hdx; exact fre _ z3
theorem passes_of (G : Goes X E) : Passes (CXe X.prog X.w) X E := fun pins σ H s ev s' I z => by
  obtain ⟨e, H', C, ps, us, vs, rfl, os, bare, un, hok, r, ⟨dct, T, y1, y2, y3, y4, y5, y6, y7, y8⟩, q⟩ := z
  have I' : Inv X pins σ H' s' := I.call' (ch := []) os un hok bare fun b hb => absurd hb (by simp)
  have fre : ∀ b, s.heap.objs.size ≤ b → b ∉ frs X.stack := fun b hb hm => by
    obtain ⟨_, o, ho, _⟩ := I.stack.mem hm
    exact absurd (Heap.lt_size ho) (Nat.not_lt.mpr hb)
  refine out_of G I' (C := C) (dct := dct) (S := [T, e]) (ps := ps) (us := us) (vs := vs) (.inr ⟨T, y1, y2, y3, rfl⟩) (fun b hb => ?_) ?_ (fun dx hdx => ?_) r q
  · simp only [List.mem_cons, List.not_mem_nil, or_false] at hb
    rcases hb with rfl | rfl
    · exact ⟨Nat.le_trans I.sz y5, y7, fre _ y5⟩
    · exact ⟨Nat.le_trans I.sz y4, y6, fre _ y4⟩
  · rcases y8 with y8 | ⟨dx, z1, z2, z3, z4, z5⟩
    · exact .inl y8
    · exact .inr ⟨dx, z1, z2, Nat.le_trans I.sz z3, z4, z5⟩
  · rcases y8 with y8 | ⟨dy, z1, z2, z3, z4, z5⟩
    · rw [y8.1] at hdx; cases hdx
    · rw [z1] at hdx; cases hdx; exact fre _ z3
end
end L3
set_option Elab.async false
set_option linter.all false
set_option maxRecDepth 100000
set_option maxHeartbeats 4000000
namespace L3
open PySem PySem.W PySem.Spec PyProof.Rows L2
open Builtin Builtin.ObjectAttr
structure ECat (K : Frag) (C : Addr) : Prop where
  ga : findIn K (.ref C) "__getattribute__" = some (some (.builtin "BaseException.__getattribute__"))
  gn : findIn K (.ref C) "__getattr__" = some none
  mb : mroIn K C (.type "BaseException") = some true
  mo : mroIn K C (.type "object") = some true
  ca : findIn K (.ref C) "__class__" = some (some (.builtin "object.__class__"))
  cg : specialIn K (.builtin "object.__class__") "__get__" = some (some (.builtin "getset_descriptor.__get__"))
  ct : takesIn K (.builtin "object.__class__") = some true
section
variable {prog : Program} {w : World} {A : Around} {E : Value → Shared → Prop} {K : Frag} {C e : Addr} {oe : Obj} {od : Option Obj} {s : Shared} {name : Str} {tk : Tok}
theorem exc_gaCall {r : Found} {R : Result → Shared → Prop} (c : ECat K C) (X : K.In s.heap) (I : InstAt s.heap e oe C od) (hf : findObj K C od name = some r) (hr : r ≠ .missing)
    (h : ∀ A', wpAny (model prog w) A' (match r with | .value v => ret v | .bind g a => bindTo g a (.ref e) (.ref C) | .missing => ret .none) (fun fin s' => match fin with | .done z => R (.ok z) s' | _ => False) (fun x s' => R (.error x) s') s) :
    codeAny (model prog w) A (.call (.builtin "BaseException.__getattribute__") ⟨[.ref e, .str name tk], []⟩) R s := by
  obtain ⟨hp, g, d, t, os⟩ := s
  have FB := PySem.F.attrBase_ValueError
  have ty := I.type (M := model prog w)
  have L1 := looks_find (M := model prog w) X I hf
  have L2 := looks_mroIn (M := model prog w) X c.mb
  refine codeAny_call_builtin FB.ga.plain PySem.F.entry_bexc_ga ?_
  have hk : builtinKind "BaseException.__getattribute__" = some .slot := by decide +kernel
  have hsp : splitId "BaseException.__getattribute__" = some ("BaseException", "__getattribute__") := by decide +kernel
  have ha := PySem.F.args_bexc_ga (.ref e) (.str name tk)
  have inst : Looks (model prog w) hp (isInstance (.ref e) (.type "BaseException")) true := ty.andThen L2
  simp only [checkBuiltinCall, hk, hsp]
  refine wpAny_bind (inst.at ?_)
  simp only [Bool.not_true, Bool.false_eq_true, if_false]
  unfold argsOk at ha
  generalize Manifest.signature? "BaseException.__getattribute__" = sg at ha ⊢
  suffices hgo : wpAny (model prog w) A.in1 (Builtin.«object.__getattribute__» { pos := [Value.ref e, Value.str name tk] }) (fun fin s' => match fin with | .done f => R (.ok f) s' | .again c' => c'.quiet = true ∧ codeAny (model prog w) A c' R s') (fun e s' => R (.error e) s') ⟨hp, g, d, t, os⟩ by
    cases sg with
    | none => exact wpAny_pure hgo
    | some sig =>
      have ha' : Bind.checkArgs "BaseException.__getattribute__" sig { pos := [Value.ref e, Value.str name tk] } = pure () := ha
      show wpAny _ _ (Bind.checkArgs "BaseException.__getattribute__" sig { pos := [Value.ref e, Value.str name tk] }) _ _ _
      rw [ha']
      exact wpAny_pure hgo
  unfold Builtin.«object.__getattribute__»
  refine wpAny_bind (wpAny_pure (wpAny_bind (wpAny_pure (wpAny_bind (ty.at (wpAny_bind (L1.at ?_)))))))
  have hz := h A.in1
  cases r with
  | value v =>
    refine wpAny_mono hz (fun fin s' z => ?_) fun _ _ z => z
    cases fin <;> first | exact z | exact z.elim
  | bind g a =>
    refine wpAny_mono hz (fun fin s' z => ?_) fun _ _ z => z
    cases fin <;> first | exact z | exact z.elim
  | missing => exact absurd rfl hr
theorem exc_by {r : Found} {fill expr : Bool} {Q : Value → Shared → Prop} (c : ECat K C) (X : K.In s.heap) (I : InstAt s.heap e oe C od) (hf : findObj K C od name = some r) (hr : r ≠ .missing)
    (h : ∀ A', wpAny (model prog w) A' (match r with | .value v => ret v | .bind g a => bindTo g a (.ref e) (.ref C) | .missing => ret .none) (fun fin s' => match fin with | .done (.ret z) => handedIn z = true ∧ Q z s' | _ => False) (fun _ _ => False) s) :
    wpAny (model prog w) A (getAttrBy (.ref e) (.str name tk) fill expr) Q E s := by
  obtain ⟨hp, g, d, t, os⟩ := s
  have FB := PySem.F.attrBase_ValueError
  have ty := I.type (M := model prog w)
  have L1 := looks_findIn (M := model prog w) X c.ga
  have L2 := looks_findIn (M := model prog w) X c.gn
  have f3 := FB.ga.bind (.ref e)
  unfold getAttrBy
  refine wpAny_holding (wpAny_bind (ty.at (wpAny_bind (L1.at ?_))))
  show wpAny _ _ (getAttrByItsOwn _ _ _ _ _ _) _ _ _
  unfold getAttrByItsOwn hookBefore callGetattribute
  refine wpAny_bind (L2.at (wpAny_bind (wpAny_attempt (wpAny_holding ?_))))
  rw [if_neg (show ¬ ((expr && onTheHeap (Value.builtin "BaseException.__getattribute__")) = true) by cases expr <;> decide)]
  unfold boundAndCalled
  rw [f3]
  refine wpAny_bind (wpAny_pure (wpAny_call ?_))
  refine exc_gaCall (s := ⟨hp, g, d, t, os⟩) c X I hf hr fun A' => wpAny_mono (h A') (fun fin s' z => ?_) fun _ _ z => z.elim
  cases fin with
  | again _ => exact z.elim
  | done f =>
    cases f with
    | ret z1 =>
      show wpAny _ _ (handedOut z1) _ _ _
      rw [handedOut_of z.1]
      exact wpAny_pure z.2
    | _ => exact z.elim
theorem exc_field {v : Value} {expr : Bool} {Q : Value → Shared → Prop} (c : ECat K C) (X : K.In s.heap) (I : InstAt s.heap e oe C od) (hf : findObj K C od name = some (.value v)) (hv : handedIn v = true) (h : ∀ tk, Q v { s with toks := tk }) :
    wpAny (model prog w) A (getAttr (.ref e) name expr) Q E s := by
  unfold getAttr
  refine wpAny_bind (wpAny_mkText ?_)
  exact exc_by (s := { s with toks := s.toks + 1 }) c X I hf (by simp) fun A' => wpAny_pure ⟨hv, h _⟩
theorem exc_class {Q : Option Value → Shared → Prop} (c : ECat K C) (X : K.In s.heap) (I : InstAt s.heap e oe C od) (h : Q (some (.ref C)) { s with toks := s.toks + 1 }) :
    wpAny (model prog w) A (getAttr? (.ref e) "__class__") Q E s := by
  have hcd : (clsIn K C).isSome = true := by
    have z := c.mo
    unfold mroIn at z
    cases q : clsIn K C with
    | none => rw [q] at z; cases z
    | some cd => rfl
  have hf : findObj K C od "__class__" = some (.bind (.builtin "getset_descriptor.__get__") (.builtin "object.__class__")) := by
    obtain ⟨cd, hc⟩ := Option.isSome_iff_exists.mp hcd
    simp only [findObj, hc, c.ca, c.cg, c.ct, Option.bind_some]
  unfold getAttr? getAttrBy?
  refine wpAny_bind (wpAny_mkText (wpAny_bind (wpAny_attempt ?_)))
  refine exc_by (s := { s with toks := s.toks + 1 }) c X I hf (by simp) fun A' => ?_
  unfold bindTo
  refine wpAny_bind (wpAny_holding (wpAny_call (class_get (s := { s with toks := s.toks + 1 }) (ox := oe) (od := od) X I c.mo ?_)))
  exact wpAny_pure ⟨rfl, wpAny_pure h⟩
theorem exc_kit (c : ECat K C) : KitX K (.ref e) (.ref C) (fun h => InstAt h e oe C od) where
  ty := fun _ _ _ I => I.type
  it := fun _ _ X _ => by
    have z := c.mo
    unfold mroIn clsIn at z
    split at z
    · rename_i c' d' cd' sl' ho
      intro A' Q' E' s' k q
      unfold isType loadHead
      exact wpAny_bind (wpAny_loadPart (k _ _ (X _ _ ho)) (wpAny_pure q))
    · cases z
  ne := fun h tp dd its n sl X htp => by
    have z := c.mo
    unfold mroIn clsIn at z
    refine Bool.eq_false_iff.mpr fun q => ?_
    have e : C = tp := Value.ref.inj (beq_iff_eq.mp q)
    subst e
    split at z
    · rename_i c' d' cd' sl' ho
      cases (X _ _ ho).symm.trans htp
    · cases z
  ca := fun X I k => exc_class c X I k
end
end L3
set_option Elab.async false
set_option linter.all false
set_option maxRecDepth 100000
set_option maxHeartbeats 4000000
namespace L3
open PySem PySem.W PySem.Spec PyProof.Rows L2
structure Has (X : Cx) (e C : Addr) (fs : List (Str × V)) : Prop where
  ob : ∃ oe od, (e, oe) ∈ X.pn ∧ oe.cls = .ref C ∧ notCls oe = true ∧
    ((oe.dict = none ∧ od = none ∧ ∀ n, fs.lookup n = none) ∨ ∃ dx o, oe.dict = some dx ∧ od = some o ∧ (dx, o) ∈ X.pn ∧ ∀ n v, fs.lookup n = some v → ∃ u, RelV v u ∧ lookIn n o = some (some u))
  cat : ECat X.K C
  hd : hasDictIn X.K C = true
theorem inv_pin {X : Cx} {pins : List (Addr × Obj)} {σ : St} {H : Hp} {s : Shared} (I : Inv X pins σ H s) {p : Addr × Obj} (h : p ∈ X.pn) : s.heap.get? p.1 = some p.2 := (I.pin p (List.mem_append_left _ h)).1
theorem handed_v {v : V} {u : Value} (r : RelV v u) : handedIn u = true := by
  cases v <;> first | (cases (show u = _ from r); rfl) | (obtain ⟨t, z⟩ := r; rw [z]; rfl)
section
variable {X : Cx} {e C : Addr} {fs : List (Str × V)} {pins : List (Addr × Obj)} {σ : St} {H : Hp} {s : Shared}
theorem Has.inst (h : Has X e C fs) (I : Inv X pins σ H s) : ∃ oe od, InstAt s.heap e oe C od ∧ ∀ n v, fs.lookup n = some v → findIn X.K (.ref C) n = some none → ∃ u, RelV v u ∧ findObj X.K C od n = some (.value u) := by
  obtain ⟨oe, od, m1, m2, m3, m4⟩ := h.ob
  refine ⟨oe, od, ⟨inv_pin I m1, m2, m3, ?_⟩, fun n v z na => ?_⟩
  · rcases m4 with ⟨z1, z2, _⟩ | ⟨dx, o, z1, z2, z3, _⟩
    · rw [z1, z2]; trivial
    · rw [z1, z2]; exact inv_pin I z3
  · rcases m4 with ⟨_, _, z3⟩ | ⟨dx, o, z1, z2, z3, z4⟩
    · rw [z3] at z; cases z
    · obtain ⟨u, ru, lu⟩ := z4 n v z
      rw [z2]
      exact ⟨u, ru, findObj_own h.hd na rfl lu⟩
noncomputable def rIsE (K : Frag) (e C : Addr) : List V → Hp → VK → Prop := fun xs H Q => ∃ y b, xs = [.ref e, y] ∧
  ((∃ a, y = .ref a ∧ kitOne K (.ref C) (.ref a) = some b) ∨ (∃ T, y = .ty T ∧ kitOne K (.ref C) (.type T) = some b) ∨ ∃ (a : Addr) (ys : List Addr), y = .ref a ∧ H a = some (.tup (ys.map V.ref)) ∧ kitAny K (.ref C) (ys.map Value.ref) = some b) ∧ Q (.bl b) H
theorem vals_back : ∀ {ys : List Addr} {us : List Value}, Vals (ys.map V.ref) us → us = ys.map Value.ref
  | [], _, .nil => rfl
  | y :: ys, _, .cons r t => by rw [show _ = Value.ref y from r, vals_back t]; rfl
theorem call_isE (h : Has X e C fs) : CallR X (.builtin "isinstance") (rIsE X.K e C) := by
  intro pins s σ H xs vs Q I r hh
  obtain ⟨y, b, rfl, hy, q⟩ := hh
  obtain ⟨u, w', rfl, ru, rw'⟩ := vals2 r
  cases (show u = Value.ref e from ru)
  obtain ⟨oe, od, J, _⟩ := h.inst I
  have fin : ∀ tk, EP X pins σ Q (.bool b) { s with toks := tk } := fun tk => ⟨.bl b, H, I.tok tk, rfl, q⟩
  rcases hy with ⟨a, rfl, k⟩ | ⟨T, rfl, k⟩ | ⟨a, ys, rfl, ha, k⟩
  · cases (show w' = Value.ref a from rw')
    exact kia_one (exc_kit h.cat) I.kIn J k (fun z => nomatch z) fin
  · cases (show w' = Value.type T from rw')
    exact kia_one (exc_kit h.cat) I.kIn J k (fun z => nomatch z) fin
  · cases (show w' = Value.ref a from rw')
    obtain ⟨_, its, rv, ⟨o, h1, h2, h3⟩, _⟩ := (show ObjOk X.prog X.w H s.heap a (.tup (ys.map V.ref)) from I.hok a _ ha)
    have ei := vals_back rv
    subst ei
    obtain ⟨oc, odd, oda, osl⟩ := o
    obtain ⟨n, h3⟩ := h3
    dsimp only at h2 h3
    subst h2 h3
    exact kia_tup (exc_kit h.cat) I.kIn J h1 k (fun z => nomatch z) fin
noncomputable def tErr (K : Frag) (C : Addr) (fs : List (Str × V)) (e : Addr) (i : Nat) (f : Str) : TE := fun σ H Q => σ[i]? = some (some (.ref e)) ∧ findIn K (.ref C) f = some none ∧ ∃ v, fs.lookup f = some v ∧ Q v H
theorem pe_err {i : Nat} {x f : Str} {px pos : Pos} (h : Has X e C fs) (hN : X.N[i]? = some x) (hv : Vis X.env.scope x) (hb : attributeBase (.Name x px) f X.env (eval (.Name x px) X.env) = eval (.Name x px) X.env := by rfl)
    (hd : (x == ("__debug__" : Str)) = false := by decide) (hcd : (x == ("__classdict__" : Str)) = false := by decide) : PE X (.Attribute (.Name x px) f pos) (tErr X.K C fs e i f) := by
  intro pins s σ H Q I hh
  obtain ⟨h1, na, v, h2, q⟩ := hh
  refine attr_of hb (thn (pe_var (pos := px) hN hv hd hcd pins s σ H (fun y H' => y = .ref e ∧ H' = H) I ⟨_, h1, rfl, rfl⟩) fun u s1 ⟨y, H1, I1, ry, ey, eH⟩ => ?_)
  subst ey eH
  cases (show u = Value.ref e from ry)
  obtain ⟨oe, od, J, hf⟩ := h.inst I1
  obtain ⟨u', ru, fo⟩ := hf f v h2 na
  exact exc_field h.cat I1.kIn J fo (handed_v ru) fun tk => ⟨v, H1, I1.tok tk, ru, q⟩
end
end L3
set_option Elab.async false
set_option linter.all false
set_option maxRecDepth 100000
set_option maxHeartbeats 4000000
namespace L3
open PySem PySem.W PySem.Spec PyProof.Rows L2
section
variable {X : Cx} {pins : List (Addr × Obj)} {σ : St} {H : Hp} {s : Shared}
theorem inv_aside {S : List Addr} {h' : Heap} (I : Inv X pins σ H s) (t : Turned (frs X.stack) S s.heap h')
    (hS : ∀ b ∈ S, H b = none ∧ (b ∈ X.ex ∨ X.s₀.heap.objs.size ≤ b) ∧ b ≠ X.env.locals ∧ (∀ x c, X.env.cells.lookup x = some c → c ≠ b) ∧ ∀ p ∈ X.pn ++ pins, p.1 ≠ b) : Inv X pins σ H { s with heap := h' } :=
  I.call' (ch := S) rfl ⟨fun b o z n hb hx => t.keep b o hb hx z, fun b o z n hb hx => t.slot b o hx z, fun _ _ _ n _ => n, fun b o z hx => (let ⟨sl, q⟩ := t.slot b o hx z; ⟨_, q⟩), fun _ _ z => z, fun _ _ _ z => z, fun b ps z => ⟨#[], by simp [z]⟩⟩
    (hok_turned I.hok t I.stkFree fun b hb => (hS b hb).1) I.bare fun b hb => (hS b hb).2
noncomputable abbrev inTry (X : Cx) (pn : List (Addr × Obj)) (xe : Value → Shared → Prop) : Cx := { X with pn := pn, xe := xe }
noncomputable abbrev inSuite (X : Cx) (e : Addr) (pn : List (Addr × Obj)) (xe : Value → Shared → Prop) : Cx := { X with A := X.A.mark (some (.ref e)), calm := false, pn := pn, xe := xe }
theorem ok_try {pn : List (Addr × Obj)} {xe : Value → Shared → Prop} (k : X.Ok) : (inTry X pn xe).Ok := ⟨k.mod, k.kind, k.glob, k.blt, k.above, k.inj, k.has, k.cab, k.hd, k.frames, k.stk, k.exf, k.bs, k.bsz, k.noex, k.exfs, k.funs, k.frf⟩
theorem ok_suite {e : Addr} {pn : List (Addr × Obj)} {xe : Value → Shared → Prop} (k : X.Ok) : (inSuite X e pn xe).Ok := ⟨k.mod, k.kind, k.glob, k.blt, k.above, k.inj, k.has, k.cab, (fun z => nomatch z), k.frames, k.stk, k.exf, k.bs, k.bsz, k.noex, k.exfs, k.funs, k.frf⟩
theorem inv_try {pn pins' : List (Addr × Obj)} {xe : Value → Shared → Prop} (I : Inv X pins σ H s) (hp : ∀ p ∈ pn ++ pins', s.heap.get? p.1 = some p.2 ∧ H p.1 = none ∧ p.1 ≠ X.env.locals ∧ p.1 ∉ X.fs ∧ ∀ v, p.2.data ≠ .cell v) : Inv (inTry X pn xe) pins' σ H s :=
  ⟨ok_try I.ok, I.os, I.bare, I.base, I.loc, I.cell, I.free, I.freeC, hp, I.hok, I.len⟩
theorem inv_untry {pn pins' : List (Addr × Obj)} {xe : Value → Shared → Prop} (k : X.Ok) (I : Inv (inTry X pn xe) pins' σ H s) (hp : ∀ p ∈ X.pn ++ pins, p ∈ pn) : Inv X pins σ H s :=
  ⟨k, I.os, I.bare, I.base, I.loc, I.cell, I.free, I.freeC, fun p z => I.pin p (List.mem_append_left _ (hp p z)), I.hok, I.len⟩
theorem inv_suite {e : Addr} {pn pins' : List (Addr × Obj)} {xe : Value → Shared → Prop} (I : Inv X pins σ H s) (hp : ∀ p ∈ pn ++ pins', s.heap.get? p.1 = some p.2 ∧ H p.1 = none ∧ p.1 ≠ X.env.locals ∧ p.1 ∉ X.fs ∧ ∀ v, p.2.data ≠ .cell v) : Inv (inSuite X e pn xe) pins' σ H s :=
  ⟨ok_suite I.ok, I.os, I.bare, I.base, I.loc, I.cell, I.free, I.freeC, hp, I.hok, I.len⟩
theorem inv_unsuite {e : Addr} {pn pins' : List (Addr × Obj)} {xe : Value → Shared → Prop} (k : X.Ok) (I : Inv (inSuite X e pn xe) pins' σ H s) (hp : ∀ p ∈ X.pn ++ pins, p ∈ pn) : Inv X pins σ H s :=
  ⟨k, I.os, I.bare, I.base, I.loc, I.cell, I.free, I.freeC, fun p z => I.pin p (List.mem_append_left _ (hp p z)), I.hok, I.len⟩
theorem name_goes {M : Model} {A : Around} {E : Value → Shared → Prop} {x : Str} {i : Nat} {pos : Pos} {Q : Unit → Shared → Prop} (I : Inv X pins σ H s) (hN : X.N.Nodup) (hi : X.N[i]? = some x) (hx : X.env.scope.names.lookup x = some .local)
    (h : ∀ s', Inv X pins (σ.set i none) H s' → Q () s') : wpAny M A (do bindName X.env x .none; unbindBehindTheSuite X.env x pos) Q E s := by
  obtain ⟨m, hn, hl⟩ := id I.loc
  have hcls : (X.env.scope.kind == .class || (X.env.scope.kind == .module && X.env.locals != X.env.globals)) = false := by rw [I.ok.kind]; rfl
  refine wpAny_nameGoes_keeps hx hn hcls fun h' v hn' same => h _ ?_
  have bel : ∀ b o, X.s₀.heap.get? b = some o → b ≠ X.env.locals := fun b o z => Nat.ne_of_lt (Nat.lt_of_lt_of_le (Heap.lt_size z) I.ok.above)
  obtain ⟨oL, _, _, hoL, _⟩ := id hn
  refine ⟨I.ok, I.os, I.bare, ⟨fun b o z n hb hx => (same.2 b (bel b o z)).trans (I.base.keep b o z n hb hx), fun b o z n hb hx => ?_, I.base.free, fun b o z hx => ?_, I.base.tups, I.base.frzs, I.base.tbls⟩,
    ⟨_, hn', fun j y v' e1 e2 e3 => ?_⟩, fun y c z => ?_, I.free, I.freeC, fun p hp => ?_, fun b ob z => ?_, by simpa using I.len⟩
  · obtain ⟨sl, q⟩ := I.base.slot b o z n hb hx
    exact ⟨sl, (same.2 b (bel b o z)).trans q⟩
  · obtain ⟨o', q⟩ := I.base.there b o z hx
    exact ⟨o', (same.2 b (bel b o z)).trans q⟩
  · by_cases hj : j = i
    · subst hj
      have hlt : j < σ.length := by rw [I.len]; exact (List.getElem?_eq_some_iff.mp hi).1
      rw [List.getElem?_set_self hlt] at e2
      cases e2
    · rw [List.getElem?_set_ne (Ne.symm hj)] at e2
      obtain ⟨u', r', q⟩ := hl j y v' e1 e2 e3
      refine ⟨u', r', ?_⟩
      rcases q with ⟨k, q⟩ | ⟨k, c, q, z⟩
      · have hy : y ≠ x := fun z => hj (nodup_ix hN e1 (z ▸ hi))
        exact .inl ⟨k, by simp [hy, q]⟩
      · exact .inr ⟨k, c, q, z.sameBut same (I.cne y c q)⟩
  · obtain ⟨w', q⟩ := I.cell y c z
    exact ⟨w', q.sameBut same (I.cne y c z)⟩
  · obtain ⟨q, n, ne, nf, dd⟩ := I.pin p hp
    exact ⟨(same.2 p.1 ne).trans q, n, ne, nf, dd⟩
  · refine (I.hok b ob z).stay (fun c w' hc q => (same.2 c ?_).trans q) (fun _ q => q) fun _ _ q => q
    rintro rfl
    rcases hc with rfl | hc
    · rw [I.free] at z; cases z
    · rw [I.free] at hc; cases hc
theorem zip_at : ∀ {ps : List Str} {vs : List V} {us : List Value} {n : Str} {v : V}, Vals vs us → (ps.zip vs).lookup n = some v → ∃ u, RelV v u ∧ fMap ps us n = some u
  | [], _, _, _, _, _, h => by simp at h
  | _ :: _, [], _, _, _, _, h => by simp at h
  | p :: ps, w :: vs, _, n, v, .cons r t, h => by
    rw [List.zip_cons_cons, List.lookup_cons] at h
    by_cases hn : n = p
    · subst hn
      rw [show (n == n) = true from beq_self_eq_true n] at h
      cases h
      exact ⟨_, r, by simp [fMap]⟩
    · rw [show (n == p) = false from beq_eq_false_iff_ne.mpr hn] at h
      obtain ⟨u, ru, lu⟩ := zip_at (ps := ps) t h
      exact ⟨u, ru, by rw [fMap, if_neg hn]; exact lu⟩
variable {x wt : Str} {i : Nat} {b₀ : Stmt} {suite : List Stmt} {pw hpos : Pos} {Wt : Addr} {tsu : Addr → Addr → List (Str × V) → TS} {ok : Addr → Prop}
theorem caught {E : XK} {D : Ends} {ev : Value} {s' : Shared} (hstk : X.stack = X.env :: X.outer) (hfr : X.env.frame = some X.env.locals) (hN : X.N.Nodup) (hi : X.N[i]? = some x) (hx : X.env.scope.names.lookup x = some .local)
    (hg : Gl X wt) (hW : X.mg wt = some (.ref Wt)) (hwd : (wt == ("__debug__" : Str)) = false) (hok : ∀ C, ok C → ECat X.K C ∧ hasDictIn X.K C = true ∧ exmOne X.K (.ref C) (.ref Wt) = some true)
    (hsuite : ∀ e C fs pn xe, ok C → Has (inSuite X e pn xe) e C fs → PSs (inSuite X e pn xe) (b₀ :: suite) (tsu e C fs))
    (hE : ∀ C e fs H', E (.ref C) (some e) (upd H' e (.xd fs)) → H' e = none → ok C ∧ tsu e C fs { nx := fun σ' H' => D.nx (σ'.set i none) H', rt := fun _ _ => False } (σ.set i (some (.ref e))) H')
    (I : Inv X pins σ H s) (z : CXe X.prog X.w X.stack H s E ev s') :
    wpAny (model X.prog X.w) X.A (noteFrame ev X.env) (fun _ s2 => wpAny (model X.prog X.w) X.A (setFlight ev none) (fun _ s3 => wpAny (model X.prog X.w) X.A (handleBy ev X.env [.ExceptHandler (some (.Name wt pw)) (some x) (b₀ :: suite) hpos]) (SP X pins D) X.xe s3) X.xe s2) X.xe s' := by
  obtain ⟨e, H', C, ps, us, vs, rfl, os, bare, un, hok', r, ⟨dct, T, y1, y2, y3, y4, y5, y6, y7, y8⟩, q⟩ := z
  have I' : Inv X pins σ H' s' := I.call' (ch := []) os un hok' bare fun b hb => absurd hb (by simp)
  obtain ⟨okC, ts⟩ := hE C e _ H' q y6
  obtain ⟨cat, hdC, hm⟩ := hok C okC
  have hl := I'.stack
  have hfs := I'.ok.frames
  rw [hstk] at hl hfs
  have apart : ∀ b, s.heap.objs.size ≤ b → (b ∈ X.ex ∨ X.s₀.heap.objs.size ≤ b) ∧ b ≠ X.env.locals ∧ (∀ x c, X.env.cells.lookup x = some c → c ≠ b) ∧ ∀ p ∈ X.pn ++ pins, p.1 ≠ b := fun b hb =>
    ⟨.inr (Nat.le_trans I.sz hb), Nat.ne_of_gt (Nat.lt_of_lt_of_le I.lt hb), fun y c hc => by obtain ⟨v, o, ho, _⟩ := I.cell y c hc; exact Nat.ne_of_lt (Nat.lt_of_lt_of_le (Heap.lt_size ho) hb), fun p hp => Nat.ne_of_lt (Nat.lt_of_lt_of_le (Heap.lt_size (I.pin p hp).1) hb)⟩
  have big : s.heap.objs.size ≤ s'.heap.objs.size := Nat.le_trans y4 (Nat.le_of_lt (by obtain ⟨_, g, _⟩ := y1; exact Heap.lt_size g))
  refine note_next (base := X.base) hfs hl hfr y1 y2 y3 fun h1 T1 z1 z2 z3 z4 => ?_
  rw [← hstk] at z4
  have hT1 : T1 ≠ e := Nat.ne_of_gt (Nat.lt_of_lt_of_le (by obtain ⟨_, g, _⟩ := y1; exact Heap.lt_size g) z1)
  have I1 : Inv X pins σ H' { s' with heap := h1 } := inv_aside I' z4 fun b hb => by
    simp only [List.mem_cons, List.not_mem_nil, or_false] at hb
    rcases hb with rfl | rfl
    · exact ⟨y7, apart _ y5⟩
    · exact ⟨y6, apart _ y4⟩
  have nT1 : H' T1 = none := I'.hok.fresh z1
  have side : ∀ {ha hb : Heap}, Inv X pins σ H' { s' with heap := ha } → Turned [] [T1] ha hb → Inv X pins σ H' { s' with heap := hb } := fun {ha hb} Ia tu => inv_aside (s := { s' with heap := ha }) Ia ⟨fun b o _ n2 zz => tu.keep b o (by simp) n2 zz, tu.slot, tu.size⟩ fun b hb => by
    rw [List.mem_singleton.mp hb]
    exact ⟨nT1, apart _ (Nat.le_trans big z1)⟩
  refine flight_off (s := { s' with heap := h1 }) z2 z3 hT1 fun h2 w1 w2 w3 => ?_
  have I2 := side I1 w3
  refine wpAny_handleBy_cons (codeAny_handlers_test ?_) (by intro q; cases q)
  have J2 : Inv (inSuite X e [] fun _ _ => False) [] σ H' { s' with heap := h2 } := inv_suite I2 (by simp)
  refine ld_glob J2 hg hW ?_ hwd
  have LT : Looks (model X.prog X.w) h2 (typeOf (.ref e)) (.ref C) := by obtain ⟨_, g, _⟩ := w1; exact (Looks.ld g).andThen .now
  refine (exm_one (M := model X.prog X.w) (h := h2) I2.kIn LT hm).at ?_
  refine codeAny_handlers_suite_as (flight_off (s := { s' with heap := h2 }) w1 w2 hT1 fun h3 v1 v2 v3 => ?_)
  have I3 := side I2 v3
  obtain ⟨fv, ge, g1⟩ := v1
  have pinned : ∀ p ∈ X.pn ++ pins, h3.get? p.1 = some p.2 ∧ H' p.1 = none ∧ p.1 ≠ X.env.locals ∧ p.1 ∉ X.fs ∧ ∀ v, p.2.data ≠ .cell v := I3.pin
  have pinE : h3.get? e = some { cls := .ref C, dict := dct, data := .fields fv } ∧ H' e = none ∧ e ≠ X.env.locals ∧ e ∉ X.fs ∧ ∀ v, (Data.fields fv) ≠ .cell v := ⟨ge, y6, (apart e y4).2.1, I.nofs y4, fun _ z => nomatch z⟩
  have go : ∀ pn, (∀ p ∈ X.pn ++ pins, p ∈ pn) → (∀ p ∈ pn ++ [], h3.get? p.1 = some p.2 ∧ H' p.1 = none ∧ p.1 ≠ X.env.locals ∧ p.1 ∉ X.fs ∧ ∀ v, p.2.data ≠ .cell v) → Has (inSuite X e pn fun _ _ => False) e C (ps.zip vs) →
      wpAny (model X.prog X.w) (X.A.mark (some (.ref e))) (storeName X.env x (.ref e)) (fun _ s₂ => wpAny (model X.prog X.w) (X.A.mark (some (.ref e))) (execs (b₀ :: suite) X.env) (fun f s₃ => wpAny (model X.prog X.w) X.A (do bindName X.env x .none; unbindBehindTheSuite X.env x hpos) (fun _ s₄ => SP X pins D f s₄) X.xe s₃) (fun _ _ => False) s₂) (fun _ _ => False) { s' with heap := h3 } := fun pn hpn hpp has => by
    have I4 : Inv (inSuite X e pn fun _ _ => False) [] σ H' { s' with heap := h3 } := inv_suite I3 hpp
    refine store_ok (X := inSuite X e pn fun _ _ => False) (v := .ref e) I4 hN hi (.inl hx) rfl (fun s4 I5 => ?_) (.inr hx)
    refine wpAny_mono (hsuite e C _ pn (fun _ _ => False) okC has [] s4 _ H' _ I5 ts) (fun f s5 h5 => ?_) fun _ _ z => z
    cases f with
    | next =>
      obtain ⟨σ', H2, I6, q2⟩ := h5
      exact name_goes (X := X) (inv_unsuite I'.ok I6 hpn) hN hi hx fun s6 I7 => ⟨_, H2, I7, q2⟩
    | ret v => obtain ⟨_, _, _, _, _, h5⟩ := h5; exact h5.elim
    | brk => obtain ⟨_, _, _, h5⟩ := h5; exact h5.elim
    | cont => obtain ⟨_, _, _, h5⟩ := h5; exact h5.elim
  suffices hs : ∃ pn, (∀ p ∈ X.pn ++ pins, p ∈ pn) ∧ (∀ p ∈ pn ++ [], h3.get? p.1 = some p.2 ∧ H' p.1 = none ∧ p.1 ≠ X.env.locals ∧ p.1 ∉ X.fs ∧ ∀ v, p.2.data ≠ .cell v) ∧ Has (inSuite X e pn fun _ _ => False) e C (ps.zip vs) by
    obtain ⟨pn, a, b, c⟩ := hs
    exact wpAny_mono (go pn a b c) (fun _ _ z => wpAny_mono z (fun _ _ z => z) fun _ _ z => z.elim) fun _ _ z => z.elim
  rcases y8 with ⟨rfl, y8⟩ | ⟨dx, rfl, n1, n2, n3, n4⟩
  · refine ⟨(e, { cls := .ref C, dict := none, data := .fields fv }) :: (X.pn ++ pins), (fun p hp => List.mem_cons_of_mem _ hp), (fun p hp => ?_), ⟨⟨_, none, List.mem_cons_self, rfl, rfl, .inl ⟨rfl, rfl, fun n => ?_⟩⟩, cat, hdC⟩⟩
    · rw [List.append_nil] at hp
      rcases List.mem_cons.mp hp with rfl | hp
      · exact pinE
      · exact pinned p hp
    · cases q3 : (ps.zip vs).lookup n with
      | none => rfl
      | some v =>
        obtain ⟨u, _, z⟩ := zip_at r q3
        rw [y8] at z; cases z
  · obtain ⟨od, god, lod⟩ := lookIn_ns n4
    have hdl : dx < s'.heap.objs.size := n4.ns.lt
    have nT : dx ≠ T1 := Nat.ne_of_lt (Nat.lt_of_lt_of_le hdl z1)
    have nfr : dx ∉ frs X.stack := fun hm => by
      obtain ⟨_, o, ho, _⟩ := I.stack.mem hm
      exact absurd (Heap.lt_size ho) (Nat.not_lt.mpr n2)
    have g3 : h3.get? dx = some od := v3.keep dx od (by simp) (by simpa using nT) (w3.keep dx od (by simp) (by simpa using nT) (z4.keep dx od nfr n1 god))
    have dod : ∀ v, od.data ≠ .cell v := fun v z => by
      obtain ⟨o', es, ep, g', d', _⟩ := n4
      rw [god] at g'; cases g'; rw [d'] at z; cases z
    refine ⟨(e, { cls := .ref C, dict := some dx, data := .fields fv }) :: (dx, od) :: (X.pn ++ pins), (fun p hp => List.mem_cons_of_mem _ (List.mem_cons_of_mem _ hp)), (fun p hp => ?_), ⟨⟨_, some od, List.mem_cons_self, rfl, rfl, .inr ⟨dx, od, rfl, rfl, List.mem_cons_of_mem _ List.mem_cons_self, fun n v z => ?_⟩⟩, cat, hdC⟩⟩
    · rw [List.append_nil] at hp
      rcases List.mem_cons.mp hp with rfl | hp
      · exact pinE
      · rcases List.mem_cons.mp hp with rfl | hp
        · exact ⟨g3, n3, (apart dx n2).2.1, I.nofs n2, dod⟩
        · exact pinned p hp
    · obtain ⟨u, ru, zu⟩ := zip_at r z
      exact ⟨u, ru, by rw [lod, zu]⟩
end
end L3
set_option Elab.async false
set_option linter.all false
set_option maxRecDepth 100000
set_option maxHeartbeats 4000000
namespace L3
open PySem PySem.W PySem.Spec PyProof.Rows L2
noncomputable def errD (nm : Str) (fs : List PyData) : PyData := .dict [(.str nm, .tuple fs)]
noncomputable def errOf : PyData → Option (Str × List PyData)
  | .dict [(.str nm, .tuple fs)] => some (nm, fs)
  | _ => none
theorem errOf_some {d : PyData} {nm : Str} {fs : List PyData} (h : errOf d = some (nm, fs)) : d = errD nm fs := by
  unfold errOf at h
  split at h
  · cases h; rfl
  · cases h
theorem errOf_D {nm : Str} {fs : List PyData} : errOf (errD nm fs) = some (nm, fs) := rfl
noncomputable def psT (nm : Str) : List Str := if nm = "NoPaper" then ["word", "number"] else if nm = "NoRest" then ["word"] else if nm = "TooMany" then ["word"] else if nm = "NoHouse" then ["word"] else if nm = "NoComer" then ["number"] else []
noncomputable def WE (mg : Str → Option Value) (E : XK) : Str → List V → Hp → Prop := fun nm vs H => ∀ C, mg nm = some (.ref C) → ∀ e, H e = none → E (.ref C) (some e) (upd H e (.xd ((psT nm).zip vs)))
section
variable [Feeds]
noncomputable def OutOkX (K : Frag) (W : Str → List V → Hp → Prop) (G : GF) (B0 : List Addr) (H0 : Hp) (F : FS) (D : Ends) : Out → Prop
  | .rt d => OutOk K G B0 H0 F D (.rt d) ∧ ∀ nm fs, errOf d = some (nm, fs) → ∀ vs H, Kp (fpOf K G) H0 H → FAt K G H F → DatsAre K (hid H B0) fs vs → W nm vs H
  | o => OutOk K G B0 H0 F D o
noncomputable def TSdX (K : Frag) (W : Str → List V → Hp → Prop) (ts : TS) (m : DE → M Out) : Prop := ∀ (G : GF) (B0 : List Addr) (H0 : Hp) (E : DE) (F : FS) (σ : St) (H : Hp) (D : Ends) (r : Out) (F' : FS), Sit K G B0 H0 E F σ H → m E F = some (r, F') → OutOkX K W G B0 H0 F' D r → ts D σ H
structure SsX (K : Frag) (W : Str → List V → Hp → Prop) (X : Cx) (st : Stmt) (ts : TS) (m : DE → M Out) : Prop where
  ps : PS X st ts
  ok : TSdX K W ts m
structure SssX (K : Frag) (W : Str → List V → Hp → Prop) (X : Cx) (sts : List Stmt) (ts : TS) (m : DE → M Out) : Prop where
  ps : PSs X sts ts
  ok : TSdX K W ts m
variable {K : Frag} {W : Str → List V → Hp → Prop} {X : Cx} {st : Stmt} {sts rest : List Stmt} {t u : TS} {mt mu : DE → M Out} {pos p : Pos} {c a : Expr} {es : List Expr}
theorem outOk_of {G : GF} {B0 : List Addr} {H0 : Hp} {F : FS} {D : Ends} {o : Out} (h : OutOkX K W G B0 H0 F D o) : OutOk K G B0 H0 F D o := by
  cases o <;> first | exact h | exact h.1
theorem tsx_of (h : TSd K t mt) : TSdX K W t mt := fun G B0 H0 E F σ H D r F' S e q => h G B0 H0 E F σ H D r F' S e (outOk_of q)
theorem PS.nox {st : Stmt} {t : TS} (h : PS X.nox st t) : PS X st t := fun pins s σ H D I hw => by
  refine wpAny_mono (h pins s σ H D (I.wish _) hw) (fun f s' z => ?_) fun _ _ z => z.elim
  cases f with
  | next => obtain ⟨σ', H', I', q⟩ := z; exact ⟨σ', H', Inv.unwish I', q⟩
  | brk => obtain ⟨σ', H', I', q⟩ := z; exact ⟨σ', H', Inv.unwish I', q⟩
  | cont => obtain ⟨σ', H', I', q⟩ := z; exact ⟨σ', H', Inv.unwish I', q⟩
  | ret v => obtain ⟨x, H', σ', I', r, q⟩ := z; exact ⟨x, H', σ', Inv.unwish I', r, q⟩
theorem sx_of (h : Ss K X.nox st t mt) : SsX K W X st t mt := ⟨PS.nox h.ps, tsx_of h.ok⟩
theorem sxs_of (h : Sss K X.nox sts t mt) : SssX K W X sts t mt := ⟨h.ps.nox, tsx_of h.ok⟩
theorem sxs_cons (h1 : SsX K W X st t mt) (h2 : SssX K W X rest u mu) : SssX K W X (st :: rest) (tSeq t u) (mSq mt mu) := ⟨pss_cons h1.ps h2.ps, fun G B0 H0 E F σ H D r F' S e q => by
  obtain ⟨⟨o, F1⟩, e1, e⟩ := Option.bind_eq_some_iff.mp e
  refine h1.ok G B0 H0 E F σ H _ o F1 S e1 ?_
  cases o with
  | nx E1 => exact fun σ' H' S' => h2.ok G B0 H0 E1 F1 σ' H' D r F' S' e q
  | rt d => cases e; exact q
  | bk E1 => cases e; exact q
  | ct E1 => cases e; exact q⟩
theorem sxs_one (h1 : SsX K W X st t mt) : SssX K W X [st] t mt := ⟨pss_one h1.ps, h1.ok⟩
theorem sx_if {x y : List Stmt} {tt : TT} {mc : DE → M Bool} (hc : Et K X.nox c tt mc) (ha : SssX K W X x t mt) (hb : SssX K W X y u mu) : SsX K W X (.If c x y pos) (tIfS tt t u) (mIf mc mt mu) := ⟨ps_if hc.pt.nox ha.ps hb.ps, fun G B0 H0 E F σ H D r F' S e q => by
  obtain ⟨⟨b, F1⟩, e1, e⟩ := Option.bind_eq_some_iff.mp e
  obtain ⟨B, s, sn, I⟩ := S.ex
  refine hc.ok G B E F σ H _ b F1 I e1 fun H1 k1 f1 => ?_
  cases b with
  | true => exact ha.ok G B0 H0 E F1 σ H1 D r F' (S.step k1 f1) e q
  | false => exact hb.ok G B0 H0 E F1 σ H1 D r F' (S.step k1 f1) e q⟩
noncomputable def mRaise (nm : Str) (ms : DE → M (List PyData)) : DE → M Out := fun E F => (ms E F).bind fun p => if p.1.length = (psT nm).length then some (.rt (errD nm p.1), p.2) else none
theorem PA.nox {t : TA} (h : PA X.nox es t) : PA X es t := fun cp pins s σ H Q I hw => by
  refine wpAny_mono (h cp pins s σ H Q (I.wish _) hw) (fun vs s' z => ?_) fun _ _ z => z.elim
  obtain ⟨xs, H', I', r, q⟩ := z
  exact ⟨xs, H', Inv.unwish I', r, q⟩
theorem sx_raise (nm : Str) {E : XK} {Wt C f : Addr} {cp : Pos} {ta : TA} {ms : DE → M (List PyData)} (G : Goes X E) (cl : ECls X.K Wt C f) (ini : EIni X.K C f (psT nm)) (hr : Room 2 X.A) (hm : X.mg nm = some (.ref C)) (ha : Ea K X.nox (a :: es) ta ms) (hg : Gl X nm := by rfl)
    (hdb : (nm == ("__debug__" : Str)) = false := by decide) (he : starEach (a :: es) X.env = (false, eval a X.env) :: starEach es X.env := by rfl) (hpl : (backTo cp (starEach es X.env)).any (·.1) = false := by rfl) :
    SsX K (WE X.mg E) X (.Raise (some (.Call (.Name nm p) (a :: es) [] cp)) none pos) (tRaise (fun vs H => ∀ e, H e = none → E (.ref C) (some e) (upd H e (.xd ((psT nm).zip vs)))) (psT nm) ta) (mRaise nm ms) :=
  ⟨ps_raise cl ini hr hg hm (asks_of G) (PA.nox ha.pa) hdb he hpl, fun G B0 H0 E F σ H D r F' S e q => by
    obtain ⟨⟨ds, F1⟩, e1, e⟩ := Option.bind_eq_some_iff.mp e
    obtain ⟨B, s, sn, I⟩ := S.ex
    split at e
    · rename_i hl
      cases e
      refine ha.ok G B E F σ H _ ds F1 I e1 fun vs H1 k1 f1 h1 => ⟨?_, ?_⟩
      · rw [h1.length]; exact hl
      · exact q.2 nm ds errOf_D vs H1 (S.kp.trans k1) f1 (h1.same (hid_sub s)) C hm
    · cases e⟩
end
end L3
set_option Elab.async false
set_option linter.all false
set_option maxRecDepth 100000
set_option maxHeartbeats 4000000
namespace L3
open PySem PySem.W PySem.Spec PyProof.Rows L2
section
variable [Feeds]
noncomputable def spX (K : Frag) (mg : Str → Option Value) (n : Nat) (f : List DV → M PyData) : Sp := fun vs H Q E => ∃ G B F args d F', vs.length = n ∧ (∀ b ∈ fpOf K G, b ∈ B) ∧ BOk H B ∧ FAt K G H F ∧ ArgR K G B H args vs ∧ f args F = some (d, F') ∧
  (∀ v H', Kp (fpOf K G) H H' → FAt K G H' F' → DatIs K (hid H' B) d v → Q v H') ∧
  ∀ nm fs, errOf d = some (nm, fs) → ∀ vs H', Kp (fpOf K G) H H' → FAt K G H' F' → DatsAre K (hid H' B) fs vs → WE mg E nm vs H'
noncomputable def CalleeX (P : Program) (w : World) (K : Frag) (mg : Str → Option Value) (base : Heap) (x : Str) (k : Nat) (ps : List Str) (sp : Sp) : Prop :=
  ∃ f fd, FnOk P w K mg base (CXe P w) k f fd ps sp ∧ mg x = some (.ref f) ∧ keepIn K (.ref f) = true ∧ Binds K fd ps []
variable {K : Frag} {X : Cx} {st : Stmt} {P : Program} {w : World} {mg : Str → Option Value} {base : Heap}
theorem defx_ok {x qual : Str} {f : Addr} {fd : FuncData} {N ps : List Str} {k : Nat} {m : DE → M Out} (Fn : Fun K x qual st f fd) (S : FnScope N ps (defScope st))
    (hbody : ∀ (cdv : Value) (A : Around) (outer : List Env) (s : Shared) (H : Hp) (E : XK), Room k (A.deeper (envOfC qual (defScope st) s.heap.objs.size f cdv)) →
      ∃ ts, SssX K (WE mg E) (cxOf (CXe P w) P w K mg base N qual (defScope st) f cdv A outer s H E) (defBody st) ts m) : FnOk P w K mg base (CXe P w) (k + 1) f fd ps (spX K mg ps.length (runD N m)) := by
  obtain ⟨oc, od, kV, doc, pm, an, cdv, ct, osl, rfl, lk, hcd⟩ := Fn.ex
  refine fn_of lk hcd S (fun vs H Q E h => ?_) fun A outer s H vs Q E hr h => ?_
  · obtain ⟨G, B, F, args, d, F', hl, _⟩ := h
    exact hl
  · obtain ⟨G, B, F, args, d, F', hl, fB, bk, fa, ha, hm, q, qe⟩ := h
    obtain ⟨ts, hts⟩ := hbody cdv A outer s H E hr
    refine ⟨ts, hts.ps, ?_⟩
    obtain ⟨⟨o, F1⟩, e1, e⟩ := Option.bind_eq_some_iff.mp hm
    refine hts.ok G B H (startE N args) F (L2.start N vs) H _ o F1 (sit_start fB bk fa ha) e1 ?_
    cases o with
    | rt d' => cases e; exact ⟨fun v H' k1 f1 h1 => q v H' k1 f1 h1, fun nm fs ee vs H' k1 f1 h1 => qe nm fs ee vs H' k1 f1 h1⟩
    | nx E' => cases e; exact fun σ' H' S' => q _ H' S'.kp (by obtain ⟨B, _, _, I⟩ := S'.ex; exact I.fd) DatIs.non
    | bk E' => cases e
    | ct E' => cases e
variable {x : Str} {k n : Nat} {ps : List Str} {p pos : Pos} {e : Expr} {es : List Expr} {tl : TA} {f : List DV → M PyData} {ms : DE → M (List DV)}
noncomputable def tAt (σ0 : St) (t : TE) : TE := fun σ H Q => σ = σ0 ∧ t σ H Q
noncomputable def mDoX (f : List DV → M PyData) (ms : DE → M (List DV)) : DE → M Out := fun E F => (ms E F).bind fun p => (f p.1 p.2).bind fun q => match errOf q.1 with
  | some _ => some (.rt q.1, q.2)
  | none => some (.nx E, q.2)
theorem datIs_err {K : Frag} {H : Hp} {d : PyData} {v : V} {z : Str × List PyData} (h : DatIs K H d v) (e : errOf d = some z) : False := by
  obtain ⟨nm, fs⟩ := z
  rw [errOf_some e] at h
  simp only [errD, DatIs] at h
theorem sx_do {E : XK} {p1 p2 p3 : Pos} (G : Goes X E) (C : CalleeX X.prog X.w X.K X.mg X.base x k ps (spX K X.mg n f)) (hr : Room k X.A) (ha : Evs K X.nox (e :: es) tl ms) (hn : ∀ E F args F', ms E F = some (args, F') → args.length = n) (hg : Gl X x := by rfl)
    (hdb : (x == ("__debug__" : Str)) = false := by decide) (he : starEach (e :: es) X.env = (false, eval e X.env) :: starEach es X.env := by rfl) (hpl : (backTo p2 (starEach es X.env)).any (·.1) = false := by rfl)
    (hs : swapsWith (.Call (.Name x p1) (e :: es) [] p2) none p3.line X.env = pure false := by rfl) :
    SsX K (WE X.mg E) X (.Expr (.Call (.Name x p1) (e :: es) [] p2) p3) (tDrop (tCall (spX K X.mg n f) [] E tl)) (mDoX f ms) := by
  obtain ⟨g, fd, F, m, kp, b⟩ := C
  refine ⟨ps_expr (pe_call F hr hg m kp b .nil (passes_of G) (PA.nox ha.pa) hdb he hpl) hs, fun G B0 H0 E1 F σ H D r F' S ee q => ?_⟩
  obtain ⟨⟨args, F1⟩, e1, ee⟩ := Option.bind_eq_some_iff.mp ee
  obtain ⟨⟨d, F2⟩, e2, ee⟩ := Option.bind_eq_some_iff.mp ee
  obtain ⟨B, s, sn, I⟩ := S.ex
  refine ha.ok G B E1 F σ H _ args F1 I e1 fun vs H1 k1 f1 h1 => ?_
  rw [List.append_nil]
  refine ⟨G, B, F1, args, d, F2, by rw [h1.length]; exact hn _ _ _ _ e1, I.fB, bok_step I.bk k1 f1, f1, h1, e2, fun v H2 k2 f2 h2 => ?_, fun nm fs er vs2 H2 k2 f2 h2 => ?_⟩
  · dsimp only at ee
    cases er : errOf d with
    | some z => exact (datIs_err h2 er).elim
    | none =>
      rw [er] at ee; cases ee
      exact q σ H2 ((S.step k1 f1).step k2 f2)
  · dsimp only at ee
    rw [er] at ee; cases ee
    exact q.2 nm fs er vs2 H2 ((S.kp.trans k1).trans k2) f2 (h2.same (hid_sub s))
end
end L3
set_option Elab.async false
set_option linter.all false
set_option maxRecDepth 100000
set_option maxHeartbeats 4000000
namespace L3
open PySem PySem.W PySem.Spec PyProof.Rows L2
section
variable {X : Cx} {x wt : Str} {i : Nat} {body suite : List Stmt} {b₀ : Stmt} {pw hpos pos : Pos} {Wt : Addr} {tsu : Addr → Addr → List (Str × V) → TS} {ok : Addr → Prop} {tb : XK → St → TS}
noncomputable def eTry (i : Nat) (ok : Addr → Prop) (tsu : Addr → Addr → List (Str × V) → TS) (D : Ends) (σ : St) : XK := fun Cv eo H2 => ∃ C e fs H', Cv = .ref C ∧ eo = some e ∧ H2 = upd H' e (.xd fs) ∧ H' e = none ∧ ok C ∧
  tsu e C fs { nx := fun σ' H' => D.nx (σ'.set i none) H', rt := fun _ _ => False } (σ.set i (some (.ref e))) H'
theorem eTry_of {D : Ends} {σ : St} {C e : Addr} {fs : List (Str × V)} {H' : Hp} (h : eTry i ok tsu D σ (.ref C) (some e) (upd H' e (.xd fs))) (he : H' e = none) : ok C ∧ tsu e C fs { nx := fun σ' H' => D.nx (σ'.set i none) H', rt := fun _ _ => False } (σ.set i (some (.ref e))) H' := by
  obtain ⟨C', e', fs', H1, e1, e2, e3, e4, e5, e6⟩ := h
  cases e1; cases e2
  have ef : fs = fs' := by
    have z := congrFun e3 e
    rw [upd_same, upd_same] at z
    cases z; rfl
  have eh : H' = H1 := funext fun b => by
    by_cases hb : b = e
    · rw [hb, he, e4]
    · have z := congrFun e3 b
      rwa [upd_ne hb, upd_ne hb] at z
  subst ef eh
  exact ⟨e5, e6⟩
theorem ps_try (hstk : X.stack = X.env :: X.outer) (hfr : X.env.frame = some X.env.locals) (hN : X.N.Nodup) (hi : X.N[i]? = some x) (hx : X.env.scope.names.lookup x = some .local)
    (hg : Gl X wt) (hW : X.mg wt = some (.ref Wt)) (hwd : (wt == ("__debug__" : Str)) = false) (hok : ∀ C, ok C → ECat X.K C ∧ hasDictIn X.K C = true ∧ exmOne X.K (.ref C) (.ref Wt) = some true)
    (hsuite : ∀ e C fs pn xe, ok C → Has (inSuite X e pn xe) e C fs → PSs (inSuite X e pn xe) (b₀ :: suite) (tsu e C fs))
    (hbody : ∀ (E : XK) (σ0 : St) pn xe, (∀ pins' H s ev s', Inv (inTry X pn xe) pins' σ0 H s → CXe X.prog X.w X.stack H s E ev s' → xe ev s') → PSs (inTry X pn xe) body (tb E σ0)) :
    PS X (.Try body [.ExceptHandler (some (.Name wt pw)) (some x) (b₀ :: suite) hpos] [] [] pos) (fun D σ H => tb (eTry i ok tsu D σ) σ D σ H) := by
  intro pins s σ H D I h
  refine wpAny_Try_except ?_
  refine wpAny_mono (hbody (eTry i ok tsu D σ) σ (X.pn ++ pins) _ (fun pins' H1 s1 ev s' J z => caught hstk hfr hN hi hx hg hW hwd hok hsuite (fun C e fs H' => eTry_of) (inv_untry I.ok J fun p hp => hp) z) [] s σ H D (inv_try I (by simpa using I.pin)) h) (fun f s1 z => ?_) (fun _ _ z => z)
  cases f with
  | next => obtain ⟨σ', H', J, q⟩ := z; exact wpAny_execs_nil ⟨σ', H', inv_untry I.ok J fun p hp => hp, q⟩
  | brk => obtain ⟨σ', H', J, q⟩ := z; exact ⟨σ', H', inv_untry I.ok J fun p hp => hp, q⟩
  | cont => obtain ⟨σ', H', J, q⟩ := z; exact ⟨σ', H', inv_untry I.ok J fun p hp => hp, q⟩
  | ret v => obtain ⟨y, H', σ', J, r, q⟩ := z; exact ⟨y, H', σ', inv_untry I.ok J fun p hp => hp, r, q⟩
end
end L3
set_option Elab.async false
set_option linter.all false
set_option maxRecDepth 100000
set_option maxHeartbeats 4000000
namespace L3
open PySem PySem.W PySem.Spec PyProof.Rows L2
section
variable [Feeds] {K : Frag} {G : GF} {B B0 : List Addr} {H0 : Hp} {E : DE} {F : FS} {σ : St} {H : Hp} {i : Nat}
theorem SitE.hole (I : SitE K G B E F σ H) (h : E[i]? = some none) (v : Option V) : SitE K G B E F (σ.set i v) H :=
  ⟨I.fd, I.fB, I.bk, by rw [List.length_set]; exact I.ln, fun j x e => by
    have hj : i ≠ j := fun z => by rw [← z, h] at e; cases e
    rw [List.getElem?_set_ne hj]
    exact I.loc j x e⟩
theorem Sit.hole (S : Sit K G B0 H0 E F σ H) (h : E[i]? = some none) (v : Option V) : Sit K G B0 H0 E F (σ.set i v) H := by
  obtain ⟨B, s, sn, I⟩ := S.ex
  refine ⟨⟨B, s, sn, I.hole h v⟩, S.fB, S.kp, fun j ds a e z => ?_, fun j k ds es a e1 e2 z1 z2 => ?_, S.dic.of fun j w c ps ej => ⟨rfl, by rw [List.getElem?_set_ne fun y => by rw [← y, h] at ej; cases ej]⟩⟩
  · have hj : i ≠ j := fun y => by rw [← y, h] at e; cases e
    rw [List.getElem?_set_ne hj] at z
    exact S.own j ds a e z
  · have hj : i ≠ j := fun y => by rw [← y, h] at e1; cases e1
    have hk : i ≠ k := fun y => by rw [← y, h] at e2; cases e2
    rw [List.getElem?_set_ne hj] at z1
    rw [List.getElem?_set_ne hk] at z2
    exact S.inj j k ds es a e1 e2 z1 z2
noncomputable def SuD (K : Frag) (mg : Str → Option Value) (ok : Addr → Prop) (i : Nat) (tsu : Addr → Addr → List (Str × V) → TS) (hd : Str → List PyData → DE → Option DE) : Prop :=
  ∀ (G : GF) (B B0 : List Addr) (H0 : Hp) (E : DE) (F : FS) (σ : St) (H : Hp) (D : Ends) (nm : Str) (C : Addr) (fs : List PyData) (vs : List V) (E1 : DE) (e : Addr), Sit K G B0 H0 E F σ H → (∀ b ∈ B0, b ∈ B) → (∀ b ∈ B, b ∈ B0 ∨ H0 b = none) → SitE K G B E F σ H →
    mg nm = some (.ref C) → DatsAre K (hid H B) fs vs → hd nm fs E = some E1 → H e = none → (∀ σ1 H1, Sit K G B0 H0 E1 F σ1 H1 → D.nx σ1 H1) →
    ok C ∧ tsu e C ((psT nm).zip vs) { nx := fun σ' H' => D.nx (σ'.set i none) H', rt := fun _ _ => False } (σ.set i (some (.ref e))) H
variable {X : Cx} {x y wt gn told : Str} {suite : List Stmt} {b₀ : Stmt} {pw hpos pos p1 p2 p3 p4 p5 p6 : Pos} {Wt : Addr} {tsu : Addr → Addr → List (Str × V) → TS} {ok : Addr → Prop} {k n fi j1 : Nat} {k0} {ps : List Str} {a : Expr} {es : List Expr} {tl : TA} {g : List DV → M PyData} {ms : DE → M (List DV)} {hd : Str → List PyData → DE → Option DE}
end
end L3
set_option Elab.async false
set_option linter.all false
set_option maxRecDepth 100000
set_option maxHeartbeats 4000000
namespace L3
open PySem PySem.W PySem.Spec PyProof.Rows L2
section
variable {X : Cx} {es : List Expr} {p px pos : Pos} {cl : List Addr} {t t' : TA} {e C : Addr} {fs : List (Str × V)} {i : Nat} {x f : Str}
noncomputable def tRefs (cl : List Addr) : TA := fun _ H Q => Q (cl.map V.ref) H
theorem pr_nil : PA X [] (tRefs []) := pa_nil
theorem pr_cons {nm : Str} {C : Addr} (hm : X.mg nm = some (.ref C)) (h : PA X es (tRefs cl)) (hg : Gl X nm := by rfl) (hd : (nm == ("__debug__" : Str)) = false := by decide) (hs : starEach (.Name nm p :: es) X.env = (false, eval (.Name nm p) X.env) :: starEach es X.env := by rfl) : PA X (.Name nm p :: es) (tRefs (C :: cl)) :=
  pa_cons (te := tC (.ref C)) (t := tRefs cl) (pe_glob hg hm rfl hd) h hs
theorem PA.imp (h : PA X es t) (w : ∀ σ H Q, t' σ H Q → t σ H Q) : PA X es t' := fun cp pins s σ H Q I z => h cp pins s σ H Q I (w σ H Q z)
noncomputable def itV (fs : List (Str × V)) : List (Sum Str Str) → Option (List V)
  | [] => some []
  | .inl c :: r => (itV fs r).bind fun vs => some (.str c :: vs)
  | .inr f :: r => (fs.lookup f).bind fun v => (itV fs r).bind fun vs => some (v :: vs)
noncomputable def tIts (K : Frag) (C : Addr) (fs : List (Str × V)) (e : Addr) (i : Nat) (its : List (Sum Str Str)) : TA := fun σ H Q => σ[i]? = some (some (.ref e)) ∧ (∀ f, .inr f ∈ its → findIn K (.ref C) f = some none) ∧ ∃ vs, itV fs its = some vs ∧ Q vs H
theorem pi_nil : PA X [] (tIts X.K C fs e i []) := PA.imp pa_nil fun σ H Q ⟨_, _, vs, z, q⟩ => by cases z; exact q
theorem pi_str {c : Str} {j : Nat} {its : List (Sum Str Str)} (h : PA X es (tIts X.K C fs e i its)) (hs : starEach (.Constant (.str c) j p :: es) X.env = (false, eval (.Constant (.str c) j p) X.env) :: starEach es X.env := by rfl) : PA X (.Constant (.str c) j p :: es) (tIts X.K C fs e i (.inl c :: its)) :=
  PA.imp (pa_cons pe_str h hs) fun σ H Q ⟨z1, z2, vs, z3, q⟩ => by
    obtain ⟨ws, z4, z5⟩ := Option.bind_eq_some_iff.mp z3
    cases z5
    exact ⟨z1, fun f hf => z2 f (List.mem_cons_of_mem _ hf), ws, z4, q⟩
theorem pi_fld {its : List (Sum Str Str)} (hh : Has X e C fs) (h : PA X es (tIts X.K C fs e i its)) (hN : X.N[i]? = some x := by rfl) (hv : Vis X.env.scope x := by exact Or.inl rfl) (hb : attributeBase (.Name x px) f X.env (eval (.Name x px) X.env) = eval (.Name x px) X.env := by rfl)
    (hd : (x == ("__debug__" : Str)) = false := by decide) (hcd : (x == ("__classdict__" : Str)) = false := by decide) (hs : starEach (.Attribute (.Name x px) f p :: es) X.env = (false, eval (.Attribute (.Name x px) f p) X.env) :: starEach es X.env := by rfl) :
    PA X (.Attribute (.Name x px) f p :: es) (tIts X.K C fs e i (.inr f :: its)) :=
  PA.imp (pa_cons (pe_err hh hN hv hb hd hcd) h hs) fun σ H Q ⟨z1, z2, vs, z3, q⟩ => by
    obtain ⟨v, z4, z5⟩ := Option.bind_eq_some_iff.mp z3
    obtain ⟨ws, z6, z7⟩ := Option.bind_eq_some_iff.mp z5
    cases z7
    exact ⟨z1, z2 f List.mem_cons_self, v, z4, z1, fun g hg => z2 g (List.mem_cons_of_mem _ hg), ws, z6, q⟩
end
noncomputable def itD (fs : List (Str × PyData)) : List (Sum Str Str) → Option (List PyData)
  | [] => some []
  | .inl c :: r => (itD fs r).bind fun vs => some (.str c :: vs)
  | .inr f :: r => (fs.lookup f).bind fun v => (itD fs r).bind fun vs => some (v :: vs)
section
variable {K : Frag} {H : Hp}
theorem zip_dat : ∀ {ps : List Str} {fs : List PyData} {vs : List V} {n : Str} {d : PyData}, DatsAre K H fs vs → (ps.zip fs).lookup n = some d → ∃ v, (ps.zip vs).lookup n = some v ∧ DatIs K H d v
  | [], _, _, _, _, _, h => by simp at h
  | _ :: _, [], _, _, _, _, h => by simp at h
  | p :: ps, w :: fs, vs, n, d, hd, h => by
    simp only [DatsAre] at hd
    obtain ⟨v, r, rfl, h1, h2⟩ := hd
    rw [List.zip_cons_cons, List.lookup_cons] at h ⊢
    by_cases hn : n = p
    · subst hn
      rw [show (n == n) = true from beq_self_eq_true n] at h ⊢
      cases h
      exact ⟨v, rfl, h1⟩
    · rw [show (n == p) = false from beq_eq_false_iff_ne.mpr hn] at h ⊢
      exact zip_dat h2 h
theorem its_dat {ps : List Str} {fs : List PyData} {vs : List V} (hd : DatsAre K H fs vs) : ∀ {its : List (Sum Str Str)} {ds : List PyData}, itD (ps.zip fs) its = some ds → ∃ ws, itV (ps.zip vs) its = some ws ∧ DatsAre K H ds ws
  | [], ds, h => by cases h; exact ⟨[], rfl, DatsAre.nil⟩
  | .inl c :: its, ds, h => by
    obtain ⟨es, h1, h2⟩ := Option.bind_eq_some_iff.mp h
    cases h2
    obtain ⟨ws, z1, z2⟩ := its_dat hd h1
    exact ⟨.str c :: ws, by rw [itV, z1]; rfl, DatsAre.cons DatIs.st z2⟩
  | .inr f :: its, ds, h => by
    obtain ⟨d, h0, h⟩ := Option.bind_eq_some_iff.mp h
    obtain ⟨es, h1, h2⟩ := Option.bind_eq_some_iff.mp h
    cases h2
    obtain ⟨v, y1, y2⟩ := zip_dat hd h0
    obtain ⟨ws, z1, z2⟩ := its_dat hd h1
    exact ⟨v :: ws, by rw [itV, y1, Option.bind_some, z1]; rfl, DatsAre.cons y2 z2⟩
end
structure EFit (K : Frag) (mg : Str → Option Value) (Wt : Addr) (nm : Str) (cl : List Addr) (C : Addr) : Prop where
  mgc : mg nm = some (.ref C)
  cat : ECat K C
  hd : hasDictIn K C = true
  exm : exmOne K (.ref C) (.ref Wt) = some true
  ve : kitOne K (.ref C) (.type "ValueError") = some true
  st : kitAny K (.ref C) (cl.map Value.ref) = some false
  nof : ∀ p ∈ psT nm, findIn K (.ref C) p = some none
section
variable [Feeds] {K : Frag} {mg : Str → Option Value} {Wt C0 : Addr} {nm0 : Str} {cl : List Addr} {i j fi : Nat} {its : List (Sum Str Str)}
noncomputable def tsA (K : Frag) (C0 : Addr) (cl : List Addr) (i j fi : Nat) (its : List (Sum Str Str)) : Addr → Addr → List (Str × V) → TS := fun e C fs =>
  tSeq (tAsg (tCB (rIsE K e C) (tCons (tVar i) (tCons (tTup (tRefs cl)) tNil))) (gName j))
    (tIfS (tAnd (tB (tCB (rIsE K e C) (tCons (tVar i) (tCons (tC (.ref C0)) tNil)))) (tAnd (tB (tCB (rIsE K e C) (tCons (tVar i) (tCons (tC (.ty "ValueError")) tNil)))) (tNot (tB (tVar j))))) (tAsg (tTup (tIts K C fs e i its)) (gName fi)) tNext)
noncomputable def isHole (E : DE) (i : Nat) : Bool := match E[i]? with
  | some none => true
  | _ => false
theorem isHole_of {E : DE} {i : Nat} (h : isHole E i = true) : E[i]? = some none := by
  unfold isHole at h
  split at h
  · assumption
  · cases h
noncomputable def hdA (nm0 : Str) (i j fi : Nat) (its : List (Sum Str Str)) : Str → List PyData → DE → Option DE := fun nm fs E => if nm = nm0 ∧ isHole E i = true then (itD ((psT nm0).zip fs) its).bind fun ds => (bN j (.bool false) E).bind fun E1 => bN fi (.tuple ds) E1 else none
theorem itV_len : ∀ {fs : List (Str × V)} {its : List (Sum Str Str)} {vs : List V}, itV fs its = some vs → vs.length = its.length
  | _, [], _, h => by cases h; rfl
  | fs, .inl c :: r, _, h => by
    obtain ⟨ws, h1, h2⟩ := Option.bind_eq_some_iff.mp h
    cases h2
    rw [List.length_cons, List.length_cons, itV_len h1]
  | fs, .inr f :: r, _, h => by
    obtain ⟨v, _, h⟩ := Option.bind_eq_some_iff.mp h
    obtain ⟨ws, h1, h2⟩ := Option.bind_eq_some_iff.mp h
    cases h2
    rw [List.length_cons, List.length_cons, itV_len h1]
theorem bN_other {i j : Nat} {d : PyData} {E E1 : DE} (h : bN j d E = some E1) (hij : i ≠ j) : E1[i]? = E[i]? := by
  unfold bN at h
  split at h
  · cases h; exact List.getElem?_set_ne (Ne.symm hij)
  · cases h
theorem su_A (ef : EFit K mg Wt nm0 cl C0) (hij : i ≠ j) (hif : i ≠ fi) (hjl : its.length ≤ 100) (hcl : cl.length ≤ 100) (hb : (its.all fun z => match z with | .inr f => (psT nm0).contains f | .inl _ => true) = true) : SuD K mg (fun C => C = C0) i (tsA K C0 cl i j fi its) (hdA nm0 i j fi its) := by
  have hits : ∀ f, .inr f ∈ its → f ∈ psT nm0 := fun f hf => by
    have z := List.all_eq_true.mp hb (.inr f) hf
    exact List.contains_iff_mem.mp z
  intro G B B0 H0 E F σ H D nm C fs vs E1 e S s sn I hm hd hE he q
  unfold hdA at hE
  split at hE
  · rename_i hc
    obtain ⟨rfl, hh⟩ := hc
    have hh := isHole_of hh
    obtain ⟨ds, h1, hE⟩ := Option.bind_eq_some_iff.mp hE
    obtain ⟨E2, h2, h3⟩ := Option.bind_eq_some_iff.mp hE
    have eC : C = C0 := by have z := hm.symm.trans ef.mgc; cases z; rfl
    subst eC
    refine ⟨rfl, ?_⟩
    obtain ⟨ws, w1, w2⟩ := its_dat hd h1
    have hil : i < σ.length := by rw [← I.ln]; exact (List.getElem?_eq_some_iff.mp hh).1
    refine ⟨.ref e, List.getElem?_set_self hil, ?_, fun p hp => ?_⟩
    · rw [sizeLine_eq]; simp; omega
    have kp : Kp (fpOf K G) H (upd H p (.tup (cl.map V.ref))) := Kp.upd hp
    have f1 : FAt K G (upd H p (.tup (cl.map V.ref))) F := I.fd.same (Same.upd hp)
    refine ⟨.ref p, false, rfl, .inr (.inr ⟨p, cl, rfl, upd_same, ef.st⟩), ?_⟩
    have S1 := (S.hole hh (some (.ref e))).step kp f1
    have I1 := (I.hole hh (some (.ref e))).step kp f1
    refine name_d j G B E F _ _ (.bl false) (.bool false) E2 _ I1 DatIs.bl h2 fun σ2 I2 fr2 => ?_
    have S2 := S1.bind s sn I2 fr2
    have hh2 : E2[i]? = some none := (bN_other h2 hij).trans hh
    have g2 : σ2[i]? = some (some (.ref e)) := ((fr2 i fun y z => by rw [hh2] at z; cases z).2).trans (List.getElem?_set_self hil)
    have hj : σ2[j]? = some (some (.bl false)) := by
      have ej : E2[j]? = some (some (.dat (.bool false))) := by
        unfold bN at h2
        split at h2
        · rename_i hl; cases h2; exact List.getElem?_set_self hl
        · cases h2
      obtain ⟨v, v1, v2⟩ := I2.loc j _ ej
      have v2 : DatIs K (hid (upd H p (.tup (cl.map V.ref))) B) (.bool false) v := v2
      simp only [DatIs] at v2
      rw [v1, v2]
    have k1 : kitOne K (.ref C) (.ref C) = some true := by unfold kitOne; rw [if_pos (beq_self_eq_true _)]
    refine ⟨.ref e, g2, .ref C, true, rfl, .inl ⟨C, rfl, k1⟩, true, rfl, ?_⟩
    dsimp only
    rw [if_pos rfl]
    refine ⟨.ref e, g2, .ty "ValueError", true, rfl, .inr (.inl ⟨_, rfl, ef.ve⟩), true, rfl, ?_⟩
    dsimp only
    rw [if_pos rfl]
    refine ⟨_, hj, false, rfl, ?_⟩
    dsimp only
    rw [if_pos (by rfl)]
    refine ⟨g2, fun f hf => ef.nof f (hits f hf), ws, w1, ?_, fun p2 hp2 => ?_⟩
    · rw [sizeLine_eq, itV_len w1]; omega
    have kp2 : Kp (fpOf K G) (upd H p (.tup (cl.map V.ref))) (upd (upd H p (.tup (cl.map V.ref))) p2 (.tup ws)) := Kp.upd hp2
    have f2 : FAt K G (upd (upd H p (.tup (cl.map V.ref))) p2 (.tup ws)) F := f1.same (Same.upd hp2)
    have w3 : DatIs K (hid (upd (upd H p (.tup (cl.map V.ref))) p2 (.tup ws)) B) (.tuple ds) (.ref p2) := new_tup I2.bk hp2 (w2.same (kp.hid I.fB))
    refine name_d fi G B E2 F σ2 _ _ _ E1 _ (I2.step kp2 f2) w3 h3 fun σ3 I3 fr3 => ?_
    exact q _ _ (((S2.step kp2 f2).bind s sn I3 fr3).hole ((bN_other h3 hif).trans hh2) none)
  · cases hE
end
end L3
set_option Elab.async false
set_option linter.all false
set_option maxRecDepth 100000
set_option maxHeartbeats 4000000
namespace L3
open PySem PySem.W PySem.Spec PyProof.Rows L2
theorem bt_ValueError : bootBuiltins "ValueError" = some (.type "ValueError") := by first | rfl | decide +kernel
section
variable {X : Cx} {e C C0 : Addr} {fs : List (Str × V)} {i j fi : Nat} {cl : List Addr} {its : List (Sum Str Str)} {x y z nm0 : Str} {ces ies : List Expr} {p1 p2 p3 p4 p5 p6 q1 q2 q3 q4 q5 q6 q7 q8 q9 r1 r2 r3 r4 : Pos} {k1 k2} {p2' p3' : Pos}
theorem pss_A (h : Has X e C fs) (hmI : X.mg "isinstance" = none) (hmV : X.mg "ValueError" = none) (hm0 : X.mg nm0 = some (.ref C0)) (hc : PA X ces (tRefs cl)) (hits : PA X ies (tIts X.K C fs e i its)) (hNd : X.N.Nodup)
    (hi : X.N[i]? = some x := by rfl) (hj : X.N[j]? = some y := by rfl) (hfi : X.N[fi]? = some z := by rfl) (hx : X.env.scope.names.lookup x = some .local := by rfl) (hy : X.env.scope.names.lookup y = some .local := by rfl) (hz : X.env.scope.names.lookup z = some .local := by rfl)
    (dx : (x == ("__debug__" : Str)) = false := by decide) (cx : (x == ("__classdict__" : Str)) = false := by decide) (dy : (y == ("__debug__" : Str)) = false := by decide) (cy : (y == ("__classdict__" : Str)) = false := by decide) (d0 : (nm0 == ("__debug__" : Str)) = false := by decide)
    (gI : Gl X "isinstance" := by rfl) (gV : Gl X "ValueError" := by rfl) (g0 : Gl X nm0 := by rfl)
    (s1 : swapsWith (.Call (.Name "isinstance" p2) [.Name x p3, .Tuple ces k1 p4] [] p5) (some (.Name y p1)) p6.line X.env = pure false := by rfl) (s2 : swapsWith (.Tuple ies k2 r2) (some (.Name z r1)) r3.line X.env = pure false := by rfl) :
    PSs X [.Assign [.Name y p1] (.Call (.Name "isinstance" p2) [.Name x p3, .Tuple ces k1 p4] [] p5) p6,
      .If (.BoolOp .And [.Call (.Name "isinstance" q1) [.Name x q2, .Name nm0 q3] [] q4, .Call (.Name "isinstance" q5) [.Name x q6, .Name "ValueError" q7] [] q8, .UnaryOp .Not (.Name y q9) r4] p2') [.Assign [.Name z r1] (.Tuple ies k2 r2) r3] [] p3'] (tsA X.K C0 cl i j fi its e C fs) :=
  pss_cons (ps_set hNd hj (.inl hy) (pe_callB (call_isE h) gI hmI bt_isinstance (pa_cons (pe_var hi (.inl hx) dx cx) (pa_cons (pe_tup hc) pa_nil))) s1 (.inr hy))
    (pss_one (ps_if (PW.pt (pw_and (pt_val (pe_callB (call_isE h) gI hmI bt_isinstance (pa_cons (pe_var hi (.inl hx) dx cx) (pa_cons (pe_glob g0 hm0 rfl d0) pa_nil)))) (pw_and (pt_val (pe_callB (call_isE h) gI hmI bt_isinstance (pa_cons (pe_var hi (.inl hx) dx cx) (pa_cons (pe_bltn gV hmV bt_ValueError rfl) pa_nil))))
      (pw_and1 (pt_not (pt_val (pe_var hj (.inl hy) dy cy))))))) (pss_one (ps_set hNd hfi (.inl hz) (pe_tup hits) s2 (.inr hz))) pss_nil))
end
end L3
set_option Elab.async false
set_option linter.all false
set_option maxRecDepth 100000
set_option maxHeartbeats 4000000
namespace L3
open PySem PySem.W PySem.Spec PyProof.Rows L2
noncomputable def clsInit : Stmt → Stmt
  | .ClassDef _ _ _ b _ _ _ _ _ _ _ => b.getD 0 (.Pass ⟨0, 0, 0, 0⟩)
  | s => s
noncomputable def Adrs (mg : Str → Option Value) : List Str → List Addr → Prop
  | [], cl => cl = []
  | n :: ns, cl => ∃ a r, cl = a :: r ∧ mg n = some (.ref a) ∧ Adrs mg ns r
noncomputable def ErrT (K : Frag) (mg : Str → Option Value) (wt nm : Str) (cls : List Str) : Prop := ∃ (Wt C f : Addr) (cl : List Addr), mg wt = some (.ref Wt) ∧ Adrs mg cls cl ∧ ECls K Wt C f ∧ EIni K C f (psT nm) ∧ EFit K mg Wt nm cl C
structure IniTxt (st : Stmt) (qual : Str) (ps : List Str) : Prop where
  sc : FnScope (("self" : Str) :: ps) (("self" : Str) :: ps) (defScope st)
  loc : ∀ p ∈ ("self" : Str) :: ps, (defScope st).names.lookup p = some .local
  ib : InitBody ps (defBody st)
  few : ps.length ≤ 100
  nd : ∀ p ∈ ps, (p == ("__debug__" : Str)) = false
  bd : ∀ (kV doc pm : Value) (an : Option Addr) (cdv ct : Value) (us : List Value), us.length = ps.length + 1 → bindArgs (fnOf "__init__" qual (defArgs st) (defBody st) (defScope st) .none kV doc pm an cdv ct) ⟨us, []⟩ = pure ((("self" : Str) :: ps).zip us)
theorem eini_mk {K : Frag} {C f : Addr} {ps : List Str} {st : Stmt} {qual : Str} {oc : Value} {od an : Option Addr} {osl : Array (Option Value)} {kV doc pm cdv ct : Value} (I : IniTxt st qual ps)
    (l : K.lookup f = some ⟨oc, od, .func (fnOf "__init__" qual (defArgs st) (defBody st) (defScope st) .none kV doc pm an cdv ct), osl⟩) (c : codeIn K cdv qual = true) (na : ∀ p ∈ ps, findIn K (.ref C) p = some none) : EIni K C f ps :=
  ⟨⟨qual, defArgs st, defBody st, defScope st, oc, od, kV, doc, pm, an, cdv, ct, osl, l, c, I.sc, I.loc, I.ib, fun us hl => I.bd kV doc pm an cdv ct us hl⟩, fun p hp => ⟨na p hp, I.nd p hp⟩, I.few⟩
theorem ecls_mk {K : Frag} {Wt C f N : Addr} {nm q : Str} {bs : List Value} {hdct} {sn sub ab col dd k0 k1 k2 k3 k5}
    (obj : K.lookup C = some (excClassObj nm q C N bs (.ref Wt :: vMro) hdct sn sub ab col dd k0 k1 k2 k3 k5 "ValueError.__new__")) (tp : excIn K Wt vMro "ValueError.__new__" = true)
    (init : findIn K (.ref C) "__init__" = some (some (.ref f))) (fn : typeIn K (.ref f) = some (.type "function")) (call : specialIn K (.ref C) "__call__" = some (some (.builtin "type.__call__"))) (typ : instIn K (.ref C) (.type "type") = some true) (kp : keepIn K (.ref C) = true)
    (dict : hasDictIn K C = true) (sa : findIn K (.ref C) "__setattr__" = some (some (.builtin "object.__setattr__"))) : ECls K Wt C f := by
  refine ⟨⟨_, _, _, _, _, _, _, _, _, _, _, _, _, _, _, obj⟩, ?_, init, fn, call, typ, kp, dict, sa⟩
  unfold excIn at tp
  split at tp
  · rename_i dd0 cd sl ho
    split at tp
    · simp only [Bool.and_eq_true, beq_iff_eq] at tp
      exact ⟨_, _, _, _, ho, tp.1.2, tp.2⟩
    · cases tp
  · cases tp
theorem efit_mk {K : Frag} {mg : Str → Option Value} {Wt C : Addr} {nm : Str} {cl : List Addr} (hm : mg nm = some (.ref C)) (hd : hasDictIn K C = true) (ga : findIn K (.ref C) "__getattribute__" = some (some (.builtin "BaseException.__getattribute__"))) (gn : findIn K (.ref C) "__getattr__" = some none) (mb : mroIn K C (.type "BaseException") = some true) (mo : mroIn K C (.type "object") = some true)
    (ca : findIn K (.ref C) "__class__" = some (some (.builtin "object.__class__"))) (cg : specialIn K (.builtin "object.__class__") "__get__" = some (some (.builtin "getset_descriptor.__get__"))) (ct : takesIn K (.builtin "object.__class__") = some true)
    (sb : subIn K (.ref Wt) (.type "BaseException") = some true) (ko : kitOne K (.ref C) (.ref Wt) = some true) (ne : (Value.ref C == Value.ref Wt) = false) (ve : kitOne K (.ref C) (.type "ValueError") = some true) (st : kitAny K (.ref C) (cl.map Value.ref) = some false) (na : ∀ p ∈ psT nm, findIn K (.ref C) p = some none) : EFit K mg Wt nm cl C := by
  refine ⟨hm, ⟨ga, gn, mb, mo, ca, cg, ct⟩, hd, ?_, ve, st, na⟩
  unfold exmOne
  rw [sb, if_pos (by rfl)]
  unfold kitOne at ko
  rwa [if_neg (by rw [ne]; exact Bool.false_ne_true)] at ko
end L3
set_option Elab.async false
set_option linter.all false
set_option maxRecDepth 100000
set_option maxHeartbeats 4000000
namespace L3
open PySem PySem.W PySem.Spec PyProof.Rows L2
section
variable {X : Cx} {tg iter : Expr} {wi : TI} {g : TG}
end
section
variable [Feeds]
variable {K : Frag} {W : Str → List V → Hp → Prop} {X : Cx} {tg iter : Expr} {pos : Pos}
end
end L3
set_option Elab.async false
set_option linter.all false
set_option maxRecDepth 100000
set_option maxHeartbeats 2000000
namespace L3
open PySem PySem.Spec PyProof.Rows L2
variable [Fam]
noncomputable def wp {α σ : Type} (m : Option (α × σ)) (Q : α → σ → Prop) : Prop := ∃ a F', m = some (a, F') ∧ Q a F'
section
variable {α β γ σ τ : Type} {Q : α → σ → Prop}
theorem wp_some {a : α} {F : σ} : wp (some (a, F)) Q ↔ Q a F := ⟨fun ⟨_, _, e, q⟩ => by cases e; exact q, fun q => ⟨_, _, rfl, q⟩⟩
theorem wp_none : wp (none : Option (α × σ)) Q ↔ False := ⟨fun ⟨_, _, e, _⟩ => (by cases e), False.elim⟩
theorem wp_bind {x : Option (β × τ)} {f : β × τ → Option (α × σ)} : wp (x.bind f) Q ↔ wp x fun a F' => wp (f (a, F')) Q := by
  constructor
  · rintro ⟨a, F', e, q⟩
    obtain ⟨⟨b, F1⟩, e1, e2⟩ := Option.bind_eq_some_iff.mp e
    exact ⟨b, F1, e1, a, F', e2, q⟩
  · rintro ⟨b, F1, e1, a, F', e2, q⟩
    exact ⟨a, F', by rw [e1]; exact e2, q⟩
theorem wp_obind {o : Option γ} {f : γ → Option (α × σ)} : wp (o.bind f) Q ↔ ∃ z, o = some z ∧ wp (f z) Q := by
  constructor
  · rintro ⟨a, F', e, q⟩
    obtain ⟨z, e1, e2⟩ := Option.bind_eq_some_iff.mp e
    exact ⟨z, e1, a, F', e2, q⟩
  · rintro ⟨z, e1, a, F', e2, q⟩
    exact ⟨a, F', by rw [e1]; exact e2, q⟩
theorem wp_ite {c : Prop} [Decidable c] {a b : Option (α × σ)} : wp (if c then a else b) Q ↔ if c then wp a Q else wp b Q := by
  split <;> rfl
theorem wp_mono {m : Option (α × σ)} {Q' : α → σ → Prop} (h : wp m Q) (hq : ∀ a F, Q a F → Q' a F) : wp m Q' := by
  obtain ⟨a, F, e, q⟩ := h
  exact ⟨a, F, e, hq a F q⟩
theorem wp_congr {m : Option (α × σ)} {Q' : α → σ → Prop} (h : ∀ a F, Q a F ↔ Q' a F) : wp m Q ↔ wp m Q' := ⟨fun z => wp_mono z fun a F q => (h a F).mp q, fun z => wp_mono z fun a F q => (h a F).mpr q⟩
theorem ex_some {z : γ} {P : γ → Prop} : (∃ y, some z = some y ∧ P y) ↔ P z := ⟨fun ⟨_, e, p⟩ => by cases e; exact p, fun p => ⟨_, rfl, p⟩⟩
theorem wp_draw {m : Int} {F : FdS} {Q : PyData → FdS → Prop} (h0 : 0 < m) (h1 : m < 1073741824) (h2 : F.t < 199999) (q : ∀ r F', 0 ≤ r → r < m → F'.t = F.t + 1 → Q (.int r) F') : wp (drawS [.feed, .dat (.int m)] F) Q := by
  obtain ⟨r, F', e, r0, r1, ht⟩ := Fam.draw_some h0 h1 h2
  exact ⟨.int r, F', by show (Fam.drawF m F).bind _ = _; rw [e]; rfl, q r F' r0 r1 ht⟩
end
noncomputable def gD (o : Option (Option DV)) (P : PyData → Prop) : Prop := match o with
  | some (some (.dat d)) => P d
  | _ => False
noncomputable def gW (o : Option (Option DV)) (P : PyData → Prop) : Prop := match o with
  | some (some (.dat d)) => P d
  | some (some (.own ds)) => P (.list ds)
  | _ => False
noncomputable def gF (o : Option (Option DV)) (P : Prop) : Prop := match o with
  | some (some .feed) => P
  | _ => False
noncomputable def oB {γ : Type} (o : Option γ) (P : γ → Prop) : Prop := ∃ z, o = some z ∧ P z
noncomputable def cIf (c : Bool) (A B : Prop) : Prop := if c = true then A else B
theorem cIf_t {A B : Prop} : cIf true A B ↔ A := by simp [cIf]
theorem cIf_f {A B : Prop} : cIf false A B ↔ B := by simp [cIf]
theorem cIf_2 {c : Bool} {A B : Prop} (h1 : c = true → A) (h2 : c = false → B) : cIf c A B := by
  cases c
  · exact cIf_f.mpr (h2 rfl)
  · exact cIf_t.mpr (h1 rfl)
section
variable [Feeds] {E : DE} {F : FS}
theorem r_sC {d : PyData} {Q : PyData → FS → Prop} : wp (sC d E F) Q ↔ Q d F := wp_some
theorem r_sV {i : Nat} {Q : PyData → FS → Prop} : wp (sV i E F) Q ↔ gD E[i]? fun d => Q d F := by
  unfold sV gD; generalize E[i]? = o
  rcases o with _ | _ | x
  · exact wp_none
  · exact wp_none
  · cases x <;> first | exact wp_some | exact wp_none
theorem r_sW {i : Nat} {Q : PyData → FS → Prop} : wp (sW i E F) Q ↔ gW E[i]? fun d => Q d F := by
  unfold sW gW; generalize E[i]? = o
  rcases o with _ | _ | x
  · exact wp_none
  · exact wp_none
  · cases x <;> first | exact wp_some | exact wp_none
theorem r_s1 {f : PyData → Option PyData} {a : DE → M PyData} {Q : PyData → FS → Prop} : wp (s1 f a E F) Q ↔ wp (a E F) fun x F1 => oB (f x) fun z => Q z F1 := by
  unfold s1; rw [wp_bind]; simp only [wp_obind, wp_some, oB]
theorem r_s2 {f : PyData → PyData → Option PyData} {a b : DE → M PyData} {Q : PyData → FS → Prop} : wp (s2 f a b E F) Q ↔ wp (a E F) fun x F1 => wp (b E F1) fun y F2 => oB (f x y) fun z => Q z F2 := by
  unfold s2; rw [wp_bind]; refine wp_congr fun x F1 => ?_; rw [wp_bind]; refine wp_congr fun y F2 => ?_; simp only [wp_obind, wp_some, oB]
theorem r_sN {f : List PyData → Option PyData} {a : DE → M (List PyData)} {Q : PyData → FS → Prop} : wp (sN f a E F) Q ↔ wp (a E F) fun x F1 => oB (f x) fun z => Q z F1 := by
  unfold sN; rw [wp_bind]; simp only [wp_obind, wp_some, oB]
theorem r_sNil {Q : List PyData → FS → Prop} : wp (sNil E F) Q ↔ Q [] F := wp_some
theorem r_sCons {a : DE → M PyData} {r : DE → M (List PyData)} {Q : List PyData → FS → Prop} : wp (sCons a r E F) Q ↔ wp (a E F) fun x F1 => wp (r E F1) fun xs F2 => Q (x :: xs) F2 := by
  unfold sCons; rw [wp_bind]; simp only [wp_bind, wp_some]
theorem r_sTup {a : DE → M (List PyData)} {Q : PyData → FS → Prop} : wp (sTup a E F) Q ↔ wp (a E F) fun xs F1 => xs.length ≤ sizeLine ∧ Q (.tuple xs) F1 := by
  unfold sTup; rw [wp_bind]
  constructor
  · exact fun h => wp_mono h fun xs F1 h => by
      split at h
      · rename_i hl; exact ⟨hl, wp_some.mp h⟩
      · exact (wp_none.mp h).elim
  · exact fun h => wp_mono h fun xs F1 h => by rw [if_pos h.1]; exact wp_some.mpr h.2
theorem r_sLst {a : DE → M (List PyData)} {Q : PyData → FS → Prop} : wp (sLst a E F) Q ↔ wp (a E F) fun xs F1 => xs.length ≤ sizeLine ∧ Q (.list xs) F1 := by
  unfold sLst; rw [wp_bind]
  constructor
  · exact fun h => wp_mono h fun xs F1 h => by
      split at h
      · rename_i hl; exact ⟨hl, wp_some.mp h⟩
      · exact (wp_none.mp h).elim
  · exact fun h => wp_mono h fun xs F1 h => by rw [if_pos h.1]; exact wp_some.mpr h.2
theorem r_vNil {Q : List DV → FS → Prop} : wp (vNil E F) Q ↔ Q [] F := wp_some
theorem r_vD {a : DE → M PyData} {r : DE → M (List DV)} {Q : List DV → FS → Prop} : wp (vD a r E F) Q ↔ wp (a E F) fun x F1 => wp (r E F1) fun xs F2 => Q (.dat x :: xs) F2 := by
  unfold vD; rw [wp_bind]; simp only [wp_bind, wp_some]
theorem r_vF {i : Nat} {r : DE → M (List DV)} {Q : List DV → FS → Prop} : wp (vF i r E F) Q ↔ gF E[i]? (wp (r E F) fun xs F2 => Q (.feed :: xs) F2) := by
  unfold vF gF; generalize E[i]? = o
  rcases o with _ | _ | x
  · exact wp_none
  · exact wp_none
  · cases x with
    | feed => exact wp_bind.trans (wp_congr fun _ _ => wp_some)
    | _ => exact wp_none
theorem r_sCall {f : List DV → M PyData} {ms : DE → M (List DV)} {Q : PyData → FS → Prop} : wp (sCall f ms E F) Q ↔ wp (ms E F) fun xs F1 => wp (f xs F1) Q := by
  unfold sCall; rw [wp_bind]
theorem r_sAnd {a b : DE → M PyData} {Q : PyData → FS → Prop} : wp (sAnd a b E F) Q ↔ wp (a E F) fun x F1 => oB (boolOf x) fun c => cIf c (wp (b E F1) Q) (Q (.bool false) F1) := by
  unfold sAnd; rw [wp_bind]; simp only [wp_obind, wp_ite, wp_some, oB, cIf]
theorem r_sIf {c : DE → M Bool} {a b : DE → M PyData} {Q : PyData → FS → Prop} : wp (sIf c a b E F) Q ↔ wp (c E F) fun x F1 => cIf x (wp (a E F1) Q) (wp (b E F1) Q) := by
  unfold sIf; rw [wp_bind]; simp only [wp_ite, cIf]
theorem r_uB {a : DE → M PyData} {Q : Bool → FS → Prop} : wp (uB a E F) Q ↔ wp (a E F) fun x F1 => oB (boolOf x) fun c => Q c F1 := by
  unfold uB; rw [wp_bind]; simp only [wp_obind, wp_some, oB]
theorem r_uT {a : DE → M PyData} {Q : Bool → FS → Prop} : wp (uT a E F) Q ↔ wp (a E F) fun x F1 => oB (truD x) fun c => Q c F1 := by
  unfold uT; rw [wp_bind]; simp only [wp_obind, wp_some, oB]
theorem r_uAnd {a b : DE → M Bool} {Q : Bool → FS → Prop} : wp (uAnd a b E F) Q ↔ wp (a E F) fun x F1 => cIf x (wp (b E F1) Q) (Q false F1) := by
  unfold uAnd; rw [wp_bind]; simp only [wp_ite, wp_some, cIf]
theorem r_uOr {a b : DE → M Bool} {Q : Bool → FS → Prop} : wp (uOr a b E F) Q ↔ wp (a E F) fun x F1 => cIf x (Q true F1) (wp (b E F1) Q) := by
  unfold uOr; rw [wp_bind]; simp only [wp_ite, wp_some, cIf]
theorem r_uNot {a : DE → M Bool} {Q : Bool → FS → Prop} : wp (uNot a E F) Q ↔ wp (a E F) fun x F1 => Q (!x) F1 := by
  unfold uNot; rw [wp_bind]; simp only [wp_some]
theorem r_uYes {Q : Bool → FS → Prop} : wp (uYes E F) Q ↔ Q true F := wp_some
theorem r_mNx {Q : Out → FS → Prop} : wp (mNx E F) Q ↔ Q (.nx E) F := wp_some
noncomputable def sqK (b : DE → M Out) (Q : Out → FS → Prop) (o : Out) (F1 : FS) : Prop := match o with
    | .nx E1 => wp (b E1 F1) Q
    | o => Q o F1
theorem sq_nx {b : DE → M Out} {Q : Out → FS → Prop} {E1 : DE} (h : wp (b E1 F) Q) : sqK b Q (.nx E1) F := h
theorem sq_rt {b : DE → M Out} {Q : Out → FS → Prop} {d : PyData} (h : Q (.rt d) F) : sqK b Q (.rt d) F := h
theorem r_mSq {a b : DE → M Out} {Q : Out → FS → Prop} : wp (mSq a b E F) Q ↔ wp (a E F) (sqK b Q) := by
  unfold mSq; rw [wp_bind]
  refine wp_congr fun o F1 => ?_
  cases o with
  | nx E1 => exact Iff.rfl
  | rt d => exact wp_some
  | bk d => exact wp_some
  | ct d => exact wp_some
theorem r_mRt {a : DE → M PyData} {Q : Out → FS → Prop} : wp (mRt a E F) Q ↔ wp (a E F) fun x F1 => Q (.rt x) F1 := by
  unfold mRt; rw [wp_bind]; simp only [wp_some]
theorem r_mSet {i : Nat} {a : DE → M PyData} {Q : Out → FS → Prop} : wp (mSet i a E F) Q ↔ wp (a E F) fun x F1 => i < E.length ∧ Q (.nx (E.set i (some (.dat x)))) F1 := by
  unfold mSet; rw [wp_bind]
  refine wp_congr fun x F1 => ?_
  unfold bN
  by_cases h : i < E.length
  · rw [if_pos h]; simp only [wp_obind, wp_some, ex_some, h, true_and]
  · rw [if_neg h]; simp only [wp_obind, h, false_and]
    exact ⟨fun ⟨_, e, _⟩ => (by cases e), False.elim⟩
theorem r_mIf {c : DE → M Bool} {a b : DE → M Out} {Q : Out → FS → Prop} : wp (mIf c a b E F) Q ↔ wp (c E F) fun x F1 => cIf x (wp (a E F1) Q) (wp (b E F1) Q) := by
  unfold mIf; rw [wp_bind]; simp only [wp_ite, cIf]
theorem r_mOwn {i : Nat} {a : DE → M (List PyData)} {Q : Out → FS → Prop} : wp (mOwn i a E F) Q ↔ wp (a E F) fun x F1 => i < E.length ∧ Q (.nx (E.set i (some (.own x)))) F1 := by
  unfold mOwn; rw [wp_bind]
  refine wp_congr fun x F1 => ?_
  by_cases h : i < E.length
  · rw [if_pos h]; simp only [wp_some, h, true_and]
  · rw [if_neg h]; simp only [h, false_and]
    exact wp_none
theorem r_mFor {mi : DE → M (List PyData)} {bd : PyData → DE → Option DE} {body : DE → M Out} {Q : Out → FS → Prop} : wp (mFor mi bd body E F) Q ↔ wp (mi E F) fun ds F1 => wp (forGo bd body ds E F1) Q := by
  unfold mFor; rw [wp_bind]
theorem r_mRng1 {a : DE → M (List PyData)} {Q : List PyData → FS → Prop} : wp (mRng1 a E F) Q ↔ wp (a E F) fun x F1 => oB (rngOf1 x) fun ds => Q ds F1 := by
  unfold mRng1; rw [wp_bind]; simp only [wp_obind, wp_some, oB]
theorem r_mSeq {a : DE → M PyData} {Q : List PyData → FS → Prop} : wp (mSeq a E F) Q ↔ wp (a E F) fun x F1 => oB (seqOf x) fun ds => Q ds F1 := by
  unfold mSeq; rw [wp_bind]; simp only [wp_obind, wp_some, oB]
theorem r_fLst {a : DE → M (List PyData)} {Q : List PyData → FS → Prop} : wp (fLst a E F) Q ↔ wp (a E F) fun x F1 => x.length ≤ sizeLine ∧ Q x F1 := by
  unfold fLst; rw [wp_bind]
  constructor
  · exact fun h => wp_mono h fun xs F1 h => by
      split at h
      · rename_i hl; exact ⟨hl, wp_some.mp h⟩
      · exact (wp_none.mp h).elim
  · exact fun h => wp_mono h fun xs F1 h => by rw [if_pos h.1]; exact wp_some.mpr h.2
theorem r_sLC {mi : DE → M (List PyData)} {k : Nat} {cap : List Nat} {bd : PyData → DE → Option DE} {mt : DE → M Bool} {me : DE → M PyData} {Q : PyData → FS → Prop} : wp (sLC mi k cap bd mt me E F) Q ↔ wp (mi E F) fun ds F1 => ds.length ≤ sizeLine ∧ wp (lcGo bd mt me ds (capE k cap E) F1) fun zs F2 => Q (.list zs) F2 := by
  unfold sLC; rw [wp_bind]
  constructor
  · refine fun h => wp_mono h fun ds F1 h => ?_
    dsimp only at h
    split at h
    · rename_i hl; rw [wp_bind] at h; exact ⟨hl, wp_mono h fun zs F2 h => wp_some.mp h⟩
    · exact (wp_none.mp h).elim
  · refine fun h => wp_mono h fun ds F1 h => ?_
    dsimp only
    rw [if_pos h.1, wp_bind]
    exact wp_mono h.2 fun zs F2 h => wp_some.mpr h
noncomputable def runK (Q : PyData → FS → Prop) (o : Out) (F1 : FS) : Prop := match o with
    | .rt d => Q d F1
    | .nx _ => Q .none F1
    | _ => False
theorem run_rt {Q : PyData → FS → Prop} {d : PyData} (h : Q d F) : runK Q (.rt d) F := h
theorem run_nx {Q : PyData → FS → Prop} {d : DE} (h : Q .none F) : runK Q (.nx d) F := h
theorem r_run {N : List Str} {m : DE → M Out} {args : List DV} {Q : PyData → FS → Prop} : wp (runD N m args F) Q ↔ wp (m (startE N args) F) (runK Q) := by
  unfold runD; rw [wp_bind]
  refine wp_congr fun o F1 => ?_
  cases o with
  | nx E1 => exact wp_some
  | rt d => exact wp_some
  | bk d => exact wp_none
  | ct d => exact wp_none
theorem gD_e {o : Option (Option DV)} {d : PyData} {P : PyData → Prop} (h : o = some (some (.dat d))) (q : P d) : gD o P := by rw [h]; exact q
theorem gW_e {o : Option (Option DV)} {d : PyData} {P : PyData → Prop} (h : o = some (some (.dat d))) (q : P d) : gW o P := by rw [h]; exact q
theorem gW_eo {o : Option (Option DV)} {ds : List PyData} {P : PyData → Prop} (h : o = some (some (.own ds))) (q : P (.list ds)) : gW o P := by rw [h]; exact q
theorem gF_e {o : Option (Option DV)} {P : Prop} (h : o = some (some .feed)) (q : P) : gF o P := by rw [h]; exact q
theorem oB_e {γ : Type} {o : Option γ} {z : γ} {P : γ → Prop} (h : o = some z) (q : P z) : oB o P := ⟨z, h, q⟩
theorem cIf_te {c : Bool} {A B : Prop} (h : c = true) (q : A) : cIf c A B := by rw [h]; exact cIf_t.mpr q
theorem cIf_fe {c : Bool} {A B : Prop} (h : c = false) (q : B) : cIf c A B := by rw [h]; exact cIf_f.mpr q
theorem le_size {n : Nat} (h : Nat.ble n 10000 = true) : n ≤ sizeLine := Nat.le_trans (Nat.le_of_ble_eq_true h) (by rw [sizeLine_eq]; decide)
theorem lt_len {i n : Nat} (h : Nat.ble (i + 1) n = true) : i < n := Nat.le_of_ble_eq_true h
end
noncomputable def Tr (f : List DV → M PyData) (args : List DV) (c : Int) (P : PyData → Prop) : Prop := ∀ F : FdS, F.t + c ≤ 199999 → ∃ d F', f args F = some (d, F') ∧ F'.t ≤ F.t + c ∧ P d
theorem Tr.wp {f : List DV → M PyData} {args : List DV} {c : Int} {P : PyData → Prop} {F : FdS} {Q : PyData → FdS → Prop} (h : Tr f args c P) (hF : F.t + c ≤ 199999) (q : ∀ d F', F'.t ≤ F.t + c → P d → Q d F') : wp (f args F) Q := by
  obtain ⟨d, F', e, ht, p⟩ := h F hF
  exact ⟨d, F', e, q d F' ht p⟩
theorem Tr.of {f : List DV → M PyData} {args : List DV} {c : Int} {P : PyData → Prop} (h : ∀ F : FdS, F.t + c ≤ 199999 → L3.wp (f args F) fun d F' => F'.t ≤ F.t + c ∧ P d) : Tr f args c P := fun F hF => by
  obtain ⟨d, F', e, q⟩ := h F hF
  exact ⟨d, F', e, q⟩
mutual
noncomputable def cnt : PyData → Nat
  | .tuple ds => 1 + cntL ds
  | .list ds => 1 + cntL ds
  | _ => 1
noncomputable def cntL : List PyData → Nat
  | [] => 0
  | d :: ds => cnt d + cntL ds
end
noncomputable def asc (x : Str) : Prop := ∀ c ∈ x.cps.toList, c < 128
mutual
noncomputable def scs (n : Nat) : PyData → Prop
  | .none => True
  | .bool _ => True
  | .int i => i.natAbs < 10 ^ 300 + n
  | .str x => x.length ≤ 600 + n ∧ asc x
  | .tuple ds => scsL n ds
  | .list ds => scsL n ds
  | .dict _ => False
noncomputable def scsL (n : Nat) : List PyData → Prop
  | [] => True
  | d :: ds => scs n d ∧ scsL n ds
end
theorem scsL_iff {n : Nat} : ∀ {ds : List PyData}, scsL n ds ↔ ∀ d ∈ ds, scs n d
  | [] => by simp [scsL]
  | d :: ds => by simp [scsL, scsL_iff (ds := ds)]
structure Gd (n N k : Nat) (d : PyData) : Prop where
  sc : scs n d
  dp : d.depth ≤ k
  ct : cnt d ≤ N
theorem Gd.mono {n N k n' N' k' : Nat} {d : PyData} (h : Gd n N k d) (h1 : n = n' ∨ n ≤ n') (h2 : N ≤ N') (h3 : k ≤ k') : Gd n' N' k' d := by
  refine ⟨?_, Nat.le_trans h.dp h3, Nat.le_trans h.ct h2⟩
  have hn : n ≤ n' := by rcases h1 with h | h <;> omega
  have key : ∀ m : Nat, ∀ d : PyData, sizeOf d < m → scs n d → scs n' d := by
    intro m
    induction m with
    | zero => intro d h; exact absurd h (Nat.not_lt_zero _)
    | succ m ih =>
      intro d hm hs
      cases d with
      | none => trivial
      | bool b => trivial
      | int i => simp only [scs] at hs ⊢; omega
      | str x => simp only [scs] at hs ⊢; exact ⟨by omega, hs.2⟩
      | tuple ds =>
        simp only [scs] at hs ⊢
        rw [scsL_iff] at hs ⊢
        exact fun d hd => ih d (by have := List.sizeOf_lt_of_mem hd; simp at hm; omega) (hs d hd)
      | list ds =>
        simp only [scs] at hs ⊢
        rw [scsL_iff] at hs ⊢
        exact fun d hd => ih d (by have := List.sizeOf_lt_of_mem hd; simp at hm; omega) (hs d hd)
      | dict kvs => simp only [scs] at hs
  exact key _ d (Nat.lt_succ_self _) h.sc
theorem depthAll_le {k : Nat} : ∀ {ds : List PyData}, PyData.depthAll ds ≤ k ↔ ∀ d ∈ ds, d.depth ≤ k
  | [] => by simp [PyData.depthAll]
  | d :: ds => by
    have := depthAll_le (k := k) (ds := ds)
    simp only [PyData.depthAll, List.mem_cons, forall_eq_or_imp]
    rw [← this]; omega
theorem Gd.tup {n N k M : Nat} {ds : List PyData} (h : ∀ d ∈ ds, Gd n M k d) (hc : 1 + cntL ds ≤ N) : Gd n N (k + 1) (.tuple ds) := by
  refine ⟨?_, ?_, ?_⟩
  · simp only [scs]; rw [scsL_iff]; exact fun d hd => (h d hd).sc
  · simp only [PyData.depth]
    have : PyData.depthAll ds ≤ k := depthAll_le.mpr fun d hd => (h d hd).dp
    omega
  · simp only [cnt]; exact hc
theorem Gd.lst {n N k M : Nat} {ds : List PyData} (h : ∀ d ∈ ds, Gd n M k d) (hc : 1 + cntL ds ≤ N) : Gd n N (k + 1) (.list ds) := by
  obtain ⟨a, b, c⟩ := Gd.tup h hc
  exact ⟨a, b, c⟩
theorem w9c [Feeds] {E : DE} {F : FS} {i : Nat} {d : PyData} {r : DE → M (List PyData)} {Q : List PyData → FS → Prop} (h : E[i]? = some (some (.dat d))) (q : wp (r E F) fun xs F2 => Q (d :: xs) F2) : wp (sCons (sV i) r E F) Q := r_sCons.mpr (r_sV.mpr (gD_e h q))
theorem w9d [Feeds] {E : DE} {F : FS} {i : Nat} {d : PyData} {f : List DV → M PyData} {Q : PyData → FS → Prop} (h : E[i]? = some (some .feed)) (q : wp (f [.feed, .dat d] F) Q) : wp (sCall f (vF i (vD (sC d) vNil)) E F) Q := r_sCall.mpr (r_vF.mpr (gF_e h (r_vD.mpr (r_sC.mpr (r_vNil.mpr q)))))
theorem w9i [Feeds] {E : DE} {F : FS} {c : DE → M Bool} {a b r : DE → M Out} {Q : Out → FS → Prop} (q : wp (c E F) fun x F1 => cIf x (wp (a E F1) (sqK r Q)) (wp (b E F1) (sqK r Q))) : wp (mSq (mIf c a b) r E F) Q := r_mSq.mpr (r_mIf.mpr q)
theorem w9l [Feeds] {E : DE} {F : FS} {f : List DV → M PyData} {a : DE → M PyData} {r : DE → M (List DV)} {Q : PyData → FS → Prop} (q : wp (a E F) fun x F1 => wp (r E F1) fun xs F2 => wp (f (.dat x :: xs) F2) Q) : wp (sCall f (vD a r) E F) Q := r_sCall.mpr (r_vD.mpr q)
theorem w9q [Feeds] {E : DE} {F : FS} {i : Nat} {a : DE → M PyData} {b : DE → M Out} {Q : Out → FS → Prop} (q : wp (a E F) fun x F1 => i < E.length ∧ sqK b Q (.nx (E.set i (some (.dat x)))) F1) : wp (mSq (mSet i a) b E F) Q := r_mSq.mpr (r_mSet.mpr q)
theorem w9s [Feeds] {E : DE} {F : FS} {i : Nat} {d : PyData} {f : PyData → PyData → Option PyData} {b : DE → M PyData} {Q : PyData → FS → Prop} (h : E[i]? = some (some (.dat d))) (q : wp (b E F) fun y F2 => oB (f d y) fun z => Q z F2) : wp (s2 f (sW i) b E F) Q := r_s2.mpr (r_sW.mpr (gW_e h q))
theorem w9v [Feeds] {E : DE} {F : FS} {i : Nat} {d : PyData} {r : DE → M (List DV)} {Q : List DV → FS → Prop} (h : E[i]? = some (some (.dat d))) (q : wp (r E F) fun xs F2 => Q (.dat d :: xs) F2) : wp (vD (sV i) r E F) Q := r_vD.mpr (r_sV.mpr (gD_e h q))
theorem w9w [Feeds] {E : DE} {F : FS} {i : Nat} {d : PyData} {Q : PyData → FS → Prop} (h : E[i]? = some (some (.dat d))) (q : Q d F) : wp (sW i E F) Q := r_sW.mpr (gW_e h q)
end L3
set_option Elab.async false
set_option linter.all false
set_option maxRecDepth 100000
set_option maxHeartbeats 2000000
namespace L3
open PySem PySem.Spec PyProof.Rows L2
variable [Fam]
structure Nod (d : PyData) : Prop where
  sh : d.showable = true
  nd : d.hasDict = false
  cl : d.canLay0 = true
  ln : d.shown.length + 2 ≤ 7100 * cnt d
theorem ten_two : (10 : Nat) ^ 300 ≤ 2 ^ 1000 := by
  have h : ((10 : Nat) ^ 3) ^ 100 ≤ (2 ^ 10) ^ 100 := Nat.pow_le_pow_left (by decide) 100
  rwa [← Nat.pow_mul, ← Nat.pow_mul] at h
theorem big_lt {n : Nat} (hn : n ≤ 100) : 10 ^ 300 + n ≤ 2 ^ 1001 := by
  have h0 := ten_two
  have h1 : (2 : Nat) ^ 1001 = 2 ^ 1000 + 2 ^ 1000 := by rw [Nat.pow_succ, Nat.mul_two]
  have h2 : (2 : Nat) ^ 7 ≤ 2 ^ 1000 := Nat.pow_le_pow_right (by decide) (by decide)
  have h3 : (2 : Nat) ^ 7 = 128 := by decide
  rw [h1]
  generalize (10 : Nat) ^ 300 = A at *
  generalize (2 : Nat) ^ 1000 = B at *
  omega
theorem nods {ds : List PyData} : (∀ d ∈ ds, Nod d) → PyData.showableAll ds = true ∧ PyData.hasDictAll ds = false ∧ PyData.canLayAll0 ds = true ∧ ((PyData.shownAll ds).map (·.length)).sum + 2 * ds.length ≤ 7100 * cntL ds := by
  induction ds with
  | nil => intro _; exact ⟨by simp [PyData.showableAll], by simp [PyData.hasDictAll], by simp [PyData.canLayAll0], by simp [PyData.shownAll, cntL]⟩
  | cons d ds ih =>
    intro h
    obtain ⟨a, b, c, e⟩ := ih fun x hx => h x (List.mem_cons_of_mem _ hx)
    have hd := h d List.mem_cons_self
    refine ⟨by simp [PyData.showableAll, hd.sh, a], by simp [PyData.hasDictAll, hd.nd, b], by simp [PyData.canLayAll0, hd.cl, c], ?_⟩
    simp only [PyData.shownAll, List.map_cons, List.sum_cons, List.length_cons, cntL]
    have := hd.ln
    omega
theorem nod_of {n : Nat} (hn : n ≤ 100) : ∀ m : Nat, ∀ d : PyData, sizeOf d < m → scs n d → Nod d := by
  intro m
  induction m with
  | zero => intro d h; exact absurd h (Nat.not_lt_zero _)
  | succ m ih =>
    intro d hm hs
    cases d with
    | none => exact ⟨rfl, rfl, rfl, by decide⟩
    | bool b => exact ⟨rfl, rfl, rfl, by cases b <;> decide⟩
    | int i =>
      simp only [scs] at hs
      have hb : i.natAbs < 2 ^ 1001 := Nat.lt_of_lt_of_le hs (big_lt hn)
      have := Shw.int hb (by decide) (by decide)
      exact ⟨this.sh, this.nd, rfl, by have := this.ln; simp only [cnt]; omega⟩
    | str x =>
      simp only [scs] at hs
      refine ⟨rfl, rfl, ?_, ?_⟩
      · simp only [PyData.canLay0, PyData.strOk]
        rw [Array.all_eq_true']
        intro c hc
        have := hs.2 c (by simpa using hc)
        exact decide_eq_true (by omega)
      · have h1 := PySem.StrLaws.reprText_len x fun c hc => Nat.lt_of_lt_of_le (hs.2 c hc) (by decide)
        simp only [PyData.shown, cnt]
        omega
    | tuple ds =>
      simp only [scs] at hs
      rw [scsL_iff] at hs
      obtain ⟨a, b, c, e⟩ := nods fun d hd => ih d (by have := List.sizeOf_lt_of_mem hd; simp at hm; omega) (hs d hd)
      refine ⟨by simpa only [PyData.showable] using a, by simpa only [PyData.hasDict] using b, by simpa only [PyData.canLay0] using c, ?_⟩
      have h5 := tupleText_len_le (PyData.shownAll ds)
      have h6 := PyData.shownAll_length ds
      simp only [PyData.shown, cnt]
      omega
    | list ds =>
      simp only [scs] at hs
      rw [scsL_iff] at hs
      obtain ⟨a, b, c, e⟩ := nods fun d hd => ih d (by have := List.sizeOf_lt_of_mem hd; simp at hm; omega) (hs d hd)
      refine ⟨by simpa only [PyData.showable] using a, by simpa only [PyData.hasDict] using b, by simpa only [PyData.canLay0] using c, ?_⟩
      have h5 := listText_len_le (PyData.shownAll ds)
      have h6 := PyData.shownAll_length ds
      simp only [PyData.shown, cnt]
      omega
    | dict kvs => simp only [scs] at hs
section
variable {n N k : Nat} {d : PyData}
theorem Gd.nod (h : Gd n N k d) (hn : n ≤ 100) : Nod d := nod_of hn _ d (Nat.lt_succ_self _) h.sc
theorem Gd.repr (h : Gd n N k d) (hn : n ≤ 100) (hN : N ≤ 2000) (hk : k ≤ 50) : reprOk d = true := by
  have hd := h.nod hn
  unfold reprOk
  rw [hd.sh, hd.nd]
  have h1 := hd.ln
  have h2 := h.ct
  have h3 := h.dp
  simp
  constructor <;> omega
theorem Gd.shaped (h : Gd n N k d) (hn : n ≤ 100) (hk : k ≤ 50) : PySem.SeqAt.shaped d = true := by
  unfold PySem.SeqAt.shaped
  rw [(h.nod hn).cl]
  have h3 := h.dp
  simp
  omega
theorem gd_int {i : Int} (h : i.natAbs < 10 ^ 300 + n) : Gd n 1 0 (.int i) := ⟨h, by simp [PyData.depth], by simp [cnt]⟩
end
theorem small_int {i : Int} {n : Nat} (h : i.natAbs ≤ 100000000000000000000000000000000000000000) : i.natAbs < 10 ^ 300 + n := by
  have h1 : (10 : Nat) ^ 42 ≤ 10 ^ 300 := Nat.pow_le_pow_right (by decide) (by decide)
  have h2 : 100000000000000000000000000000000000000000 < (10 : Nat) ^ 42 := by decide
  generalize (10 : Nat) ^ 300 = A at *
  omega
end L3
namespace L3
open PySem PySem.Spec PyProof.Rows L2
variable [Fam]
mutual
noncomputable def okc : PyData → Bool
  | .none => true
  | .bool _ => true
  | .int i => decide (i.natAbs ≤ 100000000000000000000000000000000000000000)
  | .str x => decide (x.length ≤ 600) && x.cps.toList.all (fun c => decide (c < 128))
  | .tuple ds => okcL ds
  | .list ds => okcL ds
  | .dict _ => false
noncomputable def okcL : List PyData → Bool
  | [] => true
  | d :: ds => okc d && okcL ds
end
mutual
theorem okc_scs {n : Nat} : ∀ (d : PyData), okc d = true → scs n d
  | .none, _ => by simp [scs]
  | .bool _, _ => by simp [scs]
  | .int i, h => by simp only [okc] at h; simp only [scs]; exact small_int (of_decide_eq_true h)
  | .str x, h => by
    simp only [okc, Bool.and_eq_true, List.all_eq_true] at h
    simp only [scs]
    exact ⟨by have := of_decide_eq_true h.1; omega, fun c hc => of_decide_eq_true (h.2 c hc)⟩
  | .tuple ds, h => by simp only [okc] at h; simp only [scs]; exact okcL_scs ds h
  | .list ds, h => by simp only [okc] at h; simp only [scs]; exact okcL_scs ds h
  | .dict _, h => by simp [okc] at h
theorem okcL_scs {n : Nat} : ∀ (ds : List PyData), okcL ds = true → scsL n ds
  | [], _ => by simp [scsL]
  | d :: ds, h => by
    simp only [okcL, Bool.and_eq_true] at h
    simp only [scsL]
    exact ⟨okc_scs d h.1, okcL_scs ds h.2⟩
end
noncomputable def gdb (N k : Nat) (d : PyData) : Bool := okc d && decide (d.depth ≤ k) && decide (cnt d ≤ N)
theorem gdb_gd {n N k : Nat} {d : PyData} (h : gdb N k d = true) : Gd n N k d := by
  unfold gdb at h
  simp only [Bool.and_eq_true] at h
  exact ⟨okc_scs d h.1.1, of_decide_eq_true h.1.2, of_decide_eq_true h.2⟩
section
variable {ds es : List PyData} {i j : Int} {x y : Str} {b c : Bool} {d : PyData} {T : String}
theorem e_addI : addD (.int i) (.int j) = some (.int (i + j)) := rfl
theorem e_subI : subD (.int i) (.int j) = some (.int (i - j)) := rfl
theorem e_gtI : gtD (.int i) (.int j) = some (.bool (decide (j < i))) := rfl
theorem e_ltI : ltD (.int i) (.int j) = some (.bool (decide (i < j))) := rfl
theorem e_lenT : lenD [.tuple ds] = some (.int ds.length) := rfl
theorem e_tupL : tupleD [.list ds] = some (.tuple ds) := rfl
theorem e_tru : truD (.bool b) = some b := rfl
theorem e_seqT : seqOf (.tuple ds) = some ds := rfl
theorem e_seqL : seqOf (.list ds) = some ds := rfl
end
end L3
set_option Elab.async false
set_option linter.all false
set_option maxRecDepth 100000
set_option maxHeartbeats 2000000
namespace L3
open PySem PySem.Spec PyProof.Rows L2
variable [Fam]
section
variable {s N k : Nat}
end
end L3
set_option Elab.async false
set_option linter.all false
set_option maxRecDepth 100000
set_option maxHeartbeats 2000000
namespace L3
open PySem PySem.Spec PyProof.Rows L2
variable [Fam]
theorem sz {n : Nat} (h : n ≤ 100000) : n ≤ sizeLine := Nat.le_trans h (by rw [sizeLine_eq]; decide)
end L3
set_option Elab.async false
set_option linter.all false
set_option maxRecDepth 100000
set_option maxHeartbeats 2000000
namespace L3
open PySem PySem.Spec PyProof.Rows L2
variable [Fam]
end L3
set_option Elab.async false
set_option linter.all false
set_option maxRecDepth 100000
set_option maxHeartbeats 2000000
namespace L3
open PySem PySem.Spec PyProof.Rows L2
variable [Fam]
theorem for_inv {bd : PyData → DE → Option DE} {body : DE → M Out} {Q : Out → FdS → Prop} (I : Nat → DE → FdS → Prop) : ∀ (items : List PyData) (n : Nat) (E : DE) (F : FdS), I n E F →
    (∀ i d, items[i]? = some d → ∀ E F, I (n + i) E F → ∃ E1, bd d E = some E1 ∧ wp (body E1 F) fun o F' => ∃ E2, o = .nx E2 ∧ I (n + i + 1) E2 F') → (∀ E F, I (n + items.length) E F → Q (.nx E) F) → wp (forGo bd body items E F) Q
  | [], n, E, F, h, _, hq => wp_some.mpr (hq E F h)
  | d :: r, n, E, F, h, st, hq => by
    obtain ⟨E1, e1, h1⟩ := st 0 d rfl E F h
    rw [forGo, e1, Option.bind_some, wp_bind]
    refine wp_mono h1 fun o F1 ⟨E2, e2, h2⟩ => ?_
    subst e2
    refine for_inv I r (n + 1) E2 F1 h2 (fun i d e E F hI => ?_) (fun E F hI => hq E F (by rw [List.length_cons]; rw [show n + (r.length + 1) = n + 1 + r.length by omega]; exact hI))
    have := st (i + 1) d (by simpa using e) E F (by rw [show n + (i + 1) = n + 1 + i by omega]; exact hI)
    rw [show n + (i + 1) + 1 = n + 1 + i + 1 by omega] at this
    exact this
theorem rng_len {lo : Int} {n : Nat} : (rngL lo n).length = n := by simp [rngL]
theorem mul_b {i j : Int} (h1 : i.natAbs < bigN) (h2 : j.natAbs < bigN) : mulD' (.int i) (.int j) = some (.int (i * j)) := if_pos (.inr ⟨h1, h2⟩)
theorem div_n {i j : Int} (h1 : j ≠ 0) (h2 : j.natAbs < 2 ^ 9000) : fdivD (.int i) (.int j) = some (.int (i.fdiv j)) := if_pos ⟨h1, h2⟩
theorem div_b {i j : Int} (h1 : 0 < j) (h2 : j.natAbs < 2 ^ 9000) : fdivD (.int i) (.int j) = some (.int (i / j)) := by
  rw [div_n (by omega) h2, Int.fdiv_eq_ediv_of_nonneg i (by omega)]
theorem mod_b {i j : Int} (h1 : 0 < j) : modD (.int i) (.int j) = some (.int (i % j)) := if_pos h1
end L3
set_option Elab.async false
set_option linter.all false
set_option maxRecDepth 100000
set_option maxHeartbeats 2000000
namespace L3
open PySem PySem.Spec PyProof.Rows L2
variable [Fam]
section
variable {F : FdS} {Q : PyData → FdS → Prop} {n : Nat}
theorem lc_map {me : DE → M PyData} {f : PyData → PyData} {rest : DE} {Q : List PyData → FdS → Prop} : ∀ (ds : List PyData) (o : Option DV), (∀ d ∈ ds, ∀ (F : FdS) (Q : PyData → FdS → Prop), Q (f d) F → wp (me (some (.dat d) :: rest) F) Q) → Q (ds.map f) F → wp (lcGo (bN 0) uYes me ds (o :: rest) F) Q
  | [], o, _, q => wp_some.mpr q
  | d :: ds, o, h, q => by
    rw [lcGo]
    have e : bN 0 d (o :: rest) = some (some (.dat d) :: rest) := rfl
    rw [e, Option.bind_some, wp_bind]
    refine r_uYes.mpr ?_
    rw [if_pos rfl, wp_bind]
    refine h d List.mem_cons_self F _ ?_
    rw [wp_bind]
    exact lc_map ds _ (fun d hd => h d (List.mem_cons_of_mem _ hd)) (wp_some.mpr q)
theorem rep_e {d : PyData} (h : reprOk d = true) : reprD [d] = some (.str d.shown) := if_pos h
theorem addL {xs ys : List PyData} (h : xs.length + ys.length ≤ 100000) : addD (.list xs) (.list ys) = some (.list (xs ++ ys)) := if_pos (sz h)
theorem addT {xs ys : List PyData} (h : xs.length + ys.length ≤ 100000) : addD (.tuple xs) (.tuple ys) = some (.tuple (xs ++ ys)) := if_pos (sz h)
theorem r_sCh {f g : PyData → PyData → Option PyData} {a b c : DE → M PyData} {E : DE} {F : FdS} {Q : PyData → FdS → Prop} : wp (sCh f g a b c E F) Q ↔ wp (a E F) fun x F1 => wp (b E F1) fun y F2 => oB (f x y) fun z => oB (boolOf z) fun t => cIf t (wp (c E F2) fun w F3 => oB (g y w) fun v => Q v F3) (Q (.bool false) F2) := by
  unfold sCh; rw [wp_bind]; refine wp_congr fun x F1 => ?_; rw [wp_bind]; refine wp_congr fun y F2 => ?_
  simp only [wp_obind, oB]
  refine exists_congr fun z => and_congr_right fun _ => exists_congr fun t => and_congr_right fun _ => ?_
  cases t
  · simp only [Bool.false_eq_true, if_false, cIf_f]; exact wp_some
  · simp only [if_true, cIf_t]; rw [wp_bind]; refine wp_congr fun w F3 => ?_; simp only [wp_obind, wp_some]
end
section
variable {F : FdS} {Q : Out → FdS → Prop} {E : DE} {i : Nat} {ds : List PyData}
theorem app_w {v : DE → M PyData} (he : ownOf E i = some ds) (hl : ds.length ≤ 100000) (q : wp (v E F) fun x F1 => Q (.nx (E.set i (some (.own (ds ++ [x]))))) F1) : wp (mApp i v E F) Q := by
  unfold mApp; rw [wp_bind]
  refine wp_mono q fun x F1 h => ?_
  rw [he, Option.bind_some, if_pos (Nat.lt_of_le_of_lt hl (by rw [sizeLine_eq]; decide))]
  exact wp_some.mpr h
theorem enum_w {a : DE → M PyData} {Q : List PyData → FdS → Prop} (q : wp (a E F) fun x F1 => oB (seqOf x) fun ds => Q (enumL 0 ds) F1) : wp (mEnum a E F) Q := by
  unfold mEnum; rw [wp_bind]
  refine wp_mono q fun x F1 h => ?_
  obtain ⟨ds, e, q⟩ := h
  dsimp only
  rw [e, Option.bind_some]
  exact wp_some.mpr q
end
end L3
set_option Elab.async false
set_option linter.all false
set_option maxRecDepth 100000
set_option maxHeartbeats 2000000
namespace L3
open PySem PySem.Spec PyProof.Rows L2
variable [Fam]
theorem lc_trG {bd : PyData → DE → Option DE} {me : DE → M PyData} {Sh : DE → Prop} {P : PyData → PyData → Prop} {c : Int} (hc : 0 ≤ c) : ∀ (ds : List PyData) (E : DE) (F : FdS) (Q : List PyData → FdS → Prop), Sh E →
    (∀ d ∈ ds, ∀ E, Sh E → ∃ E1, bd d E = some E1 ∧ Sh E1 ∧ ∀ F : FdS, F.t + c ≤ 199999 → wp (me E1 F) fun y F' => F'.t ≤ F.t + c ∧ P d y) → F.t + c * ds.length ≤ 199999 →
    (∀ zs F', zs.length = ds.length → (∀ z ∈ zs, ∃ d ∈ ds, P d z) → F'.t ≤ F.t + c * ds.length → Q zs F') → wp (lcGo bd uYes me ds E F) Q
  | [], E, F, Q, _, _, _, q => wp_some.mpr (q [] F rfl (fun z hz => by cases hz) (by simp))
  | d :: ds, E, F, Q, hE, st, hF, q => by
    have e1 : c * ((d :: ds).length : Int) = c * (ds.length : Int) + c := by rw [List.length_cons]; push_cast; rw [Int.mul_add, Int.mul_one]
    have hp : 0 ≤ c * (ds.length : Int) := Int.mul_nonneg hc (by omega)
    rw [e1] at hF q
    obtain ⟨E1, eb, h1, h2⟩ := st d List.mem_cons_self E hE
    rw [lcGo, eb, Option.bind_some, wp_bind]
    refine r_uYes.mpr ?_
    rw [if_pos rfl, wp_bind]
    refine wp_mono (h2 F (by omega)) fun y F1 ⟨t1, py⟩ => ?_
    rw [wp_bind]
    refine lc_trG hc ds E1 F1 _ h1 (fun d hd => st d (List.mem_cons_of_mem _ hd)) (by omega) fun zs F2 hl hz t2 => wp_some.mpr (q _ F2 (by simp [hl]) (fun z hm => ?_) (by omega))
    rcases List.mem_cons.mp hm with rfl | hm
    · exact ⟨d, List.mem_cons_self, py⟩
    · obtain ⟨d', hd', p'⟩ := hz z hm
      exact ⟨d', List.mem_cons_of_mem _ hd', p'⟩
theorem lc_tr {me : DE → M PyData} {P : PyData → PyData → Prop} {c : Int} {rest : DE} {F : FdS} {Q : List PyData → FdS → Prop} (ds : List PyData) (o : Option DV) (hc : 0 ≤ c)
    (st : ∀ d ∈ ds, ∀ F : FdS, F.t + c ≤ 199999 → wp (me (some (.dat d) :: rest) F) fun y F' => F'.t ≤ F.t + c ∧ P d y) (hF : F.t + c * ds.length ≤ 199999)
    (q : ∀ zs F', zs.length = ds.length → (∀ z ∈ zs, ∃ d ∈ ds, P d z) → F'.t ≤ F.t + c * ds.length → Q zs F') : wp (lcGo (bN 0) uYes me ds (o :: rest) F) Q :=
  lc_trG (Sh := fun E => ∃ o, E = o :: rest) hc ds _ F Q ⟨o, rfl⟩ (fun d hd E ⟨o, e⟩ => by subst e; exact ⟨_, rfl, ⟨_, rfl⟩, st d hd⟩) hF q
end L3
set_option Elab.async false
set_option linter.all false
set_option maxRecDepth 100000
set_option maxHeartbeats 2000000
namespace L3
open PySem PySem.Spec PyProof.Rows L2
variable [Fam]
local macro_rules | `(tactic| walk_at "go") => `(tactic| (repeat first | (with_reducible first | refine sq_nx ?_ | refine sq_rt ?_ | refine run_rt ?_ | refine r_mSq.mpr ?_ | refine r_mIf.mpr ?_ | refine r_mSet.mpr ?_ | refine r_mRt.mpr ?_ | refine r_mNx.mpr ?_ | refine r_uB.mpr ?_ | refine r_s2.mpr ?_ | refine r_s1.mpr ?_ | refine r_sN.mpr ?_ | refine r_sC.mpr ?_ | refine r_sV.mpr ?_ | refine r_sW.mpr ?_ | refine r_sNil.mpr ?_ | refine r_sCons.mpr ?_ | refine r_sTup.mpr ?_ | refine r_vNil.mpr ?_ | refine r_vD.mpr ?_ | refine r_sCall.mpr ?_ | refine r_mSeq.mpr ?_ | refine r_sLC.mpr ?_) | ((with_reducible refine r_run.mpr ?_); try dsimp only [startE, List.map_cons, List.map_nil, List.length_cons, List.length_nil, List.replicate, List.cons_append, List.nil_append, Nat.reduceAdd, Nat.reduceSub]) | ((with_reducible apply gD_e); exact rfl) | ((with_reducible apply gW_e); exact rfl) | ((with_reducible apply oB_e); exact rfl) | ((with_reducible refine And.intro (le_size ?_) ?_); exact rfl) | ((with_reducible refine And.intro (lt_len ?_) ?_); exact rfl; try dsimp only [List.set_cons_zero, List.set_cons_succ]) | refine cIf_te rfl ?_ | refine cIf_fe rfl ?_))
theorem wh_inv {c : DE → M Bool} {b : DE → M Out} {Q : Out → FdS → Prop} (I : DE → FdS → Prop) (μ : DE → Nat)
    (st : ∀ E F, I E F → wp (c E F) fun t F1 => cIf t (wp (b E F1) fun o F2 => ∃ E2, o = .nx E2 ∧ I E2 F2 ∧ μ E2 < μ E) (Q (.nx E) F1)) : ∀ (n : Nat) (E : DE) (F : FdS), I E F → μ E < n → wp (whGo c b n E F) Q
  | 0, E, F, _, h => absurd h (Nat.not_lt_zero _)
  | n + 1, E, F, hI, h => by
    rw [whGo, wp_bind]
    refine wp_mono (st E F hI) fun t F1 h1 => ?_
    cases t with
    | false => rw [cIf_f] at h1; rw [if_neg (by simp)]; exact wp_some.mpr h1
    | true =>
      rw [cIf_t] at h1
      rw [if_pos rfl, wp_bind]
      refine wp_mono h1 fun o F2 ⟨E2, e, hI2, hm⟩ => ?_
      subst e
      exact wh_inv I μ st n E2 F2 hI2 (by omega)
theorem wh_w {c : DE → M Bool} {b : DE → M Out} {Q : Out → FdS → Prop} (I : DE → FdS → Prop) (μ : DE → Nat) {E : DE} {F : FdS} (h0 : I E F)
    (st : ∀ E F, I E F → wp (c E F) fun t F1 => cIf t (wp (b E F1) fun o F2 => ∃ E2, o = .nx E2 ∧ I E2 F2 ∧ μ E2 < μ E) (Q (.nx E) F1)) : wp (mWh c b E F) Q := by
  obtain ⟨o, F', e, q⟩ := wh_inv I μ st (μ E + 1) E F h0 (Nat.lt_succ_self _)
  exact ⟨o, F', mWh_of e, q⟩
theorem par_w {i j : Nat} {a : DE → M (List PyData)} {E : DE} {F : FdS} {Q : Out → FdS → Prop} (q : wp (a E F) fun xs F1 => ∃ x y, xs = [x, y] ∧ i < E.length ∧ j < E.length ∧ Q (.nx ((E.set i (some (.dat x))).set j (some (.dat y)))) F1) : wp (mPar i j a E F) Q := by
  unfold mPar; rw [wp_bind]
  refine wp_mono q fun xs F1 h => ?_
  obtain ⟨x, y, rfl, h1, h2, q⟩ := h
  simp only [bN, h1, if_true, Option.bind_some, List.length_set, h2]
  exact wp_some.mpr q
theorem abs_e {i : Int} : absD [.int i] = some (.int (i.natAbs : Int)) := by
  show some (PyData.int (if i < 0 then -i else i)) = _
  congr 2
  split <;> omega
noncomputable def c_common_divisor : List DV → M PyData := runD ["one", "other"] (mSq (mPar 0 1 (sCons (sN absD (sCons (sW 0) sNil)) (sCons (sN absD (sCons (sW 1) sNil)) sNil)))
    (mSq (mWh (uB (s2 gtD (sW 1) (sC (.int 0)))) (mPar 0 1 (sCons (sV 1) (sCons (s2 modD (sW 0) (sW 1)) sNil))))
    (mRt (sV 0))))
theorem gcd_w {a b : Int} {F : FdS} {Q : PyData → FdS → Prop} (q : Q (.int (Int.gcd a b : Nat)) F) : wp (c_common_divisor [.dat (.int a), .dat (.int b)] F) Q := by
  unfold c_common_divisor
  walk_at "go"
  refine par_w ?_
  walk_at "go"
  have hab : ∀ z : Int, (if z < 0 then -z else z) = (z.natAbs : Int) := fun z => by split <;> omega
  rw [hab a, hab b]
  refine ⟨_, _, rfl, lt_len rfl, lt_len rfl, sq_nx ?_⟩
  walk_at "go"
  refine wh_w (fun E F' => F' = F ∧ ∃ x y : Nat, E = [some (.dat (.int x)), some (.dat (.int y))] ∧ Nat.gcd x y = Int.gcd a b) (fun E => match E with
    | [_, some (.dat (.int y))] => y.natAbs
    | _ => 0) ⟨rfl, a.natAbs, b.natAbs, rfl, rfl⟩ ?_
  rintro E F1 ⟨rfl, x, y, rfl, hg⟩
  walk_at "go"
  refine cIf_2 (fun e => ?_) (fun e => ?_)
  · have hy : (0 : Int) < y := of_decide_eq_true e
    refine par_w ?_
    walk_at "go"
    refine oB_e (mod_b hy) ?_
    walk_at "go"
    refine ⟨_, _, rfl, lt_len rfl, lt_len rfl, _, rfl, ⟨rfl, y, x % y, rfl, ?_⟩, ?_⟩
    · rw [← hg, Nat.gcd_comm x y, Nat.gcd_rec y x, Nat.gcd_comm]
    · show ((x : Int) % (y : Int)).natAbs < (y : Int).natAbs
      have h1 := Int.emod_nonneg (x : Int) (b := (y : Int)) (by omega)
      have h2 := Int.emod_lt_of_pos (x : Int) hy
      omega
  · have hy : y = 0 := by have := of_decide_eq_false e; omega
    subst hy
    refine sq_nx ?_
    walk_at "go"
    rw [Nat.gcd_zero_right] at hg
    rw [hg]
    exact q
theorem eq_i {i j : Int} : eqD false (.int i) (.int j) = some (.bool (decide (i = j))) := by
  show (if SeqAt.shaped (.int i) = true ∧ SeqAt.shaped (.int j) = true then _ else none) = _
  rw [if_pos (show SeqAt.shaped (.int i) = true ∧ SeqAt.shaped (.int j) = true from ⟨by simp [SeqAt.shaped, PyData.canLay0, PyData.depth], by simp [SeqAt.shaped, PyData.canLay0, PyData.depth]⟩), if_neg (show ¬ (false = true) by decide)]
  refine congrArg (fun b => some (PyData.bool b)) ?_
  simp only [PyData.eqv]
  exact Bool.beq_eq_decide_eq ..
end L3
set_option Elab.async false
set_option linter.all false
set_option maxRecDepth 100000
set_option maxHeartbeats 2000000
namespace L3
open PySem PySem.Spec PyProof.Rows L2
variable [Fam]
end L3
set_option Elab.async false
set_option linter.all false
set_option maxRecDepth 100000
set_option maxHeartbeats 2000000
namespace L3
open PySem PySem.Spec PyProof.Rows L2
variable [Fam]
local macro_rules | `(tactic| walk_at "go") => `(tactic| (repeat first | (with_reducible first | refine sq_nx ?_ | refine sq_rt ?_ | refine run_rt ?_ | refine r_mSq.mpr ?_ | refine r_mIf.mpr ?_ | refine r_mSet.mpr ?_ | refine r_mRt.mpr ?_ | refine r_mNx.mpr ?_ | refine r_uB.mpr ?_ | refine r_s2.mpr ?_ | refine r_s1.mpr ?_ | refine r_sN.mpr ?_ | refine r_sC.mpr ?_ | refine r_sV.mpr ?_ | refine r_sW.mpr ?_ | refine r_sNil.mpr ?_ | refine r_sCons.mpr ?_ | refine r_sTup.mpr ?_ | refine r_vNil.mpr ?_ | refine r_vD.mpr ?_ | refine r_sCall.mpr ?_ | refine r_mSeq.mpr ?_ | refine r_sLC.mpr ?_) | ((with_reducible refine r_run.mpr ?_); try dsimp only [startE, List.map_cons, List.map_nil, List.length_cons, List.length_nil, List.replicate, List.cons_append, List.nil_append, Nat.reduceAdd, Nat.reduceSub]) | ((with_reducible apply gD_e); exact rfl) | ((with_reducible apply gW_e); exact rfl) | ((with_reducible apply oB_e); exact rfl) | ((with_reducible refine And.intro (le_size ?_) ?_); exact rfl) | ((with_reducible refine And.intro (lt_len ?_) ?_); exact rfl; try dsimp only [List.set_cons_zero, List.set_cons_succ]) | refine cIf_te rfl ?_ | refine cIf_fe rfl ?_))
noncomputable def c_fraction : List DV → M PyData := runD ["top", "bottom", "divisor"] (mSq (mSet 2 (sCall c_common_divisor (vD (sV 0) (vD (sV 1) vNil))))
    (mSq (mIf (uB (s2 ltD (sW 1) (sC (.int 0)))) (mSet 2 (s1 negD (sW 2))) mNx)
    (mRt (sTup (sCons (s2 fdivD (sW 0) (sW 2)) (sCons (s2 fdivD (sW 1) (sW 2)) sNil))))))
structure Low (i j t b : Int) : Prop where
  pos : 0 < b
  low : Int.gcd t b = 1
  as : t * j = i * b
  lt : t.natAbs ≤ i.natAbs
  lb : b.natAbs ≤ j.natAbs
theorem low_pos {i j : Int} (hj : 0 < j) : Low i j (i / (Int.gcd i j : Int)) (j / (Int.gcd i j : Int)) := by
  have hg : 0 < Int.gcd i j := Int.gcd_pos_of_ne_zero_right i (by omega)
  have d1 : (Int.gcd i j : Int) ∣ i := Int.gcd_dvd_left ..
  have d2 : (Int.gcd i j : Int) ∣ j := Int.gcd_dvd_right ..
  refine ⟨Int.ediv_pos_of_pos_of_dvd hj (by omega) d2, Int.gcd_ediv_gcd_ediv_gcd hg, ?_, Int.natAbs_ediv_le_natAbs .., Int.natAbs_ediv_le_natAbs ..⟩
  have hg0 : (Int.gcd i j : Int) ≠ 0 := by omega
  clear hg
  generalize (Int.gcd i j : Int) = g at *
  obtain ⟨x, rfl⟩ := d1
  obtain ⟨y, rfl⟩ := d2
  have hg := hg0
  rw [Int.mul_ediv_cancel_left x hg, Int.mul_ediv_cancel_left y hg, Int.mul_comm g y, ← Int.mul_assoc, Int.mul_comm g x, Int.mul_assoc x g y, Int.mul_comm g y, ← Int.mul_assoc]
theorem low_neg {i j : Int} (hj : j < 0) : Low i j (i / (-(Int.gcd i j : Int))) (j / (-(Int.gcd i j : Int))) := by
  have h := low_pos (i := -i) (j := -j) (by omega)
  rw [Int.neg_gcd, Int.gcd_neg] at h
  obtain ⟨h1, h2, h3, h4, h5⟩ := h
  have e1 : i / (-(Int.gcd i j : Int)) = -i / (Int.gcd i j : Int) := by
    rw [Int.ediv_neg, Int.neg_ediv_of_dvd (Int.gcd_dvd_left ..)]
  have e2 : j / (-(Int.gcd i j : Int)) = -j / (Int.gcd i j : Int) := by
    rw [Int.ediv_neg, Int.neg_ediv_of_dvd (Int.gcd_dvd_right ..)]
  rw [e1, e2]
  refine ⟨h1, h2, ?_, by rw [Int.natAbs_neg] at h4; exact h4, by rw [Int.natAbs_neg] at h5; exact h5⟩
  rw [Int.mul_neg, Int.neg_mul] at h3
  omega
theorem fraction_w {i j : Int} {F : FdS} {Q : PyData → FdS → Prop} (hj : j ≠ 0) (hb : j.natAbs < 2 ^ 9000) (q : ∀ t b, Low i j t b → Q (.tuple [.int t, .int b]) F) : wp (c_fraction [.dat (.int i), .dat (.int j)] F) Q := by
  unfold c_fraction
  walk_at "go"
  refine gcd_w ?_
  have hg : 0 < Int.gcd i j := Int.gcd_pos_of_ne_zero_right i hj
  have hgl : Int.gcd i j ≤ j.natAbs := Nat.le_of_dvd (by omega) (Int.ofNat_dvd_left.mp (Int.gcd_dvd_right ..))
  refine ⟨lt_len rfl, sq_nx ?_⟩
  walk_at "go"
  refine cIf_2 (fun e => ?_) (fun e => ?_)
  · have hj : j < 0 := of_decide_eq_true e
    walk_at "go"
    have hd : (-((Int.gcd i j : Nat) : Int)).natAbs < 2 ^ 9000 := by rw [Int.natAbs_neg]; exact Nat.lt_of_le_of_lt hgl hb
    have h0 : -((Int.gcd i j : Nat) : Int) ≠ 0 := by omega
    have d1 : -((Int.gcd i j : Nat) : Int) ∣ i := Int.neg_dvd.mpr (Int.gcd_dvd_left ..)
    have d2 : -((Int.gcd i j : Nat) : Int) ∣ j := Int.neg_dvd.mpr (Int.gcd_dvd_right ..)
    refine oB_e (div_n h0 hd) ?_
    walk_at "go"
    refine oB_e (div_n h0 hd) ?_
    walk_at "go"
    rw [Int.fdiv_eq_ediv_of_dvd d1, Int.fdiv_eq_ediv_of_dvd d2]
    exact q _ _ (low_neg hj)
  · have hj : 0 < j := by have := of_decide_eq_false e; omega
    walk_at "go"
    have hd : ((Int.gcd i j : Nat) : Int).natAbs < 2 ^ 9000 := Nat.lt_of_le_of_lt hgl hb
    refine oB_e (div_b (by omega) hd) ?_
    walk_at "go"
    refine oB_e (div_b (by omega) hd) ?_
    walk_at "go"
    exact q _ _ (low_pos hj)
end L3
set_option Elab.async false
set_option linter.all false
set_option maxRecDepth 100000
set_option maxHeartbeats 2000000
namespace L3
open PySem PySem.Spec PyProof.Rows L2
variable [Fam]
noncomputable def val (B : Int) : List Int → Int
  | [] => 0
  | x :: r => x + B * val B r
section
variable {B : Int}
theorem val_append : ∀ (xs ys : List Int), val B (xs ++ ys) = val B xs + B ^ xs.length * val B ys
  | [], ys => by simp [val]
  | x :: xs, ys => by
    rw [List.cons_append, val, val, val_append xs ys, List.length_cons, Int.pow_succ]
    generalize B ^ xs.length = P
    grind
theorem val_bound (hB : 1 ≤ B) : ∀ xs : List Int, (∀ x ∈ xs, 0 ≤ x ∧ x < B) → 0 ≤ val B xs ∧ val B xs < B ^ xs.length
  | [], _ => by simp [val]
  | x :: xs, h => by
    obtain ⟨h1, h2⟩ := val_bound hB xs fun y hy => h y (List.mem_cons_of_mem _ hy)
    obtain ⟨h3, h4⟩ := h x List.mem_cons_self
    rw [val, List.length_cons, Int.pow_succ]
    have h5 := Int.mul_nonneg (show 0 ≤ B by omega) h1
    have h6 : B * (val B xs + 1) ≤ B * B ^ xs.length := Int.mul_le_mul_of_nonneg_left (by omega) (by omega)
    rw [Int.mul_add, Int.mul_one] at h6
    rw [Int.mul_comm (B ^ xs.length) B]
    omega
end
theorem le_sum : ∀ {xs : List Int}, (∀ x ∈ xs, 0 ≤ x) → 0 ≤ xs.sum ∧ ∀ x ∈ xs, x ≤ xs.sum
  | [], _ => by simp
  | y :: xs, h => by
    obtain ⟨h1, h2⟩ := le_sum fun z hz => h z (List.mem_cons_of_mem _ hz)
    have h3 := h y List.mem_cons_self
    rw [List.sum_cons]
    refine ⟨by omega, fun x hx => ?_⟩
    rcases List.mem_cons.mp hx with rfl | hx
    · omega
    · have := h2 x hx; omega
noncomputable def bB : Int := 10000000000000000000000000000000000000000000000000000000000000000 * 1000000000000000000000000000000000000
theorem bB_pos : 1000000000 < bB := by decide +kernel
theorem bB_abs : bB.natAbs < 2 ^ 400 := by decide +kernel
theorem lt_big {x : Int} (h0 : 0 ≤ x) (h1 : x < bB) : x.natAbs < bigN := Nat.lt_trans (by omega) (Nat.lt_of_lt_of_le bB_abs (bigN_ge (by decide)))
structure Fl (xs : List Int) (L : Nat) (N S : Int) : Prop where
  len : xs.length = L
  one : 1 ≤ L
  nn : ∀ x ∈ xs, 0 ≤ x
  v : val bB xs = N
  s : xs.sum = S
  lo : bB ^ (L - 1) ≤ N
  sp : 1 ≤ S
  hi : S < bB
theorem Fl.dig {xs : List Int} {L : Nat} {N S : Int} (h : Fl xs L N S) : ∀ x ∈ xs, 0 ≤ x ∧ x < bB := fun x hx => by
  have := (le_sum h.nn).2 x hx
  have := h.s
  have := h.hi
  exact ⟨h.nn x hx, by omega⟩
theorem fl_drop {xs : List Int} {L : Nat} {N S : Int} (h : Fl xs L N S) {k : Nat} (hk : k < L) : 0 < val bB (xs.drop k) := by
  have e : val bB (xs.take k ++ xs.drop k) = N := by rw [List.take_append_drop]; exact h.v
  rw [val_append] at e
  have hl := h.len
  have b := val_bound (B := bB) (by have := bB_pos; omega) (xs.take k) fun x hx => h.dig x (List.mem_of_mem_take hx)
  rw [List.length_take, Nat.min_eq_left (by omega)] at b e
  have hp : bB ^ k ≤ bB ^ (L - 1) := by
    have : bB ^ (L - 1) = bB ^ k * bB ^ (L - 1 - k) := by rw [← Int.pow_add]; congr 1; omega
    rw [this]
    have h1 : (1 : Int) ≤ bB ^ (L - 1 - k) := Int.pow_pos (by have := bB_pos; omega)
    have h2 : (0 : Int) ≤ bB ^ k := Int.le_of_lt (Int.pow_pos (by have := bB_pos; omega))
    have := Int.mul_le_mul_of_nonneg_left h1 h2
    omega
  have lo := h.lo
  rcases Int.lt_or_le 0 (val bB (xs.drop k)) with z | z
  · exact z
  · exfalso
    have h2 : (0 : Int) ≤ bB ^ k := Int.le_of_lt (Int.pow_pos (by have := bB_pos; omega))
    have := Int.mul_le_mul_of_nonneg_left z h2
    omega
section
variable {F : FdS} {E : DE}
end
theorem ixN_n {n : Nat} {i : Int} (h0 : 0 ≤ i) (h1 : i < n) : ixN n i = some i.toNat := by
  unfold ixN; rw [if_pos h0, if_pos h1]
noncomputable abbrev fT (xs : List Int) : PyData := .tuple (xs.map .int)
end L3
set_option Elab.async false
set_option linter.all false
set_option maxRecDepth 100000
set_option maxHeartbeats 2000000
namespace L3
open PySem PySem.Spec PyProof.Rows L2
variable [Fam]
local macro_rules | `(tactic| walk_at "go") => `(tactic| (repeat first | (with_reducible first | refine sq_nx ?_ | refine sq_rt ?_ | refine run_rt ?_ | refine r_mSq.mpr ?_ | refine r_mIf.mpr ?_ | refine r_mSet.mpr ?_ | refine r_mRt.mpr ?_ | refine r_mNx.mpr ?_ | refine r_uB.mpr ?_ | refine r_s2.mpr ?_ | refine r_s1.mpr ?_ | refine r_sN.mpr ?_ | refine r_sC.mpr ?_ | refine r_sV.mpr ?_ | refine r_sW.mpr ?_ | refine r_sNil.mpr ?_ | refine r_sCons.mpr ?_ | refine r_sTup.mpr ?_ | refine r_vNil.mpr ?_ | refine r_vD.mpr ?_ | refine r_sCall.mpr ?_ | refine r_mSeq.mpr ?_ | refine r_sLC.mpr ?_) | ((with_reducible refine r_run.mpr ?_); try dsimp only [startE, List.map_cons, List.map_nil, List.length_cons, List.length_nil, List.replicate, List.cons_append, List.nil_append, Nat.reduceAdd, Nat.reduceSub]) | ((with_reducible apply gD_e); exact rfl) | ((with_reducible apply gW_e); exact rfl) | ((with_reducible apply oB_e); exact rfl) | ((with_reducible refine And.intro (le_size ?_) ?_); exact rfl) | ((with_reducible refine And.intro (lt_len ?_) ?_); exact rfl; try dsimp only [List.set_cons_zero, List.set_cons_succ]) | refine cIf_te rfl ?_ | refine cIf_fe rfl ?_))
theorem rng1_i {i : Int} (h0 : -(2 ^ 62) ≤ i) (h1 : i < 2 ^ 62) : rngOf1 [.int i] = some (rngL 0 i.toNat) := if_pos ⟨h0, h1⟩
noncomputable def pr (p : Int × Int) : PyData := .tuple [.int p.1, .int p.2]
theorem lc_map2 {me : DE → M PyData} {f : Int × Int → PyData} {rest : DE} {Q : List PyData → FdS → Prop} : ∀ (ps : List (Int × Int)) (o o' : Option DV) (F : FdS), (∀ p ∈ ps, ∀ (F : FdS) (Q : PyData → FdS → Prop), Q (f p) F → wp (me (some (.dat (.int p.1)) :: some (.dat (.int p.2)) :: rest) F) Q) → Q (ps.map f) F → wp (lcGo (bTup 2 (bCons (bN 0) (bCons (bN 1) bNil))) uYes me (ps.map pr) (o :: o' :: rest) F) Q
  | [], o, o', F, _, q => wp_some.mpr q
  | p :: ps, o, o', F, h, q => by
    rw [List.map_cons, lcGo]
    have e : bTup 2 (bCons (bN 0) (bCons (bN 1) bNil)) (pr p) (o :: o' :: rest) = some (some (.dat (.int p.1)) :: some (.dat (.int p.2)) :: rest) := rfl
    rw [e, Option.bind_some, wp_bind]
    refine r_uYes.mpr ?_
    rw [if_pos rfl, wp_bind]
    refine h p List.mem_cons_self F _ ?_
    rw [wp_bind]
    exact lc_map2 ps _ _ F (fun p hp => h p (List.mem_cons_of_mem _ hp)) (wp_some.mpr q)
theorem ints_of : ∀ ns : List Int, intsOf (ns.map .int) = some ns
  | [] => rfl
  | n :: ns => by rw [List.map_cons, intsOf, ints_of ns]; rfl
theorem sumL_e {ns : List Int} : sumD' [.list (ns.map .int)] = some (.int ns.sum) := by
  simp only [sumD', ints_of, Option.map_some]
theorem sumT_e {ns : List Int} : sumD' [.tuple (ns.map .int)] = some (.int ns.sum) := by
  simp only [sumD', ints_of, Option.map_some]
noncomputable def wSum (ps : List (Int × Int)) : Int := (ps.map fun p => p.1 * p.2).sum
noncomputable def lSum (ps : List (Int × Int)) : Int := (ps.map fun p => p.2).sum
noncomputable def c_mean_of : List DV → M PyData := runD ["pairs", "weighed"] (mSq (mSet 1 (sN sumD' (sCons (sLC (mSeq (sW 0)) 2 [] (bTup 2 (bCons (bN 0) (bCons (bN 1) bNil))) uYes (s2 mulD' (sW 0) (sW 1))) sNil)))
    (mRt (sCall c_fraction (vD (sV 1) (vD (sN sumD' (sCons (sLC (mSeq (sW 0)) 2 [] (bTup 2 (bCons (bN 0) (bCons (bN 1) bNil))) uYes (sV 1)) sNil)) vNil)))))
theorem meanof_w {ps : List (Int × Int)} {F : FdS} {Q : PyData → FdS → Prop} (hl : ps.length ≤ 1000) (h : ∀ p ∈ ps, p.1.natAbs < bigN ∧ p.2.natAbs < bigN) (hp : 1 ≤ lSum ps) (hb : (lSum ps).natAbs < 2 ^ 9000) (q : ∀ t b, Low (wSum ps) (lSum ps) t b → Q (.tuple [.int t, .int b]) F) : wp (c_mean_of [.dat (.list (ps.map pr))] F) Q := by
  have e1 : (ps.map fun p => PyData.int (p.1 * p.2)) = (ps.map fun p => p.1 * p.2).map .int := by rw [List.map_map]; rfl
  have e2 : (ps.map fun p => PyData.int p.2) = (ps.map fun p => p.2).map .int := by rw [List.map_map]; rfl
  unfold c_mean_of
  walk_at "go"
  refine ⟨sz (by rw [List.length_map]; omega), ?_⟩
  refine lc_map2 (f := fun p => .int (p.1 * p.2)) ps none none F (fun p hp F Q q => ?_) ?_
  · walk_at "go"
    refine oB_e (mul_b (h p hp).1 (h p hp).2) q
  · rw [e1]
    refine r_sNil.mpr (oB_e sumL_e ?_)
    walk_at "go"
    refine ⟨sz (by rw [List.length_map]; omega), ?_⟩
    refine lc_map2 (f := fun p => .int p.2) ps none none F (fun p hp F Q q => ?_) ?_
    · walk_at "go"
      exact q
    · rw [e2]
      refine r_sNil.mpr (oB_e sumL_e ?_)
      walk_at "go"
      exact fraction_w (by have : (1 : Int) ≤ lSum ps := hp; intro z; have z : lSum ps = 0 := z; omega) hb q
noncomputable def en : Nat → List Int → List (Int × Int)
  | _, [] => []
  | k, x :: r => ((k : Nat), x) :: en (k + 1) r
theorem en_len : ∀ (k : Nat) (xs : List Int), (en k xs).length = xs.length
  | _, [] => rfl
  | k, x :: r => by rw [en, List.length_cons, List.length_cons, en_len]
theorem en_enumL : ∀ (k : Nat) (xs : List Int), enumL k (xs.map .int) = (en k xs).map pr
  | _, [] => rfl
  | k, x :: r => by rw [List.map_cons, enumL, en, List.map_cons, en_enumL]; rfl
theorem en_mem : ∀ {k : Nat} {xs : List Int} {p : Int × Int}, p ∈ en k xs → p.2 ∈ xs ∧ 0 ≤ p.1 ∧ p.1 ≤ k + xs.length
  | _, [], p, h => by simp [en] at h
  | k, x :: r, p, h => by
    rw [en] at h
    rcases List.mem_cons.mp h with rfl | h
    · exact ⟨List.mem_cons_self, by simp, by simp only [List.length_cons]; omega⟩
    · obtain ⟨h1, h2, h3⟩ := en_mem h
      exact ⟨List.mem_cons_of_mem _ h1, h2, by rw [List.length_cons]; omega⟩
theorem en_l : ∀ (k : Nat) (xs : List Int), lSum (en k xs) = xs.sum
  | _, [] => rfl
  | k, x :: r => by
    have := en_l (k + 1) r
    simp only [lSum, en, List.map_cons, List.sum_cons] at *
    omega
noncomputable def c_mean : List DV → M PyData := runD ["flow"] (mRt (sCall c_mean_of (vD (sLEn (sV 0)) vNil)))
theorem r_sLEn {m : DE → M PyData} {E : DE} {F : FdS} {Q : PyData → FdS → Prop} (q : wp (m E F) fun x F1 => oB (seqOf x) fun ds => ds.length ≤ 1000 ∧ Q (.list (enumL 0 ds)) F1) : wp (sLEn m E F) Q := by
  unfold sLEn; rw [wp_bind]
  refine wp_mono q fun x F1 h => ?_
  obtain ⟨ds, e, h1, h2⟩ := h
  dsimp only
  rw [e, Option.bind_some, if_pos h1]
  exact wp_some.mpr h2
theorem Fl.big {xs : List Int} {L : Nat} {N S : Int} (h : Fl xs L N S) (hL : L ≤ 1000) : ∀ p ∈ en 0 xs, p.1.natAbs < bigN ∧ p.2.natAbs < bigN := fun p hp => by
  obtain ⟨h1, h2, h3⟩ := en_mem hp
  have := h.len
  exact ⟨lt_big h2 (by have := bB_pos; omega), lt_big (h.dig _ h1).1 (h.dig _ h1).2⟩
theorem Fl.s9 {xs : List Int} {L : Nat} {N S : Int} (h : Fl xs L N S) : S.natAbs < 2 ^ 9000 := by
  have h1 := h.sp
  have h2 := h.hi
  exact Nat.lt_trans (by omega) (Nat.lt_of_lt_of_le bB_abs (Nat.pow_le_pow_right (by decide) (by decide)))
theorem mean_w {xs : List Int} {L : Nat} {N S : Int} {F : FdS} {Q : PyData → FdS → Prop} (h : Fl xs L N S) (hL : L ≤ 1000) (q : ∀ t b, Low (wSum (en 0 xs)) S t b → Q (.tuple [.int t, .int b]) F) : wp (c_mean [.dat (fT xs)] F) Q := by
  have hl := h.len
  have es : lSum (en 0 xs) = S := by rw [en_l, h.s]
  unfold c_mean
  walk_at "go"
  refine r_sLEn ?_
  walk_at "go"
  refine ⟨by rw [List.length_map]; omega, ?_⟩
  rw [en_enumL]
  walk_at "go"
  refine meanof_w (by rw [en_len]; omega) (h.big hL) (by rw [es]; exact h.sp) (by rw [es]; exact h.s9) ?_
  rw [es]
  intro t b hb
  walk_at "go"
  exact q t b hb
noncomputable def c_total : List DV → M PyData := runD ["flow"] (mRt (sN sumD' (sCons (sW 0) sNil)))
theorem total_w {xs : List Int} {F : FdS} {Q : PyData → FdS → Prop} (q : Q (.int xs.sum) F) : wp (c_total [.dat (fT xs)] F) Q := by
  unfold c_total
  walk_at "go"
  refine oB_e sumT_e ?_
  walk_at "go"
  exact q
noncomputable def c_share_of : List DV → M PyData := runD ["flow", "k"] (mSq (mIf (uNot (uB (sCh leD ltD (sC (.int 0)) (sW 1) (sN lenD (sCons (sW 0) sNil))))) (mRt (sC (.tuple [.int 0, .int 1]))) mNx)
    (mRt (sCall c_fraction (vD (s2 ixD (sW 0) (sW 1)) (vD (sCall c_total (vD (sV 0) vNil)) vNil)))))
noncomputable def lotAt (xs : List Int) (k : Int) : Int := if 0 ≤ k ∧ k < xs.length then xs.getD k.toNat 0 else 0
theorem at_lot {xs : List Int} {k : Int} (h0 : 0 ≤ k) (h1 : k < xs.length) : atI (xs.map PyData.int) k = some (.int (lotAt xs k)) := by
  unfold atI lotAt
  rw [List.length_map, ixN_n h0 h1, Option.bind_some, if_pos ⟨h0, h1⟩, List.getElem?_map]
  have hk : k.toNat < xs.length := by omega
  simp [List.getElem?_eq_getElem hk, List.getD]
theorem share_w {xs : List Int} {L : Nat} {N S k : Int} {F : FdS} {Q : PyData → FdS → Prop} (h : Fl xs L N S) (q : ∀ t b, Low (lotAt xs k) S t b → Q (.tuple [.int t, .int b]) F) : wp (c_share_of [.dat (fT xs), .dat (.int k)] F) Q := by
  have hsp := h.sp
  have out : ¬ (0 ≤ k ∧ k < xs.length) → Q (.tuple [.int 0, .int 1]) F := fun hn => by
    refine q 0 1 ⟨by decide, by decide, ?_, ?_, ?_⟩
    · unfold lotAt; rw [if_neg hn]; simp
    · simp
    · show 1 ≤ S.natAbs; omega
  unfold c_share_of
  refine r_run.mpr (r_mSq.mpr (r_mIf.mpr (r_uNot.mpr (r_uB.mpr (r_sCh.mpr ?_)))))
  walk_at "go"
  refine cIf_2 (fun e1 => ?_) (fun e1 => ?_)
  · have e1 := of_decide_eq_true e1
    walk_at "go"
    rw [List.length_map]
    by_cases e2 : k < xs.length
    · rw [decide_eq_true e2]
      walk_at "go"
      refine oB_e (at_lot e1 e2) ?_
      walk_at "go"
      refine total_w ?_
      walk_at "go"
      rw [h.s]
      refine fraction_w (by omega) h.s9 fun t b hb => ?_
      walk_at "go"
      exact q t b hb
    · rw [decide_eq_false e2]
      walk_at "go"
      exact out fun z => e2 z.2
  · have e1 := of_decide_eq_false e1
    walk_at "go"
    exact out fun z => e1 z.1
end L3
set_option Elab.async false
set_option linter.all false
set_option maxRecDepth 100000
set_option maxHeartbeats 2000000
namespace L3
open PySem PySem.Spec PyProof.Rows L2
variable [Fam]
noncomputable def qd (q : Rat) : PyData := .tuple [.int q.num, .int ((q.den : Nat) : Int)]
theorem low_qd {i j t b : Int} (h : Low i j t b) (hj : 0 < j) : PyData.tuple [.int t, .int b] = qd (mkRat i j.toNat) := by
  obtain ⟨h1, h2, h3, _, _⟩ := h
  have nz : b.toNat ≠ 0 := by omega
  have cp : t.natAbs.Coprime b.toNat := by
    have : b.toNat = b.natAbs := by omega
    rw [this]; exact h2
  have e1 : (⟨t, b.toNat, nz, cp⟩ : Rat) = mkRat t b.toNat := by rw [Rat.mk_eq_mkRat]
  have e2 : mkRat t b.toNat = mkRat i j.toNat := by
    rw [Rat.mkRat_eq_iff nz (by omega)]
    rw [show ((j.toNat : Nat) : Int) = j by omega, show ((b.toNat : Nat) : Int) = b by omega]
    exact h3
  rw [← e2, ← e1]
  unfold qd
  simp only
  rw [show ((b.toNat : Nat) : Int) = b by omega]
theorem frac_q {i j : Int} {F : FdS} {Q : PyData → FdS → Prop} (hj : 0 < j) (hb : j.natAbs < 2 ^ 9000) (q : Q (qd (mkRat i j.toNat)) F) : wp (c_fraction [.dat (.int i), .dat (.int j)] F) Q :=
  fraction_w (by omega) hb fun t b h => by rw [low_qd h hj]; exact q
theorem frac_n {i : Int} {n : Nat} {F : FdS} {Q : PyData → FdS → Prop} (hj : 0 < n) (hb : n < 2 ^ 9000) (q : Q (qd (mkRat i n)) F) : wp (c_fraction [.dat (.int i), .dat (.int (n : Nat))] F) Q :=
  frac_q (by omega) (by omega) (by rw [Int.toNat_natCast]; exact q)
structure Sz (p : Rat) : Prop where
  num : p.num.natAbs < 2 ^ 4000
  den : p.den < 2 ^ 4000
theorem p4 {n : Nat} (h : n < 2 ^ 4000) : n < bigN := Nat.lt_of_lt_of_le h (bigN_ge (by decide))
theorem Sz.dd {p q : Rat} (hp : Sz p) (hq : Sz q) : p.den * q.den < 2 ^ 9000 := by
  have := Nat.mul_lt_mul'' hp.den hq.den
  rw [← Nat.pow_add] at this
  exact Nat.lt_trans this (Nat.pow_lt_pow_right (by decide) (by decide))
theorem Sz.mul1 {p q : Rat} (hp : Sz p) (hq : Sz q) : mulD' (.int p.num) (.int ((q.den : Nat) : Int)) = some (.int (p.num * ((q.den : Nat) : Int))) := mul_b (p4 hp.num) (p4 (by have := hq.den; omega))
theorem Sz.mul2 {p q : Rat} (hp : Sz p) (hq : Sz q) : mulD' (.int ((p.den : Nat) : Int)) (.int ((q.den : Nat) : Int)) = some (.int (((p.den * q.den : Nat)) : Int)) := by
  rw [Int.natCast_mul]
  exact mul_b (p4 (by have := hp.den; omega)) (p4 (by have := hq.den; omega))
theorem Sz.mul3 {p q : Rat} (hp : Sz p) (hq : Sz q) : mulD' (.int p.num) (.int q.num) = some (.int (p.num * q.num)) := mul_b (p4 hp.num) (p4 hq.num)
theorem den_pos (p : Rat) : 0 < p.den := Nat.pos_of_ne_zero p.den_nz
noncomputable def c_minus : List DV → M PyData := runD ["one", "other"] (mRt (sCall c_fraction (vD (s2 subD (s2 mulD' (s2 ixD (sW 0) (sC (.int 0))) (s2 ixD (sW 1) (sC (.int 1)))) (s2 mulD' (s2 ixD (sW 1) (sC (.int 0))) (s2 ixD (sW 0) (sC (.int 1))))) (vD (s2 mulD' (s2 ixD (sW 0) (sC (.int 1))) (s2 ixD (sW 1) (sC (.int 1)))) vNil))))
noncomputable def c_times : List DV → M PyData := runD ["one", "other"] (mRt (sCall c_fraction (vD (s2 mulD' (s2 ixD (sW 0) (sC (.int 0))) (s2 ixD (sW 1) (sC (.int 0)))) (vD (s2 mulD' (s2 ixD (sW 0) (sC (.int 1))) (s2 ixD (sW 1) (sC (.int 1)))) vNil))))
section
variable {F : FdS} {Q : PyData → FdS → Prop} {p q : Rat}
theorem ix0 : ixD (qd p) (.int 0) = some (.int p.num) := rfl
theorem ix1 : ixD (qd p) (.int 1) = some (.int ((p.den : Nat) : Int)) := rfl
theorem minus_w (hp : Sz p) (hq : Sz q) (k : Q (qd (p - q)) F) : wp (c_minus [.dat (qd p), .dat (qd q)] F) Q := by
  unfold c_minus
  refine r_run.mpr (r_mRt.mpr (r_sCall.mpr (r_vD.mpr (r_s2.mpr (r_s2.mpr (r_s2.mpr (r_sW.mpr (gW_e rfl (r_sC.mpr (oB_e ix0 (r_s2.mpr (r_sW.mpr (gW_e rfl (r_sC.mpr (oB_e ix1 (oB_e (hp.mul1 hq) ?_))))))))))))))))
  refine r_s2.mpr (r_s2.mpr (r_sW.mpr (gW_e rfl (r_sC.mpr (oB_e ix0 (r_s2.mpr (r_sW.mpr (gW_e rfl (r_sC.mpr (oB_e ix1 (oB_e (hq.mul1 hp) ?_)))))))))))
  refine oB_e e_subI (r_vD.mpr (r_s2.mpr (r_s2.mpr (r_sW.mpr (gW_e rfl (r_sC.mpr (oB_e ix1 (r_s2.mpr (r_sW.mpr (gW_e rfl (r_sC.mpr (oB_e ix1 (oB_e (hp.mul2 hq) (r_vNil.mpr ?_))))))))))))))
  refine frac_n (Nat.mul_pos (den_pos p) (den_pos q)) (hp.dd hq) (run_rt ?_)
  rw [Rat.sub_def, Rat.normalize_eq_mkRat] at k
  exact k
theorem prod_w (hp : Sz p) (hq : Sz q) (k : Q (qd (p * q)) F) : wp (c_times [.dat (qd p), .dat (qd q)] F) Q := by
  unfold c_times
  refine r_run.mpr (r_mRt.mpr (r_sCall.mpr (r_vD.mpr (r_s2.mpr (r_s2.mpr (r_sW.mpr (gW_e rfl (r_sC.mpr (oB_e ix0 (r_s2.mpr (r_sW.mpr (gW_e rfl (r_sC.mpr (oB_e ix0 (oB_e (hp.mul3 hq) ?_)))))))))))))))
  refine r_vD.mpr (r_s2.mpr (r_s2.mpr (r_sW.mpr (gW_e rfl (r_sC.mpr (oB_e ix1 (r_s2.mpr (r_sW.mpr (gW_e rfl (r_sC.mpr (oB_e ix1 (oB_e (hp.mul2 hq) (r_vNil.mpr ?_)))))))))))))
  refine frac_n (Nat.mul_pos (den_pos p) (den_pos q)) (hp.dd hq) (run_rt ?_)
  rw [Rat.mul_def, Rat.normalize_eq_mkRat] at k
  exact k
end
theorem den_mkRat (a : Int) {D : Nat} (hD : D ≠ 0) : (mkRat a D).den ∣ D ∧ ∀ M : Nat, a.natAbs ≤ M * D → (mkRat a D).num.natAbs ≤ M * (mkRat a D).den := by
  rw [← Rat.normalize_eq_mkRat hD, Rat.normalize_eq]
  have g1 : a.natAbs.gcd D ∣ D := Nat.gcd_dvd_right ..
  have g2 : a.natAbs.gcd D ∣ a.natAbs := Nat.gcd_dvd_left ..
  have gp : 0 < a.natAbs.gcd D := Nat.gcd_pos_of_pos_right _ (Nat.pos_of_ne_zero hD)
  refine ⟨Nat.div_dvd_of_dvd g1, fun M h => ?_⟩
  show (a / ((a.natAbs.gcd D : Nat) : Int)).natAbs ≤ M * (D / a.natAbs.gcd D)
  generalize a.natAbs.gcd D = g at *
  obtain ⟨x, hx⟩ := g1
  obtain ⟨y, hy⟩ := g2
  have e1 : D / g = x := by rw [hx]; exact Nat.mul_div_cancel_left x gp
  have e2 : (a / (g : Int)).natAbs = y := by
    have hd : (g : Int) ∣ a := Int.ofNat_dvd_left.mpr ⟨y, hy⟩
    rw [Int.natAbs_ediv_of_dvd hd, hy, Int.natAbs_natCast]
    exact Nat.mul_div_cancel_left y gp
  rw [e1, e2]
  rw [hy, hx] at h
  have h' : g * y ≤ g * (M * x) := by
    have : M * (g * x) = g * (M * x) := by rw [← Nat.mul_assoc, Nat.mul_comm M g, Nat.mul_assoc]
    omega
  exact Nat.le_of_mul_le_mul_left h' gp
structure Qb (D M : Nat) (p : Rat) : Prop where
  den : p.den ∣ D
  num : p.num.natAbs ≤ M * p.den
theorem Qb.of {D M : Nat} {a : Int} (hD : D ≠ 0) (h : a.natAbs ≤ M * D) : Qb D M (mkRat a D) := ⟨(den_mkRat a hD).1, (den_mkRat a hD).2 M h⟩
theorem Qb.sz {D M : Nat} {p : Rat} (h : Qb D M p) (hD : D ≠ 0) (h1 : D < 2 ^ 3000) (h2 : M < 2 ^ 1000) : Sz p := by
  have hle := Nat.le_of_dvd (Nat.pos_of_ne_zero hD) h.den
  refine ⟨?_, Nat.lt_of_le_of_lt hle (Nat.lt_trans h1 (Nat.pow_lt_pow_right (by decide) (by decide)))⟩
  refine Nat.lt_of_le_of_lt h.num ?_
  have e : (2 : Nat) ^ 4000 = 2 ^ 1000 * 2 ^ 3000 := by rw [← Nat.pow_add]
  rw [e]
  exact Nat.mul_lt_mul'' h2 (Nat.lt_of_le_of_lt hle h1)
end L3
set_option Elab.async false
set_option linter.all false
set_option maxRecDepth 100000
set_option maxHeartbeats 2000000
namespace Bz
open PySem L2 L3
variable [Fam]
section
variable {xs : List Int} {L T : Nat} {N : Int}
variable {F : FdS} {Q : PyData → FdS → Prop}
end
theorem lot_n {xs : List Int} {h : Nat} : lotAt xs (h : Int) = xs.getD h 0 := by
  unfold lotAt
  split
  · rw [Int.toNat_natCast]
  · rename_i hn
    rw [List.getD_eq_getElem?_getD, List.getElem?_eq_none (by omega)]; rfl
section
variable {xs : List Int} {L T : Nat} {N : Int} {F : FdS} {Q : PyData → FdS → Prop}
variable {T1 : Nat} {N1 : Int}
end
section
variable {xs : List Int} {L : Nat} {N S : Int}
end
section
variable {xs : List Int} {L T : Nat} {N : Int}
end
end Bz
set_option Elab.async false
set_option linter.all false
set_option maxRecDepth 100000
set_option maxHeartbeats 2000000
namespace Bz
open PySem L2 L3
variable [Fam]
theorem to_ints {P : Int → Prop} : ∀ {zs : List PyData}, (∀ z ∈ zs, ∃ x, z = .int x ∧ P x) → ∃ xs : List Int, zs = xs.map .int ∧ ∀ x ∈ xs, P x
  | [], _ => ⟨[], rfl, fun _ h => by cases h⟩
  | z :: zs, h => by
    obtain ⟨x, rfl, hx⟩ := h z List.mem_cons_self
    obtain ⟨xs, rfl, hxs⟩ := to_ints fun z hz => h z (List.mem_cons_of_mem _ hz)
    refine ⟨x :: xs, rfl, fun y hy => ?_⟩
    rcases List.mem_cons.mp hy with rfl | hy
    · exact hx
    · exact hxs y hy
noncomputable def Sm12 (xs : List Int) : Prop := ∀ x ∈ xs, 0 ≤ x ∧ x ≤ 12
end Bz
set_option Elab.async false
set_option linter.all false
set_option maxRecDepth 100000
set_option maxHeartbeats 2000000
namespace Bz
open PySem L2 L3
variable [Fam]
local macro_rules | `(tactic| walk_at "go") => `(tactic| (repeat first | (with_reducible first | refine sq_nx ?_ | refine sq_rt ?_ | refine run_rt ?_ | refine r_mSq.mpr ?_ | refine r_mIf.mpr ?_ | refine r_mSet.mpr ?_ | refine r_mRt.mpr ?_ | refine r_mNx.mpr ?_ | refine r_uB.mpr ?_ | refine r_s2.mpr ?_ | refine r_s1.mpr ?_ | refine r_sN.mpr ?_ | refine r_sC.mpr ?_ | refine r_sV.mpr ?_ | refine r_sW.mpr ?_ | refine r_sNil.mpr ?_ | refine r_sCons.mpr ?_ | refine r_sTup.mpr ?_ | refine r_vNil.mpr ?_ | refine r_vD.mpr ?_ | refine r_sCall.mpr ?_ | refine r_mSeq.mpr ?_ | refine r_sLC.mpr ?_) | ((with_reducible refine r_run.mpr ?_); try dsimp only [startE, List.map_cons, List.map_nil, List.length_cons, List.length_nil, List.replicate, List.cons_append, List.nil_append, Nat.reduceAdd, Nat.reduceSub]) | ((with_reducible apply gD_e); exact rfl) | ((with_reducible apply gW_e); exact rfl) | ((with_reducible apply oB_e); exact rfl) | ((with_reducible refine And.intro (le_size ?_) ?_); exact rfl) | ((with_reducible refine And.intro (lt_len ?_) ?_); exact rfl; try dsimp only [List.set_cons_zero, List.set_cons_succ]) | refine cIf_te rfl ?_ | refine cIf_fe rfl ?_))
noncomputable def c_less : List DV → M PyData := runD ["one", "other"] (mRt (s2 ltD (s2 mulD' (s2 ixD (sW 0) (sC (.int 0))) (s2 ixD (sW 1) (sC (.int 1)))) (s2 mulD' (s2 ixD (sW 1) (sC (.int 0))) (s2 ixD (sW 0) (sC (.int 1))))))
noncomputable def c_word_of : List DV → M PyData := runD ["flow", "hands", "brought", "most"] (mSq (mPar 2 3 (sCons (sCall c_mean (vD (sV 0) vNil)) (sCons (sTup (sCons (sV 1) (sCons (sC (.int 1)) sNil))) sNil)))
    (mSq (mIf (uT (sCall c_less (vD (sV 2) (vD (sV 3) vNil)))) (mRt (sC (.str "rests"))) mNx)
    (mSq (mIf (uT (sCall c_less (vD (sV 3) (vD (sV 2) vNil)))) (mRt (sC (.str "runs"))) mNx)
    (mRt (sIf (uB (s2 (eqD false) (sCall c_share_of (vD (sV 0) (vD (sV 1) vNil))) (sC (.tuple [.int 1, .int 1])))) (sC (.str "still")) (sC (.str "swings")))))))
theorem getD_nn {xs : List Int} (h : ∀ x ∈ xs, 0 ≤ x) (k : Nat) : 0 ≤ xs.getD k 0 := by
  rw [List.getD_eq_getElem?_getD]
  cases e : xs[k]? with
  | none => simp
  | some x => exact h x (List.mem_of_getElem? e)
theorem getD_le {xs : List Int} (h : ∀ x ∈ xs, 0 ≤ x) (k : Nat) : xs.getD k 0 ≤ xs.sum := by
  rw [List.getD_eq_getElem?_getD]
  cases e : xs[k]? with
  | none => exact (le_sum h).1
  | some x => exact (le_sum h).2 x (List.mem_of_getElem? e)
theorem sum_two : ∀ {xs : List Int} {k h : Nat}, (∀ x ∈ xs, 0 ≤ x) → k ≠ h → xs.getD k 0 + xs.getD h 0 ≤ xs.sum
  | [], k, h, _, _ => by simp
  | x :: r, 0, 0, _, hk => absurd rfl hk
  | x :: r, 0, h + 1, nn, _ => by
    have := getD_le (xs := r) (fun y hy => nn y (List.mem_cons_of_mem _ hy)) h
    simp only [List.getD_cons_zero, List.getD_cons_succ, List.sum_cons]; omega
  | x :: r, k + 1, 0, nn, _ => by
    have := getD_le (xs := r) (fun y hy => nn y (List.mem_cons_of_mem _ hy)) k
    simp only [List.getD_cons_zero, List.getD_cons_succ, List.sum_cons]; omega
  | x :: r, k + 1, h + 1, nn, hk => by
    have := sum_two (xs := r) (k := k) (h := h) (fun y hy => nn y (List.mem_cons_of_mem _ hy)) (by omega)
    have := nn x List.mem_cons_self
    simp only [List.getD_cons_succ, List.sum_cons]; omega
theorem eqT {xs ys : List PyData} (h1 : PySem.SeqAt.shaped (.tuple xs) = true) (h2 : PySem.SeqAt.shaped (.tuple ys) = true) : eqD false (.tuple xs) (.tuple ys) = some (.bool (PyData.eqv (.tuple xs) (.tuple ys))) := by
  unfold eqD; simp [h1, h2]
noncomputable def ans (xs : List Int) (h : Nat) (S : Int) : Str := if wSum (en 0 xs) < (h : Int) * S then "rests" else if (h : Int) * S < wSum (en 0 xs) then "runs" else if xs.getD h 0 = S then "still" else "swings"
section
variable {F : FdS} {Q : PyData → FdS → Prop} {xs : List Int} {L h : Nat} {N S : Int}
theorem less_w {a b c d : Int} (ha : a.natAbs < bigN) (hb : b.natAbs < bigN) (hc : c.natAbs < bigN) (hd : d.natAbs < bigN) (q : Q (.bool (decide (a * d < c * b))) F) : wp (c_less [.dat (.tuple [.int a, .int b]), .dat (.tuple [.int c, .int d])] F) Q := by
  unfold c_less
  walk_at "go"
  refine oB_e (mul_b ha hd) ?_
  walk_at "go"
  refine oB_e (mul_b hc hb) ?_
  walk_at "go"
  exact q
theorem wsum_big (hf : Fl xs L N S) (hL : L ≤ 1000) : (wSum (en 0 xs)).natAbs < bigN := by
  have key : ∀ {ps : List (Int × Int)}, (∀ p ∈ ps, 0 ≤ p.1 ∧ p.1 ≤ 1000 ∧ 0 ≤ p.2) → 0 ≤ wSum ps ∧ wSum ps ≤ 1000 * lSum ps := by
    intro ps
    induction ps with
    | nil => intro _; simp [wSum, lSum]
    | cons p ps ih =>
      intro h
      obtain ⟨h1, h2⟩ := ih fun p hp => h p (List.mem_cons_of_mem _ hp)
      obtain ⟨a, b, c⟩ := h p List.mem_cons_self
      simp only [wSum, lSum, List.map_cons, List.sum_cons] at *
      have h3 := Int.mul_le_mul_of_nonneg_right b c
      have h4 := Int.mul_nonneg a c
      omega
  have hl := hf.len
  obtain ⟨a, b⟩ := key (ps := en 0 xs) fun p hp => by
    obtain ⟨a, b, c⟩ := en_mem hp
    exact ⟨b, by omega, hf.nn _ a⟩
  rw [en_l, hf.s] at b
  refine Nat.lt_of_lt_of_le (m := 2 ^ 500) ?_ (bigN_ge (by decide))
  have : (1000 * bB).natAbs < 2 ^ 500 := by decide +kernel
  have := hf.hi
  omega
theorem one_iff {t b lot : Int} (hl : Low lot S t b) (hs : 1 ≤ S) : (t = 1 ∧ b = 1) ↔ lot = S := by
  obtain ⟨h1, h2, h3, _, _⟩ := hl
  constructor
  · rintro ⟨rfl, rfl⟩; omega
  · intro e
    subst e
    rw [Int.mul_comm lot b] at h3
    have : t = b := Int.eq_of_mul_eq_mul_right (by omega) h3
    subst this
    rw [Int.gcd_self] at h2
    omega
theorem lt_iff {t b w : Int} {j : Int} (hl : Low w S t b) (hs : 1 ≤ S) : (t < j * b ↔ w < j * S) ∧ (j * b < t ↔ j * S < w) := by
  obtain ⟨h1, h2, h3, _, _⟩ := hl
  have e1 : (t - j * b) * S = (w - j * S) * b := by grind
  have p1 : ∀ x : Int, (x * S < 0 ↔ x < 0) ∧ (0 < x * S ↔ 0 < x) := fun x => by
    refine ⟨⟨fun z => ?_, fun z => Int.mul_neg_of_neg_of_pos z (by omega)⟩, ⟨fun z => ?_, fun z => Int.mul_pos z (by omega)⟩⟩
    · rcases Int.lt_or_le x 0 with y | y
      · exact y
      · have := Int.mul_nonneg y (show 0 ≤ S by omega); omega
    · rcases Int.lt_or_le 0 x with y | y
      · exact y
      · have := Int.mul_nonneg (show 0 ≤ -x by omega) (show 0 ≤ S by omega)
        rw [Int.neg_mul] at this; omega
  have p2 : ∀ x : Int, (x * b < 0 ↔ x < 0) ∧ (0 < x * b ↔ 0 < x) := fun x => by
    refine ⟨⟨fun z => ?_, fun z => Int.mul_neg_of_neg_of_pos z (by omega)⟩, ⟨fun z => ?_, fun z => Int.mul_pos z (by omega)⟩⟩
    · rcases Int.lt_or_le x 0 with y | y
      · exact y
      · have := Int.mul_nonneg y (show 0 ≤ b by omega); omega
    · rcases Int.lt_or_le 0 x with y | y
      · exact y
      · have := Int.mul_nonneg (show 0 ≤ -x by omega) (show 0 ≤ b by omega)
        rw [Int.neg_mul] at this; omega
  have a1 := p1 (t - j * b)
  have a2 := p2 (w - j * S)
  rw [e1] at a1
  constructor
  · constructor
    · intro z; have := a2.1.mp (a1.1.mpr (by omega)); omega
    · intro z; have := a1.1.mp (a2.1.mpr (by omega)); omega
  · constructor
    · intro z; have := a2.2.mp (a1.2.mpr (by omega)); omega
    · intro z; have := a1.2.mp (a2.2.mpr (by omega)); omega
theorem gdi {i : Int} (h : i.natAbs ≤ bB.natAbs) : Gd 0 1 0 (.int i) := gd_int (Nat.lt_of_le_of_lt h (by decide +kernel))
theorem word_w (hf : Fl xs L N S) (hL : L ≤ 1000) (hh : h ≤ 3) (q : Q (.str (ans xs h S)) F) : wp (c_word_of [.dat (fT xs), .dat (.int (h : Nat))] F) Q := by
  have hsp := hf.sp
  have hhi := hf.hi
  have hB := bB_pos
  unfold c_word_of
  refine r_run.mpr (r_mSq.mpr (par_w (r_sCons.mpr (r_sCall.mpr (r_vD.mpr (r_sV.mpr (gD_e rfl (r_vNil.mpr ?_))))))))
  refine mean_w hf hL fun t b hb => ?_
  have ht := Nat.lt_of_le_of_lt hb.lt (wsum_big hf hL)
  have hb2 := Nat.lt_of_le_of_lt hb.lb (lt_big (x := S) (by omega) hhi)
  have hhb : ((h : Nat) : Int).natAbs < bigN := lt_big (by omega) (by omega)
  have h1b : (1 : Int).natAbs < bigN := lt_big (by decide) (by omega)
  obtain ⟨i1, i2⟩ := lt_iff (j := (h : Int)) hb hsp
  refine r_sCons.mpr (r_sTup.mpr (r_sCons.mpr (r_sV.mpr (gD_e rfl (r_sCons.mpr (r_sC.mpr (r_sNil.mpr ⟨sz (by simp), r_sNil.mpr ⟨_, _, rfl, lt_len rfl, lt_len rfl, sq_nx ?_⟩⟩)))))))
  refine r_mSq.mpr (r_mIf.mpr (r_uT.mpr (r_sCall.mpr (r_vD.mpr (r_sV.mpr (gD_e rfl (r_vD.mpr (r_sV.mpr (gD_e rfl (r_vNil.mpr ?_))))))))))
  refine less_w ht hb2 hhb h1b ?_
  rw [Int.mul_one]
  refine oB_e rfl (cIf_2 (fun e => ?_) (fun e => ?_))
  · have e := of_decide_eq_true e
    refine r_mRt.mpr (r_sC.mpr (sq_rt (run_rt ?_)))
    unfold ans at q
    rwa [if_pos (i1.mp e)] at q
  · have e := of_decide_eq_false e
    refine r_mNx.mpr (sq_nx (r_mSq.mpr (r_mIf.mpr (r_uT.mpr (r_sCall.mpr (r_vD.mpr (r_sV.mpr (gD_e rfl (r_vD.mpr (r_sV.mpr (gD_e rfl (r_vNil.mpr ?_))))))))))))
    refine less_w hhb h1b ht hb2 ?_
    rw [Int.mul_one]
    refine oB_e rfl (cIf_2 (fun e2 => ?_) (fun e2 => ?_))
    · have e2 := of_decide_eq_true e2
      refine r_mRt.mpr (r_sC.mpr (sq_rt (run_rt ?_)))
      unfold ans at q
      rwa [if_neg (fun z => e (i1.mpr z)), if_pos (i2.mp e2)] at q
    · have e2 := of_decide_eq_false e2
      unfold ans at q
      rw [if_neg (fun z => e (i1.mpr z)), if_neg (fun z => e2 (i2.mpr z))] at q
      refine r_mNx.mpr (sq_nx (r_mRt.mpr (r_sIf.mpr (r_uB.mpr (r_s2.mpr (r_sCall.mpr (r_vD.mpr (r_sV.mpr (gD_e rfl (r_vD.mpr (r_sV.mpr (gD_e rfl (r_vNil.mpr ?_)))))))))))))
      refine share_w hf fun t' b' hb' => ?_
      rw [lot_n] at hb'
      have io := one_iff hb' hsp
      have hle := getD_le hf.nn h
      have hnn := getD_nn hf.nn h
      rw [hf.s] at hle
      have l1 := hb'.lt
      have l2 := hb'.lb
      have sh : PySem.SeqAt.shaped (.tuple [.int t', .int b']) = true := by
        refine Gd.shaped (n := 0) (N := 3) (k := 1) (Gd.tup (M := 1) (fun d hd => ?_) (by simp [cntL, cnt])) (by decide) (by decide)
        simp only [List.mem_cons, List.not_mem_nil, or_false] at hd
        rcases hd with rfl | rfl
        · exact gdi (by omega)
        · exact gdi (by omega)
      refine r_sC.mpr (oB_e (eqT sh rfl) ?_)
      have ee : PyData.eqv (.tuple [.int t', .int b']) (.tuple [.int 1, .int 1]) = decide (xs.getD h 0 = S) := by
        by_cases z : xs.getD h 0 = S
        · obtain ⟨z1, z2⟩ := io.mpr z
          rw [decide_eq_true z, z1, z2]; rfl
        · rw [decide_eq_false z]
          have : ¬ (t' = 1 ∧ b' = 1) := fun y => z (io.mp y)
          simp only [PyData.eqv, PyData.eqvAll, Bool.and_true]
          simpa using this
      rw [ee]
      refine oB_e rfl (cIf_2 (fun e3 => ?_) (fun e3 => ?_))
      · rw [if_pos (of_decide_eq_true e3)] at q
        exact r_sC.mpr (run_rt q)
      · rw [if_neg (of_decide_eq_false e3)] at q
        exact r_sC.mpr (run_rt q)
end
end Bz
set_option Elab.async false
set_option linter.all false
set_option maxRecDepth 100000
set_option maxHeartbeats 2000000
namespace Bz
open PySem L2 L3
variable [Fam]
noncomputable def c_lfrac : List DV → M PyData := runD ["_law_top", "_law_bottom", "_law_one", "_law_other"] (mSq (mPar 2 3 (sCons (sN absD (sCons (sW 0) sNil)) (sCons (sV 1) sNil)))
    (mSq (mWh (uB (s2 gtD (sW 3) (sC (.int 0)))) (mPar 2 3 (sCons (sV 3) (sCons (s2 modD (sW 2) (sW 3)) sNil))))
    (mRt (sTup (sCons (s2 fdivD (sW 0) (sW 2)) (sCons (s2 fdivD (sW 1) (sW 2)) sNil))))))
theorem lfrac_w {i n : Nat} {F : FdS} {Q : PyData → FdS → Prop} (hn : 0 < n) (hb : n < 2 ^ 9000) (q : Q (qd (mkRat i n)) F) : wp (c_lfrac [.dat (.int (i : Nat)), .dat (.int (n : Nat))] F) Q := by
  unfold c_lfrac
  refine r_run.mpr (r_mSq.mpr (par_w (r_sCons.mpr (r_sN.mpr (r_sCons.mpr (r_sW.mpr (gW_e rfl (r_sNil.mpr (oB_e abs_e (r_sCons.mpr (r_sV.mpr (gD_e rfl (r_sNil.mpr ⟨_, _, rfl, lt_len rfl, lt_len rfl, sq_nx ?_⟩)))))))))))))
  refine r_mSq.mpr (wh_w (fun E F' => F' = F ∧ ∃ x y : Nat, E = [some (.dat (.int (i : Nat))), some (.dat (.int (n : Nat))), some (.dat (.int (x : Nat))), some (.dat (.int (y : Nat)))] ∧ Nat.gcd x y = Nat.gcd i n) (fun E => match E with
    | [_, _, _, some (.dat (.int y))] => y.natAbs
    | _ => 0) ⟨rfl, i, n, rfl, rfl⟩ ?_)
  rintro E F1 ⟨rfl, x, y, rfl, hg⟩
  refine r_uB.mpr (r_s2.mpr (r_sW.mpr (gW_e rfl (r_sC.mpr (oB_e e_gtI (oB_e rfl ?_))))))
  refine cIf_2 (fun e => ?_) (fun e => ?_)
  · have hy : (0 : Int) < y := of_decide_eq_true e
    refine par_w (r_sCons.mpr (r_sV.mpr (gD_e rfl (r_sCons.mpr (r_s2.mpr (r_sW.mpr (gW_e rfl (r_sW.mpr (gW_e rfl (oB_e (mod_b hy) (r_sNil.mpr ⟨_, _, rfl, lt_len rfl, lt_len rfl, _, rfl, ⟨rfl, y, x % y, ?_, ?_⟩, ?_⟩)))))))))))
    · simp
    · rw [← hg, Nat.gcd_comm x y, Nat.gcd_rec y x, Nat.gcd_comm]
    · show ((x : Int) % (y : Int)).natAbs < (y : Int).natAbs
      have h1 := Int.emod_nonneg (x : Int) (b := (y : Int)) (by omega)
      have h2 := Int.emod_lt_of_pos (x : Int) hy
      omega
  · have hy : y = 0 := by have := of_decide_eq_false e; omega
    subst hy
    rw [Nat.gcd_zero_right] at hg
    subst hg
    have hgp : 0 < Nat.gcd i n := Nat.gcd_pos_of_pos_right i hn
    have hgl : Nat.gcd i n ≤ n := Nat.le_of_dvd hn (Nat.gcd_dvd_right ..)
    have d := div_b (i := (i : Int)) (j := ((Nat.gcd i n : Nat) : Int)) (by omega) (by rw [Int.natAbs_natCast]; omega)
    have d' := div_b (i := (n : Int)) (j := ((Nat.gcd i n : Nat) : Int)) (by omega) (by rw [Int.natAbs_natCast]; omega)
    refine sq_nx (r_mRt.mpr (r_sTup.mpr (r_sCons.mpr (r_s2.mpr (r_sW.mpr (gW_e rfl (r_sW.mpr (gW_e rfl (oB_e d (r_sCons.mpr (r_s2.mpr (r_sW.mpr (gW_e rfl (r_sW.mpr (gW_e rfl (oB_e d' (r_sNil.mpr ⟨le_size rfl, run_rt ?_⟩)))))))))))))))))
    have lo := low_pos (i := (i : Int)) (j := (n : Int)) (by omega)
    have eg : (Int.gcd (i : Int) (n : Int) : Int) = ((Nat.gcd i n : Nat) : Int) := rfl
    rw [eg] at lo
    rw [low_qd lo (by omega), Int.toNat_natCast]
    exact q
noncomputable def c_over : List DV → M PyData := runD ["one", "other"] (mRt (sCall c_fraction (vD (s2 mulD' (s2 ixD (sW 0) (sC (.int 0))) (s2 ixD (sW 1) (sC (.int 1)))) (vD (s2 mulD' (s2 ixD (sW 0) (sC (.int 1))) (s2 ixD (sW 1) (sC (.int 0)))) vNil))))
section
variable {F : FdS} {Q : PyData → FdS → Prop} {p q : Rat}
theorem over_w (hp : Sz p) (hq : Sz q) (h0 : 0 < q) (k : Q (qd (p / q)) F) : wp (c_over [.dat (qd p), .dat (qd q)] F) Q := by
  have hn : 0 < q.num := by
    have := (Rat.lt_iff 0 q).mp h0
    simpa using this
  have hd := den_pos p
  unfold c_over
  refine r_run.mpr (r_mRt.mpr (r_sCall.mpr (r_vD.mpr (r_s2.mpr (r_s2.mpr (r_sW.mpr (gW_e rfl (r_sC.mpr (oB_e ix0 (r_s2.mpr (r_sW.mpr (gW_e rfl (r_sC.mpr (oB_e ix1 (oB_e (Sz.mul1 hp hq) ?_)))))))))))))))
  refine r_vD.mpr (r_s2.mpr (r_s2.mpr (r_sW.mpr (gW_e rfl (r_sC.mpr (oB_e ix1 (r_s2.mpr (r_sW.mpr (gW_e rfl (r_sC.mpr (oB_e ix0 (oB_e (mul_b (p4 (by have := hp.den; omega)) (p4 hq.num)) (r_vNil.mpr ?_)))))))))))))
  have hj : 0 < ((p.den : Nat) : Int) * q.num := Int.mul_pos (by omega) hn
  refine frac_q hj ?_ ?_
  · rw [Int.natAbs_mul, Int.natAbs_natCast]
    have a := Nat.mul_lt_mul'' hp.den hq.num
    rw [← Nat.pow_add] at a
    exact Nat.lt_of_lt_of_le a (Nat.pow_le_pow_right (by decide) (by decide))
  · have e : mkRat (p.num * ((q.den : Nat) : Int)) (((p.den : Nat) : Int) * q.num).toNat = p / q := by
      have e1 : (((p.den : Nat) : Int) * q.num).toNat = p.den * q.num.toNat := by
        have : (((p.den : Nat) : Int) * q.num) = ((p.den * q.num.toNat : Nat) : Int) := by push_cast; rw [Int.toNat_of_nonneg (by omega)]
        rw [this, Int.toNat_natCast]
      have hqn : q ≠ 0 := fun z => by rw [z] at h0; exact absurd h0 (by decide)
      rw [e1, Rat.mkRat_eq_div]
      have ep : p * (p.den : Rat) = (p.num : Rat) := by
        have sf := Rat.mkRat_self p
        rw [Rat.mkRat_eq_div] at sf
        have hd0 : (p.den : Rat) ≠ 0 := by exact_mod_cast p.den_nz
        have tt := Rat.div_mul_cancel (a := (p.num : Rat)) hd0
        rw [sf] at tt
        exact tt
      have eq : q * (q.den : Rat) = (q.num : Rat) := by
        have sf := Rat.mkRat_self q
        rw [Rat.mkRat_eq_div] at sf
        have hd0 : (q.den : Rat) ≠ 0 := by exact_mod_cast q.den_nz
        have tt := Rat.div_mul_cancel (a := (q.num : Rat)) hd0
        rw [sf] at tt
        exact tt
      have en : ((q.num.toNat : Nat) : Rat) = (q.num : Rat) := by
        have : ((q.num.toNat : Nat) : Int) = q.num := Int.toNat_of_nonneg (by omega)
        exact_mod_cast congrArg (fun z : Int => (z : Rat)) this
      push_cast
      rw [en]
      have hpd : (p.den : Rat) ≠ 0 := by exact_mod_cast p.den_nz
      have hqd : (q.den : Rat) ≠ 0 := by exact_mod_cast q.den_nz
      have hqn0 : (q.num : Rat) ≠ 0 := by exact_mod_cast (show q.num ≠ 0 by omega)
      have hz : (p.den : Rat) * (q.num : Rat) ≠ 0 := fun z => (Rat.mul_eq_zero.mp z).elim hpd hqn0
      have a1 := Rat.div_mul_cancel (a := (p.num : Rat) * (q.den : Rat)) hz
      have a2 := Rat.div_mul_cancel (a := p) hqn
      have key : ((p.num : Rat) * (q.den : Rat) / ((p.den : Rat) * (q.num : Rat)) - p / q) * ((p.den : Rat) * (q.num : Rat)) = 0 := by
        generalize hy : p / q = y at *
        generalize (p.num : Rat) * (q.den : Rat) / ((p.den : Rat) * (q.num : Rat)) = z at *
        have : y * ((p.den : Rat) * (q.num : Rat)) = (p.num : Rat) * (q.den : Rat) := by
          rw [← ep, ← eq, ← a2]
          grind
        grind
      rcases Rat.mul_eq_zero.mp key with z | z
      · grind
      · exact absurd z hz
    rw [e]
    exact run_rt k
end
end Bz
set_option Elab.async false
set_option linter.all false
set_option maxRecDepth 100000
set_option maxHeartbeats 2000000
namespace L3
open PySem PySem.Spec PyProof.Rows L2
noncomputable def FI (K : PySem.W.Frag) (x : Str) (st : Stmt) : Prop := ∃ (f : Addr) (oc : Value) (od : Option Addr) (kV doc pm : Value) (an : Option Addr) (cdv ct : Value) (osl : Array (Option Value)),
  PySem.W.nsIn K mainGlobals x = some (some (.ref f)) ∧ K.lookup f = some ⟨oc, od, .func (PySem.W.fnOf x x (defArgs st) (defBody st) (defScope st) .none kV doc pm an cdv ct), osl⟩ ∧ PySem.W.codeIn K cdv x = true ∧ PySem.W.keepIn K (.ref f) = true
variable {P : Program} {w : World} {K : PySem.W.Frag} {mg : Str → Option Value} {base h : Heap} {x q : Str} {st : Stmt} {f : Addr} {fd : FuncData} {ps : List Str} {k : Nat} {sp : Sp}
theorem FI.of {oc : Value} {od : Option Addr} {kV doc pm : Value} {an : Option Addr} {cdv ct : Value} {osl : Array (Option Value)} (a : PySem.W.nsIn K mainGlobals x = some (some (.ref f))) (b : K.lookup f = some ⟨oc, od, .func (PySem.W.fnOf x x (defArgs st) (defBody st) (defScope st) .none kV doc pm an cdv ct), osl⟩)
    (c : PySem.W.codeIn K cdv x = true) (d : PySem.W.keepIn K (.ref f) = true) : FI K x st := ⟨f, oc, od, kV, doc, pm, an, cdv, ct, osl, a, b, c, d⟩
theorem FI.mk (X : K.In h) (G : h.Ns mainGlobals mg) (ps : List Str) (F : FI K x st)
    (hb : ∀ (kV doc pm : Value) (an : Option Addr) (cdv ct : Value) (us : List Value), us.length = ps.length → bindArgs (PySem.W.fnOf x x (defArgs st) (defBody st) (defScope st) .none kV doc pm an cdv ct) ⟨us, []⟩ = pure (ps.zip us) := by intro _ _ _ _ _ _ us hl; first | (cases len_0 hl; rfl) | (obtain ⟨z0, rfl⟩ := len_1 hl; rfl) | (obtain ⟨z0, z1, rfl⟩ := len_2 hl; rfl) | (obtain ⟨z0, z1, z2, rfl⟩ := len_3 hl; rfl) | (obtain ⟨z0, z1, z2, z3, rfl⟩ := len_4 hl; rfl)) :
    ∃ f fd, Fun K x x st f fd ∧ mg x = some (.ref f) ∧ Binds K fd ps [] ∧ (∃ oc od osl, K.lookup f = some ⟨oc, od, .func fd, osl⟩) ∧ PySem.W.nsIn K mainGlobals x = some (some (.ref f)) := by
  obtain ⟨f, oc, od, kV, doc, pm, an, cdv, ct, osl, a, b, c, d⟩ := F
  have Fn := fun_mk b c d
  exact ⟨f, _, Fn, PySem.W.mg_of X G a, Fn.binds hb, ⟨oc, od, osl, b⟩, a⟩
theorem cal (P : Program) (w : World) (base : Heap) (F : FnOk P w K mg base CX0 k f fd ps sp) (m : mg x = some (.ref f)) (Fn : Fun K x q st f fd) (b : Binds K fd ps []) : Callee P w K mg base x k ps sp := ⟨f, fd, F, m, Fn.kp, b⟩
end L3
set_option Elab.async false
set_option linter.all false
set_option maxRecDepth 100000
set_option maxHeartbeats 2000000
namespace L3
open PySem PySem.Spec PyProof.Rows L2
variable [Feeds] {X : Cx} {K : PySem.W.Frag} {e : Expr} {es : List Expr} {p pos q : Pos}
theorem ev_k9 {x : Str} {k m n : Nat} {ps : List Str} {f : List DV → M PyData} {tl : TA} {ms : DE → M (List DV)} (C : Callee X.prog X.w X.K X.mg X.base x k ps (spD K n f)) (hr : Room m X.A) (ha : Evs K X (e :: es) tl ms) (hk : k ≤ m := by decide) (hn : ∀ E F args F', ms E F = some (args, F') → args.length = n := by repeat (first | exact ln_nil | apply ln_d | apply ln_f)) (hg : Gl X x := by rfl)
    (hdb : (x == ("__debug__" : Str)) = false := by decide) (he : starEach (e :: es) X.env = (false, eval e X.env) :: starEach es X.env := by rfl) (hpl : (backTo pos (starEach es X.env)).any (·.1) = false := by rfl) :
    Ev K X (.Call (.Name x p) (e :: es) [] pos) (tCall (spD K n f) [] E0 tl) (sCall f ms) := ev_call C (hr.mono hk) ha hn hg hdb he hpl
theorem ev_xc (i : Nat) {x : Str} {c : Int} {j} (hK : X.K = K := by rfl) (hN : X.N[i]? = some x := by rfl) (hv : Vis X.env.scope x := by first | exact Or.inl rfl | exact Or.inr (Or.inl rfl) | exact Or.inr (Or.inr rfl)) (hd : (x == ("__debug__" : Str)) = false := by decide)
    (hcd : (x == ("__classdict__" : Str)) = false := by decide) : Ev K X (.Subscript (.Name x p) (.Constant (.int c) j q) pos) (tOp (rD2 K ixD) (tVar i) (tC (.int c))) (s2 ixD (sW i) (sC (.int c))) := ev_ix (id_ix hK) (eb_v i hN hv hd hcd) (Ev.bw ev_int) (by intro _ _; rfl)
noncomputable abbrev nth (l : List Stmt) (n : Nat) : Stmt := l.getD n (.Pass ⟨0, 0, 0, 0⟩)
end L3
set_option Elab.async false
set_option linter.all false
set_option maxRecDepth 100000
set_option maxHeartbeats 4000000
namespace L3
open PySem PySem.Spec PyProof.Rows L2
end L3
set_option Elab.async false
set_option linter.all false
set_option maxRecDepth 100000
set_option maxHeartbeats 4000000
namespace L3
open PySem PySem.Spec PyProof.Rows L2
end L3
set_option Elab.async false
set_option linter.all false
set_option maxRecDepth 100000
set_option maxHeartbeats 4000000
namespace L2
open PySem PySem.Spec PyProof.Rows PySem.W
noncomputable def shade (C : List (Addr × Obj)) (H : Hp) : Hp := fun b => match C.lookup b with
  | some o => some (.frz o (.own 0))
  | none => H b
noncomputable def bareH (C : List (Addr × Obj)) (H : Hp) : Hp := fun b => match C.lookup b with
  | some _ => none
  | none => H b
section
variable {P : Program} {w : World} {C : List (Addr × Obj)} {H H' : Hp} {h h' : Heap} {b : Addr} {o : Obj} {fs : List Addr}
theorem shade_in (e : C.lookup b = some o) : shade C H b = some (.frz o (.own 0)) := by unfold shade; rw [e]
theorem shade_out (e : C.lookup b = none) : shade C H b = H b := by unfold shade; rw [e]
theorem bare_in (e : C.lookup b = some o) : bareH C H b = none := by unfold bareH; rw [e]
theorem bare_out (e : C.lookup b = none) : bareH C H b = H b := by unfold bareH; rw [e]
noncomputable def Shd (C : List (Addr × Obj)) (H : Hp) : Prop := ∀ b o, C.lookup b = some o → H b = some (.frz o (.own 0))
theorem bare_some {u : HO} (e : bareH C H b = some u) : C.lookup b = none ∧ H b = some u := by
  cases z : C.lookup b with
  | some o => rw [bare_in z] at e; cases e
  | none => exact ⟨rfl, by rwa [bare_out z] at e⟩
theorem bare_tup (hC : Shd C H) {xs : List V} (e : H b = some (.tup xs)) : bareH C H b = some (.tup xs) := by
  cases z : C.lookup b with
  | some o => rw [hC b o z] at e; cases e
  | none => rwa [bare_out z]
theorem hok_bare (ok : HOk P w H h) (hC : Shd C H) : HOk P w (bareH C H) h := fun a u e => by
  obtain ⟨z, e⟩ := bare_some e
  refine (ok a u e).stay (fun _ _ _ q => q) (fun b q => ?_) fun b xs q => bare_tup hC q
  cases z : C.lookup b with
  | some o => rw [hC b o z] at q; cases q
  | none => rwa [bare_out z]
theorem hok_shade (ok : HOk P w H h) (hg : ∀ b o, C.lookup b = some o → h.get? b = some o ∧ H b = none) : HOk P w (shade C H) h := fun a u e => by
  cases z : C.lookup a with
  | some o =>
    rw [shade_in z] at e
    cases e
    exact ⟨(hg a o z).1, ⟨o, (hg a o z).1⟩⟩
  | none =>
    rw [shade_out z] at e
    refine (ok a u e).stay (fun _ _ _ q => q) (fun b q => ?_) fun b xs q => ?_
    · cases z : C.lookup b with
      | some o => rw [(hg b o z).2] at q; cases q
      | none => rwa [shade_out z]
    · cases z : C.lookup b with
      | some o => rw [(hg b o z).2] at q; cases q
      | none => rwa [shade_out z]
theorem un_hide (u : Un fs [] (shade C H) H' h h') (ok : HOk P w H' h') (hg : ∀ b o, C.lookup b = some o → h.get? b = some o ∧ H b = none) : Un fs [] H (bareH C H') h h' := by
  have at_C : ∀ b o, C.lookup b = some o → h'.get? b = some o := fun b o e => (ok b _ (u.frzs b o _ (shade_in e))).1
  refine ⟨fun b o e n hb hx => ?_, fun b o e n hb hx => ?_, fun b o e n hx => ?_, u.there, fun b xs e => ?_, fun b o v e => ?_, fun b ps e => ?_⟩
  · cases z : C.lookup b with
    | some o' =>
      have := (hg b o' z).1
      rw [e] at this; cases this
      exact at_C b _ z
    | none => exact u.keep b o e (by rw [shade_out z]; exact n) hb hx
  · cases z : C.lookup b with
    | some o' =>
      have := (hg b o' z).1
      rw [e] at this; cases this
      exact ⟨o.slots, at_C b _ z⟩
    | none => exact u.slot b o e (by rw [shade_out z]; exact n) hb hx
  · cases z : C.lookup b with
    | some o' => exact bare_in z
    | none => rw [bare_out z]; exact u.free b o e (by rw [shade_out z]; exact n) hx
  · cases z : C.lookup b with
    | some o' => rw [(hg b o' z).2] at e; cases e
    | none => rw [bare_out z]; exact u.tups b xs (by rw [shade_out z]; exact e)
  · cases z : C.lookup b with
    | some o' => rw [(hg b o' z).2] at e; cases e
    | none => rw [bare_out z]; exact u.frzs b o v (by rw [shade_out z]; exact e)
  · cases z : C.lookup b with
    | some o' => rw [(hg b o' z).2] at e; cases e
    | none => rw [bare_out z]; exact u.tbls b ps (by rw [shade_out z]; exact e)
theorem un_show (u : Un fs [] (bareH C H) H' h h') (hC : Shd C H) : Un fs [] H (shade C H') h h' := by
  refine ⟨fun b o e n hb hx => u.keep b o e ?_ hb hx, fun b o e n hb hx => u.slot b o e ?_ hb hx, fun b o e n hx => ?_, u.there, fun b xs e => ?_, fun b o v e => ?_, fun b ps e => ?_⟩
  · cases z : C.lookup b with
    | some o' => exact bare_in z
    | none => rwa [bare_out z]
  · cases z : C.lookup b with
    | some o' => exact bare_in z
    | none => rwa [bare_out z]
  · cases z : C.lookup b with
    | some o' => rw [hC b o' z] at n; cases n
    | none => rw [shade_out z]; exact u.free b o e (by rw [bare_out z]; exact n) hx
  · cases z : C.lookup b with
    | some o' => rw [hC b o' z] at e; cases e
    | none => rw [shade_out z]; exact u.tups b xs (by rw [bare_out z]; exact e)
  · cases z : C.lookup b with
    | some o' => rw [hC b o' z] at e; cases e; exact shade_in z
    | none => rw [shade_out z]; exact u.frzs b o v (by rw [bare_out z]; exact e)
  · cases z : C.lookup b with
    | some o' => rw [hC b o' z] at e; cases e
    | none => rw [shade_out z]; exact u.tbls b ps (by rw [bare_out z]; exact e)
theorem shade_upd {e : Addr} {u : HO} (z : C.lookup e = none) : shade C (upd H e u) = upd (shade C H) e u := by
  funext b
  by_cases hb : b = e
  · subst hb; rw [shade_out z, upd_same, upd_same]
  · rw [upd_ne hb]
    cases y : C.lookup b with
    | some o => rw [shade_in y, shade_in y]
    | none => rw [shade_out y, shade_out y, upd_ne hb]
end
theorem zip_rev : ∀ {ps : List Str} {us : List Value} {i : Nat} {x : Str} {u : Value}, ps.Nodup → ps[i]? = some x → us[i]? = some u → (ps.zip us).reverse.lookup x = some u
  | [], _, _, _, _, _, h, _ => by simp at h
  | _ :: _, [], _, _, _, _, _, h => by simp at h
  | p :: ps, v :: us, 0, x, u, nd, h1, h2 => by
    simp at h1 h2; subst h1; subst h2
    rw [List.zip_cons_cons, List.reverse_cons, List.lookup_append]
    have : (ps.zip us).reverse.lookup p = none := by
      rw [List.lookup_eq_none_iff]
      intro q hq
      have := (List.of_mem_zip (List.mem_reverse.mp hq)).1
      have hn := (List.nodup_cons.mp nd).1
      exact bne_iff_ne.mpr fun (z : p = q.1) => hn (by rw [z]; exact this)
    rw [this]
    simp [List.lookup]
  | p :: ps, v :: us, i + 1, x, u, nd, h1, h2 => by
    rw [List.zip_cons_cons, List.reverse_cons, List.lookup_append, zip_rev (i := i) (List.nodup_cons.mp nd).2 (by simpa using h1) (by simpa using h2)]
    rfl
noncomputable def cxM (CX : CXT) (P : Program) (w : World) (K : Frag) (mg : Str → Option Value) (base : Heap) (N : List Str) (q : Str) (scope : Scope) (cl : List (Str × Addr)) (f c : Addr) (A : Around) (outer : List Env) (s : Shared) (H : Hp) (E : XK) : Cx where
  prog := P
  w := w
  K := K
  mg := mg
  base := base
  A := A.deeper (envX q scope s.heap.objs.size f (.ref c) cl)
  N := N
  s₀ := s
  H₀ := H
  env := envX q scope s.heap.objs.size f (.ref c) cl
  outer := outer
  stack := envX q scope s.heap.objs.size f (.ref c) cl :: outer
  ex := []
  fn := fun _ => false
  calm := true
  pn := []
  xe := fun e s' => wpAny (model P w) (A.deeper (envX q scope s.heap.objs.size f (.ref c) cl)) (leaving (envX q scope s.heap.objs.size f (.ref c) cl) e) (fun _ s'' => CX outer H s E e s'') (fun e' s'' => CX outer H s E e' s'') s'
structure LamS (ps cap : List Str) (scope : Scope) : Prop where
  kind : scope.kind = .function
  co : scope.isCoroutine = false
  gen : scope.isGenerator = false
  nocell : ∀ y ∈ scope.names, y.2 ≠ .cell
  par : ∀ y ∈ ps, scope.names.lookup y = some .local
  nd : ps.Nodup
  capf : ∀ y ∈ cap, scope.names.lookup y = some .free
structure LamAt (H : Hp) (cap : List Str) (scope : Scope) (f c : Addr) (o : Obj) (q : Str) (cl : List (Str × Addr)) (C : List (Addr × Obj)) (ws : List V) : Prop where
  fo : H f = some (.frz o (.own 0))
  co : H c = some (cdO c q)
  cells : Shd C H
  inC : ∀ y b, cl.lookup y = some b → ∃ ob u, C.lookup b = some ob ∧ ob.data = .cell u
  inj : ∀ x y b, cl.lookup x = some b → cl.lookup y = some b → x = y
  has : ∀ y, (y, NameKind.free) ∈ scope.names → ∃ b, cl.lookup y = some b
  val : ∀ (i : Nat) (y : Str) (v : V), cap[i]? = some y → ws[i]? = some v → ∃ b ob u, cl.lookup y = some b ∧ C.lookup b = some ob ∧ ob.data = .cell (some u) ∧ RelV v u
  len : ws.length = cap.length
theorem lam_fn {CX : CXT} {P : Program} {w : World} {K : Frag} {mg : Str → Option Value} {base : Heap} {k : Nat} {f c : Addr} {q : Str} {params : Arguments} {body : Expr} {scope : Scope} {cl : List (Str × Addr)} {C : List (Addr × Obj)} {pm ctv : Value} {ps cap : List Str} {te : XK → TE}
    (L : LamS ps cap scope)
    (hCX : ∀ outer H s E ev s', Shd C H → (∀ b o, C.lookup b = some o → s.heap.get? b = some o) → (∀ b o, C.lookup b = some o → b ∉ frs outer) → CX outer (bareH C H) s (fun Cv eo H' => (∀ b o, C.lookup b = some o → H' b = none) → E Cv eo (shade C H')) ev s' → CX outer H s E ev s')
    (he : ∀ A outer s H E, Room k (A.deeper (envX q scope s.heap.objs.size f (.ref c) cl)) → PE (cxM CX P w K mg base (ps ++ cap) q scope cl f c A outer s H E) body (te E)) :
    FnOk P w K mg base CX (k + 1) f (kla_fn "<lambda>" q params body scope cl pm (.ref c) ctv) ps (fun vs H Q E => vs.length = ps.length ∧ ∃ ws, LamAt H cap scope f c (kla_obj "<lambda>" q params body scope cl pm c ctv) q cl C ws ∧
      te (fun Cv eo H' => (∀ b o, C.lookup b = some o → H' b = none) → E Cv eo (shade C H')) (vs.map some ++ ws.map some) (bareH C H) fun v H' => (∀ b o, C.lookup b = some o → H' b = none) → Q v (shade C H')) := by
  refine ⟨fun vs H Q E h => h.1, fun A outer s H args us vs Q E hr e0 hb r h => ?_⟩
  obtain ⟨hl, ws, M, h⟩ := h
  have gf : s.heap.get? f = some (kla_obj "<lambda>" q params body scope cl pm c ctv) := (e0.hok f _ M.fo).1
  have gC : ∀ b ob, C.lookup b = some ob → s.heap.get? b = some ob := fun b ob z => (e0.hok b _ (M.cells b ob z)).1
  obtain ⟨hrec, _, _⟩ := e0.hok c _ M.co
  have lim : s.heap.NoLimit := e0.mod.nolimit.keeps fun b o e => (e0.bs b o e).1
  refine kla_callFunE hr.depth gf rfl L.co L.gen rfl hrec ?_
  refine hb _ _ _ _ ?_
  refine wpAny_newFunctionEnv L.nocell (fun y hy => L.par y.1 (List.of_mem_zip hy).1) (fun h₁ hns hsb => ⟨lim.fresh _ hsb, ?_⟩) L.kind
  show codeAny _ _ (.expr body (envX q scope s.heap.objs.size f (.ref c) cl)) _ _
  have old : ∀ b o, s.heap.get? b = some o → h₁.get? b = some o := fun b o e => hsb.extBut b o (Nat.ne_of_lt (Heap.lt_size e)) (Heap.get?_push_of_some _ e)
  have noA : ∀ b : Addr, b ∉ (cxM CX P w K mg base (ps ++ cap) q scope cl f c A outer s (bareH C H) fun Cv eo H' => (∀ b o, C.lookup b = some o → H' b = none) → E Cv eo (shade C H')).ex := fun b z => absurd (show b ∈ ([] : List Addr) from z) (by simp)
  have bnone : ∀ b, H b = none → bareH C H b = none := fun b n => by
    cases z : C.lookup b with
    | some o => exact bare_in z
    | none => rwa [bare_out z]
  have hb0 := hok_bare e0.hok M.cells
  have I : Inv (cxM CX P w K mg base (ps ++ cap) q scope cl f c A outer s (bareH C H) fun Cv eo H' => (∀ b o, C.lookup b = some o → H' b = none) → E Cv eo (shade C H')) [] (vs.map some ++ ws.map some) (bareH C H) { s with heap := h₁, toks := s.toks + (ps.zip us).length } := by
    refine ⟨⟨e0.mod, L.kind, rfl, rfl, Nat.le_refl _, fun x y c h1 h2 => M.inj x y c h1 h2, fun y hy => ?_, fun x c h => absurd (show false = true from h) Bool.false_ne_true, fun _ => hr.hd, Around.frames_deeper e0.frames, .inr ⟨rfl, rfl⟩,
      fun b z => absurd z (noA b), fun b o e => ⟨(e0.bs b o e).1, bnone b (e0.bs b o e).2⟩, e0.bsz, fun b _ _ => noA b, fun b z => absurd z (noA b), e0.funs, fun b hb => bnone b (e0.frf b hb)⟩,
      rfl, e0.bare, Un.kept old, ⟨_, hns, fun i y v e1 e2 e3 => ?_⟩, fun y c' e => ?_, hb0.fresh (Nat.le_refl _), fun y c' e => ?_, fun p hp => absurd (show p ∈ ([] : List (Addr × Obj)) from hp) (by simp), hb0.kept old, ?_⟩
    · have hy : scope.names.lookup y = some .cell ∨ scope.names.lookup y = some .free := hy
      rcases hy with hy | hy
      · exact absurd rfl (L.nocell _ (PySem.mem_of_lookup hy))
      · exact M.has y (PySem.mem_of_lookup hy)
    · have e1 : (ps ++ cap)[i]? = some y := e1
      by_cases hi : i < ps.length
      · rw [List.getElem?_append_left hi] at e1
        rw [List.getElem?_append_left (by rw [List.length_map]; omega), List.getElem?_map] at e2
        obtain ⟨v', hv, ev⟩ := Option.map_eq_some_iff.mp e2
        cases ev
        obtain ⟨u, hu, rv⟩ := r.get hv
        exact ⟨u, rv, .inl ⟨L.par y (List.mem_of_getElem? e1), zip_rev L.nd e1 hu⟩⟩
      · rw [List.getElem?_append_right (by omega)] at e1
        rw [List.getElem?_append_right (by rw [List.length_map]; omega), List.length_map, hl, List.getElem?_map] at e2
        obtain ⟨v', hv, ev⟩ := Option.map_eq_some_iff.mp e2
        cases ev
        obtain ⟨b, ob, u, z1, z2, z3, rv⟩ := M.val _ y _ e1 hv
        exact ⟨u, rv, .inr ⟨.inr (L.capf y (List.mem_of_getElem? e1)), b, z1, ob, old b ob (gC b ob z2), z3⟩⟩
    · obtain ⟨ob, u, z1, z2⟩ := M.inC y c' e
      exact ⟨u, ob, old c' ob (gC c' ob z1), z2⟩
    · obtain ⟨ob, u, z1, _⟩ := M.inC y c' e
      exact bare_in z1
    · show _ = (ps ++ cap).length
      rw [List.length_append, List.length_append, List.length_map, List.length_map, hl, M.len]
  refine kla_codeExpr (wpAny_mono (he A outer s (bareH C H) _ (hr.deeper _) [] _ _ _ _ I h) (fun uv s' hs => ?_) fun e s' hs => ?_)
  · obtain ⟨v, H', J, rv, qv⟩ := hs
    have ok' : HOk P w H' s'.heap := J.hok
    have un := J.base
    have un : Un (frs outer) [] (bareH C H) H' s.heap s'.heap := un
    have hnf : ∀ b o, C.lookup b = some o → b ∉ frs outer := fun b o z hb => by
      have := e0.frf b hb
      rw [M.cells b o z] at this; cases this
    have hn : ∀ b o, C.lookup b = some o → H' b = none := fun b o z => un.free b o (gC b o z) (bare_in z) (by simp)
    exact ⟨v, shade C H', J.os, J.bare, un_show un M.cells, hok_shade ok' fun b o z => ⟨un.keep b o (gC b o z) (bare_in z) (hnf b o z) (by simp), hn b o z⟩, rv, qv hn⟩
  · have hnf : ∀ b o, C.lookup b = some o → b ∉ frs outer := fun b o z hb => by
      have := e0.frf b hb
      rw [M.cells b o z] at this; cases this
    exact wpAny_mono hs (fun _ s'' z => hCX outer H s E e s'' M.cells gC hnf z) fun e' s'' z => hCX outer H s E e' s'' M.cells gC hnf z
theorem cxe_lam {P : Program} {w : World} {C : List (Addr × Obj)} : ∀ outer H s E ev s', Shd C H → (∀ b o, C.lookup b = some o → s.heap.get? b = some o) → (∀ b o, C.lookup b = some o → b ∉ frs outer) → L3.CXe P w outer (bareH C H) s (fun Cv eo H' => (∀ b o, C.lookup b = some o → H' b = none) → E Cv eo (shade C H')) ev s' → L3.CXe P w outer H s E ev s' := by
  intro outer H s E ev s' hC gC hnf ⟨e, H', C0, ps, us, vs, e1, os, bare, un, hok, r, fl, q⟩
  obtain ⟨dct, T, y1, y2, y3, y4, y5, y6, y7, y8⟩ := fl
  have hlt : ∀ b, s.heap.objs.size ≤ b → C.lookup b = none := fun b hb => by
    cases z : C.lookup b with
    | none => rfl
    | some o => exact absurd (Nat.lt_of_lt_of_le (Heap.lt_size (gC b o z)) hb) (Nat.lt_irrefl _)
  have hn : ∀ b o, C.lookup b = some o → H' b = none := fun b o z => un.free b o (gC b o z) (bare_in z) (by simp)
  refine ⟨e, shade C H', C0, ps, us, vs, e1, os, bare, un_show un hC, hok_shade hok fun b o z => ⟨un.keep b o (gC b o z) (bare_in z) (hnf b o z) (by simp), hn b o z⟩, r, ⟨dct, T, y1, y2, y3, y4, y5, ?_, ?_, ?_⟩, ?_⟩
  · rw [shade_out (hlt e y4)]; exact y6
  · rw [shade_out (hlt T y5)]; exact y7
  · rcases y8 with y8 | ⟨dx, z1, z2, z3, z4, z5⟩
    · exact .inl y8
    · exact .inr ⟨dx, z1, z2, z3, by rw [shade_out (hlt dx z3)]; exact z4, z5⟩
  · have := q fun b o z => by
      rw [upd_ne (fun z2 => by rw [z2, hlt e y4] at z; cases z)]
      exact hn b o z
    rw [shade_upd (hlt e y4)] at this
    exact this
end L2
set_option Elab.async false
set_option linter.all false
set_option maxRecDepth 100000
set_option maxHeartbeats 4000000
namespace L3
open PySem PySem.W PySem.Spec PyProof.Rows L2
section
variable {X : Cx} {x : Str} {k i : Nat} {p pos : Pos} {e : Expr} {es : List Expr} {tl : TA}
noncomputable def tFnv (X : Cx) (k i : Nat) (E : XK) (tl : TA) : TE := fun σ H Q => ∃ a oc od osl fd ps sp, σ[i]? = some (some (.ref a)) ∧ FnOk X.prog X.w X.K X.mg X.base (CXe X.prog X.w) k a fd ps sp ∧ Binds X.K fd ps [] ∧
  tl σ H fun vs H1 => H1 a = some (.frz ⟨oc, od, .func fd, osl⟩ (.own 0)) ∧ sp vs H1 Q E
theorem keeps_F {M : Model} {a : Addr} {oc : Value} {od : Option Addr} {fd : FuncData} {osl : Array (Option Value)} (h : Heap) (X : h.get? a = some ⟨oc, od, .func fd, osl⟩) : ∃ k, (k = Keeper.frame ∨ k = Keeper.machine ∨ k = Keeper.boundFrame) ∧ Looks M h (keeperOf (.ref a)) k :=
  ⟨.frame, .inl rfl, (Looks.ld (part := none) X).andThen .now⟩
theorem run_fnv {CX : CXT} {a : Addr} {fd : FuncData} {ps : List Str} {sp : Sp} {pins : List (Addr × Obj)} {σ : St} {H : Hp} {s : Shared} {us : List Value} {vs : List V} {E : XK} {Q : VK} (F : FnOk X.prog X.w X.K X.mg X.base CX k a fd ps sp) (b : Binds X.K fd ps []) (hr : Room k X.A)
    (hx : ∀ ev s', CX X.stack H s E ev s' → X.xe ev s') (I : Inv X pins σ H s) (r : Vals vs us) (q : sp vs H Q E) : wpAny (model X.prog X.w) X.A (call (.ref a) us) (EP X pins σ Q) X.xe s := by
  have r2 : Vals (vs ++ []) (us ++ []) := r.append .nil
  have hl : (us ++ []).length = ps.length := by rw [← r2.length, List.append_nil]; exact F.len _ _ _ _ q
  rw [List.append_nil] at r2
  have b1 := b s us I.kIn hl
  rw [List.append_nil] at b1 r2
  refine wpAny_call (codeAny_mono (F.run X.A X.stack s H ⟨us, []⟩ _ _ Q E hr I.env0 b1 r2 q) fun rr s' hq => ?_)
  cases rr with
  | error ev => exact hx ev s' hq
  | ok fl =>
    cases fl with
    | ret u => exact I.after hq
    | _ => exact hq.elim
theorem pe_fnv0 {E : XK} {σ0 : St} (hr : Room k X.A) (hx : ∀ pins H s ev s', Inv X pins σ0 H s → CXe X.prog X.w X.stack H s E ev s' → X.xe ev s') (hN : X.N[i]? = some x) (hv : Vis X.env.scope x)
    (hd : (x == ("__debug__" : Str)) = false) (hcd : (x == ("__classdict__" : Str)) = false) :
    PE X (.Call (.Name x p) [] [] pos) (tAt σ0 (tFnv X k i E tNil)) := by
  intro pins s σ H Q I ⟨hσ, a, oc, od, osl, fd, ps, sp, e1, F, b, ea, q⟩
  subst hσ
  refine wpAny_Call_Name_kw (thn (pe_var (X := X) (pos := p) hN hv hd hcd pins s σ H (fun v H' => v = .ref a ∧ H' = H) I ⟨_, e1, rfl, rfl⟩) fun u s1 ⟨v, H1, I1, rv, ev, eH⟩ => ?_)
  subst ev eH
  obtain rfl : u = Value.ref a := rv
  refine callWith_of rfl keeps_F (evalArgs_nil3 ⟨(I1.hok a _ ea).1, ?_⟩)
  exact run_fnv F b hr (fun ev s' z => hx pins H1 s1 ev s' I1 z) I1 .nil q
noncomputable def cellsOf (h : Heap) : List (Str × Addr) → List (Addr × Obj)
  | [] => []
  | p :: r => match h.get? p.2 with
    | some o => (p.2, o) :: cellsOf h r
    | none => cellsOf h r
theorem cellsOf_some {h : Heap} {b : Addr} {o : Obj} : ∀ {l : List (Str × Addr)}, (cellsOf h l).lookup b = some o → h.get? b = some o ∧ ∃ y, (y, b) ∈ l
  | [], e => nomatch e
  | p :: r, e => by
    unfold cellsOf at e
    have go : (cellsOf h r).lookup b = some o → h.get? b = some o ∧ ∃ y, (y, b) ∈ p :: r := fun e => by
      obtain ⟨h1, y, h2⟩ := cellsOf_some e
      exact ⟨h1, y, List.mem_cons_of_mem _ h2⟩
    split at e
    · rename_i o' z
      rw [List.lookup_cons] at e
      by_cases hb : b = p.2
      · subst hb
        rw [beq_self_eq_true] at e
        cases e
        exact ⟨z, p.1, List.mem_cons_self⟩
      · rw [beq_false_of_ne hb] at e
        exact go e
    · exact go e
theorem cellsOf_in {h : Heap} {y : Str} {b : Addr} {o : Obj} : ∀ {l : List (Str × Addr)}, (y, b) ∈ l → h.get? b = some o → (cellsOf h l).lookup b = some o
  | p :: r, hm, e => by
    unfold cellsOf
    by_cases hb : b = p.2
    · subst hb
      rw [e]
      rw [List.lookup_cons, beq_self_eq_true]
    · have hr : (y, b) ∈ r := by
        rcases List.mem_cons.mp hm with z | z
        · exact absurd (congrArg Prod.snd z) hb
        · exact z
      split
      · rw [List.lookup_cons, beq_false_of_ne hb]
        exact cellsOf_in hr e
      · exact cellsOf_in hr e
noncomputable def clX (X : Cx) (scope : Scope) : List (Str × Addr) := closL (fun x => (X.env.cells.lookup x).getD 0) scope.names []
noncomputable def tDefL (X : Cx) (P : Addr) (q : Str) (params : Arguments) (body : Expr) (scope : Scope) (cap : List Nat) (capN : List Str) (sp : Sp) (tl : TA) : TE := fun σ H Q => tl σ H fun vs H1 => TabOk H1 P q ∧
  ∃ ws, (cap.map fun j => (σ[j]?).join) = ws.map some ∧ ∀ f c' pm ctv H2 C, Grew P q H1 H2 → TabOk H2 P q → H2 f = none → (∀ b o, C.lookup b = some o → H2 b = none) →
    LamAt (shade ((f, kla_obj "<lambda>" q params body scope (clX X scope) pm c' ctv) :: C) H2) capN scope f c' (kla_obj "<lambda>" q params body scope (clX X scope) pm c' ctv) q (clX X scope) C ws →
    sp (vs ++ [.ref f]) (shade ((f, kla_obj "<lambda>" q params body scope (clX X scope) pm c' ctv) :: C) H2) (fun v H3 => Q v (bareH ((f, kla_obj "<lambda>" q params body scope (clX X scope) pm c' ctv) :: C) H3)) E0
theorem run_defL {g : Addr} {fd : FuncData} {ps : List Str} {sp : Sp} {pins : List (Addr × Obj)} {σ : St} {H : Hp} {s : Shared} {us : List Value} {vs : List V} {Q : VK} {f c' : Addr} {q : Str} {params : Arguments} {body : Expr} {scope : Scope} {cap : List Nat} {capN : List Str} {pm ctv : Value} {ws : List V}
    (F : FnOk X.prog X.w X.K X.mg X.base CX0 k g fd ps sp) (b : Binds X.K fd ps []) (hr : Room k X.A) (hfn : ∀ x, X.fn x = true)
    (hfree : ∀ y ∈ scope.names, y.2 = .free → ∃ c, X.env.cells.lookup y.1 = some c) (hcapN : (cap.map fun j => X.N[j]?) = capN.map some) (hcapv : ∀ y ∈ capN, X.env.scope.names.lookup y = some .cell ∨ X.env.scope.names.lookup y = some .free) (hcapf : ∀ y ∈ capN, (y, NameKind.free) ∈ scope.names)
    (hws : (cap.map fun j => (σ[j]?).join) = ws.map some)
    (I : Inv X ((f, kla_obj "<lambda>" q params body scope (clX X scope) pm c' ctv) :: pins) σ H s) (hf : X.s₀.heap.objs.size ≤ f) (hc : H c' = some (cdO c' q)) (r : Vals vs (us ++ [.ref f]))
    (h : ∀ C, H f = none → (∀ b o, C.lookup b = some o → H b = none) → LamAt (shade ((f, kla_obj "<lambda>" q params body scope (clX X scope) pm c' ctv) :: C) H) capN scope f c' (kla_obj "<lambda>" q params body scope (clX X scope) pm c' ctv) q (clX X scope) C ws →
      sp vs (shade ((f, kla_obj "<lambda>" q params body scope (clX X scope) pm c' ctv) :: C) H) (fun v H3 => Q v (bareH ((f, kla_obj "<lambda>" q params body scope (clX X scope) pm c' ctv) :: C) H3)) E0) :
    wpAny (model X.prog X.w) X.A (call (.ref g) (us ++ [.ref f])) (EP X pins σ Q) X.xe s := by
  generalize ho : kla_obj "<lambda>" q params body scope (clX X scope) pm c' ctv = o at I h
  obtain ⟨p1, p2, p3, p4, p5⟩ := I.pin _ (List.mem_append_right _ (.head _))
  have p1 : s.heap.get? f = some o := p1
  have p2 : H f = none := p2
  have hf0 : ∀ y ∈ scope.names, y.2 = .free → X.env.cells.lookup y.1 = some ((X.env.cells.lookup y.1).getD 0) := fun y hy hk => by
    obtain ⟨c, e⟩ := hfree y hy hk
    rw [e]; rfl
  have hcl : ∀ {x : Str} {c : Addr}, (clX X scope).lookup x = some c → X.env.cells.lookup x = some c := fun {x c} e => by
    rcases closL_lookup _ _ e with ⟨h1, h2⟩ | h1
    · rw [h2]; exact hf0 (x, .free) h1 rfl
    · simp at h1
  have hhas : ∀ x, (x, NameKind.free) ∈ scope.names → ∃ c, (clX X scope).lookup x = some c := fun x hx => ⟨_, closL_has _ _ (.inl hx)⟩
  have hmem : ∀ {y : Str} {b : Addr}, (y, b) ∈ clX X scope → X.env.cells.lookup y = some b := fun {y b} hm => by
    have key : ∀ (names : List (Str × NameKind)) (acc : List (Str × Addr)) (f : Str → Addr), (y, b) ∈ closL f names acc → ((y, NameKind.free) ∈ names ∧ b = f y) ∨ (y, b) ∈ acc := by
      intro names
      induction names with
      | nil => intro acc f hm; exact .inr hm
      | cons z r ih =>
        intro acc f hm
        obtain ⟨n, kd⟩ := z
        rw [closL] at hm
        rcases ih _ _ hm with ⟨h1, h2⟩ | h1
        · exact .inl ⟨List.mem_cons_of_mem _ h1, h2⟩
        · split at h1
          · rename_i hk
            rcases List.mem_cons.mp h1 with z | z
            · cases z
              exact .inl ⟨by rw [beq_iff_eq.mp hk]; exact List.mem_cons_self, rfl⟩
            · exact .inr z
          · exact .inr h1
    rcases key _ _ _ hm with ⟨h1, h2⟩ | h1
    · rw [h2]; exact hf0 (y, .free) h1 rfl
    · exact absurd h1 (by simp)
  obtain ⟨C, eC⟩ : ∃ C, C = cellsOf s.heap (clX X scope) := ⟨_, rfl⟩
  have hC : ∀ b ob, C.lookup b = some ob → s.heap.get? b = some ob ∧ ∃ y, X.env.cells.lookup y = some b := fun b ob z => by
    rw [eC] at z
    obtain ⟨h1, y, h2⟩ := cellsOf_some z
    exact ⟨h1, y, hmem h2⟩
  have hCd : ∀ b ob, C.lookup b = some ob → ∃ u, ob.data = .cell u := fun b ob z => by
    obtain ⟨h1, y, h2⟩ := hC b ob z
    obtain ⟨u, o', g1, g2⟩ := I.cell y b h2
    rw [h1] at g1; cases g1
    exact ⟨u, g2⟩
  have hfC : C.lookup f = none := by
    cases z : C.lookup f with
    | none => rfl
    | some ob =>
      obtain ⟨u, hu⟩ := hCd f ob z
      have := (hC f ob z).1
      rw [p1] at this; cases this
      exact absurd hu (p5 u)
  obtain ⟨D, eD⟩ : ∃ D, D = (f, o) :: C := ⟨_, rfl⟩
  have Df : D.lookup f = some o := by rw [eD, List.lookup_cons, beq_self_eq_true]
  have DC : ∀ b, b ≠ f → D.lookup b = C.lookup b := fun b hb => by rw [eD, List.lookup_cons, beq_false_of_ne hb]
  have hD : ∀ b x, D.lookup b = some x → s.heap.get? b = some x ∧ H b = none ∧ X.s₀.heap.objs.size ≤ b ∧ b ≠ X.env.locals := fun b x z => by
    by_cases hb : b = f
    · subst hb
      rw [Df] at z; cases z
      exact ⟨p1, p2, hf, p3⟩
    · rw [DC b hb] at z
      obtain ⟨h1, y, h2⟩ := hC b x z
      exact ⟨h1, I.freeC y b h2, I.ok.cab y b (hfn y) h2, I.cne y b h2⟩
  have sh : ∀ b, H b = none → D.lookup b = none → shade D H b = none := fun b n z => by rw [shade_out z]; exact n
  have lookN : ∀ b, (∀ x, D.lookup b = some x → False) → D.lookup b = none := fun b n => by
    cases z : D.lookup b with
    | none => rfl
    | some x => exact (n x z).elim
  have e0 : Env0 X.prog X.w X.K X.mg X.base X.A X.stack s (shade D H) := by
    refine ⟨I.ok.frames, I.ok.mod, fun b o' e => ⟨(I.bs b o' e).1, sh b (I.bs b o' e).2 (lookN b fun x z => ?_)⟩, Nat.le_trans I.ok.bsz I.sz, I.stack, fun b hb => sh b (I.stkFree b hb) (lookN b fun x z => ?_), hok_shade I.hok fun b x z => ⟨(hD b x z).1, (hD b x z).2.1⟩, I.bare⟩
    · exact absurd (Nat.lt_of_lt_of_le (Heap.lt_size e) (Nat.le_trans I.ok.bsz (hD b x z).2.2.1)) (Nat.lt_irrefl _)
    · obtain ⟨_, _, z3, z4⟩ := hD b x z
      have hfs : b ∉ X.fs := fun hb => by
        obtain ⟨_, o', ho', _⟩ := I.ok.funs.mem hb
        exact absurd (Nat.lt_of_lt_of_le (Heap.lt_size ho') z3) (Nat.lt_irrefl _)
      rcases I.ok.stk with e | ⟨e, e2⟩
      · rw [e] at hb; exact hfs hb
      · rw [e] at hb
        unfold frs at hb
        rw [List.filterMap_cons, e2] at hb
        rcases List.mem_cons.mp hb with e3 | e3
        · exact z4 e3
        · exact hfs e3
  have hlen : ws.length = capN.length := by
    have h1 := congrArg List.length hws
    have h2 := congrArg List.length hcapN
    rw [List.length_map, List.length_map] at h1 h2
    omega
  have LA : LamAt (shade D H) capN scope f c' o q (clX X scope) C ws := by
    refine ⟨shade_in Df, ?_, fun b ob z => ?_, fun y b e => ?_, fun x y b h1 h2 => I.ok.inj x y b (hcl h1) (hcl h2), hhas, fun i y v e1 e2 => ?_, hlen⟩
    · rw [shade_out (lookN c' fun x z => ?_)]
      · exact hc
      · have := (hD c' x z).2.1
        rw [hc] at this; cases this
    · have hb : b ≠ f := fun z2 => by rw [z2, hfC] at z; cases z
      exact shade_in (by rw [DC b hb]; exact z)
    · obtain ⟨u, ob, g1, g2⟩ := I.cell y b (hcl e)
      exact ⟨ob, u, by rw [eC]; exact cellsOf_in (PySem.mem_of_lookup e) g1, g2⟩
    · have w1 := congrArg (fun l => l[i]?) hws
      have w2 := congrArg (fun l => l[i]?) hcapN
      simp only [List.getElem?_map, e1, e2, Option.map_some] at w1 w2
      obtain ⟨j, hj, hv⟩ := Option.map_eq_some_iff.mp w1
      rw [hj] at w2
      have hN : X.N[j]? = some y := Option.some.inj w2
      have hσ : σ[j]? = some (some v) := by
        cases r : σ[j]? with
        | none => rw [r] at hv; cases hv
        | some o => rw [r] at hv; exact congrArg some hv
      have hy := hcapv y (List.mem_of_getElem? e1)
      obtain ⟨m, hn, hl⟩ := I.loc
      obtain ⟨u, ru, l⟩ := hl j y v hN hσ (.inr hy)
      rcases l with ⟨hk, _⟩ | ⟨_, c1, g1, g2⟩
      · have hk : X.env.scope.names.lookup y = some .local := hk
        rcases hy with z | z <;> (rw [hk] at z; cases z)
      · obtain ⟨c2, e3⟩ := hhas y (hcapf y (List.mem_of_getElem? e1))
        have ec : c2 = c1 := Option.some.inj ((hcl e3).symm.trans g1)
        subst ec
        obtain ⟨ob, k1, k2⟩ := g2
        exact ⟨c2, ob, u, e3, by rw [eC]; exact cellsOf_in (PySem.mem_of_lookup e3) k1, k2, ru⟩
  have h := h C p2 (fun b ob z => by
    obtain ⟨_, y, h2⟩ := hC b ob z
    exact I.freeC y b h2) (by rw [← eD]; exact LA)
  rw [← eD] at h
  have r2 : Vals (vs ++ []) ((us ++ [Value.ref f]) ++ []) := r.append .nil
  have hl : ((us ++ [Value.ref f]) ++ []).length = ps.length := by rw [← r2.length, List.append_nil]; exact F.len _ _ _ _ h
  rw [List.append_nil] at r2 hl
  have b1 := b s (us ++ [.ref f]) I.kIn (by rw [List.append_nil]; exact hl)
  rw [List.append_nil] at b1 r2
  refine wpAny_call (codeAny_mono (F.run X.A X.stack s (shade D H) ⟨us ++ [.ref f], []⟩ _ _ _ E0 hr e0 b1 r2 h) fun rr s' hq => ?_)
  cases rr with
  | error ev => exact hq.elim
  | ok fl =>
    cases fl with
    | ret u =>
      obtain ⟨v, H3, os, bare, un, hok, rv, qv⟩ := hq
      have hg : ∀ b x, D.lookup b = some x → s.heap.get? b = some x ∧ H b = none := fun b x z => ⟨(hD b x z).1, (hD b x z).2.1⟩
      have un2 := un_hide un hok hg
      have hsd : Shd D H3 := fun b x z => un.frzs b x _ (shade_in z)
      have J := I.call' (ch := []) os un2 (hok_bare hok hsd) bare (fun b z => absurd z (by simp))
      exact ⟨v, _, J.pins_of (fun p hp => J.pin p (List.mem_append_right _ (List.mem_cons_of_mem _ hp))), rv, qv⟩
    | _ => exact hq.elim
end
end L3
set_option Elab.async false
set_option linter.all false
set_option maxRecDepth 100000
set_option maxHeartbeats 4000000
namespace L3
open PySem PySem.W PySem.Spec PyProof.Rows L2
section
variable {K : Frag} {H H' : Hp}
mutual
theorem DatIs.bare (k : ∀ b o, H b = some o → (∃ x, o = .frz x (.own 0)) ∨ H' b = some o) : ∀ (d : PyData) (v : V), DatIs K H d v → DatIs K H' d v
  | .none, v, h => by simpa only [DatIs] using h
  | .bool b, v, h => by simpa only [DatIs] using h
  | .int i, v, h => by simpa only [DatIs] using h
  | .str x, v, h => by simpa only [DatIs] using h
  | .tuple ds, v, h => by
    simp only [DatIs] at h ⊢
    obtain ⟨a, xs, e, hq, hd⟩ := h
    refine ⟨a, xs, e, ?_, DatsAre.bare k ds xs hd⟩
    rcases hq with (h | ⟨o, h⟩) | h
    · rcases k _ _ h with ⟨x, z⟩ | z
      · cases z
      · exact .inl (.inl z)
    · rcases k _ _ h with ⟨x, z⟩ | z
      · cases z
      · exact .inl (.inr ⟨o, z⟩)
    · exact .inr h
  | .list ds, v, h => by
    simp only [DatIs] at h ⊢
    obtain ⟨a, xs, e, hq, hd⟩ := h
    refine ⟨a, xs, e, ?_, DatsAre.bare k ds xs hd⟩
    rcases k _ _ hq with ⟨x, z⟩ | z
    · cases z
    · exact z
  | .dict kvs, v, h => by simp only [DatIs] at h
theorem DatsAre.bare (k : ∀ b o, H b = some o → (∃ x, o = .frz x (.own 0)) ∨ H' b = some o) : ∀ (ds : List PyData) (xs : List V), DatsAre K H ds xs → DatsAre K H' ds xs
  | [], xs, h => by simpa only [DatsAre] using h
  | d :: ds, xs, h => by
    simp only [DatsAre] at h ⊢
    obtain ⟨x, r, e, h1, h2⟩ := h
    exact ⟨x, r, e, DatIs.bare k d x h1, DatsAre.bare k ds r h2⟩
end
end
section
variable [Feeds] {P : Program} {w : World} {K : Frag} {mg : Str → Option Value} {base : Heap}
noncomputable def ThkR (P : Program) (w : World) (K : Frag) (mg : Str → Option Value) (base : Heap) (k : Nat) (G : GF) (B : List Addr) (a : Addr) (H : Hp) (d : PyData) (F' : FS) : Prop :=
  ∃ oc od osl fd sp0, FnOk P w K mg base (CXe P w) k a fd [] sp0 ∧ Binds K fd [] [] ∧ H a = some (.frz ⟨oc, od, .func fd, osl⟩ (.own 0)) ∧
    ∀ H1 Q1 E1, Same H H1 → (∀ v H2, Kp (fpOf K G) H1 H2 → FAt K G H2 F' → DatIs K (hid H2 B) d v → Q1 v H2) →
      (∀ nm fs, errOf d = some (nm, fs) → ∀ vs H2, Kp (fpOf K G) H1 H2 → FAt K G H2 F' → DatsAre K (hid H2 B) fs vs → WE mg E1 nm vs H2) → sp0 [] H1 Q1 E1
noncomputable def outT (nm0 told : Str) (its : List (Sum Str Str)) (d : PyData) : Option PyData := match errOf d with
  | some z => if z.1 = nm0 then (itD ((psT nm0).zip z.2) its).bind fun ds => some (.tuple ds) else none
  | none => some (.tuple [.str told, d])
noncomputable def spT (P : Program) (w : World) (K : Frag) (mg : Str → Option Value) (base : Heap) (k : Nat) (nm0 told : Str) (its : List (Sum Str Str)) : Sp := fun vs H Q _ => ∃ G B F a d d' F', vs = [.ref a] ∧ (∀ b ∈ fpOf K G, b ∈ B) ∧ BOk H B ∧ FAt K G H F ∧ ThkR P w K mg base k G B a H d F' ∧ outT nm0 told its d = some d' ∧
  ∀ v H', Kp (fpOf K G) H H' → FAt K G H' F' → DatIs K (hid H' B) d' v → Q v H'
variable {X : Cx} {x y z u wt nm0 told oth : Str} {suite : List Stmt} {b₀ : Stmt} {pw hpos pos p1 p2 p3 p4 p5 p6 p7 p8 p9 q1 q2 q3 q4 : Pos} {Wt C0 : Addr} {cl : List Addr} {k k' n : Nat} {its : List (Sum Str Str)} {j1 j2} {k0 k2}
theorem told_pss (hr : Room k X.A) (ef : EFit X.K X.mg Wt nm0 cl C0) (hN : X.N = [u, y, x, z]) (hNd : X.N.Nodup) (hjl : its.length ≤ 100) (hcl : cl.length ≤ 100)
    (hsuite : ∀ e C fs pn xe, C = C0 → Has (inSuite X e pn xe) e C fs → PSs (inSuite X e pn xe) (b₀ :: suite) (tsA X.K C0 cl 2 3 1 its e C fs))
    (hW : X.mg wt = some (.ref Wt))
    (hstk : X.stack = X.env :: X.outer) (hfr : X.env.frame = some X.env.locals) (hx : X.env.scope.names.lookup x = some .local) (hy : X.env.scope.names.lookup y = some .local) (hu : X.env.scope.names.lookup u = some .local)
    (hg : Gl X wt) (hwd : (wt == ("__debug__" : Str)) = false) (hud : (u == ("__debug__" : Str)) = false) (huc : (u == ("__classdict__" : Str)) = false) (hyd : (y == ("__debug__" : Str)) = false) (hyc : (y == ("__classdict__" : Str)) = false)
    (hs0 : swapsWith (.Tuple [.Constant (.str oth) j2 q1] k2 q2) (some (.Name y q3)) q4.line X.env = pure false)
    (hs : swapsWith (.Tuple [.Constant (.str told) j1 p1, .Call (.Name u p2) [] [] p3] k0 p4) (some (.Name y p6)) p5.line X.env = pure false) :
    PSs X [.Assign [.Name y q3] (.Tuple [.Constant (.str oth) j2 q1] k2 q2) q4,
      .Try [.Assign [.Name y p6] (.Tuple [.Constant (.str told) j1 p1, .Call (.Name u p2) [] [] p3] k0 p4) p5] [.ExceptHandler (some (.Name wt pw)) (some x) (b₀ :: suite) hpos] [] [] pos, .Return (some (.Name y p7)) p8]
      (tSeq (tAsg (tTup (tCons (tC (.str oth)) tNil)) (gName 1)) (tSeq (fun D σ H => tAsg (tTup (tCons (tC (.str told)) (tCons (tAt σ (tFnv X k 0 (eTry 2 (fun C => C = C0) (tsA X.K C0 cl 2 3 1 its) D σ) tNil)) tNil))) (gName 1) D σ H) (tRet (tVar 1)))) := by
  have h0 : X.N[0]? = some u := by rw [hN]; rfl
  have h1 : X.N[1]? = some y := by rw [hN]; rfl
  have h2 : X.N[2]? = some x := by rw [hN]; rfl
  refine pss_cons (ps_set hNd h1 (.inl hy) (pe_tup (pa_cons pe_str pa_nil)) hs0 (.inr hy)) (pss_cons (ps_try (tb := fun E0 σ0 => tAsg (tTup (tCons (tC (.str told)) (tCons (tAt σ0 (tFnv X k 0 E0 tNil)) tNil))) (gName 1)) hstk hfr hNd h2 hx hg hW hwd (fun C hC => by subst hC; exact ⟨ef.cat, ef.hd, ef.exm⟩) hsuite fun E0 σ0 pn xe hxe => ?_) (pss_one (ps_ret (pe_var h1 (.inl hy) hyd hyc))))
  exact pss_one (ps_set (X := inTry X pn xe) hNd h1 (.inl hy) (pe_tup (pa_cons pe_str (pa_cons (pe_fnv0 (X := inTry X pn xe) hr hxe h0 (.inl hu) hud huc) pa_nil))) hs (.inr hy))
theorem told_sp (ef : EFit X.K X.mg Wt nm0 cl C0) (hNl : X.N.length = 4) (hjl : its.length ≤ 100) (hcl : cl.length ≤ 100) (hb : (its.all fun z => match z with | .inr f => (psT nm0).contains f | .inl _ => true) = true)
    {vs : List V} {H : Hp} {Q : VK} {E : XK} (h : spT X.prog X.w X.K X.mg X.base k nm0 told its vs H Q E) :
    (tSeq (tAsg (tTup (tCons (tC (.str oth)) tNil)) (gName 1)) (tSeq (fun D σ H => tAsg (tTup (tCons (tC (.str told)) (tCons (tAt σ (tFnv X k 0 (eTry 2 (fun C => C = C0) (tsA X.K C0 cl 2 3 1 its) D σ) tNil)) tNil))) (gName 1) D σ H) (tRet (tVar 1)))) { nx := fun _ H' => Q .non H', rt := Q } (L2.start X.N vs) H := by
  obtain ⟨G, B, F, a, d, d', F', rfl, fB, bk, fa, ⟨oc, od, osl, fd, sp0, Fn, Bd, ha, hsp⟩, ho, q⟩ := h
  have est : L2.start X.N [.ref a] = [some (.ref a), none, none, none] := by unfold L2.start; rw [hNl]; rfl
  rw [est]
  refine ⟨by rw [sizeLine_eq]; simp, fun p hp => ?_⟩
  have sm : Same H (upd H p (.tup [.str oth])) := Same.upd hp
  have f1 := fa.same sm
  have bk1 := bok_step bk (Kp.same sm) f1
  have hdo : DatIs X.K (hid (upd H p (.tup [.str oth])) B) (.tuple [.str oth]) (.ref p) := new_tup bk hp (DatsAre.cons DatIs.st DatsAre.nil)
  have I1 : SitE X.K G B [some (.adr a), some (.dat (.tuple [.str oth])), none, none] F [some (.ref a), some (.ref p), none, none] (upd H p (.tup [.str oth])) := by
    refine ⟨f1, fB, bk1, rfl, fun i x e => ?_⟩
    match i, e with
    | 0, e => cases e; exact ⟨.ref a, rfl, rfl⟩
    | 1, e => cases e; exact ⟨.ref p, rfl, hdo⟩
    | 2, e => cases e
    | 3, e => cases e
  have mk : ∀ {F2 : FS} {H2 : Hp}, SitE X.K G B [some (.adr a), some (.dat (.tuple [.str oth])), none, none] F2 [some (.ref a), some (.ref p), none, none] H2 → Kp (fpOf X.K G) H H2 → Sit X.K G B H [some (.adr a), some (.dat (.tuple [.str oth])), none, none] F2 [some (.ref a), some (.ref p), none, none] H2 := fun {F2 H2} I kp => by
    refine ⟨⟨B, fun _ z => z, fun b z => .inl z, I⟩, fB, kp, fun i ds b e => ?_, fun i j ds es b e => ?_, fun i c ps b e => ?_⟩ <;>
    · match i, e with
      | 0, e => cases e
      | 1, e => cases e
      | 2, e => cases e
      | 3, e => cases e
  refine ⟨rfl, a, oc, od, osl, fd, [], sp0, rfl, Fn, Bd, sm _ _ ha, hsp _ _ _ sm (fun v H2 k2 f2 hv => ?_) fun nm fs er vs2 H2 k2 f2 h2 => ?_⟩
  · have hn : errOf d = none := by
      cases er : errOf d with
      | none => rfl
      | some z => exact (datIs_err hv er).elim
    unfold outT at ho
    rw [hn] at ho
    cases ho
    refine ⟨by rw [sizeLine_eq]; simp, fun p1 hp1 => ⟨_, rfl, ?_⟩⟩
    refine q _ _ (((Kp.same sm).trans k2).trans (Kp.upd hp1)) (f2.same (Same.upd hp1)) ?_
    exact new_tup (bok_step bk1 k2 f2) hp1 (DatsAre.cons DatIs.st (DatsAre.cons hv DatsAre.nil))
  · unfold outT at ho
    rw [er] at ho
    have ho : (if nm = nm0 then (itD ((psT nm0).zip fs) its).bind fun ds => some (.tuple ds) else none) = some d' := ho
    split at ho
    case isFalse => cases ho
    rename_i hnm
    subst hnm
    obtain ⟨ds, hds, ho⟩ := Option.bind_eq_some_iff.mp ho
    cases ho
    intro C' hm e' he'
    have I2 := I1.step k2 f2
    have S2 := mk I2 ((Kp.same sm).trans k2)
    have hE1 : hdA nm 2 3 1 its nm fs [some (.adr a), some (.dat (.tuple [.str oth])), none, none] = some [some (.adr a), some (.dat (.tuple ds)), none, some (.dat (.bool false))] := by
      unfold hdA
      rw [if_pos ⟨rfl, rfl⟩, hds]
      rfl
    have key : ∀ σ1 H3, Sit X.K G B H [some (.adr a), some (.dat (.tuple ds)), none, some (.dat (.bool false))] F' σ1 H3 → (tRet (tVar 1)) { nx := fun _ H' => Q .non H', rt := Q } σ1 H3 := fun σ1 H3 S3 => by
      obtain ⟨B3, s3, sn3, I3⟩ := S3.ex
      obtain ⟨v, hv, hd⟩ := I3.loc 1 _ rfl
      exact ⟨v, hv, q v H3 S3.kp I3.fd (DatIs.same hd (hid_sub s3))⟩
    obtain ⟨okC, ht⟩ := su_A ef (i := 2) (j := 3) (fi := 1) (by decide) (by decide) hjl hcl hb G B B H _ F' _ H2 { nx := (tRet (tVar 1)) { nx := fun _ H' => Q .non H', rt := Q }, rt := Q } nm C' fs vs2 _ e' S2 (fun _ z => z) (fun b z => .inl z) I2 hm h2 hE1 he' key
    exact ⟨C', e', _, H2, rfl, rfl, rfl, he', okC, ht⟩
end
end L3
set_option Elab.async false
set_option linter.all false
set_option maxRecDepth 100000
set_option maxHeartbeats 4000000
namespace L3
open PySem PySem.W PySem.Spec PyProof.Rows L2
section
variable {X : Cx}
theorem pe_defL1 {x q : Str} {k : Nat} {ps : List Str} {sp : Sp} {p pos lpos : Pos} {c P : Addr} {params : Arguments} {body : Expr} {scope : Scope} {cap : List Nat} {capN : List Str} (Cg : Callee X.prog X.w X.K X.mg X.base x k ps sp) (hr : Room k X.A) (hg : Gl X x) (hfn : ∀ x, X.fn x = true)
    (hdef : defaultsOf params X.env = ([], [])) (hcode : X.env.code = .ref c) (hC : CodeHd X.base c P) (BM : BMd X.base X.mg) (hq : X.env.qual ++ "<lambda>" = q)
    (hfree : ∀ y ∈ scope.names, y.2 = .free → X.env.scope.names.lookup y.1 = some .cell ∨ X.env.scope.names.lookup y.1 = some .free)
    (hcapN : (cap.map fun j => X.N[j]?) = capN.map some) (hcapf : ∀ y ∈ capN, (y, NameKind.free) ∈ scope.names) (hdb : (x == ("__debug__" : Str)) = false)
    (he : starEach [.Lambda params body scope lpos] X.env = [(false, eval (.Lambda params body scope lpos) X.env)]) :
    PE X (.Call (.Name x p) [.Lambda params body scope lpos] [] pos) (tDefL X P q params body scope cap capN sp tNil) := by
  obtain ⟨g, fd, G, m, kp, b⟩ := Cg
  intro pins s σ H Q I h
  obtain ⟨hT, ws, hws, h⟩ := h
  have hfr : ∀ y ∈ scope.names, y.2 = .free → ∃ c, X.env.cells.lookup y.1 = some c := fun y hy hk => I.ok.has y.1 (hfree y hy hk)
  have hcl : closureFor scope X.env = pure (clX X scope) := closureFor_closL fun y hy hk => by
    obtain ⟨c, e⟩ := hfr y hy hk
    unfold cellOf
    rw [e]; rfl
  refine wpAny_Call_Name_kw (ld_glob I hg m ?_ hdb)
  refine callWith_K (h₀ := X.base) (first := []) I.ok.mod.kin kp ?_ he rfl
  rw [he]
  refine Calls.spliced_cons (lam_made I hdef hcl hcode hC BM hT hq fun f c' ctv H2 s2 hf gr hT2 hc2 I2 => ?_)
  refine Calls.spliced_nil ⟨I2.kIn, ?_⟩
  exact run_defL (us := []) (vs := [.ref f]) G b hr hfn hfr hcapN (fun y hy => hfree (y, .free) (hcapf y hy) rfl) hcapf hws I2 (Nat.le_trans I.sz hf) hc2 (.cons rfl .nil) fun C hn hCn LA => h f c' _ ctv H2 C gr hT2 hn hCn LA
end
theorem _root_.L2.LamAt.same {H H' : Hp} {cap : List Str} {scope : Scope} {f c : Addr} {o : Obj} {q : Str} {cl : List (Str × Addr)} {C : List (Addr × Obj)} {ws : List V} (M : LamAt H cap scope f c o q cl C ws) (s : Same H H') : LamAt H' cap scope f c o q cl C ws :=
  ⟨s _ _ M.fo, s _ _ M.co, fun b ob z => s _ _ (M.cells b ob z), M.inC, M.inj, M.has, M.val, M.len⟩
section
variable [Feeds] {K : Frag} {X : Cx}
theorem FAt.bare {G : GF} {H : Hp} {F : FS} {D : List (Addr × Obj)} (f : FAt K G H F) (hD : ∀ b o, D.lookup b = some o → b ∉ fpOf K G) (hs : Shd D H) : FAt K G (bareH D H) F := by
  have out : ∀ b, b ∈ fpOf K G → bareH D H b = H b := fun b hb => by
    cases z : D.lookup b with
    | none => exact bare_out z
    | some o => exact absurd hb (hD b o z)
  refine ⟨?_, fun t ht => ?_⟩
  · cases G with
    | none => trivial
    | some p =>
      obtain ⟨d, c0⟩ := p
      exact Feeds.congr f.1 (out d (by simp [fpOf])) (out c0 (by simp [fpOf]))
  · obtain ⟨qs, h1, h2, h3⟩ := f.2 t ht
    refine ⟨qs, (out _ (fp_tab (List.mem_map_of_mem (f := fun t : Str × Addr × Addr => t.2.2) ht))).trans h1, h2, fun pos cv q => ?_⟩
    obtain ⟨c2, r1, r2⟩ := h3 pos cv q
    refine ⟨c2, r1, ?_⟩
    cases z : D.lookup c2 with
    | none => rwa [bare_out z]
    | some o => rw [hs c2 o z] at r2; cases r2
theorem caps_of {σ : St} : ∀ {cap : List Nat}, (∀ j ∈ cap, ∃ v, σ[j]? = some (some v)) → ∃ ws : List V, (cap.map fun j => (σ[j]?).join) = ws.map some
  | [], _ => ⟨[], rfl⟩
  | j :: cap, h => by
    obtain ⟨ws, e⟩ := caps_of fun j hj => h j (List.mem_cons_of_mem _ hj)
    obtain ⟨v, hv⟩ := h j List.mem_cons_self
    exact ⟨v :: ws, by rw [List.map_cons, List.map_cons, e, hv]; rfl⟩
noncomputable def isDat : Option (Option DV) → Bool
  | some (some (.dat _)) => true
  | _ => false
noncomputable def sTold (nm0 told : Str) (its : List (Sum Str Str)) (g : List DV → M PyData) (cap : List Nat) (ms : DE → M (List DV)) : DE → M PyData := fun E F => if (cap.all fun j => isDat E[j]?) = true then (ms (cap.map fun j => (E[j]?).join) F).bind fun p => (g p.1 p.2).bind fun q => (outT nm0 told its q.1).bind fun d => some (d, q.2) else none
theorem ev_told {x gn y : Str} {k kg kl n : Nat} {ps : List Str} {p pos lpos p1 p2 : Pos} {c P : Addr} {params : Arguments} {a : Expr} {es : List Expr} {scope osc : Scope} {cap : List Nat} {capN : List Str} {nm0 told : Str} {its : List (Sum Str Str)} {g : List DV → M PyData} {tl : TA} {ms : DE → M (List DV)} {fd : FuncData}
    (LB : LamB K X.mg X.base y fd c P) (hK : X.K = K) (Ct : Callee X.prog X.w X.K X.mg X.base x k ["_law_ask"] (spT X.prog X.w X.K X.mg X.base (kl + 1) nm0 told its)) (Cg : CalleeX X.prog X.w X.K X.mg X.base gn kg ps (spX X.K X.mg n g)) (hr : Room k X.A)
    (hcode : X.env.code = .ref c) (hq : X.env.qual ++ "<lambda>" = lamQ y) (hkl : kg ≤ kl) (L : LamS [] capN scope)
    (hE : ∀ cl f c' A outer s H E, Evs K (cxM (CXe X.prog X.w) X.prog X.w X.K X.mg X.base ([] ++ capN) (lamQ y) scope cl f c' A outer s H E) (a :: es) tl ms) (hn : ∀ E F args F', ms E F = some (args, F') → args.length = n)
    (hosc : X.env.scope = osc) (hfree : ∀ y ∈ scope.names, y.2 = .free → osc.names.lookup y.1 = some .cell ∨ osc.names.lookup y.1 = some .free)
    (hcapN : (cap.map fun j => X.N[j]?) = capN.map some) (hcapf : ∀ y ∈ capN, (y, NameKind.free) ∈ scope.names)
    (hbind : ∀ (cl : List (Str × Addr)) (pm : Value) (c' : Addr) (ctv : Value), bindArgs (kla_fn "<lambda>" (lamQ y) params (.Call (.Name gn p1) (a :: es) [] p2) scope cl pm (.ref c') ctv) ⟨[], []⟩ = pure [])
    (hgl : ∀ cl f c' A outer s H E, Gl (cxM (CXe X.prog X.w) X.prog X.w X.K X.mg X.base ([] ++ capN) (lamQ y) scope cl f c' A outer s H E) gn)
    (hst : ∀ cl f c' L, starEach (a :: es) (envX (lamQ y) scope L f (.ref c') cl) = (false, eval a (envX (lamQ y) scope L f (.ref c') cl)) :: starEach es (envX (lamQ y) scope L f (.ref c') cl)) (hpl : ∀ cl f c' L, (backTo p2 (starEach es (envX (lamQ y) scope L f (.ref c') cl))).any (·.1) = false)
    (hfn : ∀ x, X.fn x = true := by intro _; rfl) (hdef : defaultsOf params X.env = ([], []) := by rfl) (hg : Gl X x := by rfl) (hdb : (x == ("__debug__" : Str)) = false := by decide) (hdg : (gn == ("__debug__" : Str)) = false := by decide)
    (he : starEach [.Lambda params (.Call (.Name gn p1) (a :: es) [] p2) scope lpos] X.env = [(false, eval (.Lambda params (.Call (.Name gn p1) (a :: es) [] p2) scope lpos) X.env)] := by rfl) :
    Ev K X (.Call (.Name x p) [.Lambda params (.Call (.Name gn p1) (a :: es) [] p2) scope lpos] [] pos) (tDefL X P (lamQ y) params (.Call (.Name gn p1) (a :: es) [] p2) scope cap capN (spT X.prog X.w X.K X.mg X.base (kl + 1) nm0 told its) tNil) (sTold nm0 told its g cap ms) := by
  subst hK
  have hfree : ∀ y ∈ scope.names, y.2 = .free → X.env.scope.names.lookup y.1 = some .cell ∨ X.env.scope.names.lookup y.1 = some .free := by rw [hosc]; exact hfree
  refine ⟨pe_defL1 Ct hr hg hfn hdef hcode LB.hd LB.bm hq hfree hcapN hcapf hdb he, fun G B E F σ H Q d' F' I e qd => ?_⟩
  unfold sTold at e
  split at e
  case isFalse => cases e
  rename_i hall
  obtain ⟨⟨args, F1⟩, e1, e⟩ := Option.bind_eq_some_iff.mp e
  obtain ⟨⟨d, F2⟩, e2, e⟩ := Option.bind_eq_some_iff.mp e
  obtain ⟨d'', ho, e⟩ := Option.bind_eq_some_iff.mp e
  cases e
  have hdat : ∀ j ∈ cap, ∃ dj vj, E[j]? = some (some (.dat dj)) ∧ σ[j]? = some (some vj) ∧ DatIs X.K (hid H B) dj vj := fun j hj => by
    have := List.all_eq_true.mp hall j hj
    unfold isDat at this
    split at this
    · rename_i dj ej
      obtain ⟨v, hv, hd⟩ := I.loc j _ ej
      exact ⟨dj, v, ej, hv, hd⟩
    · cases this
  obtain ⟨ws, hws⟩ : ∃ ws : List V, (cap.map fun j => (σ[j]?).join) = ws.map some := caps_of fun j hj => let ⟨_, vj, _, h, _⟩ := hdat j hj; ⟨vj, h⟩
  refine ⟨I.fd.2 _ LB.mem, ws, hws, fun f c' pm ctv H2 C gr hT2 hfn2 hCn M => ?_⟩
  obtain ⟨k2, f2⟩ := grew_ok LB.mem LB.nd I.fd gr hT2
  generalize eD : (f, kla_obj "<lambda>" (lamQ y) params (.Call (.Name gn p1) (a :: es) [] p2) scope (clX X scope) pm c' ctv) :: C = D at M ⊢
  have hDn : ∀ b o, D.lookup b = some o → H2 b = none := fun b o z => by
    rw [← eD, List.lookup_cons] at z
    by_cases hb : b = f
    · rw [hb]; exact hfn2
    · rw [beq_false_of_ne hb] at z
      exact hCn b o z
  have sD : Same H2 (shade D H2) := fun b o z => by
    cases w : D.lookup b with
    | none => rwa [shade_out w]
    | some x => rw [hDn b x w] at z; cases z
  have fp2 : ∀ b, b ∈ fpOf X.K G → ∃ o, H2 b = some o := fun b hb => f2.bok b hb
  have hDf : ∀ b o, D.lookup b = some o → b ∉ fpOf X.K G := fun b o z hb => by
    obtain ⟨o2, e2⟩ := fp2 b hb
    rw [hDn b o z] at e2; cases e2
  have fS := f2.same sD
  have bk2 := bok_step I.bk k2 f2
  have bkS := bok_step bk2 (Kp.same sD) fS
  refine ⟨G, B, F, f, d, _, F2, rfl, I.fB, bkS, fS, ?_, ho, fun v H' k3 f3 h3 => ?_⟩
  · refine ⟨_, _, _, _, _, lam_fn (C := C) (te := fun E => tCall (spX X.K X.mg n g) [] E tl) L cxe_lam fun A outer s H0 E0' hrl => ?_, Binds.all fun us hus => ?_, M.fo, fun H1 Q1 E1 s1 hq1 hq2 => ⟨rfl, ws, M.same s1, ?_⟩⟩
    · obtain ⟨gf, gfd, GF', gm, gkp, gb⟩ := Cg
      exact pe_call (X := cxM (CXe X.prog X.w) X.prog X.w X.K X.mg X.base ([] ++ capN) (lamQ y) scope (clX X scope) f c' A outer s H0 E0') GF' (hrl.mono hkl) (hgl _ _ _ _ _ _ _ _) gm gkp gb .nil (passes_of ⟨rfl, rfl, rfl, fun _ _ h => h⟩) (hE _ _ _ _ _ _ _ _).pa hdg (hst _ _ _ _) (hpl _ _ _ _)
    · cases us with
      | nil => exact hbind _ _ _ _
      | cons u us => cases hus
    · have M1 := M.same s1
      have sL : Same H2 (bareH C H1) := fun b o z => by
        cases w : C.lookup b with
        | some x => rw [hCn b x w] at z; cases z
        | none => rw [bare_out w]; exact s1 b o (sD b o z)
      have fL := f2.same sL
      have IL : SitE X.K G B (cap.map fun j => (E[j]?).join) F (([] : List V).map some ++ ws.map some) (bareH C H1) := by
        refine ⟨fL, I.fB, bok_step bk2 (Kp.same sL) fL, ?_, fun i z ei => ?_⟩
        · have := congrArg List.length hws
          rw [List.length_map, List.length_map] at this
          simp [this]
        · rw [List.getElem?_map] at ei
          obtain ⟨j, hj, ej⟩ := Option.map_eq_some_iff.mp ei
          obtain ⟨dj, vj, g1, g2, g3⟩ := hdat j (List.mem_of_getElem? hj)
          rw [g1] at ej
          cases ej
          have w1 := congrArg (fun l => l[i]?) hws
          simp only [List.getElem?_map, hj, Option.map_some, g2] at w1
          obtain ⟨v, hv, ev⟩ := Option.map_eq_some_iff.mp w1.symm
          have ev : v = vj := Option.some.inj ev
          subst ev
          refine ⟨v, by simp [hv], DatIs.same (DatIs.same g3 (k2.hid I.fB)) (Kp.hid (Kp.same sL) I.fB)⟩
      refine (hE (clX X scope) f c' X.A [] X.s₀ H1 E1).ok G B _ F _ _ _ args F1 IL e1 fun vs H3 k4 f4 h4 => ?_
      rw [List.append_nil]
      have bk4 := bok_step IL.bk k4 f4
      refine ⟨G, B, F1, args, d, F2, by rw [h4.length]; exact hn _ _ _ _ e1, I.fB, bk4, f4, h4, e2, fun v H5 k5 f5 h5 hCn5 => ?_, fun nm fs er vs5 H5 k5 f5 h5 => ?_⟩
      · have s5 : Same H5 (shade C H5) := fun b o z => by
          cases w : C.lookup b with
          | some x => rw [hCn5 b x w] at z; cases z
          | none => rwa [shade_out w]
        refine hq1 v _ (fun b o z nb => ?_) (f5.same s5) (DatIs.same h5 (Kp.hid (Kp.same s5) I.fB))
        cases w : C.lookup b with
        | some x => rw [M1.cells b x w] at z; cases z; exact shade_in w
        | none => rw [shade_out w]; exact k5 b o (k4 b o (by rw [bare_out w]; exact z) nb) nb
      · intro C1 hm e5 he5 hp
        have hCe : C.lookup e5 = none := by
          cases w : C.lookup e5 with
          | none => rfl
          | some x =>
            have := hp e5 x w
            rw [upd_same] at this; cases this
        have hCn5 : ∀ b o, C.lookup b = some o → H5 b = none := fun b o w => by
          have := hp b o w
          rwa [upd_ne (fun z => by rw [z, hCe] at w; cases w)] at this
        have s5 : Same H5 (shade C H5) := fun b o z => by
          cases w : C.lookup b with
          | some x => rw [hCn5 b x w] at z; cases z
          | none => rwa [shade_out w]
        rw [shade_upd hCe]
        refine hq2 nm fs er vs5 (shade C H5) (fun b o z nb => ?_) (f5.same s5) (DatsAre.same h5 (Kp.hid (Kp.same s5) I.fB)) C1 hm e5 (by rw [shade_out hCe]; exact he5)
        cases w : C.lookup b with
        | some x => rw [M1.cells b x w] at z; cases z; exact shade_in w
        | none => rw [shade_out w]; exact k5 b o (k4 b o (by rw [bare_out w]; exact z) nb) nb
  · have shd3 : Shd D H' := fun b o z => k3 b _ (shade_in z) (hDf b o z)
    refine qd v _ (fun b o z nb => ?_) (f3.bare hDf shd3) (DatIs.bare (fun b o z => ?_) _ _ h3)
    · have z2 := k2 b o z nb
      have w : D.lookup b = none := by
        cases w : D.lookup b with
        | none => rfl
        | some x => rw [hDn b x w] at z2; cases z2
      rw [bare_out w]
      exact k3 b o (sD b o z2) nb
    · by_cases hb : b ∈ B
      · rw [hid_in hb] at z; cases z
      · rw [hid_out hb] at z ⊢
        cases w : D.lookup b with
        | none => right; rwa [bare_out w]
        | some x => left; rw [shd3 b x w] at z; cases z; exact ⟨_, rfl⟩
end
end L3
set_option Elab.async false
set_option linter.all false
set_option maxRecDepth 100000
set_option maxHeartbeats 4000000
namespace L3
open PySem PySem.W PySem.Spec PyProof.Rows L2
section
variable [Feeds] {K : Frag} {mg : Str → Option Value} {Wt C0 : Addr} {nm0 : Str} {cl : List Addr} {i fi : Nat} {its : List (Sum Str Str)}
end
section
variable {X : Cx} {e C : Addr} {fs : List (Str × V)} {i fi : Nat} {its : List (Sum Str Str)} {z : Str} {ies : List Expr} {r1 r2 r3 : Pos} {k2}
end
end L3
set_option Elab.async false
set_option linter.all false
set_option maxRecDepth 100000
set_option maxHeartbeats 4000000
namespace L3
open PySem PySem.W PySem.Spec PyProof.Rows L2
section
variable {X : Cx} {Wt C f : Addr} {x : Str} {p cp pos : Pos}
end
section
variable [Feeds] {K : Frag} {X : Cx}
end
section
variable [Feeds] {K : Frag} {X : Cx} {i : Nat} {ok : Addr → Prop} {tsu : Addr → Addr → List (Str × V) → TS}
variable {x y wt gn told : Str} {suite : List Stmt} {b₀ : Stmt} {pw hpos pos p1 p2 p3 p4 p5 p6 : Pos} {Wt : Addr} {k n fi j1 : Nat} {k0} {ps : List Str} {a c : Expr} {es : List Expr} {tl : TA} {g : List DV → M PyData} {ms : DE → M (List DV)} {hd : Str → List PyData → DE → Option DE}
end
section
variable [Feeds] {K : Frag} {mg : Str → Option Value} {Wt CA CB : Addr} {nmA nmB odd beat : Str} {cl : List Addr} {i j fi : Nat} {its : List (Sum Str Str)}
section
variable {G : GF} {B B0 : List Addr} {H0 : Hp} {E E1 : DE} {F : FS} {σ : St} {H : Hp} {ws : List V} {ds : List PyData}
end
end
section
variable {X : Cx} {e C CA CB : Addr} {fs : List (Str × V)} {i j fi : Nat} {cl : List Addr} {its : List (Sum Str Str)} {x y z nmA nmB odd beat : Str} {ces ies : List Expr} {k1 k2 k3 k4 c1 c2 c3 c4 : Nat}
  {p1 p2 p3 p4 p5 p6 p7 p8 p9 pa pb pc q1 q2 q3 q4 q5 r1 r2 r3 r4 r5 r6 r7 r8 r9 ra rb rc s1 s2 s3 s4 s5 t1 t2 t3 t4 t5 t6 t7 t8 t9 tx ty tz u1 u2 u3 u4 pos : Pos}
end
end L3
set_option Elab.async false
set_option linter.all false
set_option maxRecDepth 100000
set_option maxHeartbeats 4000000
namespace K59
open PySem L2 L3
noncomputable def top (i : Nat) : Stmt := PySem.Challenge.pw_hatchwaits_k59_means_until_empty_and_sta.main.body.getD i (.Pass ⟨0, 0, 0, 0⟩)
noncomputable instance famI : Fam := famL ["_law_right"]
noncomputable abbrev s_common_divisor : Stmt := top 11
noncomputable abbrev s_fraction : Stmt := top 12
noncomputable abbrev s_minus : Stmt := top 13
noncomputable abbrev s_times : Stmt := top 14
noncomputable abbrev s_over : Stmt := top 15
noncomputable abbrev s_less : Stmt := top 16
noncomputable abbrev s_mean_of : Stmt := top 17
noncomputable abbrev s_total : Stmt := top 20
noncomputable abbrev s_share_of : Stmt := top 21
noncomputable abbrev s_mean : Stmt := top 22
noncomputable abbrev s_second : Stmt := top 23
noncomputable abbrev s_word_of : Stmt := top 25
noncomputable abbrev s_check_rests : Stmt := top 26
noncomputable abbrev s_lacking : Stmt := top 27
noncomputable abbrev s_empty_mean : Stmt := top 28
noncomputable abbrev s_mean_standing : Stmt := top 29
noncomputable abbrev s__law_feed : Stmt := top 31
noncomputable abbrev s__law_draw : Stmt := top 32
noncomputable abbrev s__law_frac : Stmt := top 33
noncomputable abbrev s__law_flow : Stmt := top 34
noncomputable abbrev s__law_due : Stmt := top 35
noncomputable abbrev s__law_told : Stmt := top 36
noncomputable abbrev s__law_right : Stmt := top 37
noncomputable abbrev s_law : Stmt := top 38
noncomputable abbrev ini_NoRest : Stmt := clsInit (top 4)
theorem it_NoRest : IniTxt ini_NoRest "NoRest.__init__" ["word"] := ⟨⟨rfl, rfl, rfl, by decide +kernel, rfl, by decide +kernel, by decide +kernel⟩, by decide +kernel, (.cons .nil), by decide, by decide, fun _ _ _ _ _ _ us hl => match us, hl with | [_, _], _ => rfl⟩
structure Txt (K : PySem.W.Frag) (mg : Str → Option Value) : Prop where
  ValueError : mg "ValueError" = none
  abs : mg "abs" = none
  enumerate : mg "enumerate" = none
  int : mg "int" = none
  isinstance : mg "isinstance" = none
  len : mg "len" = none
  list : mg "list" = none
  range : mg "range" = none
  repr : mg "repr" = none
  sum : mg "sum" = none
  tuple : mg "tuple" = none
  g_ONE : GD K mg "ONE" (.tuple [.int 1, .int 1])
  err_NoRest : ErrT K mg "WaitError" "NoRest" ["NoBeat", "NoComer", "NoHouse", "NoPaper", "NoRow", "NoText", "TooMany"]
noncomputable section
variable {P : Program} {w : World} {K : PySem.W.Frag} {mg : Str → Option Value} {base : Heap}
theorem sc_common_divisor : FnScope ["one", "other"] ["one", "other"] (defScope s_common_divisor) := ⟨rfl, rfl, rfl, by decide +kernel, rfl, by decide +kernel, by decide +kernel⟩
noncomputable abbrev f_common_divisor := c_common_divisor
theorem ok_common_divisor {f : Addr} {fd : FuncData} (Fn : Fun K "common_divisor" "common_divisor" s_common_divisor f fd) (T : Txt K mg)  : FnOk P w K mg base CX0 1 f fd ["one", "other"] (spD K 2 f_common_divisor) := by
  refine def_ok Fn sc_common_divisor fun cdv A outer s H E hr => ?_
  have hu5 : (A.deeper (PyProof.Rows.envOfC "common_divisor" (defScope s_common_divisor) s.heap.objs.size f cdv)).units + 65 < cLine := by have := hr.un; omega
  exact ⟨_, (ss_cons (st_par 0 1 rfl sc_common_divisor.nd (ea_cons (ev_callB (cd_abs) T.abs bt_abs (es_cons (eb_v 0) es_nil)) (ea_cons (ev_callB (cd_abs) T.abs bt_abs (es_cons (eb_v 1) es_nil)) ea_nil)))
      (ss_cons (st_while (et_cmp od_gt (eb_v 1) (Ev.bw ev_int)) (ss_one (st_par 0 1 rfl sc_common_divisor.nd (ea_cons (ev_v 1) (ea_cons (ev_op od_mod (eb_v 0) (eb_v 1)) ea_nil)))))
      (ss_one (st_ret (ev_v 0)))))⟩
theorem sc_fraction : FnScope ["top", "bottom", "divisor"] ["top", "bottom"] (defScope s_fraction) := ⟨rfl, rfl, rfl, by decide +kernel, rfl, by decide +kernel, by decide +kernel⟩
noncomputable abbrev f_fraction := c_fraction
theorem ok_fraction {f : Addr} {fd : FuncData} (Fn : Fun K "fraction" "fraction" s_fraction f fd) (T : Txt K mg) (C_common_divisor : Callee P w K mg base "common_divisor" 1 ["one", "other"] (spD K 2 f_common_divisor)) : FnOk P w K mg base CX0 2 f fd ["top", "bottom"] (spD K 2 f_fraction) := by
  refine def_ok Fn sc_fraction fun cdv A outer s H E hr => ?_
  have hu5 : (A.deeper (PyProof.Rows.envOfC "fraction" (defScope s_fraction) s.heap.objs.size f cdv)).units + 65 < cLine := by have := hr.un; omega
  exact ⟨_, (ss_cons (st_set 2 sc_fraction.nd (ev_k9 C_common_divisor hr (av_d (ev_v 0) (av_d (ev_v 1) av_nil))))
      (ss_cons (st_if (et_cmp od_lt (eb_v 1) (Ev.bw ev_int)) (ss_one (st_set 2 sc_fraction.nd (ev_un ud_neg (eb_v 2)))) ss_nil)
      (ss_one (st_ret (ev_tup (ea_cons (ev_op od_fdiv (eb_v 0) (eb_v 2)) (ea_cons (ev_op od_fdiv (eb_v 1) (eb_v 2)) ea_nil)))))))⟩
theorem sc_minus : FnScope ["one", "other"] ["one", "other"] (defScope s_minus) := ⟨rfl, rfl, rfl, by decide +kernel, rfl, by decide +kernel, by decide +kernel⟩
noncomputable abbrev f_minus := c_minus
theorem ok_minus {f : Addr} {fd : FuncData} (Fn : Fun K "minus" "minus" s_minus f fd) (T : Txt K mg) (C_fraction : Callee P w K mg base "fraction" 2 ["top", "bottom"] (spD K 2 f_fraction)) : FnOk P w K mg base CX0 3 f fd ["one", "other"] (spD K 2 f_minus) := by
  refine def_ok Fn sc_minus fun cdv A outer s H E hr => ?_
  have hu5 : (A.deeper (PyProof.Rows.envOfC "minus" (defScope s_minus) s.heap.objs.size f cdv)).units + 65 < cLine := by have := hr.un; omega
  exact ⟨_, (ss_one (st_ret (ev_k9 C_fraction hr (av_d (ev_op od_sub (Ev.bw (ev_op (od_mul' rfl) (Ev.bw (ev_xc 0)) (Ev.bw (ev_xc 1)))) (Ev.bw (ev_op (od_mul' rfl) (Ev.bw (ev_xc 1)) (Ev.bw (ev_xc 0))))) (av_d (ev_op (od_mul' rfl) (Ev.bw (ev_xc 0)) (Ev.bw (ev_xc 1))) av_nil)))))⟩
theorem sc_times : FnScope ["one", "other"] ["one", "other"] (defScope s_times) := ⟨rfl, rfl, rfl, by decide +kernel, rfl, by decide +kernel, by decide +kernel⟩
noncomputable abbrev f_times := c_times
theorem ok_times {f : Addr} {fd : FuncData} (Fn : Fun K "times" "times" s_times f fd) (T : Txt K mg) (C_fraction : Callee P w K mg base "fraction" 2 ["top", "bottom"] (spD K 2 f_fraction)) : FnOk P w K mg base CX0 3 f fd ["one", "other"] (spD K 2 f_times) := by
  refine def_ok Fn sc_times fun cdv A outer s H E hr => ?_
  have hu5 : (A.deeper (PyProof.Rows.envOfC "times" (defScope s_times) s.heap.objs.size f cdv)).units + 65 < cLine := by have := hr.un; omega
  exact ⟨_, (ss_one (st_ret (ev_k9 C_fraction hr (av_d (ev_op (od_mul' rfl) (Ev.bw (ev_xc 0)) (Ev.bw (ev_xc 1))) (av_d (ev_op (od_mul' rfl) (Ev.bw (ev_xc 0)) (Ev.bw (ev_xc 1))) av_nil)))))⟩
theorem sc_over : FnScope ["one", "other"] ["one", "other"] (defScope s_over) := ⟨rfl, rfl, rfl, by decide +kernel, rfl, by decide +kernel, by decide +kernel⟩
noncomputable abbrev f_over := Bz.c_over
theorem ok_over {f : Addr} {fd : FuncData} (Fn : Fun K "over" "over" s_over f fd) (T : Txt K mg) (C_fraction : Callee P w K mg base "fraction" 2 ["top", "bottom"] (spD K 2 f_fraction)) : FnOk P w K mg base CX0 3 f fd ["one", "other"] (spD K 2 f_over) := by
  refine def_ok Fn sc_over fun cdv A outer s H E hr => ?_
  have hu5 : (A.deeper (PyProof.Rows.envOfC "over" (defScope s_over) s.heap.objs.size f cdv)).units + 65 < cLine := by have := hr.un; omega
  exact ⟨_, (ss_one (st_ret (ev_k9 C_fraction hr (av_d (ev_op (od_mul' rfl) (Ev.bw (ev_xc 0)) (Ev.bw (ev_xc 1))) (av_d (ev_op (od_mul' rfl) (Ev.bw (ev_xc 0)) (Ev.bw (ev_xc 1))) av_nil)))))⟩
theorem sc_less : FnScope ["one", "other"] ["one", "other"] (defScope s_less) := ⟨rfl, rfl, rfl, by decide +kernel, rfl, by decide +kernel, by decide +kernel⟩
noncomputable abbrev f_less := Bz.c_less
theorem ok_less {f : Addr} {fd : FuncData} (Fn : Fun K "less" "less" s_less f fd) (T : Txt K mg)  : FnOk P w K mg base CX0 1 f fd ["one", "other"] (spD K 2 f_less) := by
  refine def_ok Fn sc_less fun cdv A outer s H E hr => ?_
  have hu5 : (A.deeper (PyProof.Rows.envOfC "less" (defScope s_less) s.heap.objs.size f cdv)).units + 65 < cLine := by have := hr.un; omega
  exact ⟨_, (ss_one (st_ret (ev_cmp od_lt (Ev.bw (ev_op (od_mul' rfl) (Ev.bw (ev_xc 0)) (Ev.bw (ev_xc 1)))) (Ev.bw (ev_op (od_mul' rfl) (Ev.bw (ev_xc 1)) (Ev.bw (ev_xc 0)))))))⟩
theorem sc_mean_of : FnScope ["pairs", "weighed"] ["pairs"] (defScope s_mean_of) := ⟨rfl, rfl, rfl, by decide +kernel, rfl, by decide +kernel, by decide +kernel⟩
noncomputable abbrev f_mean_of := c_mean_of
theorem ok_mean_of {f : Addr} {fd : FuncData} (Fn : Fun K "mean_of" "mean_of" s_mean_of f fd) (T : Txt K mg) (C_fraction : Callee P w K mg base "fraction" 2 ["top", "bottom"] (spD K 2 f_fraction)) : FnOk P w K mg base CX0 3 f fd ["pairs"] (spD K 1 f_mean_of) := by
  refine def_ok Fn sc_mean_of fun cdv A outer s H E hr => ?_
  have hu5 : (A.deeper (PyProof.Rows.envOfC "mean_of" (defScope s_mean_of) s.heap.objs.size f cdv)).units + 65 < cLine := by have := hr.un; omega
  exact ⟨_, (ss_cons (st_set 1 sc_mean_of.nd (ev_callB (cd_sum' rfl rfl) T.sum bt_sum (es_cons (Ev.bw (ev_lc (defScope s_mean_of) ["number", "lot"] (eib_seq (eb_v 0)) (eg_tup (n := 2) rfl (egs_cons (eg_c (i := 0)) (egs_cons (eg_c (i := 1)) egs_nil))) ets_nil (ev_op (od_mul' rfl) (eb_v 0) (eb_v 1)))) es_nil)))
      (ss_one (st_ret (ev_k9 C_fraction hr (av_d (ev_v 1) (av_d (ev_callB (cd_sum' rfl rfl) T.sum bt_sum (es_cons (Ev.bw (ev_lc (defScope s_mean_of) ["number", "lot"] (eib_seq (eb_v 0)) (eg_tup (n := 2) rfl (egs_cons (eg_c (i := 0)) (egs_cons (eg_c (i := 1)) egs_nil))) ets_nil (ev_v 1))) es_nil)) av_nil))))))⟩
theorem sc_total : FnScope ["flow"] ["flow"] (defScope s_total) := ⟨rfl, rfl, rfl, by decide +kernel, rfl, by decide +kernel, by decide +kernel⟩
noncomputable abbrev f_total := c_total
theorem ok_total {f : Addr} {fd : FuncData} (Fn : Fun K "total" "total" s_total f fd) (T : Txt K mg)  : FnOk P w K mg base CX0 1 f fd ["flow"] (spD K 1 f_total) := by
  refine def_ok Fn sc_total fun cdv A outer s H E hr => ?_
  have hu5 : (A.deeper (PyProof.Rows.envOfC "total" (defScope s_total) s.heap.objs.size f cdv)).units + 65 < cLine := by have := hr.un; omega
  exact ⟨_, (ss_one (st_ret (ev_callB (cd_sum' rfl rfl) T.sum bt_sum (es_cons (eb_v 0) es_nil))))⟩
theorem sc_share_of : FnScope ["flow", "k"] ["flow", "k"] (defScope s_share_of) := ⟨rfl, rfl, rfl, by decide +kernel, rfl, by decide +kernel, by decide +kernel⟩
noncomputable abbrev f_share_of := c_share_of
theorem ok_share_of {f : Addr} {fd : FuncData} (Fn : Fun K "share_of" "share_of" s_share_of f fd) (T : Txt K mg) (C_fraction : Callee P w K mg base "fraction" 2 ["top", "bottom"] (spD K 2 f_fraction)) (C_total : Callee P w K mg base "total" 1 ["flow"] (spD K 1 f_total)) : FnOk P w K mg base CX0 3 f fd ["flow", "k"] (spD K 2 f_share_of) := by
  refine def_ok Fn sc_share_of fun cdv A outer s H E hr => ?_
  have hu5 : (A.deeper (PyProof.Rows.envOfC "share_of" (defScope s_share_of) s.heap.objs.size f cdv)).units + 65 < cLine := by have := hr.un; omega
  exact ⟨_, (ss_cons (st_if (et_not (et_chain od_le od_lt (Ev.bw ev_int) (eb_v 1) (Ev.bw (ev_callB (cd_len rfl) T.len bt_len (es_cons (eb_v 0) es_nil))))) (ss_one (st_ret (ev_k (.tuple [.int 0, .int 1]) rfl))) ss_nil)
      (ss_one (st_ret (ev_k9 C_fraction hr (av_d (ev_ix (id_ix rfl) (eb_v 0) (eb_v 1)) (av_d (ev_k9 C_total hr (av_d (ev_v 0) av_nil)) av_nil))))))⟩
theorem sc_mean : FnScope ["flow"] ["flow"] (defScope s_mean) := ⟨rfl, rfl, rfl, by decide +kernel, rfl, by decide +kernel, by decide +kernel⟩
noncomputable abbrev f_mean := c_mean
theorem ok_mean {f : Addr} {fd : FuncData} (Fn : Fun K "mean" "mean" s_mean f fd) (T : Txt K mg) (C_mean_of : Callee P w K mg base "mean_of" 3 ["pairs"] (spD K 1 f_mean_of)) : FnOk P w K mg base CX0 4 f fd ["flow"] (spD K 1 f_mean) := by
  refine def_ok Fn sc_mean fun cdv A outer s H E hr => ?_
  have hu5 : (A.deeper (PyProof.Rows.envOfC "mean" (defScope s_mean) s.heap.objs.size f cdv)).units + 65 < cLine := by have := hr.un; omega
  exact ⟨_, (ss_one (st_ret (ev_k9 C_mean_of hr (av_d (ev_lenum (ev_v 0) rfl T.enumerate T.list bt_list) av_nil))))⟩
theorem sc_second : FnScope ["flow"] ["flow"] (defScope s_second) := ⟨rfl, rfl, rfl, by decide +kernel, rfl, by decide +kernel, by decide +kernel⟩
noncomputable def f_second : List DV → M PyData := runD ["flow"] (mRt (sCall f_mean_of (vD (sLC (mEnum (sW 0)) 2 [] (bTup 2 (bCons (bN 0) (bCons (bN 1) bNil))) uYes (sTup (sCons (s2 mulD' (sW 0) (sW 0)) (sCons (sV 1) sNil)))) vNil)))
theorem ok_second {f : Addr} {fd : FuncData} (Fn : Fun K "second" "second" s_second f fd) (T : Txt K mg) (C_mean_of : Callee P w K mg base "mean_of" 3 ["pairs"] (spD K 1 f_mean_of)) : FnOk P w K mg base CX0 4 f fd ["flow"] (spD K 1 f_second) := by
  refine def_ok Fn sc_second fun cdv A outer s H E hr => ?_
  have hu5 : (A.deeper (PyProof.Rows.envOfC "second" (defScope s_second) s.heap.objs.size f cdv)).units + 65 < cLine := by have := hr.un; omega
  exact ⟨_, (ss_one (st_ret (ev_k9 C_mean_of hr (av_d (ev_lc (defScope s_second) ["k", "lot"] (eib_enum (eb_v 0) T.enumerate) (eg_tup (n := 2) rfl (egs_cons (eg_c (i := 0)) (egs_cons (eg_c (i := 1)) egs_nil))) ets_nil (ev_tup (ea_cons (ev_op (od_mul' rfl) (eb_v 0) (eb_v 0)) (ea_cons (ev_v 1) ea_nil)))) av_nil))))⟩
theorem sc_word_of : FnScope ["flow", "hands", "brought", "most"] ["flow", "hands"] (defScope s_word_of) := ⟨rfl, rfl, rfl, by decide +kernel, rfl, by decide +kernel, by decide +kernel⟩
noncomputable abbrev f_word_of := Bz.c_word_of
theorem ok_word_of {f : Addr} {fd : FuncData} (Fn : Fun K "word_of" "word_of" s_word_of f fd) (T : Txt K mg) (C_mean : Callee P w K mg base "mean" 4 ["flow"] (spD K 1 f_mean)) (C_less : Callee P w K mg base "less" 1 ["one", "other"] (spD K 2 f_less)) (C_share_of : Callee P w K mg base "share_of" 3 ["flow", "k"] (spD K 2 f_share_of)) : FnOk P w K mg base CX0 5 f fd ["flow", "hands"] (spD K 2 f_word_of) := by
  refine def_ok Fn sc_word_of fun cdv A outer s H E hr => ?_
  have hu5 : (A.deeper (PyProof.Rows.envOfC "word_of" (defScope s_word_of) s.heap.objs.size f cdv)).units + 65 < cLine := by have := hr.un; omega
  exact ⟨_, (ss_cons (st_par 2 3 rfl sc_word_of.nd (ea_cons (ev_k9 C_mean hr (av_d (ev_v 0) av_nil)) (ea_cons (ev_tup (ea_cons (ev_v 1) (ea_cons ev_int ea_nil))) ea_nil)))
      (ss_cons (st_if (et_val (Ev.bw (ev_k9 C_less hr (av_d (ev_v 2) (av_d (ev_v 3) av_nil))))) (ss_one (st_ret ev_str)) ss_nil)
      (ss_cons (st_if (et_val (Ev.bw (ev_k9 C_less hr (av_d (ev_v 3) (av_d (ev_v 2) av_nil))))) (ss_one (st_ret ev_str)) ss_nil)
      (ss_one (st_ret (ev_if (et_cmp (od_eq rfl hr.units) (Ev.bw (ev_k9 C_share_of hr (av_d (ev_v 0) (av_d (ev_v 1) av_nil)))) (Ev.bw (ev_g T.g_ONE))) ev_str ev_str))))))⟩
theorem sc_check_rests : FnScope ["flow", "word"] ["flow"] (defScope s_check_rests) := ⟨rfl, rfl, rfl, by decide +kernel, rfl, by decide +kernel, by decide +kernel⟩
noncomputable def f_check_rests : List DV → M PyData := runD ["flow", "word"] (mSq (mSet 1 (sCall f_word_of (vD (sV 0) (vD (sC (.int 1)) vNil))))
    (mIf (uB (s2 (eqD true) (sW 1) (sC (.str "rests")))) (mRaise "NoRest" (sCons (sV 1) sNil)) mNx))
theorem ok_check_rests {f : Addr} {fd : FuncData} (Fn : Fun K "check_rests" "check_rests" s_check_rests f fd) (T : Txt K mg) (C_word_of : Callee P w K mg base "word_of" 5 ["flow", "hands"] (spD K 2 f_word_of)) : FnOk P w K mg base (CXe P w) 6 f fd ["flow"] (spX K mg 1 f_check_rests) := by
  refine defx_ok Fn sc_check_rests fun cdv A outer s H E hr => ?_
  have hu5 : (A.deeper (PyProof.Rows.envOfC "check_rests" (defScope s_check_rests) s.heap.objs.size f cdv)).units + 65 < cLine := by have := hr.un; omega
  obtain ⟨Wt_NoRest, Cl_NoRest, fi_NoRest, cl_NoRest, hW_NoRest, hA_NoRest, ecl_NoRest, eini_NoRest, efit_NoRest⟩ := T.err_NoRest
  exact ⟨_, (sxs_cons (sx_of (st_set 1 sc_check_rests.nd (ev_k9 C_word_of hr (av_d (ev_v 0) (av_d ev_int av_nil)))))
      (sxs_one (sx_if (et_cmp (od_ne rfl hr.units) (eb_v 1) (Ev.bw ev_str)) (sxs_one (sx_raise "NoRest" goes_of ecl_NoRest eini_NoRest (hr.mono (by decide)) efit_NoRest.mgc (ea_cons (ev_v 1) ea_nil))) (sxs_of ss_nil))))⟩
theorem sc_lacking : FnScope ["flow"] ["flow"] (defScope s_lacking) := ⟨rfl, rfl, rfl, by decide +kernel, rfl, by decide +kernel, by decide +kernel⟩
noncomputable def f_lacking : List DV → M PyData := runD ["flow"] (mRt (sCall f_minus (vD (sC (.tuple [.int 1, .int 1])) (vD (sCall f_mean (vD (sV 0) vNil)) vNil))))
theorem ok_lacking {f : Addr} {fd : FuncData} (Fn : Fun K "lacking" "lacking" s_lacking f fd) (T : Txt K mg) (C_minus : Callee P w K mg base "minus" 3 ["one", "other"] (spD K 2 f_minus)) (C_mean : Callee P w K mg base "mean" 4 ["flow"] (spD K 1 f_mean)) : FnOk P w K mg base CX0 5 f fd ["flow"] (spD K 1 f_lacking) := by
  refine def_ok Fn sc_lacking fun cdv A outer s H E hr => ?_
  have hu5 : (A.deeper (PyProof.Rows.envOfC "lacking" (defScope s_lacking) s.heap.objs.size f cdv)).units + 65 < cLine := by have := hr.un; omega
  exact ⟨_, (ss_one (st_ret (ev_k9 C_minus hr (av_d (ev_g T.g_ONE) (av_d (ev_k9 C_mean hr (av_d (ev_v 0) av_nil)) av_nil)))))⟩
theorem sc_empty_mean : FnScope ["flow", "w"] ["flow", "w"] (defScope s_empty_mean) := ⟨rfl, rfl, rfl, by decide +kernel, rfl, by decide +kernel, by decide +kernel⟩
noncomputable def f_empty_mean : List DV → M PyData := runD ["flow", "w"] (mSq (mDoX f_check_rests (vD (sV 0) vNil))
    (mRt (sCall f_over (vD (sTup (sCons (sV 1) (sCons (sC (.int 1)) sNil))) (vD (sCall f_lacking (vD (sV 0) vNil)) vNil)))))
theorem ok_empty_mean {f : Addr} {fd : FuncData} (Fn : Fun K "empty_mean" "empty_mean" s_empty_mean f fd) (T : Txt K mg) (C_check_rests : CalleeX P w K mg base "check_rests" 6 ["flow"] (spX K mg 1 f_check_rests)) (C_over : Callee P w K mg base "over" 3 ["one", "other"] (spD K 2 f_over)) (C_lacking : Callee P w K mg base "lacking" 5 ["flow"] (spD K 1 f_lacking)) : FnOk P w K mg base (CXe P w) 7 f fd ["flow", "w"] (spX K mg 2 f_empty_mean) := by
  refine defx_ok Fn sc_empty_mean fun cdv A outer s H E hr => ?_
  have hu5 : (A.deeper (PyProof.Rows.envOfC "empty_mean" (defScope s_empty_mean) s.heap.objs.size f cdv)).units + 65 < cLine := by have := hr.un; omega
  exact ⟨_, (sxs_cons (sx_do goes_of C_check_rests (hr.mono (by decide)) (av_d (ev_v 0) av_nil) (ln_d ln_nil))
      (sxs_of (ss_one (st_ret (ev_k9 C_over hr (av_d (ev_tup (ea_cons (ev_v 1) (ea_cons ev_int ea_nil))) (av_d (ev_k9 C_lacking hr (av_d (ev_v 0) av_nil)) av_nil)))))))⟩
theorem sc_mean_standing : FnScope ["flow"] ["flow"] (defScope s_mean_standing) := ⟨rfl, rfl, rfl, by decide +kernel, rfl, by decide +kernel, by decide +kernel⟩
noncomputable def f_mean_standing : List DV → M PyData := runD ["flow"] (mSq (mDoX f_check_rests (vD (sV 0) vNil))
    (mRt (sCall f_over (vD (sCall f_minus (vD (sCall f_second (vD (sV 0) vNil)) (vD (sCall f_mean (vD (sV 0) vNil)) vNil))) (vD (sCall f_times (vD (sC (.tuple [.int 2, .int 1])) (vD (sCall f_lacking (vD (sV 0) vNil)) vNil))) vNil)))))
theorem ok_mean_standing {f : Addr} {fd : FuncData} (Fn : Fun K "mean_standing" "mean_standing" s_mean_standing f fd) (T : Txt K mg) (C_check_rests : CalleeX P w K mg base "check_rests" 6 ["flow"] (spX K mg 1 f_check_rests)) (C_over : Callee P w K mg base "over" 3 ["one", "other"] (spD K 2 f_over)) (C_times : Callee P w K mg base "times" 3 ["one", "other"] (spD K 2 f_times)) (C_lacking : Callee P w K mg base "lacking" 5 ["flow"] (spD K 1 f_lacking)) (C_minus : Callee P w K mg base "minus" 3 ["one", "other"] (spD K 2 f_minus)) (C_mean : Callee P w K mg base "mean" 4 ["flow"] (spD K 1 f_mean)) (C_second : Callee P w K mg base "second" 4 ["flow"] (spD K 1 f_second)) : FnOk P w K mg base (CXe P w) 7 f fd ["flow"] (spX K mg 1 f_mean_standing) := by
  refine defx_ok Fn sc_mean_standing fun cdv A outer s H E hr => ?_
  have hu5 : (A.deeper (PyProof.Rows.envOfC "mean_standing" (defScope s_mean_standing) s.heap.objs.size f cdv)).units + 65 < cLine := by have := hr.un; omega
  exact ⟨_, (sxs_cons (sx_do goes_of C_check_rests (hr.mono (by decide)) (av_d (ev_v 0) av_nil) (ln_d ln_nil))
      (sxs_of (ss_one (st_ret (ev_k9 C_over hr (av_d (ev_k9 C_minus hr (av_d (ev_k9 C_second hr (av_d (ev_v 0) av_nil)) (av_d (ev_k9 C_mean hr (av_d (ev_v 0) av_nil)) av_nil))) (av_d (ev_k9 C_times hr (av_d (ev_k (.tuple [.int 2, .int 1]) rfl) (av_d (ev_k9 C_lacking hr (av_d (ev_v 0) av_nil)) av_nil))) av_nil)))))))⟩
noncomputable def spFeed (K : PySem.W.Frag) : Sp := fun vs H Q _ => ∃ (a : Addr) (ns : List Int), vs = [.ref a] ∧ SqL K H a (ns.map V.int) ∧ ns.length ≤ 63 ∧
  ∀ (d c : Addr) (H' : Hp), Feeds.At d c H' (newF ns) → Same H H' → Q (.ref d) H'
theorem cut63 {ns : List Int} (h : ns.length ≤ 63) : cutV (ns.map V.int) none (some 63) = ns.map V.int := by
  unfold cutV
  have e : HT.sIx (ns.map V.int).length (ns.map V.int).length (some 63) = min 63 (ns.map V.int).length := HT.sIx_nat _ _ 63
  rw [e, HT.sIx_none, List.drop_zero, Nat.sub_zero, List.take_of_length_le (by rw [List.length_map]; omega)]
theorem sc__law_feed : FnScope ["_law_script"] ["_law_script"] (defScope s__law_feed) := ⟨rfl, rfl, rfl, by decide +kernel, rfl, by decide +kernel, by decide +kernel⟩
theorem ok__law_feed {f : Addr} {fd : FuncData} (F : Fun K "_law_feed" "_law_feed" s__law_feed f fd) : FnOk P w K mg base CX0 1 f fd ["_law_script"] (spFeed K) := by
  refine F.ok sc__law_feed (fun vs H Q E h => ?_) (fun cdv A outer s H vs Q E hr h => ?_)
  · obtain ⟨a, ns, rfl, _⟩ := h
    rfl
  · obtain ⟨a, ns, rfl, hS, hl, k⟩ := h
    refine ⟨_, pss_one (ps_ret (pe_lst (pa_cons (pe_slice sl_list (pv 0) po_none (po_some pe_int)) (pa_cons pe_int (pa_cons pe_int pa_nil))))), ?_⟩
    refine ⟨_, rfl, 63, rfl, a, _, rfl, hS, fun q hq => ⟨Nat.le_of_lt (small1000 (by show 3 ≤ 1000; decide)), fun p hp => ?_⟩⟩
    rw [cut63 hl] at hp ⊢
    have nqp : q ≠ p := ne_of_none upd_same hp
    refine k p q _ ⟨upd_same, by rw [upd_ne nqp]; exact upd_same, hl, (by show (0 : Int) ≤ 0; decide), (by show (0 : Int) ≤ 0; decide), Ne.symm nqp⟩ fun b o e => ?_
    have e1 : upd H q (.lst (ns.map V.int)) b = some o := by rw [upd_ne (ne_of_none e hq)]; exact e
    rw [upd_ne (ne_of_none e1 hp)]
    exact e1
theorem sc__law_draw : FnScope ["_law_feed_here", "_law_many", "_law_found", "_law_at", "_law_cell", "_law_first"] ["_law_feed_here", "_law_many"] (defScope s__law_draw) := ⟨rfl, rfl, rfl, by decide +kernel, rfl, by decide +kernel, by decide +kernel⟩
theorem ok__law_draw {f : Addr} {fd : FuncData} (Fn : Fun K "_law_draw" "_law_draw" s__law_draw f fd) (T : Txt K mg) : FnOk P w K mg base CX0 1 f fd ["_law_feed_here", "_law_many"] (spD K 2 drawS) := by
  refine Fn.ok sc__law_draw (fun vs H Q E h => ?_) (fun cdv A outer s H vs Q E hr h => ?_)
  · obtain ⟨G, B, F, args, d, F', hl, _⟩ := h
    exact hl
  · obtain ⟨G, B, F, args, dd, F', hl, fB, bk, fa, ha, hm0, q⟩ := h
    obtain ⟨m, rfl⟩ : ∃ m, args = [.feed, .dat (.int m)] := by
      unfold drawS at hm0
      split at hm0
      · exact ⟨_, rfl⟩
      · cases hm0
    obtain ⟨v, r, rfl, _, ⟨d, c, rfl, rfl⟩, v2, r2, rfl, _, hv2, rfl⟩ := ha
    have hv2 : v2 = .int m := by simpa only [DVr, DatIs] using hv2
    subst hv2
    obtain ⟨⟨r0, F1⟩, e1, e2⟩ := Option.bind_eq_some_iff.mp hm0
    cases e2
    replace e1 : drawL m F = some (r0, F1) := e1
    have hcond : 0 < m ∧ m < 1073741824 ∧ F.t < 199999 := by
      unfold drawL at e1
      split at e1
      · assumption
      · cases e1
    obtain ⟨hm, hm2, htl⟩ := hcond
    obtain ⟨ns, a, l, t⟩ := F
    obtain ⟨⟨hd, hc, hl63, ha0, ht0, ndc⟩, tbo⟩ := fa
    simp only at hd hc hl63 ha0 ht0 htl
    have k : ∀ (r : Int) (H' : Hp) (F2 : FdS), drawL m ⟨ns, a, l, t⟩ = some (r, F2) → Feeds.At d c H' F2 → (∀ b o, H b = some o → b ≠ d → H' b = some o) → Q (.int r) H' := fun r H' F2 er fa' kp => by
      rw [er] at e1
      cases e1
      exact q _ H' (fun b o e nb => kp b o e fun z => nb (by simp [fpOf, z])) ⟨fa', tbo.but hd ⟨fun _ z => (by cases z), fun _ z => (by cases z)⟩ kp⟩ DatIs.int
    have hdr : drawL m ⟨ns, a, l, t⟩ = some (if 0 < l then (l % m, ⟨ns, a, l / m, t + 1⟩) else if 10 ^ 18 ≤ (FdS.cellL ⟨ns, a, l, t⟩) ∧ a < ns.length then ((FdS.cellL ⟨ns, a, l, t⟩) % m, ⟨ns, a + 1, (FdS.cellL ⟨ns, a, l, t⟩) / m, t + 1⟩) else ((FdS.mixL ⟨ns, a, l, t⟩) % m, ⟨ns, a + 1, l, t + 1⟩)) := by
      unfold drawL; rw [if_pos ⟨hm, hm2, htl⟩]
    have ncd : c ≠ d := Ne.symm ndc
    refine ⟨_, pss_cons (ps_if (pt_cmpR op_gt (pe_ix ix_list (pv 0) pe_int (fun _ _ => rfl)) pe_int (nomark _))
        (pss_cons (ps_set (i := 2) sc__law_draw.nd rfl (Or.inl rfl) (pe_op op_mod (pe_ix ix_list (pv 0) pe_int (fun _ _ => rfl)) (pv 1)))
          (pss_cons (ps_asg (pe_op op_fdiv (pe_ix ix_list (pv 0) pe_int (fun _ _ => rfl)) (pv 1)) (pg_sub (pv 0) pe_int set_list (fun _ => rfl))) (pss_one (ps_ret (pv 2))))) pss_nil)
      (pss_cons (ps_set (i := 3) sc__law_draw.nd rfl (Or.inl rfl) (pe_ix ix_list (pv 0) pe_int (fun _ _ => rfl)))
      (pss_cons (ps_asg (pe_op op_add (pv 3) pe_int) (pg_sub (pv 0) pe_int set_list (fun _ => rfl)))
      (pss_cons (ps_set (i := 4) sc__law_draw.nd rfl (Or.inl rfl) (pe_ifExp (pt_cmpR op_gt (pe_callB call_len_seq (by rfl) T.len PySem.boot_len (pa_cons (pe_ix ix_list (pv 0) pe_int (fun _ _ => rfl)) pa_nil)) pe_int (nomark _))
        (pe_ix ix_list (pe_ix ix_list (pv 0) pe_int (fun _ _ => rfl)) (pe_op op_mod (pv 3) (pe_callB call_len_seq (by rfl) T.len PySem.boot_len (pa_cons (pe_ix ix_list (pv 0) pe_int (fun _ _ => rfl)) pa_nil))) (fun _ _ => rfl)) pe_int))
      (pss_cons (ps_if (PW.pt (pw_and (pt_cmpR op_ge (pv 4) (pe_op op_pow pe_int pe_int) (nomark _)) (pw_and1 (pt_cmpR op_lt (pv 3) (pe_callB call_len_seq (by rfl) T.len PySem.boot_len (pa_cons (pe_ix ix_list (pv 0) pe_int (fun _ _ => rfl)) pa_nil)) (nomark _)))))
        (pss_cons (ps_asg (pe_op op_fdiv (pv 4) (pv 1)) (pg_sub (pv 0) pe_int set_list (fun _ => rfl))) (pss_one (ps_ret (pe_op op_mod (pv 4) (pv 1))))) pss_nil)
      (pss_cons (ps_set (i := 5) sc__law_draw.nd rfl (Or.inl rfl) (pe_op op_mod (pe_op op_mul (pe_op op_add (pe_op op_add (pe_op op_add (pe_op op_mod (pv 4) pe_int) (pe_op op_mul (pe_op op_mul pe_int (pv 3)) (pv 3))) (pe_op op_mul pe_int (pv 3))) pe_int) pe_int) pe_int))
      (pss_cons (ps_set (i := 5) sc__law_draw.nd rfl (Or.inl rfl) (pe_op op_mod (pe_op op_add (pe_op op_add (pe_op op_mul (pv 5) (pv 5)) (pe_op op_mul pe_int (pv 3))) pe_int) pe_int))
      (pss_one (ps_ret (pe_op op_mod (pe_op op_fdiv (pe_op op_mod (pe_op op_mul (pv 5) pe_int) pe_int) pe_int) (pv 1)))))))))), ?_⟩
    refine ⟨_, rfl, d, _, _, _, rfl, rfl, SqL.of hd, rfl, _, _, rfl, rfl, _, rfl, ?_⟩
    refine ite2 (fun hleft => ?_) (fun hleft => ?_)
    · have hleft : 0 < l := of_decide_eq_true hleft
      refine ⟨_, rfl, d, _, _, _, rfl, rfl, SqL.of hd, rfl, _, rfl, _, _, rfl, rfl, hm, ?_⟩
      refine ⟨_, rfl, d, _, _, _, rfl, rfl, SqL.of hd, rfl, _, rfl, _, _, rfl, rfl, ⟨hm, hm2⟩, _, rfl, d, _, _, 2, rfl, rfl, hd, rfl, _, rfl, ?_⟩
      exact k _ _ ⟨ns, a, l / m, t + 1⟩ (by rw [hdr, if_pos hleft]) ⟨upd_same, by rw [upd_ne ncd]; exact hc, hl63, ha0, by simp only; omega, ndc⟩ (fun b o e hb => by rw [upd_ne hb]; exact e)
    · have hleft : ¬ 0 < l := fun z => hleft (decide_eq_true z)
      refine ⟨_, rfl, d, _, _, _, rfl, rfl, SqL.of hd, rfl, ?_⟩
      refine ⟨_, rfl, _, _, rfl, rfl, _, rfl, d, _, _, 1, rfl, rfl, hd, rfl, ?_⟩
      have hd1 : (upd H d (.lst [.ref c, .int (a + 1), .int l])) d = some (.lst [.ref c, .int (a + 1), .int l]) := upd_same
      have hc1 : (upd H d (.lst [.ref c, .int (a + 1), .int l])) c = some (.lst (ns.map V.int)) := by rw [upd_ne ncd]; exact hc
      have kp1 : ∀ b o, H b = some o → b ≠ d → (upd H d (.lst [.ref c, .int (a + 1), .int l])) b = some o := fun b o e hb => by rw [upd_ne hb]; exact e
      show tSeq _ _ _ _ (upd H d (.lst [.ref c, .int (a + 1), .int l]))
      generalize upd H d (.lst [.ref c, .int (a + 1), .int l]) = H1 at hd1 hc1 kp1
      have big : 10 ^ 18 ≤ (FdS.cellL ⟨ns, a, l, t⟩) ∧ a < ns.length → Q (.int (FdS.cellL ⟨ns, a, l, t⟩ % m)) (upd H1 d (.lst [.ref c, .int (a + 1), .int (FdS.cellL ⟨ns, a, l, t⟩ / m)])) := fun hb =>
        k _ _ ⟨ns, a + 1, FdS.cellL ⟨ns, a, l, t⟩ / m, t + 1⟩ (by rw [hdr, if_neg hleft, if_pos hb]) ⟨upd_same, by rw [upd_ne ncd]; exact hc1, hl63, by simp only; omega, by simp only; omega, ndc⟩ (fun b o e hb => by rw [upd_ne hb]; exact kp1 b o e hb)
      have small : ¬ (10 ^ 18 ≤ (FdS.cellL ⟨ns, a, l, t⟩) ∧ a < ns.length) → Q (.int (FdS.mixL ⟨ns, a, l, t⟩ % m)) H1 := fun hb =>
        k _ _ ⟨ns, a + 1, l, t + 1⟩ (by rw [hdr, if_neg hleft, if_neg hb]) ⟨hd1, hc1, hl63, by simp only; omega, by simp only; omega, ndc⟩ kp1
      unfold FdS.mixL FdS.fst at small
      simp only at small
      refine ⟨_, rfl, d, _, _, _, rfl, rfl, SqL.of hd1, rfl, c, _, rfl, .inl (SqL.of hc1), _, _, rfl, rfl, _, rfl, ?_⟩
      refine ite2 (fun hne => ?_) (fun he => ?_)
      · have hne := of_decide_eq_true hne
        rw [List.length_map] at hne
        have h0 : ¬ ns = [] := by intro e; rw [e] at hne; simp at hne
        refine ⟨_, rfl, d, _, _, _, rfl, rfl, SqL.of hd1, rfl, _, rfl, _, rfl, d, _, _, _, rfl, rfl, SqL.of hd1, rfl, c, _, rfl, .inl (SqL.of hc1), _, _, rfl, rfl, (by rw [List.length_map]; exact hne), c, _, _, _, rfl, rfl, SqL.of hc1, cellL_at (F := ⟨ns, a, l, t⟩) h0, ?_⟩
        generalize FdS.cellL ⟨ns, a, l, t⟩ = z at big small
        obtain ⟨q1, q2⟩ := mod_lt (x := (z % 1000003 + 47 * a * a + 31 * a + 907) * 40009) (m := 999961) (by decide)
        have tl : ¬ (10 ^ 18 ≤ (z : Int) ∧ a < ns.length) → Q (.int (((z % 1000003 + 47 * a * a + 31 * a + 907) * 40009 % 999961 * ((z % 1000003 + 47 * a * a + 31 * a + 907) * 40009 % 999961) + 38317 * a + 101) % 2097143 * 48271 % 2147483629 / 7 % m)) H1 := small
        refine ⟨_, rfl, _, _, rfl, rfl, ⟨by decide, by decide, by decide⟩, _, _, rfl, rfl, _, rfl, ?_⟩
        refine ite2 (fun hb1 => ⟨_, rfl, _, rfl, d, _, _, _, rfl, rfl, SqL.of hd1, rfl, c, _, rfl, .inl (SqL.of hc1), _, _, rfl, rfl, _, rfl, ite2 (fun hb2 => ?_) (fun hb2 => ?_)⟩) (fun hb1 => iteF ?_)
        · have hb1 := of_decide_eq_true hb1
          have hb2 := of_decide_eq_true hb2
          rw [List.length_map] at hb2
          exact ⟨_, rfl, _, rfl, _, _, rfl, rfl, ⟨hm, hm2⟩, _, rfl, d, _, _, 2, rfl, rfl, hd1, rfl, _, rfl, _, rfl, _, _, rfl, rfl, hm, big ⟨hb1, hb2⟩⟩
        · have hq := tl fun hb => hb2 (decide_eq_true (by rw [List.length_map]; exact hb.2))
          refine ⟨_, rfl, _, _, rfl, rfl, (by show (0 : Int) < 1000003; decide), _, rfl, _, _, rfl, rfl, .inl ⟨by decide, by decide⟩, _, rfl, _, _, rfl, rfl, .inr ⟨by omega, by omega⟩, _, _, rfl, rfl, _, rfl, _, _, rfl, rfl, .inl ⟨by decide, by decide⟩, _, _, rfl, rfl, _, _, rfl, rfl, _, _, rfl, rfl, .inr ⟨by decide, by decide⟩, _, _, rfl, rfl, (by show (0 : Int) < 999961; decide), ?_⟩
          refine ⟨_, rfl, _, rfl, _, _, rfl, rfl, .inl ⟨by omega, by omega⟩, _, rfl, _, _, rfl, rfl, .inl ⟨by decide, by decide⟩, _, _, rfl, rfl, _, _, rfl, rfl, _, _, rfl, rfl, (by show (0 : Int) < 2097143; decide), ?_⟩
          exact ⟨_, rfl, _, _, rfl, rfl, .inr ⟨by decide, by decide⟩, _, _, rfl, rfl, (by show (0 : Int) < 2147483629; decide), _, _, rfl, rfl, ⟨by decide, by decide⟩, _, rfl, _, _, rfl, rfl, hm, hq⟩
        · have hq := tl fun hb => hb1 (decide_eq_true hb.1)
          refine ⟨_, rfl, _, _, rfl, rfl, (by show (0 : Int) < 1000003; decide), _, rfl, _, _, rfl, rfl, .inl ⟨by decide, by decide⟩, _, rfl, _, _, rfl, rfl, .inr ⟨by omega, by omega⟩, _, _, rfl, rfl, _, rfl, _, _, rfl, rfl, .inl ⟨by decide, by decide⟩, _, _, rfl, rfl, _, _, rfl, rfl, _, _, rfl, rfl, .inr ⟨by decide, by decide⟩, _, _, rfl, rfl, (by show (0 : Int) < 999961; decide), ?_⟩
          refine ⟨_, rfl, _, rfl, _, _, rfl, rfl, .inl ⟨by omega, by omega⟩, _, rfl, _, _, rfl, rfl, .inl ⟨by decide, by decide⟩, _, _, rfl, rfl, _, _, rfl, rfl, _, _, rfl, rfl, (by show (0 : Int) < 2097143; decide), ?_⟩
          exact ⟨_, rfl, _, _, rfl, rfl, .inr ⟨by decide, by decide⟩, _, _, rfl, rfl, (by show (0 : Int) < 2147483629; decide), _, _, rfl, rfl, ⟨by decide, by decide⟩, _, rfl, _, _, rfl, rfl, hm, hq⟩
      · have hne : ¬ (0 : Int) < (ns.map V.int).length := fun z => he (decide_eq_true z)
        have h0 : ns = [] := by
          cases ns with
          | nil => rfl
          | cons x y => exact absurd (by simp only [List.length_map, List.length_cons]; omega) hne
        have hcell : FdS.cellL ⟨ns, a, l, t⟩ = 0 := by unfold FdS.cellL; rw [if_pos h0]
        rw [hcell] at big small
        obtain ⟨q1, q2⟩ := mod_lt (x := ((0 : Int) % 1000003 + 47 * a * a + 31 * a + 907) * 40009) (m := 999961) (by decide)
        have tl : ¬ (10 ^ 18 ≤ ((0 : Int) : Int) ∧ a < ns.length) → Q (.int ((((0 : Int) % 1000003 + 47 * a * a + 31 * a + 907) * 40009 % 999961 * (((0 : Int) % 1000003 + 47 * a * a + 31 * a + 907) * 40009 % 999961) + 38317 * a + 101) % 2097143 * 48271 % 2147483629 / 7 % m)) H1 := small
        refine ⟨_, rfl, _, _, rfl, rfl, ⟨by decide, by decide, by decide⟩, _, _, rfl, rfl, _, rfl, ?_⟩
        refine ite2 (fun hb1 => ⟨_, rfl, _, rfl, d, _, _, _, rfl, rfl, SqL.of hd1, rfl, c, _, rfl, .inl (SqL.of hc1), _, _, rfl, rfl, _, rfl, ite2 (fun hb2 => ?_) (fun hb2 => ?_)⟩) (fun hb1 => iteF ?_)
        · have hb1 := of_decide_eq_true hb1
          have hb2 := of_decide_eq_true hb2
          rw [List.length_map] at hb2
          exact ⟨_, rfl, _, rfl, _, _, rfl, rfl, ⟨hm, hm2⟩, _, rfl, d, _, _, 2, rfl, rfl, hd1, rfl, _, rfl, _, rfl, _, _, rfl, rfl, hm, big ⟨hb1, hb2⟩⟩
        · have hq := tl fun hb => hb2 (decide_eq_true (by rw [List.length_map]; exact hb.2))
          refine ⟨_, rfl, _, _, rfl, rfl, (by show (0 : Int) < 1000003; decide), _, rfl, _, _, rfl, rfl, .inl ⟨by decide, by decide⟩, _, rfl, _, _, rfl, rfl, .inr ⟨by omega, by omega⟩, _, _, rfl, rfl, _, rfl, _, _, rfl, rfl, .inl ⟨by decide, by decide⟩, _, _, rfl, rfl, _, _, rfl, rfl, _, _, rfl, rfl, .inr ⟨by decide, by decide⟩, _, _, rfl, rfl, (by show (0 : Int) < 999961; decide), ?_⟩
          refine ⟨_, rfl, _, rfl, _, _, rfl, rfl, .inl ⟨by omega, by omega⟩, _, rfl, _, _, rfl, rfl, .inl ⟨by decide, by decide⟩, _, _, rfl, rfl, _, _, rfl, rfl, _, _, rfl, rfl, (by show (0 : Int) < 2097143; decide), ?_⟩
          exact ⟨_, rfl, _, _, rfl, rfl, .inr ⟨by decide, by decide⟩, _, _, rfl, rfl, (by show (0 : Int) < 2147483629; decide), _, _, rfl, rfl, ⟨by decide, by decide⟩, _, rfl, _, _, rfl, rfl, hm, hq⟩
        · have hq := tl fun hb => hb1 (decide_eq_true hb.1)
          refine ⟨_, rfl, _, _, rfl, rfl, (by show (0 : Int) < 1000003; decide), _, rfl, _, _, rfl, rfl, .inl ⟨by decide, by decide⟩, _, rfl, _, _, rfl, rfl, .inr ⟨by omega, by omega⟩, _, _, rfl, rfl, _, rfl, _, _, rfl, rfl, .inl ⟨by decide, by decide⟩, _, _, rfl, rfl, _, _, rfl, rfl, _, _, rfl, rfl, .inr ⟨by decide, by decide⟩, _, _, rfl, rfl, (by show (0 : Int) < 999961; decide), ?_⟩
          refine ⟨_, rfl, _, rfl, _, _, rfl, rfl, .inl ⟨by omega, by omega⟩, _, rfl, _, _, rfl, rfl, .inl ⟨by decide, by decide⟩, _, _, rfl, rfl, _, _, rfl, rfl, _, _, rfl, rfl, (by show (0 : Int) < 2097143; decide), ?_⟩
          exact ⟨_, rfl, _, _, rfl, rfl, .inr ⟨by decide, by decide⟩, _, _, rfl, rfl, (by show (0 : Int) < 2147483629; decide), _, _, rfl, rfl, ⟨by decide, by decide⟩, _, rfl, _, _, rfl, rfl, hm, hq⟩
theorem sc__law_frac : FnScope ["_law_top", "_law_bottom", "_law_one", "_law_other"] ["_law_top", "_law_bottom"] (defScope s__law_frac) := ⟨rfl, rfl, rfl, by decide +kernel, rfl, by decide +kernel, by decide +kernel⟩
noncomputable abbrev f__law_frac := Bz.c_lfrac
theorem ok__law_frac {f : Addr} {fd : FuncData} (Fn : Fun K "_law_frac" "_law_frac" s__law_frac f fd) (T : Txt K mg)  : FnOk P w K mg base CX0 1 f fd ["_law_top", "_law_bottom"] (spD K 2 f__law_frac) := by
  refine def_ok Fn sc__law_frac fun cdv A outer s H E hr => ?_
  have hu5 : (A.deeper (PyProof.Rows.envOfC "_law_frac" (defScope s__law_frac) s.heap.objs.size f cdv)).units + 65 < cLine := by have := hr.un; omega
  exact ⟨_, (ss_cons (st_par 2 3 rfl sc__law_frac.nd (ea_cons (ev_callB (cd_abs) T.abs bt_abs (es_cons (eb_v 0) es_nil)) (ea_cons (ev_v 1) ea_nil)))
      (ss_cons (st_while (et_cmp od_gt (eb_v 3) (Ev.bw ev_int)) (ss_one (st_par 2 3 rfl sc__law_frac.nd (ea_cons (ev_v 3) (ea_cons (ev_op od_mod (eb_v 2) (eb_v 3)) ea_nil)))))
      (ss_one (st_ret (ev_tup (ea_cons (ev_op od_fdiv (eb_v 0) (eb_v 2)) (ea_cons (ev_op od_fdiv (eb_v 1) (eb_v 2)) ea_nil)))))))⟩
theorem sc__law_flow : FnScope ["_law_feed_here", "_law_way", "_law_many", "_law_often", "_law_lots"] ["_law_feed_here"] (defScope s__law_flow) := ⟨rfl, rfl, rfl, by decide +kernel, rfl, by decide +kernel, by decide +kernel⟩
noncomputable def f__law_flow : List DV → M PyData := runD ["_law_feed_here", "_law_way", "_law_many", "_law_often", "_law_lots"] (mSq (mSet 1 (sCall drawS (vF 0 (vD (sC (.int 5)) vNil))))
    (mSq (mSet 2 (sCall drawS (vF 0 (vD (sC (.int 9)) vNil))))
    (mSq (mIf (uB (s2 (eqD false) (sW 1) (sC (.int 0)))) (mSq (mSet 3 (s2 addD (sC (.int 1)) (sCall drawS (vF 0 (vD (sC (.int 12)) vNil)))))
    (mRt (sTup (sCons (sV 3) (sCons (sCall drawS (vF 0 (vD (sC (.int 13)) vNil))) (sCons (sV 3) sNil)))))) mNx)
    (mSq (mIf (uB (s2 (eqD false) (sW 1) (sC (.int 1)))) (mRt (sTup (sCons (sC (.int 0)) (sCons (s2 addD (sC (.int 1)) (sCall drawS (vF 0 (vD (sC (.int 12)) vNil)))) sNil)))) mNx)
    (mSq (mSet 4 (sLC (mRng1 (sCons (sV 2) sNil)) 1 [0] (bN 0) uYes (sCall drawS (vF 1 (vD (sC (.int 13)) vNil)))))
    (mSq (mIf (uB (s2 ltD (sW 1) (sC (.int 4)))) (mSet 4 (s2 addD (sC (.list [.int 12])) (sLC (mRng1 (sCons (s2 subD (sW 2) (sC (.int 1))) sNil)) 1 [0] (bN 0) uYes (sCall drawS (vF 1 (vD (sC (.int 2)) vNil)))))) mNx)
    (mRt (s2 addD (sN tupleD (sCons (sW 4) sNil)) (sTup (sCons (s2 addD (sC (.int 1)) (sCall drawS (vF 0 (vD (s2 ixD (sC (.list [.int 12, .int 2])) (sN intD (sCons (s2 (eqD false) (sW 1) (sC (.int 3))) sNil))) vNil)))) sNil))))))))))
theorem ok__law_flow {f : Addr} {fd : FuncData} (Fn : Fun K "_law_flow" "_law_flow" s__law_flow f fd) (T : Txt K mg) (C__law_draw : Callee P w K mg base "_law_draw" 1 ["_law_feed_here", "_law_many"] (spD K 2 drawS)) : FnOk P w K mg base CX0 2 f fd ["_law_feed_here"] (spD K 1 f__law_flow) := by
  refine def_ok Fn sc__law_flow fun cdv A outer s H E hr => ?_
  have hu5 : (A.deeper (PyProof.Rows.envOfC "_law_flow" (defScope s__law_flow) s.heap.objs.size f cdv)).units + 65 < cLine := by have := hr.un; omega
  exact ⟨_, (ss_cons (st_set 1 sc__law_flow.nd (ev_k9 C__law_draw hr (av_f 0 (av_d ev_int av_nil))))
      (ss_cons (st_set 2 sc__law_flow.nd (ev_k9 C__law_draw hr (av_f 0 (av_d ev_int av_nil))))
      (ss_cons (st_if (et_cmp (od_eq rfl hr.units) (eb_v 1) (Ev.bw ev_int)) (ss_cons (st_set 3 sc__law_flow.nd (ev_op (od_add rfl) (Ev.bw ev_int) (Ev.bw (ev_k9 C__law_draw hr (av_f 0 (av_d ev_int av_nil))))))
      (ss_one (st_ret (ev_tup (ea_cons (ev_v 3) (ea_cons (ev_k9 C__law_draw hr (av_f 0 (av_d ev_int av_nil))) (ea_cons (ev_v 3) ea_nil))))))) ss_nil)
      (ss_cons (st_if (et_cmp (od_eq rfl hr.units) (eb_v 1) (Ev.bw ev_int)) (ss_one (st_ret (ev_tup (ea_cons ev_int (ea_cons (ev_op (od_add rfl) (Ev.bw ev_int) (Ev.bw (ev_k9 C__law_draw hr (av_f 0 (av_d ev_int av_nil))))) ea_nil))))) ss_nil)
      (ss_cons (st_setLC 4 (hN := sc__law_flow.nd) (defScope s__law_flow) ["_law_k", "_law_feed_here"] (Ei.bw (ei_rng1 (ea_cons (ev_v 2) ea_nil) T.range)) (eg_c (i := 0)) ets_nil (ev_k9 C__law_draw hr (av_f 1 (av_d ev_int av_nil))))
      (ss_cons (st_if (et_cmp od_lt (eb_v 1) (Ev.bw ev_int)) (ss_one (st_set 4 sc__law_flow.nd (ev_op (od_add rfl) (Ev.bw (ev_k (.list [.int 12]) rfl)) (Ev.bw (ev_lc (defScope s__law_flow) ["_law_k", "_law_feed_here"] (Ei.bw (ei_rng1 (ea_cons (ev_op od_sub (eb_v 2) (Ev.bw ev_int)) ea_nil) T.range)) (eg_c (i := 0)) ets_nil (ev_k9 C__law_draw hr (av_f 1 (av_d ev_int av_nil)))))))) ss_nil)
      (ss_one (st_ret (ev_op (od_add rfl) (Ev.bw (ev_callT (cd_tuple rfl) T.tuple bt_tuple (es_cons (eb_v 4) es_nil))) (Ev.bw (ev_tup (ea_cons (ev_op (od_add rfl) (Ev.bw ev_int) (Ev.bw (ev_k9 C__law_draw hr (av_f 0 (av_d (ev_ix (id_ix rfl) (Ev.bw (ev_k (.list [.int 12, .int 2]) rfl)) (Ev.bw (ev_callT (cd_int) T.int bt_int (es_cons (Ev.bw (ev_cmp (od_eq rfl hr.units) (eb_v 1) (Ev.bw ev_int))) es_nil)))) av_nil))))) ea_nil))))))))))))⟩
theorem sc__law_due : FnScope ["_law_flow_here", "_law_w", "_law_whole", "_law_work", "_law_squares", "_law_found", "_law_word"] ["_law_flow_here", "_law_w"] (defScope s__law_due) := ⟨rfl, rfl, rfl, by decide +kernel, rfl, by decide +kernel, by decide +kernel⟩
noncomputable def f__law_due : List DV → M PyData := runD ["_law_flow_here", "_law_w", "_law_whole", "_law_work", "_law_squares", "_law_found", "_law_word"] (mSq (mSet 2 (sN sumD' (sCons (sW 0) sNil)))
    (mSq (mSet 3 (sN sumD' (sCons (sLC (mEnum (sW 0)) 2 [] (bTup 2 (bCons (bN 0) (bCons (bN 1) bNil))) uYes (s2 mulD' (sW 0) (sW 1))) sNil)))
    (mSq (mSet 4 (sN sumD' (sCons (sLC (mEnum (sW 0)) 2 [] (bTup 2 (bCons (bN 0) (bCons (bN 1) bNil))) uYes (s2 mulD' (s2 mulD' (sW 0) (sW 0)) (sW 1))) sNil)))
    (mSq (mIf (uB (s2 ltD (sW 3) (sW 2))) (mSq (mSet 5 (sLst (sCons (sCall f__law_frac (vD (s2 mulD' (sW 1) (sW 2)) (vD (s2 subD (sW 2) (sW 3)) vNil))) (sCons (sCall f__law_frac (vD (s2 subD (sW 4) (sW 3)) (vD (s2 mulD' (sC (.int 2)) (s2 subD (sW 2) (sW 3))) vNil))) sNil))))
    (mRt (sLC (mSeq (sW 5)) 1 [] (bN 0) uYes (sTup (sCons (sC (.str "told")) (sCons (sV 0) sNil)))))) mNx)
    (mSq (mSet 6 (sIf (uB (s2 gtD (sW 3) (sW 2))) (sC (.str "runs")) (sC (.str "swings"))))
    (mSq (mIf (uAnd (uB (s2 (eqD false) (sN lenD (sCons (sW 0) sNil)) (sC (.int 2)))) (uB (s2 (eqD false) (s2 ixD (sW 0) (sC (.int 0))) (sC (.int 0))))) (mSet 6 (sC (.str "still"))) mNx)
    (mRt (sLst (sCons (sTup (sCons (sC (.str "no")) (sCons (sV 6) sNil))) (sCons (sTup (sCons (sC (.str "no")) (sCons (sV 6) sNil))) sNil))))))))))
theorem ok__law_due {f : Addr} {fd : FuncData} (Fn : Fun K "_law_due" "_law_due" s__law_due f fd) (T : Txt K mg) (C__law_frac : Callee P w K mg base "_law_frac" 1 ["_law_top", "_law_bottom"] (spD K 2 f__law_frac)) : FnOk P w K mg base CX0 2 f fd ["_law_flow_here", "_law_w"] (spD K 2 f__law_due) := by
  refine def_ok Fn sc__law_due fun cdv A outer s H E hr => ?_
  have hu5 : (A.deeper (PyProof.Rows.envOfC "_law_due" (defScope s__law_due) s.heap.objs.size f cdv)).units + 65 < cLine := by have := hr.un; omega
  exact ⟨_, (ss_cons (st_set 2 sc__law_due.nd (ev_callB (cd_sum' rfl rfl) T.sum bt_sum (es_cons (eb_v 0) es_nil)))
      (ss_cons (st_set 3 sc__law_due.nd (ev_callB (cd_sum' rfl rfl) T.sum bt_sum (es_cons (Ev.bw (ev_lc (defScope s__law_due) ["_law_k", "_law_lot"] (eib_enum (eb_v 0) T.enumerate) (eg_tup (n := 2) rfl (egs_cons (eg_c (i := 0)) (egs_cons (eg_c (i := 1)) egs_nil))) ets_nil (ev_op (od_mul' rfl) (eb_v 0) (eb_v 1)))) es_nil)))
      (ss_cons (st_set 4 sc__law_due.nd (ev_callB (cd_sum' rfl rfl) T.sum bt_sum (es_cons (Ev.bw (ev_lc (defScope s__law_due) ["_law_k", "_law_lot"] (eib_enum (eb_v 0) T.enumerate) (eg_tup (n := 2) rfl (egs_cons (eg_c (i := 0)) (egs_cons (eg_c (i := 1)) egs_nil))) ets_nil (ev_op (od_mul' rfl) (Ev.bw (ev_op (od_mul' rfl) (eb_v 0) (eb_v 0))) (eb_v 1)))) es_nil)))
      (ss_cons (st_if (et_cmp od_lt (eb_v 3) (eb_v 2)) (ss_cons (st_set 5 sc__law_due.nd (ev_lst (ea_cons (ev_k9 C__law_frac hr (av_d (ev_op (od_mul' rfl) (eb_v 1) (eb_v 2)) (av_d (ev_op od_sub (eb_v 2) (eb_v 3)) av_nil))) (ea_cons (ev_k9 C__law_frac hr (av_d (ev_op od_sub (eb_v 4) (eb_v 3)) (av_d (ev_op (od_mul' rfl) (Ev.bw ev_int) (Ev.bw (ev_op od_sub (eb_v 2) (eb_v 3)))) av_nil))) ea_nil))))
      (ss_one (st_ret (ev_lc (defScope s__law_due) ["_law_one"] (eib_seq (eb_v 5)) (eg_c (i := 0)) ets_nil (ev_tup (ea_cons ev_str (ea_cons (ev_v 0) ea_nil))))))) ss_nil)
      (ss_cons (st_set 6 sc__law_due.nd (ev_if (et_cmp od_gt (eb_v 3) (eb_v 2)) ev_str ev_str))
      (ss_cons (st_if (Ew.t (ew_and (et_cmp (od_eq rfl hr.units) (Ev.bw (ev_callB (cd_len rfl) T.len bt_len (es_cons (eb_v 0) es_nil))) (Ev.bw ev_int)) (ew_and1 (et_cmp (od_eq rfl hr.units) (Ev.bw (ev_xc 0)) (Ev.bw ev_int))))) (ss_one (st_set 6 sc__law_due.nd ev_str)) ss_nil)
      (ss_one (st_ret (ev_lst (ea_cons (ev_tup (ea_cons ev_str (ea_cons (ev_v 6) ea_nil))) (ea_cons (ev_tup (ea_cons ev_str (ea_cons (ev_v 6) ea_nil))) ea_nil)))))))))))⟩
theorem sc__law_told : FnScope ["_law_ask", "_law_found", "e", "_law_strange"] ["_law_ask"] (defScope s__law_told) := ⟨rfl, rfl, rfl, by decide +kernel, rfl, by decide +kernel, by decide +kernel⟩
theorem ok__law_told {f : Addr} {fd : FuncData} (Fn : Fun K "_law_told" "_law_told" s__law_told f fd) (T : Txt K mg) : FnOk P w K mg base CX0 9 f fd ["_law_ask"] (spT P w K mg base 8 "NoRest" "told" [.inl "no", .inr "word"]) := by
  refine Fn.ok sc__law_told (fun vs H Q E h => ?_) (fun cdv A outer s H vs Q E hr h => ?_)
  · obtain ⟨_, _, _, a, _, _, _, rfl, _⟩ := h
    rfl
  obtain ⟨Wt_NoRest, Cl_NoRest, fi_NoRest, cl_NoRest, hW_NoRest, hA_NoRest, ecl_NoRest, eini_NoRest, efit_NoRest⟩ := T.err_NoRest
  obtain ⟨_, _, rfl, hA_NoRest_0, _, _, rfl, hA_NoRest_1, _, _, rfl, hA_NoRest_2, _, _, rfl, hA_NoRest_3, _, _, rfl, hA_NoRest_4, _, _, rfl, hA_NoRest_5, _, _, rfl, hA_NoRest_6, rfl⟩ := hA_NoRest
  exact ⟨_, told_pss hr efit_NoRest rfl sc__law_told.nd (by decide) (Nat.le_of_ble_eq_true rfl) (fun e C1 fs pn xe hC hh => by subst hC; exact pss_A hh T.isinstance T.ValueError efit_NoRest.mgc (pr_cons hA_NoRest_0 (pr_cons hA_NoRest_1 (pr_cons hA_NoRest_2 (pr_cons hA_NoRest_3 (pr_cons hA_NoRest_4 (pr_cons hA_NoRest_5 (pr_cons hA_NoRest_6 pr_nil))))))) (pi_str (pi_fld hh pi_nil)) sc__law_told.nd) hW_NoRest rfl rfl rfl rfl rfl rfl (by decide) (by decide) (by decide) (by decide) (by decide) rfl rfl, told_sp efit_NoRest rfl (by decide) (Nat.le_of_ble_eq_true rfl) (by decide) h⟩
theorem sc__law_right : FnScope ["_law_flow_here", "_law_w", "_law_found"] ["_law_flow_here", "_law_w"] (defScope s__law_right) := ⟨rfl, rfl, rfl, by decide +kernel, rfl, by decide +kernel, by decide +kernel⟩
noncomputable def f__law_right : List DV → M PyData := runD ["_law_flow_here", "_law_w", "_law_found"] (mSq (mOwn 2 (fLst (sCons (sTold "NoRest" "told" [.inl "no", .inr "word"] f_empty_mean [0, 1] (vD (sV 0) (vD (sV 1) vNil))) sNil)))
    (mSq (mApp 2 (sTold "NoRest" "told" [.inl "no", .inr "word"] f_mean_standing [0] (vD (sV 0) vNil)))
    (mRt (s2 (eqD false) (sN reprD (sCons (sW 2) sNil)) (sN reprD (sCons (sCall f__law_due (vD (sV 0) (vD (sV 1) vNil))) sNil))))))
theorem ok__law_right {f c P0 : Addr} {fd : FuncData} (Fn : Fun K "_law_right" "_law_right" s__law_right f fd) (T : Txt K mg) (LB : LamB K mg base "_law_right" fd c P0) (C__law_told : Callee P w K mg base "_law_told" 9 ["_law_ask"] (spT P w K mg base 8 "NoRest" "told" [.inl "no", .inr "word"])) (C_empty_mean : CalleeX P w K mg base "empty_mean" 7 ["flow", "w"] (spX K mg 2 f_empty_mean)) (C_mean_standing : CalleeX P w K mg base "mean_standing" 7 ["flow"] (spX K mg 1 f_mean_standing)) (C__law_due : Callee P w K mg base "_law_due" 2 ["_law_flow_here", "_law_w"] (spD K 2 f__law_due)) : FnOk P w K mg base CX0 10 f fd ["_law_flow_here", "_law_w"] (spD K 2 f__law_right) := by
  refine def_okL Fn sc__law_right fun cdv A outer s H E hcd hr => ?_
  obtain rfl : cdv = .ref c := hcd.symm.trans LB.code
  have hu5 : (A.deeper (PyProof.Rows.envOfC "_law_right" (defScope s__law_right) s.heap.objs.size f (.ref c))).units + 65 < cLine := by have := hr.un; omega
  exact ⟨_, (ss_cons (st_own 2 sc__law_right.nd (ef_lst (ea_cons (ev_told (osc := (defScope s__law_right)) (cap := [0, 1]) (capN := ["_law_flow_here", "_law_w"]) LB rfl C__law_told C_empty_mean (hr.mono (by decide)) rfl rfl (by decide) ⟨rfl, rfl, rfl, by decide +kernel, (fun _ h => nomatch h), List.nodup_nil, by decide +kernel⟩ (fun cl f c' A outer s H E => (av_d (ev_v 0) (av_d (ev_v 1) av_nil))) (ln_d (ln_d ln_nil)) rfl (by decide +kernel) rfl (by decide +kernel) (fun _ _ _ _ => rfl) (fun _ _ _ _ _ _ _ _ => rfl) (fun _ _ _ _ => rfl) (fun _ _ _ _ => rfl)) ea_nil)))
      (ss_cons (st_app 2 rfl (ev_told (osc := (defScope s__law_right)) (cap := [0]) (capN := ["_law_flow_here"]) LB rfl C__law_told C_mean_standing (hr.mono (by decide)) rfl rfl (by decide) ⟨rfl, rfl, rfl, by decide +kernel, (fun _ h => nomatch h), List.nodup_nil, by decide +kernel⟩ (fun cl f c' A outer s H E => (av_d (ev_v 0) av_nil)) (ln_d ln_nil) rfl (by decide +kernel) rfl (by decide +kernel) (fun _ _ _ _ => rfl) (fun _ _ _ _ _ _ _ _ => rfl) (fun _ _ _ _ => rfl) (fun _ _ _ _ => rfl)))
      (ss_one (st_ret (ev_cmp (od_eq rfl hr.units) (Ev.bw (ev_callB (cd_repr rfl hr.gd hr.units) T.repr bt_repr (es_cons (eb_v 2) es_nil))) (Ev.bw (ev_callB (cd_repr rfl hr.gd hr.units) T.repr bt_repr (es_cons (Ev.bw (ev_k9 C__law_due hr (av_d (ev_v 0) (av_d (ev_v 1) av_nil)))) es_nil))))))))⟩
end
end K59
set_option Elab.async false
set_option linter.all false
set_option maxRecDepth 100000
set_option maxHeartbeats 1000000
namespace K59
open PySem L2 L3
noncomputable section
variable {P : Program} {w : World} {K : PySem.W.Frag} {mg : Str → Option Value} {base : Heap}
theorem sc_law : FnScope ["_law_script", "_law_feed_here", "_law_k", "_law_flow_here", "_law_w"] ["_law_script"] (defScope s_law) := ⟨rfl, rfl, rfl, by decide +kernel, rfl, by decide +kernel, by decide +kernel⟩
noncomputable def forBody : Stmt → List Stmt
  | .For _ _ b _ _ => b
  | _ => []
noncomputable def m_law_1_0 : DE → M Out := (mSet 3 (sCall f__law_flow (vF 1 vNil)))
theorem ok_law_1_0 {f : Addr} {cdv : Value} {A : Around} {outer : List Env} {s : Shared} {H : Hp} {E : XK} (T : Txt K mg) (hr : Room 10 (A.deeper (PyProof.Rows.envOfC "law" (defScope s_law) s.heap.objs.size f cdv))) (hu5 : (A.deeper (PyProof.Rows.envOfC "law" (defScope s_law) s.heap.objs.size f cdv)).units + 65 < cLine) (C__law_flow : Callee P w K mg base "_law_flow" 2 ["_law_feed_here"] (spD K 1 f__law_flow)) (C__law_draw : Callee P w K mg base "_law_draw" 1 ["_law_feed_here", "_law_many"] (spD K 2 drawS)) (C__law_right : Callee P w K mg base "_law_right" 10 ["_law_flow_here", "_law_w"] (spD K 2 f__law_right)) : ∃ ts, Ss K (cxOf CX0 P w K mg base ["_law_script", "_law_feed_here", "_law_k", "_law_flow_here", "_law_w"] "law" (defScope s_law) f cdv A outer s H E).nox (nth (forBody (nth (defBody s_law) 1)) 0) ts m_law_1_0 := by
  unfold m_law_1_0
  exact ⟨_, (st_set 3 sc_law.nd (ev_k9 C__law_flow hr (av_f 1 av_nil)))⟩
noncomputable def m_law_1_1 : DE → M Out := (mSet 4 (sCall drawS (vF 1 (vD (sC (.int 17)) vNil))))
theorem ok_law_1_1 {f : Addr} {cdv : Value} {A : Around} {outer : List Env} {s : Shared} {H : Hp} {E : XK} (T : Txt K mg) (hr : Room 10 (A.deeper (PyProof.Rows.envOfC "law" (defScope s_law) s.heap.objs.size f cdv))) (hu5 : (A.deeper (PyProof.Rows.envOfC "law" (defScope s_law) s.heap.objs.size f cdv)).units + 65 < cLine) (C__law_flow : Callee P w K mg base "_law_flow" 2 ["_law_feed_here"] (spD K 1 f__law_flow)) (C__law_draw : Callee P w K mg base "_law_draw" 1 ["_law_feed_here", "_law_many"] (spD K 2 drawS)) (C__law_right : Callee P w K mg base "_law_right" 10 ["_law_flow_here", "_law_w"] (spD K 2 f__law_right)) : ∃ ts, Ss K (cxOf CX0 P w K mg base ["_law_script", "_law_feed_here", "_law_k", "_law_flow_here", "_law_w"] "law" (defScope s_law) f cdv A outer s H E).nox (nth (forBody (nth (defBody s_law) 1)) 1) ts m_law_1_1 := by
  unfold m_law_1_1
  exact ⟨_, (st_set 4 sc_law.nd (ev_k9 C__law_draw hr (av_f 1 (av_d ev_int av_nil))))⟩
noncomputable def m_law_1_2 : DE → M Out := (mIf (uOr (uNot (uT (sCall f__law_right (vD (sV 3) (vD (sV 4) vNil))))) (uOr (uNot (uT (sCall f__law_right (vD (sV 3) (vD (sC (.int 0)) vNil))))) (uNot (uT (sCall f__law_right (vD (sV 3) (vD (sV 4) vNil))))))) (mRt (sC (.bool false))) mNx)
theorem ok_law_1_2 {f : Addr} {cdv : Value} {A : Around} {outer : List Env} {s : Shared} {H : Hp} {E : XK} (T : Txt K mg) (hr : Room 10 (A.deeper (PyProof.Rows.envOfC "law" (defScope s_law) s.heap.objs.size f cdv))) (hu5 : (A.deeper (PyProof.Rows.envOfC "law" (defScope s_law) s.heap.objs.size f cdv)).units + 65 < cLine) (C__law_flow : Callee P w K mg base "_law_flow" 2 ["_law_feed_here"] (spD K 1 f__law_flow)) (C__law_draw : Callee P w K mg base "_law_draw" 1 ["_law_feed_here", "_law_many"] (spD K 2 drawS)) (C__law_right : Callee P w K mg base "_law_right" 10 ["_law_flow_here", "_law_w"] (spD K 2 f__law_right)) : ∃ ts, Ss K (cxOf CX0 P w K mg base ["_law_script", "_law_feed_here", "_law_k", "_law_flow_here", "_law_w"] "law" (defScope s_law) f cdv A outer s H E).nox (nth (forBody (nth (defBody s_law) 1)) 2) ts m_law_1_2 := by
  unfold m_law_1_2
  exact ⟨_, (st_if (Ew.t (ew_or (et_not (et_val (Ev.bw (ev_k9 C__law_right hr (av_d (ev_v 3) (av_d (ev_v 4) av_nil)))))) (ew_or (et_not (et_val (Ev.bw (ev_k9 C__law_right hr (av_d (ev_v 3) (av_d ev_int av_nil)))))) (ew_or1 (et_not (et_val (Ev.bw (ev_k9 C__law_right hr (av_d (ev_v 3) (av_d (ev_v 4) av_nil)))))))))) (ss_one (st_ret ev_bl)) ss_nil)⟩
noncomputable def m_law_1 : DE → M Out := (mFor (mRng1 (sCons (sC (.int 6)) sNil)) (bN 2) (mSq m_law_1_0 (mSq m_law_1_1 m_law_1_2)))
theorem ok_law_1 {f : Addr} {cdv : Value} {A : Around} {outer : List Env} {s : Shared} {H : Hp} {E : XK} (T : Txt K mg) (hr : Room 10 (A.deeper (PyProof.Rows.envOfC "law" (defScope s_law) s.heap.objs.size f cdv))) (hu5 : (A.deeper (PyProof.Rows.envOfC "law" (defScope s_law) s.heap.objs.size f cdv)).units + 65 < cLine) (C__law_flow : Callee P w K mg base "_law_flow" 2 ["_law_feed_here"] (spD K 1 f__law_flow)) (C__law_draw : Callee P w K mg base "_law_draw" 1 ["_law_feed_here", "_law_many"] (spD K 2 drawS)) (C__law_right : Callee P w K mg base "_law_right" 10 ["_law_flow_here", "_law_w"] (spD K 2 f__law_right)) : ∃ ts, Ss K (cxOf CX0 P w K mg base ["_law_script", "_law_feed_here", "_law_k", "_law_flow_here", "_law_w"] "law" (defScope s_law) f cdv A outer s H E).nox (nth (defBody s_law) 1) ts m_law_1 := by
  obtain ⟨t_law_1_2, h_law_1_2⟩ := ok_law_1_2 (f := f) (cdv := cdv) (A := A) (outer := outer) (s := s) (H := H) (E := E) T hr hu5 C__law_flow C__law_draw C__law_right
  obtain ⟨t_law_1_1, h_law_1_1⟩ := ok_law_1_1 (f := f) (cdv := cdv) (A := A) (outer := outer) (s := s) (H := H) (E := E) T hr hu5 C__law_flow C__law_draw C__law_right
  obtain ⟨t_law_1_0, h_law_1_0⟩ := ok_law_1_0 (f := f) (cdv := cdv) (A := A) (outer := outer) (s := s) (H := H) (E := E) T hr hu5 C__law_flow C__law_draw C__law_right
  exact ⟨_, st_for rfl (ei_rng1 (ea_cons ev_int ea_nil) T.range) (eg_n (i := 2) sc_law.nd) (ss_cons h_law_1_0 (ss_cons h_law_1_1 (ss_one h_law_1_2)))⟩
noncomputable def m_law_2 : DE → M Out := (mRt (sAnd (sCall f__law_right (vD (sC (.tuple [.int 1])) (vD (sC (.int 16)) vNil))) (sAnd (sCall f__law_right (vD (sC (.tuple [.int 0, .int 1])) (vD (sC (.int 3)) vNil))) (sAnd (sCall f__law_right (vD (sC (.tuple [.int 1, .int 0, .int 1])) (vD (sC (.int 0)) vNil))) (sCall f__law_right (vD (sC (.tuple [.int 11, .int 0, .int 1])) (vD (sC (.int 1)) vNil)))))))
theorem ok_law_2 {f : Addr} {cdv : Value} {A : Around} {outer : List Env} {s : Shared} {H : Hp} {E : XK} (T : Txt K mg) (hr : Room 10 (A.deeper (PyProof.Rows.envOfC "law" (defScope s_law) s.heap.objs.size f cdv))) (hu5 : (A.deeper (PyProof.Rows.envOfC "law" (defScope s_law) s.heap.objs.size f cdv)).units + 65 < cLine) (C__law_flow : Callee P w K mg base "_law_flow" 2 ["_law_feed_here"] (spD K 1 f__law_flow)) (C__law_draw : Callee P w K mg base "_law_draw" 1 ["_law_feed_here", "_law_many"] (spD K 2 drawS)) (C__law_right : Callee P w K mg base "_law_right" 10 ["_law_flow_here", "_law_w"] (spD K 2 f__law_right)) : ∃ ts, Ss K (cxOf CX0 P w K mg base ["_law_script", "_law_feed_here", "_law_k", "_law_flow_here", "_law_w"] "law" (defScope s_law) f cdv A outer s H E).nox (nth (defBody s_law) 2) ts m_law_2 := by
  unfold m_law_2
  exact ⟨_, (st_ret (ev_and (ev_k9 C__law_right hr (av_d (ev_k (.tuple [.int 1]) rfl) (av_d ev_int av_nil))) (ev_and (ev_k9 C__law_right hr (av_d (ev_k (.tuple [.int 0, .int 1]) rfl) (av_d ev_int av_nil))) (ev_and (ev_k9 C__law_right hr (av_d (ev_k (.tuple [.int 1, .int 0, .int 1]) rfl) (av_d ev_int av_nil))) (ev_one (ev_k9 C__law_right hr (av_d (ev_k (.tuple [.int 11, .int 0, .int 1]) rfl) (av_d ev_int av_nil))))))))⟩
noncomputable def m_law : DE → M Out := (mSq m_law_1 m_law_2)
theorem split1 {α : Type} (l : List α) (d : α) (h : 0 < l.length) : l = l.getD 0 d :: l.drop 1 := by
  cases l with
  | nil => simp at h
  | cons a r => rfl
noncomputable def spLaw (K : PySem.W.Frag) : Sp := fun vs H Q _ => ∃ (a : Addr) (ns : List Int), vs = [.ref a] ∧ SqL K H a (ns.map V.int) ∧ ns.length ≤ 63 ∧ TabsOk (tabsK Feeds.lam K) H ∧ ∀ H', Q (.bl true) H'
theorem ok_law_0 {f : Addr} {cdv : Value} {A : Around} {outer : List Env} {s : Shared} {H : Hp} {E : XK} (hr : Room 10 (A.deeper (PyProof.Rows.envOfC "law" (defScope s_law) s.heap.objs.size f cdv))) (CF : Callee P w K mg base "_law_feed" 1 ["_law_script"] (spFeed K)) :
    PS (cxOf CX0 P w K mg base ["_law_script", "_law_feed_here", "_law_k", "_law_flow_here", "_law_w"] "law" (defScope s_law) f cdv A outer s H E).nox ((defBody s_law).getD 0 (.Pass ⟨0, 0, 0, 0⟩)) (tAsg (tCall (spFeed K) [] E0 (tCons (tVar 0) tNil)) (gName 1)) :=
  ps_set (i := 1) sc_law.nd rfl (by first | exact Or.inl rfl | exact Or.inr rfl) (pe_callee CF (hr.mono (by decide)) rfl (pa_cons (pv 0) pa_nil))
theorem ok_law {f : Addr} {fd : FuncData} (Fn : Fun K "law" "law" s_law f fd) (T : Txt K mg) (CF : Callee P w K mg base "_law_feed" 1 ["_law_script"] (spFeed K)) (C__law_flow : Callee P w K mg base "_law_flow" 2 ["_law_feed_here"] (spD K 1 f__law_flow)) (C__law_draw : Callee P w K mg base "_law_draw" 1 ["_law_feed_here", "_law_many"] (spD K 2 drawS)) (C__law_right : Callee P w K mg base "_law_right" 10 ["_law_flow_here", "_law_w"] (spD K 2 f__law_right))
    (fin : ∀ ns : List Int, ns.length ≤ 63 → ∃ F', m_law ([none, some .feed] ++ List.replicate (["_law_script", "_law_feed_here", "_law_k", "_law_flow_here", "_law_w"].length - 2) none) (newF ns) = some (.rt (.bool true), F')) : FnOk P w K mg base CX0 11 f fd ["_law_script"] (spLaw K) := by
  refine Fn.ok sc_law (fun vs H Q E h => ?_) (fun cdv A outer s H vs Q E hr h => ?_)
  · obtain ⟨a, ns, rfl, _⟩ := h
    rfl
  · obtain ⟨a, ns, rfl, hS, hl, tbo, k⟩ := h
    have hu5 : (A.deeper (PyProof.Rows.envOfC "law" (defScope s_law) s.heap.objs.size f cdv)).units + 65 < cLine := by have := hr.un; omega
    obtain ⟨t_law_1, h_law_1⟩ := ok_law_1 (f := f) (cdv := cdv) (A := A) (outer := outer) (s := s) (H := H) (E := E) T hr hu5 C__law_flow C__law_draw C__law_right
    obtain ⟨t_law_2, h_law_2⟩ := ok_law_2 (f := f) (cdv := cdv) (A := A) (outer := outer) (s := s) (H := H) (E := E) T hr hu5 C__law_flow C__law_draw C__law_right
    obtain ⟨ts, hq, hk⟩ : ∃ ts, Sss K (cxOf CX0 P w K mg base ["_law_script", "_law_feed_here", "_law_k", "_law_flow_here", "_law_w"] "law" (defScope s_law) f cdv A outer s H E).nox ((defBody s_law).drop 1) ts m_law := ⟨_, (ss_cons h_law_1 (ss_one h_law_2))⟩
    have h0 := ok_law_0 (P := P) (w := w) (K := K) (mg := mg) (base := base) (f := f) (cdv := cdv) (A := A) (outer := outer) (s := s) (H := H) (E := E) hr CF
    have hsp := split1 (defBody s_law) (.Pass ⟨0, 0, 0, 0⟩) (by decide +kernel)
    generalize List.drop 1 (defBody s_law) = R at hq hsp
    generalize (defBody s_law).getD 0 (Stmt.Pass { line := 0, col := 0, endLine := 0, endCol := 0 }) = S0 at h0 hsp
    have hp := pss_cons h0 hq
    rw [← hsp] at hp
    refine ⟨_, hp, ?_⟩
    refine ⟨_, rfl, a, ns, rfl, hS, hl, fun d c H1 f1 s1 => ?_⟩
    obtain ⟨F', e⟩ := fin ns hl
    have fat : FAt K (some (d, c)) H1 (newF ns) := ⟨f1, tbo.congr fun b hb => by
      obtain ⟨o, e⟩ : ∃ o, H b = some o := by
        rcases hb with hb | ⟨φ, e⟩
        · obtain ⟨t, ht, rfl⟩ := List.mem_map.mp hb
          obtain ⟨ps, e, _⟩ := tbo t ht
          exact ⟨_, e⟩
        · exact ⟨_, e⟩
      rw [e]; exact s1 b o e⟩
    refine hk (some (d, c)) (fpOf K (some (d, c))) H1 _ (newF ns) _ H1 _ _ F' ⟨⟨fpOf K (some (d, c)), fun _ z => z, fun b hb => .inl hb, ⟨fat, fun _ z => z, fat.bok, by simp [L2.start], fun i x ei => ?_⟩⟩, fun _ z => z, Kp.refl, fun i ds b ei => ?_, fun i j ds es b ei => ?_, fun i c ps b ei => ?_⟩ e (fun v H' _ _ hv => ?_)
    · match i, ei with
      | 0, ei => cases ei
      | 1, ei => cases ei; exact ⟨.ref d, rfl, d, c, rfl, rfl⟩
      | i + 2, ei => simp only [List.cons_append, List.nil_append, List.getElem?_cons_succ, List.getElem?_replicate] at ei; split at ei <;> cases ei
    · match i, ei with
      | 0, ei => cases ei
      | 1, ei => cases ei
      | i + 2, ei => simp only [List.cons_append, List.nil_append, List.getElem?_cons_succ, List.getElem?_replicate] at ei; split at ei <;> cases ei
    · match i, ei with
      | 0, ei => cases ei
      | 1, ei => cases ei
      | i + 2, ei => simp only [List.cons_append, List.nil_append, List.getElem?_cons_succ, List.getElem?_replicate] at ei; split at ei <;> cases ei
    · match i, ei with
      | 0, ei => cases ei
      | 1, ei => cases ei
      | i + 2, ei => simp only [List.cons_append, List.nil_append, List.getElem?_cons_succ, List.getElem?_replicate] at ei; split at ei <;> cases ei
    · simp only [DatIs] at hv
      subst hv
      exact k H'
end
end K59
set_option Elab.async false
set_option linter.all false
set_option maxRecDepth 100000
set_option maxHeartbeats 2000000
namespace K59
open PySem L2 L3 Bz
theorem minus_is : f_minus = c_minus := rfl
theorem prod_is : f_times = c_times := rfl
theorem mean_is : f_mean = c_mean := rfl
theorem word_is : f_word_of = c_word_of := rfl
theorem over_is : f_over = c_over := rfl
theorem meanof_is : f_mean_of = c_mean_of := rfl
theorem lfrac_is : f__law_frac = c_lfrac := rfl
theorem r_mRaise {nm : Str} {ms : DE → M (List PyData)} {E : DE} {F : FdS} {Q : Out → FdS → Prop} (q : wp (ms E F) fun ds F1 => ds.length = (psT nm).length ∧ Q (.rt (errD nm ds)) F1) : wp (mRaise nm ms E F) Q := by
  unfold mRaise
  rw [wp_bind]
  refine wp_mono q fun ds F1 h => ?_
  rw [if_pos h.1]
  exact wp_some.mpr h.2
theorem r_mDoX {f : List DV → M PyData} {ms : DE → M (List DV)} {E : DE} {F : FdS} {Q : Out → FdS → Prop} (q : wp (ms E F) fun xs F1 => wp (f xs F1) fun d F2 => (errOf d ≠ none ∧ Q (.rt d) F2) ∨ (errOf d = none ∧ Q (.nx E) F2)) : wp (mDoX f ms E F) Q := by
  unfold mDoX
  rw [wp_bind]
  refine wp_mono q fun xs F1 h => ?_
  rw [wp_bind]
  refine wp_mono h fun d F2 h => ?_
  dsimp only
  rcases h with ⟨e1, h⟩ | ⟨e1, h⟩
  · cases e : errOf d with
    | none => exact absurd e e1
    | some z => exact wp_some.mpr h
  · rw [e1]; exact wp_some.mpr h
theorem r_told {nm0 told : Str} {its : List (Sum Str Str)} {g : List DV → M PyData} {cap : List Nat} {ms : DE → M (List DV)} {E : DE} {F : FdS} {Q : PyData → FdS → Prop} (h : (cap.all fun j => isDat E[j]?) = true)
    (q : wp (ms (cap.map fun j => (E[j]?).join) F) fun xs F1 => wp (g xs F1) fun d F2 => oB (outT nm0 told its d) fun z => Q z F2) : wp (sTold nm0 told its g cap ms E F) Q := by
  unfold sTold
  rw [if_pos h, wp_bind]
  refine wp_mono q fun xs F1 h => ?_
  rw [wp_bind]
  refine wp_mono h fun d F2 h => ?_
  obtain ⟨z, e, h⟩ := h
  dsimp only
  rw [e]
  exact wp_some.mpr h
theorem neS {a b : Str} : eqD true (.str a) (.str b) = some (.bool (!decide (a = b))) := by
  unfold eqD
  simp
theorem sz_mk {a : Int} {D : Nat} (hD : D ≠ 0) (ha : a.natAbs ≤ 1000000) (hd : D ≤ 1000000) : Sz (mkRat a D) := by
  have k1 : (1000000 : Nat) < 2 ^ 2000 := Nat.lt_of_lt_of_le (show 1000000 < 2 ^ 20 by decide) (Nat.pow_le_pow_right (by decide) (by decide))
  have q : Qb D (2 ^ 900) (mkRat a D) := Qb.of hD (by
    have h1 : (1000000 : Nat) ≤ 2 ^ 900 := Nat.le_trans (show 1000000 ≤ 2 ^ 20 by decide) (Nat.pow_le_pow_right (by decide) (by decide))
    have := Nat.mul_le_mul_left (2 ^ 900) (show 1 ≤ D by omega)
    generalize (2 : Nat) ^ 900 = A at *
    omega)
  exact q.sz hD (Nat.lt_of_le_of_lt hd (Nat.lt_of_lt_of_le (show 1000000 < 2 ^ 20 by decide) (Nat.pow_le_pow_right (by decide) (by decide)))) (Nat.pow_lt_pow_right (by decide) (by decide))
noncomputable def sqS (xs : List Int) : Int := wSum ((en 0 xs).map fun p => (p.1 * p.1, p.2))
theorem sq_b : ∀ {l : List (Int × Int)}, (∀ p ∈ l, 0 ≤ p.1 ∧ p.1 ≤ 9 ∧ 0 ≤ p.2) → 0 ≤ wSum l ∧ wSum l ≤ wSum (l.map fun p => (p.1 * p.1, p.2)) ∧ wSum (l.map fun p => (p.1 * p.1, p.2)) ≤ 81 * lSum l
  | [], _ => by simp [wSum, lSum]
  | p :: l, h => by
    obtain ⟨h1, h2, h3⟩ := sq_b (l := l) fun q hq => h q (List.mem_cons_of_mem _ hq)
    obtain ⟨p1, p2, p3⟩ := h p List.mem_cons_self
    have a1 : 0 ≤ p.1 * p.2 := Int.mul_nonneg p1 p3
    have a2 : p.1 ≤ p.1 * p.1 := by
      by_cases z : p.1 = 0
      · rw [z]; decide
      · have := Int.mul_le_mul_of_nonneg_left (show 1 ≤ p.1 by omega) p1
        omega
    have a3 : p.1 * p.1 ≤ 9 * 9 := Int.mul_le_mul p2 p2 p1 (by decide)
    have a4 := Int.mul_le_mul_of_nonneg_right a2 p3
    have a5 := Int.mul_le_mul_of_nonneg_right a3 p3
    unfold wSum lSum at *
    simp only [List.map_cons, List.sum_cons]
    simp only [List.map_map] at *
    omega
structure Fc (xs : List Int) (L : Nat) (N : Int) (T : Nat) : Prop where
  fl : Fl xs L N (T : Int)
  l9 : L ≤ 9
  t7 : T ≤ 108
section
variable {xs : List Int} {L T : Nat} {N : Int} {F : FdS} {Q : PyData → FdS → Prop}
theorem Fc.sq (h : Fc xs L N T) : 0 ≤ wSum (en 0 xs) ∧ wSum (en 0 xs) ≤ sqS xs ∧ sqS xs ≤ 81 * (T : Int) := by
  have hl := h.fl.len
  have l9 := h.l9
  have := sq_b (l := en 0 xs) fun p hp => by
    obtain ⟨i, hi⟩ := List.getElem?_of_mem hp
    obtain ⟨a, b, c⟩ := en_mem hp
    have il : i < xs.length := by rw [← en_len 0 xs]; exact (List.getElem?_eq_some_iff.mp hi).1
    exact ⟨b, by simp at c; omega, h.fl.nn _ a⟩
  rw [en_l, h.fl.s] at this
  exact this
theorem check_w (h : Fc xs L N T) (q : (wSum (en 0 xs) < (T : Int) → Q .none F) ∧ (¬ wSum (en 0 xs) < (T : Int) → Q (errD "NoRest" [.str (ans xs 1 T)]) F)) : wp (f_check_rests [.dat (fT xs)] F) Q := by
  unfold f_check_rests
  rw [word_is]
  refine r_run.mpr (w9q (r_sCall.mpr (w9v rfl (r_vD.mpr (r_sC.mpr (r_vNil.mpr ?_))))))
  refine word_w (h := 1) h.fl (by have := h.l9; omega) (by decide) ⟨lt_len rfl, sq_nx ?_⟩
  refine r_mIf.mpr (r_uB.mpr (w9s rfl (r_sC.mpr (oB_e neS (oB_e rfl ?_)))))
  have e1 : (((1 : Nat) : Int)) * (T : Int) = (T : Int) := by push_cast; omega
  by_cases hr : wSum (en 0 xs) < (T : Int)
  · have ea : ans xs 1 T = "rests" := by unfold ans; rw [e1, if_pos hr]
    rw [ea]
    exact cIf_fe (by decide) (r_mNx.mpr (run_nx (q.1 hr)))
  · have ea : ans xs 1 T ≠ "rests" := by
      unfold ans; rw [e1, if_neg hr]
      split
      · decide
      · split <;> decide
    refine cIf_te (by simpa using ea) (r_mRaise (w9c rfl (r_sNil.mpr ⟨show 1 = (psT "NoRest").length by decide, run_rt (q.2 hr)⟩)))
theorem mean_r (h : Fc xs L N T) (q : Q (qd (mkRat (wSum (en 0 xs)) T)) F) : wp (c_mean [.dat (fT xs)] F) Q := by
  have sp := h.fl.sp
  refine mean_w h.fl (by have := h.l9; omega) fun t b hb => ?_
  rw [low_qd hb (by omega), Int.toNat_natCast]
  exact q
theorem lack_w (h : Fc xs L N T) (q : Q (qd (mkRat ((T : Int) - wSum (en 0 xs)) T)) F) : wp (f_lacking [.dat (fT xs)] F) Q := by
  have sp := h.fl.sp
  have t7 := h.t7
  obtain ⟨w0, w1, w2⟩ := h.sq
  have hT0 : (T : Rat) ≠ 0 := by exact_mod_cast (show T ≠ 0 by omega)
  unfold f_lacking
  rw [minus_is, mean_is]
  refine r_run.mpr (r_mRt.mpr (w9l (r_sC.mpr (r_vD.mpr (r_sCall.mpr (w9v rfl (r_vNil.mpr ?_)))))))
  refine mean_r h ?_
  have zm : Sz (mkRat (wSum (en 0 xs)) T) := sz_mk (by omega) (by omega) (by omega)
  have z1 : Sz (1 : Rat) := ⟨by decide, by decide⟩
  refine r_vNil.mpr ?_
  show wp (c_minus [.dat (qd 1), .dat (qd (mkRat (wSum (en 0 xs)) T))] F) _
  refine minus_w z1 zm (run_rt ?_)
  have e1 : (1 : Rat) - mkRat (wSum (en 0 xs)) T = mkRat ((T : Int) - wSum (en 0 xs)) T := by
    simp only [Rat.mkRat_eq_div]
    push_cast
    simp only [Rat.div_def]
    have q1 := Rat.mul_inv_cancel _ hT0
    grind
  rw [e1]
  exact q
theorem div_T {a b : Int} (hT : T ≠ 0) : mkRat a T / mkRat b T = (a : Rat) / b := by
  have hT0 : (T : Rat) ≠ 0 := by exact_mod_cast hT
  simp only [Rat.mkRat_eq_div, Rat.div_def, Rat.inv_mul_rev, Rat.inv_inv]
  push_cast
  have q1 := Rat.mul_inv_cancel _ hT0
  grind
theorem pos_T {b : Int} (hT : 0 < T) (hb : 0 < b) : 0 < mkRat b T := by
  rw [Rat.mkRat_eq_div, Rat.div_def]
  exact Rat.mul_pos (by exact_mod_cast hb) (Rat.inv_pos.mpr (by exact_mod_cast hT))
noncomputable def emQ (xs : List Int) (T w : Nat) : Rat := mkRat ((w * T : Nat) : Int) ((T : Int) - wSum (en 0 xs)).toNat
noncomputable def msQ (xs : List Int) (T : Nat) : Rat := mkRat ((sqS xs - wSum (en 0 xs)).toNat : Nat) (2 * ((T : Int) - wSum (en 0 xs))).toNat
theorem em_w (h : Fc xs L N T) {w : Nat} (hw : w ≤ 1000) (q : (wSum (en 0 xs) < (T : Int) → Q (qd (emQ xs T w)) F) ∧ (¬ wSum (en 0 xs) < (T : Int) → Q (errD "NoRest" [.str (ans xs 1 T)]) F)) : wp (f_empty_mean [.dat (fT xs), .dat (.int (w : Nat))] F) Q := by
  have sp := h.fl.sp
  have t7 := h.t7
  obtain ⟨w0, w1, w2⟩ := h.sq
  unfold f_empty_mean
  rw [over_is]
  refine r_run.mpr (r_mSq.mpr (r_mDoX (w9v rfl (r_vNil.mpr ?_))))
  refine check_w h ⟨fun hr => .inr ⟨rfl, sq_nx ?_⟩, fun hr => .inl ⟨by simp [errD, errOf], sq_rt (run_rt (q.2 hr))⟩⟩
  refine r_mRt.mpr (w9l (r_sTup.mpr (w9c rfl (r_sCons.mpr (r_sC.mpr (r_sNil.mpr ⟨le_size rfl, r_vD.mpr (r_sCall.mpr (w9v rfl (r_vNil.mpr ?_)))⟩))))))
  refine lack_w h (r_vNil.mpr ?_)
  have ew : (PyData.tuple [.int (w : Nat), .int 1]) = qd ((w : Nat) : Rat) := by
    unfold qd
    simp
  rw [ew]
  have zw : Sz ((w : Nat) : Rat) := ⟨by
    rw [Rat.num_natCast, Int.natAbs_natCast]
    exact Nat.lt_of_le_of_lt hw (Nat.lt_of_lt_of_le (show 1000 < 2 ^ 10 by decide) (Nat.pow_le_pow_right (by decide) (by decide))), by
    rw [Rat.den_natCast]
    exact Nat.one_lt_two_pow (by decide)⟩
  refine over_w zw (sz_mk (by omega) (by omega) (by omega)) (pos_T (by omega) (by omega)) (run_rt ?_)
  have e : ((w : Nat) : Rat) / mkRat ((T : Int) - wSum (en 0 xs)) T = emQ xs T w := by
    have hT0 : (T : Rat) ≠ 0 := by exact_mod_cast (show T ≠ 0 by omega)
    have e1 : ((w : Nat) : Rat) = mkRat ((w * T : Nat) : Int) T := by
      rw [Rat.mkRat_eq_div]
      push_cast
      simp only [Rat.div_def]
      have q1 := Rat.mul_inv_cancel _ hT0
      grind
    rw [e1, div_T (by omega)]
    unfold emQ
    rw [Rat.mkRat_eq_div]
    congr 1
    have : (((((T : Int) - wSum (en 0 xs)).toNat : Nat) : Int)) = (T : Int) - wSum (en 0 xs) := by omega
    rw [← this]
    rfl
  rw [e]
  exact q.1 hr
theorem second_w (h : Fc xs L N T) (q : Q (qd (mkRat (sqS xs) T)) F) : wp (f_second [.dat (fT xs)] F) Q := by
  have hl := h.fl.len
  have l9 := h.l9
  have es : lSum ((en 0 xs).map fun p => (p.1 * p.1, p.2)) = (T : Int) := by
    have := en_l 0 xs
    unfold lSum at *
    rw [List.map_map]
    rw [h.fl.s] at this
    exact this
  unfold f_second
  rw [meanof_is]
  refine r_run.mpr (r_mRt.mpr (w9l (r_sLC.mpr (enum_w (w9w rfl (oB_e e_seqT ⟨sz (by rw [enumL_len, List.length_map]; omega), ?_⟩))))))
  rw [en_enumL]
  refine lc_map2 (f := fun p => pr (p.1 * p.1, p.2)) (en 0 xs) none none F (fun p hp F Q q => ?_) ?_
  · have := h.fl.big (by omega) p hp
    exact r_sTup.mpr (r_sCons.mpr (w9s rfl (w9w rfl (oB_e (mul_b this.1 this.1) (w9c rfl (r_sNil.mpr ⟨le_size rfl, q⟩))))))
  · refine r_vNil.mpr ?_
    have e : ((en 0 xs).map fun p => pr (p.1 * p.1, p.2)) = ((en 0 xs).map fun p => (p.1 * p.1, p.2)).map pr := by rw [List.map_map]; rfl
    rw [e]
    have sp := h.fl.sp
    refine meanof_w (by rw [List.length_map, en_len]; omega) (fun p hp => ?_) (by rw [es]; exact h.fl.sp) (by rw [es]; exact h.fl.s9) ?_
    · obtain ⟨p, hq, rfl⟩ := List.mem_map.mp hp
      clear hp
      have hp := hq
      obtain ⟨a, b, c⟩ := en_mem hp
      have hm : p.1 * p.1 ≤ 1000 * 1000 := Int.mul_le_mul (by omega) (by omega) b (by decide)
      exact ⟨lt_big (Int.mul_nonneg b b) (by have := bB_pos; omega), (h.fl.big (by omega) p hp).2⟩
    · rw [es]
      intro t b hb
      rw [low_qd hb (by omega), Int.toNat_natCast]
      exact run_rt q
theorem ms_w (h : Fc xs L N T) (q : (wSum (en 0 xs) < (T : Int) → Q (qd (msQ xs T)) F) ∧ (¬ wSum (en 0 xs) < (T : Int) → Q (errD "NoRest" [.str (ans xs 1 T)]) F)) : wp (f_mean_standing [.dat (fT xs)] F) Q := by
  have sp := h.fl.sp
  have t7 := h.t7
  obtain ⟨w0, w1, w2⟩ := h.sq
  have hT0 : (T : Rat) ≠ 0 := by exact_mod_cast (show T ≠ 0 by omega)
  unfold f_mean_standing
  rw [over_is, minus_is, mean_is, prod_is]
  refine r_run.mpr (r_mSq.mpr (r_mDoX (w9v rfl (r_vNil.mpr ?_))))
  refine check_w h ⟨fun hr => .inr ⟨rfl, sq_nx ?_⟩, fun hr => .inl ⟨by simp [errD, errOf], sq_rt (run_rt (q.2 hr))⟩⟩
  refine r_mRt.mpr (w9l (w9l (r_sCall.mpr (w9v rfl (r_vNil.mpr ?_)))))
  refine second_w h (r_vD.mpr (r_sCall.mpr (w9v rfl (r_vNil.mpr ?_))))
  refine mean_r h ?_
  have z1 : Sz (mkRat (sqS xs) T) := sz_mk (by omega) (by omega) (by omega)
  have z2 : Sz (mkRat (wSum (en 0 xs)) T) := sz_mk (by omega) (by omega) (by omega)
  refine r_vNil.mpr (minus_w z1 z2 ?_)
  have ed : mkRat (sqS xs) T - mkRat (wSum (en 0 xs)) T = mkRat (sqS xs - wSum (en 0 xs)) T := by
    simp only [Rat.mkRat_eq_div]
    push_cast
    simp only [Rat.div_def]
    grind
  rw [ed]
  refine r_vD.mpr (w9l (r_sC.mpr (r_vD.mpr (r_sCall.mpr (w9v rfl (r_vNil.mpr ?_))))))
  refine lack_w h (r_vNil.mpr ?_)
  have z3 : Sz (mkRat ((T : Int) - wSum (en 0 xs)) T) := sz_mk (by omega) (by omega) (by omega)
  have z4 : Sz (2 : Rat) := ⟨by decide, by decide⟩
  show wp (c_times [.dat (qd 2), .dat (qd (mkRat ((T : Int) - wSum (en 0 xs)) T))] F) _
  refine prod_w z4 z3 (r_vNil.mpr ?_)
  have e5 : (2 : Rat) * mkRat ((T : Int) - wSum (en 0 xs)) T = mkRat (2 * ((T : Int) - wSum (en 0 xs))) T := by
    simp only [Rat.mkRat_eq_div]
    push_cast
    simp only [Rat.div_def]
    grind
  rw [e5]
  refine over_w (sz_mk (by omega) (by omega) (by omega)) (sz_mk (by omega) (by omega) (by omega)) (pos_T (by omega) (by omega)) (run_rt ?_)
  have e6 : mkRat (sqS xs - wSum (en 0 xs)) T / mkRat (2 * ((T : Int) - wSum (en 0 xs))) T = msQ xs T := by
    rw [div_T (by omega)]
    unfold msQ
    rw [Rat.mkRat_eq_div]
    have a1 : ((((sqS xs - wSum (en 0 xs)).toNat : Nat) : Int)) = sqS xs - wSum (en 0 xs) := by omega
    have a2 : ((((2 * ((T : Int) - wSum (en 0 xs))).toNat : Nat) : Int)) = 2 * ((T : Int) - wSum (en 0 xs)) := by omega
    rw [a1]
    congr 1
    rw [← a2]
    rfl
  rw [e6]
  exact q.1 hr
end
end K59
set_option Elab.async false
set_option linter.all false
set_option maxRecDepth 100000
set_option maxHeartbeats 2000000
namespace K59
open PySem L2 L3 Bz
theorem num_le (a : Int) {D : Nat} (hD : D ≠ 0) : (mkRat a D).num.natAbs ≤ a.natAbs := by
  rw [← Rat.normalize_eq_mkRat hD, Rat.normalize_eq]
  exact Int.natAbs_ediv_le_natAbs ..
theorem qd_gd {a : Int} {D : Nat} (hD : D ≠ 0) (ha : a.natAbs ≤ 1000000) (hd : D ≤ 1000000) : Gd 0 3 1 (qd (mkRat a D)) := by
  have h1 := num_le a hD
  have h2 := Nat.le_of_dvd (Nat.pos_of_ne_zero hD) (den_mkRat a hD).1
  refine Gd.tup (M := 1) (k := 0) (fun d hd => ?_) (by simp [cntL, cnt])
  simp only [List.mem_cons, List.not_mem_nil, or_false] at hd
  rcases hd with rfl | rfl
  · exact gd_int (small_int (by omega))
  · exact gd_int (small_int (by rw [Int.natAbs_natCast]; omega))
theorem pair_gd {x : Str} {d : PyData} (hx : gdb 1 0 (.str x) = true) (h : Gd 0 3 1 d) : Gd 0 5 2 (.tuple [.str x, d]) := by
  refine Gd.tup (M := 3) (k := 1) (fun e he => ?_) (by have := h.ct; have := (gdb_gd (n := 0) hx).ct; simp only [cntL]; omega)
  simp only [List.mem_cons, List.not_mem_nil, or_false] at he
  rcases he with rfl | rfl
  · exact (gdb_gd hx).mono (.inr (Nat.le_refl _)) (by decide) (by decide)
  · exact h
theorem two_rep {d e : PyData} (hd : Gd 0 5 2 d) (he : Gd 0 5 2 e) : reprOk (.list [d, e]) = true := by
  have : Gd 0 11 3 (.list [d, e]) := Gd.lst (M := 5) (k := 2) (fun x hx => by
    simp only [List.mem_cons, List.not_mem_nil, or_false] at hx
    rcases hx with rfl | rfl
    · exact hd
    · exact he) (by have := hd.ct; have := he.ct; simp only [cntL]; omega)
  exact this.repr (by decide) (by decide) (by decide)
section
variable {xs : List Int} {L T : Nat} {N : Int} {F : FdS} {Q : PyData → FdS → Prop}
theorem last_pos (h : Fl xs L N (T : Int)) : ∃ y, xs[L - 1]? = some y ∧ 1 ≤ y := by
  have hl := h.len
  have o := h.one
  have := fl_drop h (k := L - 1) (by omega)
  have hk : L - 1 < xs.length := by omega
  rw [List.drop_eq_getElem_cons hk, show L - 1 + 1 = xs.length by omega, List.drop_length] at this
  simp only [val, Int.mul_zero, Int.add_zero] at this
  exact ⟨_, List.getElem?_eq_getElem hk, by omega⟩
theorem still_iff (h : Fc xs L N T) (hw : ¬ wSum (en 0 xs) < (T : Int)) : (xs.length = 2 ∧ xs.getD 0 0 = 0) ↔ (¬ (T : Int) < wSum (en 0 xs) ∧ xs.getD 1 0 = T) := by
  have hs := h.fl.s
  constructor
  · rintro ⟨h1, h2⟩
    match xs, h1 with
    | [a, b], _ =>
      have h2 : a = 0 := h2
      subst h2
      have hs : 0 + (b + 0) = (T : Int) := by simpa using hs
      refine ⟨?_, by show b = T; omega⟩
      show ¬ (T : Int) < ((en 0 [0, b]).map fun p => p.1 * p.2).sum
      simp [en]
      omega
  · rintro ⟨h1, h2⟩
    obtain ⟨y, hy, y1⟩ := last_pos h.fl
    have o := h.fl.one
    have hl := h.fl.len
    have zero : ∀ k, k ≠ 1 → xs.getD k 0 = 0 := fun k hk => by
      have := sum_two h.fl.nn hk
      have := getD_nn h.fl.nn k
      rw [hs, h2] at *
      omega
    have hL2 : L = 2 := by
      by_cases e : L - 1 = 1
      · omega
      · have := zero (L - 1) e
        rw [List.getD_eq_getElem?_getD, hy] at this
        have : y = 0 := this
        omega
    exact ⟨by omega, zero 0 (by decide)⟩
noncomputable def dueD (xs : List Int) (T w : Nat) : PyData := if wSum (en 0 xs) < (T : Int) then .list [.tuple [.str "told", qd (emQ xs T w)], .tuple [.str "told", qd (msQ xs T)]] else .list [.tuple [.str "no", .str (ans xs 1 T)], .tuple [.str "no", .str (ans xs 1 T)]]
theorem due_w (h : Fc xs L N T) {w : Nat} (hw : w ≤ 1000) (q : Q (dueD xs T w) F) : wp (f__law_due [.dat (fT xs), .dat (.int (w : Nat))] F) Q := by
  have sp := h.fl.sp
  have t7 := h.t7
  have l9 := h.l9
  have hl := h.fl.len
  have o1 := h.fl.one
  obtain ⟨w0, w1, w2⟩ := h.sq
  have big := h.fl.big (by omega)
  unfold f__law_due
  rw [lfrac_is]
  refine r_run.mpr (w9q (r_sN.mpr (r_sCons.mpr (w9w rfl (r_sNil.mpr (oB_e sumT_e ⟨lt_len rfl, sq_nx ?_⟩))))))
  rw [h.fl.s]
  refine w9q (r_sN.mpr (r_sCons.mpr (r_sLC.mpr (enum_w (w9w rfl (oB_e e_seqT ⟨sz (by rw [enumL_len, List.length_map]; omega), ?_⟩))))))
  rw [en_enumL]
  refine lc_map2 (f := fun p => .int (p.1 * p.2)) (en 0 xs) none none F (fun p hp F Q q => w9s rfl (w9w rfl (oB_e (mul_b (big p hp).1 (big p hp).2) q))) ?_
  have e1 : ((en 0 xs).map fun p => PyData.int (p.1 * p.2)) = ((en 0 xs).map fun p => p.1 * p.2).map .int := by rw [List.map_map]; rfl
  rw [e1]
  refine r_sNil.mpr (oB_e sumL_e ⟨lt_len rfl, sq_nx ?_⟩)
  rw [show ((en 0 xs).map fun p => p.1 * p.2).sum = wSum (en 0 xs) from rfl]
  refine w9q (r_sN.mpr (r_sCons.mpr (r_sLC.mpr (enum_w (w9w rfl (oB_e e_seqT ⟨sz (by rw [enumL_len, List.length_map]; omega), ?_⟩))))))
  rw [en_enumL]
  refine lc_map2 (f := fun p => .int (p.1 * p.1 * p.2)) (en 0 xs) none none F (fun p hp F Q q => ?_) ?_
  · obtain ⟨a, b, c⟩ := en_mem hp
    have hm : p.1 * p.1 ≤ 1000 * 1000 := Int.mul_le_mul (by omega) (by omega) b (by decide)
    exact r_s2.mpr (w9s rfl (w9w rfl (oB_e (mul_b (big p hp).1 (big p hp).1) (w9w rfl (oB_e (mul_b (lt_big (Int.mul_nonneg b b) (by have := bB_pos; omega)) (big p hp).2) q)))))
  have e2 : ((en 0 xs).map fun p => PyData.int (p.1 * p.1 * p.2)) = ((en 0 xs).map fun p => p.1 * p.1 * p.2).map .int := by rw [List.map_map]; rfl
  rw [e2]
  refine r_sNil.mpr (oB_e sumL_e ⟨lt_len rfl, sq_nx ?_⟩)
  have e3 : ((en 0 xs).map fun p => p.1 * p.1 * p.2).sum = sqS xs := by
    unfold sqS wSum
    rw [List.map_map]
    rfl
  rw [e3]
  refine w9i (r_uB.mpr (w9s rfl (w9w rfl (oB_e e_ltI (oB_e rfl ?_)))))
  by_cases hr : wSum (en 0 xs) < (T : Int)
  · refine cIf_te (decide_eq_true hr) (w9q (r_sLst.mpr (r_sCons.mpr (w9l (w9s rfl (w9w rfl (oB_e (mul_b (lt_big (by omega) (by have := bB_pos; omega)) (lt_big (by omega) (by have := bB_pos; omega))) (r_vD.mpr (w9s rfl (w9w rfl (oB_e e_subI (r_vNil.mpr ?_))))))))))))
    rw [show ((w : Nat) : Int) * ((T : Nat) : Int) = ((w * T : Nat) : Int) from (Int.natCast_mul w T).symm, show ((T : Nat) : Int) - wSum (en 0 xs) = ((((T : Int) - wSum (en 0 xs)).toNat : Nat) : Int) by omega]
    refine lfrac_w (by omega) (Nat.lt_of_le_of_lt (show _ ≤ 1000 by omega) (Nat.lt_of_lt_of_le (show 1000 < 2 ^ 10 by decide) (Nat.pow_le_pow_right (by decide) (by decide)))) ?_
    refine r_sCons.mpr (w9l (w9s rfl (w9w rfl (oB_e e_subI (r_vD.mpr (r_s2.mpr (r_sC.mpr (w9s rfl (w9w rfl (oB_e e_subI (oB_e (mul_b (lt_big (by decide) (by have := bB_pos; omega)) (lt_big (by omega) (by have := bB_pos; omega))) (r_vNil.mpr ?_))))))))))))
    rw [show sqS xs - wSum (en 0 xs) = (((sqS xs - wSum (en 0 xs)).toNat : Nat) : Int) by omega, show 2 * (((T : Nat) : Int) - wSum (en 0 xs)) = (((2 * ((T : Int) - wSum (en 0 xs))).toNat : Nat) : Int) by omega]
    refine lfrac_w (by omega) (Nat.lt_of_le_of_lt (show _ ≤ 1000 by omega) (Nat.lt_of_lt_of_le (show 1000 < 2 ^ 10 by decide) (Nat.pow_le_pow_right (by decide) (by decide)))) ?_
    refine r_sNil.mpr ⟨le_size rfl, lt_len rfl, sq_nx (r_mRt.mpr (r_sLC.mpr (r_mSeq.mpr (w9w rfl (oB_e e_seqL ⟨le_size rfl, ?_⟩)))))⟩
    refine lc_map (f := fun d => .tuple [.str "told", d]) _ _ (fun d hd F Q q => r_sTup.mpr (r_sCons.mpr (r_sC.mpr (w9c rfl (r_sNil.mpr ⟨le_size rfl, q⟩))))) (sq_rt (run_rt ?_))
    unfold dueD at q
    rw [if_pos hr] at q
    exact q
  · refine cIf_fe (decide_eq_false hr) (r_mNx.mpr (sq_nx ?_))
    refine w9q (r_sIf.mpr (r_uB.mpr (w9s rfl (w9w rfl (oB_e e_gtI (oB_e rfl ?_))))))
    have rest : ∀ {w1 : Str} {F : FdS}, (w1 = if (T : Int) < wSum (en 0 xs) then "runs" else "swings") → Q (dueD xs T w) F → wp (mSq (mIf (uAnd (uB (s2 (eqD false) (sN lenD (sCons (sW 0) sNil)) (sC (.int 2)))) (uB (s2 (eqD false) (s2 ixD (sW 0) (sC (.int 0))) (sC (.int 0))))) (mSet 6 (sC (.str "still"))) mNx)
        (mRt (sLst (sCons (sTup (sCons (sC (.str "no")) (sCons (sV 6) sNil))) (sCons (sTup (sCons (sC (.str "no")) (sCons (sV 6) sNil))) sNil)))) [some (.dat (fT xs)), some (.dat (.int (w : Nat))), some (.dat (.int (T : Nat))), some (.dat (.int (wSum (en 0 xs)))), some (.dat (.int (sqS xs))), none, some (.dat (.str w1))] F) (runK Q) := by
      intro w1 F hw1 q
      have fin : ∀ {w2 : Str}, w2 = ans xs 1 T → wp (mRt (sLst (sCons (sTup (sCons (sC (.str "no")) (sCons (sV 6) sNil))) (sCons (sTup (sCons (sC (.str "no")) (sCons (sV 6) sNil))) sNil))) [some (.dat (fT xs)), some (.dat (.int (w : Nat))), some (.dat (.int (T : Nat))), some (.dat (.int (wSum (en 0 xs)))), some (.dat (.int (sqS xs))), none, some (.dat (.str w2))] F) (runK Q) := by
        intro w2 h2
        refine r_mRt.mpr (r_sLst.mpr (r_sCons.mpr (r_sTup.mpr (r_sCons.mpr (r_sC.mpr (w9c rfl (r_sNil.mpr ⟨le_size rfl, ?_⟩)))))))
        refine r_sCons.mpr (r_sTup.mpr (r_sCons.mpr (r_sC.mpr (w9c rfl (r_sNil.mpr ⟨le_size rfl, r_sNil.mpr ⟨le_size rfl, run_rt ?_⟩⟩)))))
        unfold dueD at q
        rw [if_neg hr] at q
        rw [h2]
        exact q
      have e1 : (((1 : Nat) : Int)) * (T : Int) = (T : Int) := by push_cast; omega
      have st := still_iff h hr
      have i0 : ixD (fT xs) (.int 0) = some (.int (xs.getD 0 0)) := by
        show atI (xs.map PyData.int) ((0 : Nat) : Int) = _
        refine atI_nat ?_
        rw [List.getElem?_map, List.getD_eq_getElem?_getD]
        cases xs with
        | nil => simp at hl; omega
        | cons a r => rfl
      refine w9i (r_uAnd.mpr (r_uB.mpr (r_s2.mpr (r_sN.mpr (r_sCons.mpr (w9w rfl (r_sNil.mpr (oB_e e_lenT (r_sC.mpr (oB_e eq_i (oB_e rfl ?_)))))))))))
      by_cases h2 : xs.length = 2
      · refine cIf_te (decide_eq_true (by rw [List.length_map]; omega)) (r_uB.mpr (r_s2.mpr (w9s rfl (r_sC.mpr (oB_e i0 (r_sC.mpr (oB_e eq_i (oB_e rfl ?_))))))))
        by_cases h0 : xs.getD 0 0 = 0
        · refine cIf_te (decide_eq_true h0) (r_mSet.mpr (r_sC.mpr ⟨lt_len rfl, sq_nx (fin ?_)⟩))
          obtain ⟨k1, k2⟩ := st.mp ⟨h2, h0⟩
          unfold ans
          rw [e1, if_neg hr, if_neg k1, if_pos k2]
        · refine cIf_fe (decide_eq_false h0) (r_mNx.mpr (sq_nx (fin ?_)))
          rw [hw1]
          unfold ans
          rw [e1, if_neg hr]
          by_cases k : (T : Int) < wSum (en 0 xs)
          · rw [if_pos k, if_pos k]
          · rw [if_neg k, if_neg k, if_neg fun z => h0 (st.mpr ⟨k, z⟩).2]
      · refine cIf_fe (decide_eq_false (by rw [List.length_map]; omega)) (cIf_fe rfl (r_mNx.mpr (sq_nx (fin ?_))))
        rw [hw1]
        unfold ans
        rw [e1, if_neg hr]
        by_cases k : (T : Int) < wSum (en 0 xs)
        · rw [if_pos k, if_pos k]
        · rw [if_neg k, if_neg k, if_neg fun z => h2 (st.mpr ⟨k, z⟩).1]
    refine cIf_2 (fun k => r_sC.mpr ⟨lt_len rfl, sq_nx ?_⟩) fun k => r_sC.mpr ⟨lt_len rfl, sq_nx ?_⟩
    · exact rest (by rw [if_pos (of_decide_eq_true k)]) q
    · exact rest (by rw [if_neg (of_decide_eq_false k)]) q
theorem right_w (h : Fc xs L N T) {w : Nat} (hw : w ≤ 1000) (q : Q (.bool true) F) : wp (f__law_right [.dat (fT xs), .dat (.int (w : Nat))] F) Q := by
  have sp := h.fl.sp
  have t7 := h.t7
  obtain ⟨w0, w1, w2⟩ := h.sq
  have key : ∀ (d1 d2 : PyData), dueD xs T w = .list [d1, d2] → Gd 0 5 2 d1 → Gd 0 5 2 d2 → (∀ F Q, Q d1 F → wp (sTold "NoRest" "told" [.inl "no", .inr "word"] f_empty_mean [0, 1] (vD (sV 0) (vD (sV 1) vNil)) [some (.dat (fT xs)), some (.dat (.int (w : Nat))), none] F) Q) →
      (∀ F Q, Q d2 F → wp (sTold "NoRest" "told" [.inl "no", .inr "word"] f_mean_standing [0] (vD (sV 0) vNil) [some (.dat (fT xs)), some (.dat (.int (w : Nat))), some (.own [d1])] F) Q) → wp (f__law_right [.dat (fT xs), .dat (.int (w : Nat))] F) Q := by
    intro d1 d2 e g1 g2 t1 t2
    have rE := rep_e (two_rep g1 g2)
    unfold f__law_right
    refine r_run.mpr (r_mSq.mpr (r_mOwn.mpr (r_fLst.mpr (r_sCons.mpr (t1 _ _ (r_sNil.mpr ⟨le_size rfl, lt_len rfl, sq_nx ?_⟩))))))
    refine r_mSq.mpr (app_w (ds := [d1]) rfl (by show 1 ≤ 100000; decide) (t2 _ _ (sq_nx ?_)))
    refine r_mRt.mpr (r_s2.mpr (r_sN.mpr (r_sCons.mpr (r_sW.mpr (gW_eo rfl (r_sNil.mpr (oB_e rE (r_sN.mpr (r_sCons.mpr (r_sCall.mpr (w9v rfl (w9v rfl (r_vNil.mpr ?_)))))))))))))
    refine due_w h hw ?_
    rw [e]
    refine r_sNil.mpr (oB_e rE (oB_e (z := .bool true) ?_ (run_rt q)))
    show some (PyData.bool (if false = true then _ else decide _)) = _
    rw [if_neg (by decide), decide_eq_true rfl]
  by_cases hr : wSum (en 0 xs) < (T : Int)
  · have g1 : Gd 0 5 2 (.tuple [.str "told", qd (emQ xs T w)]) := pair_gd (by decide +kernel) (qd_gd (by omega) (by
      have := Nat.mul_le_mul hw t7
      rw [Int.natAbs_natCast]
      omega) (by omega))
    have g2 : Gd 0 5 2 (.tuple [.str "told", qd (msQ xs T)]) := pair_gd (by decide +kernel) (qd_gd (by omega) (by omega) (by omega))
    refine key _ _ (by unfold dueD; rw [if_pos hr]) g1 g2 (fun F Q q => ?_) fun F Q q => ?_
    · refine r_told rfl (w9v rfl (w9v rfl (r_vNil.mpr ?_)))
      exact em_w h hw ⟨fun _ => oB_e rfl q, fun z => absurd hr z⟩
    · refine r_told rfl (w9v rfl (r_vNil.mpr ?_))
      exact ms_w h ⟨fun _ => oB_e rfl q, fun z => absurd hr z⟩
  · have ga : gdb 1 0 (.str (ans xs 1 T)) = true := by
      unfold ans
      split
      · decide +kernel
      · split
        · decide +kernel
        · split <;> decide +kernel
    have g2 : Gd 0 5 2 (.tuple [.str "no", .str (ans xs 1 T)]) := pair_gd (by decide +kernel) ((gdb_gd ga).mono (.inr (Nat.le_refl _)) (by decide) (by decide))
    refine key _ _ (by unfold dueD; rw [if_neg hr]) g2 g2 (fun F Q q => ?_) fun F Q q => ?_
    · refine r_told rfl (w9v rfl (w9v rfl (r_vNil.mpr ?_)))
      exact em_w h hw ⟨fun z => absurd z hr, fun _ => oB_e rfl q⟩
    · refine r_told rfl (w9v rfl (r_vNil.mpr ?_))
      exact ms_w h ⟨fun z => absurd z hr, fun _ => oB_e rfl q⟩
end
end K59
set_option Elab.async false
set_option linter.all false
set_option maxRecDepth 100000
set_option maxHeartbeats 2000000
namespace K59
open PySem L2 L3 Bz
noncomputable def Fw (d : PyData) : Prop := ∃ (xs : List Int) (L : Nat) (N : Int) (T : Nat), d = fT xs ∧ Fc xs L N T
theorem sm_le : ∀ {xs : List Int}, Sm12 xs → 0 ≤ xs.sum ∧ xs.sum ≤ 12 * xs.length
  | [], _ => by simp
  | x :: xs, h => by
    obtain ⟨h1, h2⟩ := sm_le (xs := xs) fun y hy => h y (List.mem_cons_of_mem _ hy)
    have := h x List.mem_cons_self
    rw [List.sum_cons, List.length_cons]
    push_cast
    omega
theorem fw_of {xs : List Int} {y : Int} (h : Sm12 xs) (h0 : 1 ≤ y) (h1 : y ≤ 12) (hl : xs.length ≤ 8) : Fw (fT (xs ++ [y])) := by
  have hb := bB_pos
  have hs := sm_le h
  refine ⟨xs ++ [y], xs.length + 1, val bB (xs ++ [y]), (xs.sum + y).toNat, rfl, ⟨⟨by simp, by omega, fun x hx => ?_, rfl, by simp; omega, ?_, by omega, by omega⟩, by omega, by omega⟩⟩
  · rcases List.mem_append.mp hx with hx | hx
    · exact (h x hx).1
    · rw [List.mem_singleton.mp hx]; omega
  · rw [val_append, Nat.add_sub_cancel]
    have v0 := (val_bound (B := bB) (by omega) xs fun x hx => ⟨(h x hx).1, by have := (h x hx).2; omega⟩).1
    simp only [val]
    have p : (0 : Int) ≤ bB ^ xs.length := Int.le_of_lt (Int.pow_pos (by omega))
    have := Int.mul_le_mul_of_nonneg_left h0 p
    rw [Int.mul_zero, Int.add_zero]
    omega
theorem draws_w {F : FdS} {Q : List PyData → FdS → Prop} {o : Option DV} {m : Int} {n : Nat} (h0 : 0 < m) (h1 : m ≤ 13) (hF : F.t + n ≤ 199999) (q : ∀ xs F', F'.t ≤ F.t + n → Sm12 xs → xs.length = n → Q (xs.map .int) F') : wp (lcGo (bN 0) uYes (sCall drawS (vF 1 (vD (sC (.int m)) vNil))) (rngL 0 n) [o, some .feed] F) Q := by
  refine lc_tr (c := 1) (P := fun _ y => ∃ x : Int, y = .int x ∧ 0 ≤ x ∧ x ≤ 12) _ o (by decide) (fun d hd F hF => ?_) (by rw [rng_len]; omega) fun zs F2 hz hzs t2 => ?_
  · refine w9d rfl ?_
    refine wp_draw h0 (by omega) (by omega) fun a Fa a0 a1 ta => ?_
    exact ⟨by omega, _, rfl, a0, by omega⟩
  · obtain ⟨xs, rfl, hx⟩ := to_ints fun z h => let ⟨d, _, h2⟩ := hzs z h; h2
    rw [rng_len] at hz t2
    rw [List.length_map] at hz
    exact q xs F2 (by omega) hx hz
theorem end_w {F : FdS} {Q : PyData → FdS → Prop} {E : DE} {xs : List Int} {way : Int} (h0 : E[0]? = some (some .feed)) (hw : E[1]? = some (some (.dat (.int way)))) (h4 : E[4]? = some (some (.dat (.list (xs.map .int))))) (hx : Sm12 xs) (hl : xs.length ≤ 8) (hF : F.t + 1 ≤ 199999) (q : ∀ d F', F'.t ≤ F.t + 1 → Fw d → Q d F') :
    wp ((mRt (s2 addD (sN tupleD (sCons (sW 4) sNil)) (sTup (sCons (s2 addD (sC (.int 1)) (sCall drawS (vF 0 (vD (s2 ixD (sC (.list [.int 12, .int 2])) (sN intD (sCons (s2 (eqD false) (sW 1) (sC (.int 3))) sNil))) vNil)))) sNil)))) E F) (runK Q) := by
  have two : ∃ v : Int, (0 < v ∧ v ≤ 12) ∧ ixD (.list [.int 12, .int 2]) (.int (if decide (way = 3) = true then 1 else 0)) = some (.int v) := by
    by_cases e : way = 3
    · exact ⟨2, by decide, by rw [if_pos (decide_eq_true e)]; rfl⟩
    · exact ⟨12, by decide, by rw [if_neg (by simpa using e)]; rfl⟩
  obtain ⟨v, ⟨v0, v1⟩, ev⟩ := two
  have ei : intD [.bool (decide (way = 3))] = some (.int (if decide (way = 3) = true then 1 else 0)) := by cases decide (way = 3) <;> rfl
  refine r_mRt.mpr (r_s2.mpr (r_sN.mpr (r_sCons.mpr (r_sW.mpr (gW_e h4 (r_sNil.mpr (oB_e e_tupL (r_sTup.mpr (r_sCons.mpr (r_s2.mpr (r_sC.mpr (r_sCall.mpr (r_vF.mpr (gF_e h0 (r_vD.mpr (r_s2.mpr (r_sC.mpr (r_sN.mpr (r_sCons.mpr (r_s2.mpr (r_sW.mpr (gW_e hw (r_sC.mpr (oB_e eq_i (r_sNil.mpr (oB_e ei (oB_e ev (r_vNil.mpr ?_))))))))))))))))))))))))))))
  refine wp_draw v0 (by omega) (by omega) fun b Fb b0 b1 tb => ?_
  refine oB_e e_addI (r_sNil.mpr ⟨sz (by simp), oB_e (addT (by simp only [List.length_map, List.length_singleton]; omega)) (run_rt ?_)⟩)
  have := q (fT (xs ++ [1 + b])) Fb (by omega) (fw_of hx (by omega) (by omega) hl)
  rw [show fT (xs ++ [1 + b]) = .tuple (xs.map .int ++ [.int (1 + b)]) by simp] at this
  exact this
theorem flow_tr : Tr f__law_flow [.feed] 30 Fw := Tr.of fun F hF => by
  unfold f__law_flow
  refine r_run.mpr (w9q (w9d rfl ?_))
  refine wp_draw (by decide) (by decide) (by omega) fun way F1 w0 w1 t1 => ⟨lt_len rfl, sq_nx ?_⟩
  refine w9q (w9d rfl ?_)
  refine wp_draw (by decide) (by decide) (by omega) fun many F2 m0 m1 t2 => ⟨lt_len rfl, sq_nx ?_⟩
  refine w9i (r_uB.mpr (w9s rfl (r_sC.mpr (oB_e eq_i (oB_e rfl ?_)))))
  refine cIf_2 (fun e => ?_) (fun e => ?_)
  · refine w9q (r_s2.mpr (r_sC.mpr (w9d rfl ?_)))
    refine wp_draw (by decide) (by decide) (by omega) fun a F3 a0 a1 t3 => oB_e e_addI ⟨lt_len rfl, sq_nx ?_⟩
    refine r_mRt.mpr (r_sTup.mpr (w9c rfl (r_sCons.mpr (w9d rfl ?_))))
    refine wp_draw (by decide) (by decide) (by omega) fun b F4 b0 b1 t4 => w9c rfl (r_sNil.mpr ⟨le_size rfl, sq_rt (run_rt ⟨by omega, ?_⟩)⟩)
    have hs : Sm12 [1 + a, b] := fun x hx => by
      simp only [List.mem_cons, List.not_mem_nil, or_false] at hx
      rcases hx with rfl | rfl <;> omega
    exact fw_of (y := 1 + a) hs (by omega) (by omega) (by simp)
  refine r_mNx.mpr (sq_nx (w9i (r_uB.mpr (w9s rfl (r_sC.mpr (oB_e eq_i (oB_e rfl ?_)))))))
  refine cIf_2 (fun e2 => ?_) (fun e2 => ?_)
  · refine r_mRt.mpr (r_sTup.mpr (r_sCons.mpr (r_sC.mpr (r_sCons.mpr (r_s2.mpr (r_sC.mpr (w9d rfl ?_)))))))
    refine wp_draw (by decide) (by decide) (by omega) fun a F3 a0 a1 t3 => oB_e e_addI (r_sNil.mpr ⟨le_size rfl, sq_rt (run_rt ⟨by omega, ?_⟩)⟩)
    have hs : Sm12 [0] := fun x hx => by rw [List.mem_singleton.mp hx]; decide
    exact fw_of (y := 1 + a) hs (by omega) (by omega) (by simp)
  refine r_mNx.mpr (sq_nx (w9q (r_sLC.mpr (r_mRng1.mpr (w9c rfl (r_sNil.mpr (oB_e (rng1_i (by omega) (by omega)) ⟨sz (by rw [rng_len]; omega), ?_⟩)))))))
  refine draws_w (n := many.toNat) (by decide) (by decide) (by omega) fun xs F3 t3 hx hxl => ⟨lt_len rfl, sq_nx ?_⟩
  refine w9i (r_uB.mpr (w9s rfl (r_sC.mpr (oB_e rfl (oB_e rfl ?_)))))
  refine cIf_2 (fun e3 => ?_) (fun e3 => ?_)
  · refine r_mSet.mpr (r_s2.mpr (r_sC.mpr (r_sLC.mpr (r_mRng1.mpr (r_sCons.mpr (w9s rfl (r_sC.mpr (oB_e e_subI (r_sNil.mpr (oB_e (rng1_i (by omega) (by omega)) ⟨sz (by rw [rng_len]; omega), ?_⟩))))))))))
    refine draws_w (n := (many - 1).toNat) (by decide) (by decide) (by omega) fun ys F4 t4 hy hyl => oB_e (addL (by simp; omega)) ⟨lt_len rfl, sq_nx ?_⟩
    have hs : Sm12 (12 :: ys) := fun x hx => by
      rcases List.mem_cons.mp hx with rfl | hx
      · decide
      · exact hy x hx
    exact end_w (xs := 12 :: ys) (way := way) rfl rfl rfl hs (by rw [List.length_cons]; omega) (by omega) fun d F' ht hd => ⟨by omega, hd⟩
  · refine r_mNx.mpr (sq_nx ?_)
    exact end_w (xs := xs) (way := way) rfl rfl rfl hx (by omega) (by omega) fun d F' ht hd => ⟨by omega, hd⟩
noncomputable abbrev EL (k f w : Option DV) : DE := [none, some .feed, k, f, w]
theorem law_w (ns : List Int) : wp (m_law ([none, some .feed] ++ List.replicate 3 none) (newF ns)) fun o _ => o = .rt (.bool true) := by
  unfold m_law
  show wp (mSq m_law_1 m_law_2 (EL none none none) (newF ns)) _
  refine r_mSq.mpr ?_
  unfold m_law_1
  refine r_mFor.mpr (r_mRng1.mpr (r_sCons.mpr (r_sC.mpr (r_sNil.mpr (oB_e (rng1_i (i := 6) (by decide) (by decide)) ?_)))))
  refine for_inv (fun j E F' => F'.t ≤ 40 * j ∧ ∃ k f w, E = EL k f w) _ 0 _ (newF ns) ⟨by show (0 : Int) ≤ 40 * ((0 : Nat) : Int); decide, _, _, _, rfl⟩ ?_ ?_
  · rintro j d e E F1 ⟨t1, k, f, w, rfl⟩
    have hj := (List.getElem?_eq_some_iff.mp e).1
    rw [rng_len] at hj
    have hj : j < 6 := hj
    rw [Nat.zero_add] at t1 ⊢
    unfold m_law_1_0 m_law_1_1 m_law_1_2
    refine ⟨_, rfl, w9q (r_sCall.mpr (r_vF.mpr (gF_e rfl (r_vNil.mpr ?_))))⟩
    refine flow_tr.wp (by omega) fun d2 F2 t2 ⟨xs, L, N, T, e2, hf⟩ => ?_
    subst e2
    refine ⟨lt_len rfl, sq_nx (w9q (w9d rfl ?_))⟩
    refine wp_draw (by decide) (by decide) (by omega) fun r F3 r0 r1 t3 => ⟨lt_len rfl, sq_nx ?_⟩
    obtain ⟨u, rfl⟩ : ∃ u : Nat, r = (u : Int) := ⟨r.toNat, by omega⟩
    refine r_mIf.mpr (r_uOr.mpr (r_uNot.mpr (r_uT.mpr (r_sCall.mpr (w9v rfl (w9v rfl (r_vNil.mpr ?_)))))))
    refine right_w hf (by omega) (oB_e e_tru (cIf_fe rfl ?_))
    refine r_uOr.mpr (r_uNot.mpr (r_uT.mpr (r_sCall.mpr (w9v rfl (r_vD.mpr (r_sC.mpr (r_vNil.mpr ?_)))))))
    refine right_w (w := 0) hf (by decide) (oB_e e_tru (cIf_fe rfl ?_))
    refine r_uNot.mpr (r_uT.mpr (r_sCall.mpr (w9v rfl (w9v rfl (r_vNil.mpr ?_)))))
    refine right_w hf (by omega) (oB_e e_tru (cIf_fe rfl (r_mNx.mpr ⟨_, rfl, by omega, _, _, _, rfl⟩)))
  · rintro E F1 ⟨t1, k, f, w, rfl⟩
    refine sq_nx ?_
    unfold m_law_2
    have fix : ∀ {xs : List Int} {y : Int}, Sm12 xs → 1 ≤ y → y ≤ 12 → xs.length ≤ 8 → ∃ L N T, Fc (xs ++ [y]) L N T := fun {xs y} h h0 h1 hl => by
      obtain ⟨zs, L, N, T, e, hf⟩ := fw_of h h0 h1 hl
      have : xs ++ [y] = zs := by
        have e : (xs ++ [y]).map PyData.int = zs.map .int := by simpa using e
        exact List.map_inj_right (fun a b h => by cases h; rfl) |>.mp e
      exact ⟨L, N, T, this ▸ hf⟩
    obtain ⟨L1, N1, T1, f1⟩ := fix (xs := []) (y := 1) (fun x h => nomatch h) (by decide) (by decide) (by decide)
    obtain ⟨L2, N2, T2, f2⟩ := fix (xs := [0]) (y := 1) (fun x h => by rw [List.mem_singleton.mp h]; decide) (by decide) (by decide) (by decide)
    obtain ⟨L3, N3, T3, f3⟩ := fix (xs := [1, 0]) (y := 1) (fun x h => by simp at h; omega) (by decide) (by decide) (by decide)
    obtain ⟨L4, N4, T4, f4⟩ := fix (xs := [11, 0]) (y := 1) (fun x h => by simp at h; omega) (by decide) (by decide) (by decide)
    refine r_mRt.mpr (r_sAnd.mpr (w9l (r_sC.mpr (r_vD.mpr (r_sC.mpr (r_vNil.mpr ?_))))))
    refine right_w (w := 16) f1 (by decide) (oB_e rfl (cIf_te rfl ?_))
    refine r_sAnd.mpr (w9l (r_sC.mpr (r_vD.mpr (r_sC.mpr (r_vNil.mpr ?_)))))
    refine right_w (w := 3) f2 (by decide) (oB_e rfl (cIf_te rfl ?_))
    refine r_sAnd.mpr (w9l (r_sC.mpr (r_vD.mpr (r_sC.mpr (r_vNil.mpr ?_)))))
    refine right_w (w := 0) f3 (by decide) (oB_e rfl (cIf_te rfl ?_))
    refine w9l (r_sC.mpr (r_vD.mpr (r_sC.mpr (r_vNil.mpr ?_))))
    exact right_w (w := 1) f4 (by decide) rfl
theorem fin (ns : List Int) : ∃ F', m_law ([none, some .feed] ++ List.replicate 3 none) (newF ns) = some (.rt (.bool true), F') := by
  obtain ⟨o, F', e, h⟩ := law_w ns
  exact ⟨F', by rw [e, h]⟩
end K59
set_option Elab.async false
set_option linter.all false
set_option maxRecDepth 100000
set_option maxHeartbeats 4000000
namespace K59
open PySem L2 L3
theorem all_mk {l : PySem.W.OpenLaw} {w : World} {K : PySem.W.Frag} {h : Heap} {mg : Str → Option Value} {fa flaw : Addr} (X : K.In h) (G : h.Ns mainGlobals mg) (hfa : mg "law" = some (.ref fa))
    {odlaw anlaw : Option Addr} {sllaw : Array (Option Value)} {oclaw kVlaw dclaw pmlaw cdlaw ctlaw : Value}
    (alaw : PySem.W.nsIn K mainGlobals "law" = some (some (.ref flaw))) (llaw : K.lookup flaw = some ⟨oclaw, odlaw, .func (PySem.W.fnOf "law" "law" (defArgs s_law) (defBody s_law) (defScope s_law) .none kVlaw dclaw pmlaw anlaw cdlaw ctlaw), sllaw⟩) (claw : PySem.W.codeIn K cdlaw "law" = true) (klaw : PySem.W.keepIn K (.ref flaw) = true)
    (xcommon_divisor : L3.FI K "common_divisor" s_common_divisor)
    (xfraction : L3.FI K "fraction" s_fraction)
    (xminus : L3.FI K "minus" s_minus)
    (xtimes : L3.FI K "times" s_times)
    (xover : L3.FI K "over" s_over)
    (xless : L3.FI K "less" s_less)
    (xmean_of : L3.FI K "mean_of" s_mean_of)
    (xtotal : L3.FI K "total" s_total)
    (xshare_of : L3.FI K "share_of" s_share_of)
    (xmean : L3.FI K "mean" s_mean)
    (xsecond : L3.FI K "second" s_second)
    (xword_of : L3.FI K "word_of" s_word_of)
    (xcheck_rests : L3.FI K "check_rests" s_check_rests)
    (xlacking : L3.FI K "lacking" s_lacking)
    (xempty_mean : L3.FI K "empty_mean" s_empty_mean)
    (xmean_standing : L3.FI K "mean_standing" s_mean_standing)
    (x_law_feed : L3.FI K "_law_feed" s__law_feed)
    (x_law_draw : L3.FI K "_law_draw" s__law_draw)
    (x_law_frac : L3.FI K "_law_frac" s__law_frac)
    (x_law_flow : L3.FI K "_law_flow" s__law_flow)
    (x_law_due : L3.FI K "_law_due" s__law_due)
    (x_law_told : L3.FI K "_law_told" s__law_told)
    (x_law_right : L3.FI K "_law_right" s__law_right)
    (zValueError : PySem.W.nsIn K mainGlobals "ValueError" = some none)
    (zabs : PySem.W.nsIn K mainGlobals "abs" = some none)
    (zenumerate : PySem.W.nsIn K mainGlobals "enumerate" = some none)
    (zint : PySem.W.nsIn K mainGlobals "int" = some none)
    (zisinstance : PySem.W.nsIn K mainGlobals "isinstance" = some none)
    (zlen : PySem.W.nsIn K mainGlobals "len" = some none)
    (zlist : PySem.W.nsIn K mainGlobals "list" = some none)
    (zrange : PySem.W.nsIn K mainGlobals "range" = some none)
    (zrepr : PySem.W.nsIn K mainGlobals "repr" = some none)
    (zsum : PySem.W.nsIn K mainGlobals "sum" = some none)
    (ztuple : PySem.W.nsIn K mainGlobals "tuple" = some none)
    {t_ONE : Addr} {it_ONE : Array Value} {n_ONE : Nat} {sl_ONE : Array (Option Value)} (ga_ONE : PySem.W.nsIn K mainGlobals "ONE" = some (some (.ref t_ONE))) (gl_ONE : K.lookup t_ONE = some ⟨.type "tuple", none, .seq it_ONE n_ONE, sl_ONE⟩) (gq_ONE : L3.intsV it_ONE.toList = some ([1, 1] : List Int))
    {x_WaitError : Addr} (aE_WaitError : PySem.W.nsIn K mainGlobals "WaitError" = some (some (.ref x_WaitError)))
    {x_NoRest : Addr} (aE_NoRest : PySem.W.nsIn K mainGlobals "NoRest" = some (some (.ref x_NoRest)))
    {x_NoBeat : Addr} (aE_NoBeat : PySem.W.nsIn K mainGlobals "NoBeat" = some (some (.ref x_NoBeat)))
    {x_NoComer : Addr} (aE_NoComer : PySem.W.nsIn K mainGlobals "NoComer" = some (some (.ref x_NoComer)))
    {x_NoHouse : Addr} (aE_NoHouse : PySem.W.nsIn K mainGlobals "NoHouse" = some (some (.ref x_NoHouse)))
    {x_NoPaper : Addr} (aE_NoPaper : PySem.W.nsIn K mainGlobals "NoPaper" = some (some (.ref x_NoPaper)))
    {x_NoRow : Addr} (aE_NoRow : PySem.W.nsIn K mainGlobals "NoRow" = some (some (.ref x_NoRow)))
    {x_NoText : Addr} (aE_NoText : PySem.W.nsIn K mainGlobals "NoText" = some (some (.ref x_NoText)))
    {x_TooMany : Addr} (aE_TooMany : PySem.W.nsIn K mainGlobals "TooMany" = some (some (.ref x_TooMany)))
    {fi_NoRest N_NoRest : Addr} {nm_NoRest q_NoRest : Str} {bs_NoRest : List Value} {hd_NoRest sn_NoRest sub_NoRest ab_NoRest col_NoRest dd_NoRest k0_NoRest k1_NoRest k2_NoRest k3_NoRest k5_NoRest} {oci_NoRest kVi_NoRest dci_NoRest pmi_NoRest cdi_NoRest cti_NoRest : Value} {odi_NoRest ani_NoRest : Option Addr} {sli_NoRest : Array (Option Value)}
    (obj_NoRest : K.lookup x_NoRest = some (PySem.excClassObj nm_NoRest q_NoRest x_NoRest N_NoRest bs_NoRest (.ref x_WaitError :: L3.vMro) hd_NoRest sn_NoRest sub_NoRest ab_NoRest col_NoRest dd_NoRest k0_NoRest k1_NoRest k2_NoRest k3_NoRest k5_NoRest "ValueError.__new__")) (tp_NoRest : PySem.W.excIn K x_WaitError L3.vMro "ValueError.__new__" = true)
    (in_NoRest : PySem.W.findIn K (.ref x_NoRest) "__init__" = some (some (.ref fi_NoRest))) (fn_NoRest : PySem.W.typeIn K (.ref fi_NoRest) = some (.type "function")) (ca_NoRest : PySem.W.specialIn K (.ref x_NoRest) "__call__" = some (some (.builtin "type.__call__"))) (ty_NoRest : PySem.W.instIn K (.ref x_NoRest) (.type "type") = some true) (kp_NoRest : PySem.W.keepIn K (.ref x_NoRest) = true) (di_NoRest : PySem.W.hasDictIn K x_NoRest = true) (sa_NoRest : PySem.W.findIn K (.ref x_NoRest) "__setattr__" = some (some (.builtin "object.__setattr__")))
    (li_NoRest : K.lookup fi_NoRest = some ⟨oci_NoRest, odi_NoRest, .func (PySem.W.fnOf "__init__" "NoRest.__init__" (defArgs ini_NoRest) (defBody ini_NoRest) (defScope ini_NoRest) .none kVi_NoRest dci_NoRest pmi_NoRest ani_NoRest cdi_NoRest cti_NoRest), sli_NoRest⟩) (ci_NoRest : PySem.W.codeIn K cdi_NoRest "NoRest.__init__" = true)
    (ga_NoRest_ : PySem.W.findIn K (.ref x_NoRest) "__getattribute__" = some (some (.builtin "BaseException.__getattribute__"))) (gn_NoRest : PySem.W.findIn K (.ref x_NoRest) "__getattr__" = some none) (mb_NoRest : PySem.W.mroIn K x_NoRest (.type "BaseException") = some true) (mo_NoRest : PySem.W.mroIn K x_NoRest (.type "object") = some true) (cc_NoRest : PySem.W.findIn K (.ref x_NoRest) "__class__" = some (some (.builtin "object.__class__"))) (cg_NoRest : PySem.W.specialIn K (.builtin "object.__class__") "__get__" = some (some (.builtin "getset_descriptor.__get__"))) (ct_NoRest : PySem.W.takesIn K (.builtin "object.__class__") = some true)
    (sb_NoRest : PySem.W.subIn K (.ref x_WaitError) (.type "BaseException") = some true) (ko_NoRest : PySem.W.kitOne K (.ref x_NoRest) (.ref x_WaitError) = some true) (ne_NoRest : (Value.ref x_NoRest == Value.ref x_WaitError) = false) (ve_NoRest : PySem.W.kitOne K (.ref x_NoRest) (.type "ValueError") = some true) (st_NoRest : PySem.W.kitAny K (.ref x_NoRest) [.ref x_NoBeat, .ref x_NoComer, .ref x_NoHouse, .ref x_NoPaper, .ref x_NoRow, .ref x_NoText, .ref x_TooMany] = some false)
    (na_NoRest_word : PySem.W.findIn K (.ref x_NoRest) "word" = some none)
    (hs__law_right : (PySem.W.tabIn K "_law_right").isSome = true)
    (hnd0 : decide (((L3.tabsK (["_law_right"] : List Str) K).map (·.2.2)).Nodup) = true)
    : ∃ fd : FuncData, (∀ (s : Shared) (v : Value), BindsTo s fd ⟨[v], []⟩ [("_law_script", v)]) ∧ ∀ base : Heap, K.In base → base.Ns mainGlobals mg → BMd base mg → (∀ t ∈ L3.tabsK (["_law_right"] : List Str) K, PySem.W.CodeHd base t.2.1 t.2.2) → FnOk l.prog w K mg base CX0 11 fa fd ["_law_script"] (spLaw K) := by
  have hnd : (L3.tabP K).Nodup := of_decide_eq_true hnd0
  have e := hfa.symm.trans (PySem.W.mg_of X G alaw)
  cases e
  have na_NoRest : ∀ p ∈ L3.psT "NoRest", PySem.W.findIn K (.ref x_NoRest) p = some none := by
    intro p hp
    have hp : p ∈ (["word"] : List Str) := hp
    simp only [List.mem_cons, List.not_mem_nil, or_false] at hp
    rcases hp with rfl
    · exact na_NoRest_word
  have T : Txt K mg := ⟨PySem.W.mg_none_of X G zValueError, PySem.W.mg_none_of X G zabs, PySem.W.mg_none_of X G zenumerate, PySem.W.mg_none_of X G zint, PySem.W.mg_none_of X G zisinstance, PySem.W.mg_none_of X G zlen, PySem.W.mg_none_of X G zlist, PySem.W.mg_none_of X G zrange, PySem.W.mg_none_of X G zrepr, PySem.W.mg_none_of X G zsum, PySem.W.mg_none_of X G ztuple, L3.gd_mkI X G ga_ONE gl_ONE gq_ONE (by decide), ⟨x_WaitError, x_NoRest, fi_NoRest, [x_NoBeat, x_NoComer, x_NoHouse, x_NoPaper, x_NoRow, x_NoText, x_TooMany], PySem.W.mg_of X G aE_WaitError, ⟨_, _, rfl, PySem.W.mg_of X G aE_NoBeat, _, _, rfl, PySem.W.mg_of X G aE_NoComer, _, _, rfl, PySem.W.mg_of X G aE_NoHouse, _, _, rfl, PySem.W.mg_of X G aE_NoPaper, _, _, rfl, PySem.W.mg_of X G aE_NoRow, _, _, rfl, PySem.W.mg_of X G aE_NoText, _, _, rfl, PySem.W.mg_of X G aE_TooMany, rfl⟩, L3.ecls_mk obj_NoRest tp_NoRest in_NoRest fn_NoRest ca_NoRest ty_NoRest kp_NoRest di_NoRest sa_NoRest, L3.eini_mk it_NoRest li_NoRest ci_NoRest na_NoRest, L3.efit_mk (PySem.W.mg_of X G aE_NoRest) di_NoRest ga_NoRest_ gn_NoRest mb_NoRest mo_NoRest cc_NoRest cg_NoRest ct_NoRest sb_NoRest ko_NoRest ne_NoRest ve_NoRest st_NoRest na_NoRest⟩⟩
  obtain ⟨_, _, Fcommon_divisor, mcommon_divisor, bcommon_divisor, _⟩ := xcommon_divisor.mk X G ["one", "other"]
  obtain ⟨_, _, Ffraction, mfraction, bfraction, _⟩ := xfraction.mk X G ["top", "bottom"]
  obtain ⟨_, _, Fminus, mminus, bminus, _⟩ := xminus.mk X G ["one", "other"]
  obtain ⟨_, _, Ftimes, mtimes, btimes, _⟩ := xtimes.mk X G ["one", "other"]
  obtain ⟨_, _, Fover, mover, bover, _⟩ := xover.mk X G ["one", "other"]
  obtain ⟨_, _, Fless, mless, bless, _⟩ := xless.mk X G ["one", "other"]
  obtain ⟨_, _, Fmean_of, mmean_of, bmean_of, _⟩ := xmean_of.mk X G ["pairs"]
  obtain ⟨_, _, Ftotal, mtotal, btotal, _⟩ := xtotal.mk X G ["flow"]
  obtain ⟨_, _, Fshare_of, mshare_of, bshare_of, _⟩ := xshare_of.mk X G ["flow", "k"]
  obtain ⟨_, _, Fmean, mmean, bmean, _⟩ := xmean.mk X G ["flow"]
  obtain ⟨_, _, Fsecond, msecond, bsecond, _⟩ := xsecond.mk X G ["flow"]
  obtain ⟨_, _, Fword_of, mword_of, bword_of, _⟩ := xword_of.mk X G ["flow", "hands"]
  obtain ⟨_, _, Fcheck_rests, mcheck_rests, bcheck_rests, _⟩ := xcheck_rests.mk X G ["flow"]
  obtain ⟨_, _, Flacking, mlacking, blacking, _⟩ := xlacking.mk X G ["flow"]
  obtain ⟨_, _, Fempty_mean, mempty_mean, bempty_mean, _⟩ := xempty_mean.mk X G ["flow", "w"]
  obtain ⟨_, _, Fmean_standing, mmean_standing, bmean_standing, _⟩ := xmean_standing.mk X G ["flow"]
  obtain ⟨_, _, F_law_feed, m_law_feed, b_law_feed, _⟩ := x_law_feed.mk X G ["_law_script"]
  obtain ⟨_, _, F_law_draw, m_law_draw, b_law_draw, _⟩ := x_law_draw.mk X G ["_law_feed_here", "_law_many"]
  obtain ⟨_, _, F_law_frac, m_law_frac, b_law_frac, _⟩ := x_law_frac.mk X G ["_law_top", "_law_bottom"]
  obtain ⟨_, _, F_law_flow, m_law_flow, b_law_flow, _⟩ := x_law_flow.mk X G ["_law_feed_here"]
  obtain ⟨_, _, F_law_due, m_law_due, b_law_due, _⟩ := x_law_due.mk X G ["_law_flow_here", "_law_w"]
  obtain ⟨_, _, F_law_told, m_law_told, b_law_told, _⟩ := x_law_told.mk X G ["_law_ask"]
  obtain ⟨_, _, F_law_right, m_law_right, b_law_right, ⟨_, _, _, l_law_right⟩, a_law_right⟩ := x_law_right.mk X G ["_law_flow_here", "_law_w"]
  have Flaw := fun_mk (st := s_law) llaw claw klaw
  have blaw := Flaw.binds (ps := ["_law_script"]) fun _ _ _ _ _ _ us hl => by
    obtain ⟨z0, rfl⟩ := L3.len_1 hl
    rfl
  have mlaw := PySem.W.mg_of X G alaw
  refine ⟨PySem.W.fnOf "law" "law" (defArgs s_law) (defBody s_law) (defScope s_law) .none kVlaw dclaw pmlaw anlaw cdlaw ctlaw, fun s v => .of_eq rfl, fun base _ _ BM hC => ?_⟩
  have C_common_divisor := L3.cal l.prog w base (ok_common_divisor Fcommon_divisor T ) mcommon_divisor Fcommon_divisor bcommon_divisor
  have C_fraction := L3.cal l.prog w base (ok_fraction Ffraction T C_common_divisor) mfraction Ffraction bfraction
  have C_minus := L3.cal l.prog w base (ok_minus Fminus T C_fraction) mminus Fminus bminus
  have C_times := L3.cal l.prog w base (ok_times Ftimes T C_fraction) mtimes Ftimes btimes
  have C_over := L3.cal l.prog w base (ok_over Fover T C_fraction) mover Fover bover
  have C_less := L3.cal l.prog w base (ok_less Fless T ) mless Fless bless
  have C_mean_of := L3.cal l.prog w base (ok_mean_of Fmean_of T C_fraction) mmean_of Fmean_of bmean_of
  have C_total := L3.cal l.prog w base (ok_total Ftotal T ) mtotal Ftotal btotal
  have C_share_of := L3.cal l.prog w base (ok_share_of Fshare_of T C_fraction C_total) mshare_of Fshare_of bshare_of
  have C_mean := L3.cal l.prog w base (ok_mean Fmean T C_mean_of) mmean Fmean bmean
  have C_second := L3.cal l.prog w base (ok_second Fsecond T C_mean_of) msecond Fsecond bsecond
  have C_word_of := L3.cal l.prog w base (ok_word_of Fword_of T C_mean C_less C_share_of) mword_of Fword_of bword_of
  have C_check_rests : CalleeX l.prog w K mg base "check_rests" 6 ["flow"] (spX K mg 1 f_check_rests) := ⟨_, _, ok_check_rests Fcheck_rests T C_word_of, mcheck_rests, Fcheck_rests.kp, bcheck_rests⟩
  have C_lacking := L3.cal l.prog w base (ok_lacking Flacking T C_minus C_mean) mlacking Flacking blacking
  have C_empty_mean : CalleeX l.prog w K mg base "empty_mean" 7 ["flow", "w"] (spX K mg 2 f_empty_mean) := ⟨_, _, ok_empty_mean Fempty_mean T C_check_rests C_over C_lacking, mempty_mean, Fempty_mean.kp, bempty_mean⟩
  have C_mean_standing : CalleeX l.prog w K mg base "mean_standing" 7 ["flow"] (spX K mg 1 f_mean_standing) := ⟨_, _, ok_mean_standing Fmean_standing T C_check_rests C_over C_times C_lacking C_minus C_mean C_second, mmean_standing, Fmean_standing.kp, bmean_standing⟩
  have C__law_feed := L3.cal l.prog w base (ok__law_feed F_law_feed) m_law_feed F_law_feed b_law_feed
  have C__law_draw := L3.cal l.prog w base (ok__law_draw F_law_draw T ) m_law_draw F_law_draw b_law_draw
  have C__law_frac := L3.cal l.prog w base (ok__law_frac F_law_frac T ) m_law_frac F_law_frac b_law_frac
  have C__law_flow := L3.cal l.prog w base (ok__law_flow F_law_flow T C__law_draw) m_law_flow F_law_flow b_law_flow
  have C__law_due := L3.cal l.prog w base (ok__law_due F_law_due T C__law_frac) m_law_due F_law_due b_law_due
  have C__law_told := L3.cal l.prog w base (ok__law_told F_law_told T ) m_law_told F_law_told b_law_told
  obtain ⟨c__law_right, P__law_right, LB__law_right⟩ := L3.lamB_mk (mg := mg) (base := base) a_law_right l_law_right (by decide) hs__law_right hnd BM hC
  have C__law_right := L3.cal l.prog w base (ok__law_right F_law_right T LB__law_right C__law_told C_empty_mean C_mean_standing C__law_due) m_law_right F_law_right b_law_right
  exact ok_law Flaw T C__law_feed C__law_flow C__law_draw C__law_right (fun ns _ => fin ns)
theorem walk {l : PySem.W.OpenLaw} {q : Program} {loose : List Str} {XP : (Str → Option Value) → Heap → Prop} {YP : World → Heap → Prop} {d : DefRec} {K : Params → PySem.W.Frag} (hn : l.most = some 63) (hdf : d.params.defaults = [])
    (hrec : ((["_law_right"] : List Str).all fun x => ((PyProof.Rows.recsOf q).find? fun e => e.name == x).isSome) = true) (hnt : ∀ w : World, PySem.W.noTabs (K w.params) = true)
    (hY : ∀ (w : World) (h : Heap), YP w h → (K w.params).In h)
    (F : ∀ (w : World) (mg : Str → Option Value) (fa : Addr) (h : Heap), (K w.params).In h → h.Ns mainGlobals mg → mg d.name = some (.ref fa) →
      ∃ fd : FuncData, (∀ (s : Shared) (u : Value), BindsTo s fd ⟨[u], []⟩ [("_law_script", u)]) ∧ ∀ base : Heap, (K w.params).In base → base.Ns mainGlobals mg → BMd base mg → (∀ t ∈ L3.tabsK (["_law_right"] : List Str) (K w.params), PySem.W.CodeHd base t.2.1 t.2.2) → FnOk l.prog w (K w.params) mg base CX0 11 fa fd ["_law_script"] (spLaw (K w.params))) :
    PySem.W.WalkO q loose XP YP l.row.toRowW d [] (fun f vs => PySem.call f vs) :=
  L3.walk_ofT (["_law_right"] : List Str) (n := 63) (k := 11) (x := "_law_script") (CX := fun _ => CX0) (sp := fun w => spLaw (K w.params)) hn (by decide) hdf ⟨rfl, by decide, by decide, rfl⟩ hrec hnt hY F (fun _ _ a ns hl hS hT => ⟨a, ns, rfl, hS, hl, hT, fun _ => rfl⟩) fun _ _ _ _ _ z => z
end K59
open PySem PySem.W PyProof.Rows
set_option maxRecDepth 100000 in
set_option maxHeartbeats 0 in
theorem PySem.Challenge.cw_hatchwaits_k59_means_until_empty_and_sta_holds : PySem.Challenge.rw_hatchwaits_k59_means_until_empty_and_sta.Holds := by
  w_on; o_law; k_head; (case hw => w_witness2)
  k_fill
  refine K59.walk (l := PySem.Challenge.rw_hatchwaits_k59_means_until_empty_and_sta) rfl rfl (by first | rfl | kernel_rfl) (by intro w; first | kernel_rfl | with_unfolding_all rfl) (fun w h Y => PySem.W.km_in_of Y) ?F
  case F =>
    intro w mg fa h KX G hmg
    apply K59.all_mk KX G hmg
    (case hnd0 => first | kernel_rfl | with_unfolding_all rfl)
    all_goals first | exact .of (by k_is) (by k_is) (by k_is) (by k_is) | k_is | kit_is | k_exc | rfl | decide | kernel_rfl | with_unfolding_all rfl
