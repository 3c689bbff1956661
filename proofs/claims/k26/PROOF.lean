import PyProof.Rows.All
import Wide.All
import OpenK.AllK
import Wide.FinOn
import Lean
import PyProof.EqAt
import PyProof.EqKinds
import PyProof.TupleCall
import PyProof.Rows.EqDataRows
import PyProof.Rows.InDataRows
import PyProof.StrLawsRepr
import PyProof.AutoListH
import PySem.Challenge.RW_hatchwaits_k26_ways_changed
def PySem.W.Fast.tw16920147845375918461:=0
def PySem.W.Fast.tw9955791850811502728:=0
def PySem.W.Fast.tw2169659580635201252:=0
def PySem.W.Fast.tw5346493897508841097:=0
def PySem.W.Fast.tw13816699632375361226:=0
def PySem.W.Fast.tw7264624319110093557:=0
def PySem.W.Fast.tw14965061573877135542:=0
def PySem.W.Fast.tw9507242809201479690:=0
def PySem.W.Fast.tw8628411406039318647:=0
def PySem.W.Fast.tw2790672764562116411:=0
def PySem.W.Fast.tw3588115981874879185:=0
def PySem.W.Fast.tw13220667029119717854:=0
def PySem.W.Fast.tw5791692226267403260:=0
def PySem.W.Fast.tw469498824760531515:=0
def PySem.W.Fast.tw390894001852162275:=0
def PySem.W.Fast.tw14749181868418900611:=0
def PySem.W.Fast.tw4512926256183989537:=0
def PySem.W.Fast.tw8026717244298100098:=0
def PySem.W.Fast.tw8487141614194145572:=0
def PySem.W.Fast.tw16900978790135716946:=0
def PySem.W.Fast.tw8018609574738342082:=0
def PySem.W.Fast.tw11315552230830569381:=0
def PySem.W.Fast.tw5914909374246998575:=0
def PySem.W.Fast.tw1114491412143788165:=0
def PySem.W.Fast.tw14427972147166589060:=0
def PySem.W.Fast.tw17146502412496545579:=0
def PySem.W.Fast.tw11578079655141978067:=0
def PySem.W.Fast.tw7001889041868657672:=0
def PySem.W.Fast.tw4609923958196061496:=0
def PySem.W.Fast.tw16571730273547605162:=0
def PySem.W.Fast.tw13004855152067538568:=0
def PySem.W.Fast.tw7399039671467269340:=0
def PySem.W.Fast.tw8047120871131370554:=0
def PySem.W.Fast.tw14874403609651149280:=0
def PySem.W.Fast.tw18416971715318650336:=0
def PySem.W.Fast.tw16616239543831846578:=0
def PySem.W.Fast.tw15841813211563069284:=0
def PySem.W.Fast.tw14652953665123664399:=0
def PySem.W.Fast.tw17468500723053525322:=0
def PySem.W.Fast.tw8422119429739653093:=0
def PySem.W.Fast.tw16869879636439912065:=0
def PySem.W.Fast.tw16130784395173216347:=0
def PySem.W.Fast.tw12625737497369040408:=0
def PySem.W.Fast.tw13260519767131495028:=0
def PySem.W.Fast.tw338454230752052020:=0
def PySem.W.Fast.tw4797220493023036516:=0
def PySem.W.Fast.tw15426584663898441060:=0
def PySem.W.Fast.tw1970222427493290014:=0
def PySem.W.Fast.tw17054527398014659555:=0
def PySem.W.Fast.tw3163227309425066161:=0
def PySem.W.Fast.tw17771270351178785689:=0
def PySem.W.Fast.tw14426044535215021354:=0
def PySem.W.Fast.tw16455480517055538345:=0
def PySem.W.Fast.tw5564498563376062708:=0
def PySem.W.Fast.tw4131016253133259051:=0
def PySem.W.Fast.tw1816201674153746123:=0
def PySem.W.Fast.tw15613029773006796745:=0
def PySem.W.Fast.tw3077879522716706163:=0
def PySem.W.Fast.tw8590412557108206730:=0
def PySem.W.Fast.tw18223397588209861290:=0
def PySem.W.Fast.tw11257430715908234362:=0
def PySem.W.Fast.tw17771488616470887990:=0
def PySem.W.Fast.tw7040002211199994759:=0
def PySem.W.Fast.tw10469194020124645039:=0
def PySem.W.Fast.tw5954532885442434344:=0
def PySem.W.Fast.tw2128575928480748527:=0
def PySem.W.Fast.tw13543810485958401883:=0
def PySem.W.Fast.tw7439897620703479660:=0
def PySem.W.Fast.tw5253140244294087466:=0
def PySem.W.Fast.tw6297959937462723867:=0
def PySem.W.Fast.tw446921577792851799:=0
def PySem.W.Fast.tw2739304210721633529:=0
def PySem.W.Fast.tw251198736466057298:=0
def PySem.W.Fast.tw13267267331390755032:=0
def PySem.W.Fast.tw15381135009196119696:=0
def PySem.W.Fast.tw15530732739700323626:=0
def PySem.W.Fast.tw9325968033720538843:=0
def PySem.W.Fast.tw12835414055796404174:=0
def PySem.W.Fast.tw9252029596754949265:=0
def PySem.W.Fast.tw33922448360827657:=0
def PySem.W.Fast.tw12842412611119065721:=0
def PySem.W.Fast.tw5122829558902056545:=0
def PySem.W.Fast.tw16201110147984824162:=0
def PySem.W.Fast.tw6569519763573543035:=0
def PySem.W.Fast.tw5859108014706188845:=0
def PySem.W.Fast.tw5539230672229218307:=0
def PySem.W.Fast.tw9580920199299976363:=0
def PySem.W.Fast.tw7985728052791499691:=0
def PySem.W.Fast.tw10616170765465295063:=0
def PySem.W.Fast.tw17942241724191472933:=0
def PySem.W.Fast.tw8830159627480810762:=0
def PySem.W.Fast.tw2852157963424374655:=0
def PySem.W.Fast.tw4454862133286523480:=0
def PySem.W.Fast.tw11888001598294187524:=0
def PySem.W.Fast.tw16355957897505941965:=0
def PySem.W.Fast.tw16532093860831371823:=0
def PySem.W.Fast.tw17987389172352392323:=0
def PySem.W.Fast.tw9326271509310437241:=0
def PySem.W.Fast.tw2850191854645629922:=0
def PySem.W.Fast.tw13137161945344568387:=0
def PySem.W.Fast.tw1067127225140977434:=0
def PySem.W.Fast.tw2471308567388299909:=0
def PySem.W.Fast.tw1568559092698563182:=0
def PySem.W.Fast.tw11355647884761415469:=0
def PySem.W.Fast.tw13979642179711026417:=0
def PySem.W.Fast.tw2268799574702788505:=0
def PySem.W.Fast.tw6676933392531411475:=0
def PySem.W.Fast.tw11333318336147679402:=0
def PySem.W.Fast.tw793238039120427248:=0
def PySem.W.Fast.tw10682471408837208133:=0
def PySem.W.Fast.tw5978841724469011363:=0
def PySem.W.Fast.tw14708701189467574306:=0
def PySem.W.Fast.tw18094931268036451565:=0
def PySem.W.Fast.tw8673813697441424787:=0
def PySem.W.Fast.tw6741021815824447026:=0
def PySem.W.Fast.tw11801048214525028888:=0
def PySem.W.Fast.tw7721674358059276461:=0
def PySem.W.Fast.tw4602248904304008202:=0
def PySem.W.Fast.tw246073813760216030:=0
def PySem.W.Fast.tw14291950916881379263:=0
def PySem.W.Fast.tw9750083798114637869:=0
def PySem.W.Fast.tw9120171355145016487:=0
def PySem.W.Fast.tw7325051510861598762:=0
def PySem.W.Fast.tw18298036774978061688:=0
def PySem.W.Fast.tw3669291542702853858:=0
def PySem.W.Fast.tw12727132020418655754:=0
def PySem.W.Fast.tw1726493596493507075:=0
def PySem.W.Fast.tw10993914560518806764:=0
def PySem.W.Fast.tw10685890755384813001:=0
def PySem.W.Fast.tw17471394227660648894:=0
def PySem.W.Fast.tw244105232016131114:=0
def PySem.W.Fast.tw5150054825067468340:=0
def PySem.W.Fast.tw11737988355425856553:=0
def PySem.W.Fast.tw16315866462043940172:=0
def PySem.W.Fast.tw6297641339163668568:=0
def PySem.W.Fast.tw14170509117092965033:=0
def PySem.W.Fast.tw6512660828654438499:=0
def PySem.W.Fast.tw1990897907017121195:=0
def PySem.W.Fast.tw17154694950013510903:=0
def PySem.W.Fast.tw5090736060937564738:=0
def PySem.W.Fast.tw7523621687901988344:=0
def PySem.W.Fast.tw11621176355285414706:=0
def PySem.W.Fast.tw12114484357518681654:=0
def PySem.W.Fast.tw16765780197324417160:=0
def PySem.W.Fast.tw4065305786457128447:=0
def PySem.W.Fast.tw13902071791959277073:=0
def PySem.W.Fast.tw3033741272085464766:=0
def PySem.W.Fast.tw10316284759633737807:=0
def PySem.W.Fast.tw1719881788702789640:=0
def PySem.W.Fast.tw531765515686005072:=0
def PySem.W.Fast.tw6829986574347573395:=0
def PySem.W.Fast.tw7983123064343545471:=0
def PySem.W.Fast.tw1331070213313662033:=0
def PySem.W.Fast.tw3181064845708671760:=0
def PySem.W.Fast.tw17347970922023722684:=0
def PySem.W.Fast.tw10223161163002656007:=0
def PySem.W.Fast.tw2063639071256749344:=0
def PySem.W.Fast.tw3060937776237034445:=0
def PySem.W.Fast.tw14081652132429633352:=0
def PySem.W.Fast.tw12684553391042208882:=0
def PySem.W.Fast.tw17635144318791076682:=0
def PySem.W.Fast.tw13621777430999197378:=0
def PySem.W.Fast.tw7001814578594001700:=0
def PySem.W.Fast.tw16755642107185994808:=0
def PySem.W.Fast.tw8850241435382336952:=0
def PySem.W.Fast.tw10769415634132156435:=0
def PySem.W.Fast.tw2772721841463124516:=0
def PySem.W.Fast.tw9653425386457014148:=0
def PySem.W.Fast.tw1466631784152430093:=0
def PySem.W.Fast.tw1701963093381886990:=0
def PySem.W.Fast.tw5484887341783169053:=0
def PySem.W.Fast.tw12111672451818066599:=0
def PySem.W.Fast.tw13834380012564266455:=0
def PySem.W.Fast.tw1158229784745415325:=0
def PySem.W.Fast.tw3473095557003556528:=0
def PySem.W.Fast.tw14094079427589823051:=0
def PySem.W.Fast.tw14830801312129100670:=0
def PySem.W.Fast.tw5453794840980937446:=0
def PySem.W.Fast.tw2795040962560079782:=0
def PySem.W.Fast.tw14241021722288565417:=0
def PySem.W.Fast.tw13757589605226948556:=0
def PySem.W.Fast.tw15213118913468867492:=0
def PySem.W.Fast.tw9334707707487909778:=0
def PySem.W.Fast.tw263329641128620411:=0
def PySem.W.Fast.tw7265421554342747897:=0
def PySem.W.Fast.tw6820323164329115104:=0
def PySem.W.Fast.tw2781392171952341668:=0
def PySem.W.Fast.tw2048830700388917219:=0
def PySem.W.Fast.tw532626899420545046:=0
def PySem.W.Fast.tw6500698715309001359:=0
def PySem.W.Fast.tw520158335590737810:=0
def PySem.W.Fast.tw5861546278814030304:=0
def PySem.W.Fast.tw10386332503143790548:=0
def PySem.W.Fast.tw1571863790522645476:=0
def PySem.W.Fast.tw16785115244941252068:=0
def PySem.W.Fast.tw794662289258255472:=0
def PySem.W.Fast.tw17360318718994997035:=0
def PySem.W.Fast.tw4748388110070833385:=0
def PySem.W.Fast.tw9251940940813997992:=0
def PySem.W.Fast.tw4901212038078863051:=0
def PySem.W.Fast.tw16884724904696940004:=0
def PySem.W.Fast.tw9612666792040369470:=0
def PySem.W.Fast.tw17929382961854039224:=0
def PySem.W.Fast.tw16743536774862016030:=0
def PySem.W.Fast.tw6507642895630926049:=0
def PySem.W.Fast.tw7525073290932408010:=0
def PySem.W.Fast.tw14069418545699458992:=0
def PySem.W.Fast.tw1266976074590735120:=0
def PySem.W.Fast.tw2008047339017704268:=0
def PySem.W.Fast.tw3095561437574912474:=0
def PySem.W.Fast.tw18055928850428107733:=0
def PySem.W.Fast.tw11984381781424051512:=0
def PySem.W.Fast.tw1521558108291490969:=0
def PySem.W.Fast.tw8585222006240406715:=0
def PySem.W.Fast.tw17215089330736830322:=0
def PySem.W.Fast.tw3565958120139897292:=0
def PySem.W.Fast.tw14154291191874142947:=0
def PySem.W.Fast.tw2274404334385856797:=0
def PySem.W.Fast.tw679589771317743193:=0
def PySem.W.Fast.tw17599884512869465194:=0
def PySem.W.Fast.tw15101777997876538237:=0
def PySem.W.Fast.tw9048645233735199:=0
def PySem.W.Fast.tw1643410550713938443:=0
def PySem.W.Fast.tw3327401881354547013:=0
def PySem.W.Fast.tw8870328003796233532:=0
def PySem.W.Fast.tw9797326214645238412:=0
def PySem.W.Fast.tw3906468931531060821:=0
def PySem.W.Fast.tw3042431406567826932:=0
def PySem.W.Fast.tw9494611889261330717:=0
def PySem.W.Fast.tw3837314355361967294:=0
def PySem.W.Fast.tw1303437928048391076:=0
def PySem.W.Fast.tw8751517886006852031:=0
def PySem.W.Fast.tw3179241073934339132:=0
def PySem.W.Fast.tw1033701603020161818:=0
def PySem.W.Fast.tw18111340669446658867:=0
def PySem.W.Fast.tw3412515144962045151:=0
def PySem.W.Fast.tw18108097483733001665:=0
def PySem.W.Fast.tw3758850855976255051:=0
def PySem.W.Fast.tw10950626480959894135:=0
def PySem.W.Fast.tw18291369263561765082:=0
def PySem.W.Fast.tw16259906549659376678:=0
def PySem.W.Fast.tw6936377892043124233:=0
def PySem.W.Fast.tw18245369207120118079:=0
def PySem.W.Fast.tw11362356110129085168:=0
def PySem.W.Fast.tw8864704180182760834:=0
def PySem.W.Fast.tw15988807802213811131:=0
def PySem.W.Fast.tw14205931337448947840:=0
def PySem.W.Fast.tw7705257720042737769:=0
def PySem.W.Fast.tw17676199655966207633:=0
def PySem.W.Fast.tw3772313003434497833:=0
def PySem.W.Fast.tw3919631677418631034:=0
def PySem.W.Fast.tw13104824032962158597:=0
def PySem.W.Fast.tw2920043856297359310:=0
def PySem.W.Fast.tw1161253371914359407:=0
def PySem.W.Fast.tw17902480985016252195:=0
def PySem.W.Fast.tw10341737411440667635:=0
def PySem.W.Fast.tw8254168553619424510:=0
def PySem.W.Fast.tw15592800934956172335:=0
def PySem.W.Fast.tw5808981743894591234:=0
def PySem.W.Fast.tw7135601295990410942:=0
def PySem.W.Fast.tw3243926797275433823:=0
def PySem.W.Fast.tw11197899398602688839:=0
def PySem.W.Fast.tw12153566842988207911:=0
def PySem.W.Fast.tw7459624101457675084:=0
def PySem.W.Fast.tw10972774591785390963:=0
def PySem.W.Fast.tw5759958481672862031:=0
def PySem.W.Fast.tw9840051663370861367:=0
def PySem.W.Fast.tw5290174566030485023:=0
def PySem.W.Fast.tw5210480183054227045:=0
def PySem.W.Fast.tw16607523892611831056:=0
def PySem.W.Fast.tw6829671472378064425:=0
def PySem.W.Fast.tw11173388470462568401:=0
def PySem.W.Fast.tw8981348265559142121:=0
def PySem.W.Fast.tw1203455502034474247:=0
def PySem.W.Fast.tw4548127996612655806:=0
def PySem.W.Fast.tw18332584849952661087:=0
def PySem.W.Fast.tw316054360371405617:=0
def PySem.W.Fast.tw14142078106126443764:=0
def PySem.W.Fast.tw4772148690538069720:=0
def PySem.W.Fast.tw8355525404823136018:=0
def PySem.W.Fast.tw5871748714636346988:=0
def PySem.W.Fast.tw583292272322627990:=0
def PySem.W.Fast.tw5250242113822744639:=0
def PySem.W.Fast.tw7391591964721873645:=0
def PySem.W.Fast.tw6759082192361139412:=0
def PySem.W.Fast.tw10432350112387063695:=0
def PySem.W.Fast.tw3265665050456452776:=0
def PySem.W.Fast.tw12983034566834161617:=0
def PySem.W.Fast.tw10391662763513974839:=0
def PySem.W.Fast.tw2532345532869176757:=0
set_option Elab.async false
set_option linter.all false
set_option maxRecDepth 100000
namespace L2
open PySem PySem.Spec PyProof.Rows
noncomputable abbrev Key:=Sum Int Str
noncomputable def keyIs:Key→Value→Bool
  | .inl k,v=>Value.isInt k v
  | .inr x,v=>Value.isStrOf x v
noncomputable def keyH (w:World):Key→Int
  | .inl k=>hashInt k
  | .inr x=>hashStr w x
theorem keyIs_shape:∀ {k:Key} {v:Value},keyIs k v = true→(∃ i t,k = Sum.inl i ∧ v = Value.int i t) ∨ (∃ x t,k = Sum.inr x ∧ v = Value.str x t)
  | .inl i,v,h=>by
    obtain ⟨t,e⟩:=Value.isInt_shape (k:=i) (v:=v) h
    exact .inl ⟨i,t,rfl,e⟩
  | .inr x,v,h=>by
    obtain ⟨t,e⟩:=Value.isStrOf_shape (x:=x) (v:=v) h
    exact .inr ⟨x,t,rfl,e⟩
theorem key_ll (a b:Int):decide ((Sum.inl a:Key) = Sum.inl b) = (a == b):=by
  by_cases e:a = b
  · subst e; simp
  · have h:¬ (Sum.inl a:Key) = Sum.inl b:=fun q=>e (Sum.inl.inj q)
    rw [decide_eq_false h]
    exact (beq_eq_false_iff_ne.mpr e).symm
theorem key_rr (a b:Str):decide ((Sum.inr a:Key) = Sum.inr b) = decide (a = b):=by
  by_cases e:a = b
  · subst e; simp
  · have h:¬ (Sum.inr a:Key) = Sum.inr b:=fun q=>e (Sum.inr.inj q)
    rw [decide_eq_false h,decide_eq_false e]
theorem key_lr (a:Int) (b:Str):decide ((Sum.inl a:Key) = Sum.inr b) = false:=decide_eq_false (fun q=>nomatch q)
theorem key_rl (a:Str) (b:Int):decide ((Sum.inr a:Key) = Sum.inl b) = false:=decide_eq_false (fun q=>nomatch q)
noncomputable def mixKind (prog:Program) (w:World):PySem.KeyKind prog w Key where
  is:=keyIs
  hash:=keyH w
  inj:=fun v a b ha hb=>by
    rcases keyIs_shape ha with ⟨i,t,rfl,rfl⟩ | ⟨x,t,rfl,rfl⟩
    · rcases keyIs_shape hb with ⟨j,u,rfl,e⟩ | ⟨y,u,rfl,e⟩
      · injection e with e1 _; rw [e1]
      · exact nomatch e
    · rcases keyIs_shape hb with ⟨j,u,rfl,e⟩ | ⟨y,u,rfl,e⟩
      · exact nomatch e
      · injection e with e1 _; rw [e1]
  byValue:=fun k v h=>by
    rcases keyIs_shape h with ⟨i,t,rfl,rfl⟩ | ⟨x,t,rfl,rfl⟩ <;> rfl
  pyHash:=fun hv h=>by
    rcases keyIs_shape hv with ⟨i,t,rfl,rfl⟩ | ⟨x,t,rfl,rfl⟩
    · exact wpAny_pyHash_int h
    · exact wpAny_pyHash_str h
  eqBool:=fun hu hv h=>by
    rcases keyIs_shape hu with ⟨i,t,rfl,rfl⟩ | ⟨x,t,rfl,rfl⟩
    · rcases keyIs_shape hv with ⟨j,u,rfl,rfl⟩ | ⟨y,u,rfl,rfl⟩
      · rw [key_ll] at h; exact wpAny_eqBool_int h
      · rw [key_lr] at h; exact SeqAt.EqAt.int_str i t y u _ _ _ _ h
    · rcases keyIs_shape hv with ⟨j,u,rfl,rfl⟩ | ⟨y,u,rfl,rfl⟩
      · rw [key_rl] at h; exact SeqAt.EqAt.str_int x t j u _ _ _ _ h
      · rw [key_rr] at h; exact wpAny_eqBool_str h
  «strs»:=fun k x t v h=>by
    rcases keyIs_shape h with ⟨i,u,rfl,e⟩ | ⟨y,u,rfl,e⟩
    · exact nomatch e
    · injection e with e1 _
      subst e1
      cases v <;> rfl
end L2
namespace L2
open PySem PySem.Spec PyProof.Rows
inductive V where
  | non | bl (b:Bool) | int (i:Int) | str (x:Str) | byt (b:Array UInt8) | flt (b:UInt64) | ref (a:Addr) | ty (n:String)
  deriving DecidableEq
noncomputable def RelV:V→Value→Prop
  | .non,u=>u = Value.none
  | .bl b,u=>u = Value.bool b
  | .int i,u=>∃ t,u = Value.int i t
  | .str x,u=>∃ t,u = Value.str x t
  | .byt b,u=>∃ t,u = Value.bytes b t
  | .flt b,u=>∃ t,u = Value.float b t
  | .ref a,u=>u = Value.ref a
  | .ty n,u=>u = Value.type n
noncomputable abbrev Vals:List V→List Value→Prop:=Paired RelV
theorem Vals.length {xs:List V} {us:List Value} (r:Vals xs us):xs.length = us.length:=Paired.length r
theorem Vals.get:∀ {xs:List V} {us:List Value} {i:Nat} {x:V},Vals xs us→xs[i]? = some x→∃ u,us[i]? = some u ∧ RelV x u
  | _,_,_,_,.nil,e=>by simp at e
  | _,_,0,_,.cons r _,e=>by simp at e; subst e; exact ⟨_,rfl,r⟩
  | _,_,i + 1,x,.cons _ t,e=>by
    obtain ⟨u,h1,h2⟩:=Vals.get (i:=i) (x:=x) t (by simpa using e)
    exact ⟨u,by simpa using h1,h2⟩
theorem Vals.set {x:V} {u:Value} (r:RelV x u):∀ {xs:List V} {us:List Value} (i:Nat),Vals xs us→Vals (xs.set i x) (us.set i u)
  | _,_,_,.nil=>.nil
  | _,_,0,.cons _ t=>.cons r t
  | _,_,i + 1,.cons q t=>.cons q (Vals.set r i t)
theorem Vals.append:∀ {xs ys:List V} {us ws:List Value},Vals xs us→Vals ys ws→Vals (xs ++ ys) (us ++ ws)
  | _,_,_,_,.nil,s=>s
  | _,_,_,_,.cons r t,s=>.cons r (Vals.append t s)
theorem Vals.take:∀ {xs:List V} {us:List Value} (n:Nat),Vals xs us→Vals (xs.take n) (us.take n)
  | _,_,0,_=>.nil
  | _,_,_ + 1,.nil=>.nil
  | _,_,n + 1,.cons r t=>.cons r (Vals.take n t)
theorem Vals.drop:∀ {xs:List V} {us:List Value} (n:Nat),Vals xs us→Vals (xs.drop n) (us.drop n)
  | _,_,0,r=>r
  | _,_,_ + 1,.nil=>.nil
  | _,_,n + 1,.cons _ t=>Vals.drop n t
noncomputable def RelO:Option V→Option Value→Prop
  | some v,some u=>RelV v u
  | none,none=>True
  | _,_=>False
noncomputable def KV {κ:Type}:List (κ × V)→List (κ × Value)→Prop:=Paired fun (p:κ × V) (q:κ × Value)=>p.1 = q.1 ∧ RelV p.2 q.2
noncomputable def kV:Key→V
  | .inl i=>.int i
  | .inr x=>.str x
inductive HO where
  /-- a list -/
  | lst (xs:List V)
  /-- a tuple (never changes) -/
  | tup (xs:List V)
  /-- a dict whose keys are ints and texts; one whose keys are tuples of ints and texts (the empty one is both) -/
  | dK (kvs:List (Key × V)) | dT (kvs:List (List Key × V))
  /-- a set of ints: its members,its size -/
  | set (S:Int→Bool) (n:Nat)
  /-- an instance of the class at C,its dict at dx,its attributes -/
  | ins (C dx:Addr) (fs:List (Str × V))
  /-- the dict of the instance at x -/
  | own (x:Addr)
  /-- the dict of an exception -/
  | xd (fs:List (Str × V))
  /-- a bound method,f of x -/
  | met (f x:Addr)
  /-- a range object lo,lo + 1,.. below hi -/
  | rng (lo hi:Int)
  /-- a thing that is known to the object (the script; a dict while a loop walks it): read,never written while it is so -/
  | frz (o:Obj) (u:HO)
  /-- a code object's table -/
  | tbl (ps:Array Value)
  /-- any other thing,by what is true of its one object (a def of one's own: SetO a S n:=HO.ext fun h=>..) -/
  | ext (φ:Heap→Prop)
noncomputable abbrev Hp:=Addr→Option HO
noncomputable def upd (H:Hp) (a:Addr) (o:HO):Hp:=fun b=>if b = a then some o else H b
theorem upd_same {H:Hp} {a:Addr} {o:HO}:upd H a o a = some o:=by unfold upd; rw [if_pos rfl]
theorem upd_ne {H:Hp} {a b:Addr} {o:HO} (h:b ≠ a):upd H a o b = H b:=by unfold upd; rw [if_neg h]
theorem ne_of_none {H:Hp} {a b:Addr} {o:HO} (h:H a = some o) (h':H b = none):a ≠ b:=by
  intro e; subst e; rw [h] at h'; cases h'
section
variable (P:Program) (w:World)
noncomputable def ObjOk (H:Hp) (h:Heap) (a:Addr):HO→Prop
  | .lst xs=>xs.length ≤ sizeLine ∧ ∃ (its:List Value) (n:Nat),Vals xs its ∧ h.get? a = some { cls:=.type "list",data:=.seq its.toArray n }
  | .tup xs=>xs.length ≤ sizeLine ∧ ∃ its:List Value,Vals xs its ∧ IsTup h a its.toArray
  | .dK kvs=>kvs.length ≤ sizeLine ∧ (a == sysModules) = false ∧ ∃ vs,KV kvs vs ∧ h.DictOf (mixKind P w) a vs
  | .dT kvs=>kvs.length ≤ sizeLine ∧ (a == sysModules) = false ∧ ∃ xs:List (List Key × Addr × Value),
      Paired (fun (p:List Key × V) (q:List Key × Addr × Value)=>p.1 = q.1 ∧ H q.2.1 = some (.tup (p.1.map kV)) ∧ RelV p.2 q.2.2) kvs xs ∧
      ∃ o es ep,h.get? a = some o ∧ o.ExactDict ∧ o.data = .dict es ep ∧ es.toList = xs.map (entryOfKey (tupleKind (mixKind P w))) ∧ (xs.map (·.1)).Nodup
  | .set S n=>h.SetOf (intKind P w) a S n
  | .ins C dx fs=>H dx = some (.own a) ∧ fs.length ≤ 1000 ∧ dx ≠ a ∧ h.get? a = some (PySem.W.instObj C dx) ∧
      ∃ mA,h.Ns1 dx mA ∧ (∀ f,RelO (fs.lookup f) (mA f)) ∧ PySem.Within mA (fs.map (·.1))
  | .own _=>∃ o,h.get? a = some o
  | .xd fs=>∃ mA,h.Ns1 a mA ∧ ∀ f,RelO (fs.lookup f) (mA f)
  | .rng lo hi=>∃ t u v,h.get? a = some { cls:=.type "range",data:=.fields #[.int lo t,.int hi u,.int 1 v] }
  | .frz o u=>h.get? a = some o ∧ ObjOk H h a u
  | .tbl ps=>h.get? a = some { cls:=.none,data:=.fields ps }
  | .met f x=>h.get? a = some (PySem.W.methodObj (.ref f) (.ref x))
  | .ext φ=>φ h ∧ (∃ o,h.get? a = some o) ∧ ∀ h1 h2:Heap,φ h1→(∀ o,h1.get? a = some o→h2.get? a = some o)→φ h2
noncomputable def HOk (H:Hp) (h:Heap):Prop:=∀ a o,H a = some o→ObjOk P w H h a o
end
section
variable {P:Program} {w:World} {H H':Hp} {h h':Heap} {a:Addr} {o:HO}
theorem ObjOk.lt (x:ObjOk P w H h a o):a < h.objs.size:=by
  cases o with
  | lst xs=>obtain ⟨_,_,_,_,e⟩:=x; exact Heap.lt_size e
  | tup xs=>obtain ⟨_,_,_,p⟩:=x; exact p.lt
  | dK kvs=>obtain ⟨_,_,_,_,o,_,_,e,_⟩:=x; exact Heap.lt_size e
  | dT kvs=>obtain ⟨_,_,_,_,o,_,_,e,_⟩:=x; exact Heap.lt_size e
  | set S n=>obtain ⟨o,_,_,_,e,_⟩:=x; exact Heap.lt_size e
  | ins C dx fs=>obtain ⟨_,_,_,e,_⟩:=x; exact Heap.lt_size e
  | own y=>obtain ⟨_,e⟩:=x; exact Heap.lt_size e
  | xd fs=>obtain ⟨_,⟨_,_,_,e,_⟩,_⟩:=x; exact Heap.lt_size e
  | rng lo hi=>obtain ⟨_,_,_,e⟩:=x; exact Heap.lt_size e
  | frz ob u=>obtain ⟨e,_⟩:=x; exact Heap.lt_size e
  | tbl ps=>exact Heap.lt_size (show h.get? a = some _ from x)
  | met f y=>exact Heap.lt_size (show h.get? a = some _ from x)
  | ext φ=>obtain ⟨_,⟨_,e⟩,_⟩:=x; exact Heap.lt_size e
theorem Paired.mapP {α β:Type} {F G:α→β→Prop}:∀ {l₁:List α} {l₂:List β},Paired F l₁ l₂→(∀ a b,F a b→G a b)→Paired G l₁ l₂
  | _,_,.nil,_=>.nil
  | _,_,.cons r t,f=>.cons (f _ _ r) (Paired.mapP t f)
theorem ObjOk.stay (x:ObjOk P w H h a o) (k:∀ b u,(b = a ∨ H b = some (.own a))→h.get? b = some u→h'.get? b = some u)
    (ho:∀ b,H b = some (.own a)→H' b = some (.own a)) (ht:∀ b xs,H b = some (.tup xs)→H' b = some (.tup xs)):ObjOk P w H' h' a o:=by
  induction o with
  | lst xs=>obtain ⟨z,its,n,r,e⟩:=x; exact ⟨z,its,n,r,k _ _ (.inl rfl) e⟩
  | tup xs=>obtain ⟨z,its,r,ob,e,c⟩:=x; exact ⟨z,its,r,ob,k _ _ (.inl rfl) e,c⟩
  | dK kvs=>obtain ⟨z,y,vs,r,ob,es,ep,e,c⟩:=x; exact ⟨z,y,vs,r,ob,es,ep,k _ _ (.inl rfl) e,c⟩
  | dT kvs =>
    obtain ⟨z,y,xs,r,ob,es,ep,e,c⟩:=x
    exact ⟨z,y,xs,Paired.mapP r fun p q z=>⟨z.1,ht _ _ z.2.1,z.2.2⟩,ob,es,ep,k _ _ (.inl rfl) e,c⟩
  | set S n=>obtain ⟨ob,es,ep,t,e,c⟩:=x; exact ⟨ob,es,ep,t,k _ _ (.inl rfl) e,c⟩
  | ins C dx fs =>
    obtain ⟨d,z,ne,e,mA,⟨od,es,ep,e2,c⟩,r⟩:=x
    exact ⟨ho _ d,z,ne,k _ _ (.inl rfl) e,mA,⟨od,es,ep,k _ _ (.inr d) e2,c⟩,r⟩
  | own y=>obtain ⟨ob,e⟩:=x; exact ⟨ob,k _ _ (.inl rfl) e⟩
  | xd fs=>obtain ⟨mA,⟨od,es,ep,e,c⟩,r⟩:=x; exact ⟨mA,⟨od,es,ep,k _ _ (.inl rfl) e,c⟩,r⟩
  | rng lo hi=>obtain ⟨t,u,v,e⟩:=x; exact ⟨t,u,v,k _ _ (.inl rfl) e⟩
  | frz ob u ih=>obtain ⟨e,q⟩:=x; exact ⟨k _ _ (.inl rfl) e,ih q⟩
  | tbl ps =>
    have e:h.get? a = some { cls:=.none,data:=.fields ps }:=x
    show h'.get? a = some { cls:=.none,data:=.fields ps }
    exact k a _ (.inl rfl) e
  | met f y =>
    have e:h.get? a = some (PySem.W.methodObj (.ref f) (.ref y)):=x
    show h'.get? a = some (PySem.W.methodObj (.ref f) (.ref y))
    exact k a _ (.inl rfl) e
  | ext φ=>obtain ⟨p,⟨o,e⟩,st⟩:=x; exact ⟨st _ _ p fun o q=>k _ _ (.inl rfl) q,⟨o,k _ _ (.inl rfl) e⟩,st⟩
theorem HOk.lt (x:HOk P w H h) (e:H a = some o):a < h.objs.size:=(x a o e).lt
theorem HOk.fresh (x:HOk P w H h) (e:h.objs.size ≤ a):H a = none:=by
  cases q:H a with
  | none=>rfl
  | some u=>exact absurd (Nat.lt_of_lt_of_le (x.lt q) e) (Nat.lt_irrefl _)
theorem HOk.kept (x:HOk P w H h) (k:∀ b u,h.get? b = some u→h'.get? b = some u):HOk P w H h':=fun a o e =>
  (x a o e).stay (fun b u _ q=>k b u q) (fun _ q=>q) fun _ _ q=>q
theorem HOk.laid (x:HOk P w H h) (k:∀ b u,h.get? b = some u→h'.get? b = some u) (hp:h.objs.size ≤ a) (new:ObjOk P w (upd H a o) h' a o):HOk P w (upd H a o) h':=fun b u e=>by
  have hn:=x.fresh hp
  by_cases hb:b = a
  · subst hb; rw [upd_same] at e; cases e; exact new
  · rw [upd_ne hb] at e
    exact (x b u e).stay (fun c v _ q=>k c v q) (fun c q=>by rw [upd_ne (ne_of_none q hn)]; exact q) fun c xs q=>by rw [upd_ne (ne_of_none q hn)]; exact q
end
noncomputable def Rd (H:Hp) (a:Addr) (u:HO):Prop:=H a = some u ∨ ∃ o,H a = some (.frz o u)
theorem Rd.ok {P:Program} {w:World} {H:Hp} {h:Heap} {a:Addr} {u:HO} (r:Rd H a u) (x:HOk P w H h):ObjOk P w H h a u:=by
  rcases r with r | ⟨o,r⟩
  · exact x a u r
  · obtain ⟨_,q⟩:=x a _ r
    exact q
noncomputable def Mut:Option HO→Prop
  | some (.lst _)=>True
  | some (.dK _)=>True
  | some (.dT _)=>True
  | some (.set _ _)=>True
  | some (.ins _ _ _)=>True
  | some (.ext _)=>True
  | _=>False
section
variable {P:Program} {w:World} {H:Hp} {h h':Heap} {x e:Addr} {o':HO}
theorem HOk.write (ok:HOk P w H h) (mu:Mut (H x)) (he:e = x ∨ H e = some (.own x)) (k:∀ b u,b ≠ e→h.get? b = some u→h'.get? b = some u) (heo:∃ u,h'.get? e = some u)
    (new:ObjOk P w (upd H x o') h' x o'):HOk P w (upd H x o') h':=fun b u q=>by
  have nown:∀ c y,H c = some (.own y)→c ≠ x:=fun c y r z=>by subst z; rw [r] at mu; exact mu
  have ntup:∀ c xs,H c = some (.tup xs)→c ≠ x:=fun c xs r z=>by subst z; rw [r] at mu; exact mu
  by_cases hb:b = x
  · subst hb; rw [upd_same] at q; cases q; exact new
  · rw [upd_ne hb] at q
    by_cases hbe:b = e
    · have q':H b = some (.own x):=by
        rcases he with z | z
        · exact absurd (hbe.trans z) hb
        · rw [hbe]; exact z
      rw [q] at q'; cases q'
      obtain ⟨v,hv⟩:=heo
      exact ⟨v,by rw [hbe]; exact hv⟩
    · refine (ok b u q).stay (fun c v hc r=>k c v ?_ r) (fun c r=>by rw [upd_ne (nown c b r)]; exact r) fun c xs r=>by rw [upd_ne (ntup c xs r)]; exact r
      rcases hc with rfl | hc
      · exact hbe
      · rintro rfl
        rcases he with z | z
        · exact nown c b hc z
        · rw [hc] at z; cases z; exact hb rfl
end
structure Un (fs ex:List Addr) (H H':Hp) (h h':Heap):Prop where
  keep:∀ b o,h.get? b = some o→H b = none→b ∉ fs→b ∉ ex→h'.get? b = some o
  slot:∀ b o,h.get? b = some o→H b = none→b ∈ fs→b ∉ ex→∃ sl,h'.get? b = some { o with slots:=sl }
  free:∀ b o,h.get? b = some o→H b = none→b ∉ ex→H' b = none
  there:∀ b o,h.get? b = some o→b ∉ ex→∃ o',h'.get? b = some o'
  tups:∀ b xs,H b = some (.tup xs)→H' b = some (.tup xs)
  frzs:∀ b o u,H b = some (.frz o u)→H' b = some (.frz o u)
  tbls:∀ b ps,H b = some (.tbl ps)→∃ more,H' b = some (.tbl (ps ++ more))
section
variable {fs fs' ex ex':List Addr} {H H1 H2:Hp} {h h1 h2 h':Heap} {a x e:Addr} {o:HO}
theorem Un.any (u:Un fs ex H H1 h h1) {b:Addr} {ob:Obj} (q:h.get? b = some ob) (n:H b = none) (hx:b ∉ ex):∃ sl,h1.get? b = some { ob with slots:=sl }:=by
  by_cases hb:b ∈ fs
  · exact u.slot b ob q n hb hx
  · exact ⟨ob.slots,u.keep b ob q n hb hx⟩
theorem Un.kept (k:∀ b u,h.get? b = some u→h'.get? b = some u):Un fs ex H H h h' :=
  ⟨fun b ob q _ _ _=>k b ob q,fun b ob q _ _ _=>⟨ob.slots,k b ob q⟩,fun _ _ _ n _=>n,fun b ob q _=>⟨ob,k b ob q⟩,fun _ _ q=>q,fun _ _ _ q=>q,fun _ ps q=>⟨#[],by rw [q]; simp⟩⟩
theorem Un.refl:Un fs ex H H h h:=Un.kept fun _ _ q=>q
theorem Un.laid (k:∀ b u,h.get? b = some u→h'.get? b = some u) (hp:h.objs.size ≤ a) (hn:H a = none):Un fs ex H (upd H a o) h h' where
  keep:=fun b u q _ _ _=>k b u q
  slot:=fun b u q _ _ _=>⟨u.slots,k b u q⟩
  free:=fun b u q n _=>by rw [upd_ne (Nat.ne_of_lt (Nat.lt_of_lt_of_le (Heap.lt_size q) hp))]; exact n
  there:=fun b u q _=>⟨u,k b u q⟩
  tups:=fun b xs q=>by rw [upd_ne (ne_of_none q hn)]; exact q
  frzs:=fun b u xs q=>by rw [upd_ne (ne_of_none q hn)]; exact q
  tbls:=fun b ps q=>⟨#[],by rw [upd_ne (ne_of_none q hn),q]; simp⟩
theorem Un.write (mu:Mut (H x)) (he:e = x ∨ H e = some (.own x)) (k:∀ b u,b ≠ e→h.get? b = some u→h'.get? b = some u) (heo:∃ u,h'.get? e = some u):Un fs ex H (upd H x o) h h':=by
  have hx:∀ b,H b = none→b ≠ x:=fun b n z=>by subst z; rw [n] at mu; exact mu
  have hb:∀ b,H b = none→b ≠ e:=fun b n z=>by
    subst z
    rcases he with r | r
    · exact hx b n r
    · rw [n] at r; cases r
  have hm:∀ b u,H b = some u→¬ Mut (some u)→b ≠ x:=fun b u q nm z=>by subst z; rw [q] at mu; exact nm mu
  refine ⟨fun b u q n _ _=>k b u (hb b n) q,fun b u q n _ _=>⟨u.slots,k b u (hb b n) q⟩,fun b u q n _=>by rw [upd_ne (hx b n)]; exact n,fun b u q _=>?_,
    fun b xs q=>by rw [upd_ne (hm b _ q fun z=>z)]; exact q,fun b u xs q=>by rw [upd_ne (hm b _ q fun z=>z)]; exact q,fun b ps q=>⟨#[],by rw [upd_ne (hm b _ q fun z=>z),q]; simp⟩⟩
  by_cases hbe:b = e
  · subst hbe; exact heo
  · exact ⟨u,k b u hbe q⟩
end
noncomputable def trk (h:Heap) (H:Hp):List Addr:=(List.range h.objs.size).filter fun a=>(H a).isSome
noncomputable def hidT (h:Heap) (H:Hp):Heap:=PySem.W.hideAll h (trk h H)
theorem hidT_size (h:Heap) (H:Hp):(hidT h H).objs.size = h.objs.size:=PySem.W.hideAll_size _ _
theorem hidT_get {h:Heap} {H:Hp} {b:Addr} {o:Obj} (e:h.get? b = some o) (n:H b = none):(hidT h H).get? b = some o :=
  PySem.W.hideAll_get _ e fun hm=>by
    have q:(H b).isSome = true:=(List.mem_filter.mp hm).2
    rw [n] at q; simp at q
theorem of_hidT {h:Heap} {H:Hp} {b:Addr} {o:Obj} (e:(hidT h H).get? b = some o):h.get? b = some o ∧ H b = none:=by
  have e':h.get? b = some o:=PySem.W.of_hideAll (trk h H) e
  refine ⟨e',?_⟩
  cases q:H b with
  | none=>rfl
  | some x =>
    have hm:b ∈ trk h H:=List.mem_filter.mpr ⟨List.mem_range.mpr (Heap.lt_size e'),by simp [q]⟩
    have z:(hidT h H).get? b = none:=PySem.W.hideAll_none (trk h H) hm
    rw [z] at e; cases e
end L2
namespace L2
open PySem PySem.Spec PyProof.Rows
structure Mod (K:PySem.W.Frag) (mg:Str→Option Value) (base:Heap):Prop where
  kin:K.In base
  glob:base.Ns mainGlobals mg
  blt:∃ mb,base.Ns builtinsNs mb ∧ ∀ x:Str,x ≠ "__name__"→mb x = bootBuiltins x
  nolimit:base.NoLimit
/-- the context: a def's body (or a comprehension's block) running. base: fixed through the whole law; s₀,H₀: the entry; outer: the frames whose slots others may change (a def's callers); stack: all frames that run;
   ex: iterators that were made ahead of the entry and are walked here (a comprehension's); fn: the names whose cells were made at the entry (a def: all; a comprehension's block: its own); calm: not within an except suite; pn: pins that every state bears; xe: what is wanted of an exception that leaves the code -/
structure Cx where
  prog:Program
  w:World
  K:PySem.W.Frag
  mg:Str→Option Value
  base:Heap
  A:Around
  N:List Str
  s₀:Shared
  H₀:Hp
  env:Env
  outer:List Env
  stack:List Env
  ex:List Addr
  fn:Str→Bool
  calm:Bool
  pn:List (Addr × Obj)
  xe:Value→Shared→Prop
noncomputable def frs (l:List Env):List Addr:=l.filterMap (·.frame)
noncomputable abbrev Cx.fs (X:Cx):List Addr:=frs X.outer
noncomputable def Vis (sc:Scope) (x:Str):Prop:=sc.names.lookup x = some .local ∨ sc.names.lookup x = some .cell ∨ sc.names.lookup x = some .free
noncomputable def Loc (sc:Scope) (x:Str):Prop:=sc.names.lookup x = some .local ∨ sc.names.lookup x = some .cell
noncomputable def Look (env:Env) (h:Heap) (m:Str→Option Value) (x:Str) (u:Value):Prop :=
  (env.kindOf x = some .local ∧ m x = some u) ∨ ((env.kindOf x = some .cell ∨ env.kindOf x = some .free) ∧ ∃ c,env.cells.lookup x = some c ∧ h.IsCell c (some u))
structure Cx.Ok (X:Cx):Prop where
  mod:Mod X.K X.mg X.base
  kind:X.env.scope.kind = .function
  glob:X.env.globals = mainGlobals
  blt:X.env.builtins = builtinsNs
  above:X.s₀.heap.objs.size ≤ X.env.locals
  inj:∀ x y c,X.env.cells.lookup x = some c→X.env.cells.lookup y = some c→x = y
  has:∀ x,(X.env.kindOf x = some .cell ∨ X.env.kindOf x = some .free)→∃ c,X.env.cells.lookup x = some c
  cab:∀ x c,X.fn x = true→X.env.cells.lookup x = some c→X.s₀.heap.objs.size ≤ c
  hd:X.calm = true→X.A.handled = none
  frames:X.A.frames = some X.stack
  stk:X.stack = X.outer ∨ (X.stack = X.env :: X.outer ∧ X.env.frame = some X.env.locals)
  exf:∀ b ∈ X.ex,b ≠ X.env.locals ∧ ∀ x c,X.env.cells.lookup x = some c→c ≠ b
  bs:∀ b o,X.base.get? b = some o→X.s₀.heap.get? b = some o ∧ X.H₀ b = none
  bsz:X.base.objs.size ≤ X.s₀.heap.objs.size
  noex:∀ b o,X.base.get? b = some o→b ∉ X.ex
  exfs:∀ b ∈ X.ex,b ∉ X.fs
  funs:X.s₀.heap.FunFrames X.base X.outer
  frf:∀ b ∈ X.fs,X.H₀ b = none
structure Inv (X:Cx) (pins:List (Addr × Obj)) (σ:List (Option V)) (H:Hp) (s:Shared):Prop where
  ok:X.Ok
  os:s.os = X.s₀.os
  bare:AllBare s.gens
  base:Un X.fs X.ex X.H₀ H X.s₀.heap s.heap
  loc:∃ m,s.heap.Ns X.env.locals m ∧ ∀ (i:Nat) (x:Str) (v:V),X.N[i]? = some x→σ[i]? = some (some v)→Vis X.env.scope x→∃ u,RelV v u ∧ Look X.env s.heap m x u
  cell:∀ x c,X.env.cells.lookup x = some c→∃ v,s.heap.IsCell c v
  free:H X.env.locals = none
  freeC:∀ x c,X.env.cells.lookup x = some c→H c = none
  pin:∀ p ∈ X.pn ++ pins,s.heap.get? p.1 = some p.2 ∧ H p.1 = none ∧ p.1 ≠ X.env.locals ∧ p.1 ∉ X.fs ∧ ∀ v,p.2.data ≠ .cell v
  hok:HOk X.prog X.w H s.heap
  len:σ.length = X.N.length
section
variable {X:Cx} {pins:List (Addr × Obj)} {σ:List (Option V)} {H H':Hp} {s:Shared} {h':Heap}
theorem Cx.Ok.nofr (ok:X.Ok) {b:Addr} {o:Obj} (e:X.base.get? b = some o):b ∉ X.fs:=fun hb=>by
  have:=(ok.funs.mem hb).1
  rw [e] at this; cases this
theorem Inv.bs (I:Inv X pins σ H s):∀ b o,X.base.get? b = some o→s.heap.get? b = some o ∧ H b = none:=fun b o e =>
  ⟨I.base.keep b o (I.ok.bs b o e).1 (I.ok.bs b o e).2 (I.ok.nofr e) (I.ok.noex b o e),I.base.free b o (I.ok.bs b o e).1 (I.ok.bs b o e).2 (I.ok.noex b o e)⟩
theorem Inv.bk (I:Inv X pins σ H s):∀ b o,X.base.get? b = some o→s.heap.get? b = some o:=fun b o e=>(I.bs b o e).1
theorem Inv.mod (I:Inv X pins σ H s):Mod X.K X.mg X.base:=I.ok.mod
theorem Inv.kIn (I:Inv X pins σ H s):X.K.In s.heap:=I.ok.mod.kin.keeps I.bk
theorem Inv.nolimit (I:Inv X pins σ H s):s.heap.NoLimit:=I.ok.mod.nolimit.keeps I.bk
theorem Inv.lt (I:Inv X pins σ H s):X.env.locals < s.heap.objs.size:=let ⟨_,hn,_⟩:=I.loc; hn.lt
theorem Inv.sz (I:Inv X pins σ H s):X.s₀.heap.objs.size ≤ s.heap.objs.size:=Nat.le_trans I.ok.above (Nat.le_of_lt I.lt)
theorem Inv.nofs (I:Inv X pins σ H s) {a:Addr} (h:s.heap.objs.size ≤ a):a ∉ X.fs:=fun hb=>by
  obtain ⟨_,o,ho,_⟩:=I.ok.funs.mem hb
  exact absurd (Nat.lt_of_lt_of_le (Heap.lt_size ho) (Nat.le_trans I.sz h)) (Nat.lt_irrefl _)
theorem Inv.cne (I:Inv X pins σ H s):∀ x c,X.env.cells.lookup x = some c→c ≠ X.env.locals:=fun x c e z=>by
  obtain ⟨v,o,ho,hd⟩:=I.cell x c e
  obtain ⟨m,⟨o',es,ep,ho',hd',_⟩,_⟩:=I.loc
  rw [z,ho'] at ho; cases ho; rw [hd'] at hd; cases hd
theorem Inv.funs (I:Inv X pins σ H s):s.heap.FunFrames X.base X.outer:=by
  have all:∀ (l:List Env),(∀ b ∈ frs l,b ∈ X.fs)→X.s₀.heap.FunFrames X.base l→s.heap.FunFrames X.base l:=by
    intro l
    induction l with
    | nil=>intro _ _; trivial
    | cons env r ih =>
      intro hs hl
      obtain ⟨hk,⟨L,o,hf,hn,ho,hd⟩,hr⟩:=hl
      have hL:L ∈ X.fs:=hs L (by unfold frs; rw [List.filterMap_cons,hf]; exact List.mem_cons_self)
      obtain ⟨sl,e⟩:=I.base.slot L o ho (I.ok.frf L hL) hL fun z=>I.ok.exfs L z hL
      exact ⟨hk,⟨L,_,hf,hn,e,hd⟩,ih (fun b hb=>hs b (by unfold frs; rw [List.filterMap_cons,hf]; exact List.mem_cons_of_mem _ hb)) hr⟩
  exact all X.outer (fun _ hb=>hb) I.ok.funs
theorem Inv.stack (I:Inv X pins σ H s):s.heap.FunFrames X.base X.stack:=by
  rcases I.ok.stk with e | ⟨e,hf⟩
  · rw [e]; exact I.funs
  · rw [e]
    obtain ⟨m,hn,_⟩:=I.loc
    refine .cons (by rw [I.ok.kind]; decide) hf hn ?_ I.funs
    exact Heap.get?_none_of_le (Nat.le_trans I.ok.bsz I.ok.above)
theorem Inv.stkSub (I:Inv X pins σ H s):∀ b ∈ frs X.stack,b ∈ X.env.locals :: X.fs:=fun b hb=>by
  rcases I.ok.stk with e | ⟨e,hf⟩
  · rw [e] at hb; exact List.mem_cons_of_mem _ hb
  · rw [e] at hb
    unfold frs at hb
    rw [List.filterMap_cons,hf] at hb
    exact hb
theorem Inv.stkFree (I:Inv X pins σ H s):∀ b ∈ frs X.stack,H b = none:=fun b hb=>by
  rcases List.mem_cons.mp (I.stkSub b hb) with e | hb
  · rw [e]; exact I.free
  · obtain ⟨_,o,ho,_⟩:=I.ok.funs.mem hb
    exact I.base.free b o ho (I.ok.frf b hb) fun z=>I.ok.exfs b z hb
theorem Inv.step {g':Array GenState} {t':Nat} {d':Drawn} {ch:List Addr} (I:Inv X pins σ H s)
    (hch:∀ b ∈ ch,(b ∈ X.ex ∨ X.s₀.heap.objs.size ≤ b) ∧ b ≠ X.env.locals ∧ (∀ x c,X.env.cells.lookup x = some c→c ≠ b) ∧ ∀ p ∈ X.pn ++ pins,p.1 ≠ b)
    (keep:∀ b o,b ≠ X.env.locals→b ∉ X.fs→b ∉ ch→s.heap.get? b = some o→H b = none→h'.get? b = some o)
    (slot:∀ b o,b ≠ X.env.locals→b ∈ X.fs→b ∉ ch→s.heap.get? b = some o→H b = none→∃ sl,h'.get? b = some { o with slots:=sl }) (free:∀ b o,b ∉ ch→s.heap.get? b = some o→H b = none→H' b = none)
    (there:∀ b o,b ∉ ch→s.heap.get? b = some o→∃ o',h'.get? b = some o')
    (tups:∀ b xs,H b = some (.tup xs)→H' b = some (.tup xs)) (frzs:∀ b o u,H b = some (.frz o u)→H' b = some (.frz o u)) (tbls:∀ b ps,H b = some (.tbl ps)→∃ more,H' b = some (.tbl (ps ++ more)))
    (ns:∀ m,s.heap.Ns X.env.locals m→h'.Ns X.env.locals m) (hok:HOk X.prog X.w H' h') (hg:AllBare g') :
    Inv X pins σ H' { s with heap:=h',gens:=g',drawn:=d',toks:=t' }:=by
  have neL:∀ b o,X.s₀.heap.get? b = some o→b ≠ X.env.locals:=fun b o e=>Nat.ne_of_lt (Nat.lt_of_lt_of_le (Heap.lt_size e) I.ok.above)
  have neC:∀ b o,X.s₀.heap.get? b = some o→b ∉ X.ex→b ∉ ch:=fun b o e hx hb=>by
    rcases (hch b hb).1 with z | z
    · exact hx z
    · exact absurd (Nat.lt_of_lt_of_le (Heap.lt_size e) z) (Nat.lt_irrefl _)
  have cellK:∀ x c,X.env.cells.lookup x = some c→∀ v,s.heap.IsCell c v→h'.IsCell c v:=fun x c e v ⟨o,ho,hd⟩=>by
    have nch:c ∉ ch:=fun z=>(hch c z).2.2.1 x c e rfl
    by_cases hc:c ∈ X.fs
    · obtain ⟨sl,q⟩:=slot c o (I.cne x c e) hc nch ho (I.freeC x c e)
      exact ⟨_,q,hd⟩
    · exact ⟨o,keep c o (I.cne x c e) hc nch ho (I.freeC x c e),hd⟩
  refine ⟨I.ok,I.os,hg,⟨fun b o e n hb hx=>?_,fun b o e n hb hx=>?_,fun b o e n hx=>?_,fun b o e hx=>?_,fun b xs e=>tups b xs (I.base.tups b xs e),fun b o xs e=>frzs b o xs (I.base.frzs b o xs e),fun b ps e=>?_⟩,?_,fun x c e=>?_,?_,fun x c e=>?_,fun p hp=>?_,hok,I.len⟩
  · exact keep b o (neL b o e) hb (neC b o e hx) (I.base.keep b o e n hb hx) (I.base.free b o e n hx)
  · obtain ⟨sl,e1⟩:=I.base.slot b o e n hb hx
    obtain ⟨sl',e2⟩:=slot b _ (neL b o e) hb (neC b o e hx) e1 (I.base.free b o e n hx)
    exact ⟨sl',e2⟩
  · obtain ⟨o',e1⟩:=I.base.there b o e hx
    exact free b o' (neC b o e hx) e1 (I.base.free b o e n hx)
  · obtain ⟨o',e1⟩:=I.base.there b o e hx
    exact there b o' (neC b o e hx) e1
  · obtain ⟨m1,e1⟩:=I.base.tbls b ps e
    obtain ⟨m2,e2⟩:=tbls b _ e1
    exact ⟨m1 ++ m2,by rw [e2,Array.append_assoc]⟩
  · obtain ⟨m,hn,hl⟩:=I.loc
    refine ⟨m,ns m hn,fun i x v e1 e2 e3=>?_⟩
    obtain ⟨u,r,l⟩:=hl i x v e1 e2 e3
    refine ⟨u,r,?_⟩
    rcases l with l | ⟨k,c,e,z⟩
    · exact .inl l
    · exact .inr ⟨k,c,e,cellK x c e _ z⟩
  · obtain ⟨v,z⟩:=I.cell x c e
    exact ⟨v,cellK x c e v z⟩
  · obtain ⟨m,⟨o,_,_,ho,_⟩,_⟩:=I.loc
    exact free _ o (fun z=>(hch _ z).2.1 rfl) ho I.free
  · obtain ⟨v,o,ho,hd⟩:=I.cell x c e
    exact free c o (fun z=>(hch c z).2.2.1 x c e rfl) ho (I.freeC x c e)
  · obtain ⟨e,n,ne,nf,d⟩:=I.pin p hp
    have nch:p.1 ∉ ch:=fun z=>(hch p.1 z).2.2.2 p hp rfl
    exact ⟨keep p.1 p.2 ne nf nch e n,free p.1 p.2 nch e n,ne,nf,d⟩
theorem Inv.un {t':Nat} (I:Inv X pins σ H s) (u:Un X.fs [] H H' s.heap h') (hok:HOk X.prog X.w H' h'):Inv X pins σ H' { s with heap:=h',toks:=t' }:=by
  obtain ⟨m,⟨o,es,ep,ho,r⟩,_⟩:=id I.loc
  obtain ⟨sl,hL⟩:=u.any ho I.free (by simp)
  exact I.step (g':=s.gens) (d':=s.drawn) (ch:=[]) (fun _ z=>nomatch z) (fun b o _ hb _ e n=>u.keep b o e n hb (by simp)) (fun b o _ hb _ e n=>u.slot b o e n hb (by simp)) (fun b o _ e n=>u.free b o e n (by simp)) (fun b o _ e=>u.there b o e (by simp)) u.tups u.frzs u.tbls (fun m' hm=>by
    obtain ⟨o',es',ep',ho',r'⟩:=hm
    rw [ho] at ho'; cases ho'
    exact ⟨_,es',ep',hL,r'⟩) hok I.bare
theorem Inv.call {g':Array GenState} {t':Nat} {d':Drawn} {ch:List Addr} (I:Inv X pins σ H s) (u:Un (frs X.stack) ch H H' s.heap h') (hok:HOk X.prog X.w H' h') (hg:AllBare g')
    (hch:∀ b ∈ ch,(b ∈ X.ex ∨ X.s₀.heap.objs.size ≤ b) ∧ b ≠ X.env.locals ∧ (∀ x c,X.env.cells.lookup x = some c→c ≠ b) ∧ ∀ p ∈ X.pn ++ pins,p.1 ≠ b) :
    Inv X pins σ H' { s with heap:=h',gens:=g',drawn:=d',toks:=t' }:=by
  obtain ⟨m,⟨o,es,ep,ho,r⟩,_⟩:=id I.loc
  obtain ⟨sl,hL⟩:=u.any ho I.free fun z=>(hch _ z).2.1 rfl
  exact I.step (ch:=ch) hch (fun b o hL hb hc e n=>u.keep b o e n (fun z=>(List.mem_cons.mp (I.stkSub b z)).elim hL hb) hc) (fun b o _ _ hc e n=>u.any e n hc) (fun b o hc e n=>u.free b o e n hc) (fun b o hc e=>u.there b o e hc) u.tups u.frzs u.tbls (fun m' hm=>by
    obtain ⟨o',es',ep',ho',r'⟩:=hm
    rw [ho] at ho'; cases ho'
    exact ⟨_,es',ep',hL,r'⟩) hok hg
theorem Inv.turned {t':Nat} {it:Addr} (I:Inv X pins σ H s) (k:∀ b o,b ≠ it→s.heap.get? b = some o→h'.get? b = some o) (hn:H it = none) (hL:it ≠ X.env.locals)
    (h1:it ∈ X.ex ∨ X.s₀.heap.objs.size ≤ it) (h2:∀ x c,X.env.cells.lookup x = some c→c ≠ it) (h3:∀ p ∈ X.pn ++ pins,p.1 ≠ it):Inv X pins σ H { s with heap:=h',toks:=t' }:=by
  have nit:∀ b u,H b = some u→b ≠ it:=fun b u e z=>by rw [z,hn] at e; cases e
  refine I.step (g':=s.gens) (d':=s.drawn) (ch:=[it]) (fun b hb=>?_) (fun b o _ _ hc e _=>k b o (fun z=>hc (by simp [z])) e) (fun b o _ _ hc e _=>⟨o.slots,k b o (fun z=>hc (by simp [z])) e⟩) (fun _ _ _ _ n=>n)
    (fun b o hc e=>⟨o,k b o (fun z=>hc (by simp [z])) e⟩) (fun _ _ e=>e) (fun _ _ _ e=>e) (fun b ps e=>⟨#[],by rw [e]; simp⟩) (fun m hm=>?_) (fun b u e=>?_) I.bare
  · have e:b = it:=by simpa using hb
    subst e
    exact ⟨h1,hL,h2,h3⟩
  · obtain ⟨o,es,ep,ho,r⟩:=hm
    exact ⟨o,es,ep,k _ o (Ne.symm hL) ho,r⟩
  · refine (I.hok b u e).stay (fun c v hc q=>k c v ?_ q) (fun _ q=>q) fun _ _ q=>q
    rcases hc with z | z
    · rw [z]; exact nit b u e
    · exact nit c _ z
theorem Inv.tok (I:Inv X pins σ H s) (t:Nat):Inv X pins σ H { s with toks:=t }:=I.un (h':=s.heap) (t':=t) Un.refl I.hok
theorem Inv.kept {t':Nat} (I:Inv X pins σ H s) (k:∀ b u,s.heap.get? b = some u→h'.get? b = some u):Inv X pins σ H { s with heap:=h',toks:=t' }:=I.un (Un.kept k) (I.hok.kept k)
theorem Inv.laid {a:Addr} {o:HO} {t':Nat} (I:Inv X pins σ H s) (k:∀ b u,s.heap.get? b = some u→h'.get? b = some u) (hp:s.heap.objs.size ≤ a) (new:ObjOk X.prog X.w (upd H a o) h' a o) :
    Inv X pins σ (upd H a o) { s with heap:=h',toks:=t' }:=I.un (Un.laid k hp (I.hok.fresh hp)) (I.hok.laid k hp new)
theorem Inv.write {x e:Addr} {o:HO} {t':Nat} (I:Inv X pins σ H s) (mu:Mut (H x)) (he:e = x ∨ H e = some (.own x)) (k:∀ b u,b ≠ e→s.heap.get? b = some u→h'.get? b = some u) (heo:∃ u,h'.get? e = some u)
    (new:ObjOk X.prog X.w (upd H x o) h' x o):Inv X pins σ (upd H x o) { s with heap:=h',toks:=t' }:=I.un (Un.write mu he k heo) (I.hok.write mu he k heo new)
theorem Inv.pins_of {pins':List (Addr × Obj)} (I:Inv X pins σ H s) (h:∀ p ∈ pins',s.heap.get? p.1 = some p.2 ∧ H p.1 = none ∧ p.1 ≠ X.env.locals ∧ p.1 ∉ X.fs ∧ ∀ v,p.2.data ≠ .cell v):Inv X pins' σ H s :=
  ⟨I.ok,I.os,I.bare,I.base,I.loc,I.cell,I.free,I.freeC,fun p hp=>(List.mem_append.mp hp).elim (fun z=>I.pin p (List.mem_append_left _ z)) (h p),I.hok,I.len⟩
theorem nodup_ix {N:List Str} (hN:N.Nodup) {i j:Nat} {x:Str} (a:N[i]? = some x) (b:N[j]? = some x):i = j:=by
  obtain ⟨h1,e1⟩:=List.getElem?_eq_some_iff.mp a
  obtain ⟨h2,e2⟩:=List.getElem?_eq_some_iff.mp b
  exact (List.getElem_inj hN).mp (e1.trans e2.symm)
theorem store_ok2 {M:Model} {A:Around} {E:Value→Shared→Prop} {i:Nat} {x:Str} {v:V} {u:Value} {Q:Unit→Shared→Prop} (I:Inv X pins σ H s) (hN:X.N.Nodup) (hi:X.N[i]? = some x) (hx:Loc X.env.scope x) (r:RelV v u)
    (h:∀ s',Inv X pins (σ.set i (some v)) H s'→(∃ a,Heap.SameBut a s.heap s'.heap ∧ (a = X.env.locals ∨ X.env.cells.lookup x = some a))→Q () s') (hf:X.fn x = true ∨ X.env.scope.names.lookup x = some .local:=by first | exact .inl rfl | exact .inr rfl | assumption):wpAny M A (storeName X.env x u) Q E s:=by
  obtain ⟨m,hn,hl⟩:=id I.loc
  have hcls:(X.env.scope.kind == .class || (X.env.scope.kind == .module && X.env.locals != X.env.globals)) = false:=by rw [I.ok.kind]; rfl
  have hiσ:i < σ.length:=by rw [I.len]; exact (List.getElem?_eq_some_iff.mp hi).1
  have cne:=I.cne
  have tracked:∀ {a:Addr} {h':Heap},(∃ o,s.heap.get? a = some o ∧ H a = none)→Heap.SameBut a s.heap h'→HOk X.prog X.w H h':=fun {a h'} ha hs b ob e=>by
    obtain ⟨_,_,hfree⟩:=ha
    refine (I.hok b ob e).stay (fun c w' hc q=>(hs.2 c ?_).trans q) (fun _ q=>q) fun _ _ q=>q
    rintro rfl
    rcases hc with rfl | hc
    · rw [hfree] at e; cases e
    · rw [hfree] at hc; cases hc
  rcases hx with hk | hk
  · refine wpAny_storeName_local hk hn (fun h' hn' hs=>?_) hcls
    obtain ⟨oL,_,_,hoL,_⟩:=id hn
    refine h _ ⟨I.ok,I.os,I.bare,⟨fun b o e n hb hx=>?_,fun b o e n hb hx=>?_,I.base.free,fun b o e hx=>?_,I.base.tups,I.base.frzs,I.base.tbls⟩,⟨_,hn',fun j y v' e1 e2 e3=>?_⟩,fun y c e=>?_,I.free,I.freeC,fun p hp=>?_,tracked ⟨oL,hoL,I.free⟩ hs,by simpa using I.len⟩ ⟨_,hs,.inl rfl⟩
    · exact (hs.2 b (Nat.ne_of_lt (Nat.lt_of_lt_of_le (Heap.lt_size e) I.ok.above))).trans (I.base.keep b o e n hb hx)
    · obtain ⟨sl,e1⟩:=I.base.slot b o e n hb hx
      exact ⟨sl,(hs.2 b (Nat.ne_of_lt (Nat.lt_of_lt_of_le (Heap.lt_size e) I.ok.above))).trans e1⟩
    · obtain ⟨o',e1⟩:=I.base.there b o e hx
      exact ⟨o',(hs.2 b (Nat.ne_of_lt (Nat.lt_of_lt_of_le (Heap.lt_size e) I.ok.above))).trans e1⟩
    · by_cases hj:j = i
      · subst hj
        rw [hi] at e1; cases e1
        rw [List.getElem?_set_self hiσ] at e2
        cases e2
        exact ⟨u,r,.inl ⟨hk,by simp⟩⟩
      · rw [List.getElem?_set_ne (Ne.symm hj)] at e2
        obtain ⟨u',r',q⟩:=hl j y v' e1 e2 e3
        refine ⟨u',r',?_⟩
        rcases q with ⟨k,e⟩ | ⟨k,c,e,z⟩
        · refine .inl ⟨k,?_⟩
          have:y ≠ x:=fun e=>hj (nodup_ix hN e1 (e ▸ hi))
          simp [this,e]
        · exact .inr ⟨k,c,e,z.sameBut hs (cne y c e)⟩
    · obtain ⟨w',z⟩:=I.cell y c e
      exact ⟨w',z.sameBut hs (cne y c e)⟩
    · obtain ⟨e,n,ne,nf,d⟩:=I.pin p hp
      exact ⟨(hs.2 p.1 ne).trans e,n,ne,nf,d⟩
  · have hfn:X.fn x = true:=by
      rcases hf with z | z
      · exact z
      · rw [z] at hk; cases hk
    obtain ⟨c,hc⟩:=I.ok.has x (.inl hk)
    obtain ⟨w',z⟩:=I.cell x c hc
    refine wpAny_storeName_cell I.ok.kind hk hc z (fun h' hc' hs=>?_)
    obtain ⟨oc,hoc,hocd⟩:=id z
    refine h { s with heap:=h' } ⟨I.ok,I.os,I.bare,⟨fun b o e n hb hx=>?_,fun b o e n hb hx=>?_,I.base.free,fun b o e hx=>?_,I.base.tups,I.base.frzs,I.base.tbls⟩,⟨m,hn.sameBut hs (Ne.symm (cne x c hc)),fun j y v' e1 e2 e3=>?_⟩,fun y c' e=>?_,I.free,I.freeC,fun p hp=>?_,tracked ⟨oc,hoc,I.freeC x c hc⟩ hs,by simpa using I.len⟩ ⟨c,hs,.inr hc⟩
    · exact (hs.2 b (Nat.ne_of_lt (Nat.lt_of_lt_of_le (Heap.lt_size e) (I.ok.cab x c hfn hc)))).trans (I.base.keep b o e n hb hx)
    · obtain ⟨sl,e1⟩:=I.base.slot b o e n hb hx
      exact ⟨sl,(hs.2 b (Nat.ne_of_lt (Nat.lt_of_lt_of_le (Heap.lt_size e) (I.ok.cab x c hfn hc)))).trans e1⟩
    · obtain ⟨o',e1⟩:=I.base.there b o e hx
      exact ⟨o',(hs.2 b (Nat.ne_of_lt (Nat.lt_of_lt_of_le (Heap.lt_size e) (I.ok.cab x c hfn hc)))).trans e1⟩
    · by_cases hj:j = i
      · subst hj
        rw [hi] at e1; cases e1
        rw [List.getElem?_set_self hiσ] at e2
        cases e2
        exact ⟨u,r,.inr ⟨.inl hk,c,hc,hc'⟩⟩
      · rw [List.getElem?_set_ne (Ne.symm hj)] at e2
        obtain ⟨u',r',q⟩:=hl j y v' e1 e2 e3
        refine ⟨u',r',?_⟩
        rcases q with q | ⟨k,c',e,z'⟩
        · exact .inl q
        · refine .inr ⟨k,c',e,z'.sameBut hs ?_⟩
          rintro rfl
          exact hj (nodup_ix hN e1 (I.ok.inj _ _ _ e hc ▸ hi))
    · by_cases hcc:c' = c
      · subst hcc; exact ⟨_,hc'⟩
      · obtain ⟨w2,z2⟩:=I.cell y c' e
        exact ⟨w2,z2.sameBut hs hcc⟩
    · obtain ⟨e,n,ne,nf,d⟩:=I.pin p hp
      refine ⟨(hs.2 p.1 ?_).trans e,n,ne,nf,d⟩
      intro q
      rw [q,hoc] at e
      have q':oc = p.2:=Option.some.inj e
      exact d w' (by rw [← q']; exact hocd)
theorem store_ok {M:Model} {A:Around} {E:Value→Shared→Prop} {i:Nat} {x:Str} {v:V} {u:Value} {Q:Unit→Shared→Prop} (I:Inv X pins σ H s) (hN:X.N.Nodup) (hi:X.N[i]? = some x) (hx:Loc X.env.scope x) (r:RelV v u)
    (h:∀ s',Inv X pins (σ.set i (some v)) H s'→Q () s') (hf:X.fn x = true ∨ X.env.scope.names.lookup x = some .local:=by first | exact .inl rfl | exact .inr rfl | assumption):wpAny M A (storeName X.env x u) Q E s :=
  store_ok2 I hN hi hx r (fun s' I' _=>h s' I') hf
theorem Inv.call' {s':Shared} {ch:List Addr} (I:Inv X pins σ H s) (ho:s'.os = s.os) (u:Un (frs X.stack) ch H H' s.heap s'.heap) (hok:HOk X.prog X.w H' s'.heap) (hg:AllBare s'.gens)
    (hch:∀ b ∈ ch,(b ∈ X.ex ∨ X.s₀.heap.objs.size ≤ b) ∧ b ≠ X.env.locals ∧ (∀ x c,X.env.cells.lookup x = some c→c ≠ b) ∧ ∀ p ∈ X.pn ++ pins,p.1 ≠ b):Inv X pins σ H' s':=by
  obtain ⟨h',g',d',t',o'⟩:=s'
  have e:o' = s.os:=ho
  subst e
  exact I.call (g':=g') (t':=t') (d':=d') u hok hg hch
end
noncomputable abbrev XK:=Value→Option Addr→Hp→Prop
noncomputable abbrev St:=List (Option V)
noncomputable abbrev VK:=V→Hp→Prop
noncomputable abbrev TE:=St→Hp→VK→Prop
noncomputable abbrev TT:=St→Hp→(Bool→Hp→Prop)→Prop
noncomputable abbrev TA:=St→Hp→(List V→Hp→Prop)→Prop
structure Ends where
  nx:St→Hp→Prop
  rt:VK
  bk:St→Hp→Prop:=fun _ _=>False
  ct:St→Hp→Prop:=fun _ _=>False
noncomputable abbrev TS:=Ends→St→Hp→Prop
noncomputable def EP (X:Cx) (pins:List (Addr × Obj)) (σ:St) (Q:VK) (u:Value) (s':Shared):Prop:=∃ v H',Inv X pins σ H' s' ∧ RelV v u ∧ Q v H'
noncomputable def TP (X:Cx) (pins:List (Addr × Obj)) (σ:St) (Q:Bool→Hp→Prop) (b:Bool) (s':Shared):Prop:=∃ H',Inv X pins σ H' s' ∧ Q b H'
noncomputable def AP (X:Cx) (pins:List (Addr × Obj)) (σ:St) (Q:List V→Hp→Prop) (us:List Value) (s':Shared):Prop:=∃ vs H',Inv X pins σ H' s' ∧ Vals vs us ∧ Q vs H'
noncomputable def SP (X:Cx) (pins:List (Addr × Obj)) (D:Ends) (f:Flow) (s':Shared):Prop :=
  match f with
  | .next=>∃ σ' H',Inv X pins σ' H' s' ∧ D.nx σ' H'
  | .brk=>∃ σ' H',Inv X pins σ' H' s' ∧ D.bk σ' H'
  | .cont=>∃ σ' H',Inv X pins σ' H' s' ∧ D.ct σ' H'
  | .ret u=>∃ v σ' H',Inv X pins σ' H' s' ∧ RelV v u ∧ D.rt v H'
noncomputable def PE (X:Cx) (e:Expr) (t:TE):Prop :=
  ∀ (pins:List (Addr × Obj)) (s:Shared) (σ:St) (H:Hp) (Q:VK),Inv X pins σ H s→t σ H Q→wpAny (model X.prog X.w) X.A (eval e X.env) (EP X pins σ Q) X.xe s
noncomputable def PT (X:Cx) (e:Expr) (t:TT):Prop :=
  ∀ (pins:List (Addr × Obj)) (s:Shared) (σ:St) (H:Hp) (Q:Bool→Hp→Prop),Inv X pins σ H s→t σ H Q→wpAny (model X.prog X.w) X.A (isTrue e X.env (eval e X.env)) (TP X pins σ Q) X.xe s
noncomputable def PW (X:Cx) (e:Expr) (t:TT):Prop :=
  ∀ (whole:Sem Value) (pins:List (Addr × Obj)) (s:Shared) (σ:St) (H:Hp) (Q:Bool→Hp→Prop),Inv X pins σ H s→t σ H Q→wpAny (model X.prog X.w) X.A (isTrue e X.env whole) (TP X pins σ Q) X.xe s
theorem PW.pt {X:Cx} {e:Expr} {t:TT} (h:PW X e t):PT X e t:=h _
noncomputable def PA (X:Cx) (es:List Expr) (t:TA):Prop :=
  ∀ (pos:Pos) (pins:List (Addr × Obj)) (s:Shared) (σ:St) (H:Hp) (Q:List V→Hp→Prop),Inv X pins σ H s→t σ H Q→wpAny (model X.prog X.w) X.A (spliced (backTo pos (starEach es X.env))) (AP X pins σ Q) X.xe s
noncomputable def PS (X:Cx) (st:Stmt) (t:TS):Prop :=
  ∀ (pins:List (Addr × Obj)) (s:Shared) (σ:St) (H:Hp) (D:Ends),Inv X pins σ H s→t D σ H→wpAny (model X.prog X.w) X.A (exec st X.env) (SP X pins D) X.xe s
noncomputable def PSs (X:Cx) (st:List Stmt) (t:TS):Prop :=
  ∀ (pins:List (Addr × Obj)) (s:Shared) (σ:St) (H:Hp) (D:Ends),Inv X pins σ H s→t D σ H→wpAny (model X.prog X.w) X.A (execs st X.env) (SP X pins D) X.xe s
theorem thn {α:Type} {t:Sem α} {Q Q':α→Shared→Prop} {M:Model} {A:Around} {E:Value→Shared→Prop} {s:Shared} (h:wpAny M A t Q E s) (hQ:∀ a s,Q a s→Q' a s):wpAny M A t Q' E s:=wpAny_mono h hQ fun _ _ x=>x
end L2
namespace L2
open PySem PySem.Spec PyProof.Rows
section
variable {X:Cx}
noncomputable def tVar (i:Nat):TE:=fun σ H Q=>∃ v,σ[i]? = some (some v) ∧ Q v H
noncomputable def tC (v:V):TE:=fun _ H Q=>Q v H
theorem pe_var {i:Nat} {x:Str} {pos:Pos} (hN:X.N[i]? = some x) (hv:Vis X.env.scope x) (hd:(x == ("__debug__":Str)) = false:=by decide) (hcd:(x == ("__classdict__":Str)) = false:=by decide):PE X (.Name x pos) (tVar i):=by
  intro pins s σ H Q I h
  obtain ⟨v,e,h⟩:=h
  obtain ⟨m,hn,hl⟩:=I.loc
  obtain ⟨u,r,l⟩:=hl i x v hN e hv
  have fin:EP X pins σ Q u s:=⟨v,H,I,r,h⟩
  rcases l with ⟨hk,hm⟩ | ⟨hk,c,hc,hcell⟩
  · exact wpAny_Name (wpAny_loadName_local I.ok.kind hk hn hm fin) hd
  · rcases hk with hk | hk
    · exact wpAny_Name (wpAny_loadName_cell I.ok.kind hk hc hcell fin) hd
    · exact wpAny_Name (wpAny_loadName_free I.ok.kind hk hc hcell fin hcd) hd
theorem pe_int {i j pos}:PE X (.Constant (.int i) j pos) (tC (.int i)):=fun _ _ _ H _ I h=>wpAny_Constant_int ⟨.int i,H,I.tok _,⟨_,rfl⟩,h⟩
theorem pe_bl {b j pos}:PE X (.Constant (.bool b) j pos) (tC (.bl b)):=fun _ _ _ H _ I h=>Constant_bool ⟨.bl b,H,I,rfl,h⟩
theorem pe_non {j pos}:PE X (.Constant .none j pos) (tC .non):=fun _ _ _ H _ I h=>Constant_none ⟨.non,H,I,rfl,h⟩
theorem pe_str {x j pos}:PE X (.Constant (.str x) j pos) (tC (.str x)):=fun _ _ _ H _ I h=>Calls.Constant_str ⟨.str x,H,I.tok _,⟨_,rfl⟩,h⟩
noncomputable def Gl (X:Cx) (x:Str):Prop:=X.env.kindOf x = some .globalImplicit
theorem ld_glob {E:Value→Shared→Prop} {pins:List (Addr × Obj)} {s:Shared} {σ:St} {H:Hp} {x:Str} {u:Value} {pos:Pos} {Q:Value→Shared→Prop} (I:Inv X pins σ H s) (hg:Gl X x) (hm:X.mg x = some u) (h:Q u s)
    (hd:(x == ("__debug__":Str)) = false:=by decide):wpAny (model X.prog X.w) X.A (eval (.Name x pos) X.env) Q E s :=
  Calls.Name_function_global I.ok.kind hg (Calls.loadGlobal_global (by rw [I.ok.glob]; exact I.mod.glob.keeps I.bk) hm h) hd
theorem ld_blt {E:Value→Shared→Prop} {pins:List (Addr × Obj)} {s:Shared} {σ:St} {H:Hp} {x:Str} {u:Value} {pos:Pos} {Q:Value→Shared→Prop} (I:Inv X pins σ H s) (hg:Gl X x) (hm:X.mg x = none) (hv:bootBuiltins x = some u) (h:Q u s)
    (hn:x ≠ "__name__":=by decide) (hd:(x == ("__debug__":Str)) = false:=by decide):wpAny (model X.prog X.w) X.A (eval (.Name x pos) X.env) Q E s:=by
  obtain ⟨mb,h1,h2⟩:=I.mod.blt
  exact Calls.Name_function_global I.ok.kind hg (Calls.loadGlobal_builtin (by rw [I.ok.glob]; exact I.mod.glob.keeps I.bk) hm (by rw [I.ok.blt]; exact h1.keeps I.bk) ((h2 x hn).trans hv) h) hd
theorem pe_glob {x:Str} {v:V} {u:Value} {pos:Pos} (hg:Gl X x) (hm:X.mg x = some u) (r:RelV v u) (hd:(x == ("__debug__":Str)) = false:=by decide):PE X (.Name x pos) (tC v) :=
  fun _ _ _ H _ I h=>ld_glob I hg hm ⟨v,H,I,r,h⟩ hd
theorem pe_bltn {x:Str} {v:V} {u:Value} {pos:Pos} (hg:Gl X x) (hm:X.mg x = none) (hv:bootBuiltins x = some u) (r:RelV v u) (hn:x ≠ "__name__":=by decide) (hd:(x == ("__debug__":Str)) = false:=by decide):PE X (.Name x pos) (tC v) :=
  fun _ _ _ H _ I h=>ld_blt I hg hm hv ⟨v,H,I,r,h⟩ hn hd
variable {a b:Expr} {ta tb:TE} {pos:Pos}
noncomputable def tB (t:TE):TT:=fun σ H Q=>t σ H fun x H1=>∃ c,x = .bl c ∧ Q c H1
theorem pt_val {e:Expr} {t:TE} (h:PE X e t) (he:∀ whole,isTrue e X.env whole = (do let v ← whole; standAt e.pos; holding [v] (truthy v)):=by intro _; rfl):PT X e (tB t):=by
  intro pins s σ H Q I hw
  refine isTrue_plain (thn (h pins s σ H _ I hw) fun v s1 ⟨x,H1,I1,r1,q1⟩=>?_) (he _)
  obtain ⟨d,rfl,q⟩:=q1
  cases r1
  exact wpAny_truthy_bool ⟨H1,I1,q⟩
variable {tA tB':TT} {rest:List Expr}
noncomputable def tAnd (t u:TT):TT:=fun σ H Q=>t σ H fun c H1=>if c = true then u σ H1 Q else Q false H1
noncomputable def tOr (t u:TT):TT:=fun σ H Q=>t σ H fun c H1=>if c = true then Q true H1 else u σ H1 Q
noncomputable def tNot (t:TT):TT:=fun σ H Q=>t σ H fun c H1=>Q (!c) H1
theorem pw_and1 (ha:PT X a tA):PW X (.BoolOp .And [a] pos) tA:=by
  intro wh pins s σ H Q I h
  refine isTrue_and (thn (ha pins s σ H Q I h) fun c s1 e=>?_)
  cases c with
  | true=>exact isTrue_and_nil e
  | false=>exact e
theorem pw_or1 (ha:PT X a tA):PW X (.BoolOp .Or [a] pos) tA:=by
  intro wh pins s σ H Q I h
  refine isTrue_or (thn (ha pins s σ H Q I h) fun c s1 e=>?_)
  cases c with
  | false=>exact isTrue_or_nil e
  | true=>exact e
theorem pw_and (ha:PT X a tA) (hb:PW X (.BoolOp .And (b :: rest) pos) tB'):PW X (.BoolOp .And (a :: b :: rest) pos) (tAnd tA tB'):=by
  intro wh pins s σ H Q I h
  refine isTrue_and (thn (ha pins s σ H _ I h) fun c s1 ⟨H1,I1,q1⟩=>?_)
  cases c with
  | true=>exact hb wh pins s1 σ H1 Q I1 q1
  | false=>exact ⟨H1,I1,q1⟩
theorem pw_or (ha:PT X a tA) (hb:PW X (.BoolOp .Or (b :: rest) pos) tB'):PW X (.BoolOp .Or (a :: b :: rest) pos) (tOr tA tB'):=by
  intro wh pins s σ H Q I h
  refine isTrue_or (thn (ha pins s σ H _ I h) fun c s1 ⟨H1,I1,q1⟩=>?_)
  cases c with
  | true=>exact ⟨H1,I1,q1⟩
  | false=>exact hb wh pins s1 σ H1 Q I1 q1
theorem pt_not (ha:PT X a tA):PT X (.UnaryOp .Not a pos) (tNot tA):=by
  intro pins s σ H Q I h
  exact isTrue_not (ha pins s σ H (fun c H1=>Q (!c) H1) I h)
noncomputable def tAndV (ta tb:TE):TE:=fun σ H Q=>ta σ H fun x H1=>∃ c,x = .bl c ∧ if c = true then tb σ H1 Q else Q (.bl false) H1
noncomputable def tOrV (ta tb:TE):TE:=fun σ H Q=>ta σ H fun x H1=>∃ c,x = .bl c ∧ if c = true then Q (.bl true) H1 else tb σ H1 Q
noncomputable def tNotV (ta:TE):TE:=fun σ H Q=>ta σ H fun x H1=>∃ c,x = .bl c ∧ Q (.bl (!c)) H1
theorem pe_one {op} {t:TE} (h:PE X a t):PE X (.BoolOp op [a] pos) t:=fun pins s σ H Q I hw=>BoolOp_one (h pins s σ H Q I hw)
theorem pe_and (ha:PE X a ta) (hb:PE X (.BoolOp .And (b :: rest) pos) tb):PE X (.BoolOp .And (a :: b :: rest) pos) (tAndV ta tb):=by
  intro pins s σ H Q I h
  refine BoolOp_and (thn (ha pins s σ H _ I h) fun v s1 ⟨x,H1,I1,r1,q1⟩=>?_)
  obtain ⟨c,rfl,q1⟩:=q1
  cases r1
  refine wpAny_truthy_bool ?_
  cases c with
  | true=>exact hb pins s1 σ H1 Q I1 q1
  | false=>exact ⟨.bl false,H1,I1,rfl,q1⟩
theorem pe_or (ha:PE X a ta) (hb:PE X (.BoolOp .Or (b :: rest) pos) tb):PE X (.BoolOp .Or (a :: b :: rest) pos) (tOrV ta tb):=by
  intro pins s σ H Q I h
  refine BoolOp_or (thn (ha pins s σ H _ I h) fun v s1 ⟨x,H1,I1,r1,q1⟩=>?_)
  obtain ⟨c,rfl,q1⟩:=q1
  cases r1
  refine wpAny_truthy_bool ?_
  cases c with
  | false=>exact hb pins s1 σ H1 Q I1 q1
  | true=>exact ⟨.bl true,H1,I1,rfl,q1⟩
theorem pe_not (ha:PE X a ta):PE X (.UnaryOp .Not a pos) (tNotV ta):=by
  intro pins s σ H Q I h
  refine UnaryOp_ (thn (ha pins s σ H _ I h) fun v s1 ⟨x,H1,I1,r1,q1⟩=>?_)
  obtain ⟨c,rfl,q1⟩:=q1
  cases r1
  exact not_of (wpAny_truthy_bool ⟨.bl (!c),H1,I1,rfl,q1⟩)
noncomputable def tIf (t:TT) (ta tb:TE):TE:=fun σ H Q=>t σ H fun c H1=>if c = true then ta σ H1 Q else tb σ H1 Q
theorem pe_ifExp {c:Expr} (hc:PT X c tA) (ha:PE X a ta) (hb:PE X b tb):PE X (.IfExp c a b pos) (tIf tA ta tb):=by
  intro pins s σ H Q I h
  refine wpAny_IfExp (thn (hc pins s σ H _ I h) fun d s1 ⟨H1,I1,q1⟩=>?_)
  cases d with
  | true=>exact ha pins s1 σ H1 Q I1 q1
  | false=>exact hb pins s1 σ H1 Q I1 q1
end
end L2
namespace L2
open PySem PySem.Spec PyProof.Rows
noncomputable def SqL (K:PySem.W.Frag) (H:Hp) (a:Addr) (xs:List V):Prop :=
  Rd H a (.lst xs) ∨
    ∃ (o:Obj) (its:Array Value) (n:Nat),K.lookup a = some o ∧ o.cls = .type "list" ∧ o.dict = none ∧ o.data = .seq its n ∧ its.size ≤ sizeLine ∧ Vals xs its.toList
noncomputable def SqT (K:PySem.W.Frag) (H:Hp) (a:Addr) (xs:List V):Prop :=
  Rd H a (.tup xs) ∨
    ∃ (o:Obj) (its:Array Value) (n:Nat),K.lookup a = some o ∧ o.cls = .type "tuple" ∧ o.data = .seq its n ∧ its.size ≤ sizeLine ∧ Vals xs its.toList
noncomputable def absV:Value→Option V
  | .none=>some .non
  | .bool b=>some (.bl b)
  | .int i _=>some (.int i)
  | .str x _=>some (.str x)
  | .bytes b _=>some (.byt b)
  | .float b _=>some (.flt b)
  | .ref a=>some (.ref a)
  | .type n=>some (.ty n)
  | _=>none
theorem RelV.abs {x:V} {u:Value} (r:RelV x u):absV u = some x:=by
  cases x with
  | non=>cases r; rfl
  | bl _=>cases r; rfl
  | int _=>obtain ⟨t,rfl⟩:=r; rfl
  | str _=>obtain ⟨t,rfl⟩:=r; rfl
  | byt _=>obtain ⟨t,rfl⟩:=r; rfl
  | flt _=>obtain ⟨t,rfl⟩:=r; rfl
  | ref _=>cases r; rfl
  | ty _=>cases r; rfl
theorem RelV.inj {x y:V} {u:Value} (r:RelV x u) (q:RelV y u):x = y:=Option.some.inj (r.abs.symm.trans q.abs)
theorem Vals.inj:∀ {xs ys:List V} {us:List Value},Vals xs us→Vals ys us→xs = ys
  | _,_,_,.nil,.nil=>rfl
  | _,_,_,.cons r t,.cons r' t'=>by rw [r.inj r',Vals.inj t t']
section
variable {X:Cx} {pins:List (Addr × Obj)} {σ:St} {H:Hp} {s:Shared} {a:Addr} {xs ys:List V}
theorem SqL.of {K:PySem.W.Frag} (h:H a = some (.lst xs)):SqL K H a xs:=.inl (.inl h)
theorem SqT.of {K:PySem.W.Frag} (h:H a = some (.tup xs)):SqT K H a xs:=.inl (.inl h)
theorem Inv.list (I:Inv X pins σ H s) (h:SqL X.K H a xs):∃ its:List Value,Vals xs its ∧ PlainL s.heap a its.toArray ∧ xs.length ≤ sizeLine:=by
  rcases h with h | ⟨o,its,n,hk,hc,hd,hs,hz,r⟩
  · obtain ⟨z,its,n,r,e⟩:=h.ok I.hok
    exact ⟨its,r,⟨_,n,e,rfl,rfl,rfl⟩,z⟩
  · refine ⟨its.toList,r,⟨o,n,I.kIn a o hk,hc,hd,by simpa using hs⟩,?_⟩
    have e:=r.length
    simp only [Array.length_toList] at e
    omega
theorem Inv.tuple (I:Inv X pins σ H s) (h:SqT X.K H a xs):∃ its:List Value,Vals xs its ∧ IsTup s.heap a its.toArray ∧ xs.length ≤ sizeLine:=by
  rcases h with h | ⟨o,its,n,hk,hc,hs,hz,r⟩
  · obtain ⟨z,its,r,p⟩:=h.ok I.hok
    exact ⟨its,r,p,z⟩
  · refine ⟨its.toList,r,⟨o,I.kIn a o hk,hc,n,by simpa using hs⟩,?_⟩
    have e:=r.length
    simp only [Array.length_toList] at e
    omega
theorem Inv.list_inj (I:Inv X pins σ H s) (h:SqL X.K H a xs) (h':SqL X.K H a ys):xs = ys:=by
  obtain ⟨its,r,⟨o,n,e,_,_,d⟩,_⟩:=I.list h
  obtain ⟨its',r',⟨o',n',e',_,_,d'⟩,_⟩:=I.list h'
  rw [e] at e'; cases e'
  rw [d] at d'
  injection d' with d1 _
  have:its = its':=by simpa using congrArg Array.toList d1
  subst this
  exact r.inj r'
theorem Inv.tuple_inj (I:Inv X pins σ H s) (h:SqT X.K H a xs) (h':SqT X.K H a ys):xs = ys:=by
  obtain ⟨its,r,⟨o,e,_,n,d⟩,_⟩:=I.tuple h
  obtain ⟨its',r',⟨o',e',_,n',d'⟩,_⟩:=I.tuple h'
  rw [e] at e'; cases e'
  rw [d] at d'
  injection d' with d1 _
  have:its = its':=by simpa using congrArg Array.toList d1
  subst this
  exact r.inj r'
end
noncomputable abbrev Cx.wish (X:Cx) (E:Value→Shared→Prop):Cx:={ X with xe:=E }
noncomputable abbrev Cx.nox (X:Cx):Cx:=X.wish fun _ _=>False
theorem Cx.Ok.wish {X:Cx} (ok:X.Ok) (E:Value→Shared→Prop):(X.wish E).Ok :=
  ⟨ok.mod,ok.kind,ok.glob,ok.blt,ok.above,ok.inj,ok.has,ok.cab,ok.hd,ok.frames,ok.stk,ok.exf,ok.bs,ok.bsz,ok.noex,ok.exfs,ok.funs,ok.frf⟩
theorem Cx.Ok.unwish {X:Cx} {E:Value→Shared→Prop} (ok:(X.wish E).Ok):X.Ok :=
  ⟨ok.mod,ok.kind,ok.glob,ok.blt,ok.above,ok.inj,ok.has,ok.cab,ok.hd,ok.frames,ok.stk,ok.exf,ok.bs,ok.bsz,ok.noex,ok.exfs,ok.funs,ok.frf⟩
section
variable {X:Cx} {pins:List (Addr × Obj)} {σ:St} {H:Hp} {s:Shared} {E:Value→Shared→Prop}
theorem Inv.wish (I:Inv X pins σ H s) (E:Value→Shared→Prop):Inv (X.wish E) pins σ H s:=⟨I.ok.wish E,I.os,I.bare,I.base,I.loc,I.cell,I.free,I.freeC,I.pin,I.hok,I.len⟩
theorem Inv.unwish (I:Inv (X.wish E) pins σ H s):Inv X pins σ H s:=⟨I.ok.unwish,I.os,I.bare,I.base,I.loc,I.cell,I.free,I.freeC,I.pin,I.hok,I.len⟩
theorem SP.unwish {D:Ends} {f:Flow} {s':Shared} (h:SP (X.wish E) pins D f s'):SP X pins D f s':=by
  cases f with
  | next=>obtain ⟨σ',H',I,q⟩:=h; exact ⟨σ',H',I.unwish,q⟩
  | brk=>obtain ⟨σ',H',I,q⟩:=h; exact ⟨σ',H',I.unwish,q⟩
  | cont=>obtain ⟨σ',H',I,q⟩:=h; exact ⟨σ',H',I.unwish,q⟩
  | ret u=>obtain ⟨v,σ',H',I,r,q⟩:=h; exact ⟨v,σ',H',I.unwish,r,q⟩
theorem PT.nox {e:Expr} {t:TT} (h:PT X.nox e t):PT X e t:=fun pins s σ H Q I hw =>
  wpAny_mono (h pins s σ H Q (I.wish _) hw) (fun _ _ ⟨H',I',q⟩=>⟨H',I'.unwish,q⟩) fun _ _ z=>False.elim z
theorem PSs.nox {st:List Stmt} {t:TS} (h:PSs X.nox st t):PSs X st t:=fun pins s σ H D I hw =>
  wpAny_mono (h pins s σ H D (I.wish _) hw) (fun _ _ q=>q.unwish) fun _ _ z=>False.elim z
end
section
variable {X:Cx} {st:Stmt} {rest:List Stmt} {t u:TS} {e:Expr} {te:TE} {pos:Pos}
noncomputable def tNext:TS:=fun D σ H=>D.nx σ H
noncomputable def tSeq (t u:TS):TS:=fun D σ H=>t { D with nx:=u D } σ H
theorem pss_nil:PSs X [] tNext:=fun _ _ σ H _ I h=>wpAny_execs_nil ⟨σ,H,I,h⟩
theorem pss_cons (h1:PS X st t) (h2:PSs X rest u):PSs X (st :: rest) (tSeq t u):=by
  intro pins s σ H D I h
  refine wpAny_execs_cons (thn (h1 pins s σ H { D with nx:=u D } I h) fun f s1 q=>?_)
  cases f with
  | next =>
    obtain ⟨σ',H',I',q⟩:=q
    exact h2 pins s1 σ' H' D I' q
  | ret v=>exact q
  | brk=>exact q
  | cont=>exact q
theorem pss_one (h1:PS X st t):PSs X [st] t:=by
  intro pins s σ H D I h
  refine wpAny_execs_cons (thn (h1 pins s σ H D I h) fun f s1 q=>?_)
  cases f with
  | next=>exact wpAny_execs_nil q
  | ret v=>exact q
  | brk=>exact q
  | cont=>exact q
theorem Inv.quiet {pins:List (Addr × Obj)} {σ:St} {H:Hp} {s:Shared} (I:Inv X pins σ H s):interactive X.env = false:=by simp [interactive,I.ok.kind]
noncomputable def tDrop (te:TE):TS:=fun D σ H=>te σ H fun _ H1=>D.nx σ H1
theorem ps_expr (he:PE X e te) (hs:swapsWith e none pos.line X.env = pure false:=by rfl):PS X (.Expr e pos) (tDrop te):=by
  intro pins s σ H D I h
  exact wpAny_Expr_any (thn (he pins s σ H _ I h) fun v s1 ⟨x,H1,I1,r1,q1⟩=>⟨σ,H1,I1,q1⟩) I.quiet hs
noncomputable def tRet (te:TE):TS:=fun D σ H=>te σ H D.rt
theorem ps_ret (he:PE X e te):PS X (.Return (some e) pos) (tRet te):=by
  intro pins s σ H D I h
  exact wpAny_Return_some (thn (he pins s σ H _ I h) fun v s1 ⟨x,H1,I1,r1,q1⟩=>⟨x,σ,H1,I1,r1,q1⟩)
noncomputable def tIfS (c:TT) (t u:TS):TS:=fun D σ H=>c σ H fun b H1=>if b = true then t D σ H1 else u D σ H1
theorem ps_if {c:Expr} {a b:List Stmt} {tc:TT} (hc:PT X c tc) (ha:PSs X a t) (hb:PSs X b u):PS X (.If c a b pos) (tIfS tc t u):=by
  intro pins s σ H D I h
  refine wpAny_If (thn (hc pins s σ H _ I h) fun d s1 ⟨H1,I1,q1⟩=>?_)
  cases d with
  | true=>exact ha pins s1 σ H1 D I1 q1
  | false=>exact hb pins s1 σ H1 D I1 q1
end
noncomputable abbrev TG:=V→St→Hp→(St→Hp→Prop)→Prop
noncomputable abbrev TGs:=List V→St→Hp→(St→Hp→Prop)→Prop
noncomputable def PG (X:Cx) (target:Expr) (t:TG):Prop :=
  ∀ (pins:List (Addr × Obj)) (s:Shared) (σ:St) (H:Hp) (v:V) (u:Value) (Q:St→Hp→Prop),Inv X pins σ H s→RelV v u→t v σ H Q →
    wpAny (model X.prog X.w) X.A (assign target X.env u) (fun _ s'=>∃ σ' H',Inv X pins σ' H' s' ∧ Q σ' H') X.xe s
noncomputable def PGs (X:Cx) (ts:List Expr) (t:TGs):Prop :=
  ∀ (pins:List (Addr × Obj)) (s:Shared) (σ:St) (H:Hp) (vs:List V) (us:List Value) (Q:St→Hp→Prop),Inv X pins σ H s→Vals vs us→t vs σ H Q →
    wpAny (model X.prog X.w) X.A (assignInOrder ((assignEach ts X.env).map (·.2)) us) (fun _ s'=>∃ σ' H',Inv X pins σ' H' s' ∧ Q σ' H') X.xe s
noncomputable abbrev TSet:=V→V→V→Hp→(Hp→Prop)→Prop
noncomputable def PSet (X:Cx) (t:TSet):Prop :=
  ∀ (pins:List (Addr × Obj)) (s:Shared) (σ:St) (H:Hp) (o i v:V) (ov iv u:Value) (Q:Hp→Prop),Inv X pins σ H s→RelV o ov→RelV i iv→RelV v u→t o i v H Q →
    wpAny (model X.prog X.w) X.A (setItem ov iv u) (fun _ s'=>∃ H',Inv X pins σ H' s' ∧ Q H') X.xe s
noncomputable abbrev TIp:=V→V→Hp→VK→Prop
noncomputable def PIp (X:Cx) (op:Operator) (t:TIp):Prop :=
  ∀ (pins:List (Addr × Obj)) (s:Shared) (σ:St) (H:Hp) (x y:V) (v u:Value) (Q:VK),Inv X pins σ H s→RelV x v→RelV y u→t x y H Q →
    wpAny (model X.prog X.w) X.A (inplaceOp op v u) (EP X pins σ Q) X.xe s
section
variable {X:Cx} {pos:Pos}
noncomputable def gName (i:Nat):TG:=fun v σ H Q=>Q (σ.set i (some v)) H
theorem pg_name {i:Nat} {x:Str} (hN:X.N.Nodup) (hi:X.N[i]? = some x) (hx:Loc X.env.scope x) (hf:X.fn x = true ∨ X.env.scope.names.lookup x = some .local:=by first | exact .inl rfl | exact .inr rfl | assumption):PG X (.Name x pos) (gName i):=by
  intro pins s σ H v u Q I r h
  exact wpAny_assign_Name (store_ok I hN hi hx r (fun s' I'=>⟨_,H,I',h⟩) hf)
noncomputable def gNil:TGs:=fun vs σ H Q=>vs = [] ∧ Q σ H
noncomputable def gCons (t:TG) (u:TGs):TGs:=fun vs σ H Q=>∃ v r,vs = v :: r ∧ t v σ H fun σ' H'=>u r σ' H' Q
theorem pgs_nil:PGs X [] gNil:=by
  intro pins s σ H vs us Q I r h
  obtain ⟨e,h⟩:=h
  subst e
  cases r
  exact assignInOrder_nil ⟨σ,H,I,h⟩
theorem pgs_cons {e:Expr} {es:List Expr} {t:TG} {u:TGs} (h1:PG X e t) (h2:PGs X es u)
    (hs:(assignEach (e :: es) X.env).map (·.2) = assign e X.env :: (assignEach es X.env).map (·.2):=by rfl):PGs X (e :: es) (gCons t u):=by
  intro pins s σ H vs us Q I r h
  obtain ⟨v,vr,e1,h⟩:=h
  subst e1
  cases r with
  | cons r rr =>
    rw [hs]
    refine assignInOrder_cons (thn (h1 pins s σ H _ _ _ I r h) fun _ s1 ⟨σ1,H1,I1,q1⟩=>?_)
    exact h2 pins s1 σ1 H1 _ _ Q I1 rr q1
noncomputable def gTup (K:PySem.W.Frag) (n:Nat) (t:TGs):TG:=fun v σ H Q=>∃ a xs,v = .ref a ∧ SqT K H a xs ∧ xs.length = n ∧ t xs σ H Q
theorem pg_tup {es:List Expr} {k:Nat} {t:TGs} {n:Nat} (hc:X.calm = true) (h:PGs X es t)
    (hn:(assignEach es X.env).length = n:=by rfl) (hst:(assignEach es X.env).findIdx? (·.1) = none:=by rfl):PG X (.Tuple es k pos) (gTup X.K n t):=by
  intro pins s σ H v u Q I r hw
  obtain ⟨a,xs,e1,hq,hl,hw⟩:=hw
  subst e1
  cases r
  obtain ⟨its,rv,ht,hz⟩:=I.tuple hq
  refine assign_Tuple_tuple (I.ok.hd hc) ht (by simp [hn,← hl,rv.length]) hst fun h' hx=>?_
  have I1:Inv X pins σ H { s with heap:=h' }:=I.kept (t':=s.toks) fun b o e=>hx b o (Nat.ne_of_lt (Heap.lt_size e)) e
  exact h pins _ σ H xs _ Q I1 (by simpa using rv) hw
noncomputable def gSub (to ti:TE) (t:TSet):TG:=fun v σ H Q=>to σ H fun o H1=>ti σ H1 fun i H2=>t o i v H2 fun H3=>Q σ H3
theorem pg_sub {o i:Expr} {to ti:TE} {t:TSet} (ho:PE X o to) (hi:PE X i ti) (hs:PSet X t)
    (ha:∀ v,assign (.Subscript o i pos) X.env v = (do
      let ov ← holding [v] (eval o X.env)
      let iv ← holding [v,ov] (eval i X.env)
      standAt pos
      holding [v,ov,iv] (setItem ov iv v)
      release [v,ov,iv] []):=by intro _; rfl):PG X (.Subscript o i pos) (gSub to ti t):=by
  intro pins s σ H v u Q I r h
  rw [ha]
  refine wpAny_bind (wpAny_holding (thn (ho pins s σ H _ I h) fun ov s1 ⟨x,H1,I1,r1,q1⟩=>?_))
  refine wpAny_bind (wpAny_holding (thn (hi pins s1 σ H1 _ I1 q1) fun iv s2 ⟨y,H2,I2,r2,q2⟩=>?_))
  refine wpAny_bind (wpAny_standAt (wpAny_bind (wpAny_holding (thn (hs pins s2 σ H2 x y v ov iv u _ I2 r1 r2 r q2) fun _ s3 ⟨H3,I3,q3⟩=>?_))))
  exact wpAny_release ⟨σ,H3,I3,q3⟩
noncomputable def tAsg (te:TE) (g:TG):TS:=fun D σ H=>te σ H fun x H1=>g x σ H1 D.nx
theorem ps_asg {tg e:Expr} {te:TE} {g:TG} (he:PE X e te) (hg:PG X tg g) (hs:swapsWithSole [tg] e pos.line X.env = pure false:=by rfl) (hw:swappedStores [tg] e X.env = pure none:=by rfl)
    (h1:(assignEach [tg] X.env).map (·.2) = [assign tg X.env]:=by rfl):PS X (.Assign [tg] e pos) (tAsg te g):=by
  intro pins s σ H D I h
  refine wpAny_Assign_stores (thn (he pins s σ H _ I h) fun v s1 ⟨x,H1,I1,r1,q1⟩=>?_) hs hw
  rw [h1]
  exact thn (hg pins s1 σ H1 x v _ I1 r1 q1) fun _ s2 q=>q
theorem ps_set {i:Nat} {x:Str} {e:Expr} {te:TE} {pos':Pos} (hN:X.N.Nodup) (hi:X.N[i]? = some x) (hx:Loc X.env.scope x) (he:PE X e te) (hs:swapsWith e (some (.Name x pos')) pos.line X.env = pure false:=by rfl) (hf:X.fn x = true ∨ X.env.scope.names.lookup x = some .local:=by first | exact .inl rfl | exact .inr rfl | assumption) :
    PS X (.Assign [.Name x pos'] e pos) (tAsg te (gName i)):=by
  intro pins s σ H D I h
  refine wpAny_Assign_Name (thn (he pins s σ H _ I h) fun v s1 ⟨y,H1,I1,r1,q1⟩=>?_) hs
  exact store_ok I1 hN hi hx r1 (fun s2 I2=>⟨_,H1,I2,q1⟩) hf
noncomputable def tAug (i:Nat) (te:TE) (ti:TIp):TS:=fun D σ H=>∃ x,σ[i]? = some (some x) ∧ te σ H fun y H1=>ti x y H1 fun z H2=>D.nx (σ.set i (some z)) H2
theorem ps_aug {i:Nat} {x:Str} {e:Expr} {te:TE} {op:Operator} {ti:TIp} {pos':Pos} (hN:X.N.Nodup) (hi:X.N[i]? = some x) (hx:Loc X.env.scope x) (he:PE X e te) (ho:PIp X op ti) (hf:X.fn x = true ∨ X.env.scope.names.lookup x = some .local:=by first | exact .inl rfl | exact .inr rfl | assumption) :
    PS X (.AugAssign (.Name x pos') op e pos) (tAug i te ti):=by
  intro pins s σ H D I h
  obtain ⟨v,e1,h⟩:=h
  obtain ⟨m,hn,hl⟩:=I.loc
  have vis:Vis X.env.scope x:=by rcases hx with k | k; exact .inl k; exact .inr (.inl k)
  obtain ⟨u,r,l⟩:=hl i x v hi e1 vis
  refine wpAny_AugAssign_Name ?_
  have go:wpAny (model X.prog X.w) X.A (eval e X.env) (fun w s₂=>wpAny (model X.prog X.w) X.A (inplaceOp op u w) (fun r s₃=>wpAny (model X.prog X.w) X.A (storeName X.env x r) (fun _=>SP X pins D .next) X.xe s₃) X.xe s₂) X.xe s:=by
    refine thn (he pins s σ H _ I h) fun w s1 ⟨y,H1,I1,r1,q1⟩=>?_
    refine thn (ho pins s1 σ H1 v y u w _ I1 r r1 q1) fun z s2 ⟨zv,H2,I2,r2,q2⟩=>?_
    exact store_ok I2 hN hi hx r2 (fun s3 I3=>⟨_,H2,I3,q2⟩) hf
  rcases l with ⟨hk,hm⟩ | ⟨hk,c,hc,hcell⟩
  · exact wpAny_loadName_local I.ok.kind hk hn hm go
  · rcases hk with hk | hk
    · exact wpAny_loadName_cell I.ok.kind hk hc hcell go
    · rcases hx with k | k
      · have:X.env.scope.names.lookup x = some .free:=hk
        rw [k] at this; cases this
      · have:X.env.scope.names.lookup x = some .free:=hk
        rw [k] at this; cases this
noncomputable def ipI (f:Int→Int→Int):TIp:=fun x y H Q=>∃ i j,x = .int i ∧ y = .int j ∧ Q (.int (f i j)) H
theorem ip_add:PIp X .Add (ipI fun i j=>i + j):=by
  intro pins s σ H x y v u Q I r1 r2 h
  obtain ⟨i,j,e1,e2,q⟩:=h
  subst e1; subst e2
  obtain ⟨t,rfl⟩:=r1
  obtain ⟨t',rfl⟩:=r2
  exact iadd_int ⟨.int _,H,I.tok _,⟨_,rfl⟩,q⟩
end
section
variable {X:Cx} {pos:Pos}
end
structure It where
  go:Nat→Hp→Prop
  yld:Nat→Hp→V→Hp→Prop
  stop:Nat→Hp→Prop
noncomputable def FpOk (X:Cx) (pins:List (Addr × Obj)) (H:Hp) (b:Addr):Prop :=
  H b = none ∧ b ≠ X.env.locals ∧ b ∉ X.fs ∧ (b ∈ X.ex ∨ X.s₀.heap.objs.size ≤ b) ∧ (∀ x c,X.env.cells.lookup x = some c→c ≠ b) ∧ ∀ p ∈ X.pn ++ pins,p.1 ≠ b
theorem Inv.fpOk {X:Cx} {pins:List (Addr × Obj)} {σ:St} {H H':Hp} {s:Shared} {b:Addr} (I:Inv X pins σ H s) (hb:s.heap.objs.size ≤ b) (hn:H' b = none):FpOk X pins H' b:=by
  refine ⟨hn,Nat.ne_of_gt (Nat.lt_of_lt_of_le I.lt hb),I.nofs hb,.inr (Nat.le_trans I.sz hb),fun x c e z=>?_,fun p hp z=>?_⟩
  · obtain ⟨v,q⟩:=I.cell x c e
    exact absurd (Nat.lt_of_lt_of_le q.lt (by rw [z]; exact hb)) (Nat.lt_irrefl _)
  · exact absurd (Nat.lt_of_lt_of_le (Heap.lt_size (I.pin p hp).1) (by rw [z]; exact hb)) (Nat.lt_irrefl _)
structure Turn (P:Program) (w:World) (K:PySem.W.Frag) (tg:Expr) (J:It) (fp:List Addr) (it:Addr) (tn:Nat→Heap→Prop):Prop where
  mem:it ∈ fp
  obj:∀ i h,tn i h→∀ b ∈ fp,∃ o,h.get? b = some o ∧ ∀ v,o.data ≠ .cell v
  keep:∀ i h h',tn i h→(∀ b ∈ fp,∀ o,h.get? b = some o→h'.get? b = some o)→tn i h'
  item:∀ (X:Cx),X.prog = P→X.w = w→X.K = K→X.calm = true→∀ (i:Nat) (pins:List (Addr × Obj)) (s:Shared) (σ:St) (H:Hp) (E:Value→Shared→Prop),Inv X pins σ H s→(∀ b ∈ fp,FpOk X pins H b)→tn i s.heap→J.go i H →
    wpAny (model P w) X.A (pyNext (.ref it)) (fun r s1=>∃ u,r = some u ∧
      wpAny (model P w) X.A (letOwnedTupleGo tg (.ref it) u) (fun _ s2=>∃ x H',Inv X pins σ H' s2 ∧ RelV x u ∧ J.yld i H x H' ∧ tn (i + 1) s2.heap ∧ ∀ b ∈ fp,H' b = none) E s1) E s
  done:∀ (X:Cx),X.prog = P→X.w = w→X.K = K→X.calm = true→∀ (i:Nat) (pins:List (Addr × Obj)) (s:Shared) (σ:St) (H:Hp) (E:Value→Shared→Prop),Inv X pins σ H s→(∀ b ∈ fp,FpOk X pins H b)→tn i s.heap→J.stop i H →
    wpAny (model P w) X.A (pyNext (.ref it)) (fun r s1=>r = none ∧ Inv X pins σ H s1) E s
  self:∀ (A:Around) (i:Nat) (s:Shared) (Q:Value→Shared→Prop) (E:Value→Shared→Prop),tn i s.heap→Q (.ref it) s→wpAny (model P w) A (pyIter (.ref it)) Q E s
noncomputable abbrev TI:=St→Hp→(It→Hp→Prop)→Prop
noncomputable def PIE (X:Cx) (pins:List (Addr × Obj)) (σ:St) (tg:Expr) (R:It→Hp→Prop) (itv:Value) (s2:Shared):Prop :=
  ∃ (it:Addr) (fp:List Addr) (tn:Nat→Heap→Prop) (J:It) (H':Hp),itv = .ref it ∧ Inv X pins σ H' s2 ∧ Turn X.prog X.w X.K tg J fp it tn ∧ tn 0 s2.heap ∧ (∀ b ∈ fp,FpOk X pins H' b) ∧ R J H'
noncomputable def PI (X:Cx) (tg iter:Expr) (wi:TI):Prop :=
  ∀ (pins:List (Addr × Obj)) (s:Shared) (σ:St) (H:Hp) (R:It→Hp→Prop),Inv X pins σ H s→wi σ H R →
    wpAny (model X.prog X.w) X.A (eval iter X.env) (fun v s1=>wpAny (model X.prog X.w) X.A (pyIter v) (PIE X pins σ tg R) X.xe s1) X.xe s
theorem go_of {M:Model} {A:Around} {E:Value→Shared→Prop} {s:Shared} {tg:Expr} {it:Addr} {u:Value} {o:Obj} {n:String} {vs:Array Value} {Q:Unit→Shared→Prop} (ho:s.heap.get? it = some o) (hc:o.cls = .type n) (hd:o.data = .fields vs)
    (hn:["enumerate","zip","dict_itemiterator","dict_reverseitemiterator","odict_iterator","itertools.zip_longest","itertools.pairwise"].contains n = false) (hQ:Q () s):wpAny M A (letOwnedTupleGo tg (.ref it) u) Q E s:=by
  unfold letOwnedTupleGo
  cases tg <;> first
    | exact wpAny_pure hQ
    | (cases u <;> first
        | exact wpAny_pure hQ
        | (refine wpAny_bind (wpAny_load ho ?_)
           rw [hc,hd]
           show wpAny M A (if (["enumerate","zip","dict_itemiterator","dict_reverseitemiterator","odict_iterator","itertools.zip_longest","itertools.pairwise"].contains n && vs[0]? == some (rawInt _)) = true then _ else _) Q E s
           rw [if_neg (by intro h; rw [hn,Bool.false_and] at h; cases h)]
           exact wpAny_pure hQ))
noncomputable def Itl (K:PySem.W.Frag) (a:Addr):It :=
  ⟨fun i H=>∃ xs x,SqL K H a xs ∧ xs[i]? = some x,fun i H x H'=>H' = H ∧ ∀ xs,SqL K H a xs→xs[i]? = some x,fun i H=>∃ xs,SqL K H a xs ∧ xs.length ≤ i⟩
noncomputable def Itt (K:PySem.W.Frag) (a:Addr):It :=
  ⟨fun i H=>∃ xs x,SqT K H a xs ∧ xs[i]? = some x,fun i H x H'=>H' = H ∧ ∀ xs,SqT K H a xs→xs[i]? = some x,fun i H=>∃ xs,SqT K H a xs ∧ xs.length ≤ i⟩
noncomputable def Itr (lo:Int) (n:Nat):It:=⟨fun i _=>i < n,fun i H x H'=>H' = H ∧ x = .int (lo + i),fun i _=>n ≤ i⟩
theorem turn_list {P:Program} {w:World} {K:PySem.W.Frag} {tg:Expr} (a it:Addr):Turn P w K tg (Itl K a) [it] it (fun i h=>h.IsListIter it a i) where
  mem:=by simp
  obj:=fun i h st b hb=>by
    have e:b = it:=by simpa using hb
    subst e
    obtain ⟨o,e,c,d⟩:=st
    exact ⟨o,e,fun v z=>by rw [d] at z; cases z⟩
  keep:=fun i h h' st k=>st.at fun o e=>k it (by simp) o e
  item:=by
    intro X hP hw hK hc i pins s σ H E I hf st hg
    subst hP hw hK
    obtain ⟨xs,x,hq,hx⟩:=hg
    obtain ⟨its,rv,p,hz⟩:=I.list hq
    obtain ⟨u,hu,ru⟩:=rv.get hx
    obtain ⟨f0,f1,f2,f3,f4,f5⟩:=hf it (by simp)
    refine wpAny_pyNext_list_item st p.isList (x:=u) (by simpa using hu) fun h' st' sb=>?_
    have I1:Inv X pins σ H { s with heap:=h' }:=I.turned (t':=s.toks) (fun b o hb e=>(sb.2 b hb).trans e) f0 f1 f3 f4 f5
    obtain ⟨o,e,c,d⟩:=id st'
    exact ⟨u,rfl,go_of (s:={ s with heap:=h' }) e c d (by decide) ⟨x,H,I1,ru,⟨rfl,fun ys hy=>by rw [I.list_inj hy hq]; exact hx⟩,st',fun b hb=>(hf b hb).1⟩⟩
  done:=by
    intro X hP hw hK hc i pins s σ H E I hf st hg
    subst hP hw hK
    obtain ⟨xs,hq,hx⟩:=hg
    obtain ⟨its,rv,p,hz⟩:=I.list hq
    obtain ⟨f0,f1,f2,f3,f4,f5⟩:=hf it (by simp)
    have hl:=rv.length
    exact wpAny_pyNext_list_end (I.ok.hd hc) st p.isList (by simp; omega) fun h' eb=>⟨rfl,I.turned (t':=s.toks) (fun b o hb e=>eb b o hb e) f0 f1 f3 f4 f5⟩
  self:=fun _ _ _ _ _ st h=>wpAny_pyIter_listiter st h
theorem turn_tuple {P:Program} {w:World} {K:PySem.W.Frag} {tg:Expr} (a it:Addr):Turn P w K tg (Itt K a) [it] it (fun i h=>h.IsTupleIter it a i) where
  mem:=by simp
  obj:=fun i h st b hb=>by
    have e:b = it:=by simpa using hb
    subst e
    obtain ⟨o,e,c,d⟩:=st
    exact ⟨o,e,fun v z=>by rw [d] at z; cases z⟩
  keep:=fun i h h' st k=>st.at fun o e=>k it (by simp) o e
  item:=by
    intro X hP hw hK hc i pins s σ H E I hf st hg
    subst hP hw hK
    obtain ⟨xs,x,hq,hx⟩:=hg
    obtain ⟨its,rv,p,hz⟩:=I.tuple hq
    obtain ⟨u,hu,ru⟩:=rv.get hx
    obtain ⟨f0,f1,f2,f3,f4,f5⟩:=hf it (by simp)
    refine wpAny_pyNext_tuple_item st (show s.heap.IsTuple a its.toArray from p) (x:=u) (by simpa using hu) fun h' st' sb=>?_
    have I1:Inv X pins σ H { s with heap:=h' }:=I.turned (t':=s.toks) (fun b o hb e=>(sb.2 b hb).trans e) f0 f1 f3 f4 f5
    obtain ⟨o,e,c,d⟩:=id st'
    exact ⟨u,rfl,go_of (s:={ s with heap:=h' }) e c d (by decide) ⟨x,H,I1,ru,⟨rfl,fun ys hy=>by rw [I.tuple_inj hy hq]; exact hx⟩,st',fun b hb=>(hf b hb).1⟩⟩
  done:=by
    intro X hP hw hK hc i pins s σ H E I hf st hg
    subst hP hw hK
    obtain ⟨xs,hq,hx⟩:=hg
    obtain ⟨its,rv,p,hz⟩:=I.tuple hq
    obtain ⟨f0,f1,f2,f3,f4,f5⟩:=hf it (by simp)
    have hl:=rv.length
    exact wpAny_pyNext_tuple_end (I.ok.hd hc) st (show s.heap.IsTuple a its.toArray from p) (by simp; omega) fun h' eb=>⟨rfl,I.turned (t':=s.toks) (fun b o hb e=>eb b o hb e) f0 f1 f3 f4 f5⟩
  self:=fun _ _ _ _ _ st h=>wpAny_pyIter_tupleiter st h
theorem turn_range {P:Program} {w:World} {K:PySem.W.Frag} {tg:Expr} (it:Addr) (lo:Int) (n:Nat):Turn P w K tg (Itr lo n) [it] it (fun i h=>IsRangeIter h it (lo + (i:Nat) * 1) ((n:Int) - (i:Nat)) 1) where
  mem:=by simp
  obj:=fun i h st b hb=>by
    have e:b = it:=by simpa using hb
    subst e
    exact ⟨_,st,fun v z=>by
      have z':Data.fields _ = Data.cell v:=z
      cases z'⟩
  keep:=fun i h h' st k=>k it (by simp) _ st
  item:=by
    intro X hP hw hK hc i pins s σ H E I hf st hg
    subst hP hw hK
    obtain ⟨f0,f1,f2,f3,f4,f5⟩:=hf it (by simp)
    have W:=Walks.range (prog:=X.prog) (w:=X.w) (I.ok.hd hc) it lo 1 n
    refine W.item i s _ _ hg st fun v h' tk hv st' kk=>?_
    obtain ⟨t,rfl⟩:=hv
    have I1:Inv X pins σ H { s with heap:=h',toks:=tk }:=I.turned (fun b o hb e=>kk b o (by simpa using hb) e) f0 f1 f3 f4 f5
    refine ⟨_,rfl,go_of (s:={ s with heap:=h',toks:=tk }) (n:="range_iterator") st' rfl rfl (by decide) ⟨.int (lo + i),H,I1,⟨t,?_⟩,⟨rfl,rfl⟩,st',fun b hb=>(hf b hb).1⟩⟩
    rw [Int.mul_one]
  done:=by
    intro X hP hw hK hc i pins s σ H E I hf st hg
    subst hP hw hK
    obtain ⟨f0,f1,f2,f3,f4,f5⟩:=hf it (by simp)
    exact wpAny_pyNext_range_end (I.ok.hd hc) st (by have:n ≤ i:=hg; omega) fun h' eb=>⟨rfl,I.turned (t':=s.toks) (fun b o hb e=>eb b o hb e) f0 f1 f3 f4 f5⟩
  self:=fun _ _ _ _ _ st h=>wpAny_pyIter_rangeiter st h
end L2
namespace L2
open PySem PySem.Spec PyProof.Rows
section
variable {X:Cx} {tg:Expr}
theorem range_it {pins:List (Addr × Obj)} {σ:St} {H:Hp} {s:Shared} {R:It→Hp→Prop} {E:Value→Shared→Prop} {lo hi:Int} {t u v:Tok} {tk:Nat} (I:Inv X pins σ H s) (h1:-(2 ^ 62) ≤ lo) (h2:lo < 2 ^ 62) (h3:-(2 ^ 62) ≤ hi) (h4:hi < 2 ^ 62)
    (q:R (Itr lo (hi - lo).toNat) H):wpAny (model X.prog X.w) X.A (pyIter (.ref s.heap.objs.size)) (PIE X pins σ tg R) E { s with heap:=s.heap.push { cls:=.type "range",data:=.fields #[.int lo t,.int hi u,.int 1 v] },toks:=tk }:=by
  refine wpAny_pyIter_range (IsRange.new ..) (small_one h1 h2 h3 h4) ?_
  have I1:Inv X pins σ H { s with heap:=s.heap.push { cls:=.type "range",data:=.fields #[.int lo t,.int hi u,.int 1 v] },toks:=tk }:=I.kept fun b o e=>Heap.get?_push_of_some _ e
  refine ⟨(s.heap.push { cls:=.type "range",data:=.fields #[.int lo t,.int hi u,.int 1 v] }).objs.size,[(s.heap.push { cls:=.type "range",data:=.fields #[.int lo t,.int hi u,.int 1 v] }).objs.size],_,_,H,rfl,
    I1.kept (t':=tk) fun b o e=>Heap.get?_push_of_some _ e,turn_range _ lo (hi - lo).toNat,?_,fun b hb=>?_,q⟩
  · have e1:lo + ((0:Nat):Int) * 1 = lo:=by simp
    have e2:(((hi - lo).toNat:Nat):Int) - ((0:Nat):Int) = Builtin.Range.rangeSize lo hi 1:=by rw [rangeSize_one]; split <;> omega
    show IsRangeIter _ _ (lo + ((0:Nat):Int) * 1) ((((hi - lo).toNat:Nat):Int) - ((0:Nat):Int)) 1
    rw [e1,e2]
    exact Heap.get?_push_size _ rfl
  · have e:b = (s.heap.push { cls:=.type "range",data:=.fields #[.int lo t,.int hi u,.int 1 v] }).objs.size:=by simpa using hb
    subst e
    exact I1.fpOk (Nat.le_refl _) (I1.hok.fresh (Nat.le_refl _))
noncomputable def iRng1 (ta:TA):TI:=fun σ H R=>ta σ H fun vs H1=>∃ j:Int,vs = [.int j] ∧ -(2 ^ 62) ≤ j ∧ j < 2 ^ 62 ∧ R (Itr 0 j.toNat) H1
theorem pi_range1 {a:Expr} {ta:TA} {p pos:Pos} (hg:Gl X "range") (hm:X.mg "range" = none) (ha:PA X [a] ta) (hs:starEach [a] X.env = [(false,eval a X.env)]:=by rfl):PI X tg (.Call (.Name "range" p) [a] [] pos) (iRng1 ta):=by
  intro pins s σ H R I h
  refine Call_ (ld_blt I hg hm boot_range (PyProof.Rows.callWith_type1 (thn (ha pos pins s σ H _ I h) fun us s1 ⟨vs,H1,I1,r1,q1⟩=>?_) hs rfl))
  obtain ⟨j,e,q1,q2,q⟩:=q1
  subst e
  cases r1 with
  | cons r rr =>
    cases rr
    obtain ⟨t,rfl⟩:=r
    exact call_range_1 (range_it I1 (by omega) (by omega) q1 q2 (by simpa using q))
noncomputable def tFor (wi:TI) (g:TG) (tb:TS):TS:=fun D σ H=>wi σ H fun J H1=>∃ W:Nat→Nat→St→Hp→Prop,(∃ m,W 0 m σ H1) ∧ ∀ i m σ H,W i m σ H →
  (J.stop i H ∧ D.nx σ H) ∨ (J.go i H ∧ ∃ N:St→Hp→Prop,(∀ σ' H',N σ' H'→∃ m',m' < m ∧ W (i + 1) m' σ' H') ∧ ∀ x H',J.yld i H x H'→g x σ H' fun σ2 H2=>tb { D with nx:=N,ct:=N,bk:=D.nx } σ2 H2)
noncomputable def pinsAt (fp:List Addr) (h:Heap):List (Addr × Obj):=fp.filterMap fun b=>(h.get? b).map fun o=>(b,o)
theorem mem_pinsAt {fp:List Addr} {h:Heap} {b:Addr} {o:Obj} (hb:b ∈ fp) (e:h.get? b = some o):(b,o) ∈ pinsAt fp h:=List.mem_filterMap.mpr ⟨b,hb,by rw [e]; rfl⟩
theorem of_pinsAt {fp:List Addr} {h:Heap} {p:Addr × Obj} (hp:p ∈ pinsAt fp h):p.1 ∈ fp ∧ h.get? p.1 = some p.2:=by
  obtain ⟨b,hb,e⟩:=List.mem_filterMap.mp hp
  cases q:h.get? b with
  | none=>rw [q] at e; cases e
  | some o =>
    rw [q] at e
    have e':(b,o) = p:=Option.some.inj e
    subst e'
    exact ⟨hb,q⟩
theorem Inv.pinned {pins:List (Addr × Obj)} {σ:St} {H:Hp} {s:Shared} {fp:List Addr} (I:Inv X pins σ H s) (hf:∀ b ∈ fp,FpOk X pins H b) (ho:∀ b ∈ fp,∃ o,s.heap.get? b = some o ∧ ∀ v,o.data ≠ .cell v):Inv X (pins ++ pinsAt fp s.heap) σ H s :=
  I.pins_of fun p hp=>(List.mem_append.mp hp).elim (fun z=>I.pin p (List.mem_append_right _ z)) fun z=>by
    obtain ⟨hb,e⟩:=of_pinsAt z
    obtain ⟨f0,f1,f2,_⟩:=hf p.1 hb
    obtain ⟨o,e',d⟩:=ho p.1 hb
    rw [e] at e'; cases e'
    exact ⟨e,f0,f1,f2,d⟩
theorem Inv.unpinned {pins pl:List (Addr × Obj)} {σ:St} {H:Hp} {s:Shared} (I:Inv X (pins ++ pl) σ H s):Inv X pins σ H s:=I.pins_of fun p hp=>I.pin p (List.mem_append_right _ (List.mem_append_left _ hp))
theorem ps_for {iter:Expr} {body:List Stmt} {wi:TI} {g:TG} {tb:TS} {pos:Pos} (hp:PassesOwn (model X.prog X.w) X.A X.env X.xe) (hc:X.calm = true) (hi:PI X tg iter wi) (hg:PG X tg g) (hb:PSs X body tb)
    (hs:∀ x,foldedSetIterable iter X.env x = pure x:=by intro _; rfl):PS X (.For tg iter body [] pos) (tFor wi g tb):=by
  intro pins s σ H D I h
  refine wpAny_For (thn (hi pins s σ H _ I h) fun v s1 h1=>thn h1 fun itv s2 h2=>?_) hs
  obtain ⟨it,fp,tn,J,H2,e,I2,T,st2,f2,W,⟨m0,w0⟩,turn⟩:=h2
  subst e
  -- what stays true of the iterator's objects through the loop
  have stat:∀ {H':Hp},(∀ b ∈ fp,H' b = none)→∀ b ∈ fp,FpOk X pins H' b:=fun hn b hb=>⟨hn b hb,(f2 b hb).2⟩
  refine codeAny_forLoop_any (fun n s'=>∃ i σ' H',Inv X pins σ' H' s' ∧ tn i s'.heap ∧ (∀ b ∈ fp,H' b = none) ∧ W i n σ' H') ?_ m0 ⟨0,σ,H2,I2,st2,fun b hb=>(f2 b hb).1,w0⟩
  rintro n s3 ⟨i,σ3,H3,I3,st3,fr3,w3⟩
  rcases turn i n σ3 H3 w3 with ⟨stop,qn⟩ | ⟨go,N,hN,step⟩
  · refine wpAny_passesOwn hp (thn (T.done X rfl rfl rfl hc i pins s3 σ3 H3 X.xe I3 (stat fr3) st3 stop) fun r s4 ⟨hr,I4⟩=>?_)
    subst hr
    exact wpAny_execs_nil ⟨σ3,H3,I4,qn⟩
  · refine wpAny_passesOwn hp (thn (T.item X rfl rfl rfl hc i pins s3 σ3 H3 X.xe I3 (stat fr3) st3 go) fun r s4 ⟨u,hr,h4⟩=>?_)
    subst hr
    refine wpAny_passesOwn hp (thn h4 fun _ s5 ⟨x,H5,I5,r5,y5,st5,fr5⟩=>?_)
    have I5':=I5.pinned (stat fr5) (T.obj _ _ st5)
    refine wpAny_passesOwn hp (thn (hg _ s5 σ3 H5 x u _ I5' r5 (step x H5 y5)) fun _ s6 ⟨σ6,H6,I6,q6⟩=>?_)
    refine wpAny_passesOwn hp (thn (hb _ s6 σ6 H6 _ I6 q6) fun f s7 q7=>?_)
    have again:∀ {σ7:St} {H7:Hp},Inv X (pins ++ pinsAt fp s5.heap) σ7 H7 s7→N σ7 H7→∃ m,m < n ∧ ∃ i σ' H',Inv X pins σ' H' s7 ∧ tn i s7.heap ∧ (∀ b ∈ fp,H' b = none) ∧ W i m σ' H':=fun {σ7 H7} I7 n7=>by
      obtain ⟨m',hm,w7⟩:=hN σ7 H7 n7
      refine ⟨m',hm,i + 1,σ7,H7,I7.unpinned,T.keep _ _ _ st5 fun b hb o e=>(I7.pin (b,o) (List.mem_append_right _ (List.mem_append_right _ (mem_pinsAt hb e)))).1,fun b hb=>?_,w7⟩
      obtain ⟨o,e,d⟩:=T.obj _ _ st5 b hb
      exact (I7.pin (b,o) (List.mem_append_right _ (List.mem_append_right _ (mem_pinsAt hb e)))).2.1
    cases f with
    | next=>obtain ⟨σ7,H7,I7,n7⟩:=q7; exact again I7 n7
    | cont=>obtain ⟨σ7,H7,I7,n7⟩:=q7; exact again I7 n7
    | brk=>obtain ⟨σ7,H7,I7,q7⟩:=q7; exact ⟨σ7,H7,I7.unpinned,q7⟩
    | ret v=>obtain ⟨x7,σ7,H7,I7,r7,q7⟩:=q7; exact ⟨x7,σ7,H7,I7.unpinned,r7,q7⟩
end
end L2
namespace L2
open PySem PySem.Spec PyProof.Rows
noncomputable abbrev R2:=V→V→Hp→VK→Prop
noncomputable def OpR (X:Cx) (f:Value→Value→Sem Value) (r:R2):Prop :=
  ∀ (pins:List (Addr × Obj)) (s:Shared) (σ:St) (H:Hp) (x y:V) (v u:Value) (Q:VK),Inv X pins σ H s→RelV x v→RelV y u→r x y H Q →
    wpAny (model X.prog X.w) X.A (f v u) (EP X pins σ Q) X.xe s
noncomputable def UnR (X:Cx) (f:Value→Sem Value) (r:V→Hp→VK→Prop):Prop :=
  ∀ (pins:List (Addr × Obj)) (s:Shared) (σ:St) (H:Hp) (x:V) (v:Value) (Q:VK),Inv X pins σ H s→RelV x v→r x H Q →
    wpAny (model X.prog X.w) X.A (f v) (EP X pins σ Q) X.xe s
noncomputable def CallR (X:Cx) (f:Value) (r:List V→Hp→VK→Prop):Prop :=
  ∀ (pins:List (Addr × Obj)) (s:Shared) (σ:St) (H:Hp) (xs:List V) (us:List Value) (Q:VK),Inv X pins σ H s→Vals xs us→r xs H Q →
    wpAny (model X.prog X.w) X.A (call f us) (EP X pins σ Q) X.xe s
noncomputable def TruR (X:Cx) (r:V→Hp→(Bool→Hp→Prop)→Prop):Prop :=
  ∀ (pins:List (Addr × Obj)) (s:Shared) (σ:St) (H:Hp) (x:V) (v:Value) (Q:Bool→Hp→Prop),Inv X pins σ H s→RelV x v→r x H Q →
    wpAny (model X.prog X.w) X.A (truthy v) (TP X pins σ Q) X.xe s
noncomputable def tOp (r:R2) (ta tb:TE):TE:=fun σ H Q=>ta σ H fun x H1=>tb σ H1 fun y H2=>r x y H2 Q
noncomputable def tUn (r:V→Hp→VK→Prop) (ta:TE):TE:=fun σ H Q=>ta σ H fun x H1=>r x H1 Q
noncomputable def rI (C:Int→Int→Prop) (g:Int→Int→V):R2:=fun x y H Q=>∃ i j,x = .int i ∧ y = .int j ∧ C i j ∧ Q (g i j) H
noncomputable def rI0 (g:Int→Int→V):R2:=fun x y H Q=>∃ i j,x = .int i ∧ y = .int j ∧ Q (g i j) H
noncomputable def rU (g:Int→V):V→Hp→VK→Prop:=fun x H Q=>∃ i,x = .int i ∧ Q (g i) H
section
variable {X:Cx} {a b c:Expr} {ta tb tc:TE} {pos:Pos}
theorem binT (ha:PE X a ta) (hb:PE X b tb) {pins:List (Addr × Obj)} {s:Shared} {σ:St} {H:Hp} {R:V→V→Hp→Prop} (I:Inv X pins σ H s)
    (h:ta σ H fun x H1=>tb σ H1 fun y H2=>R x y H2) {Q:Value→Shared→Prop} {f:Value→Value→Sem Value}
    (hf:∀ v u s2 x y H2,Inv X pins σ H2 s2→RelV x v→RelV y u→R x y H2→wpAny (model X.prog X.w) X.A (f v u) Q X.xe s2) :
    wpAny (model X.prog X.w) X.A (eval a X.env) (fun v s₁=>wpAny (model X.prog X.w) X.A (eval b X.env) (fun u s₂=>wpAny (model X.prog X.w) X.A (f v u) Q X.xe s₂) X.xe s₁) X.xe s:=by
  refine thn (ha pins s σ H _ I h) fun v s1 ⟨x,H1,I1,r1,q1⟩=>?_
  refine thn (hb pins s1 σ H1 _ I1 q1) fun u s2 ⟨y,H2,I2,r2,q2⟩=>?_
  exact hf v u s2 x y H2 I2 r1 r2 q2
theorem pe_op {op:Operator} {r:R2} (ho:OpR X (binaryOp op) r) (ha:PE X a ta) (hb:PE X b tb):PE X (.BinOp a op b pos) (tOp r ta tb):=by
  intro pins s σ H Q I h
  exact wpAny_BinOp (binT ha hb I h fun v u s2 x y H2 I2 rx ry q=>ho pins s2 σ H2 x y v u Q I2 rx ry q)
theorem pe_un {op:UnaryOp} {r:V→Hp→VK→Prop} (ho:UnR X (unaryOp op) r) (ha:PE X a ta):PE X (.UnaryOp op a pos) (tUn r ta):=by
  intro pins s σ H Q I h
  exact UnaryOp_ (thn (ha pins s σ H _ I h) fun v s1 ⟨x,H1,I1,r1,q1⟩=>ho pins s1 σ H1 x v Q I1 r1 q1)
theorem opI {f:Value→Value→Sem Value} {C:Int→Int→Prop} {g:Int→Int→Int}
    (rule:∀ (i j:Int) (t u:Tok) (s:Shared) (Q:Value→Shared→Prop) (E:Value→Shared→Prop),C i j→Q (.int (g i j) s.toks) { s with toks:=s.toks + 1 }→wpAny (model X.prog X.w) X.A (f (.int i t) (.int j u)) Q E s) :
    OpR X f (rI C fun i j=>.int (g i j)):=by
  intro pins s σ H x y v u Q I rx ry h
  obtain ⟨i,j,rfl,rfl,hc,q⟩:=h
  obtain ⟨t,rfl⟩:=rx
  obtain ⟨t',rfl⟩:=ry
  exact rule i j t t' s _ _ hc ⟨.int (g i j),H,I.tok _,⟨_,rfl⟩,q⟩
theorem opI0 {f:Value→Value→Sem Value} {g:Int→Int→Int}
    (rule:∀ (i j:Int) (t u:Tok) (s:Shared) (Q:Value→Shared→Prop) (E:Value→Shared→Prop),Q (.int (g i j) s.toks) { s with toks:=s.toks + 1 }→wpAny (model X.prog X.w) X.A (f (.int i t) (.int j u)) Q E s) :
    OpR X f (rI0 fun i j=>.int (g i j)):=by
  intro pins s σ H x y v u Q I rx ry h
  obtain ⟨i,j,rfl,rfl,q⟩:=h
  obtain ⟨t,rfl⟩:=rx
  obtain ⟨t',rfl⟩:=ry
  exact rule i j t t' s _ _ ⟨.int (g i j),H,I.tok _,⟨_,rfl⟩,q⟩
theorem opB0 {f:Value→Value→Sem Value} {g:Int→Int→Bool}
    (rule:∀ (i j:Int) (t u:Tok) (s:Shared) (Q:Value→Shared→Prop) (E:Value→Shared→Prop),Q (.bool (g i j)) s→wpAny (model X.prog X.w) X.A (f (.int i t) (.int j u)) Q E s) :
    OpR X f (rI0 fun i j=>.bl (g i j)):=by
  intro pins s σ H x y v u Q I rx ry h
  obtain ⟨i,j,rfl,rfl,q⟩:=h
  obtain ⟨t,rfl⟩:=rx
  obtain ⟨t',rfl⟩:=ry
  exact rule i j t t' s _ _ ⟨.bl (g i j),H,I,rfl,q⟩
noncomputable def CDiv (i j:Int):Prop:=0 < j ∧ j < 1073741824
noncomputable def CPow (i j:Int):Prop:=0 ≤ j ∧ j ≤ 1000000 ∧ i.natAbs < 2 ^ 64
noncomputable def CMul (i j:Int):Prop:=(-(2 ^ 64) < i ∧ i < 2 ^ 64) ∨ (-(2 ^ 64) < j ∧ j < 2 ^ 64)
theorem CMul.ok {i j:Int} (h:CMul i j):IntMulOk i j:=by
  rcases h with ⟨h1,h2⟩ | ⟨h1,h2⟩
  · exact .of_left (intBits_le_64 h1 h2)
  · exact .of_right (intBits_le_64 h1 h2)
theorem op_add:OpR X (binaryOp .Add) (rI0 fun i j=>.int (i + j)):=opI0 fun _ _ _ _ _ _ _ q=>add_int q
theorem op_mul:OpR X (binaryOp .Mult) (rI CMul fun i j=>.int (i * j)):=opI fun _ _ _ _ _ _ _ hc q=>mul_int q hc.ok
theorem op_fdiv:OpR X (binaryOp .FloorDiv) (rI CDiv fun i j=>.int (i / j)):=opI fun i j _ _ _ _ _ hc q=>by
  have h1:(0:Int) < j:=hc.1
  have h2:j < 1073741824:=hc.2
  exact floordiv_int (by omega) (by rw [Int.fdiv_eq_ediv_of_nonneg i (by omega)]; exact q) (.inl (PyProof.noPylong_small (by omega)))
theorem op_mod:OpR X (binaryOp .Mod) (rI (fun _ j=>0 < j) fun i j=>.int (i % j)):=opI fun i j _ _ _ _ _ hc q=>by
  have h1:(0:Int) < j:=hc
  exact mod_int' (by omega) (by rw [Int.fmod_eq_emod_of_nonneg i (by omega)]; exact q)
theorem op_pow:OpR X (binaryOp .Pow) (rI CPow fun i j=>.int (i ^ j.toNat)):=opI fun _ _ _ _ _ _ _ hc q=>pow_int_small hc.1 hc.2.1 hc.2.2 q
theorem unI {f:Value→Sem Value} {g:Int→Int}
    (rule:∀ (i:Int) (t:Tok) (s:Shared) (Q:Value→Shared→Prop) (E:Value→Shared→Prop),Q (.int (g i) s.toks) { s with toks:=s.toks + 1 }→wpAny (model X.prog X.w) X.A (f (.int i t)) Q E s) :
    UnR X f (rU fun i=>.int (g i)):=by
  intro pins s σ H x v Q I rx h
  obtain ⟨i,rfl,q⟩:=h
  obtain ⟨t,rfl⟩:=rx
  exact rule i t s _ _ ⟨.int (g i),H,I.tok _,⟨_,rfl⟩,q⟩
theorem un_neg:UnR X (unaryOp .USub) (rU fun i=>.int (-i)):=unI fun _ _ _ _ _ q=>neg_int q
end
noncomputable def scal:V→V→Bool
  | .non,.non=>true | .non,.int _=>true | .int _,.non=>true | .non,.bl _=>true | .bl _,.non=>true | .non,.str _=>true | .str _,.non=>true
  | .int _,.int _=>true | .bl _,.bl _=>true | .str _,.str _=>true | .byt _,.byt _=>true
  | .int _,.str _=>true | .str _,.int _=>true | .bl _,.str _=>true | .str _,.bl _=>true
  | _,_=>false
noncomputable def rEq:R2:=fun x y H Q=>scal x y = true ∧ Q (.bl (decide (x = y))) H
noncomputable def rNe:R2:=fun x y H Q=>scal x y = true ∧ Q (.bl (!decide (x = y))) H
theorem dec_int {i j:Int}:decide (V.int i = V.int j) = (i == j):=by
  rw [Bool.eq_iff_iff]
  simp
theorem dec_bl {i j:Bool}:decide (V.bl i = V.bl j) = (i == j):=by
  rw [Bool.eq_iff_iff]
  simp
theorem dec_str {i j:Str}:decide (V.str i = V.str j) = (i == j):=by
  rw [Bool.eq_iff_iff]
  simp
theorem dec_byt {i j:Array UInt8}:decide (V.byt i = V.byt j) = (i.toList == j.toList):=by
  rw [Bool.eq_iff_iff]
  cases i
  cases j
  simp
section
variable {X:Cx} {a b c:Expr} {ta tb tc:TE} {pos:Pos}
theorem fin_bl {pins:List (Addr × Obj)} {σ:St} {H:Hp} {s:Shared} {Q:VK} {k k':Bool} (I:Inv X pins σ H s) (q:Q (.bl k) H) (e:k = k'):EP X pins σ Q (.bool k') s:=by
  subst e
  exact ⟨.bl k,H,I,rfl,q⟩
theorem op_eq:OpR X (compareOp .Eq) rEq:=by
  intro pins s σ H x y v u Q I rx ry h
  obtain ⟨hs,q⟩:=h
  cases x with
  | non =>
    cases rx
    cases y with
    | non=>cases ry; exact PySem.EqNone.eq_none_none (fin_bl I q (by simp))
    | bl j=>cases ry; exact PySem.EqNone.eq_none_bool (fin_bl I q (by simp))
    | int j=>obtain ⟨t',rfl⟩:=ry; exact PySem.EqNone.eq_none_int (fin_bl I q (by simp))
    | str j=>obtain ⟨t',rfl⟩:=ry; exact PySem.EqNone.eq_none_str (fin_bl I q (by simp))
    | _=>exact absurd (show false = true from hs) Bool.false_ne_true
  | bl i =>
    cases rx
    cases y with
    | non=>cases ry; exact PySem.EqNone.eq_bool_none (fin_bl I q (by simp))
    | bl j=>cases ry; exact eq_bool (fin_bl I q dec_bl)
    | str j=>obtain ⟨t',rfl⟩:=ry; exact PySem.EqMixed.eq_bool_str (fin_bl I q (by simp))
    | _=>exact absurd (show false = true from hs) Bool.false_ne_true
  | int i =>
    obtain ⟨t,rfl⟩:=rx
    cases y with
    | non=>cases ry; exact PySem.EqNone.eq_int_none (fin_bl I q (by simp))
    | int j=>obtain ⟨t',rfl⟩:=ry; exact eq_int (fin_bl I q dec_int)
    | str j=>obtain ⟨t',rfl⟩:=ry; exact PySem.EqMixed.eq_int_str (fin_bl I q (by simp))
    | _=>exact absurd (show false = true from hs) Bool.false_ne_true
  | str i =>
    obtain ⟨t,rfl⟩:=rx
    cases y with
    | non=>cases ry; exact PySem.EqNone.eq_str_none (fin_bl I q (by simp))
    | bl j=>cases ry; exact PySem.EqMixed.eq_str_bool (fin_bl I q (by simp))
    | int j=>obtain ⟨t',rfl⟩:=ry; exact PySem.EqMixed.eq_str_int (fin_bl I q (by simp))
    | str j=>obtain ⟨t',rfl⟩:=ry; exact eq_str (fin_bl I q dec_str)
    | _=>exact absurd (show false = true from hs) Bool.false_ne_true
  | byt i =>
    obtain ⟨t,rfl⟩:=rx
    cases y with
    | byt j=>obtain ⟨t',rfl⟩:=ry; exact PySem.W.eq_bytes (fin_bl I q dec_byt)
    | _=>exact absurd (show false = true from hs) Bool.false_ne_true
  | _=>cases y <;> exact absurd (show false = true from hs) Bool.false_ne_true
theorem op_ne:OpR X (compareOp .NotEq) rNe:=by
  intro pins s σ H x y v u Q I rx ry h
  obtain ⟨hs,q⟩:=h
  cases x with
  | non =>
    cases rx
    cases y with
    | non=>cases ry; exact PySem.EqNone.ne_none_none (fin_bl I q (by simp))
    | bl j=>cases ry; exact PySem.EqNone.ne_none_bool (fin_bl I q (by simp))
    | int j=>obtain ⟨t',rfl⟩:=ry; exact PySem.EqNone.ne_none_int (fin_bl I q (by simp))
    | str j=>obtain ⟨t',rfl⟩:=ry; exact PySem.EqNone.ne_none_str (fin_bl I q (by simp))
    | _=>exact absurd (show false = true from hs) Bool.false_ne_true
  | bl i =>
    cases rx
    cases y with
    | non=>cases ry; exact PySem.EqNone.ne_bool_none (fin_bl I q (by simp))
    | bl j=>cases ry; exact ne_bool (fin_bl I q (congrArg not dec_bl))
    | str j=>obtain ⟨t',rfl⟩:=ry; exact PySem.EqMixed.ne_bool_str (fin_bl I q (by simp))
    | _=>exact absurd (show false = true from hs) Bool.false_ne_true
  | int i =>
    obtain ⟨t,rfl⟩:=rx
    cases y with
    | non=>cases ry; exact PySem.EqNone.ne_int_none (fin_bl I q (by simp))
    | int j=>obtain ⟨t',rfl⟩:=ry; exact ne_int (fin_bl I q (congrArg not dec_int))
    | str j=>obtain ⟨t',rfl⟩:=ry; exact PySem.EqMixed.ne_int_str (fin_bl I q (by simp))
    | _=>exact absurd (show false = true from hs) Bool.false_ne_true
  | str i =>
    obtain ⟨t,rfl⟩:=rx
    cases y with
    | non=>cases ry; exact PySem.EqNone.ne_str_none (fin_bl I q (by simp))
    | bl j=>cases ry; exact PySem.EqMixed.ne_str_bool (fin_bl I q (by simp))
    | int j=>obtain ⟨t',rfl⟩:=ry; exact PySem.EqMixed.ne_str_int (fin_bl I q (by simp))
    | str j=>obtain ⟨t',rfl⟩:=ry; exact ne_str (fin_bl I q (congrArg not dec_str))
    | _=>exact absurd (show false = true from hs) Bool.false_ne_true
  | byt i =>
    obtain ⟨t,rfl⟩:=rx
    cases y with
    | byt j=>obtain ⟨t',rfl⟩:=ry; exact PySem.W.ne_bytes (fin_bl I q (congrArg not dec_byt))
    | _=>exact absurd (show false = true from hs) Bool.false_ne_true
  | _=>cases y <;> exact absurd (show false = true from hs) Bool.false_ne_true
theorem op_lt:OpR X (compareOp .Lt) (rI0 fun i j=>.bl (decide (i < j))):=opB0 fun _ _ _ _ _ _ _ q=>lt_int q
theorem op_le:OpR X (compareOp .LtE) (rI0 fun i j=>.bl (decide (i ≤ j))):=opB0 fun _ _ _ _ _ _ _ q=>le_int q
theorem op_gt:OpR X (compareOp .Gt) (rI0 fun i j=>.bl (decide (j < i))):=opB0 fun _ _ _ _ _ _ _ q=>gt_int q
theorem op_ge:OpR X (compareOp .GtE) (rI0 fun i j=>.bl (decide (j ≤ i))):=opB0 fun _ _ _ _ _ _ _ q=>ge_int q
theorem nomark (b:Expr) {op:CmpOp} (h:op ≠ .In:=by decide) (h2:op ≠ .NotIn:=by decide):behindInMarks op b = false:=by
  have e1:(op == CmpOp.In) = false:=by cases op <;> first | rfl | exact absurd rfl h
  have e2:(op == CmpOp.NotIn) = false:=by cases op <;> first | rfl | exact absurd rfl h2
  cases b <;> simp [behindInMarks,e1,e2]
theorem pe_cmpR {op:CmpOp} {r:R2} (ho:OpR X (compareOp op) r) (ha:PE X a ta) (hb:PE X b tb) (hm:behindInMarks op b = false):PE X (.Compare a [op] [b] pos) (tOp r ta tb):=by
  intro pins s σ H Q I h
  exact wpAny_Compare1 (binT ha hb I h fun v u s2 x y H2 I2 rx ry q=>ho pins s2 σ H2 x y v u Q I2 rx ry q) hm
noncomputable def tTest (t:TE):TT:=fun σ H Q=>t σ H fun x H'=>∃ k,x = .bl k ∧ Q k H'
theorem pt_cmpR {op:CmpOp} {r:R2} (ho:OpR X (compareOp op) r) (ha:PE X a ta) (hb:PE X b tb) (hm:behindInMarks op b = false):PT X (.Compare a [op] [b] pos) (tTest (tOp r ta tb)):=by
  intro pins s σ H Q I h
  refine wpAny_isTrue_Compare1 (thn (ha pins s σ H _ I h) fun v s1 ⟨x,H1,I1,r1,q1⟩=>thn (hb pins s1 σ H1 _ I1 q1) fun u s2 ⟨y,H2,I2,r2,q2⟩ =>
    thn (ho pins s2 σ H2 x y v u _ I2 r1 r2 q2) fun c s3 ⟨z,H3,I3,r3,k,e,q3⟩=>?_) hm
  subst e
  cases r3
  exact wpAny_truthy_bool ⟨H3,I3,q3⟩
noncomputable def tChain (r r':R2) (ta tb tc:TE):TE:=fun σ H Q=>ta σ H fun x H1=>tb σ H1 fun y H2=>r x y H2 fun z H3=>∃ k,z = .bl k ∧
  (if k = true then tc σ H3 fun w' H4=>r' y w' H4 Q else Q (.bl false) H3)
theorem pt_chain {op op':CmpOp} {r r':R2} (ho:OpR X (compareOp op) r) (ho':OpR X (compareOp op') r') (ha:PE X a ta) (hb:PE X b tb) (hc:PE X c tc)
    (hm:lastMarks [op,op'] [b,c] = false:=by with_unfolding_all rfl):PT X (.Compare a [op,op'] [b,c] pos) (tTest (tChain r r' ta tb tc)):=by
  intro pins s σ H Q I h
  refine isTrue_chain (thn (ha pins s σ H _ I h) fun v s1 ⟨x,H1,I1,r1,q1⟩=>test_link (thn (hb pins s1 σ H1 _ I1 q1) fun u s2 ⟨y,H2,I2,r2,q2⟩ =>
    thn (ho pins s2 σ H2 x y v u _ I2 r1 r2 q2) fun d s3 ⟨z,H3,I3,r3,k,e,q3⟩=>?_)) hm
  subst e
  cases r3
  refine wpAny_truthy_bool ?_
  cases k with
  | false =>
    obtain ⟨k',e',q'⟩:=q3
    cases e'
    exact ite_ff ⟨H3,I3,q'⟩
  | true =>
    refine ite_tt (test_last (thn (hc pins s3 σ H3 _ I3 q3) fun w' s4 ⟨z',H4,I4,r4,q4⟩=>thn (ho' pins s4 σ H4 y z' u w' _ I4 r2 r4 q4) fun d' s5 ⟨z2,H5,I5,r5,k2,e2,q5⟩=>?_))
    subst e2
    cases r5
    exact wpAny_truthy_bool ⟨H5,I5,q5⟩
noncomputable def TruV (K:PySem.W.Frag) (x:V) (H:Hp) (k:Bool):Prop :=
  match x with
  | .non=>k = false
  | .bl b=>k = b
  | .int i=>k = (i != 0)
  | .str y=>y.length ≤ sizeLine ∧ k = ((y.length:Int) != 0)
  | .byt y=>y.size ≤ sizeLine ∧ k = ((y.size:Int) != 0)
  | .ref p=>(∃ xs,SqL K H p xs ∧ k = !xs.isEmpty) ∨ (∃ xs,SqT K H p xs ∧ k = !xs.isEmpty) ∨ ∃ kvs,H p = some (.dK kvs) ∧ k = !kvs.isEmpty
  | _=>False
theorem isEmpty_kv {κ:Type} {kvs:List (κ × V)} {vs:List (κ × Value)} (r:KV kvs vs):(!vs.isEmpty) = !kvs.isEmpty:=by
  cases r <;> rfl
theorem isEmpty_of {xs:List V} {its:List Value} (r:Vals xs its):(!its.toArray.isEmpty) = !xs.isEmpty:=by
  cases r <;> simp
theorem line63:(sizeLine:Nat) < 2 ^ 63:=by rw [sizeLine_eq]; decide
theorem tru_ok:TruR X (fun x H Q=>∃ k,TruV X.K x H k ∧ Q k H):=by
  intro pins s σ H x v Q I rx h
  obtain ⟨k,e,q⟩:=h
  have hl:=line63
  have hs:sizeLine = 16777216:=sizeLine_eq
  cases x with
  | non =>
    cases rx
    have e':k = false:=e
    subst e'
    exact truthy_none ⟨H,I,q⟩
  | bl b =>
    cases rx
    have e':k = b:=e
    subst e'
    exact wpAny_truthy_bool ⟨H,I,q⟩
  | int i =>
    obtain ⟨t,rfl⟩:=rx
    have e':k = (i != 0):=e
    subst e'
    exact PySem.P.truthy_int ⟨H,I,q⟩
  | str y =>
    obtain ⟨t,rfl⟩:=rx
    obtain ⟨hy,e'⟩:y.length ≤ sizeLine ∧ k = ((y.length:Int) != 0):=e
    subst e'
    exact PySem.P.truthy_str (by omega) ⟨H,I.tok _,q⟩
  | byt y =>
    obtain ⟨t,rfl⟩:=rx
    obtain ⟨hy,e'⟩:y.size ≤ sizeLine ∧ k = ((y.size:Int) != 0):=e
    subst e'
    exact PySem.W.truthy_bytes (by omega) ⟨H,I.tok _,q⟩
  | ref p =>
    cases rx
    have e':(∃ xs,SqL X.K H p xs ∧ k = !xs.isEmpty) ∨ (∃ xs,SqT X.K H p xs ∧ k = !xs.isEmpty) ∨ ∃ kvs,H p = some (.dK kvs) ∧ k = !kvs.isEmpty:=e
    rcases e' with ⟨xs,hx,e'⟩ | ⟨xs,hx,e'⟩ | ⟨kvs,hx,e'⟩
    · subst e'
      obtain ⟨its,r,pl,hz⟩:=I.list hx
      have hlen:=r.length
      exact wpAny_truthy_list pl.isList (by simp only [List.size_toArray]; omega) ⟨H,I.tok _,by rw [isEmpty_of r]; exact q⟩
    · subst e'
      obtain ⟨its,r,pl,hz⟩:=I.tuple hx
      have hlen:=r.length
      exact truthy_tuple pl (by simp only [List.size_toArray]; omega) ⟨H,I.tok _,by rw [isEmpty_of r]; exact q⟩
    · subst e'
      obtain ⟨hz,hS,vs,r,m⟩:kvs.length ≤ sizeLine ∧ (p == sysModules) = false ∧ ∃ vs,KV kvs vs ∧ s.heap.DictOf (mixKind X.prog X.w) p vs:=I.hok p _ hx
      have hlen:kvs.length = vs.length:=Paired.length r
      exact wpAny_truthy_dict hS m (by omega) ⟨H,I.tok _,by rw [isEmpty_kv r]; exact q⟩
  | _=>exact (show False from e).elim
theorem pt_truth (ha:PE X a ta) (he:∀ whole,isTrue a X.env whole = (do let v ← whole; standAt a.pos; holding [v] (truthy v))) :
    PT X a (fun σ H Q=>ta σ H fun x H'=>∃ k,TruV X.K x H' k ∧ Q k H'):=by
  intro pins s σ H Q I h
  exact isTrue_plain (thn (ha pins s σ H _ I h) fun v s1 ⟨x,H1,I1,r1,q1⟩=>tru_ok pins s1 σ H1 x v Q I1 r1 q1) (he _)
theorem op_add_str:OpR X (binaryOp .Add) (fun x y H Q=>∃ i j,x = .str i ∧ y = .str j ∧ i.length + j.length ≤ sizeLine ∧ Q (.str (i ++ j)) H):=by
  intro pins s σ H x y v u Q I rx ry h
  obtain ⟨i,j,rfl,rfl,hz,q⟩:=h
  obtain ⟨t,rfl⟩:=rx
  obtain ⟨t',rfl⟩:=ry
  exact add_str (fun t' tk=>⟨.str (i ++ j),H,I.tok _,⟨_,rfl⟩,q⟩) hz
theorem vals1 {x:V} {us:List Value} (r:Vals [x] us):∃ u,us = [u] ∧ RelV x u:=by
  cases r with
  | cons r1 r2=>cases r2; exact ⟨_,rfl,r1⟩
theorem vals2 {x y:V} {us:List Value} (r:Vals [x,y] us):∃ u w',us = [u,w'] ∧ RelV x u ∧ RelV y w':=by
  cases r with
  | cons r1 r2 =>
    cases r2 with
    | cons r3 r4=>cases r4; exact ⟨_,_,rfl,r1,r3⟩
theorem call_min2 (hc:X.calm = true):CallR X (.builtin "min") (fun xs H Q=>∃ i j,xs = [.int i,.int j] ∧ Q (.int (if j < i then j else i)) H):=by
  intro pins s σ H xs us Q I r h
  obtain ⟨i,j,rfl,q⟩:=h
  obtain ⟨u,w',rfl,⟨t,rfl⟩,⟨t',rfl⟩⟩:=vals2 r
  refine min_two_ints (I.ok.hd hc) fun h' tk k=>⟨_,H,I.kept k,?_,q⟩
  by_cases hj:j < i
  · rw [if_pos hj,if_pos hj]; exact ⟨_,rfl⟩
  · rw [if_neg hj,if_neg hj]; exact ⟨_,rfl⟩
theorem call_int1:CallR X (.type "int") (fun xs H Q=>(∃ i,xs = [.int i] ∧ Q (.int i) H) ∨ ∃ k,xs = [.bl k] ∧ Q (.int (if k then 1 else 0)) H):=by
  intro pins s σ H xs us Q I r h
  rcases h with ⟨i,rfl,q⟩ | ⟨k,rfl,q⟩
  · obtain ⟨u,rfl,t,rfl⟩:=vals1 r
    exact call_int_int ⟨.int i,H,I,⟨_,rfl⟩,q⟩
  · obtain ⟨u,rfl,r1⟩:=vals1 r
    cases r1
    exact call_int_bool ⟨.int (if k then 1 else 0),H,I.tok _,⟨_,rfl⟩,q⟩
end
end L2
namespace L2
open PySem PySem.Spec PyProof.Rows
theorem lookIn_ns {h:Heap} {dx:Addr} {mA:Str→Option Value} (n:h.Ns1 dx mA):∃ od,h.get? dx = some od ∧ ∀ name,PySem.W.lookIn name od = some (mA name):=by
  obtain ⟨o,es,ep,ho,hd,hk,_,hm⟩:=n
  refine ⟨o,ho,fun name=>?_⟩
  have e:=hm name
  unfold nsFind findBy at e
  rw [← Array.find?_toList] at e
  unfold PySem.W.lookIn
  rw [hd]
  dsimp only
  split
  · rename_i y q
    rw [q] at e
    exact congrArg some e
  · rename_i q
    rw [q] at e
    have a:es.toList.any (·.refKey) = false:=by
      rw [List.any_eq_false]
      intro y hy
      obtain ⟨z,t,hkey⟩:=hk y (Array.mem_toList_iff.mp hy)
      simp [DictEntry.refKey,hkey]
    have a':¬ es.toList.any (·.refKey) = true:=by rw [a]; exact Bool.false_ne_true
    rw [if_neg a']
    exact congrArg some e
section
variable {prog:Program} {w:World} {A:Around} {E:Value→Shared→Prop} {s:Shared} {K:PySem.W.Frag} {x dx C f:Addr} {mA:Str→Option Value} {name:Str} {v:Value}
end
section
variable {P:Program} {w:World} {H H':Hp} {h h':Heap} {a C dx:Addr} {fs fs':List (Str × V)}
end
section
variable {X:Cx} {pins:List (Addr × Obj)} {σ:St} {H:Hp} {s:Shared} {a C dx:Addr} {fs:List (Str × V)} {f:Str} {v:V} {A:Around} {E:Value→Shared→Prop}
theorem attr_of {prog:Program} {w:World} {env:Env} {e:Expr} {f:Str} {pos:Pos} {s:Shared} {Q:Value→Shared→Prop} (hb:attributeBase e f env (eval e env) = eval e env)
    (h:wpAny (model prog w) A (eval e env) (fun o s₁=>wpAny (model prog w) A (getAttr o f true) Q E s₁) E s):wpAny (model prog w) A (eval (.Attribute e f pos) env) Q E s :=
  Attribute_any_ h (by rw [arm_eval_Attribute,hb])
end
section
variable {X:Cx} {o e value:Expr} {f:Str} {pos pos' tpos:Pos} {ta tv:TE}
end
section
variable {X:Cx} {pins:List (Addr × Obj)} {σ:St} {H:Hp} {s:Shared} {A:Around} {E:Value→Shared→Prop} {Q:Value→Shared→Prop} {c:Value} {b:Bool}
end
end L2
namespace L2
open PySem PySem.Spec PyProof.Rows
structure Room (k:Nat) (A:Around):Prop where
  hd:A.handled = none
  dp:A.depth + 3 * k + 5 < recursionLimit
  un:A.units + 16 * k + 200 < cLine
  gd:A.guards = some []
theorem Room.mono {j k:Nat} {A:Around} (r:Room k A) (h:j ≤ k):Room j A:=⟨r.hd,by have:=r.dp; omega,by have:=r.un; omega,r.gd⟩
theorem Room.deeper {k:Nat} {A:Around} (r:Room (k + 1) A) (env:Env):Room k (A.deeper env) :=
  ⟨r.hd,by have:=r.dp; show A.depth + 1 + 3 * k + 5 < _; omega,by have:=r.un; show A.units + 3 + 16 * k + 200 < _; omega,r.gd⟩
theorem make_depth {A:Around} {C:Addr} {us:List Value} {kw:List (Str × Value)}:(A.under (.builtin "type.__call__" ⟨.ref C :: us,kw⟩)).depth = A.depth + 1:=by
  first | rfl | simp [Around.under,Code.weight,Code.isCreation,Code.isGuard,Code.isCaller,Code.frames,Code.isFrame,guardIds]
theorem make_units {A:Around} {C:Addr} {us:List Value} {kw:List (Str × Value)}:(A.under (.builtin "type.__call__" ⟨.ref C :: us,kw⟩)).units = A.units + 1:=by
  first | rfl | simp [Around.under,Code.cUnits,Code.frames,Code.isFrame]
theorem make_guards {A:Around} {C:Addr} {us:List Value} {kw:List (Str × Value)} (h:A.guards = some []):(A.under (.builtin "type.__call__" ⟨.ref C :: us,kw⟩)).guards = some []:=by
  first | exact h | simp [Around.under,Code.guards,Code.isGuard,guardIds,h]
theorem Room.make {k:Nat} {A:Around} (r:Room (k + 1) A) (C:Addr) (us:List Value) (kw:List (Str × Value)):Room k (A.under (.builtin "type.__call__" ⟨.ref C :: us,kw⟩)) :=
  ⟨r.hd,by have:=r.dp; rw [make_depth]; omega,by have:=r.un; rw [make_units]; omega,make_guards r.gd⟩
theorem Room.depth {k:Nat} {A:Around} (r:Room k A):A.depth < recursionLimit:=by have:=r.dp; omega
theorem Room.units {k:Nat} {A:Around} (r:Room k A):A.units + 64 < cLine:=by have:=r.un; omega
noncomputable def tNil:TA:=fun _ H Q=>Q [] H
noncomputable def tCons (ta:TE) (tr:TA):TA:=fun σ H Q=>ta σ H fun x H1=>tr σ H1 fun xs H2=>Q (x :: xs) H2
section
variable {X:Cx} {e:Expr} {es:List Expr} {te:TE} {t:TA} {pos:Pos}
theorem pa_nil:PA X [] tNil:=fun _ _ _ _ H Q I h=>Calls.spliced_nil ⟨[],H,I,.nil,h⟩
theorem pa_cons (ha:PE X e te) (hr:PA X es t) (hs:starEach (e :: es) X.env = (false,eval e X.env) :: starEach es X.env:=by rfl):PA X (e :: es) (tCons te t):=by
  intro pos pins s σ H Q I h
  rw [hs]
  show wpAny _ _ (spliced ((false,eval e X.env) :: backTo pos (starEach es X.env))) _ _ s
  refine Calls.spliced_cons (thn (ha pins s σ H _ I h) fun u s1 ⟨x,H1,I1,r1,q1⟩=>?_)
  exact thn (hr pos pins s1 σ H1 _ I1 q1) fun us s2 ⟨xs,H2,I2,r2,q2⟩=>⟨x :: xs,H2,I2,.cons r1 r2,q2⟩
noncomputable def tTup (t:TA):TE:=fun σ H Q=>t σ H fun xs H1=>xs.length ≤ sizeLine ∧ ∀ p,H1 p = none→Q (.ref p) (upd H1 p (.tup xs))
noncomputable def tLst (t:TA):TE:=fun σ H Q=>t σ H fun xs H1=>xs.length ≤ sizeLine ∧ ∀ p,H1 p = none→Q (.ref p) (upd H1 p (.lst xs))
theorem pe_tup {x1} (h:PA X es t):PE X (.Tuple es x1 pos) (tTup t):=by
  intro pins s σ H Q I hq
  refine wpAny_Tuple_spliced (thn (h pos pins s σ H _ I hq) fun us s1 ⟨xs,H1,I1,r,z,q⟩=>⟨by rw [← r.length]; exact z,?_⟩)
  have hf:H1 s1.heap.objs.size = none:=I1.hok.fresh (Nat.le_refl _)
  refine ⟨.ref s1.heap.objs.size,upd H1 s1.heap.objs.size (.tup xs),I1.laid (t':=s1.toks) (fun b u e=>Heap.get?_push_of_some _ e) (Nat.le_refl _) ?_,rfl,q _ hf⟩
  exact ⟨z,us,r,⟨_,Heap.get?_push_size _ rfl,rfl,_,rfl⟩⟩
theorem pe_lst (h:PA X es t):PE X (.List es pos) (tLst t):=by
  intro pins s σ H Q I hq
  refine wpAny_List_spliced (thn (h pos pins s σ H _ I hq) fun us s1 ⟨xs,H1,I1,r,z,q⟩=>⟨by rw [← r.length]; exact z,?_⟩)
  have hf:H1 s1.heap.objs.size = none:=I1.hok.fresh (Nat.le_refl _)
  refine ⟨.ref s1.heap.objs.size,upd H1 s1.heap.objs.size (.lst xs),I1.laid (t':=s1.toks) (fun b u e=>Heap.get?_push_of_some _ e) (Nat.le_refl _) ?_,rfl,q _ hf⟩
  exact ⟨z,us,0,r,Heap.get?_push_size _ rfl⟩
end
noncomputable abbrev Sp:=List V→Hp→VK→XK→Prop
noncomputable abbrev CXT:=List Env→Hp→Shared→XK→Value→Shared→Prop
structure Env0 (P:Program) (w:World) (K:PySem.W.Frag) (mg:Str→Option Value) (base:Heap) (A:Around) (outer:List Env) (s:Shared) (H:Hp):Prop where
  frames:A.frames = some outer
  mod:Mod K mg base
  bs:∀ b o,base.get? b = some o→s.heap.get? b = some o ∧ H b = none
  bsz:base.objs.size ≤ s.heap.objs.size
  funs:s.heap.FunFrames base outer
  frf:∀ b ∈ frs outer,H b = none
  hok:HOk P w H s.heap
  bare:AllBare s.gens
noncomputable def CE (outer:List Env) (P:Program) (w:World) (H:Hp) (s:Shared) (Q:VK) (u:Value) (s':Shared):Prop :=
  ∃ v H',s'.os = s.os ∧ AllBare s'.gens ∧ Un (frs outer) [] H H' s.heap s'.heap ∧ HOk P w H' s'.heap ∧ RelV v u ∧ Q v H'
noncomputable def CR (CX:CXT) (outer:List Env) (P:Program) (w:World) (H:Hp) (s:Shared) (Q:VK) (E:XK) (r:Result) (s':Shared):Prop :=
  match r with
  | .ok (.ret u)=>CE outer P w H s Q u s'
  | .ok _=>False
  | .error e=>CX outer H s E e s'
structure FnOk (P:Program) (w:World) (K:PySem.W.Frag) (mg:Str→Option Value) (base:Heap) (CX:CXT) (k:Nat) (f:Addr) (fd:FuncData) (ps:List Str) (sp:Sp):Prop where
  len:∀ vs H Q E,sp vs H Q E→vs.length = ps.length
  run:∀ (A:Around) (outer:List Env) (s:Shared) (H:Hp) (args:Args) (us:List Value) (vs:List V) (Q:VK) (E:XK),Room k A→Env0 P w K mg base A outer s H→BindsTo s fd args (ps.zip us)→Vals vs us→sp vs H Q E →
    codeAny (model P w) A (.call (.ref f) args) (CR CX outer P w H s Q E) s
section
variable {X:Cx} {pins:List (Addr × Obj)} {σ:St} {H:Hp} {s s':Shared}
theorem Inv.env0 (I:Inv X pins σ H s):Env0 X.prog X.w X.K X.mg X.base X.A X.stack s H :=
  ⟨I.ok.frames,I.ok.mod,I.bs,Nat.le_trans I.ok.bsz I.sz,I.stack,I.stkFree,I.hok,I.bare⟩
theorem Inv.after {Q:VK} {u:Value} (I:Inv X pins σ H s) (h:CE X.stack X.prog X.w H s Q u s'):EP X pins σ Q u s':=by
  obtain ⟨v,H',os,bare,un,hok,r,q⟩:=h
  obtain ⟨hh,g,d,t,os'⟩:=s'
  obtain rfl:os' = s.os:=os
  exact ⟨v,H',I.call (h':=hh) (g':=g) (d':=d) (t':=t) (ch:=[]) un hok bare (fun b z=>absurd z (by simp)),r,q⟩
end
noncomputable def tCall (sp:Sp) (dvs:List V) (E:XK) (t:TA):TE:=fun σ H Q=>t σ H fun vs H1=>sp (vs ++ dvs) H1 Q E
noncomputable def Binds (K:PySem.W.Frag) (fd:FuncData) (ps:List Str) (ds:List Value):Prop :=
  ∀ (s:Shared) (us:List Value),K.In s.heap→(us ++ ds).length = ps.length→BindsTo s fd ⟨us,[]⟩ (ps.zip (us ++ ds))
theorem Binds.all {K:PySem.W.Frag} {fd:FuncData} {ps:List Str} (h:∀ us:List Value,us.length = ps.length→bindArgs fd ⟨us,[]⟩ = pure (ps.zip us)):Binds K fd ps []:=fun s us _ hl=>by
  rw [List.append_nil] at hl ⊢
  exact .of_eq (h us hl)
noncomputable def Passes (CX:CXT) (X:Cx) (E:XK):Prop:=∀ (pins:List (Addr × Obj)) (σ:St) (H:Hp) (s:Shared) (e:Value) (s':Shared),Inv X pins σ H s→CX X.stack H s E e s'→X.xe e s'
section
variable {X:Cx} {CX:CXT} {k:Nat} {f C:Addr} {fd:FuncData} {ps:List Str} {sp:Sp} {dvs:List V} {ds:List Value} {E:XK} {x m:Str} {p pos apos:Pos} {e o:Expr} {es:List Expr} {ta:TE} {t:TA}
theorem run_fn {pins:List (Addr × Obj)} {σ:St} {H:Hp} {s:Shared} {Q:VK} {us:List Value} {vs:List V} (F:FnOk X.prog X.w X.K X.mg X.base CX k f fd ps sp) (hr:Room k X.A) (hb:Binds X.K fd ps ds) (hd:Vals dvs ds) (hx:Passes CX X E)
    (I:Inv X pins σ H s) (r:Vals vs us) (h:sp (vs ++ dvs) H Q E):wpAny (model X.prog X.w) X.A (call (.ref f) us) (EP X pins σ Q) X.xe s:=by
  have r2:Vals (vs ++ dvs) (us ++ ds):=r.append hd
  have hl:(us ++ ds).length = ps.length:=by rw [← r2.length]; exact F.len _ _ _ _ h
  refine wpAny_call (codeAny_mono (F.run X.A X.stack s H ⟨us,[]⟩ (us ++ ds) (vs ++ dvs) Q E hr I.env0 (hb s us I.kIn hl) r2 h) fun r s' hq=>?_)
  cases r with
  | error e=>exact hx pins σ H s e s' I hq
  | ok fl =>
    cases fl with
    | ret u=>exact I.after hq
    | next=>exact False.elim hq
    | brk=>exact False.elim hq
    | cont=>exact False.elim hq
theorem pe_call (F:FnOk X.prog X.w X.K X.mg X.base CX k f fd ps sp) (hr:Room k X.A) (hg:Gl X x) (hm:X.mg x = some (.ref f)) (hk:PySem.W.keepIn X.K (.ref f) = true) (hb:Binds X.K fd ps ds) (hd:Vals dvs ds) (hx:Passes CX X E)
    (ha:PA X (e :: es) t) (hdb:(x == ("__debug__":Str)) = false:=by decide) (he:starEach (e :: es) X.env = (false,eval e X.env) :: starEach es X.env:=by rfl) (hpl:(backTo pos (starEach es X.env)).any (·.1) = false:=by rfl) :
    PE X (.Call (.Name x p) (e :: es) [] pos) (tCall sp dvs E t):=by
  intro pins s σ H Q I h
  refine wpAny_Call_Name_kw (ld_glob I hg hm ?_ hdb)
  refine PySem.W.callWith_K (h₀:=X.base) I.ok.mod.kin hk (thn (ha pos pins s σ H _ I h) fun us s1 ⟨vs,H1,I1,r,q⟩=>⟨I1.kIn,?_⟩) he hpl
  exact run_fn F hr hb hd hx I1 r q
end
section
variable {X:Cx} {CX:CXT} {k:Nat} {f C:Addr} {fd:FuncData} {ps ks:List Str} {sp:Sp} {E:XK} {x m:Str} {p pos apos kpos:Pos} {e o:Expr} {es:List Expr} {kws:List Keyword} {te ta:TE} {t tk:TA} {nm:Option Str}
variable {g:List Value→List Value→List Value} {gV:List V→List V→List V}
end
structure FnScope (N P:List Str) (sc:Scope):Prop where
  kind:sc.kind = .function
  co:sc.isCoroutine = false
  gen:sc.isGenerator = false
  nd:N.Nodup
  pre:N.take P.length = P
  par:∀ x ∈ P,sc.names.lookup x = some .local ∨ sc.names.lookup x = some .cell
  nofree:∀ y ∈ sc.names,y.2 ≠ .free
theorem bindL_out {kindOf:Str→Option NameKind} {x:Str}:∀ {binds:List (Str × Value)} {m:Str→Option Value},(∀ v,(x,v) ∉ binds)→bindL kindOf binds m x = m x
  | [],_,_=>rfl
  | (n,v) :: r,m,h=>by
    unfold bindL
    rw [bindL_out fun w hw=>h w (List.mem_cons_of_mem _ hw)]
    split
    · have:x ≠ n:=by rintro rfl; exact h v List.mem_cons_self
      simp [this]
    · rfl
theorem bindC_out {kindOf:Str→Option NameKind} {x:Str}:∀ {binds:List (Str × Value)} {m:Str→Option Value},(∀ v,(x,v) ∉ binds)→bindC kindOf binds m x = m x
  | [],_,_=>rfl
  | (n,v) :: r,m,h=>by
    unfold bindC
    rw [bindC_out fun w hw=>h w (List.mem_cons_of_mem _ hw)]
    split
    · rfl
    · have:x ≠ n:=by rintro rfl; exact h v List.mem_cons_self
      simp [this]
theorem bindL_get {kindOf:Str→Option NameKind} {x:Str} {v:Value}:∀ {P:List Str} {vs:List Value} {i:Nat} {m:Str→Option Value},P.Nodup→P[i]? = some x→vs[i]? = some v→kindOf x = some .local →
    bindL kindOf (P.zip vs) m x = some v
  | [],_,_,_,_,h,_,_=>by simp at h
  | _ :: _,[],_,_,_,_,h,_=>by simp at h
  | p :: P,w :: vs,0,m,nd,h1,h2,hk=>by
    simp at h1 h2; subst h1; subst h2
    show bindL kindOf ((p,w) :: P.zip vs) m p = _
    unfold bindL
    rw [bindL_out fun v hv=>(List.nodup_cons.mp nd).1 (List.of_mem_zip hv).1,if_pos hk]
    simp
  | p :: P,w :: vs,i + 1,m,nd,h1,h2,hk=>by
    show bindL kindOf ((p,w) :: P.zip vs) m x = _
    unfold bindL
    exact bindL_get (i:=i) (List.nodup_cons.mp nd).2 (by simpa using h1) (by simpa using h2) hk
theorem bindC_get {kindOf:Str→Option NameKind} {x:Str} {v:Value}:∀ {P:List Str} {vs:List Value} {i:Nat} {m:Str→Option Value},P.Nodup→P[i]? = some x→vs[i]? = some v→kindOf x ≠ some .local →
    bindC kindOf (P.zip vs) m x = some v
  | [],_,_,_,_,h,_,_=>by simp at h
  | _ :: _,[],_,_,_,_,h,_=>by simp at h
  | p :: P,w :: vs,0,m,nd,h1,h2,hk=>by
    simp at h1 h2; subst h1; subst h2
    show bindC kindOf ((p,w) :: P.zip vs) m p = _
    unfold bindC
    rw [bindC_out fun v hv=>(List.nodup_cons.mp nd).1 (List.of_mem_zip hv).1,if_neg hk]
    simp
  | p :: P,w :: vs,i + 1,m,nd,h1,h2,hk=>by
    show bindC kindOf ((p,w) :: P.zip vs) m x = _
    unfold bindC
    exact bindC_get (i:=i) (List.nodup_cons.mp nd).2 (by simpa using h1) (by simpa using h2) hk
noncomputable def start (N:List Str) (vs:List V):St:=vs.map some ++ List.replicate (N.length - vs.length) none
noncomputable def cxOf (CX:CXT) (P:Program) (w:World) (K:PySem.W.Frag) (mg:Str→Option Value) (base:Heap) (N:List Str) (qual:Str) (scope:Scope) (f:Addr) (cd:Value) (A:Around) (outer:List Env) (s:Shared) (H:Hp) (E:XK):Cx where
  prog:=P
  w:=w
  K:=K
  mg:=mg
  base:=base
  A:=A.deeper (envOfC qual scope s.heap.objs.size f cd)
  N:=N
  s₀:=s
  H₀:=H
  env:=envOfC qual scope s.heap.objs.size f cd
  outer:=outer
  stack:=envOfC qual scope s.heap.objs.size f cd :: outer
  ex:=[]
  calm:=true
  fn:=fun _=>true
  pn:=[]
  xe:=fun e s'=>wpAny (model P w) (A.deeper (envOfC qual scope s.heap.objs.size f cd)) (leaving (envOfC qual scope s.heap.objs.size f cd) e) (fun _ s''=>CX outer H s E e s'') (fun e' s''=>CX outer H s E e' s'') s'
theorem cell_has {sc:Scope} {n:Nat} {x:Str} (h:sc.names.lookup x = some .cell):∃ c,(cellsFrom n sc.names []).lookup x = some c:=by
  have q:=PySem.W.cellsFrom_some sc.names n [] (.inl h)
  exact Option.isSome_iff_exists.mp q
theorem inv_start {CX:CXT} {P:Program} {w:World} {K:PySem.W.Frag} {mg:Str→Option Value} {base:Heap} {N ps:List Str} {qual:Str} {scope:Scope} {f:Addr} {cd:Value} {A:Around} {outer:List Env} {s s1:Shared} {H:Hp} {E:XK} {us:List Value} {vs:List V}
    (S:FnScope N ps scope) (hd:A.handled = none) (e0:Env0 P w K mg base A outer s H) (hl:vs.length = ps.length) (r:Vals vs us)
    (x:InCallC s s.heap.objs.size (bindL (envOfC qual scope s.heap.objs.size f cd).kindOf (ps.zip us) fun _=>none) (cellsFrom (s.heap.objs.size + 1) scope.names []) (bindC (envOfC qual scope s.heap.objs.size f cd).kindOf (ps.zip us) fun _=>none) s1) :
    Inv (cxOf CX P w K mg base N qual scope f cd A outer s H E) [] (start N vs) H s1:=by
  have hpl:ps.length ≤ N.length:=by have:=congrArg List.length S.pre; rw [List.length_take] at this; omega
  obtain ⟨h1,tk,rfl,hk⟩:=x.done
  have noA:∀ b:Addr,b ∉ (cxOf CX P w K mg base N qual scope f cd A outer s H E).ex:=fun b z=>absurd (show b ∈ ([]:List Addr) from z) (by simp)
  refine ⟨⟨e0.mod,S.kind,rfl,rfl,Nat.le_refl _,fun y z c h1 h2=>?_,fun y hy=>?_,fun y c _ h=>?_,fun _=>hd,Around.frames_deeper e0.frames,.inr ⟨rfl,rfl⟩,fun b z=>absurd z (noA b),e0.bs,e0.bsz,fun b _ _=>noA b,fun b z=>absurd z (noA b),e0.funs,e0.frf⟩,
    rfl,e0.bare,Un.kept hk,⟨_,x.toInCall.ns,fun i y v h1 h2 h3=>?_⟩,fun y c h=>⟨_,x.cell y c h⟩,e0.hok.fresh (Nat.le_refl _),fun y c h=>?_,fun p hp=>absurd (show p ∈ ([]:List (Addr × Obj)) from hp) (by simp),e0.hok.kept hk,?_⟩
  · exact name_of_addr x.apart (PySem.mem_of_lookup h1) (PySem.mem_of_lookup h2)
  · have hy:scope.names.lookup y = some .cell ∨ scope.names.lookup y = some .free:=hy
    rcases hy with hy | hy
    · exact cell_has hy
    · exact absurd rfl (S.nofree _ (PySem.mem_of_lookup hy))
  · exact Nat.le_of_lt (x.above y c (PySem.mem_of_lookup h))
  · have hi:i < vs.length:=by
      unfold start at h2
      by_cases hi:i < vs.length
      · exact hi
      · rw [List.getElem?_append_right (by simpa using hi)] at h2
        rw [List.getElem?_replicate] at h2
        split at h2 <;> cases h2
    have ha:vs[i]? = some v:=by
      unfold start at h2
      rw [List.getElem?_append_left (by simpa using hi),List.getElem?_map] at h2
      cases e:vs[i]? with
      | none=>rw [e] at h2; cases h2
      | some a=>rw [e] at h2; cases h2; rfl
    obtain ⟨u,hu,rv⟩:=r.get ha
    have hp:ps[i]? = some y:=by
      rw [← S.pre,List.getElem?_take_of_lt (by omega)]; exact h1
    have ndP:ps.Nodup:=by rw [← S.pre]; exact S.nd.sublist (List.take_sublist _ _)
    refine ⟨u,rv,?_⟩
    rcases S.par y (List.mem_of_getElem? hp) with k | k
    · exact .inl ⟨k,bindL_get ndP hp hu k⟩
    · obtain ⟨c,e⟩:=cell_has (n:=s.heap.objs.size + 1) k
      refine .inr ⟨.inl k,c,e,?_⟩
      have q:=x.cell y c e
      rw [bindC_get ndP hp hu (by show scope.names.lookup y ≠ _; rw [k]; decide)] at q
      exact q
  · exact e0.hok.fresh (Nat.le_of_lt (x.above y c (PySem.mem_of_lookup h)))
  · unfold start
    show _ = N.length
    rw [List.length_append,List.length_map,List.length_replicate]
    omega
theorem fn_of {CX:CXT} {P:Program} {w:World} {K:PySem.W.Frag} {mg:Str→Option Value} {base:Heap} {k:Nat} {f:Addr} {name qual:Str} {params:Arguments} {body:List Stmt} {scope:Scope} {dV kV doc pm cdv ct oc:Value} {an od:Option Addr}
    {osl:Array (Option Value)} {N ps:List Str} {sp:Sp} (lk:K.lookup f = some ⟨oc,od,.func (PySem.W.fnOf name qual params body scope dV kV doc pm an cdv ct),osl⟩) (hcd:PySem.W.codeIn K cdv qual = true) (S:FnScope N ps scope)
    (len:∀ vs H Q E,sp vs H Q E→vs.length = ps.length)
    (hbody:∀ (A:Around) (outer:List Env) (s:Shared) (H:Hp) (vs:List V) (Q:VK) (E:XK),Room k (A.deeper (envOfC qual scope s.heap.objs.size f cdv))→sp vs H Q E →
      ∃ t,PSs (cxOf CX P w K mg base N qual scope f cdv A outer s H E) body t ∧ t { nx:=fun _ H'=>Q .non H',rt:=Q } (start N vs) H) :
    FnOk P w K mg base CX (k + 1) f (PySem.W.fnOf name qual params body scope dV kV doc pm an cdv ct) ps sp:=by
  refine ⟨len,fun A outer s H args us vs Q E hr e0 hb r hsp=>?_⟩
  have hl:=len _ _ _ _ hsp
  have KX:K.In s.heap:=e0.mod.kin.keeps fun b o e=>(e0.bs b o e).1
  have lim:s.heap.NoLimit:=e0.mod.nolimit.keeps fun b o e=>(e0.bs b o e).1
  have hkind:∀ y ∈ ps.zip us,scope.names.lookup y.1 = some .local ∨ (scope.names.lookup y.1 = some .cell ∧ ((cellsFrom (s.heap.objs.size + 1) scope.names []).lookup y.1).isSome = true):=fun ⟨n,v⟩ hy=>by
    rcases S.par n (List.of_mem_zip hy).1 with q | q
    · exact .inl q
    · exact .inr ⟨q,PySem.W.cellsFrom_some _ _ _ (.inl q)⟩
  refine codeAny_call_function hr.depth (KX _ _ lk) rfl S.co S.gen rfl (PySem.W.codeRec_of KX hcd) (hb _ _ _ _ ?_)
  refine wpAny_newFunctionEnv_cells S.kind hkind fun env he s1 x=>?_
  subst he
  refine ⟨lim.keeps x.toInCall.keep,codeAny_func ?_⟩
  obtain ⟨t,ht,hq⟩:=hbody A outer s H vs Q E (hr.deeper _) hsp
  have I:Inv (cxOf CX P w K mg base N qual scope f cdv A outer s H E) [] (start N vs) H s1:=inv_start S hr.hd e0 hl r x
  refine wpAny_mono (ht [] s1 (start N vs) H _ I hq) (fun fl s' hs=>?_) fun e s' hs=>hs
  have fin:∀ {σ':St} {H':Hp} {v:V} {u:Value},Inv (cxOf CX P w K mg base N qual scope f cdv A outer s H E) [] σ' H' s'→RelV v u→Q v H'→CE outer P w H s Q u s' :=
    fun {σ' H' v u} J rv q=>⟨v,H',J.os,J.bare,J.base,J.hok,rv,q⟩
  cases fl with
  | ret u =>
    obtain ⟨v,σ',H',J,rv,q⟩:=hs
    exact fin J rv q
  | next =>
    obtain ⟨σ',H',J,q⟩:=hs
    exact fin (v:=V.non) (u:=Value.none) J rfl q
  | brk =>
    obtain ⟨_,_,_,q⟩:=hs
    exact False.elim q
  | cont =>
    obtain ⟨_,_,_,q⟩:=hs
    exact False.elim q
end L2
namespace L2
open PySem PySem.Spec PyProof.Rows
section
variable {X:Cx} {x:Str} {p pos:Pos} {e:Expr} {es:List Expr} {t:TA} {id T:String} {r:List V→Hp→VK→Prop}
noncomputable def tCB (r:List V→Hp→VK→Prop) (t:TA):TE:=fun σ H Q=>t σ H fun vs H1=>r vs H1 Q
theorem pe_callB (hc:CallR X (.builtin id) r) (hg:Gl X x) (hm:X.mg x = none) (hv:bootBuiltins x = some (.builtin id)) (ha:PA X (e :: es) t) (hn:x ≠ "__name__":=by decide) (hdb:(x == ("__debug__":Str)) = false:=by decide)
    (he:starEach (e :: es) X.env = (false,eval e X.env) :: starEach es X.env:=by rfl) (hpl:(backTo pos (starEach es X.env)).any (·.1) = false:=by rfl):PE X (.Call (.Name x p) (e :: es) [] pos) (tCB r t):=by
  intro pins s σ H Q I h
  refine wpAny_Call_Name_kw (ld_blt I hg hm hv ?_ hn hdb)
  exact PyProof.Rows.callWith_builtin1 (thn (ha pos pins s σ H _ I h) fun us s1 ⟨vs,H1,I1,r1,q1⟩=>hc pins s1 σ H1 vs us Q I1 r1 q1) he hpl
theorem pe_callTy (hc:CallR X (.type T) r) (hg:Gl X x) (hm:X.mg x = none) (hv:bootBuiltins x = some (.type T)) (ha:PA X (e :: es) t) (hn:x ≠ "__name__":=by decide) (hdb:(x == ("__debug__":Str)) = false:=by decide)
    (he:starEach (e :: es) X.env = (false,eval e X.env) :: starEach es X.env:=by rfl) (hpl:(backTo pos (starEach es X.env)).any (·.1) = false:=by rfl):PE X (.Call (.Name x p) (e :: es) [] pos) (tCB r t):=by
  intro pins s σ H Q I h
  refine wpAny_Call_Name_kw (ld_blt I hg hm hv ?_ hn hdb)
  exact PyProof.Rows.callWith_type1 (thn (ha pos pins s σ H _ I h) fun us s1 ⟨vs,H1,I1,r1,q1⟩=>hc pins s1 σ H1 vs us Q I1 r1 q1) he hpl
end
end L2
namespace HT
open PySem PyProof.Rows
section
open PySem.SeqAt
open PySem.AutoSeq1 (wpAny_loadPart')
open PySem.MeetsSeq PySem.MeetsSeq2 PySem.MeetsSeq3
end
section
variable {prog:Program} {w:World} {A:Around} {E:Value→Shared→Prop} {s:Shared}
theorem cat_tup {t b:Addr} {vs ws:List Value} {Q:Value→Shared→Prop} (ht:IsTup s.heap t vs.toArray) (hb:IsTup s.heap b ws.toArray) (hv:vs ≠ [])
    (h1:ws = []→Q (.ref t) s) (h2:ws ≠ []→Q (.ref s.heap.objs.size) { s with heap:=s.heap.push { cls:=.type "tuple",data:=.seq (vs ++ ws).toArray } })
    (hsz:vs.length + ws.length ≤ sizeLine):wpAny (model prog w) A (binaryOp .Add (.ref t) (.ref b)) Q E s:=by
  obtain ⟨⟨cls,dd,data,sl⟩,ho,hc,n,hd⟩:=id ht
  obtain ⟨⟨cls2,dd2,data2,sl2⟩,ho2,hc2,n2,hd2⟩:=id hb
  simp only at hc hd hc2 hd2
  subst hc hd hc2 hd2
  have e:vs.toArray ++ ws.toArray = (vs ++ ws).toArray:=by simp
  by_cases hw:ws = []
  · exact concat_meets ⟨_,ho,rfl⟩ ⟨_,ho2,rfl⟩ noFill_tuple_add seq_tuple_add PySem.F.slot_tuple_add PySem.F.entry_tuple_add (PySem.F.args_tuple_add_2 _ _)
      (tuple_addW1 t b vs.toArray ws.toArray n n2 dd dd2 sl sl2 (by simpa using hv) (by simp [hw])) ⟨ho,ho2,h1 hw⟩
  · refine concat_meets ⟨_,ho,rfl⟩ ⟨_,ho2,rfl⟩ noFill_tuple_add seq_tuple_add PySem.F.slot_tuple_add PySem.F.entry_tuple_add (PySem.F.args_tuple_add_2 _ _)
      (tuple_addW2 t b vs.toArray ws.toArray n n2 dd dd2 sl sl2 (by simpa using hv) (by simpa using hw) (by rw [List.size_toArray,List.size_toArray]; exact hsz)) ⟨ho,ho2,?_⟩
    rw [e]
    exact h2 hw
noncomputable def sIx (n d:Nat):Option Int→Nat
  | none=>d
  | some v=>if v < 0 then (v + (n:Int)).toNat else min v.toNat n
theorem sIx_none (n d:Nat):sIx n d none = d:=rfl
theorem sIx_nat (n d k:Nat):sIx n d (some (k:Int)) = min k n:=by
  show (if (k:Int) < 0 then ((k:Int) + (n:Int)).toNat else min (k:Int).toNat n) = min k n
  rw [if_neg (by omega),Int.toNat_natCast]
theorem sIx_le (n d:Nat) (hd:d ≤ n) (o:Option Int):sIx n d o ≤ n:=by
  cases o with
  | none=>exact hd
  | some v =>
    show (if v < 0 then (v + (n:Int)).toNat else min v.toNat n) ≤ n
    by_cases hv:v < 0
    · rw [if_pos hv]; omega
    · rw [if_neg hv]; exact Nat.min_le_right _ _
theorem clip_eq (v:Int) (n d:Nat):(if v < 0 then max (v + (n:Int)) 0 else min v (n:Int)) = ((sIx n d (some v):Nat):Int):=by
  show (if v < 0 then max (v + (n:Int)) 0 else min v (n:Int)) = (((if v < 0 then (v + (n:Int)).toNat else min v.toNat n):Nat):Int)
  by_cases hv:v < 0
  · simp only [if_pos hv]; omega
  · simp only [if_neg hv]; omega
theorem adjust_gen (lo hi:Option Int) (n:Nat):Builtin.Slice.sliceAdjust lo hi 1 (n:Int) = (((sIx n 0 lo:Nat):Int),((sIx n n hi:Nat):Int)):=by
  have h1:¬ ((1:Int) < 0):=by omega
  unfold Builtin.Slice.sliceAdjust
  simp only [h1,if_false]
  refine Prod.ext ?_ ?_
  · cases lo with
    | none=>rfl
    | some v=>exact clip_eq v n 0
  · cases hi with
    | none=>rfl
    | some v=>exact clip_eq v n n
theorem places_gen (i j:Nat):Builtin.Slice.slicePlaces (i:Int) (j:Int) 1 = j - i:=by
  unfold Builtin.Slice.slicePlaces
  have h1:(1:Int) > 0:=by omega
  simp only [h1,if_true,Int.ediv_one]
  split <;> omega
theorem slicePart_ {v:Value} {o:Option Int} {Q:Option Int→Shared→Prop} (p:IsPart v o) (h:Q o s):wpAny (model prog w) A (Builtin.Slice.slicePartIndex v) Q E s:=by
  cases p with
  | none=>exact slicePart_none h
  | int i t=>exact slicePart_int h
theorem sliceApplied_gen {sl:Addr} {vl vu:Value} {lo hi:Option Int} {n:Nat} {Q:Int × Int × Nat→Shared→Prop} (hs:s.heap.IsSliceOf sl vl vu .none) (pl:IsPart vl lo) (pu:IsPart vu hi)
    (h:Q (((sIx n 0 lo:Nat):Int),1,sIx n n hi - sIx n 0 lo) s):wpAny (model prog w) A (Builtin.Slice.sliceApplied (.ref sl) (pure (n:Int))) Q E s:=by
  obtain ⟨os,hos,hcs,hds⟩:=id hs
  unfold Builtin.Slice.sliceApplied Builtin.Slice.sliceFields
  refine wpAny_bind (wpAny_bind (wpAny_field hos hds (x:=vl) rfl (wpAny_bind (wpAny_field hos hds (x:=vu) rfl (wpAny_bind (wpAny_field hos hds (x:=.none) rfl (wpAny_pure ?_)))))))
  refine wpAny_bind (slicePart_none ?_)
  show wpAny _ _ (if ((1:Int) == 0) = true then _ else _) _ _ s
  rw [if_neg (by decide)]
  refine wpAny_bind (slicePart_ pl (wpAny_bind (slicePart_ pu (wpAny_bind (wpAny_pure ?_)))))
  show wpAny _ _ (match Builtin.Slice.sliceAdjust lo hi 1 (n:Int) with | (lo,hi)=>pure (lo,(1:Int),Builtin.Slice.slicePlaces lo hi 1)) _ _ s
  rw [adjust_gen lo hi n]
  show wpAny _ _ (pure (((sIx n 0 lo:Nat):Int),(1:Int),Builtin.Slice.slicePlaces ((sIx n 0 lo:Nat):Int) ((sIx n n hi:Nat):Int) 1)) _ _ s
  rw [places_gen]
  exact wpAny_pure h
theorem pick_gen (xs:Array Value) (i k:Nat):((List.range k).filterMap fun (m:Nat)=>xs[((i:Int) + (m:Int) * 1).toNat]?).toArray = ((xs.toList.drop i).take k).toArray:=by
  have e:(fun (m:Nat)=>xs[((i:Int) + (m:Int) * 1).toNat]?) = fun m=>xs[i + m]?:=by
    funext m
    have:((i:Int) + (m:Int) * 1).toNat = i + m:=by omega
    rw [this]
  rw [e]
  have:=pick_run xs i k
  rw [List.filterMap_map] at this
  have e2:((fun x=>xs[x]?) ∘ fun x=>i + x) = fun m=>xs[i + m]?:=rfl
  rw [e2] at this
  rw [this]
theorem getItem_tuple_cut {t sl:Addr} {items:Array Value} {vl vu:Value} {lo hi:Option Int} {Q:Value→Shared→Prop} (ht:IsTup s.heap t items) (hs:s.heap.IsSliceOf sl vl vu .none) (pl:IsPart vl lo) (pu:IsPart vu hi)
    (hw:¬ (sIx items.size 0 lo = 0 ∧ sIx items.size items.size hi = items.size))
    (h:Q (.ref s.heap.objs.size) { s with heap:=s.heap.push { cls:=.type "tuple",data:=.seq ((items.toList.drop (sIx items.size 0 lo)).take (sIx items.size items.size hi - sIx items.size 0 lo)).toArray } })
    (hsz:items.size ≤ sizeLine):wpAny (model prog w) A (getItem (.ref t) (.ref sl)) Q E s:=by
  have htake:sizeOk (.seq ((items.toList.drop (sIx items.size 0 lo)).take (sIx items.size items.size hi - sIx items.size 0 lo)).toArray):=by
    show ((items.toList.drop (sIx items.size 0 lo)).take (sIx items.size items.size hi - sIx items.size 0 lo)).toArray.size ≤ sizeLine
    rw [List.size_toArray,List.length_take,List.length_drop,Array.length_toList]
    omega
  have hj:sIx items.size items.size hi ≤ items.size:=sIx_le _ _ (Nat.le_refl _) hi
  obtain ⟨os,hos,hcs,hds⟩:=id hs
  have hTs:s.TypeIs (.ref sl) "slice":=⟨os,hos,hcs⟩
  unfold getItem
  try with_reducible refine wpAny_holding ?_
  first | refine wpAny_bind (wpAny_pure ?_) | skip
  refine wpAny_bind (wpAny_sequenceKey ht.typeIs (by decide) ?_)
  refine wpAny_bind (wpAny_callSpecial?_slot (name:=Str.ofString "__getitem__") ht.typeIs PyProof.Rows.slot_tuple_getitem
    (wpAny_call_entry PyProof.Rows.slot_tuple_getitem ht.typeIs entry_tuple_getitem ?_ (args_tuple_getitem _ _)))
  show wpAny _ _ (Builtin.Tuple.tupleItemsOf (.ref t) >>= _) _ _ s
  refine wpAny_bind (tupleItemsOf_ ht ?_)
  refine wpAny_bind (wpAny_typeOf hTs ?_)
  rw [if_pos (by decide)]
  refine wpAny_bind (sliceApplied_gen hs pl pu ?_)
  have hno:¬ ((((sIx items.size 0 lo:Nat):Int) == 0 && (1:Int) == 1 && (sIx items.size items.size hi - sIx items.size 0 lo) == items.size) = true):=by
    intro q
    rw [Bool.and_eq_true,Bool.and_eq_true] at q
    have q1:((sIx items.size 0 lo:Nat):Int) = 0:=eq_of_beq q.1.1
    have q2:sIx items.size items.size hi - sIx items.size 0 lo = items.size:=eq_of_beq q.2
    exact hw ⟨by omega,by omega⟩
  show wpAny _ _ (if (((sIx items.size 0 lo:Nat):Int) == 0 && (1:Int) == 1 && (sIx items.size items.size hi - sIx items.size 0 lo) == items.size) = true then _ else _) _ _ s
  rw [if_neg hno,pick_gen]
  first
    | exact wpAny_bind (m:=Builtin.Tuple.tupleExact _) (wpAny_newObj_type (wpAny_pure ⟨_,rfl,wpAny_pure h⟩) htake)
    | exact wpAny_bind (m:=Builtin.Tuple.tupleExact _) (wpAny_newObj_type (wpAny_bind (wpAny_pure (wpAny_pure ⟨_,rfl,wpAny_pure h⟩))) htake)
    | exact wpAny_bind (wpAny_bind (m:=Builtin.Tuple.tupleExact _) (wpAny_newObj_type (wpAny_pure (wpAny_pure ⟨_,rfl,wpAny_pure h⟩)) htake))
    | exact wpAny_bind (wpAny_bind (m:=Builtin.Tuple.tupleExact _) (wpAny_newObj_type (wpAny_pure ⟨_,rfl,wpAny_pure h⟩) htake))
end
end HT
namespace L2
open PySem PySem.Spec PyProof.Rows
noncomputable abbrev TO:=St→Hp→(Option Int→Hp→Prop)→Prop
noncomputable def PO (X:Cx) (e:Option Expr) (t:TO):Prop :=
  ∀ (pins:List (Addr × Obj)) (s:Shared) (σ:St) (H:Hp) (Q:Option Int→Hp→Prop),Inv X pins σ H s→t σ H Q →
    wpAny (model X.prog X.w) X.A (evalPart e X.env) (fun u s'=>∃ o H',Inv X pins σ H' s' ∧ IsPart u o ∧ Q o H') X.xe s
noncomputable def tNoPart:TO:=fun _ H Q=>Q none H
noncomputable def tPart (t:TE):TO:=fun σ H Q=>t σ H fun x H1=>∃ i,x = .int i ∧ Q (some i) H1
theorem intsAre_of {ns:List Int}:∀ {us:List Value},Vals (ns.map V.int) us→IntsAre us ns:=by
  induction ns with
  | nil=>intro us r; rw [List.map_nil] at r; cases r; exact .nil
  | cons n ns ih =>
    intro us r
    rw [List.map_cons] at r
    cases r with
    | cons r1 r2 =>
      obtain ⟨t,e⟩:=r1
      subst e
      exact .cons n t (ih r2)
section
variable {X:Cx} {e:Expr} {te:TE} {lo hi:Option Expr} {tl th:TO} {pos p2:Pos}
theorem po_none:PO X none tNoPart:=by
  intro pins s σ H Q I h
  rw [evalPart_none]
  exact wpAny_pure ⟨none,H,I,.none,h⟩
theorem po_some (h:PE X e te):PO X (some e) (tPart te):=by
  intro pins s σ H Q I hw
  rw [evalPart_some]
  refine thn (h pins s σ H _ I hw) fun u s1 ⟨x,H1,I1,r1,q1⟩=>?_
  obtain ⟨i,rfl,q⟩:=q1
  obtain ⟨t,rfl⟩:=r1
  exact ⟨some i,H1,I1,.int i t,q⟩
noncomputable def SlR (X:Cx) (r:V→Option Int→Option Int→Hp→VK→Prop):Prop :=
  ∀ (pins:List (Addr × Obj)) (s:Shared) (σ:St) (H:Hp) (x:V) (v vl vu:Value) (lo hi:Option Int) (sl:Addr) (Q:VK),Inv X pins σ H s→RelV x v→s.heap.IsSliceOf sl vl vu .none→IsPart vl lo→IsPart vu hi→r x lo hi H Q →
    ∃ T id,typeLookup (.type T) "__getitem__" = pure (some (.builtin id)) ∧ s.TypeIs v T ∧ wpAny (model X.prog X.w) X.A (getItem v (.ref sl)) (EP X pins σ Q) X.xe s
noncomputable def tSl (r:V→Option Int→Option Int→Hp→VK→Prop) (te:TE) (tl th:TO):TE:=fun σ H Q=>te σ H fun x H1=>tl σ H1 fun l H2=>th σ H2 fun u H3=>r x l u H3 Q
theorem pe_slice {r:V→Option Int→Option Int→Hp→VK→Prop} (hr:SlR X r) (he:PE X e te) (hl:PO X lo tl) (hu:PO X hi th):PE X (.Subscript e (.Slice lo hi none p2) pos) (tSl r te tl th):=by
  intro pins s σ H Q I h
  refine Subscript_ (thn (he pins s σ H _ I h) fun v s1 ⟨x,H1,I1,r1,q1⟩=>?_)
  refine wpAny_Slice (thn (hl pins s1 σ H1 _ I1 q1) fun vl s2 ⟨l,H2,I2,pl,q2⟩=>thn (hu pins s2 σ H2 _ I2 q2) fun vu s3 ⟨u,H3,I3,pu,q3⟩=>?_)
  rw [evalPart_none]
  refine wpAny_pure ?_
  have I4:Inv X pins σ H3 { s3 with heap:=s3.heap.push { cls:=.type "slice",data:=.fields #[vl,vu,.none] } }:=I3.kept (t':=s3.toks) fun b ob q=>Heap.get?_push_of_some _ q
  obtain ⟨T,id,hT,ht,hg⟩:=hr pins { s3 with heap:=s3.heap.push { cls:=.type "slice",data:=.fields #[vl,vu,.none] } } σ H3 x v vl vu l u s3.heap.objs.size Q I4 r1 (Heap.IsSliceOf.new ..) pl pu q3
  show wpAny (model X.prog X.w) X.A (subscriptTail e (.Slice lo hi none p2) v (.ref s3.heap.objs.size)) (EP X pins σ Q) X.xe { s3 with heap:=s3.heap.push { cls:=.type "slice",data:=.fields #[vl,vu,.none] } }
  exact tail_any (ops:=[.ref s3.heap.objs.size,v]) ht hT hg (by with_unfolding_all rfl)
noncomputable def cutV (xs:List V) (lo hi:Option Int):List V:=(xs.drop (HT.sIx xs.length 0 lo)).take (HT.sIx xs.length xs.length hi - HT.sIx xs.length 0 lo)
theorem cutV_length (xs:List V) (lo hi:Option Int):(cutV xs lo hi).length ≤ xs.length:=by
  unfold cutV
  rw [List.length_take,List.length_drop]
  omega
noncomputable def rSlT (K:PySem.W.Frag):V→Option Int→Option Int→Hp→VK→Prop:=fun x lo hi H Q=>∃ a xs,x = .ref a ∧ SqT K H a xs ∧
  ¬ (HT.sIx xs.length 0 lo = 0 ∧ HT.sIx xs.length xs.length hi = xs.length) ∧ ∀ p,H p = none→Q (.ref p) (upd H p (.tup (cutV xs lo hi)))
theorem sl_tup:SlR X (rSlT X.K):=by
  intro pins s σ H x v vl vu lo hi sl Q I rx hs pl pu h
  obtain ⟨a,xs,rfl,hx,hw,q⟩:=h
  cases rx
  obtain ⟨its,r,ht,hz⟩:=I.tuple hx
  have hlen:its.toArray.size = xs.length:=by rw [List.size_toArray]; exact r.length.symm
  refine ⟨"tuple",_,PyProof.Rows.slot_tuple_getitem.lookup,ht.typeIs,?_⟩
  refine HT.getItem_tuple_cut ht hs pl pu (by rw [hlen]; exact hw) ?_ (by rw [hlen]; exact hz)
  rw [hlen]
  refine ⟨.ref s.heap.objs.size,_,I.laid (t':=s.toks) (o:=.tup (cutV xs lo hi)) (fun b ob q=>Heap.get?_push_of_some _ q) (Nat.le_refl _) ?_,rfl,q _ (I.hok.fresh (Nat.le_refl _))⟩
  exact ⟨Nat.le_trans (cutV_length xs lo hi) hz,_,(r.drop (HT.sIx xs.length 0 lo)).take (HT.sIx xs.length xs.length hi - HT.sIx xs.length 0 lo),IsTup.new _ _⟩
noncomputable def rCatT (K:PySem.W.Frag):R2:=fun x y H Q=>∃ a b xs ys,x = .ref a ∧ y = .ref b ∧ SqT K H a xs ∧ SqT K H b ys ∧ xs ≠ [] ∧ xs.length + ys.length ≤ sizeLine ∧
  (ys = []→Q (.ref a) H) ∧ (ys ≠ []→∀ p,H p = none→Q (.ref p) (upd H p (.tup (xs ++ ys))))
theorem Vals.nil_iff {xs:List V} {us:List Value} (r:Vals xs us):us = [] ↔ xs = []:=by
  cases r with
  | nil=>simp
  | cons _ _=>simp
theorem op_catT:OpR X (binaryOp .Add) (rCatT X.K):=by
  intro pins s σ H x y v u Q I rx ry h
  obtain ⟨a,b,xs,ys,rfl,rfl,ha,hb,hx,hz,q1,q2⟩:=h
  cases rx
  cases ry
  obtain ⟨its,r1,p1,_⟩:=I.tuple ha
  obtain ⟨its2,r2,p2,_⟩:=I.tuple hb
  refine HT.cat_tup p1 p2 (fun z=>hx (r1.nil_iff.mp z)) (fun z=>⟨.ref a,H,I,rfl,q1 (r2.nil_iff.mp z)⟩) (fun z=>?_) (by rw [← r1.length,← r2.length]; exact hz)
  refine ⟨.ref s.heap.objs.size,_,I.laid (t':=s.toks) (o:=.tup (xs ++ ys)) (fun b ob q=>Heap.get?_push_of_some _ q) (Nat.le_refl _) ?_,rfl,q2 (fun w=>z (r2.nil_iff.mpr w)) _ (I.hok.fresh (Nat.le_refl _))⟩
  exact ⟨by rw [List.length_append]; exact hz,_,r1.append r2,IsTup.new _ _⟩
end
end L2
namespace L2
open PySem PySem.Spec PyProof.Rows
noncomputable def ixN (n:Nat) (i:Int):Option Nat:=if 0 ≤ i then (if i < n then some i.toNat else none) else if -(n:Int) ≤ i then some (i + n).toNat else none
noncomputable def atI {α:Type} (xs:List α) (i:Int):Option α:=(ixN xs.length i).bind fun j=>xs[j]?
theorem ixN_seq {n:Nat} {i:Int} {j:Nat} (h:ixN n i = some j):seqIndex? i n = some j ∧ j < n ∧ -(n:Int) ≤ i ∧ i < n:=by
  unfold ixN at h
  by_cases h0:0 ≤ i
  · rw [if_pos h0] at h
    by_cases h1:i < n
    · rw [if_pos h1] at h
      have e:i.toNat = j:=Option.some.inj h
      exact ⟨by rw [seqIndex_of h0 h1,e],by omega,by omega,h1⟩
    · rw [if_neg h1] at h; cases h
  · rw [if_neg h0] at h
    by_cases h1:-(n:Int) ≤ i
    · rw [if_pos h1] at h
      have e:(i + n).toNat = j:=Option.some.inj h
      exact ⟨by rw [seqIndex_neg (by omega) h1,e],by omega,h1,by omega⟩
    · rw [if_neg h1] at h; cases h
theorem atI_get {α:Type} {xs:List α} {i:Int} {v:α} (h:atI xs i = some v):∃ j,seqIndex? i xs.length = some j ∧ xs[j]? = some v ∧ j < xs.length ∧ -(xs.length:Int) ≤ i ∧ i < xs.length:=by
  unfold atI at h
  cases e:ixN xs.length i with
  | none=>rw [e] at h; cases h
  | some j =>
    rw [e] at h
    obtain ⟨h1,h2,h3,h4⟩:=ixN_seq e
    exact ⟨j,h1,h,h2,h3,h4⟩
theorem atI_nat {α:Type} {xs:List α} {j:Nat} {v:α} (h:xs[j]? = some v):atI xs (j:Int) = some v:=by
  have hj:j < xs.length:=(List.getElem?_eq_some_iff.mp h).1
  have e:ixN xs.length (j:Int) = some j:=by
    unfold ixN
    rw [if_pos (by omega),if_pos (by omega)]; simp
  unfold atI; rw [e]; exact h
noncomputable def PlainIx (b:Expr):Prop:=∀ o i,subscripted b false o i = operate [o,i] (getItem o i)
noncomputable def IxR (X:Cx) (r:R2):Prop :=
  ∀ (value slice:Expr) (pins:List (Addr × Obj)) (s:Shared) (σ:St) (H:Hp) (x y:V) (v u:Value) (Q:VK),Inv X pins σ H s→RelV x v→RelV y u→r x y H Q →
    subscripted slice false v u = operate [v,u] (getItem v u)→wpAny (model X.prog X.w) X.A (subscriptTail value slice v u) (EP X pins σ Q) X.xe s
noncomputable def MtR (X:Cx) (id:String) (r:V→List V→Hp→VK→Prop):Prop :=
  ∀ (pins:List (Addr × Obj)) (s:Shared) (σ:St) (H:Hp) (x:V) (xs:List V) (v:Value) (us:List Value) (Q:VK),Inv X pins σ H s→RelV x v→Vals xs us→r x xs H Q →
    wpAny (model X.prog X.w) X.A (call (.builtin id) (v :: us)) (EP X pins σ Q) X.xe s
section
variable {X:Cx} {a b:Expr} {ta tb:TE} {pos:Pos}
theorem pe_ix {r:R2} (hr:IxR X r) (ha:PE X a ta) (hb:PE X b tb) (hs:PlainIx b):PE X (.Subscript a b pos) (tOp r ta tb):=by
  intro pins s σ H Q I h
  exact Subscript_ (binT ha hb I h fun v u s2 x y H2 I2 rx ry q=>hr a b pins s2 σ H2 x y v u Q I2 rx ry q (hs _ _))
noncomputable def rIxL (K:PySem.W.Frag):R2:=fun x y H Q=>∃ p xs i v,x = .ref p ∧ y = .int i ∧ SqL K H p xs ∧ atI xs i = some v ∧ Q v H
noncomputable def rIxT (K:PySem.W.Frag):R2:=fun x y H Q=>∃ p xs i v,x = .ref p ∧ y = .int i ∧ SqT K H p xs ∧ atI xs i = some v ∧ Q v H
noncomputable def rIxS:R2:=fun x y H Q=>∃ z i c,x = .str z ∧ y = .int i ∧ z.length ≤ sizeLine ∧ atI z.cps.toList i = some c ∧ Q (.str ⟨#[c]⟩) H
theorem ix_list:IxR X (rIxL X.K):=by
  intro value slice pins s σ H x y v u Q I rx ry h hs
  obtain ⟨p,xs,i,z,rfl,rfl,hq,he,q⟩:=h
  cases rx
  obtain ⟨t,rfl⟩:=ry
  obtain ⟨its,r,pl,hz⟩:=I.list hq
  obtain ⟨j,h1,h2,h3,h4,h5⟩:=atI_get he
  obtain ⟨w,ew,rw'⟩:=r.get h2
  have hl:=r.length
  have hn:=line63
  have fin:EP X pins σ Q w s:=⟨z,H,I,rw',q⟩
  by_cases h0:0 ≤ i
  · have hj:i.toNat = j:=by
      rw [seqIndex_of h0 h5] at h1
      exact Option.some.inj h1
    exact item_listR pl.isList h0 (by omega) (by rw [hj]; simpa using ew) fin hs
  · have hj:(i + (its.toArray.size:Int)).toNat = j:=by
      rw [seqIndex_neg (by omega) h4] at h1
      rw [List.size_toArray,← hl]
      exact Option.some.inj h1
    exact subscriptTail_builtinR (x:=w) pl.isList.typeIs slot_list_getitem.lookup
      (wpAny_getItem_list_neg (Q:=fun r s'=>r = w ∧ EP X pins σ Q r s') pl.isList (by omega) (by rw [List.size_toArray] <;> omega) (by omega) (by rw [hj]; simpa using ew) ⟨rfl,fin⟩) hs
theorem ix_tup:IxR X (rIxT X.K):=by
  intro value slice pins s σ H x y v u Q I rx ry h hs
  obtain ⟨p,xs,i,z,rfl,rfl,hq,he,q⟩:=h
  cases rx
  obtain ⟨t,rfl⟩:=ry
  obtain ⟨its,r,pl,hz⟩:=I.tuple hq
  obtain ⟨j,h1,h2,h3,h4,h5⟩:=atI_get he
  obtain ⟨w,ew,rw'⟩:=r.get h2
  have hl:=r.length
  have hn:=line63
  have fin:EP X pins σ Q w s:=⟨z,H,I,rw',q⟩
  exact subscriptTail_builtinR (x:=w) pl.typeIs slot_tuple_getitem.lookup
    (getItem_tuple (j:=j) (Q:=fun r s'=>r = w ∧ EP X pins σ Q r s') pl (by omega) (by omega) (by rw [List.size_toArray,← hl]; exact h1) (by simpa using ew) ⟨rfl,fin⟩) hs
theorem ix_str:IxR X rIxS:=by
  intro value slice pins s σ H x y v u Q I rx ry h hs
  obtain ⟨z,i,c,rfl,rfl,hz,he,q⟩:=h
  obtain ⟨t,rfl⟩:=rx
  obtain ⟨t',rfl⟩:=ry
  obtain ⟨j,h1,h2,h3,h4,h5⟩:=atI_get he
  have hl:z.cps.toList.length = z.length:=by simp [Str.length]
  rw [hl] at h1 h4 h5
  have hn:=line63
  exact tail_any (typeIs_str s z t) slot_str_getitem.lookup (getItem_str (c:=c) (by
    have e1:decide (i < -(2 ^ 63:Int)) = false:=decide_eq_false (by omega)
    have e2:decide (i ≥ 2 ^ 63) = false:=decide_eq_false (by omega)
    rw [e1,e2,Bool.or_false]) (by rw [h1]; simpa using h2) ⟨.str ⟨#[c]⟩,H,I.tok _,⟨_,rfl⟩,q⟩) hs
theorem mapSeq_set (its:List Value) (n j:Nat) (u:Value):Obj.mapSeq (·.setIfInBounds j u) { cls:=.type "list",data:=.seq its.toArray n } = { cls:=.type "list",data:=.seq (its.set j u).toArray n }:=by
  simp [Obj.mapSeq]
theorem Inv.lst {pins:List (Addr × Obj)} {σ:St} {H:Hp} {s:Shared} {p:Addr} {xs:List V} (I:Inv X pins σ H s) (h:H p = some (.lst xs)) :
    ∃ (its:List Value) (n:Nat),Vals xs its ∧ s.heap.get? p = some { cls:=.type "list",data:=.seq its.toArray n } ∧ xs.length ≤ sizeLine:=by
  obtain ⟨z,its,n,r,e⟩:=I.hok p _ h
  exact ⟨its,n,r,e,z⟩
theorem Inv.lstUpd {pins:List (Addr × Obj)} {σ:St} {H:Hp} {s:Shared} {p:Addr} {xs ys:List V} {its its':List Value} {n n':Nat} {f:Obj→Obj} (I:Inv X pins σ H s) (h:H p = some (.lst xs))
    (ho:s.heap.get? p = some { cls:=.type "list",data:=.seq its.toArray n }) (hf:f { cls:=.type "list",data:=.seq its.toArray n } = { cls:=.type "list",data:=.seq its'.toArray n' }) (r:Vals ys its') (hz:ys.length ≤ sizeLine) (t:Nat) :
    Inv X pins σ (upd H p (.lst ys)) { s with heap:=s.heap.update p f,toks:=t }:=by
  have e:(s.heap.update p f).get? p = some { cls:=.type "list",data:=.seq its'.toArray n' }:=by
    rw [Heap.get?_update_self f ho (by rw [hf] <;> rfl),hf]
  refine I.write (x:=p) (e:=p) (by rw [h]; trivial) (.inl rfl) (fun b u hb q=>(Heap.get?_update_other _ _ (Ne.symm hb)).trans q) ⟨_,e⟩ ?_
  exact ⟨hz,its',n',r,e⟩
noncomputable def rSetL:V→V→V→Hp→(Hp→Prop)→Prop:=fun o i v H Q=>∃ p xs k j,o = .ref p ∧ i = .int k ∧ H p = some (.lst xs) ∧ ixN xs.length k = some j ∧ Q (upd H p (.lst (xs.set j v)))
theorem set_list:PSet X rSetL:=by
  intro pins s σ H o i v ov iv u Q I ro ri rv h
  obtain ⟨p,xs,k,j,rfl,rfl,hp,hj,q⟩:=h
  cases ro
  obtain ⟨t,rfl⟩:=ri
  obtain ⟨its,n,r,ho,hz⟩:=I.lst hp
  obtain ⟨h1,h2,h3,h4⟩:=ixN_seq hj
  have hl:=r.length
  have hn:=line63
  have I':Inv X pins σ (upd H p (.lst (xs.set j v))) { s with heap:=s.heap.update p (Obj.mapSeq (·.setIfInBounds j u)) } :=
    I.lstUpd hp ho (mapSeq_set its n j u) (r.set rv j) (by rw [List.length_set]; exact hz) s.toks
  by_cases h0:0 ≤ k
  · have hk:k.toNat = j:=by
      rw [seqIndex_of h0 h4] at h1
      exact Option.some.inj h1
    exact PySem.W.ki_setAt ho h0 (by omega) (by rw [List.size_toArray,← hl]; exact h4) (by rw [hk]; exact ⟨_,I',q⟩)
  · have hk:(k + (its.toArray.size:Int)).toNat = j:=by
      rw [seqIndex_neg (by omega) h3] at h1
      rw [List.size_toArray,← hl]
      exact Option.some.inj h1
    exact PySem.W.ki_setBack ho (by omega) (by rw [List.size_toArray,← hl]; exact h3) (by omega) (by rw [hk]; exact ⟨_,I',q⟩)
theorem slice_bounds (lo hi:Option Int) (n:Nat):(sliceBounds lo hi none n).1 = ((HT.sIx n 0 lo:Nat):Int) ∧ (sliceBounds lo hi none n).2.1 = ((HT.sIx n n hi:Nat):Int) ∧ (sliceBounds lo hi none n).2.2 = 1:=by
  refine ⟨?_,?_,rfl⟩
  · cases lo with
    | none=>simp [sliceBounds,HT.sIx]
    | some i =>
      simp only [sliceBounds,HT.sIx,Option.getD_none,show (1:Int) > 0 by decide,if_true]
      by_cases h:i < 0
      · simp only [h,if_true] <;> omega
      · simp only [h,if_false] <;> omega
  · cases hi with
    | none=>simp [sliceBounds,HT.sIx]
    | some i =>
      simp only [sliceBounds,HT.sIx,Option.getD_none,show (1:Int) > 0 by decide,if_true]
      by_cases h:i < 0
      · simp only [h,if_true] <;> omega
      · simp only [h,if_false] <;> omega
theorem slicePick_cut (its:List Value) (lo hi:Option Int):slicePick its.toArray lo hi none = ((its.drop (HT.sIx its.length 0 lo)).take (HT.sIx its.length its.length hi - HT.sIx its.length 0 lo)).toArray:=by
  obtain ⟨h1,h2,h3⟩:=slice_bounds lo hi its.toArray.size
  unfold slicePick
  rw [h1,h2,h3]
  simp only [sliceRange_one,pick_run,List.size_toArray] <;> rfl
noncomputable def rSlL (K:PySem.W.Frag):V→Option Int→Option Int→Hp→VK→Prop:=fun x lo hi H Q=>∃ a xs,x = .ref a ∧ SqL K H a xs ∧ ∀ p,H p = none→Q (.ref p) (upd H p (.lst (cutV xs lo hi)))
theorem sl_list:SlR X (rSlL X.K):=by
  intro pins s σ H x v vl vu lo hi sl Q I rx hs pl pu h
  obtain ⟨a,xs,rfl,hx,q⟩:=h
  cases rx
  obtain ⟨its,r,ht,hz⟩:=I.list hx
  have hlen:=r.length
  refine ⟨"list",_,slot_list_getitem.lookup,ht.isList.typeIs,?_⟩
  refine wpAny_getItem_list_slice ht.isList hs pl pu .none (by simp) ?_ (by rw [List.size_toArray] <;> omega)
  rw [slicePick_cut,← hlen]
  refine ⟨.ref s.heap.objs.size,_,I.laid (t':=s.toks) (o:=.lst (cutV xs lo hi)) (fun b ob q=>Heap.get?_push_of_some _ q) (Nat.le_refl _) ?_,rfl,q _ (I.hok.fresh (Nat.le_refl _))⟩
  exact ⟨Nat.le_trans (cutV_length xs lo hi) hz,_,0,(r.drop (HT.sIx xs.length 0 lo)).take (HT.sIx xs.length xs.length hi - HT.sIx xs.length 0 lo),Heap.get?_push_size _ rfl⟩
theorem call_len_seq:CallR X (.builtin "len") (fun xs H Q=>∃ p ys,xs = [.ref p] ∧ (SqL X.K H p ys ∨ SqT X.K H p ys) ∧ Q (.int ys.length) H):=by
  intro pins s σ H xs us Q I r h
  obtain ⟨p,ys,rfl,hq,q⟩:=h
  obtain ⟨u,rfl,rx⟩:=vals1 r
  cases rx
  have hn:=line63
  rcases hq with hq | hq
  · obtain ⟨its,r',pl,hz⟩:=I.list hq
    have hlen:=r'.length
    exact Calls.call_len_list pl.isList (by simp only [List.size_toArray] <;> omega) ⟨.int ys.length,H,I.tok _,⟨s.toks + 1,by rw [List.size_toArray,hlen]⟩,q⟩
  · obtain ⟨its,r',pl,hz⟩:=I.tuple hq
    have hlen:=r'.length
    exact len_tuple pl (by simp only [List.size_toArray] <;> omega) ⟨.int ys.length,H,I.tok _,⟨s.toks + 1,by rw [List.size_toArray,hlen]⟩,q⟩
theorem call_len_str:CallR X (.builtin "len") (fun xs H Q=>∃ z,xs = [.str z] ∧ z.length ≤ sizeLine ∧ Q (.int z.length) H):=by
  intro pins s σ H xs us Q I r h
  obtain ⟨z,rfl,hz,q⟩:=h
  obtain ⟨u,rfl,t,rfl⟩:=vals1 r
  have hn:=line63
  exact len_str (by omega) ⟨.int z.length,H,I.tok _,⟨_,rfl⟩,q⟩
theorem call_list_of:CallR X (.type "list") (fun xs H Q=>∃ p ys,xs = [.ref p] ∧ (SqL X.K H p ys ∨ SqT X.K H p ys) ∧ ∀ l,H l = none→Q (.ref l) (upd H l (.lst ys))):=by
  intro pins s σ H xs us Q I r h
  obtain ⟨p,ys,rfl,hq,q⟩:=h
  obtain ⟨u,rfl,rx⟩:=vals1 r
  cases rx
  have fin:∀ (its:List Value),Vals ys its→ys.length ≤ sizeLine→∀ (h':Heap) (c':Nat),(∀ b o',s.heap.get? b = some o'→h'.get? b = some o') →
      h'.get? s.heap.objs.size = some { cls:=.type "list",dict:=none,data:=.seq its.toArray c',slots:=#[] }→EP X pins σ Q (.ref s.heap.objs.size) { s with heap:=h' }:=fun its r' hz h' c' kp e =>
    ⟨.ref s.heap.objs.size,_,I.laid (t':=s.toks) kp (Nat.le_refl _) (show ObjOk X.prog X.w _ h' _ (.lst ys) from ⟨hz,its,c',r',e⟩),rfl,q _ (I.hok.fresh (Nat.le_refl _))⟩
  rcases hq with hq | hq
  · obtain ⟨its,r',pl,hz⟩:=I.list hq
    have hlen:=r'.length
    obtain ⟨o,ho,hc,n,hd⟩:=pl.isList
    exact call_list_seq p (.inl rfl) ho hc hd (fun h' c' kp e=>fin its r' hz h' c' kp e) (by simp only [List.size_toArray] <;> omega)
  · obtain ⟨its,r',pl,hz⟩:=I.tuple hq
    have hlen:=r'.length
    obtain ⟨o,ho,hc,n,hd⟩:=pl
    exact call_list_seq p (.inr rfl) ho hc hd (fun h' c' kp e=>fin its r' hz h' c' kp e) (by simp only [List.size_toArray] <;> omega)
theorem call_tuple_of:CallR X (.type "tuple") (fun xs H Q=>∃ p ys,xs = [.ref p] ∧ ((SqL X.K H p ys ∧ ∀ l,H l = none→Q (.ref l) (upd H l (.tup ys))) ∨ (SqT X.K H p ys ∧ Q (.ref p) H))):=by
  intro pins s σ H xs us Q I r h
  obtain ⟨p,ys,rfl,h⟩:=h
  obtain ⟨u,rfl,rx⟩:=vals1 r
  cases rx
  rcases h with ⟨hq,q⟩ | ⟨hq,q⟩
  · obtain ⟨its,r',pl,hz⟩:=I.list hq
    have hlen:=r'.length
    refine call_tuple_list pl.isList (fun h' kp=>?_) (by simp only [List.size_toArray] <;> omega)
    have I1:Inv X pins σ H { s with heap:=h' }:=I.kept (t':=s.toks) kp
    have I2:Inv X pins σ (upd H h'.objs.size (.tup ys)) { s with heap:=h'.push { cls:=.type "tuple",data:=.seq its.toArray } } :=
      I1.laid (t':=s.toks) (fun b o e=>Heap.get?_push_of_some _ e) (Nat.le_refl _) (show ObjOk X.prog X.w _ _ _ (.tup ys) from ⟨hz,its,r',IsTup.new _ _⟩)
    exact ⟨.ref h'.objs.size,_,I2,rfl,q _ (I1.hok.fresh (Nat.le_refl _))⟩
  · obtain ⟨its,r',pl,hz⟩:=I.tuple hq
    exact call_tuple_same pl ⟨.ref p,H,I,rfl,q⟩
noncomputable def tyV (K:PySem.W.Frag) (T:String) (x:V) (H:Hp):Prop:=match x with
  | .str _=>T = "str"
  | .int _=>T = "int"
  | .ref p=>(T = "list" ∧ ∃ xs,SqL K H p xs) ∨ (T = "tuple" ∧ ∃ o,K.lookup p = some o ∧ o.cls = .type "tuple" ∧ o.dict = none) ∨
      (T = "dict" ∧ ((∃ kvs,H p = some (.dK kvs)) ∨ ∃ kvs,H p = some (.dT kvs))) ∨ (T = "set" ∧ ∃ S n,H p = some (.set S n))
  | _=>False
theorem tyV_is {pins:List (Addr × Obj)} {σ:St} {H:Hp} {s:Shared} {T:String} {x:V} {v:Value} (I:Inv X pins σ H s) (r:RelV x v) (ty:tyV X.K T x H) :
    s.TypeIs v T ∧ ∀ a,v = .ref a→∃ ob,s.heap.get? a = some ob ∧ ob.dict = none:=by
  cases x with
  | str z =>
    obtain ⟨t,rfl⟩:=r
    cases (show T = "str" from ty)
    exact ⟨typeIs_str s z t,fun _ e=>nomatch e⟩
  | int i =>
    obtain ⟨t,rfl⟩:=r
    cases (show T = "int" from ty)
    exact ⟨typeIs_int s i t,fun _ e=>nomatch e⟩
  | ref p =>
    cases r
    rcases ty with ⟨rfl,xs,hq⟩ | ⟨rfl,o,hk,hc,hd⟩ | ⟨rfl,hk⟩ | ⟨rfl,S,n,hk⟩
    · obtain ⟨its,_,pl,_⟩:=I.list hq
      refine ⟨pl.isList.typeIs,fun a e=>?_⟩
      cases e
      obtain ⟨o,n,e,c,hd,_⟩:=pl
      exact ⟨o,e,hd⟩
    · refine ⟨⟨o,I.kIn p o hk,hc⟩,fun a e=>?_⟩
      cases e
      exact ⟨o,I.kIn _ o hk,hd⟩
    · have z:∃ o,s.heap.get? p = some o ∧ o.ExactDict:=by
        rcases hk with ⟨kvs,hk⟩ | ⟨kvs,hk⟩
        · obtain ⟨_,_,_,_,o,_,_,e,ex,_⟩:=I.hok p _ hk
          exact ⟨o,e,ex⟩
        · obtain ⟨_,_,_,_,o,_,_,e,ex,_⟩:=I.hok p _ hk
          exact ⟨o,e,ex⟩
      obtain ⟨o,e,ex⟩:=z
      refine ⟨⟨o,e,ex.1⟩,fun a e2=>?_⟩
      cases e2
      exact ⟨o,e,ex.2.1⟩
    · obtain ⟨o,_,_,_,e,ex,_⟩:=I.hok p _ hk
      refine ⟨⟨o,e,ex.1⟩,fun a e2=>?_⟩
      cases e2
      exact ⟨o,e,ex.2.1⟩
  | _=>exact False.elim ty
noncomputable def tBM (K:PySem.W.Frag) (T:String) (r:V→List V→Hp→VK→Prop) (to:TE) (t:TA):TE:=fun σ H Q=>to σ H fun x H1=>tyV K T x H1 ∧ t σ H1 fun xs H2=>r x xs H2 Q
variable {o e:Expr} {es:List Expr} {to:TE} {t:TA} {name:Str} {apos cpos:Pos} {T id:String} {r:V→List V→Hp→VK→Prop}
theorem pe_bm (pa:PlainAttrs T) (slot:Slot T name id) (hty:typeOf (.builtin id) = pure (.type "method_descriptor")) (hm:MtR X id r) (ho:PE X o to) (ha:PA X (e :: es) t)
    (hbase:attributeBase o name X.env (eval o X.env) = eval o X.env:=by rfl)
    (hfew:((backTo cpos (starEach (e :: es) X.env)).all (fun x=>!x.1) && (backToKw cpos (keywordEach [] X.env)).all (fun x=>x.1.isSome)
      && decide ((e :: es).length + ([]:List Keyword).length + (if ([]:List Keyword).isEmpty then 0 else 1) < 30)) = true:=by rfl)
    (hline:(apos.endLine == cpos.line) = true:=by rfl) (hs:starEach (e :: es) X.env = (false,eval e X.env) :: starEach es X.env:=by rfl) (hplain:(backTo cpos (starEach es X.env)).any (·.1) = false:=by rfl) :
    PE X (.Call (.Attribute o name apos) (e :: es) [] cpos) (tBM X.K T r to t):=by
  intro pins s σ H Q I h
  refine wpAny_Call_method_late hbase hfew hline rfl (thn (ho pins s σ H _ I h) fun v s1 ⟨x,H1,I1,r1,ty,q1⟩=>?_)
  obtain ⟨h1,h2⟩:=tyV_is I1 r1 ty
  refine ⟨T,id,pa,slot,hty,h1,h2,?_⟩
  have hA:=ha cpos pins s1 σ H1 _ I1 q1
  rw [hs] at hA ⊢
  refine Calls.callWith_builtin (by show (false || (backTo cpos (starEach es X.env)).any (·.1)) = false; rw [hplain] <;> rfl) (Calls.evalArgs_plain ?_)
  exact thn hA fun us s2 ⟨vs,H2,I2,r2,q2⟩=>hm pins s2 σ H2 x vs v us Q I2 r1 r2 q2
/- xs.append(e),list.index on a module's tuple .. are MtR facts of 06m -/
end
end L2
namespace L2
open PySem PySem.Spec PyProof.Rows
noncomputable def MtM (X:Cx) (id:String) (r:V→List V→Hp→VK→Prop):Prop :=
  ∀ (pins:List (Addr × Obj)) (s:Shared) (σ:St) (H:Hp) (x:V) (xs:List V) (v:Value) (us:List Value) (Q:VK),Inv X pins σ H s→RelV x v→Vals xs us→r x xs H Q →
    wpAny (model X.prog X.w) X.A (call (.builtin id) (v :: us)) (EP X pins σ Q) X.xe s
theorem Vals.one:∀ {x:V} {us:List Value},Vals [x] us→∃ u,us = [u] ∧ RelV x u
  | _,_,.cons r .nil=>⟨_,rfl,r⟩
theorem Vals.rep {xs:List V} {us:List Value} (h:Vals xs us):∀ k:Nat,Vals (List.replicate k xs).flatten (List.replicate k us).flatten
  | 0=>.nil
  | k + 1=>by
    rw [List.replicate_succ,List.replicate_succ,List.flatten_cons,List.flatten_cons]
    exact Vals.append h (Vals.rep h k)
theorem foldl_rep (its:List Value):∀ (k:Nat) (acc:List Value),
    List.foldl (fun x1 x2=>x1 ++ x2) acc.toArray (List.replicate k its.toArray) = (acc ++ (List.replicate k its).flatten).toArray
  | 0,acc=>by simp
  | k + 1,acc=>by
    have e:acc.toArray ++ its.toArray = (acc ++ its).toArray:=by simp
    have e2:(acc ++ its) ++ (List.replicate k its).flatten = acc ++ (List.replicate (k + 1) its).flatten:=by
      rw [List.replicate_succ,List.flatten_cons,List.append_assoc]
    rw [← e2,← foldl_rep its k (acc ++ its),← e,List.replicate_succ,List.foldl_cons]
section
variable {X:Cx} {pins:List (Addr × Obj)} {σ:St} {H:Hp} {s:Shared} {l b:Addr} {xs ys zs:List V}
theorem Inv.lset {its its':List Value} {n:Nat} {f:Array Value→Array Value} {t':Nat} (I:Inv X pins σ H s) (hH:H l = some (.lst xs))
    (e:s.heap.get? l = some { cls:=.type "list",data:=.seq its.toArray n }) (hf:f its.toArray = its'.toArray) (hv:Vals ys its') (hz:ys.length ≤ sizeLine) :
    Inv X pins σ (upd H l (.lst ys)) { s with heap:=s.heap.update l (Obj.mapSeq f),toks:=t' }:=by
  have q:=PySem.IsL.update e f
  rw [hf] at q
  refine I.write (x:=l) (e:=l) (by rw [hH]; exact trivial) (.inl rfl) (fun b' u hb hu=>(Heap.get?_update_other s.heap (Obj.mapSeq f) (Ne.symm hb)).trans hu) ⟨_,q⟩ ?_
  exact ⟨hz,its',_,hv,q⟩
theorem Inv.lnew {its:List Value} {t':Nat} (I:Inv X pins σ H s) (hv:Vals ys its) (hz:ys.length ≤ sizeLine) :
    Inv X pins σ (upd H s.heap.objs.size (.lst ys)) { s with heap:=s.heap.push { cls:=.type "list",data:=.seq its.toArray },toks:=t' } :=
  I.laid (fun _ _ q=>Heap.get?_push_of_some _ q) (Nat.le_refl _) ⟨hz,its,0,hv,Heap.get?_push_size _ rfl⟩
theorem Inv.fresh (I:Inv X pins σ H s):H s.heap.objs.size = none:=I.hok.fresh (Nat.le_refl _)
theorem Inv.lstM (I:Inv X pins σ H s) (hH:H l = some (.lst xs)):xs.length ≤ sizeLine ∧ ∃ (its:List Value) (n:Nat),Vals xs its ∧ xs.length = its.length ∧ s.heap.get? l = some { cls:=.type "list",data:=.seq its.toArray n }:=by
  obtain ⟨z,its,n,r,e⟩:=I.hok l _ hH
  exact ⟨z,its,n,r,r.length,e⟩
theorem notLongL {n:Nat} (h:n ≤ sizeLine):Builtin.List.listTooLong n = false:=by
  unfold Builtin.List.listTooLong
  exact decide_eq_false (by omega)
end
section
variable {X:Cx}
noncomputable def rAppend:V→List V→Hp→VK→Prop:=fun x vs H Q=>∃ l xs y,x = .ref l ∧ vs = [y] ∧ H l = some (.lst xs) ∧ xs.length < sizeLine ∧ Q .non (upd H l (.lst (xs ++ [y])))
theorem mt_append:MtM X "list.append" rAppend:=by
  intro pins s σ H x vs v us Q I rx rv h
  obtain ⟨l,xs,y,rfl,rfl,hH,hz,q⟩:=h
  cases rx
  obtain ⟨u,rfl,ru⟩:=rv.one
  obtain ⟨z,its,n,r,hl,e⟩:=I.lstM hH
  refine call_meets F.slot_list_append ⟨_,e,rfl⟩ F.entry_list_append (F.args_list_append_2 _ _) (PySem.list_append l its.toArray n u (by rw [List.size_toArray]; omega)) ⟨e,?_⟩
  refine ⟨.non,_,I.lset (its':=its ++ [u]) hH e (by simp) (r.append (.cons ru .nil)) ?_,rfl,q⟩
  rw [List.length_append,List.length_singleton]
  omega
noncomputable def rCat:R2:=fun x y H Q=>∃ l b xs zs,x = .ref l ∧ y = .ref b ∧ H l = some (.lst xs) ∧ H b = some (.lst zs) ∧ xs.length + zs.length ≤ sizeLine ∧ ∀ p,H p = none→Q (.ref p) (upd H p (.lst (xs ++ zs)))
theorem op_cat:OpR X (binaryOp .Add) rCat:=by
  intro pins s σ H x y v u Q I rx ry h
  obtain ⟨l,b,xs,zs,rfl,rfl,hH,hB,hz,q⟩:=h
  cases rx
  cases ry
  obtain ⟨z,its,n,r,hl,e⟩:=I.lstM hH
  obtain ⟨z2,its2,n2,r2,hl2,e2⟩:=I.lstM hB
  refine PySem.P.add_list e e2 ?_ (by rw [List.size_toArray,List.size_toArray]; omega)
  have ea:its.toArray ++ its2.toArray = (its ++ its2).toArray:=by simp
  rw [ea]
  exact ⟨.ref _,_,I.lnew (t':=s.toks) (r.append r2) (by rw [List.length_append]; omega),rfl,q _ I.fresh⟩
noncomputable def rRep:R2:=fun x y H Q=>∃ l k xs,x = .ref l ∧ y = .int k ∧ H l = some (.lst xs) ∧ -(2 ^ 63) ≤ k ∧ k < 2 ^ 63 ∧ xs.length * k.toNat ≤ sizeLine ∧
  ∀ p,H p = none→Q (.ref p) (upd H p (.lst (List.replicate k.toNat xs).flatten))
theorem len_rep {α:Type} (xs:List α) (k:Nat):(List.replicate k xs).flatten.length = k * xs.length:=by
  induction k with
  | zero=>simp
  | succ k ih=>rw [List.replicate_succ,List.flatten_cons,List.length_append,ih,Nat.succ_mul,Nat.add_comm]
theorem op_rep:OpR X (binaryOp .Mult) rRep:=by
  intro pins s σ H x y v u Q I rx ry h
  obtain ⟨l,k,xs,rfl,rfl,hH,h1,h2,hz,q⟩:=h
  cases rx
  obtain ⟨t,rfl⟩:=ry
  obtain ⟨z,its,n,r,hl,e⟩:=I.lstM hH
  have hlen:its.toArray.size * k.toNat ≤ sizeLine:=by rw [List.size_toArray,← hl]; exact hz
  have hcap:¬ its.toArray.size * k.toNat > (2 ^ 63 - 1) / 8:=by
    have:(sizeLine:Nat) ≤ (2 ^ 63 - 1) / 8:=by decide
    omega
  have hfit:¬ (!Builtin.List.listFitsIndex k) = true:=by
    rw [fitsIndex_both h1 h2]
    exact Bool.false_ne_true
  have hlong:¬ Builtin.List.listTooLong (its.toArray.size * k.toNat) = true:=by
    rw [notLongL hlen]
    exact Bool.false_ne_true
  have hnew:List.foldl (fun x1 x2=>x1 ++ x2) #[] (List.replicate (if its.toArray.isEmpty = true then 0 else k.toNat) its.toArray) = (List.replicate k.toNat its).flatten.toArray:=by
    have f0:∀ m:Nat,List.foldl (fun x1 x2=>x1 ++ x2) #[] (List.replicate m its.toArray) = (List.replicate m its).flatten.toArray:=fun m=>by
      have:=foldl_rep its m []
      rw [List.nil_append] at this
      exact this
    rw [f0]
    cases its with
    | nil=>simp
    | cons a r'=>rw [if_neg (by simp)]
  refine wpAny_binaryOp_repeat_ref (T:="list") (U:="int") (by decide) ⟨_,e,rfl⟩ (fun s'=>typeIs_int s' k t) noFill_list_mul F.fills_int_mul F.slot_int_rmul repeat_list F.slot_int_index.lookup
    (call_meets F.slot_int_rmul (typeIs_int s k t) F.entry_int_rmul (F.args_int_rmul_2 _ _) (int___rmul___int_list k t l its.toArray n)
      ⟨e,rfl,⟨_,e,rfl⟩,call_meets F.slot_list_mul ⟨_,e,rfl⟩ F.entry_list_mul (F.args_list_mul_2 _ _) (AutoListH.list___mul___list_int_3 l its.toArray n k t hfit hcap hlong) ⟨e,?_⟩⟩)
  rw [hnew]
  exact ⟨.ref _,_,I.lnew (t':=s.toks) (r.rep k.toNat) (by rw [len_rep,Nat.mul_comm]; exact hz),rfl,q _ I.fresh⟩
end
section
variable {prog:Program} {w:World} {A:Around} {E:Value→Shared→Prop} {s:Shared}
end
section
variable {X:Cx}
end
end L2
namespace L2
open PySem PySem.Spec PyProof.Rows
section
variable {κ:Type} [DecidableEq κ]
end
section
variable {P:Program} {w:World} {H:Hp} {h:Heap} {a:Addr}
end
section
variable {X:Cx} {pins:List (Addr × Obj)} {σ:St} {H:Hp} {s:Shared} {a:Addr} {y v:V} {u r:Value} {o:Option V} {A:Around} {E:Value→Shared→Prop}
end
section
variable {X:Cx} {pins:List (Addr × Obj)} {σ:St} {H:Hp} {s:Shared} {a:Addr} {kvs:List (Key × V)} {k:Key} {u:Value} {A:Around} {E:Value→Shared→Prop}
end
section
variable {X:Cx} {o i e value:Expr} {pos pos' tpos:Pos} {td ty tv:TE}
end
section
variable {X:Cx} {pos:Pos}
end
section
variable {X:Cx} {pins:List (Addr × Obj)} {σ:St} {H:Hp} {s:Shared} {a:Addr} {y d:V} {u r:Value} {o:Option V} {A:Around} {E:Value→Shared→Prop}
end
section
variable {X:Cx} {o e f:Expr} {apos cpos:Pos} {td ty tx:TE}
end
section
variable {X:Cx} {pins:List (Addr × Obj)} {σ:St} {H:Hp} {s:Shared} {a:Addr} {kvs:List (Key × V)} {A:Around} {E:Value→Shared→Prop}
end
section
variable {X:Cx} {pins:List (Addr × Obj)} {σ:St} {H:Hp} {s:Shared} {a:Addr} {y:V} {u:Value} {A:Around} {E:Value→Shared→Prop}
end
end L2
namespace Att
open PySem PySem.W PySem.Calls PyProof.Rows
theorem ints_of_wellAll {P:Params} {h:Heap}:∀ (ns:List Int) (vs:List Value),WellAll P h vs (ns.map WData.int)→IntsAre vs ns:=by
  intro ns
  induction ns with
  | nil =>
    intro vs w
    rw [List.map_nil] at w
    cases w
    exact .nil
  | cons n ns ih =>
    intro vs w
    rw [List.map_cons] at w
    cases w with
    | cons a b =>
      cases a
      exact .cons _ _ (ih _ b)
theorem script_of {l:OpenLaw} {n:Nat} (hn:l.most = some n) {P:Params} {h:Heap} {args:List WData} {vals:List Value}
    (hpre:l.row.toRowW.claim.pre args = true) (hwl:WellAll P h vals args) :
    ∃ a vs ns,vals = [Value.ref a] ∧ args = [WData.list (ns.map WData.int)] ∧ h.get? a = some { cls:=.type "list",data:=.seq vs.toArray } ∧ IntsAre vs ns ∧ ns.length ≤ n:=by
  have hsh:WShape.hasAll [] args [.list .int] = true:=(pre_splitW hpre).1
  have hc:l.pre.holds [] { args:=args } = true:=(pre_splitW hpre).2
  obtain ⟨d,r,rfl,h1,h2⟩:=hasAllW_cons hsh
  obtain rfl:=hasAllW_nil h2
  obtain ⟨xs,rfl,h3⟩:=hasW_list h1
  obtain ⟨ns,rfl⟩:=items_int h3
  have hlen:ns.length ≤ n:=by
    unfold OpenLaw.pre at hc
    have h4:(WTm.not (.lt (.lit (.int (n:Int))) (.len (.arg 0)))).holds [] { args:=[.list (ns.map .int)] } = true:=by
      have h4:=(holds_andW hc).1
      rw [hn] at h4
      exact h4
    have h5:=condW_of h4 (w_not (w_lt w_lit (w_len_list (w_arg rfl))))
    rw [List.length_map] at h5
    refine Nat.le_of_not_lt fun q=>?_
    have q':(n:Int) < ((ns.length:Nat):Int):=by omega
    first
      | (rw [decide_eq_true q'] at h5; exact absurd h5 (by decide))
      | (simp at h5; omega)
  cases hwl with
  | cons w1 w2 =>
    cases w2
    cases w1 with
    | list ho hall=>exact ⟨_,_,ns,rfl,rfl,ho,ints_of_wellAll ns _ hall,hlen⟩
theorem post_true (l:OpenLaw) (args:List WData):l.row.toRowW.claim.post args (.bool true) args = true :=
  postW_of (r:=l.row.toRowW) (X:=(true == true))
    (show WShape.has [] (.bool true) .bool = true by first | rfl | decide | simp [WShape.has,WShape.arms,WShape.armsAll])
    (show (WTm.eq .res (.lit (.bool true))).value [] { args:=args,res:=some (.bool true),after:=args } = some (.bool (true == true)) from w_eq_bool (w_res rfl) w_lit) rfl
theorem attach_call {l:OpenLaw} {n:Nat} {q:Program} {loose:List Str} {XP:(Str→Option Value)→Heap→Prop} {YP:World→Heap→Prop} {d:DefRec}
    (hn:l.most = some n) (hdf:d.params.defaults = [])
    (call:∀ (w:World) (s₀ s₁:Shared) (mg mb:Str→Option Value) (fa:Addr) (o:Obj) (pm cd doc:Value) (a:Addr) (vs:List Value) (ns:List Int),
      Ground q loose [] XP w s₀ mg mb s₁.heap→YP w s₁.heap →
      s₁.heap.get? fa = some o→o.data = .func (docDef d.name d.params d.body d.scope pm cd doc)→s₁.heap.CodeRec cd d.name→mg d.name = some (.ref fa) →
      s₁.heap.get? a = some { cls:=.type "list",data:=.seq vs.toArray }→IntsAre vs ns→ns.length ≤ n→s₁.gens = #[] →
      codeAny (model l.prog w) callerA (.call (.ref fa) ⟨[.ref a],[]⟩) (fun r s'=>r = .ok (.ret (.bool true)) ∧ OldK s₁.heap s'.heap ∧ s'.os = s₁.os ∧ AllBare s'.gens) s₁) :
    WalkO q loose XP YP l.row.toRowW d [] (fun f vs=>PySem.call f vs):=by
  intro w s₀ s₁ mg mb G Y fa o pm cd doc dV kV ho hd hcd hD hmg hg args vals as hpre hlay hrd hwl hlo
  obtain rfl:dV = .none:=Dflts.none hD hdf
  obtain rfl:kV = .none:=Dflts.noKw hD
  obtain ⟨a,vs,ns,rfl,rfl,hobj,hints,hlen⟩:=script_of hn hpre hwl
  refine enter_call (codeAny_mono (call w s₀ s₁ mg mb fa o pm cd doc a vs ns G Y ho (fd_plain hd) hcd hmg hobj hints hlen hg) fun r s' hq=>?_)
  obtain ⟨rfl,h2,h3,h4⟩:=hq
  exact ⟨.inl ⟨.bool true,.bool true,[],rfl,fun _=>rfl,.bool true,post_true l _,fun _=>⟨List.Pairwise.nil,fun _ hm=>(nomatch hm)⟩⟩,h2,h3,h4⟩
section
variable {prog:Program} {w:World} {A:Around} {E:Value→Shared→Prop} {s:Shared} {K:Frag}
end
end Att
namespace L2
open PySem PySem.Spec PyProof.Rows
theorem vals_ints:∀ {vs:List Value} {ns:List Int},IntsAre vs ns→Vals (ns.map V.int) vs
  | _,_,.nil=>.nil
  | _,_,.cons n t h=>.cons ⟨t,rfl⟩ (vals_ints h)
end L2
namespace L2
open PySem PySem.Spec PyProof.Rows
end L2
/- THE LAST THEOREM (shape; LID,My.* are yours):
   My.Adr: a structure of the addresses that your layer names (classes,functions); My.Txt K t: a structure (Prop) of the equations over K;
   My.txt_mk:{K} {implicit addresses ..} (e1:nsIn K mainGlobals "law" = some (some (.ref f))) (e2:K.lookup f = some ⟨oc,od,.func (fnOf "law" "law" params body scope dV kV doc pm an cdv ct),sl⟩) (e3:codeIn K cdv "law" = true) ..:∃ t,My.Txt K t
set_option maxRecDepth 100000 in
set_option maxHeartbeats 0 in
theorem PySem.Challenge.cw_LID_holds:PySem.Challenge.rw_LID.Holds:=by
  w_on; o_law; k_head; (case hw=>w_witness2)
  k_fill
  refine L2.walk_of (l:=PySem.Challenge.rw_LID) (n:=63) (k:=40) (x:="script") (CX:=fun w=>..) (sp:=fun _=>My.sp_law) rfl (by decide) rfl ⟨rfl,by decide,by decide⟩ (fun w h Y=>PySem.W.kIn_of Y) ?F ?S ?C
  case F =>
    intro w mg fa h KX G hmg
    have T:∃ t,My.Txt (L2.KOf KX) t:=by
      dsimp only [L2.KOf]                          -- K must stand as «<heap const> w.params» for k_is
      refine' My.txt_mk ?e1 ?e2 ?e3 ..
      (case e1=>PySem.W.k_is)                    -- in the order: a name -> its address -> its object -> its parts
      (case e2=>PySem.W.k_is)
      ..
    obtain ⟨t,T⟩:=T
    have e0:=hmg.symm.trans (PySem.W.mg_of KX G T.law)
    cases e0                                       -- fa is the law's own address
    exact ⟨_,fun s u=>.of_eq rfl,fun base kb nb=>My.law_fn T kb nb⟩     -- if «.of_eq rfl» comes too early: refine' ⟨_,?b,fun base kb nb=>My.law_fn T kb nb⟩; exact fun s u=>.of_eq rfl
  case S=>exact fun w H a ns hl hO hS=>..
  case C=>exact ..
(the tactic k_is has no namespace: write k_is) -/
namespace L2
open PySem PySem.Spec PyProof.Rows
noncomputable def defArgs (s:Stmt):Arguments:=match s with
  | .FunctionDef _ a _ _ _ _ _ _ _ _=>a
  | _=>{ posonlyargs:=[],args:=[],vararg:=none,kwonlyargs:=[],kw_defaults:=[],kwarg:=none,defaults:=[] }
noncomputable def defBody (s:Stmt):List Stmt:=match s with
  | .FunctionDef _ _ b _ _ _ _ _ _ _=>b
  | _=>[]
noncomputable def defScope (s:Stmt):Scope:=match s with
  | .FunctionDef _ _ _ _ _ _ sc _ _ _=>sc
  | _=>{ kind:=.function,names:=[],isGenerator:=false,isCoroutine:=false }
noncomputable abbrev CX0:CXT:=fun _ _ _ _ _ _=>False
noncomputable abbrev E0:XK:=fun _ _ _=>False
theorem pass0 {X:Cx}:Passes CX0 X E0:=fun _ _ _ _ _ _ _ h=>h.elim
structure Fun (K:PySem.W.Frag) (x qual:Str) (st:Stmt) (f:Addr) (fd:FuncData):Prop where
  ex:∃ (oc:Value) (od:Option Addr) (kV doc pm:Value) (an:Option Addr) (cdv ct:Value) (osl:Array (Option Value)),
    fd = PySem.W.fnOf x qual (defArgs st) (defBody st) (defScope st) .none kV doc pm an cdv ct ∧ K.lookup f = some ⟨oc,od,.func fd,osl⟩ ∧ PySem.W.codeIn K cdv qual = true
  kp:PySem.W.keepIn K (.ref f) = true
section
variable {P:Program} {w:World} {K:PySem.W.Frag} {mg:Str→Option Value} {base:Heap}
theorem Fun.ok {x qual:Str} {st:Stmt} {f:Addr} {fd:FuncData} {N ps:List Str} {k:Nat} {sp:Sp} (F:Fun K x qual st f fd) (S:FnScope N ps (defScope st)) (len:∀ vs H Q E,sp vs H Q E→vs.length = ps.length)
    (hbody:∀ (cdv:Value) (A:Around) (outer:List Env) (s:Shared) (H:Hp) (vs:List V) (Q:VK) (E:XK),Room k (A.deeper (envOfC qual (defScope st) s.heap.objs.size f cdv))→sp vs H Q E →
      ∃ t,PSs (cxOf CX0 P w K mg base N qual (defScope st) f cdv A outer s H E).nox (defBody st) t ∧ t { nx:=fun _ H'=>Q .non H',rt:=Q } (start N vs) H):FnOk P w K mg base CX0 (k + 1) f fd ps sp:=by
  obtain ⟨oc,od,kV,doc,pm,an,cdv,ct,osl,rfl,lk,hcd⟩:=F.ex
  refine fn_of lk hcd S len fun A outer s H vs Q E hr hsp=>?_
  obtain ⟨t,h,q⟩:=hbody cdv A outer s H vs Q E hr hsp
  exact ⟨t,h.nox,q⟩
theorem Fun.binds {x qual:Str} {st:Stmt} {f:Addr} {fd:FuncData} {ps:List Str} (F:Fun K x qual st f fd)
    (h:∀ (kV doc pm:Value) (an:Option Addr) (cdv ct:Value) (us:List Value),us.length = ps.length→bindArgs (PySem.W.fnOf x qual (defArgs st) (defBody st) (defScope st) .none kV doc pm an cdv ct) ⟨us,[]⟩ = pure (ps.zip us)):Binds K fd ps []:=by
  obtain ⟨oc,od,kV,doc,pm,an,cdv,ct,osl,rfl,lk,hcd⟩:=F.ex
  exact .all (h kV doc pm an cdv ct)
theorem fun_mk {x qual:Str} {st:Stmt} {f:Addr} {oc:Value} {od an:Option Addr} {osl:Array (Option Value)} {kV doc pm cdv ct:Value} (l:K.lookup f = some ⟨oc,od,.func (PySem.W.fnOf x qual (defArgs st) (defBody st) (defScope st) .none kV doc pm an cdv ct),osl⟩)
    (c:PySem.W.codeIn K cdv qual = true) (k:PySem.W.keepIn K (.ref f) = true):Fun K x qual st f (PySem.W.fnOf x qual (defArgs st) (defBody st) (defScope st) .none kV doc pm an cdv ct):=⟨⟨oc,od,kV,doc,pm,an,cdv,ct,osl,rfl,l,c⟩,k⟩
end
theorem small1000 {n:Nat} (h:n ≤ 1000):n < sizeLine:=Nat.lt_of_le_of_lt h (by decide)
section
variable {X:Cx}
theorem pv (i:Nat) {x:Str} {pos:Pos} (hN:X.N[i]? = some x:=by rfl) (hv:Vis X.env.scope x:=by first | exact Or.inl rfl | exact Or.inr (Or.inl rfl) | exact Or.inr (Or.inr rfl)) (hd:(x == ("__debug__":Str)) = false:=by decide)
    (hcd:(x == ("__classdict__":Str)) = false:=by decide):PE X (.Name x pos) (tVar i):=pe_var hN hv hd hcd
end
theorem iteF {A B:Prop} (h:B):if false = true then A else B:=by
  rw [if_neg Bool.false_ne_true]
  exact h
theorem ite2 {c A B:Prop} [Decidable c] (h1:c→A) (h2:¬ c→B):if c then A else B:=by
  by_cases h:c
  · rw [if_pos h]
    exact h1 h
  · rw [if_neg h]
    exact h2 h
noncomputable def Same (H H':Hp):Prop:=∀ b o,H b = some o→H' b = some o
theorem Same.refl (H:Hp):Same H H:=fun _ _ h=>h
section
variable {X:Cx}
end
section
variable {κ:Type} [DecidableEq κ]
end
end L2
set_option maxHeartbeats 4000000
namespace L2
open PySem PySem.Spec PyProof.Rows
noncomputable def closL (f:Str→Addr):List (Str × NameKind)→List (Str × Addr)→List (Str × Addr)
  | [],acc=>acc
  | (n,kd) :: r,acc=>closL f r (if (kd == NameKind.free) = true then (n,f n) :: acc else acc)
theorem closureFor_closL {scope:Scope} {env:Env} {f:Str→Addr} (h:∀ y ∈ scope.names,y.2 = .free→cellOf env y.1 = pure (f y.1)) :
    closureFor scope env = pure (closL f scope.names []):=by
  have key:∀ (l:List (Str × NameKind)) (acc:List (Str × Addr)),(∀ y ∈ l,y.2 = .free→cellOf env y.1 = pure (f y.1)) →
      (forIn l acc (fun (x:Str × NameKind) (cs:List (Str × Addr))=>if (x.2 == NameKind.free) = true then (do let c ← cellOf env x.1; pure (ForInStep.yield ((x.1,c) :: cs))) else pure (ForInStep.yield cs)):Sem (List (Str × Addr))) = pure (closL f l acc):=by
    intro l
    induction l with
    | nil=>intro acc _; rfl
    | cons y r ih =>
      intro acc hy
      obtain ⟨n,kd⟩:=y
      rw [List.forIn_cons]
      by_cases hk:(kd == NameKind.free) = true
      · have e:kd = .free:=by simpa using hk
        have hc:=hy (n,kd) List.mem_cons_self e
        simp only [hk,if_true]
        dsimp only at hc
        rw [hc]
        show (forIn r ((n,f n) :: acc) _:Sem _) = _
        rw [ih _ fun z hz=>hy z (List.mem_cons_of_mem _ hz)]
        simp only [closL,hk,if_true]
      · simp only [hk,if_false]
        show (forIn r acc _:Sem _) = _
        rw [ih _ fun z hz=>hy z (List.mem_cons_of_mem _ hz)]
        simp only [closL,hk,if_false]
        rfl
  have:=key scope.names [] h
  unfold closureFor
  show (forIn scope.names [] _ >>= fun r=>pure r) = _
  rw [show (forIn scope.names ([]:List (Str × Addr)) _:Sem _) = _ from this]
  rfl
theorem closL_lookup {f:Str→Addr}:∀ (l:List (Str × NameKind)) (acc:List (Str × Addr)) {x:Str} {c:Addr},(closL f l acc).lookup x = some c→((x,NameKind.free) ∈ l ∧ c = f x) ∨ acc.lookup x = some c
  | [],_,_,_,h=>.inr h
  | (n,kd) :: r,acc,x,c,h=>by
    rw [closL] at h
    rcases closL_lookup r _ h with ⟨h1,h2⟩ | h1
    · exact .inl ⟨List.mem_cons_of_mem _ h1,h2⟩
    · by_cases hk:(kd == NameKind.free) = true
      · rw [if_pos hk] at h1
        have e:kd = .free:=by simpa using hk
        subst e
        by_cases hx:x = n
        · subst hx
          simp at h1
          exact .inl ⟨List.mem_cons_self,h1.symm⟩
        · have hb:(x == n) = false:=beq_eq_false_iff_ne.mpr hx
          rw [List.lookup_cons,hb] at h1
          exact .inr h1
      · rw [if_neg hk] at h1
        exact .inr h1
theorem closL_has {f:Str→Addr}:∀ (l:List (Str × NameKind)) (acc:List (Str × Addr)) {x:Str},((x,NameKind.free) ∈ l ∨ acc.lookup x = some (f x))→(closL f l acc).lookup x = some (f x)
  | [],_,_,h=>by
    rcases h with h | h
    · exact absurd h (by simp)
    · exact h
  | (n,kd) :: r,acc,x,h=>by
    rw [closL]
    refine closL_has r _ ?_
    by_cases hk:(kd == NameKind.free) = true
    · rw [if_pos hk]
      have e:kd = .free:=by simpa using hk
      subst e
      by_cases hx:x = n
      · subst hx
        exact .inr (by simp)
      · have hb:(x == n) = false:=beq_eq_false_iff_ne.mpr hx
        rcases h with h | h
        · rcases List.mem_cons.mp h with z | z
          · cases z; exact absurd rfl hx
          · exact .inl z
        · exact .inr (by rw [List.lookup_cons,hb]; exact h)
    · rw [if_neg hk]
      rcases h with h | h
      · rcases List.mem_cons.mp h with z | z
        · cases z; exact absurd rfl hk
        · exact .inl z
      · exact .inr h
theorem relabel_mem {scope:Scope} {env:Env} {x:Str} (h:(relabel scope env).names.lookup x = some .cell ∨ (relabel scope env).names.lookup x = some .free):(x,NameKind.free) ∈ scope.names ∨ (x,NameKind.cell) ∈ scope.names:=by
  have go:∀ kd,(relabel scope env).names.lookup x = some kd→kd = .cell ∨ kd = .free→(x,NameKind.free) ∈ scope.names ∨ (x,NameKind.cell) ∈ scope.names:=by
    intro kd h hk
    have hm:=PySem.mem_of_lookup h
    unfold relabel at hm
    obtain ⟨⟨n,k0⟩,hy,e⟩:=List.mem_map.mp hm
    by_cases hc:(k0 == NameKind.free && env.scope.kind == .function && env.kindOf n == some .cell) = true
    · simp only [hc,if_true] at e
      cases e
      have:k0 = .free:=by
        simp only [Bool.and_eq_true] at hc
        simpa using hc.1.1
      subst this
      exact .inl hy
    · simp only [hc,if_false] at e
      cases e
      rcases hk with r | r
      · subst r; exact .inr hy
      · subst r; exact .inl hy
  rcases h with h | h
  · exact go _ h (.inl rfl)
  · exact go _ h (.inr rfl)
noncomputable def ownC (scope:Scope) (cl:List (Str × Addr)) (n:Nat):List (Str × Addr):=cellsFrom (n + 1) scope.names cl
theorem cells_app:∀ (names:List (Str × NameKind)) (n:Nat) (acc:List (Str × Addr)),cellsFrom n names acc = cellsFrom n names [] ++ acc
  | [],_,_=>rfl
  | (x,k) :: r,n,acc=>by
    unfold cellsFrom
    split
    · rw [cells_app r (n + 1) ((x,n) :: acc),cells_app r (n + 1) [(x,n)],List.append_assoc]; rfl
    · exact cells_app r n acc
theorem cells_mem:∀ (names:List (Str × NameKind)) (n:Nat) {x:Str} {c:Addr},(x,c) ∈ cellsFrom n names []→(x,NameKind.cell) ∈ names
  | [],_,_,_,h=>by cases h
  | (y,k) :: r,n,x,c,h=>by
    unfold cellsFrom at h
    split at h
    · rename_i hk
      rw [cells_app] at h
      rcases List.mem_append.mp h with h | h
      · exact List.mem_cons_of_mem _ (cells_mem r (n + 1) h)
      · have hk:k = .cell:=by simpa using hk
        subst hk
        cases List.mem_singleton.mp h
        exact List.mem_cons_self
    · exact List.mem_cons_of_mem _ (cells_mem r n h)
theorem lk_app {α:Type}:∀ {l r:List (Str × α)} {x:Str} {c:α},(l ++ r).lookup x = some c→l.lookup x = some c ∨ (l.lookup x = none ∧ r.lookup x = some c)
  | [],r,x,c,h=>.inr ⟨rfl,h⟩
  | (y,v) :: l,r,x,c,h=>by
    rw [List.cons_append,List.lookup_cons] at h
    rw [List.lookup_cons]
    cases hb:x == y with
    | true=>rw [hb] at h; exact .inl h
    | false=>rw [hb] at h; exact lk_app h
theorem lk_app2 {α:Type}:∀ {l r:List (Str × α)} {x:Str},l.lookup x = none→(l ++ r).lookup x = r.lookup x
  | [],r,x,h=>rfl
  | (y,v) :: l,r,x,h=>by
    rw [List.lookup_cons] at h
    rw [List.cons_append,List.lookup_cons]
    cases hb:x == y with
    | true=>rw [hb] at h; cases h
    | false=>rw [hb] at h; exact lk_app2 h
theorem lk_app1 {α:Type}:∀ {l r:List (Str × α)} {x:Str} {c:α},l.lookup x = some c→(l ++ r).lookup x = some c
  | [],r,x,c,h=>by cases h
  | (y,v) :: l,r,x,c,h=>by
    rw [List.lookup_cons] at h
    rw [List.cons_append,List.lookup_cons]
    cases hb:x == y with
    | true=>rw [hb] at h; exact h
    | false=>rw [hb] at h; exact lk_app1 h
theorem newEnv_own {M:Model} {A:Around} {E:Value→Shared→Prop} {s:Shared} {scope:Scope} {globals:Addr} {closure:List (Str × Addr)} {qual:Str} {func:Option Addr} {code:Value} {env:Env} {builtins:Addr} {Q:Env→Shared→Prop}
    (hQ:∀ h₁:Heap,h₁.Ns s.heap.objs.size (fun _=>none)→(∀ b o,s.heap.get? b = some o→h₁.get? b = some o)→CellsOk h₁ (s.heap.objs.size + 1) (cellsFrom (s.heap.objs.size + 1) scope.names []) →
      Q (newEnv scope s.heap.objs.size globals (cellsFrom (s.heap.objs.size + 1) scope.names closure) qual func code (some env) builtins) { s with heap:=h₁ }) :
    wpAny M A (newFunctionEnv scope globals closure [] qual func code (some env) builtins) Q E s:=by
  simp only [newFunctionEnv,Option.isSome_some,if_true]
  refine wpAny_bind (wpAny_alloc ?_)
  refine wpAny_bind (wpAny_layCells _ (fun name kind cells=>by cases hkc:kind == NameKind.cell <;> simp [hkc]) _ _ _ _ ?_)
  have ok:=cellsFrom_ok scope.names (s.heap.push { cls:=.type "dict",data:=.dict #[] }) (s.heap.objs.size + 1) [] ⟨fun _ _ hm=>(nomatch hm),List.Pairwise.nil⟩ (by rw [Heap.size_push]; exact Nat.le_refl _)
  rw [Heap.size_push] at ok
  rw [show ({ s with heap:=s.heap.push { cls:=.type "dict",data:=.dict #[] } }:Shared).heap.objs.size = s.heap.objs.size + 1 from Heap.size_push ..]
  rw [List.forIn_nil]
  refine wpAny_bind (wpAny_pure (wpAny_pure ?_))
  exact hQ _ ((Heap.Ns.new s.heap (.type "dict")).keeps (pushCells_keeps _ _)) (fun b o e=>pushCells_keeps _ _ b o (Heap.get?_push_of_some _ e)) ok
theorem lookup_mapped {φ:Str × NameKind→Str × NameKind} (hφ:∀ n k,φ (n,k) = (n,k) ∨ (k = .free ∧ φ (n,k) = (n,.cell))):∀ {names:List (Str × NameKind)} {x:Str},names.lookup x = some .free→(names.map φ).lookup x = some .cell ∨ (names.map φ).lookup x = some .free
  | [],_,h=>by simp at h
  | (n,k) :: r,x,h=>by
    have ih:=@lookup_mapped φ hφ r x
    rw [List.map_cons]
    cases hx:x == n with
    | true =>
      simp only [List.lookup_cons,hx] at h
      cases h
      rcases hφ n .free with e | ⟨_,e⟩
      · rw [e,List.lookup_cons,hx]; exact .inr rfl
      · rw [e,List.lookup_cons,hx]; exact .inl rfl
    | false =>
      simp only [List.lookup_cons,hx] at h
      rcases hφ n k with e | ⟨_,e⟩
      · rw [e,List.lookup_cons,hx]; exact ih h
      · rw [e,List.lookup_cons,hx]; exact ih h
theorem relabel_free {scope:Scope} {env:Env} {x:Str} (h:scope.names.lookup x = some .free):(relabel scope env).names.lookup x = some .cell ∨ (relabel scope env).names.lookup x = some .free:=by
  unfold relabel
  refine lookup_mapped (fun n k=>?_) h
  by_cases hc:(k == NameKind.free && env.scope.kind == .function && env.kindOf n == some .cell) = true
  · refine .inr ⟨?_,if_pos hc⟩
    simp only [Bool.and_eq_true] at hc
    simpa using hc.1.1
  · exact .inl (if_neg hc)
noncomputable def turnC (target iter:Expr) (ifs:List Expr) (it:Value) (env:Env) (act:Sem Fin→Sem Fin) (more:Sem Fin):Sem Fin:=do
  standAt iter.pos
  match ← pyNext it with
  | none=>pure (.done .next)
  | some v =>
    letOwnedTupleGo target it v
    assign target env v
    let mut ok:=true
    for c in ifs do
      if ok then ok ← isTrue c env (eval c env)
    if ok then act more else more
noncomputable def actEm (elt:Expr) (acc:Value) (env:Env):Sem Unit:=do let _ ← call (.builtin "list.append") [acc,← eval elt env]
section
variable {prog:Program} {w:World} {A:Around} {R:Result→Shared→Prop} {s:Shared}
theorem loopC {elt:Expr} {gens:List Comprehension} {scope:Scope} {pos:Pos} {d:Nat} {it acc:Value} {env:Env} {target iter:Expr} {ifs:List Expr} {act:Sem Fin→Sem Fin} (I:Nat→Shared→Prop)
    (ht:compTurn (.ListComp elt gens scope pos) d it acc env = turnC target iter ifs it env act (again (.compLoop (.ListComp elt gens scope pos) d it acc env)))
    (turn:∀ n s,I n s→wpAny (model prog w) A (pyNext it) (fun r s₁=>match r with
      | none=>R (.ok .next) s₁
      | some v=>wpAny (model prog w) A (letOwnedTupleGo target it v) (fun _ s₀=>wpAny (model prog w) A (assign target env v) (fun _ s₂ =>
          wpAny (model prog w) A (forIn ifs true fun c r=>if r = true then do let ok ← isTrue c env (eval c env); pure (ForInStep.yield ok) else pure (ForInStep.yield r)) (fun ok s₃ =>
            if ok = true then ∀ (k:Sem Fin) (Q:Fin→Shared→Prop) (E:Value→Shared→Prop),(∀ s₅,(∃ m,m < n ∧ I m s₅)→wpAny (model prog w) A k Q E s₅)→wpAny (model prog w) A (act k) Q E s₃
            else ∃ m,m < n ∧ I m s₃) (fun _ _=>False) s₂) (fun _ _=>False) s₀) (fun _ _=>False) s₁) (fun _ _=>False) s)
    (n:Nat) (h:I n s):codeAny (model prog w) A (.compLoop (.ListComp elt gens scope pos) d it acc env) R s:=by
  refine codeAny_loop rfl I (fun n s hI=>?_) n h
  show wpAny _ A ((compTurn (.ListComp elt gens scope pos) d it acc env).onRaise (fun x=>do noteFrame x env; theTreesLotGoes x)) _ _ s
  refine wpAny_noted ?_
  rw [ht]
  unfold turnC
  refine wpAny_bind (wpAny_standAt (wpAny_bind (wpAny_mono (turn n s hI) (fun r s₁ h₁=>?_) fun _ _ h'=>h'.elim)))
  cases r with
  | none=>exact wpAny_pure h₁
  | some v =>
    refine wpAny_bind (wpAny_mono h₁ (fun _ s₀ h₀=>?_) fun _ _ h'=>h'.elim)
    refine wpAny_bind (wpAny_mono h₀ (fun _ s₂ h₂=>wpAny_bind (wpAny_mono h₂ (fun ok s₃ h₃=>?_) fun _ _ h'=>h'.elim)) fun _ _ h'=>h'.elim)
    cases ok with
    | false=>exact wpAny_pure ⟨rfl,h₃⟩
    | true=>exact h₃ _ _ _ fun s₅ h₅=>wpAny_pure ⟨rfl,h₅⟩
end
noncomputable def capt (k:Nat) (cap:List Nat) (σ:St):St:=List.replicate k none ++ cap.map fun j=>(σ[j]?).join
structure Caps (ON:List Str) (osc:Scope) (N:List Str) (k:Nat) (cap:List Nat) (scope:Scope):Prop where
  kind:scope.kind = .function
  cell:∀ y ∈ scope.names,y.2 = .cell→scope.names.lookup y.1 = some .cell
  loc:∀ y ∈ scope.names,y.2 = .local→scope.names.lookup y.1 = some .local
  free:∀ y ∈ scope.names,y.2 = .free→osc.names.lookup y.1 = some .cell ∨ osc.names.lookup y.1 = some .free
  len:N.length = k + cap.length
  capx:(cap.map fun j=>ON[j]?) = (N.drop k).map some
  capf:∀ x ∈ N.drop k,scope.names.lookup x = some .free
noncomputable def cxC (X:Cx) (N:List Str) (scope:Scope) (cl:List (Str × Addr)) (C:Addr) (ex:List Addr) (pins:List (Addr × Obj)) (s₀:Shared) (H₀:Hp):Cx where
  prog:=X.prog
  w:=X.w
  K:=X.K
  mg:=X.mg
  base:=X.base
  A:=X.A
  N:=N
  s₀:=s₀
  H₀:=H₀
  env:=compEnvC scope cl C X.env
  outer:=X.stack
  stack:=X.stack
  ex:=ex
  fn:=fun x=>match scope.names.lookup x with
    | some .cell=>true
    | _=>false
  calm:=X.calm
  pn:=X.pn ++ pins
  xe:=fun _ _=>False
noncomputable def PTs (X:Cx) (ifs:List Expr) (t:TT):Prop :=
  ∀ (pins:List (Addr × Obj)) (s:Shared) (σ:St) (H:Hp) (Q:Bool→Hp→Prop),Inv X pins σ H s→t σ H Q →
    wpAny (model X.prog X.w) X.A (forIn ifs true fun c r=>if r = true then do let ok ← isTrue c X.env (eval c X.env); pure (ForInStep.yield ok) else pure (ForInStep.yield r)) (TP X pins σ Q) X.xe s
noncomputable def tNoT:TT:=fun _ H Q=>Q true H
theorem pts_nil {X:Cx}:PTs X [] tNoT:=fun _ _ _ H _ I h=>wpAny_tests_nil ⟨H,I,h⟩
theorem pts_one {X:Cx} {c:Expr} {t:TT} (h:PT X c t):PTs X [c] t:=fun pins s σ H Q I q=>wpAny_tests_one (h pins s σ H Q I q)
noncomputable def tLC (wi:TI) (k:Nat) (cap:List Nat) (g:TG) (tt:TT) (te:TE):TE:=fun σ H Q=>wi σ H fun J H1=>∀ D,H1 D = none →
  ∃ W:Nat→Nat→St→List V→Hp→Prop,(∃ m,W 0 m (capt k cap σ) [] (upd H1 D (.lst []))) ∧ ∀ i m σ' acc H',W i m σ' acc H' →
    (J.stop i H' ∧ Q (.ref D) H') ∨
    (J.go i H' ∧ ∀ x H2,J.yld i H' x H2→g x σ' H2 fun σ2 H3=>tt σ2 H3 fun ok H4=>if ok = true then te σ2 H4 fun y H5=>H5 D = some (.lst acc) ∧ acc.length < sizeLine ∧ ∃ m',m' < m ∧ W (i + 1) m' σ2 (acc ++ [y]) (upd H5 D (.lst (acc ++ [y])))
      else H4 D = some (.lst acc) ∧ ∃ m',m' < m ∧ W (i + 1) m' σ2 acc H4)
noncomputable abbrev TM:=St→Hp→(St→Hp→Prop)→Prop
noncomputable def PM (Y:Cx) (act:Sem Fin→Sem Fin) (t:TM):Prop:=∀ (pins:List (Addr × Obj)) (s:Shared) (σ:St) (H:Hp) (Q:St→Hp→Prop),Inv Y pins σ H s→t σ H Q →
  ∀ (k:Sem Fin) (R:Fin→Shared→Prop) (E:Value→Shared→Prop),(∀ s' σ' H',Inv Y pins σ' H' s'→Q σ' H'→wpAny (model Y.prog Y.w) Y.A k R E s')→wpAny (model Y.prog Y.w) Y.A (act k) R E s
theorem lc_core {X:Cx} {elt tg iter:Expr} {ifs:List Expr} {rest:List Comprehension} {scope osc:Scope} {pos:Pos} {N:List Str} {k:Nat} {cap:List Nat} {g:TG} {tt:TT} {cl:List (Str × Addr)} {act:Env→Sem Fin→Sem Fin}
    {pins:List (Addr × Obj)} {σ:St} {H3:Hp} {s3:Shared} {D it:Addr} {fp:List Addr} {tn:Nat→Heap→Prop} {J:It} {Qs:Hp→Prop} {W:Nat→Nat→St→Hp→Prop} {m0:Nat} {P:Addr→Result→Shared→Prop}
    (hturn:∀ env,compTurn (.ListComp elt (⟨tg,iter,ifs,0⟩ :: rest) scope pos) 0 (.ref it) (.ref D) env = turnC tg iter ifs (.ref it) env (act env) (again (.compLoop (.ListComp elt (⟨tg,iter,ifs,0⟩ :: rest) scope pos) 0 (.ref it) (.ref D) env)))
    (hc:X.calm = true) (hosc:X.env.scope = osc) (hcap:Caps X.N osc N k cap scope)
    (hcl:∀ {x:Str} {c:Addr},cl.lookup x = some c→X.env.cells.lookup x = some c) (hhas:∀ x,(x,NameKind.free) ∈ scope.names→∃ c,cl.lookup x = some c)
    (hg:∀ cl C ex pins s H,PG (cxC X N scope cl C ex pins s H) tg g)
    (ht:∀ cl C ex pins s H,PTs (cxC X N scope cl C ex pins s H) ifs tt)
    (I3:Inv X pins σ H3 s3) (T:Turn X.prog X.w X.K tg J fp it tn) (st:tn 0 s3.heap) (f3:∀ b ∈ fp,FpOk X pins H3 b) (w0:W 0 m0 (capt k cap σ) H3)
    (hend:∀ s6 σ5 H5,Inv (cxC X N scope (ownC scope cl s3.heap.objs.size) s3.heap.objs.size fp pins s3 H3) [] σ5 H5 s6→Inv X pins σ H5 s6→Qs H5→P s3.heap.objs.size (.ok .next) s6)
    (turn:∀ i m σ' H',W i m σ' H'→(J.stop i H' ∧ Qs H') ∨
      (J.go i H' ∧ ∃ C:Bool→St→Hp→Prop,(∀ x H2,J.yld i H' x H2→g x σ' H2 fun σ2 H3=>tt σ2 H3 fun ok H4=>C ok σ2 H4) ∧ (∀ σ2 H4,C false σ2 H4→∃ m',m' < m ∧ W (i + 1) m' σ2 H4) ∧
        ∀ (pins':List (Addr × Obj)) (s:Shared) (σ2:St) (H4:Hp),Inv (cxC X N scope (ownC scope cl s3.heap.objs.size) s3.heap.objs.size fp pins s3 H3) pins' σ2 H4 s→C true σ2 H4→∀ (k:Sem Fin) (R:Fin→Shared→Prop) (E:Value→Shared→Prop),
          (∀ s' σ3 H5,Inv (cxC X N scope (ownC scope cl s3.heap.objs.size) s3.heap.objs.size fp pins s3 H3) pins' σ3 H5 s'→(∃ m',m' < m ∧ W (i + 1) m' σ3 H5)→wpAny (model X.prog X.w) X.A k R E s')→wpAny (model X.prog X.w) X.A (act (compEnvC scope (ownC scope cl s3.heap.objs.size) s3.heap.objs.size X.env) k) R E s)) :
    wpAny (model X.prog X.w) X.A (newFunctionEnv scope X.env.globals cl [] X.env.qual none .none (some X.env)) (fun cenv s₄ =>
      codeAny (model X.prog X.w) X.A (.compStart (.ListComp elt (⟨tg,iter,ifs,0⟩ :: rest) scope pos) 0 (.ref it) (.ref D) { cenv with scope:=relabel scope X.env }) (P cenv.locals) s₄) X.xe s3:=by
  refine newEnv_own fun h₁ hns₁ old okc=>?_
  have ownS:∀ {x:Str} {c:Addr},(ownC scope cl s3.heap.objs.size).lookup x = some c→((cellsFrom (s3.heap.objs.size + 1) scope.names []).lookup x = some c ∧ scope.names.lookup x = some .cell ∧ h₁.IsCell c none ∧ s3.heap.objs.size < c) ∨ cl.lookup x = some c:=fun {x c} e=>by
    unfold ownC at e
    rw [cells_app] at e
    rcases lk_app e with z | z
    · have hm:=PySem.mem_of_lookup z
      obtain ⟨a1,a2⟩:=okc.empty x c hm
      exact .inl ⟨z,hcap.cell _ (cells_mem _ _ hm) rfl,a1,a2⟩
    · exact .inr z.2
  have clt:∀ {x:Str} {c:Addr},cl.lookup x = some c→c < s3.heap.objs.size:=fun {x c} e=>by
    obtain ⟨v,z⟩:=I3.cell x c (hcl e)
    exact z.lt
  have ownF:∀ {x:Str},scope.names.lookup x = some .free→(ownC scope cl s3.heap.objs.size).lookup x = cl.lookup x:=fun {x} e=>by
    unfold ownC
    rw [cells_app]
    refine lk_app2 ?_
    cases q:(cellsFrom (s3.heap.objs.size + 1) scope.names []).lookup x with
    | none=>rfl
    | some c =>
      have z:=hcap.cell _ (cells_mem _ _ (PySem.mem_of_lookup q)) rfl
      rw [e] at z; cases z
  have ownI:∀ x y c,(ownC scope cl s3.heap.objs.size).lookup x = some c→(ownC scope cl s3.heap.objs.size).lookup y = some c→x = y:=fun x y c h1 h2=>by
    rcases ownS h1 with ⟨a1,_,_,a4⟩ | a <;> rcases ownS h2 with ⟨b1,_,_,b4⟩ | b
    · exact name_of_addr okc.apart (PySem.mem_of_lookup a1) (PySem.mem_of_lookup b1)
    · exact absurd (clt b) (Nat.not_lt.mpr (Nat.le_of_lt a4))
    · exact absurd (clt a) (Nat.not_lt.mpr (Nat.le_of_lt b4))
    · exact I3.ok.inj x y c (hcl a) (hcl b)
  have ownH:∀ x,((relabel scope X.env).names.lookup x = some .cell ∨ (relabel scope X.env).names.lookup x = some .free)→∃ c,(ownC scope cl s3.heap.objs.size).lookup x = some c:=fun x hx=>by
    unfold ownC
    rw [cells_app]
    cases q:(cellsFrom (s3.heap.objs.size + 1) scope.names []).lookup x with
    | some c=>exact ⟨c,lk_app1 q⟩
    | none =>
      rcases relabel_mem hx with z | z
      · obtain ⟨c,e⟩:=hhas x z
        exact ⟨c,(lk_app2 q).trans e⟩
      · have y:=PySem.W.cellsFrom_some scope.names (s3.heap.objs.size + 1) [] (.inl (hcap.cell _ z rfl))
        rw [q] at y; cases y
  have ownA:∀ x c,(cxC X N scope (ownC scope cl s3.heap.objs.size) s3.heap.objs.size fp pins s3 H3).fn x = true→(ownC scope cl s3.heap.objs.size).lookup x = some c→s3.heap.objs.size ≤ c:=fun x c h e=>by
    rcases ownS e with ⟨_,_,_,a4⟩ | a
    · exact Nat.le_of_lt a4
    · have hx:scope.names.lookup x = some .cell:=by
        have h:(match scope.names.lookup x with | some .cell=>true | _=>false) = true:=h
        split at h
        · assumption
        · cases h
      have y:=PySem.W.cellsFrom_some scope.names (s3.heap.objs.size + 1) [] (.inl hx)
      obtain ⟨c',hc'⟩:=Option.isSome_iff_exists.mp y
      have e2:(ownC scope cl s3.heap.objs.size).lookup x = some c':=by unfold ownC; rw [cells_app]; exact lk_app1 hc'
      rw [e] at e2
      cases e2
      exact Nat.le_of_lt (okc.empty x c (PySem.mem_of_lookup hc')).2
  have neC:∀ b ∈ fp,b ≠ s3.heap.objs.size:=fun b hb=>by
    obtain ⟨o,e,_⟩:=T.obj _ _ st b hb
    exact Nat.ne_of_lt (Heap.lt_size e)
  have cne:∀ b ∈ fp,∀ {x:Str} {c:Addr},(ownC scope cl s3.heap.objs.size).lookup x = some c→c ≠ b:=fun b hb {x c} e=>by
    rcases ownS e with ⟨_,_,_,a4⟩ | a
    · obtain ⟨o,e,_⟩:=T.obj _ _ st b hb
      exact Ne.symm (Nat.ne_of_lt (Nat.lt_trans (Heap.lt_size e) a4))
    · exact (f3 b hb).2.2.2.2.1 x c (hcl a)
  have freeC:∀ {x:Str} {c:Addr},(ownC scope cl s3.heap.objs.size).lookup x = some c→H3 c = none:=fun {x c} e=>by
    rcases ownS e with ⟨_,_,_,a4⟩ | a
    · exact I3.hok.fresh (Nat.le_of_lt a4)
    · exact I3.freeC x c (hcl a)
  have nofs:∀ {b:Addr},b ≠ X.env.locals→b ∉ X.fs→b ∉ frs X.stack:=fun {b} h1 h2 z=>(List.mem_cons.mp (I3.stkSub b z)).elim h1 h2
  have IY:Inv (cxC X N scope (ownC scope cl s3.heap.objs.size) s3.heap.objs.size fp pins s3 H3) [] (capt k cap σ) H3 { s3 with heap:=h₁ }:=by
    refine ⟨⟨I3.ok.mod,hcap.kind,I3.ok.glob,I3.ok.blt,Nat.le_refl _,ownI,ownH,ownA,I3.ok.hd,I3.ok.frames,.inl rfl,
      fun b hb=>⟨neC b hb,fun x c e=>cne b hb e⟩,I3.bs,Nat.le_trans I3.ok.bsz I3.sz,fun b o e hb=>?_,fun b hb=>nofs (f3 b hb).2.1 (f3 b hb).2.2.1,I3.stack,I3.stkFree⟩,
      rfl,I3.bare,Un.kept old,⟨_,hns₁,fun i x v e1 e2 e3=>?_⟩,fun x c e=>?_,I3.hok.fresh (Nat.le_refl _),fun x c e=>freeC e,fun p hp=>?_,I3.hok.kept old,?_⟩
    · rcases (f3 b hb).2.2.2.1 with z | z
      · exact I3.ok.noex b o e z
      · exact absurd (Nat.lt_of_lt_of_le (Heap.lt_size e) (Nat.le_trans I3.ok.bsz z)) (Nat.lt_irrefl _)
    · by_cases hi:i < k
      · unfold capt at e2
        rw [List.getElem?_append_left (by simpa using hi),List.getElem?_replicate,if_pos hi] at e2
        cases e2
      · obtain ⟨d,rfl⟩:∃ d,i = k + d:=⟨i - k,by omega⟩
        unfold capt at e2
        rw [List.getElem?_append_right (by simp),List.length_replicate,Nat.add_sub_cancel_left,List.getElem?_map] at e2
        obtain ⟨j,hj,hv⟩:=Option.map_eq_some_iff.mp e2
        have hσ:σ[j]? = some (some v):=by
          cases q:σ[j]? with
          | none=>rw [q] at hv; cases hv
          | some o=>rw [q] at hv; exact congrArg some hv
        have e1':(N.drop k)[d]? = some x:=by rw [List.getElem?_drop]; exact e1
        have hx:X.N[j]? = some x:=by
          have z:=congrArg (fun l=>l[d]?) hcap.capx
          simp only [List.getElem?_map,hj,e1',Option.map_some] at z
          exact Option.some.inj z
        have hfr:=hcap.capf x (List.mem_of_getElem? e1')
        have hfm:=PySem.mem_of_lookup hfr
        have hok:=hcap.free _ hfm rfl
        rw [← hosc] at hok
        obtain ⟨m,hn,hl⟩:=I3.loc
        obtain ⟨u,r,l⟩:=hl j x v hx hσ (.inr hok)
        refine ⟨u,r,?_⟩
        rcases l with ⟨hk,_⟩ | ⟨hk,c,hc1,hc2⟩
        · have hk:X.env.scope.names.lookup x = some .local:=hk
          rcases hok with z | z <;> (rw [hk] at z; cases z)
        · obtain ⟨c',hc'⟩:=hhas x hfm
          have:c' = c:=Option.some.inj ((hcl hc').symm.trans hc1)
          subst this
          exact .inr ⟨relabel_free hfr,c',(ownF hfr).trans hc',hc2.keeps old⟩
    · rcases ownS e with ⟨_,_,a3,_⟩ | a
      · exact ⟨_,a3⟩
      · obtain ⟨v,z⟩:=I3.cell x c (hcl a)
        exact ⟨v,z.keeps old⟩
    · have hp:p ∈ (X.pn ++ pins) ++ []:=hp
      rw [List.append_nil] at hp
      obtain ⟨a1,a2,a3,a4,a5⟩:=I3.pin p hp
      exact ⟨old _ _ a1,a2,Nat.ne_of_lt (Heap.lt_size a1),nofs a3 a4,a5⟩
    · show (capt k cap σ).length = N.length
      unfold capt
      rw [List.length_append,List.length_replicate,List.length_map,hcap.len]
  have stat:∀ {H':Hp},(∀ b ∈ fp,H' b = none)→∀ b ∈ fp,FpOk (cxC X N scope (ownC scope cl s3.heap.objs.size) s3.heap.objs.size fp pins s3 H3) [] H' b:=fun {H'} hn b hb=>by
    obtain ⟨a0,a1,a2,a3,a4,a5⟩:=f3 b hb
    refine ⟨hn b hb,neC b hb,nofs a1 a2,.inl hb,fun x c e=>cne b hb e,fun p hp=>a5 p ?_⟩
    have hp:p ∈ (X.pn ++ pins) ++ []:=hp
    rwa [List.append_nil] at hp
  have loop:codeAny (model X.prog X.w) X.A (.compLoop (.ListComp elt (⟨tg,iter,ifs,0⟩ :: rest) scope pos) 0 (.ref it) (.ref D) (compEnvC scope (ownC scope cl s3.heap.objs.size) s3.heap.objs.size X.env))
      (P s3.heap.objs.size) { s3 with heap:=h₁ }:=by
    refine loopC (fun n s'=>∃ i σ' H',Inv (cxC X N scope (ownC scope cl s3.heap.objs.size) s3.heap.objs.size fp pins s3 H3) [] σ' H' s' ∧ tn i s'.heap ∧ (∀ b ∈ fp,H' b = none) ∧ W i n σ' H') (hturn _) ?_ m0
      ⟨0,_,H3,IY,T.keep _ _ _ st fun b _ o e=>old b o e,fun b hb=>(f3 b hb).1,w0⟩
    rintro n s5 ⟨i,σ5,H5,I5,st5,fr5,w5⟩
    rcases turn i n σ5 H5 w5 with ⟨stop,q⟩ | ⟨go,C,step,hno,hyes⟩
    · refine thn (T.done (cxC X N scope (ownC scope cl s3.heap.objs.size) s3.heap.objs.size fp pins s3 H3) rfl rfl rfl hc i [] s5 σ5 H5 _ I5 (stat fr5) st5 stop) fun r s6 ⟨hr,I6⟩=>?_
      subst hr
      have I7:Inv X pins σ H5 s6:=I3.call' I6.os I6.base I6.hok I6.bare fun b hb=>by
        obtain ⟨a0,a1,a2,a3,a4,a5⟩:=f3 b hb
        exact ⟨a3,a1,a4,a5⟩
      exact hend s6 σ5 H5 I6 I7 q
    · refine thn (T.item (cxC X N scope (ownC scope cl s3.heap.objs.size) s3.heap.objs.size fp pins s3 H3) rfl rfl rfl hc i [] s5 σ5 H5 _ I5 (stat fr5) st5 go) fun r s6 ⟨u,hr,h6⟩=>?_
      subst hr
      refine thn h6 fun _ s7 ⟨x,H7,I7,r7,y7,st7,fr7⟩=>?_
      have I7':=I7.pinned (stat fr7) (T.obj _ _ st7)
      have keepI:∀ {s':Shared} {σ':St} {H':Hp},Inv (cxC X N scope (ownC scope cl s3.heap.objs.size) s3.heap.objs.size fp pins s3 H3) ([] ++ pinsAt fp s7.heap) σ' H' s'→tn (i + 1) s'.heap ∧ ∀ b ∈ fp,H' b = none:=fun {s' σ' H'} I'=>by
        refine ⟨T.keep _ _ _ st7 fun b hb o e=>(I'.pin (b,o) (List.mem_append_right _ (List.mem_append_right _ (mem_pinsAt hb e)))).1,fun b hb=>?_⟩
        obtain ⟨o,e,d⟩:=T.obj _ _ st7 b hb
        exact (I'.pin (b,o) (List.mem_append_right _ (List.mem_append_right _ (mem_pinsAt hb e)))).2.1
      refine thn (hg _ _ _ _ _ _ _ s7 σ5 H7 x u _ I7' r7 (step x H7 y7)) fun _ s8 ⟨σ8,H8,I8,q8⟩=>?_
      refine thn (ht _ _ _ _ _ _ _ s8 σ8 H8 _ I8 q8) fun ok s9 ⟨H9,I9,q9⟩=>?_
      cases ok with
      | false =>
        obtain ⟨m',hm,w9⟩:=hno _ _ q9
        obtain ⟨k1,k2⟩:=keepI I9
        exact ⟨m',hm,i + 1,σ8,H9,I9.unpinned,k1,k2,w9⟩
      | true =>
        intro kk R E hk
        refine hyes _ s9 σ8 H9 I9 q9 kk R E fun s10 σ10 H10 I10 ⟨m',hm,w10⟩=>hk s10 ?_
        obtain ⟨k1,k2⟩:=keepI I10
        exact ⟨m',hm,i + 1,σ10,H10,I10.unpinned,k1,k2,w10⟩
  exact codeAny_compStart_list loop (T.self X.A 0 _ _ _ (T.keep _ _ _ st fun b _ o e=>old b o e) loop)
theorem lc_block {X:Cx} {elt tg iter:Expr} {ifs:List Expr} {scope osc:Scope} {pos:Pos} {N:List Str} {k:Nat} {cap:List Nat} {g:TG} {tt:TT} {te:TE} {cl:List (Str × Addr)}
    {pins:List (Addr × Obj)} {σ:St} {H3:Hp} {s3:Shared} {D it:Addr} {fp:List Addr} {tn:Nat→Heap→Prop} {J:It} {Q:VK} {W:Nat→Nat→St→List V→Hp→Prop} {m0:Nat}
    (hc:X.calm = true) (hosc:X.env.scope = osc) (hcap:Caps X.N osc N k cap scope)
    (hcl:∀ {x:Str} {c:Addr},cl.lookup x = some c→X.env.cells.lookup x = some c) (hhas:∀ x,(x,NameKind.free) ∈ scope.names→∃ c,cl.lookup x = some c)
    (hg:∀ cl C ex pins s H,PG (cxC X N scope cl C ex pins s H) tg g)
    (ht:∀ cl C ex pins s H,PTs (cxC X N scope cl C ex pins s H) ifs tt)
    (he:∀ cl C ex pins s H,PE (cxC X N scope cl C ex pins s H) elt te)
    (I3:Inv X pins σ H3 s3) (hD:H3 D = some (.lst [])) (T:Turn X.prog X.w X.K tg J fp it tn) (st:tn 0 s3.heap) (f3:∀ b ∈ fp,FpOk X pins H3 b) (w0:W 0 m0 (capt k cap σ) [] H3)
    (turn:∀ i m σ' acc H',W i m σ' acc H'→(J.stop i H' ∧ Q (.ref D) H') ∨
      (J.go i H' ∧ ∀ x H2,J.yld i H' x H2→g x σ' H2 fun σ2 H3=>tt σ2 H3 fun ok H4=>if ok = true then te σ2 H4 fun y H5=>H5 D = some (.lst acc) ∧ acc.length < sizeLine ∧ ∃ m',m' < m ∧ W (i + 1) m' σ2 (acc ++ [y]) (upd H5 D (.lst (acc ++ [y])))
        else H4 D = some (.lst acc) ∧ ∃ m',m' < m ∧ W (i + 1) m' σ2 acc H4)) :
    wpAny (model X.prog X.w) X.A (newFunctionEnv scope X.env.globals cl [] X.env.qual none .none (some X.env)) (fun cenv s₄ =>
      codeAny (model X.prog X.w) X.A (.compStart (.ListComp elt [⟨tg,iter,ifs,0⟩] scope pos) 0 (.ref it) (.ref D) { cenv with scope:=relabel scope X.env }) (compPost (model X.prog X.w) X.A X.xe none (EP X pins σ Q) (.ref D) cenv.locals) s₄) X.xe s3:=by
  refine lc_core (act:=fun env k=>do actEm elt (.ref D) env; k) (P:=fun C=>compPost (model X.prog X.w) X.A X.xe none (EP X pins σ Q) (.ref D) C) (Qs:=Q (.ref D)) (W:=fun i m σ' H'=>∃ acc,H' D = some (.lst acc) ∧ W i m σ' acc H') (fun env=>by rfl) hc hosc hcap hcl hhas hg ht I3 T st f3 ⟨[],hD,w0⟩ (fun s6 σ5 H5 I6 I7 q=>?_) fun i m σ' H' ⟨acc,hD',w⟩=>?_
  · obtain ⟨m,hn,_⟩:=id I6.loc
    refine ⟨m,hn,fun h' hsb=>?_⟩
    obtain ⟨g0,g1,g2,g3,g4,g5⟩:=I3.fpOk (H':=H5) (b:=s3.heap.objs.size) (Nat.le_refl _) I6.free
    exact ⟨.ref D,H5,I7.turned (t':=s6.toks) (fun b o hb e=>(hsb.2 b hb).trans e) g0 g1 g3 g4 g5,rfl,q⟩
  · rcases turn i m σ' acc H' w with h | ⟨go,step⟩
    · exact .inl h
    · refine .inr ⟨go,_,step,fun σ2 H4 h=>?_,fun pins' s σ2 H4 I h k R E hk=>?_⟩
      · obtain ⟨hD9,m',hm,w9⟩:=(show H4 D = some (.lst acc) ∧ ∃ m',m' < m ∧ W (i + 1) m' σ2 acc H4 from h)
        exact ⟨m',hm,acc,hD9,w9⟩
      · refine wpAny_bind (wpAny_bind (wpAny_mono (he _ _ _ _ _ _ _ s σ2 H4 _ I h) (fun yv s10 ⟨y,H10,I10,r10,hD10,hz,m',hm,w10⟩=>?_) fun _ _ h'=>h'.elim))
        refine wpAny_bind (wpAny_mono (mt_append (X:=cxC X N scope (ownC scope cl s3.heap.objs.size) s3.heap.objs.size fp pins s3 H3) _ s10 σ2 H10 (.ref D) [y] (.ref D) [yv] (fun _ H'=>H' = upd H10 D (.lst (acc ++ [y]))) I10 rfl (.cons r10 .nil) ⟨D,acc,y,rfl,rfl,hD10,hz,rfl⟩)
          (fun _ s11 ⟨_,H11,I11,_,e11⟩=>wpAny_pure ?_) fun _ _ h'=>h'.elim)
        subst e11
        exact hk s11 σ2 _ I11 ⟨m',hm,_,upd_same,w10⟩
theorem pe_lc {X:Cx} {elt tg iter:Expr} {ifs:List Expr} {scope osc:Scope} {pos:Pos} {N:List Str} {k:Nat} {cap:List Nat} {wi:TI} {g:TG} {tt:TT} {te:TE}
    (hc:X.calm = true) (hosc:X.env.scope = osc) (hcap:Caps X.N osc N k cap scope) (hi:PI X tg iter wi)
    (hg:∀ cl C ex pins s H,PG (cxC X N scope cl C ex pins s H) tg g)
    (ht:∀ cl C ex pins s H,PTs (cxC X N scope cl C ex pins s H) ifs tt)
    (he:∀ cl C ex pins s H,PE (cxC X N scope cl C ex pins s H) elt te)
    (hs:∀ x,foldedSetIterable iter X.env x = pure x:=by intro _; rfl) :
    PE X (.ListComp elt [⟨tg,iter,ifs,0⟩] scope pos) (tLC wi k cap g tt te):=by
  intro pins s σ H Q I h
  have hcell:∀ y ∈ scope.names,y.2 = .free→∃ c,X.env.cells.lookup y.1 = some c:=fun y hy hk=>I.ok.has y.1 (by
    show X.env.scope.names.lookup y.1 = _ ∨ X.env.scope.names.lookup y.1 = _
    rw [hosc]; exact hcap.free y hy hk)
  let f:Str→Addr:=fun x=>(X.env.cells.lookup x).getD 0
  have hf:∀ y ∈ scope.names,y.2 = .free→X.env.cells.lookup y.1 = some (f y.1):=fun y hy hk=>by
    obtain ⟨c,e⟩:=hcell y hy hk
    show _ = some ((X.env.cells.lookup y.1).getD 0)
    rw [e]; rfl
  have hclos:closureFor scope X.env = pure (closL f scope.names []):=closureFor_closL fun y hy hk=>by
    unfold cellOf
    rw [hf y hy hk]
  have hcl:∀ {x:Str} {c:Addr},(closL f scope.names []).lookup x = some c→X.env.cells.lookup x = some c:=fun {x c} e=>by
    rcases closL_lookup _ _ e with ⟨h1,h2⟩ | h1
    · rw [h2]; exact hf (x,.free) h1 rfl
    · simp at h1
  have hhas:∀ x,(x,NameKind.free) ∈ scope.names→∃ c,(closL f scope.names []).lookup x = some c:=fun x hx=>⟨_,closL_has _ _ (.inl hx)⟩
  generalize closL f scope.names [] = cl at hclos hcl hhas
  rw [eval_ListComp]
  refine wpAny_comprehension_free (use:=none) (cl:=cl) rfl hs hclos hcap.kind hcap.loc ?_
  refine thn (hi pins s σ H _ I h) fun v s1 h1=>thn h1 fun itv s2 h2=>?_
  obtain ⟨it,fp,tn,J,H2,e,I2,T,st2,f2,q2⟩:=h2
  subst e
  obtain ⟨W,⟨m0,w0⟩,turn⟩:=q2 s2.heap.objs.size (I2.hok.fresh (Nat.le_refl _))
  refine wpAny_newObj_type ?_
  have I3:Inv X pins σ (upd H2 s2.heap.objs.size (.lst [])) { s2 with heap:=s2.heap.push { cls:=.type "list",data:=.seq ([]:List Value).toArray } }:=I2.lnew (ys:=[]) (its:=[]) (t':=s2.toks) .nil (Nat.zero_le _)
  have lt2:∀ b ∈ fp,b ≠ s2.heap.objs.size:=fun b hb=>by
    obtain ⟨o,e,_⟩:=T.obj _ _ st2 b hb
    exact Nat.ne_of_lt (Heap.lt_size e)
  exact lc_block hc hosc hcap hcl hhas hg ht he I3 upd_same T (T.keep _ _ (s2.heap.push { cls:=.type "list",data:=.seq ([]:List Value).toArray }) st2 fun b _ o e=>Heap.get?_push_of_some _ e) (fun b hb=>⟨by rw [upd_ne (lt2 b hb)]; exact (f2 b hb).1,(f2 b hb).2⟩) w0 turn
end L2
namespace L2
open PySem PySem.Spec PyProof.Rows
mutual
noncomputable def DatIs (K:PySem.W.Frag) (H:Hp):PyData→V→Prop
  | .none,v=>v = .non
  | .bool b,v=>v = .bl b
  | .int i,v=>v = .int i
  | .str x,v=>v = .str x
  | .tuple ds,v=>∃ a xs,v = .ref a ∧ SqT K H a xs ∧ DatsAre K H ds xs
  | .list ds,v=>∃ a xs,v = .ref a ∧ H a = some (.lst xs) ∧ DatsAre K H ds xs
  | .dict _,_=>False
noncomputable def DatsAre (K:PySem.W.Frag) (H:Hp):List PyData→List V→Prop
  | [],xs=>xs = []
  | d :: ds,xs=>∃ x r,xs = x :: r ∧ DatIs K H d x ∧ DatsAre K H ds r
end
section
variable {X:Cx} {pins:List (Addr × Obj)} {σ:St} {H:Hp} {s:Shared}
mutual
theorem reads_of (I:Inv X pins σ H s):∀ (d:PyData) (v:V) (u:Value),DatIs X.K H d v→RelV v u→∃ as,Reads s.heap u d as
  | .none,v,u,h,r=>by
    simp only [DatIs] at h; subst h; cases (show u = Value.none from r); exact ⟨_,.none⟩
  | .bool b,v,u,h,r=>by
    simp only [DatIs] at h; subst h; cases (show u = Value.bool b from r); exact ⟨_,.bool b⟩
  | .int i,v,u,h,r=>by
    simp only [DatIs] at h; subst h; obtain ⟨t,rfl⟩:=(show ∃ t,u = Value.int i t from r); exact ⟨_,.int i t⟩
  | .str x,v,u,h,r=>by
    simp only [DatIs] at h; subst h; obtain ⟨t,rfl⟩:=(show ∃ t,u = Value.str x t from r); exact ⟨_,.str x t⟩
  | .tuple ds,v,u,h,r=>by
    simp only [DatIs] at h
    obtain ⟨a,xs,rfl,hq,hd⟩:=h
    cases (show u = Value.ref a from r)
    obtain ⟨its,rv,ht,_⟩:=I.tuple hq
    obtain ⟨o,h1,h2,n,h3⟩:=ht
    obtain ⟨as,ra⟩:=readsAll_of I ds xs its hd rv
    exact ⟨_,.tuple h1 h2 h3 ra⟩
  | .list ds,v,u,h,r=>by
    simp only [DatIs] at h
    obtain ⟨a,xs,rfl,hq,hd⟩:=h
    cases (show u = Value.ref a from r)
    obtain ⟨its,rv,ht,_⟩:=I.list (SqL.of hq)
    obtain ⟨o,h1,h2,n,h3⟩:=ht.isList
    obtain ⟨as,ra⟩:=readsAll_of I ds xs its hd rv
    exact ⟨_,.list h1 h2 h3 ra⟩
  | .dict kvs,v,u,h,r=>by
    simp only [DatIs] at h
theorem readsAll_of (I:Inv X pins σ H s):∀ (ds:List PyData) (xs:List V) (us:List Value),DatsAre X.K H ds xs→Vals xs us→∃ as,ReadsAll s.heap us ds as
  | [],xs,us,h,r=>by
    simp only [DatsAre] at h; subst h; cases r; exact ⟨_,.nil⟩
  | d :: ds,xs,us,h,r=>by
    simp only [DatsAre] at h
    obtain ⟨x,rr,rfl,h1,h2⟩:=h
    cases r with
    | cons r1 r2 =>
      obtain ⟨as,ra⟩:=reads_of I d x _ h1 r1
      obtain ⟨bs,rb⟩:=readsAll_of I ds rr _ h2 r2
      exact ⟨_,.cons ra rb⟩
end
end
structure Shw (d:PyData) (dp n:Nat):Prop where
  sh:d.showable = true
  nd:d.hasDict = false
  de:d.depth ≤ dp
  ln:d.shown.length ≤ n
theorem Shw.int {i:Int} {k:Nat} (h:i.natAbs < 2 ^ k) (hk:0 < k) (hk2:k ≤ 1900):Shw (.int i) 0 (k + 20):=by
  have hlog:i.natAbs.log2 < 1920:=by
    by_cases h0:i.natAbs = 0
    · rw [h0]; decide
    · have:=(Nat.log2_lt h0).mpr h
      omega
  refine ⟨by simp only [PyData.showable,hlog,decide_true],by simp only [PyData.hasDict],by simp only [PyData.depth]; omega,?_⟩
  have hl2:i.natAbs.log2 < k:=by
    by_cases h0:i.natAbs = 0
    · rw [h0]; exact hk
    · exact (Nat.log2_lt h0).mpr h
  have e:=int_text_length_le hk hl2
  simp only [PyData.shown]
  rw [PySem.ofString_length]
  omega
section
variable {X:Cx}
noncomputable def rRepr (K:PySem.W.Frag):List V→Hp→VK→Prop:=fun xs H Q=>∃ a d,xs = [.ref a] ∧ DatIs K H d (.ref a) ∧ Shw d 50 16000000 ∧ Q (.str d.shown) H
theorem call_repr (hg:X.A.guards = some []) (hu:X.A.units + 64 < cLine):CallR X (.builtin "repr") (rRepr X.K):=by
  intro pins s σ H xs us Q I r h
  obtain ⟨a,d,rfl,hd,hs,q⟩:=h
  obtain ⟨u,rfl,ru⟩:=vals1 r
  cases ru
  obtain ⟨as,rd⟩:=reads_of I d (.ref a) (.ref a) hd rfl
  refine repr_of_reads' rd hs.sh (PyData.noDict_hsm hs.nd) hg (by have:=hs.de; omega) (fun _ _ e=>e) (fun h' u tk hk=>⟨.str d.shown,H,I.kept hk,⟨u,rfl⟩,q⟩) (Nat.le_trans hs.ln (by rw [sizeLine_eq]; decide))
end
end L2
namespace HT
open PySem PyProof.Rows
section
variable {prog:Program} {w:World} {A:Around} {E:Value→Shared→Prop} {s:Shared}
theorem getItem_tuple_whole {t sl:Addr} {items:Array Value} {vl vu:Value} {lo hi:Option Int} {Q:Value→Shared→Prop} (ht:IsTup s.heap t items) (hs:s.heap.IsSliceOf sl vl vu .none) (pl:IsPart vl lo) (pu:IsPart vu hi)
    (h0:sIx items.size 0 lo = 0) (h1:sIx items.size items.size hi = items.size) (h:Q (.ref t) s):wpAny (model prog w) A (getItem (.ref t) (.ref sl)) Q E s:=by
  obtain ⟨os,hos,hcs,hds⟩:=id hs
  have hTs:s.TypeIs (.ref sl) "slice":=⟨os,hos,hcs⟩
  unfold getItem
  try with_reducible refine wpAny_holding ?_
  first | refine wpAny_bind (wpAny_pure ?_) | skip
  refine wpAny_bind (wpAny_sequenceKey ht.typeIs (by decide) ?_)
  refine wpAny_bind (wpAny_callSpecial?_slot (name:=Str.ofString "__getitem__") ht.typeIs PyProof.Rows.slot_tuple_getitem
    (wpAny_call_entry PyProof.Rows.slot_tuple_getitem ht.typeIs entry_tuple_getitem ?_ (args_tuple_getitem _ _)))
  show wpAny _ _ (Builtin.Tuple.tupleItemsOf (.ref t) >>= _) _ _ s
  refine wpAny_bind (tupleItemsOf_ ht ?_)
  refine wpAny_bind (wpAny_typeOf hTs ?_)
  rw [if_pos (by decide)]
  refine wpAny_bind (sliceApplied_gen hs pl pu ?_)
  have hyes:(((sIx items.size 0 lo:Nat):Int) == 0 && (1:Int) == 1 && (sIx items.size items.size hi - sIx items.size 0 lo) == items.size) = true:=by
    rw [h0,h1]; simp
  show wpAny _ _ (if (((sIx items.size 0 lo:Nat):Int) == 0 && (1:Int) == 1 && (sIx items.size items.size hi - sIx items.size 0 lo) == items.size) = true then _ else _) _ _ s
  rw [if_pos hyes]
  unfold Builtin.Tuple.tupleIsExact
  refine wpAny_bind ?_
  refine wpAny_bind (wpAny_typeOf ht.typeIs (wpAny_pure ?_))
  rw [if_pos (by decide)]
  exact wpAny_bind (wpAny_rule (wpAny_pure ⟨_,rfl,wpAny_pure h⟩))
end
end HT
namespace L2
open PySem PySem.Spec PyProof.Rows
section
variable {X:Cx}
noncomputable def rSlT2 (K:PySem.W.Frag):V→Option Int→Option Int→Hp→VK→Prop:=fun x lo hi H Q=>∃ a xs,x = .ref a ∧ SqT K H a xs ∧ ((cutV xs lo hi = xs ∧ HT.sIx xs.length 0 lo = 0 ∧ HT.sIx xs.length xs.length hi = xs.length→Q (.ref a) H) ∧
  (¬ (HT.sIx xs.length 0 lo = 0 ∧ HT.sIx xs.length xs.length hi = xs.length)→∀ p,H p = none→Q (.ref p) (upd H p (.tup (cutV xs lo hi)))))
theorem sl_tup2:SlR X (rSlT2 X.K):=by
  intro pins s σ H x v vl vu lo hi sl Q I rx hs pl pu h
  obtain ⟨a,xs,rfl,hx,hw,hn⟩:=h
  by_cases hc:HT.sIx xs.length 0 lo = 0 ∧ HT.sIx xs.length xs.length hi = xs.length
  · cases rx
    obtain ⟨its,r,ht,hz⟩:=I.tuple hx
    have hlen:its.toArray.size = xs.length:=by rw [List.size_toArray]; exact r.length.symm
    have hq:=hw ⟨by unfold cutV; rw [hc.1,hc.2]; simp,hc.1,hc.2⟩
    exact ⟨"tuple",_,PyProof.Rows.slot_tuple_getitem.lookup,ht.typeIs,HT.getItem_tuple_whole ht hs pl pu (by rw [hlen]; exact hc.1) (by rw [hlen]; exact hc.2) ⟨.ref a,H,I,rfl,hq⟩⟩
  · exact sl_tup pins s σ H (.ref a) v vl vu lo hi sl Q I rx hs pl pu ⟨a,xs,rfl,hx,hc,hn hc⟩
theorem call_sum (hc:X.calm = true):CallR X (.builtin "sum") (fun xs H Q=>∃ (a:Addr) (ns:List Int),xs = [.ref a] ∧ SqL X.K H a (ns.map V.int) ∧ Q (.int ns.sum) H):=by
  intro pins s σ H xs us Q I r h
  obtain ⟨a,ns,rfl,hq,q⟩:=h
  obtain ⟨u,rfl,ru⟩:=vals1 r
  cases ru
  obtain ⟨its,rv,p,hz⟩:=I.list hq
  have hi:=intsAre_of rv
  obtain ⟨zs,hzs⟩:=hi.allInts.items
  have hl:s.heap.IsList a (intItems zs):=hzs ▸ p.isList
  refine sum_intListG (I.ok.hd hc) hl fun h' tk t' hk=>⟨.int ns.sum,H,I.kept hk,⟨t',?_⟩,q⟩
  have hn:=hi.numsOf
  have e:numsOf (intItems zs).toList = ns:=by rw [← hzs]; exact hn
  rw [nums_intItems] at e
  rw [preSum_eq,List.take_of_length_le (by simp),e]
noncomputable def rNeNil (K:PySem.W.Frag):R2:=fun x y H Q=>∃ a b xs,x = .ref a ∧ y = .ref b ∧ SqL K H a xs ∧ SqL K H b [] ∧ Q (.bl (!xs.isEmpty)) H
theorem op_neNil (hu:X.A.units < cLine):OpR X (compareOp .NotEq) (rNeNil X.K):=by
  intro pins s σ H x y v u Q I rx ry h
  obtain ⟨a,b,xs,rfl,rfl,ha,hb,q⟩:=h
  cases rx
  cases ry
  obtain ⟨its,rv,p,hz⟩:=I.list ha
  obtain ⟨its2,rv2,p2,hz2⟩:=I.list hb
  cases rv2
  cases rv with
  | nil=>exact (SeqAt.RcNeAt.lists (e:=fun _=>true) p.isList p2.isList rfl hu fun j h1 _=>absurd h1 (by simp)) _ _ _ _ ⟨.bl false,H,I,rfl,q⟩
  | cons r1 r2=>exact (SeqAt.RcNeAt.lists_lengths p.isList p2.isList (by simp) hu) _ _ _ _ ⟨.bl true,H,I,rfl,q⟩
end
end L2
namespace L2
open PySem PySem.Spec PyProof.Rows
noncomputable def Callee (P:Program) (w:World) (K:PySem.W.Frag) (mg:Str→Option Value) (base:Heap) (x:Str) (k:Nat) (ps:List Str) (sp:Sp):Prop :=
  ∃ f fd,FnOk P w K mg base CX0 k f fd ps sp ∧ mg x = some (.ref f) ∧ PySem.W.keepIn K (.ref f) = true ∧ Binds K fd ps []
theorem pe_callee {X:Cx} {x:Str} {k:Nat} {ps:List Str} {sp:Sp} {p pos:Pos} {e:Expr} {es:List Expr} {t:TA} (C:Callee X.prog X.w X.K X.mg X.base x k ps sp) (hr:Room k X.A) (hg:Gl X x) (ha:PA X (e :: es) t)
    (hdb:(x == ("__debug__":Str)) = false:=by decide) (he:starEach (e :: es) X.env = (false,eval e X.env) :: starEach es X.env:=by rfl) (hpl:(backTo pos (starEach es X.env)).any (·.1) = false:=by rfl) :
    PE X (.Call (.Name x p) (e :: es) [] pos) (tCall sp [] E0 t):=by
  obtain ⟨f,fd,G,m,kp,b⟩:=C
  exact pe_call G hr hg m kp b .nil pass0 ha hdb he hpl
noncomputable def KpE (D:Addr→Prop) (H H':Hp):Prop:=∀ b o,H b = some o→¬ D b→H' b = some o
theorem SqT.kp {K:PySem.W.Frag} {H H':Hp} {a:Addr} {xs:List V} {D:Addr→Prop} (h:SqT K H a xs) (k:KpE D H H') (hD:∀ b,D b→∃ kvs,H b = some (.dK kvs)):SqT K H' a xs:=by
  rcases h with (h | ⟨o,h⟩) | h
  · refine .inl (.inl (k _ _ h fun z=>?_))
    obtain ⟨kvs,e⟩:=hD _ z; rw [h] at e; cases e
  · refine .inl (.inr ⟨o,k _ _ h fun z=>?_⟩)
    obtain ⟨kvs,e⟩:=hD _ z; rw [h] at e; cases e
  · exact .inr h
section
variable {K:PySem.W.Frag} {H H':Hp} {D:Addr→Prop}
mutual
theorem DatIs.kp (k:KpE D H H') (hD:∀ b,D b→∃ kvs,H b = some (.dK kvs)):∀ (d:PyData) (v:V),DatIs K H d v→DatIs K H' d v
  | .none,v,h=>by simpa only [DatIs] using h
  | .bool b,v,h=>by simpa only [DatIs] using h
  | .int i,v,h=>by simpa only [DatIs] using h
  | .str x,v,h=>by simpa only [DatIs] using h
  | .tuple ds,v,h=>by
    simp only [DatIs] at h ⊢
    obtain ⟨a,xs,e,hq,hd⟩:=h
    exact ⟨a,xs,e,hq.kp k hD,DatsAre.kp k hD ds xs hd⟩
  | .list ds,v,h=>by
    simp only [DatIs] at h ⊢
    obtain ⟨a,xs,e,hq,hd⟩:=h
    refine ⟨a,xs,e,k _ _ hq fun z=>?_,DatsAre.kp k hD ds xs hd⟩
    obtain ⟨kvs,e⟩:=hD _ z; rw [hq] at e; cases e
  | .dict kvs,v,h=>by simp only [DatIs] at h
theorem DatsAre.kp (k:KpE D H H') (hD:∀ b,D b→∃ kvs,H b = some (.dK kvs)):∀ (ds:List PyData) (xs:List V),DatsAre K H ds xs→DatsAre K H' ds xs
  | [],xs,h=>by simpa only [DatsAre] using h
  | d :: ds,xs,h=>by
    simp only [DatsAre] at h ⊢
    obtain ⟨x,r,e,h1,h2⟩:=h
    exact ⟨x,r,e,DatIs.kp k hD d x h1,DatsAre.kp k hD ds r h2⟩
end
end
theorem Same.kpE {H H':Hp} (s:Same H H'):KpE (fun _=>False) H H':=fun b o h _=>s b o h
theorem DatIs.same {K:PySem.W.Frag} {H H':Hp} {d:PyData} {v:V} (h:DatIs K H d v) (s:Same H H'):DatIs K H' d v:=DatIs.kp s.kpE (fun _ z=>z.elim) d v h
theorem DatsAre.same {K:PySem.W.Frag} {H H':Hp} {ds:List PyData} {xs:List V} (h:DatsAre K H ds xs) (s:Same H H'):DatsAre K H' ds xs:=DatsAre.kp s.kpE (fun _ z=>z.elim) ds xs h
theorem SqT.same {K:PySem.W.Frag} {H H':Hp} {a:Addr} {xs:List V} (h:SqT K H a xs) (s:Same H H'):SqT K H' a xs:=h.kp s.kpE (fun _ z=>z.elim)
theorem Same.upd {H:Hp} {p:Addr} {o:HO} (hp:H p = none):Same H (upd H p o):=fun b u e=>by rw [upd_ne (ne_of_none e hp)]; exact e
section
variable {K:PySem.W.Frag} {H:Hp}
theorem DatsAre.length:∀ {ds:List PyData} {xs:List V},DatsAre K H ds xs→xs.length = ds.length
  | [],xs,h=>by simp only [DatsAre] at h; subst h; rfl
  | d :: ds,xs,h=>by
    simp only [DatsAre] at h
    obtain ⟨x,r,rfl,h1,h2⟩:=h
    rw [List.length_cons,List.length_cons,h2.length]
theorem DatsAre.get:∀ {ds:List PyData} {xs:List V} {i:Nat} {x:V},DatsAre K H ds xs→xs[i]? = some x→∃ d,ds[i]? = some d ∧ DatIs K H d x
  | [],xs,i,x,h,e=>by simp only [DatsAre] at h; subst h; simp at e
  | d :: ds,xs,i,x,h,e=>by
    simp only [DatsAre] at h
    obtain ⟨y,r,rfl,h1,h2⟩:=h
    cases i with
    | zero=>simp at e; subst e; exact ⟨d,rfl,h1⟩
    | succ i=>simpa using h2.get (i:=i) (by simpa using e)
theorem DatsAre.snoc:∀ {ds:List PyData} {xs:List V} {d:PyData} {x:V},DatsAre K H ds xs→DatIs K H d x→DatsAre K H (ds ++ [d]) (xs ++ [x])
  | [],xs,d,x,h,h'=>by simp only [DatsAre] at h; subst h; simp only [List.nil_append,DatsAre]; exact ⟨x,[],rfl,h',rfl⟩
  | e :: ds,xs,d,x,h,h'=>by
    simp only [DatsAre] at h
    obtain ⟨y,r,rfl,h1,h2⟩:=h
    simp only [List.cons_append,DatsAre]
    exact ⟨y,r ++ [x],rfl,h1,h2.snoc h'⟩
theorem DatsAre.append {ds':List PyData} {xs':List V} (h':DatsAre K H ds' xs'):∀ {ds:List PyData} {xs:List V},DatsAre K H ds xs→DatsAre K H (ds ++ ds') (xs ++ xs')
  | [],xs,h=>by simp only [DatsAre] at h; subst h; simpa using h'
  | e :: ds,xs,h=>by
    simp only [DatsAre] at h
    obtain ⟨y,r,rfl,h1,h2⟩:=h
    simp only [List.cons_append,DatsAre]
    exact ⟨y,r ++ xs',rfl,h1,DatsAre.append h' h2⟩
theorem DatsAre.take:∀ {ds:List PyData} {xs:List V} (n:Nat),DatsAre K H ds xs→DatsAre K H (ds.take n) (xs.take n)
  | [],xs,n,h=>by simp only [DatsAre] at h; subst h; simp [DatsAre]
  | d :: ds,xs,0,h=>by simp [DatsAre]
  | d :: ds,xs,n + 1,h=>by
    simp only [DatsAre] at h
    obtain ⟨y,r,rfl,h1,h2⟩:=h
    simp only [List.take_succ_cons,DatsAre]
    exact ⟨y,r.take n,rfl,h1,DatsAre.take n h2⟩
theorem DatIs.tup {ds:List PyData} {xs:List V} {a:Addr} (h:H a = some (.tup xs)) (h2:DatsAre K H ds xs):DatIs K H (.tuple ds) (.ref a):=by
  simp only [DatIs]; exact ⟨a,xs,rfl,SqT.of h,h2⟩
theorem DatIs.lst {ds:List PyData} {xs:List V} {a:Addr} (h:H a = some (.lst xs)) (h2:DatsAre K H ds xs):DatIs K H (.list ds) (.ref a):=by
  simp only [DatIs]; exact ⟨a,xs,rfl,h,h2⟩
theorem DatsAre.nil:DatsAre K H [] []:=by simp only [DatsAre]
theorem DatsAre.cons {d:PyData} {x:V} {ds:List PyData} {xs:List V} (h:DatIs K H d x) (h2:DatsAre K H ds xs):DatsAre K H (d :: ds) (x :: xs):=by
  simp only [DatsAre]; exact ⟨x,xs,rfl,h,h2⟩
theorem DatIs.int {i:Int}:DatIs K H (.int i) (.int i):=by simp only [DatIs]
theorem DatIs.bl {b:Bool}:DatIs K H (.bool b) (.bl b):=by simp only [DatIs]
theorem DatIs.st {x:Str}:DatIs K H (.str x) (.str x):=by simp only [DatIs]
theorem DatIs.non:DatIs K H .none .non:=by simp only [DatIs]
end
theorem lc_gen {J:It} {D:Addr} (n:Nat) {g:TG} {tt:TT} {te:TE} {Q:Hp→Prop} {σ0:St} {H0:Hp} (Pv:Nat→St→List V→Hp→Prop) (h0:Pv 0 σ0 [] H0)
    (hgo:∀ i σ acc H,i < n→Pv i σ acc H→J.go i H) (hstop:∀ σ acc H,Pv n σ acc H→J.stop n H)
    (hs:∀ i σ acc H,i < n→Pv i σ acc H→∀ x H2,J.yld i H x H2→∀ R:St→List V→Hp→Prop,(∀ σ acc H,Pv (i + 1) σ acc H→R σ acc H) →
      g x σ H2 fun σ2 H3=>tt σ2 H3 fun ok H4=>if ok = true then te σ2 H4 fun y H5=>H5 D = some (.lst acc) ∧ acc.length < sizeLine ∧ R σ2 (acc ++ [y]) (upd H5 D (.lst (acc ++ [y]))) else H4 D = some (.lst acc) ∧ R σ2 acc H4)
    (hd:∀ σ acc H,Pv n σ acc H→Q H) :
    ∃ W:Nat→Nat→St→List V→Hp→Prop,(∃ m,W 0 m σ0 [] H0) ∧ ∀ i m σ' acc H',W i m σ' acc H' →
    (J.stop i H' ∧ Q H') ∨
    (J.go i H' ∧ ∀ x H2,J.yld i H' x H2→g x σ' H2 fun σ2 H3=>tt σ2 H3 fun ok H4=>if ok = true then te σ2 H4 fun y H5=>H5 D = some (.lst acc) ∧ acc.length < sizeLine ∧ ∃ m',m' < m ∧ W (i + 1) m' σ2 (acc ++ [y]) (upd H5 D (.lst (acc ++ [y])))
      else H4 D = some (.lst acc) ∧ ∃ m',m' < m ∧ W (i + 1) m' σ2 acc H4):=by
  refine ⟨fun i m σ acc H=>m = n - i ∧ i ≤ n ∧ Pv i σ acc H,⟨n,by simp,Nat.zero_le _,h0⟩,?_⟩
  rintro i m σ acc H ⟨rfl,hi,p⟩
  by_cases hlt:i < n
  · exact .inr ⟨hgo i σ acc H hlt p,fun x H2 y=>hs i σ acc H hlt p x H2 y (fun σ acc H=>∃ m',m' < n - i ∧ m' = n - (i + 1) ∧ i + 1 ≤ n ∧ Pv (i + 1) σ acc H) fun σ acc H q=>⟨n - (i + 1),by omega,rfl,hlt,q⟩⟩
  · have e:i = n:=by omega
    subst e
    exact .inl ⟨hstop σ acc H p,hd σ acc H p⟩
end L2
namespace L2
open PySem PySem.Spec PyProof.Rows
section
variable {X:Cx} {K:PySem.W.Frag}
theorem pg_tupK {es:List Expr} {k:Nat} {t:TGs} {n:Nat} {pos:Pos} (hK:X.K = K) (hc:X.calm = true) (h:PGs X es t)
    (hn:(assignEach es X.env).length = n:=by rfl) (hst:(assignEach es X.env).findIdx? (·.1) = none:=by rfl):PG X (.Tuple es k pos) (gTup K n t):=by
  subst hK; exact pg_tup hc h hn hst
theorem ix_tupK (hK:X.K = K):IxR X (rIxT K):=by subst hK; exact ix_tup
theorem ix_listK (hK:X.K = K):IxR X (rIxL K):=by subst hK; exact ix_list
theorem call_len_seqK (hK:X.K = K):CallR X (.builtin "len") (fun xs H Q=>∃ p ys,xs = [.ref p] ∧ (SqL K H p ys ∨ SqT K H p ys) ∧ Q (.int ys.length) H):=by subst hK; exact call_len_seq
theorem call_tuple_ofK (hK:X.K = K):CallR X (.type "tuple") (fun xs H Q=>∃ p ys,xs = [.ref p] ∧ ((SqL K H p ys ∧ ∀ l,H l = none→Q (.ref l) (upd H l (.tup ys))) ∨ (SqT K H p ys ∧ Q (.ref p) H))):=by subst hK; exact call_tuple_of
theorem call_reprK (hK:X.K = K) (hg:X.A.guards = some []) (hu:X.A.units + 64 < cLine):CallR X (.builtin "repr") (rRepr K):=by subst hK; exact call_repr hg hu
theorem sl_tup2K (hK:X.K = K):SlR X (rSlT2 K):=by subst hK; exact sl_tup2
theorem pt_truthK {a:Expr} {ta:TE} (hK:X.K = K) (ha:PE X a ta) (he:∀ whole,isTrue a X.env whole = (do let v ← whole; standAt a.pos; holding [v] (truthy v))) :
    PT X a (fun σ H Q=>ta σ H fun x H'=>∃ k,TruV K x H' k ∧ Q k H'):=by subst hK; exact pt_truth ha he
end
end L2
namespace L2
open PySem PySem.Spec PyProof.Rows
section
variable {X:Cx} {K:PySem.W.Frag}
noncomputable def rCatA (K:PySem.W.Frag):R2:=fun x y H Q=>∃ a b xs ys,x = .ref a ∧ y = .ref b ∧ SqT K H a xs ∧ SqT K H b ys ∧ xs.length + ys.length ≤ sizeLine ∧
  (xs = []→Q (.ref b) H) ∧ (ys = []→Q (.ref a) H) ∧ ∀ p,H p = none→Q (.ref p) (upd H p (.tup (xs ++ ys)))
theorem op_catA (hK:X.K = K):OpR X (binaryOp .Add) (rCatA K):=by
  subst hK
  intro pins s σ H x y v u Q I rx ry h
  obtain ⟨a,b,xs,ys,rfl,rfl,ha,hb,hz,q0,q1,q2⟩:=h
  by_cases hx:xs = []
  · cases rx
    cases ry
    obtain ⟨its,r1,p1,_⟩:=I.tuple ha
    obtain ⟨its2,r2,p2,_⟩:=I.tuple hb
    subst hx
    cases r1
    obtain ⟨⟨cls,dd,data,sl⟩,ho,hc,n,hd⟩:=id p1
    obtain ⟨⟨cls2,dd2,data2,sl2⟩,ho2,hc2,n2,hd2⟩:=id p2
    simp only at hc hd hc2 hd2
    subst hc hd hc2 hd2
    exact concat_meets ⟨_,ho,rfl⟩ ⟨_,ho2,rfl⟩ noFill_tuple_add seq_tuple_add PySem.F.slot_tuple_add PySem.F.entry_tuple_add (PySem.F.args_tuple_add_2 _ _)
      (tuple_addW0 a b #[] its2.toArray n n2 dd dd2 sl sl2 rfl) ⟨ho,ho2,⟨.ref b,H,I,rfl,q0 rfl⟩⟩
  · exact op_catT pins s σ H (.ref a) (.ref b) v u Q I rx ry ⟨a,b,xs,ys,rfl,rfl,ha,hb,hx,hz,q1,fun _=>q2⟩
end
end L2
namespace L2
open PySem PySem.Spec PyProof.Rows
theorem lc_blockS {X:Cx} {y:Str} {py:Pos} {ix:Nat} {elt tg iter:Expr} {ifs:List Expr} {scope osc:Scope} {pos:Pos} {N:List Str} {k:Nat} {cap:List Nat} {g:TG} {tt:TT} {te:TE} {cl:List (Str × Addr)}
    {pins:List (Addr × Obj)} {σ:St} {H3:Hp} {s3:Shared} {D it:Addr} {fp:List Addr} {tn:Nat→Heap→Prop} {J:It} {Q:St→Hp→Prop} {W:Nat→Nat→St→List V→Hp→Prop} {m0:Nat}
    (hNd:X.N.Nodup) (hix:X.N[ix]? = some y) (hLy:Loc X.env.scope y) (hfy:X.fn y = true ∨ X.env.scope.names.lookup y = some .local)
    (hc:X.calm = true) (hosc:X.env.scope = osc) (hcap:Caps X.N osc N k cap scope)
    (hcl:∀ {x:Str} {c:Addr},cl.lookup x = some c→X.env.cells.lookup x = some c) (hhas:∀ x,(x,NameKind.free) ∈ scope.names→∃ c,cl.lookup x = some c)
    (hg:∀ cl C ex pins s H,PG (cxC X N scope cl C ex pins s H) tg g)
    (ht:∀ cl C ex pins s H,PTs (cxC X N scope cl C ex pins s H) ifs tt)
    (he:∀ cl C ex pins s H,PE (cxC X N scope cl C ex pins s H) elt te)
    (I3:Inv X pins σ H3 s3) (hD:H3 D = some (.lst [])) (T:Turn X.prog X.w X.K tg J fp it tn) (st:tn 0 s3.heap) (f3:∀ b ∈ fp,FpOk X pins H3 b) (w0:W 0 m0 (capt k cap σ) [] H3)
    (turn:∀ i m σ' acc H',W i m σ' acc H'→(J.stop i H' ∧ Q (σ.set ix (some (.ref D))) H') ∨
      (J.go i H' ∧ ∀ x H2,J.yld i H' x H2→g x σ' H2 fun σ2 H3=>tt σ2 H3 fun ok H4=>if ok = true then te σ2 H4 fun y H5=>H5 D = some (.lst acc) ∧ acc.length < sizeLine ∧ ∃ m',m' < m ∧ W (i + 1) m' σ2 (acc ++ [y]) (upd H5 D (.lst (acc ++ [y])))
        else H4 D = some (.lst acc) ∧ ∃ m',m' < m ∧ W (i + 1) m' σ2 acc H4)) :
    wpAny (model X.prog X.w) X.A (newFunctionEnv scope X.env.globals cl [] X.env.qual none .none (some X.env)) (fun cenv s₄ =>
      codeAny (model X.prog X.w) X.A (.compStart (.ListComp elt [⟨tg,iter,ifs,0⟩] scope pos) 0 (.ref it) (.ref D) { cenv with scope:=relabel scope X.env }) (compPost (model X.prog X.w) X.A X.xe (some (assign (.Name y py) X.env)) (fun _ s'=>∃ σ' H',Inv X pins σ' H' s' ∧ Q σ' H') (.ref D) cenv.locals) s₄) X.xe s3:=by
  refine lc_core (act:=fun env k=>do actEm elt (.ref D) env; k) (P:=fun C=>compPost (model X.prog X.w) X.A X.xe (some (assign (.Name y py) X.env)) (fun _ s'=>∃ σ' H',Inv X pins σ' H' s' ∧ Q σ' H') (.ref D) C) (Qs:=fun H'=>Q (σ.set ix (some (.ref D))) H') (W:=fun i m σ' H'=>∃ acc,H' D = some (.lst acc) ∧ W i m σ' acc H') (fun env=>by rfl) hc hosc hcap hcl hhas hg ht I3 T st f3 ⟨[],hD,w0⟩ (fun s6 σ5 H5 I6 I7 q=>?_) fun i m σ' H' ⟨acc,hD',w⟩=>?_
  · obtain ⟨m,hn,_⟩:=id I6.loc
    obtain ⟨g0,g1,g2,g3,g4,g5⟩:=I3.fpOk (H':=H5) (b:=s3.heap.objs.size) (Nat.le_refl _) I6.free
    obtain ⟨o,es,ep,ho,hdat,rest⟩:=id hn
    have I7p:Inv X (pins ++ [(s3.heap.objs.size,o)]) σ H5 s6:=I7.pins_of fun p hp=>by
      rcases List.mem_append.mp hp with z | z
      · exact I7.pin p (List.mem_append_right _ z)
      · rw [List.mem_singleton.mp z]
        exact ⟨ho,g0,g1,g2,fun v z=>by have z':o.data = .cell v:=z; rw [hdat] at z'; cases z'⟩
    show wpAny (model X.prog X.w) X.A (assign (.Name y py) X.env (.ref D)) _ _ s6
    refine wpAny_assign_Name (store_ok I7p hNd hix hLy (v:=.ref D) rfl (fun s7 I8=>?_) hfy)
    have hC7:=(I8.pin (s3.heap.objs.size,o) (List.mem_append_right _ (List.mem_append_right _ (List.mem_singleton.mpr rfl)))).1
    refine ⟨m,⟨o,es,ep,hC7,hdat,rest⟩,fun h' hsb=>?_⟩
    exact ⟨_,H5,I8.unpinned.turned (t':=s7.toks) (fun b o hb e=>(hsb.2 b hb).trans e) g0 g1 g3 g4 g5,q⟩
  · rcases turn i m σ' acc H' w with h | ⟨go,step⟩
    · exact .inl h
    · refine .inr ⟨go,_,step,fun σ2 H4 h=>?_,fun pins' s σ2 H4 I h k R E hk=>?_⟩
      · obtain ⟨hD9,m',hm,w9⟩:=(show H4 D = some (.lst acc) ∧ ∃ m',m' < m ∧ W (i + 1) m' σ2 acc H4 from h)
        exact ⟨m',hm,acc,hD9,w9⟩
      · refine wpAny_bind (wpAny_bind (wpAny_mono (he _ _ _ _ _ _ _ s σ2 H4 _ I h) (fun yv s10 ⟨y,H10,I10,r10,hD10,hz,m',hm,w10⟩=>?_) fun _ _ h'=>h'.elim))
        refine wpAny_bind (wpAny_mono (mt_append (X:=cxC X N scope (ownC scope cl s3.heap.objs.size) s3.heap.objs.size fp pins s3 H3) _ s10 σ2 H10 (.ref D) [y] (.ref D) [yv] (fun _ H'=>H' = upd H10 D (.lst (acc ++ [y]))) I10 rfl (.cons r10 .nil) ⟨D,acc,y,rfl,rfl,hD10,hz,rfl⟩)
          (fun _ s11 ⟨_,H11,I11,_,e11⟩=>wpAny_pure ?_) fun _ _ h'=>h'.elim)
        subst e11
        exact hk s11 σ2 _ I11 ⟨m',hm,_,upd_same,w10⟩
theorem ps_setLC {X:Cx} {y:Str} {py spos:Pos} {ix:Nat} {elt tg iter:Expr} {ifs:List Expr} {scope osc:Scope} {pos:Pos} {N:List Str} {k:Nat} {cap:List Nat} {wi:TI} {g:TG} {tt:TT} {te:TE}
    (hNd:X.N.Nodup) (hix:X.N[ix]? = some y) (hLy:Loc X.env.scope y)
    (hc:X.calm = true) (hosc:X.env.scope = osc) (hcap:Caps X.N osc N k cap scope) (hi:PI X tg iter wi)
    (hg:∀ cl C ex pins s H,PG (cxC X N scope cl C ex pins s H) tg g)
    (ht:∀ cl C ex pins s H,PTs (cxC X N scope cl C ex pins s H) ifs tt)
    (he:∀ cl C ex pins s H,PE (cxC X N scope cl C ex pins s H) elt te)
    (hs:∀ x,foldedSetIterable iter X.env x = pure x:=by intro _; rfl) (hfy:X.fn y = true ∨ X.env.scope.names.lookup y = some .local:=by first | exact .inl rfl | exact .inr rfl | assumption)
    (hsw:swapsWith (.ListComp elt [⟨tg,iter,ifs,0⟩] scope pos) (some (.Name y py)) spos.line X.env = pure true:=by rfl) :
    PS X (.Assign [.Name y py] (.ListComp elt [⟨tg,iter,ifs,0⟩] scope pos) spos) (tAsg (tLC wi k cap g tt te) (gName ix)):=by
  intro pins s σ H D0 I h
  have hcell:∀ y ∈ scope.names,y.2 = .free→∃ c,X.env.cells.lookup y.1 = some c:=fun y hy hk=>I.ok.has y.1 (by
    show X.env.scope.names.lookup y.1 = _ ∨ X.env.scope.names.lookup y.1 = _
    rw [hosc]; exact hcap.free y hy hk)
  let f:Str→Addr:=fun x=>(X.env.cells.lookup x).getD 0
  have hf:∀ y ∈ scope.names,y.2 = .free→X.env.cells.lookup y.1 = some (f y.1):=fun y hy hk=>by
    obtain ⟨c,e⟩:=hcell y hy hk
    show _ = some ((X.env.cells.lookup y.1).getD 0)
    rw [e]; rfl
  have hclos:closureFor scope X.env = pure (closL f scope.names []):=closureFor_closL fun y hy hk=>by
    unfold cellOf
    rw [hf y hy hk]
  have hcl:∀ {x:Str} {c:Addr},(closL f scope.names []).lookup x = some c→X.env.cells.lookup x = some c:=fun {x c} e=>by
    rcases closL_lookup _ _ e with ⟨h1,h2⟩ | h1
    · rw [h2]; exact hf (x,.free) h1 rfl
    · simp at h1
  have hhas:∀ x,(x,NameKind.free) ∈ scope.names→∃ c,(closL f scope.names []).lookup x = some c:=fun x hx=>⟨_,closL_has _ _ (.inl hx)⟩
  generalize closL f scope.names [] = cl at hclos hcl hhas
  rw [exec_Assign_Name_used _ _ _ _ hsw]
  refine wpAny_bind (wpAny_standAt (wpAny_bind ?_))
  show wpAny _ X.A (do let _ ← comprehension (.ListComp elt [⟨tg,iter,ifs,0⟩] scope pos) scope X.env _ (newList []) false (eval iter X.env) (some (assign (.Name y py) X.env))) _ _ s
  refine wpAny_bind (wpAny_mono (wpAny_comprehension_free (use:=some (assign (.Name y py) X.env)) (cl:=cl) (Q:=fun _ s'=>∃ σ' H',Inv X pins σ' H' s' ∧ D0.nx σ' H') rfl hs hclos hcap.kind hcap.loc ?_) (fun _ s' hq=>wpAny_pure (wpAny_pure hq)) fun _ _ e=>e)
  refine thn (hi pins s σ H _ I h) fun v s1 h1=>thn h1 fun itv s2 h2=>?_
  obtain ⟨it,fp,tn,J,H2,e,I2,T,st2,f2,q2⟩:=h2
  subst e
  obtain ⟨W,⟨m0,w0⟩,turn⟩:=q2 s2.heap.objs.size (I2.hok.fresh (Nat.le_refl _))
  refine wpAny_newObj_type ?_
  have I3:Inv X pins σ (upd H2 s2.heap.objs.size (.lst [])) { s2 with heap:=s2.heap.push { cls:=.type "list",data:=.seq ([]:List Value).toArray } }:=I2.lnew (ys:=[]) (its:=[]) (t':=s2.toks) .nil (Nat.zero_le _)
  have lt2:∀ b ∈ fp,b ≠ s2.heap.objs.size:=fun b hb=>by
    obtain ⟨o,e,_⟩:=T.obj _ _ st2 b hb
    exact Nat.ne_of_lt (Heap.lt_size e)
  exact lc_blockS hNd hix hLy hfy hc hosc hcap hcl hhas hg ht he I3 upd_same T (T.keep _ _ (s2.heap.push { cls:=.type "list",data:=.seq ([]:List Value).toArray }) st2 fun b _ o e=>Heap.get?_push_of_some _ e) (fun b hb=>⟨by rw [upd_ne (lt2 b hb)]; exact (f2 b hb).1,(f2 b hb).2⟩) w0 turn
end L2
namespace L2
open PySem PySem.Spec PyProof.Rows
section
variable {X:Cx} {K:PySem.W.Frag}
end
end L2
namespace L2
open PySem PySem.Spec PyProof.Rows
noncomputable def isT (a T:String):Bool:=a == T || (a == "bool" && T == "int")
section
variable {X:Cx} {K:PySem.W.Frag}
end
end L2
namespace L2
open PySem PySem.Spec PyProof.Rows
section
variable {X:Cx} {K:PySem.W.Frag}
end
end L2
namespace L2
open PySem PySem.Spec PyProof.Rows
section
variable {X:Cx} {K:PySem.W.Frag}
noncomputable def rMinT (K:PySem.W.Frag):List V→Hp→VK→Prop:=fun xs H Q=>∃ (a:Addr) (ns:List Int),xs = [.ref a] ∧ SqT K H a (ns.map V.int) ∧ ns ≠ [] ∧ ∀ m,m ∈ ns→(∀ n ∈ ns,m ≤ n)→Q (.int m) H
theorem call_minT (hK:X.K = K) (hc:X.calm = true):CallR X (.builtin "min") (rMinT K):=by
  subst hK
  intro pins s σ H xs us Q I r h
  obtain ⟨a,ns,rfl,hq,hne,q⟩:=h
  obtain ⟨u,rfl,ru⟩:=vals1 r
  cases ru
  obtain ⟨its,rv,p,hz⟩:=I.tuple hq
  have hlen:its.length = ns.length:=by rw [← rv.length,List.length_map]
  have hpos:0 < ns.length:=List.length_pos_iff.mpr hne
  have p':s.heap.IsTuple a its.toArray:=p
  have hlt:a < s.heap.objs.size:=by obtain ⟨o,e,_⟩:=p; exact Heap.lt_size e
  have hval:∀ (i:Nat) (v:Value),its.toArray[i]? = some v→∃ t,v = .int (ns.getD i 0) t:=fun i v hv=>by
    have hv:its[i]? = some v:=by simpa using hv
    obtain ⟨hi,_⟩:=List.getElem?_eq_some_iff.mp hv
    have hb:(ns.map V.int)[i]? = some (V.int (ns.getD i 0)):=by
      rw [List.getElem?_map,List.getElem?_eq_getElem (by omega)]
      simp [List.getD,List.getElem?_eq_getElem (show i < ns.length by omega)]
    obtain ⟨u,hu,ru⟩:=rv.get hb
    rw [hv] at hu
    cases hu
    exact ru
  refine call_min_walk (wpAny_pyIter_tuple p' ?_)
  have hne':a ≠ s.heap.objs.size:=Nat.ne_of_lt hlt
  refine ⟨_,_,_,_,_,_,_,rfl,Walks.tuple (A:=X.A.in1) (I.ok.hd hc) _ a hne' its.toArray,⟨⟨_,Heap.get?_push_size _ rfl,rfl,rfl⟩,?_⟩,?_,?_,CmpOf.ints_lt (fun i=>ns.getD i 0) hval,fun v h' tk hP hk=>?_⟩
  · exact p'.at fun o e=>Heap.get?_push_of_some _ e
  · intro b hb
    rw [Heap.size_push]
    have:b = s.heap.objs.size ∨ b = a:=by simpa using hb
    rcases this with e | e
    · rw [e]; exact Nat.lt_succ_self _
    · rw [e]; exact Nat.lt_succ_of_lt hlt
  · rw [List.size_toArray,hlen]; exact hpos
  · obtain ⟨h1,h2⟩:=argBest_lt (fun i=>ns.getD i 0) (its.toArray.size - 1)
    obtain ⟨t,rfl⟩:=hval _ v hP
    have hsz:its.toArray.size = ns.length:=by rw [List.size_toArray,hlen]
    refine ⟨.int _,H,I.kept fun b o e=>hk b o (by simp; exact Nat.ne_of_lt (Heap.lt_size e)) (Heap.get?_push_of_some _ e),⟨t,rfl⟩,q _ ?_ fun n hn=>?_⟩
    · exact getD_mem (by omega)
    · obtain ⟨j,hj,rfl⟩:=mem_getD hn
      exact h2 j (by omega)
end
end L2
namespace L2
open PySem PyProof.Rows
section
variable {prog:Program} {w:World} {A:Around} {E:Value→Shared→Prop} {s:Shared} {a0:Array Keyed} {κ:Nat→Int} {kd:SortKind}
end
end L2
namespace L2
open PySem PySem.Spec PyProof.Rows PySem.W
noncomputable def cdO (c:Addr) (q:Str):HO:=.ext fun h=>h.CodeRec (.ref c) q
noncomputable def TabOk (H:Hp) (P:Addr) (q:Str):Prop:=∃ ps,H P = some (.tbl ps) ∧ TriplesOk ps.toList ∧ ∀ pos cv,codeAmong pos ps.toList = some cv→∃ c,cv = .ref c ∧ H c = some (cdO c q)
noncomputable def BMd (base:Heap) (mg:Str→Option Value):Prop:=∃ bm ob,mg "__builtins__" = some (.ref bm) ∧ bm ≠ builtinsNs ∧ base.get? bm = some ob ∧ ob.cls = .type "module" ∧ ob.dict = some builtinsNs ∧ ob.data = .plain
section
variable {X:Cx} {pins:List (Addr × Obj)} {σ:St} {H:Hp} {s:Shared}
end
end L2
namespace L2
open PySem PySem.Spec PyProof.Rows PySem.W
section
variable {X:Cx} {pins:List (Addr × Obj)} {σ:St} {H:Hp} {s:Shared}
end
end L2
namespace L2
open PySem PySem.Spec PyProof.Rows PySem.W
section
variable {X:Cx} {pins:List (Addr × Obj)} {σ:St} {H:Hp} {s:Shared}
end
end L2
namespace L2
open PySem PySem.Spec PyProof.Rows PySem.W
section
variable {X:Cx} {pins:List (Addr × Obj)} {σ:St} {H:Hp} {s:Shared} {Y:Around} {E:Value→Shared→Prop} {P:PySem.Fin→Shared→Prop} {a kS:Addr} {xs ks:List V} {its:List Value} {e1:Nat}
end
end L2
namespace L2
open PySem PySem.Spec PyProof.Rows PySem.W
section
variable {X:Cx} {pins:List (Addr × Obj)} {σ:St} {H:Hp} {s:Shared} {Y:Around} {E:Value→Shared→Prop} {P:PySem.Fin→Shared→Prop} {a:Addr} {xs ks:List V} {its:List Value}
end
end L2
namespace L2
open PySem PySem.Spec PyProof.Rows PySem.W
end L2
namespace L2
open PySem PySem.Spec PyProof.Rows PySem.W
section
variable {prog:Program} {w:World} {A:Around} {E:Value→Shared→Prop} {s:Shared}
end
section
variable {X:Cx} {K:PySem.W.Frag}
end
end L2
namespace L2
end L2
namespace L3
open PySem PySem.Spec PyProof.Rows L2
noncomputable abbrev St:=L2.St
noncomputable def hid (H:Hp) (B:List Addr):Hp:=fun b=>if b ∈ B then none else H b
theorem hid_out {H:Hp} {B:List Addr} {b:Addr} (h:b ∉ B):hid H B b = H b:=by unfold hid; rw [if_neg h]
theorem hid_in {H:Hp} {B:List Addr} {b:Addr} (h:b ∈ B):hid H B b = none:=by unfold hid; rw [if_pos h]
theorem hid_same {H:Hp} {B:List Addr}:Same (hid H B) H:=fun b o e=>by
  by_cases h:b ∈ B
  · rw [hid_in h] at e; cases e
  · rwa [hid_out h] at e
theorem hid_sub {H:Hp} {B B':List Addr} (s:∀ b ∈ B',b ∈ B):Same (hid H B) (hid H B'):=fun b o e=>by
  by_cases h:b ∈ B
  · rw [hid_in h] at e; cases e
  · rw [hid_out h] at e; rw [hid_out fun z=>h (s b z)]; exact e
noncomputable def Kp (fp:List Addr) (H H':Hp):Prop:=∀ b o,H b = some o→b ∉ fp→H' b = some o
theorem Kp.refl {fp:List Addr} {H:Hp}:Kp fp H H:=fun _ _ e _=>e
theorem Kp.trans {fp:List Addr} {H H1 H2:Hp} (a:Kp fp H H1) (b:Kp fp H1 H2):Kp fp H H2:=fun c o e n=>b c o (a c o e n) n
theorem Kp.same {fp:List Addr} {H H':Hp} (s:Same H H'):Kp fp H H':=fun b o e _=>s b o e
theorem Kp.upd {fp:List Addr} {H:Hp} {p:Addr} {o:HO} (hp:H p = none):Kp fp H (upd H p o):=Kp.same (Same.upd hp)
theorem Kp.hid {fp B:List Addr} {H H':Hp} (k:Kp fp H H') (s:∀ b ∈ fp,b ∈ B):Same (hid H B) (hid H' B):=fun b o e=>by
  by_cases h:b ∈ B
  · rw [hid_in h] at e; cases e
  · rw [hid_out h] at e ⊢; exact k b o e fun z=>h (s b z)
theorem hid_upd {H:Hp} {B:List Addr} {a:Addr} {o:HO} (h:a ∈ B):hid (upd H a o) B = hid H B:=by
  funext b
  by_cases hb:b ∈ B
  · rw [hid_in hb,hid_in hb]
  · rw [hid_out hb,hid_out hb,upd_ne]; intro e; subst e; exact hb h
noncomputable def DatSh (K:PySem.W.Frag) (fp B:List Addr) (H:Hp):PyData→V→Prop
  | .tuple ds,v=>∃ a xs,v = .ref a ∧ SqT K (hid H B) a xs ∧ DatsAre K (hid H B) ds xs
  | .list ds,v=>∃ a xs,v = .ref a ∧ hid H fp a = some (.lst xs) ∧ DatsAre K (hid H B) ds xs
  | .none,v=>v = .non
  | .bool b,v=>v = .bl b
  | .int i,v=>v = .int i
  | .str x,v=>v = .str x
  | .dict _,_=>False
section
variable {K:PySem.W.Frag} {fp B:List Addr} {H H':Hp} {d:PyData} {v:V}
theorem sh_of (h:DatIs K (hid H B) d v) (s:∀ b ∈ fp,b ∈ B):DatSh K fp B H d v:=by
  cases d with
  | tuple ds =>
    simp only [DatIs] at h
    obtain ⟨a,xs,e,hq,hd⟩:=h
    exact ⟨a,xs,e,hq,hd⟩
  | list ds =>
    simp only [DatIs] at h
    obtain ⟨a,xs,e,hq,hd⟩:=h
    exact ⟨a,xs,e,hid_sub s _ _ hq,hd⟩
  | _=>simpa only [DatIs,DatSh] using h
theorem DatSh.dat (h:DatSh K fp B H d v):DatIs K H d v:=by
  cases d with
  | tuple ds =>
    obtain ⟨a,xs,e,hq,hd⟩:=h
    simp only [DatIs]
    exact ⟨a,xs,e,hq.same hid_same,hd.same hid_same⟩
  | list ds =>
    obtain ⟨a,xs,e,hq,hd⟩:=h
    simp only [DatIs]
    exact ⟨a,xs,e,hid_same _ _ hq,hd.same hid_same⟩
  | _=>simpa only [DatIs,DatSh] using h
theorem DatSh.step (h:DatSh K fp B H d v) (k:Kp fp H H') (s:∀ b ∈ fp,b ∈ B):DatSh K fp B H' d v:=by
  have sm:=k.hid s
  have sf:=k.hid (B:=fp) fun _ z=>z
  cases d with
  | tuple ds =>
    obtain ⟨a,xs,e,hq,hd⟩:=h
    exact ⟨a,xs,e,hq.same sm,hd.same sm⟩
  | list ds =>
    obtain ⟨a,xs,e,hq,hd⟩:=h
    exact ⟨a,xs,e,sf _ _ hq,hd.same sm⟩
  | _=>exact h
theorem DatSh.tup {ds:List PyData} (h:DatSh K fp B H (.tuple ds) v):DatIs K (hid H B) (.tuple ds) v:=by
  obtain ⟨a,xs,e,hq,hd⟩:=h
  simp only [DatIs]
  exact ⟨a,xs,e,hq,hd⟩
noncomputable def BOk (H:Hp) (B:List Addr):Prop:=∀ b ∈ B,∃ o,H b = some o
theorem BOk.nin (h:BOk H B) {p:Addr} (hp:H p = none):p ∉ B:=fun z=>by
  obtain ⟨o,e⟩:=h p z; rw [hp] at e; cases e
theorem new_tup {p:Addr} {ds:List PyData} {xs:List V} (bk:BOk H B) (hp:H p = none) (h:DatsAre K (hid H B) ds xs):DatIs K (hid (upd H p (.tup xs)) B) (.tuple ds) (.ref p):=by
  have e:Same (hid H B) (hid (upd H p (.tup xs)) B):=(Kp.upd (fp:=[]) hp).hid (by simp)
  refine DatIs.tup ?_ (h.same e)
  rw [hid_out (bk.nin hp)]; exact upd_same
theorem new_lst {p:Addr} {ds:List PyData} {xs:List V} (bk:BOk H B) (hp:H p = none) (h:DatsAre K (hid H B) ds xs):DatIs K (hid (upd H p (.lst xs)) B) (.list ds) (.ref p):=by
  have e:Same (hid H B) (hid (upd H p (.lst xs)) B):=(Kp.upd (fp:=[]) hp).hid (by simp)
  refine DatIs.lst ?_ (h.same e)
  rw [hid_out (bk.nin hp)]; exact upd_same
end
noncomputable def NoT (o:HO):Prop:=(∀ ps,o ≠ .tbl ps) ∧ ∀ φ,o ≠ .ext φ
class Feeds where
  S:Type
  At:Addr→Addr→Hp→S→Prop
  some1:∀ {d c H F},At d c H F→∃ o,H d = some o ∧ NoT o
  some2:∀ {d c H F},At d c H F→∃ o,H c = some o ∧ NoT o
  congr:∀ {d c H H' F},At d c H F→H' d = H d→H' c = H c→At d c H' F
  lam:List Str
noncomputable abbrev GF:=Option (Addr × Addr)
noncomputable def tabsK (l:List Str) (K:PySem.W.Frag):List (Str × Addr × Addr):=l.filterMap fun x=>(PySem.W.tabIn K x).map fun p=>(x,p)
noncomputable def lamQ (x:Str):Str:=x ++ ".<locals>." ++ "<lambda>"
noncomputable def TabsOk (ts:List (Str × Addr × Addr)) (H:Hp):Prop:=∀ t ∈ ts,TabOk H t.2.2 (lamQ t.1)
theorem TabsOk.congr {ts:List (Str × Addr × Addr)} {H H':Hp} (h:TabsOk ts H) (e:∀ b,(b ∈ ts.map (·.2.2) ∨ ∃ φ,H b = some (.ext φ))→H' b = H b):TabsOk ts H':=fun t ht=>by
  obtain ⟨ps,h1,h2,h3⟩:=h t ht
  refine ⟨ps,(e _ (.inl (List.mem_map_of_mem ht))).trans h1,h2,fun pos cv q=>?_⟩
  obtain ⟨c,r1,r2⟩:=h3 pos cv q
  exact ⟨c,r1,(e c (.inr ⟨_,r2⟩)).trans r2⟩
theorem TabsOk.but {ts:List (Str × Addr × Addr)} {H H':Hp} {d:Addr} {o0:HO} (h:TabsOk ts H) (hd:H d = some o0) (hn:NoT o0) (kp:∀ b o,H b = some o→b ≠ d→H' b = some o):TabsOk ts H':=h.congr fun b hb=>by
  obtain ⟨o,e,hne⟩:∃ o,H b = some o ∧ b ≠ d:=by
    rcases hb with hb | ⟨φ,e⟩
    · obtain ⟨t,ht,rfl⟩:=List.mem_map.mp hb
      obtain ⟨ps,e,_⟩:=h t ht
      exact ⟨_,e,fun z=>by rw [z,hd] at e; exact hn.1 ps (Option.some.inj e)⟩
    · exact ⟨_,e,fun z=>by rw [z,hd] at e; exact hn.2 φ (Option.some.inj e)⟩
  rw [e]; exact kp b o e hne
section
variable [Feeds]
noncomputable def tabP (K:PySem.W.Frag):List Addr:=(tabsK Feeds.lam K).map (·.2.2)
noncomputable def fpOf (K:PySem.W.Frag):GF→List Addr
  | none=>tabP K
  | some (d,c)=>d :: c :: tabP K
theorem fp_tab {K:PySem.W.Frag} {G:GF} {b:Addr} (h:b ∈ tabP K):b ∈ fpOf K G:=by
  cases G with
  | none=>exact h
  | some p=>exact List.mem_cons_of_mem _ (List.mem_cons_of_mem _ h)
noncomputable abbrev FS:=Feeds.S
noncomputable abbrev M (α:Type):=FS→Option (α × FS)
noncomputable def FdAt (G:GF) (H:Hp) (F:FS):Prop:=match G with
  | none=>True
  | some (d,c)=>Feeds.At d c H F
noncomputable def FAt (K:PySem.W.Frag) (G:GF) (H:Hp) (F:FS):Prop:=FdAt G H F ∧ TabsOk (tabsK Feeds.lam K) H
theorem FAt.bok {K:PySem.W.Frag} {G:GF} {H:Hp} {F:FS} (h:FAt K G H F):BOk H (fpOf K G):=fun b hb=>by
  have tb:b ∈ tabP K→∃ o,H b = some o:=fun z=>by
    obtain ⟨t,ht,rfl⟩:=List.mem_map.mp z
    obtain ⟨ps,h1,_⟩:=h.2 t ht
    exact ⟨_,h1⟩
  cases G with
  | none=>exact tb hb
  | some p =>
    obtain ⟨d,c⟩:=p
    simp only [fpOf,List.mem_cons] at hb
    rcases hb with rfl | rfl | hb
    · obtain ⟨o,e,_⟩:=Feeds.some1 h.1; exact ⟨o,e⟩
    · obtain ⟨o,e,_⟩:=Feeds.some2 h.1; exact ⟨o,e⟩
    · exact tb hb
theorem FAt.congr {K:PySem.W.Frag} {G:GF} {H H':Hp} {F:FS} (h:FAt K G H F) (e:∀ b,(b ∈ fpOf K G ∨ ∃ φ,H b = some (.ext φ))→H' b = H b):FAt K G H' F:=by
  refine ⟨?_,h.2.congr fun b hb=>e b (hb.imp fp_tab id)⟩
  cases G with
  | none=>trivial
  | some p =>
    obtain ⟨d,c⟩:=p
    exact Feeds.congr h.1 (e d (.inl (by simp [fpOf]))) (e c (.inl (by simp [fpOf])))
theorem FAt.same {K:PySem.W.Frag} {G:GF} {H H':Hp} {F:FS} (h:FAt K G H F) (s:Same H H'):FAt K G H' F:=h.congr fun b hb=>by
  rcases hb with hb | ⟨φ,e⟩
  · obtain ⟨o,e⟩:=h.bok b hb
    rw [e]; exact s b o e
  · rw [e]; exact s b _ e
inductive DV where
  | dat (d:PyData) | feed | own (ds:List PyData) | fn (x:Str) | adr (a:Addr)
noncomputable abbrev DE:=List (Option DV)
noncomputable def DVr (K:PySem.W.Frag) (G:GF) (B:List Addr) (H:Hp):DV→V→Prop
  | .dat d,v=>DatIs K (hid H B) d v
  | .feed,v=>∃ d c,G = some (d,c) ∧ v = .ref d
  | .fn x,v=>∃ a,v = .ref a ∧ PySem.W.nsIn K mainGlobals x = some (some (.ref a))
  | .adr a,v=>v = .ref a
  | .own ds,v=>∃ a xs,v = .ref a ∧ a ∈ B ∧ a ∉ fpOf K G ∧ H a = some (.lst xs) ∧ DatsAre K (hid H B) ds xs
structure SitE (K:PySem.W.Frag) (G:GF) (B:List Addr) (E:DE) (F:FS) (σ:St) (H:Hp):Prop where
  fd:FAt K G H F
  fB:∀ b ∈ fpOf K G,b ∈ B
  bk:BOk H B
  ln:E.length = σ.length
  loc:∀ (i:Nat) (x:DV),E[i]? = some (some x)→∃ v,σ[i]? = some (some v) ∧ DVr K G B H x v
section
variable {K:PySem.W.Frag} {G:GF} {B:List Addr} {E:DE} {F F':FS} {σ:St} {H H':Hp}
theorem bok_step (bk:BOk H B) (k:Kp (fpOf K G) H H') (f:FAt K G H' F'):BOk H' B:=fun b hb=>by
  by_cases h:b ∈ fpOf K G
  · exact f.bok b h
  · obtain ⟨o,e⟩:=bk b hb
    exact ⟨o,k b o e h⟩
theorem DVr.step {x:DV} {v:V} (h:DVr K G B H x v) (k:Kp (fpOf K G) H H') (fB:∀ b ∈ fpOf K G,b ∈ B):DVr K G B H' x v:=by
  cases x with
  | dat d=>exact DatIs.same (h:DatIs _ _ _ _) (k.hid fB)
  | feed=>exact h
  | fn _=>exact h
  | adr _=>exact h
  | own ds =>
    obtain ⟨a,xs,e,hB,hf,ha,hd⟩:=h
    exact ⟨a,xs,e,hB,hf,k a _ ha hf,hd.same (k.hid fB)⟩
theorem SitE.step (I:SitE K G B E F σ H) (k:Kp (fpOf K G) H H') (f:FAt K G H' F'):SitE K G B E F' σ H' :=
  ⟨f,I.fB,bok_step I.bk k f,I.ln,fun i x e=>by
    obtain ⟨v,h1,h2⟩:=I.loc i x e
    exact ⟨v,h1,h2.step k I.fB⟩⟩
end
end
end L3
namespace L3
open PySem PySem.Spec PyProof.Rows L2
section
variable [Feeds]
noncomputable def TEd (K:PySem.W.Frag) (te:TE) (m:DE→M PyData):Prop:=∀ (G:GF) (B:List Addr) (E:DE) (F:FS) (σ:St) (H:Hp) (Q:VK) (d:PyData) (F':FS),SitE K G B E F σ H→m E F = some (d,F') →
  (∀ v H',Kp (fpOf K G) H H'→FAt K G H' F'→DatIs K (hid H' B) d v→Q v H')→te σ H Q
noncomputable def TEs (K:PySem.W.Frag) (te:TE) (m:DE→M PyData):Prop:=∀ (G:GF) (B:List Addr) (E:DE) (F:FS) (σ:St) (H:Hp) (Q:VK) (d:PyData) (F':FS),SitE K G B E F σ H→m E F = some (d,F') →
  (∀ v H',Kp (fpOf K G) H H'→FAt K G H' F'→DatSh K (fpOf K G) B H' d v→Q v H')→te σ H Q
theorem TEd.sh {K:PySem.W.Frag} {te:TE} {m:DE→M PyData} (h:TEd K te m):TEs K te m:=fun G B E F σ H Q d F' I e q=>h G B E F σ H Q d F' I e fun v H' k f hd=>q v H' k f (sh_of hd I.fB)
noncomputable def TTd (K:PySem.W.Frag) (tt:TT) (m:DE→M Bool):Prop:=∀ (G:GF) (B:List Addr) (E:DE) (F:FS) (σ:St) (H:Hp) (Q:Bool→Hp→Prop) (b:Bool) (F':FS),SitE K G B E F σ H→m E F = some (b,F') →
  (∀ H',Kp (fpOf K G) H H'→FAt K G H' F'→Q b H')→tt σ H Q
noncomputable def TAd (K:PySem.W.Frag) (ta:TA) (m:DE→M (List PyData)):Prop:=∀ (G:GF) (B:List Addr) (E:DE) (F:FS) (σ:St) (H:Hp) (Q:List V→Hp→Prop) (ds:List PyData) (F':FS),SitE K G B E F σ H→m E F = some (ds,F') →
  (∀ vs H',Kp (fpOf K G) H H'→FAt K G H' F'→DatsAre K (hid H' B) ds vs→Q vs H')→ta σ H Q
noncomputable def DatShs (K:PySem.W.Frag) (fp B:List Addr) (H:Hp):List PyData→List V→Prop
  | [],vs=>vs = []
  | d :: ds,vs=>∃ v r,vs = v :: r ∧ DatSh K fp B H d v ∧ DatShs K fp B H ds r
noncomputable def TAs (K:PySem.W.Frag) (ta:TA) (m:DE→M (List PyData)):Prop:=∀ (G:GF) (B:List Addr) (E:DE) (F:FS) (σ:St) (H:Hp) (Q:List V→Hp→Prop) (ds:List PyData) (F':FS),SitE K G B E F σ H→m E F = some (ds,F') →
  (∀ vs H',Kp (fpOf K G) H H'→FAt K G H' F'→DatShs K (fpOf K G) B H' ds vs→Q vs H')→ta σ H Q
structure Ev (K:PySem.W.Frag) (X:Cx) (e:Expr) (te:TE) (m:DE→M PyData):Prop where
  pe:PE X e te
  ok:TEd K te m
structure Eb (K:PySem.W.Frag) (X:Cx) (e:Expr) (te:TE) (m:DE→M PyData):Prop where
  pe:PE X e te
  ok:TEs K te m
structure Et (K:PySem.W.Frag) (X:Cx) (e:Expr) (tt:TT) (m:DE→M Bool):Prop where
  pt:PT X e tt
  ok:TTd K tt m
structure Ew (K:PySem.W.Frag) (X:Cx) (e:Expr) (tt:TT) (m:DE→M Bool):Prop where
  pw:PW X e tt
  ok:TTd K tt m
structure Ea (K:PySem.W.Frag) (X:Cx) (es:List Expr) (ta:TA) (m:DE→M (List PyData)):Prop where
  pa:PA X es ta
  ok:TAd K ta m
structure Es (K:PySem.W.Frag) (X:Cx) (es:List Expr) (ta:TA) (m:DE→M (List PyData)):Prop where
  pa:PA X es ta
  ok:TAs K ta m
variable {K:PySem.W.Frag} {X:Cx} {a b c e:Expr} {es:List Expr} {ta tb tc te:TE} {ma mb mc m:DE→M PyData} {pos:Pos}
theorem Ev.bw (h:Ev K X e te m):Eb K X e te m:=⟨h.pe,h.ok.sh⟩
noncomputable def sC (d:PyData):DE→M PyData:=fun _ F=>some (d,F)
noncomputable def sV (i:Nat):DE→M PyData:=fun E F=>match E[i]? with
  | some (some (.dat d))=>some (d,F)
  | _=>none
noncomputable def sW (i:Nat):DE→M PyData:=fun E F=>match E[i]? with
  | some (some (.dat d))=>some (d,F)
  | some (some (.own ds))=>some (.list ds,F)
  | _=>none
theorem tc_d {d:PyData} {v:V} (h:∀ H,DatIs K H d v):TEd K (tC v) (sC d):=fun G B E F σ H Q d' F' I e q=>by
  cases e
  exact q v H Kp.refl I.fd (h _)
theorem ev_int {i j}:Ev K X (.Constant (.int i) j pos) (tC (.int i)) (sC (.int i)):=⟨pe_int,tc_d fun _=>DatIs.int⟩
theorem ev_bl {x j}:Ev K X (.Constant (.bool x) j pos) (tC (.bl x)) (sC (.bool x)):=⟨pe_bl,tc_d fun _=>DatIs.bl⟩
theorem ev_non {j}:Ev K X (.Constant .none j pos) (tC .non) (sC .none):=⟨pe_non,tc_d fun _=>DatIs.non⟩
theorem ev_str {x j}:Ev K X (.Constant (.str x) j pos) (tC (.str x)) (sC (.str x)):=⟨pe_str,tc_d fun _=>DatIs.st⟩
theorem var_d (i:Nat):TEd K (tVar i) (sV i):=fun G B E F σ H Q d F' I e q=>by
  unfold sV at e
  split at e
  · rename_i x hx
    cases e
    obtain ⟨v,h1,h2⟩:=I.loc i _ hx
    exact ⟨v,h1,q v H Kp.refl I.fd h2⟩
  · cases e
theorem var_s (i:Nat):TEs K (tVar i) (sW i):=fun G B E F σ H Q d F' I e q=>by
  unfold sW at e
  split at e
  · rename_i x hx
    cases e
    obtain ⟨v,h1,h2⟩:=I.loc i _ hx
    exact ⟨v,h1,q v H Kp.refl I.fd (sh_of h2 I.fB)⟩
  · rename_i x hx
    cases e
    obtain ⟨v,h1,h2⟩:=I.loc i _ hx
    refine ⟨v,h1,q v H Kp.refl I.fd ?_⟩
    obtain ⟨p,xs,rfl,hB,hf,hp,hd⟩:=h2
    exact ⟨p,xs,rfl,by rw [hid_out hf]; exact hp,hd⟩
  · cases e
theorem ev_v (i:Nat) {x:Str} (hN:X.N[i]? = some x:=by rfl) (hv:Vis X.env.scope x:=by first | exact Or.inl rfl | exact Or.inr (Or.inl rfl) | exact Or.inr (Or.inr rfl)) (hd:(x == ("__debug__":Str)) = false:=by decide)
    (hcd:(x == ("__classdict__":Str)) = false:=by decide):Ev K X (.Name x pos) (tVar i) (sV i):=⟨pe_var hN hv hd hcd,var_d i⟩
theorem eb_v (i:Nat) {x:Str} (hN:X.N[i]? = some x:=by rfl) (hv:Vis X.env.scope x:=by first | exact Or.inl rfl | exact Or.inr (Or.inl rfl) | exact Or.inr (Or.inr rfl)) (hd:(x == ("__debug__":Str)) = false:=by decide)
    (hcd:(x == ("__classdict__":Str)) = false:=by decide):Eb K X (.Name x pos) (tVar i) (sW i):=⟨pe_var hN hv hd hcd,var_s i⟩
noncomputable def rD1 (K:PySem.W.Frag) (f:PyData→Option PyData):V→Hp→VK→Prop:=fun x H Q=>∃ fp B d r,BOk H B ∧ DatSh K fp B H d x ∧ f d = some r ∧ ∀ v H',Same H H'→DatIs K (hid H' B) r v→Q v H'
noncomputable def rD2 (K:PySem.W.Frag) (f:PyData→PyData→Option PyData):R2:=fun x y H Q=>∃ fp B d e r,BOk H B ∧ DatSh K fp B H d x ∧ DatSh K fp B H e y ∧ f d e = some r ∧ ∀ v H',Same H H'→DatIs K (hid H' B) r v→Q v H'
noncomputable def rDN (K:PySem.W.Frag) (f:List PyData→Option PyData):List V→Hp→VK→Prop:=fun xs H Q=>∃ fp B ds r,BOk H B ∧ DatShs K fp B H ds xs ∧ f ds = some r ∧ ∀ v H',Same H H'→DatIs K (hid H' B) r v→Q v H'
noncomputable def s1 (f:PyData→Option PyData) (a:DE→M PyData):DE→M PyData:=fun E F=>(a E F).bind fun p=>(f p.1).bind fun z=>some (z,p.2)
noncomputable def s2 (f:PyData→PyData→Option PyData) (a b:DE→M PyData):DE→M PyData:=fun E F=>(a E F).bind fun p=>(b E p.2).bind fun q=>(f p.1 q.1).bind fun z=>some (z,q.2)
noncomputable def sN (f:List PyData→Option PyData) (a:DE→M (List PyData)):DE→M PyData:=fun E F=>(a E F).bind fun p=>(f p.1).bind fun z=>some (z,p.2)
theorem op1_d {f:PyData→Option PyData} (ha:TEs K ta ma):TEd K (tUn (rD1 K f) ta) (s1 f ma):=fun G B E F σ H Q d F' I e q=>by
  obtain ⟨⟨x,F1⟩,e1,e⟩:=Option.bind_eq_some_iff.mp e
  obtain ⟨z,e2,e⟩:=Option.bind_eq_some_iff.mp e
  cases e
  refine ha G B E F σ H _ x F1 I e1 fun v H1 k1 f1 h1=>⟨fpOf K G,B,x,_,bok_step I.bk k1 f1,h1,e2,fun w H2 s hw=>q w H2 (k1.trans (Kp.same s)) (f1.same s) hw⟩
theorem op2_d {f:PyData→PyData→Option PyData} (ha:TEs K ta ma) (hb:TEs K tb mb):TEd K (tOp (rD2 K f) ta tb) (s2 f ma mb):=fun G B E F σ H Q d F' I e q=>by
  obtain ⟨⟨x,F1⟩,e1,e⟩:=Option.bind_eq_some_iff.mp e
  obtain ⟨⟨y,F2⟩,e2,e⟩:=Option.bind_eq_some_iff.mp e
  obtain ⟨z,e3,e⟩:=Option.bind_eq_some_iff.mp e
  cases e
  refine ha G B E F σ H _ x F1 I e1 fun v H1 k1 f1 h1=>?_
  refine hb G B E F1 σ H1 _ y F2 (I.step k1 f1) e2 fun w H2 k2 f2 h2=>⟨fpOf K G,B,x,y,_,bok_step I.bk (k1.trans k2) f2,h1.step k2 I.fB,h2,e3,fun u H3 s hu=>q u H3 ((k1.trans k2).trans (Kp.same s)) (f2.same s) hu⟩
theorem opN_d {f:List PyData→Option PyData} {t:TA} {ms:DE→M (List PyData)} (ha:TAs K t ms):TEd K (tCB (rDN K f) t) (sN f ms):=fun G B E F σ H Q d F' I e q=>by
  obtain ⟨⟨x,F1⟩,e1,e⟩:=Option.bind_eq_some_iff.mp e
  obtain ⟨z,e2,e⟩:=Option.bind_eq_some_iff.mp e
  cases e
  exact ha G B E F σ H _ x F1 I e1 fun vs H1 k1 f1 h1=>⟨fpOf K G,B,x,_,bok_step I.bk k1 f1,h1,e2,fun w H2 s hw=>q w H2 (k1.trans (Kp.same s)) (f1.same s) hw⟩
theorem ev_op {op:Operator} {f:PyData→PyData→Option PyData} (ho:OpR X (binaryOp op) (rD2 K f)) (ha:Eb K X a ta ma) (hb:Eb K X b tb mb):Ev K X (.BinOp a op b pos) (tOp (rD2 K f) ta tb) (s2 f ma mb):=⟨pe_op ho ha.pe hb.pe,op2_d ha.ok hb.ok⟩
theorem ev_un {op:UnaryOp} {f:PyData→Option PyData} (ho:UnR X (unaryOp op) (rD1 K f)) (ha:Eb K X a ta ma):Ev K X (.UnaryOp op a pos) (tUn (rD1 K f) ta) (s1 f ma):=⟨pe_un ho ha.pe,op1_d ha.ok⟩
theorem ev_cmp {op:CmpOp} {f:PyData→PyData→Option PyData} (ho:OpR X (compareOp op) (rD2 K f)) (ha:Eb K X a ta ma) (hb:Eb K X b tb mb) (hm:behindInMarks op b = false:=by first | exact nomark _ | rfl):Ev K X (.Compare a [op] [b] pos) (tOp (rD2 K f) ta tb) (s2 f ma mb):=⟨pe_cmpR ho ha.pe hb.pe hm,op2_d ha.ok hb.ok⟩
theorem ev_ix {f:PyData→PyData→Option PyData} (hr:IxR X (rD2 K f)) (ha:Eb K X a ta ma) (hb:Eb K X b tb mb) (hs:PlainIx b:=by intro _ _; rfl):Ev K X (.Subscript a b pos) (tOp (rD2 K f) ta tb) (s2 f ma mb):=⟨pe_ix hr ha.pe hb.pe hs,op2_d ha.ok hb.ok⟩
theorem ev_callB {f:List PyData→Option PyData} {id:String} {x:Str} {p:Pos} {t:TA} {ms:DE→M (List PyData)} (hc:CallR X (.builtin id) (rDN K f)) (hm:X.mg x = none) (hv:bootBuiltins x = some (.builtin id)) (ha:Es K X (e :: es) t ms) (hg:Gl X x:=by rfl) (hn:x ≠ "__name__":=by decide) (hdb:(x == ("__debug__":Str)) = false:=by decide)
    (he:starEach (e :: es) X.env = (false,eval e X.env) :: starEach es X.env:=by rfl) (hpl:(backTo pos (starEach es X.env)).any (·.1) = false:=by rfl):Ev K X (.Call (.Name x p) (e :: es) [] pos) (tCB (rDN K f) t) (sN f ms):=⟨pe_callB hc hg hm hv ha.pa hn hdb he hpl,opN_d ha.ok⟩
theorem ev_callT {f:List PyData→Option PyData} {T:String} {x:Str} {p:Pos} {t:TA} {ms:DE→M (List PyData)} (hc:CallR X (.type T) (rDN K f)) (hm:X.mg x = none) (hv:bootBuiltins x = some (.type T)) (ha:Es K X (e :: es) t ms) (hg:Gl X x:=by rfl) (hn:x ≠ "__name__":=by decide) (hdb:(x == ("__debug__":Str)) = false:=by decide)
    (he:starEach (e :: es) X.env = (false,eval e X.env) :: starEach es X.env:=by rfl) (hpl:(backTo pos (starEach es X.env)).any (·.1) = false:=by rfl):Ev K X (.Call (.Name x p) (e :: es) [] pos) (tCB (rDN K f) t) (sN f ms):=⟨pe_callTy hc hg hm hv ha.pa hn hdb he hpl,opN_d ha.ok⟩
noncomputable def sNil:DE→M (List PyData):=fun _ F=>some ([],F)
noncomputable def sCons (a:DE→M PyData) (r:DE→M (List PyData)):DE→M (List PyData):=fun E F=>(a E F).bind fun p=>(r E p.2).bind fun q=>some (p.1 :: q.1,q.2)
theorem ea_nil:Ea K X [] tNil sNil:=⟨pa_nil,fun G B E F σ H Q ds F' I e q=>by cases e; exact q [] H Kp.refl I.fd DatsAre.nil⟩
theorem ea_cons {t:TA} {ms:DE→M (List PyData)} (ha:Ev K X e te m) (hr:Ea K X es t ms) (hs:starEach (e :: es) X.env = (false,eval e X.env) :: starEach es X.env:=by rfl):Ea K X (e :: es) (tCons te t) (sCons m ms) :=
  ⟨pa_cons ha.pe hr.pa hs,fun G B E F σ H Q ds F' I e q=>by
    obtain ⟨⟨x,F1⟩,e1,e⟩:=Option.bind_eq_some_iff.mp e
    obtain ⟨⟨ys,F2⟩,e2,e⟩:=Option.bind_eq_some_iff.mp e
    cases e
    refine ha.ok G B E F σ H _ x F1 I e1 fun v H1 k1 f1 h1=>?_
    refine hr.ok G B E F1 σ H1 _ ys F2 (I.step k1 f1) e2 fun vs H2 k2 f2 h2=>q _ H2 (k1.trans k2) f2 (.cons (h1.same (k2.hid I.fB)) h2)⟩
theorem es_nil:Es K X [] tNil sNil:=⟨pa_nil,fun G B E F σ H Q ds F' I e q=>by cases e; exact q [] H Kp.refl I.fd rfl⟩
theorem es_cons {t:TA} {ms:DE→M (List PyData)} (ha:Eb K X e te m) (hr:Es K X es t ms) (hs:starEach (e :: es) X.env = (false,eval e X.env) :: starEach es X.env:=by rfl):Es K X (e :: es) (tCons te t) (sCons m ms) :=
  ⟨pa_cons ha.pe hr.pa hs,fun G B E F σ H Q ds F' I e q=>by
    obtain ⟨⟨x,F1⟩,e1,e⟩:=Option.bind_eq_some_iff.mp e
    obtain ⟨⟨ys,F2⟩,e2,e⟩:=Option.bind_eq_some_iff.mp e
    cases e
    refine ha.ok G B E F σ H _ x F1 I e1 fun v H1 k1 f1 h1=>?_
    refine hr.ok G B E F1 σ H1 _ ys F2 (I.step k1 f1) e2 fun vs H2 k2 f2 h2=>q _ H2 (k1.trans k2) f2 ⟨v,vs,rfl,h1.step k2 I.fB,h2⟩⟩
noncomputable def sTup (a:DE→M (List PyData)):DE→M PyData:=fun E F=>(a E F).bind fun p=>if p.1.length ≤ sizeLine then some (.tuple p.1,p.2) else none
noncomputable def sLst (a:DE→M (List PyData)):DE→M PyData:=fun E F=>(a E F).bind fun p=>if p.1.length ≤ sizeLine then some (.list p.1,p.2) else none
theorem ev_tup {k} {t:TA} {ms:DE→M (List PyData)} (h:Ea K X es t ms):Ev K X (.Tuple es k pos) (tTup t) (sTup ms):=⟨pe_tup h.pa,fun G B E F σ H Q d F' I e q=>by
  obtain ⟨⟨x,F1⟩,e1,e⟩:=Option.bind_eq_some_iff.mp e
  split at e
  · rename_i hl
    cases e
    refine h.ok G B E F σ H _ x F1 I e1 fun vs H1 k1 f1 h1=>⟨by rw [h1.length]; exact hl,fun p hp=>q _ _ (k1.trans (Kp.upd hp)) (f1.same (Same.upd hp)) (new_tup (bok_step I.bk k1 f1) hp h1)⟩
  · cases e⟩
theorem ev_lst {t:TA} {ms:DE→M (List PyData)} (h:Ea K X es t ms):Ev K X (.List es pos) (tLst t) (sLst ms):=⟨pe_lst h.pa,fun G B E F σ H Q d F' I e q=>by
  obtain ⟨⟨x,F1⟩,e1,e⟩:=Option.bind_eq_some_iff.mp e
  split at e
  · rename_i hl
    cases e
    refine h.ok G B E F σ H _ x F1 I e1 fun vs H1 k1 f1 h1=>⟨by rw [h1.length]; exact hl,fun p hp=>q _ _ (k1.trans (Kp.upd hp)) (f1.same (Same.upd hp)) (new_lst (bok_step I.bk k1 f1) hp h1)⟩
  · cases e⟩
noncomputable def boolOf:PyData→Option Bool
  | .bool b=>some b
  | _=>none
theorem boolOf_some {d:PyData} {b:Bool} (h:boolOf d = some b):d = .bool b:=by
  cases d <;> simp [boolOf] at h
  rw [h]
noncomputable def sAnd (a b:DE→M PyData):DE→M PyData:=fun E F=>(a E F).bind fun p=>(boolOf p.1).bind fun c=>if c = true then b E p.2 else some (.bool false,p.2)
theorem ev_one {op} (h:Ev K X a te m):Ev K X (.BoolOp op [a] pos) te m:=⟨pe_one h.pe,h.ok⟩
theorem ev_and {rest:List Expr} (ha:Ev K X a ta ma) (hb:Ev K X (.BoolOp .And (b :: rest) pos) tb mb):Ev K X (.BoolOp .And (a :: b :: rest) pos) (tAndV ta tb) (sAnd ma mb):=⟨pe_and ha.pe hb.pe,fun G B E F σ H Q d F' I e q=>by
  obtain ⟨⟨x,F1⟩,e1,e⟩:=Option.bind_eq_some_iff.mp e
  obtain ⟨c,e2,e⟩:=Option.bind_eq_some_iff.mp e
  refine ha.ok G B E F σ H _ x F1 I e1 fun v H1 k1 f1 h1=>?_
  have:=boolOf_some e2
  simp only at this
  subst this
  simp only [DatIs] at h1
  refine ⟨c,h1,?_⟩
  cases c with
  | true=>exact hb.ok G B E F1 σ H1 _ d F' (I.step k1 f1) e fun w H2 k2 f2 h2=>q w H2 (k1.trans k2) f2 h2
  | false=>cases e; exact q _ H1 k1 f1 DatIs.bl⟩
noncomputable def sIf (c:DE→M Bool) (a b:DE→M PyData):DE→M PyData:=fun E F=>(c E F).bind fun p=>if p.1 = true then a E p.2 else b E p.2
theorem ev_if {tt:TT} {mt:DE→M Bool} (hc:Et K X c tt mt) (ha:Ev K X a ta ma) (hb:Ev K X b tb mb):Ev K X (.IfExp c a b pos) (tIf tt ta tb) (sIf mt ma mb):=⟨pe_ifExp hc.pt ha.pe hb.pe,fun G B E F σ H Q d F' I e q=>by
  obtain ⟨⟨x,F1⟩,e1,e⟩:=Option.bind_eq_some_iff.mp e
  refine hc.ok G B E F σ H _ x F1 I e1 fun H1 k1 f1=>?_
  cases x with
  | true=>exact ha.ok G B E F1 σ H1 _ d F' (I.step k1 f1) e fun w H2 k2 f2 h2=>q w H2 (k1.trans k2) f2 h2
  | false=>exact hb.ok G B E F1 σ H1 _ d F' (I.step k1 f1) e fun w H2 k2 f2 h2=>q w H2 (k1.trans k2) f2 h2⟩
variable {tA tB:TT} {na nb:DE→M Bool}
noncomputable def uB (a:DE→M PyData):DE→M Bool:=fun E F=>(a E F).bind fun p=>(boolOf p.1).bind fun c=>some (c,p.2)
noncomputable def uOr (a b:DE→M Bool):DE→M Bool:=fun E F=>(a E F).bind fun p=>if p.1 = true then some (true,p.2) else b E p.2
noncomputable def uNot (a:DE→M Bool):DE→M Bool:=fun E F=>(a E F).bind fun p=>some (!p.1,p.2)
theorem et_cmp {op:CmpOp} {f:PyData→PyData→Option PyData} (ho:OpR X (compareOp op) (rD2 K f)) (ha:Eb K X a ta ma) (hb:Eb K X b tb mb) (hm:behindInMarks op b = false:=by first | exact nomark _ | rfl):Et K X (.Compare a [op] [b] pos) (tTest (tOp (rD2 K f) ta tb)) (uB (s2 f ma mb)) :=
  ⟨pt_cmpR ho ha.pe hb.pe hm,fun G B E F σ H Q d F' I e q=>by
    obtain ⟨⟨x,F1⟩,e1,e⟩:=Option.bind_eq_some_iff.mp e
    obtain ⟨c,e2,e⟩:=Option.bind_eq_some_iff.mp e
    cases e
    refine op2_d ha.ok hb.ok G B E F σ H _ x F1 I e1 fun v H1 k1 f1 h1=>?_
    have:=boolOf_some e2
    simp only at this
    subst this
    simp only [DatIs] at h1
    exact ⟨_,h1,q H1 k1 f1⟩⟩
theorem ew_or1 (ha:Et K X a tA na):Ew K X (.BoolOp .Or [a] pos) tA na:=⟨pw_or1 ha.pt,ha.ok⟩
theorem ew_or {rest:List Expr} (ha:Et K X a tA na) (hb:Ew K X (.BoolOp .Or (b :: rest) pos) tB nb):Ew K X (.BoolOp .Or (a :: b :: rest) pos) (tOr tA tB) (uOr na nb):=⟨pw_or ha.pt hb.pw,fun G B E F σ H Q d F' I e q=>by
  obtain ⟨⟨x,F1⟩,e1,e⟩:=Option.bind_eq_some_iff.mp e
  refine ha.ok G B E F σ H _ x F1 I e1 fun H1 k1 f1=>?_
  cases x with
  | false=>exact hb.ok G B E F1 σ H1 _ d F' (I.step k1 f1) e fun H2 k2 f2=>q H2 (k1.trans k2) f2
  | true=>cases e; exact q H1 k1 f1⟩
theorem Ew.t (h:Ew K X a tA na):Et K X a tA na:=⟨h.pw.pt,h.ok⟩
theorem et_not (ha:Et K X a tA na):Et K X (.UnaryOp .Not a pos) (tNot tA) (uNot na):=⟨pt_not ha.pt,fun G B E F σ H Q d F' I e q=>by
  obtain ⟨⟨x,F1⟩,e1,e⟩:=Option.bind_eq_some_iff.mp e
  cases e
  exact ha.ok G B E F σ H _ x F1 I e1 fun H1 k1 f1=>q H1 k1 f1⟩
noncomputable def truD:PyData→Option Bool
  | .none=>some false
  | .bool b=>some b
  | .int i=>some (i != 0)
  | .str x=>if x.length ≤ sizeLine then some ((x.length:Int) != 0) else none
  | .tuple ds=>some (!ds.isEmpty)
  | .list ds=>some (!ds.isEmpty)
  | .dict _=>none
noncomputable def uT (a:DE→M PyData):DE→M Bool:=fun E F=>(a E F).bind fun p=>(truD p.1).bind fun c=>some (c,p.2)
theorem isEmpty_dats {H:Hp} {ds:List PyData} {xs:List V} (h:DatsAre K H ds xs):xs.isEmpty = ds.isEmpty:=by
  cases ds with
  | nil=>simp only [DatsAre] at h; subst h; rfl
  | cons d r=>simp only [DatsAre] at h; obtain ⟨x,r,rfl,_⟩:=h; rfl
theorem tru_of {fp B:List Addr} {H:Hp} {d:PyData} {v:V} {c:Bool} (h:DatSh K fp B H d v) (e:truD d = some c):TruV K v H c:=by
  cases d with
  | none=>cases h; cases e; rfl
  | bool b=>cases h; cases e; rfl
  | int i=>cases h; cases e; rfl
  | str x =>
    cases h
    simp only [truD] at e
    split at e
    · rename_i hl; cases e; exact ⟨hl,rfl⟩
    · cases e
  | tuple ds =>
    obtain ⟨p,xs,rfl,hq,hd⟩:=h
    cases e
    exact .inr (.inl ⟨xs,hq.same hid_same,by rw [isEmpty_dats hd]⟩)
  | list ds =>
    obtain ⟨p,xs,rfl,hq,hd⟩:=h
    cases e
    exact .inl ⟨xs,SqL.of (hid_same _ _ hq),by rw [isEmpty_dats hd]⟩
  | dict kvs=>exact (show False from h).elim
theorem et_val (ha:Eb K X a ta ma) (hK:X.K = K:=by rfl) (he:∀ whole,isTrue a X.env whole = (do let v ← whole; standAt a.pos; holding [v] (truthy v)):=by intro _; rfl) :
    Et K X a (fun σ H Q=>ta σ H fun x H'=>∃ k,TruV K x H' k ∧ Q k H') (uT ma):=⟨pt_truthK hK ha.pe he,fun G B E F σ H Q d F' I e q=>by
  obtain ⟨⟨x,F1⟩,e1,e⟩:=Option.bind_eq_some_iff.mp e
  obtain ⟨c,e2,e⟩:=Option.bind_eq_some_iff.mp e
  cases e
  exact ha.ok G B E F σ H _ x F1 I e1 fun v H1 k1 f1 h1=>⟨_,tru_of h1 e2,q H1 k1 f1⟩⟩
end
end L3
namespace L3
open PySem PySem.Spec PyProof.Rows L2
section
variable {K:PySem.W.Frag} {X:Cx}
theorem shs1 {fp B:List Addr} {H:Hp} {ds:List PyData} {d:PyData} {vs:List V} (h:DatShs K fp B H ds vs) (e:ds = [d]):∃ v,vs = [v] ∧ DatSh K fp B H d v:=by
  subst e
  obtain ⟨v,r,rfl,h1,h2⟩:=h
  cases h2
  exact ⟨v,rfl,h1⟩
theorem shs2 {fp B:List Addr} {H:Hp} {ds:List PyData} {d e:PyData} {vs:List V} (h:DatShs K fp B H ds vs) (eq:ds = [d,e]):∃ v w,vs = [v,w] ∧ DatSh K fp B H d v ∧ DatSh K fp B H e w:=by
  subst eq
  obtain ⟨v,r,rfl,h1,w,r2,rfl,h2,h3⟩:=h
  cases h3
  exact ⟨v,w,rfl,h1,h2⟩
noncomputable def i2 (C:Int→Int→Prop) [∀ i j,Decidable (C i j)] (g:Int→Int→PyData):PyData→PyData→Option PyData
  | .int i,.int j=>if C i j then some (g i j) else none
  | _,_=>none
theorem i2_some {C:Int→Int→Prop} [∀ i j,Decidable (C i j)] {g:Int→Int→PyData} {d e r:PyData} (h:i2 C g d e = some r):∃ i j,d = .int i ∧ e = .int j ∧ C i j ∧ r = g i j:=by
  cases d <;> cases e <;> simp only [i2] at h <;> try cases h
  split at h
  · rename_i hc; cases h; exact ⟨_,_,rfl,rfl,hc,rfl⟩
  · cases h
theorem opI0_d {f:Value→Value→Sem Value} {g:Int→Int→V} {gd:Int→Int→PyData} (ho:OpR X f (rI0 g)) (hg:∀ H i j,DatIs K H (gd i j) (g i j)):OpR X f (rD2 K (i2 (fun _ _=>True) gd)):=by
  intro pins s σ H x y v u Q I rx ry h
  obtain ⟨fp,B,d,e,r,bk,h1,h2,hf,q⟩:=h
  obtain ⟨i,j,rfl,rfl,hc,rfl⟩:=i2_some hf
  cases h1
  cases h2
  exact ho pins s σ H _ _ v u Q I rx ry ⟨i,j,rfl,rfl,q _ H (Same.refl H) (hg _ i j)⟩
noncomputable instance:∀ i j,Decidable (CPow i j):=fun i j=>inferInstanceAs (Decidable (_ ∧ _ ∧ _))
noncomputable instance:∀ i j,Decidable (CMul i j):=fun i j=>inferInstanceAs (Decidable ((_ ∧ _) ∨ (_ ∧ _)))
@[irreducible] def bigN:Nat:=2 ^ 400000
theorem bigN_eq:bigN = 2 ^ 400000:=by unfold bigN; rfl
noncomputable def Big (i j:Int):Prop:=CMul i j ∨ (i.natAbs < bigN ∧ j.natAbs < bigN)
noncomputable instance {i j:Int}:Decidable (Big i j):=inferInstanceAs (Decidable (_ ∨ _))
theorem bits_le {n:Nat} {i:Int} (h:i.natAbs < 2 ^ n):Builtin.Int.intBits i ≤ n:=by
  unfold Builtin.Int.intBits
  split
  · exact Nat.zero_le _
  · rename_i h0
    have h0:i.natAbs ≠ 0:=fun z=>h0 (by simpa using z)
    exact (Nat.log2_lt h0).mpr h
theorem Big.ok {i j:Int} (h:Big i j):IntMulOk i j:=by
  rcases h with h | ⟨h1,h2⟩
  · exact h.ok
  · unfold IntMulOk
    have e:Builtin.Int.intTooBig ((Builtin.Int.intBits i:Int) + Builtin.Int.intBits j) = false:=by
      unfold Builtin.Int.intTooBig
      rw [bigN_eq] at h1 h2
      have a:=bits_le h1
      have b:=bits_le h2
      have c:(bitsLine:Nat) = 134217728:=by decide
      refine decide_eq_false ?_
      rw [c]
      omega
    rw [e,Bool.and_false]
    exact Bool.false_ne_true
theorem op_mulB:OpR X (binaryOp .Mult) (rI Big fun i j=>.int (i * j)):=opI fun _ _ _ _ _ _ _ hc q=>mul_int q hc.ok
noncomputable abbrev ltD:=i2 (fun _ _=>True) fun i j=>.bool (decide (i < j))
noncomputable abbrev leD:=i2 (fun _ _=>True) fun i j=>.bool (decide (i ≤ j))
noncomputable abbrev geD:=i2 (fun _ _=>True) fun i j=>.bool (decide (j ≤ i))
theorem od_lt:OpR X (compareOp .Lt) (rD2 K ltD):=opI0_d op_lt fun _ _ _=>DatIs.bl
theorem od_le:OpR X (compareOp .LtE) (rD2 K leD):=opI0_d op_le fun _ _ _=>DatIs.bl
theorem od_ge:OpR X (compareOp .GtE) (rD2 K geD):=opI0_d op_ge fun _ _ _=>DatIs.bl
noncomputable def addD:PyData→PyData→Option PyData
  | .int i,.int j=>some (.int (i + j))
  | .str x,.str y=>if x.length + y.length ≤ sizeLine then some (.str (x ++ y)) else none
  | .tuple xs,.tuple ys=>if xs.length + ys.length ≤ sizeLine then some (.tuple (xs ++ ys)) else none
  | .list xs,.list ys=>if xs.length + ys.length ≤ sizeLine then some (.list (xs ++ ys)) else none
  | _,_=>none
theorem DatsAre.nil_of {H:Hp} {ds:List PyData} {xs:List V} (h:DatsAre K H ds xs) (e:xs = []):ds = []:=by
  subst e; exact List.length_eq_zero_iff.mp (by rw [← h.length]; rfl)
theorem od_add (hK:X.K = K):OpR X (binaryOp .Add) (rD2 K addD):=by
  intro pins s σ H x y v u Q I rx ry h
  obtain ⟨fp,B,d,e,r,bk,h1,h2,hf,q⟩:=h
  cases d <;> cases e <;> simp only [addD] at hf <;> try cases hf
  · cases h1
    cases h2
    exact op_add pins s σ H _ _ v u Q I rx ry ⟨_,_,rfl,rfl,q _ H (Same.refl H) DatIs.int⟩
  · cases h1
    cases h2
    split at hf
    · rename_i hl
      cases hf
      exact op_add_str pins s σ H _ _ v u Q I rx ry ⟨_,_,rfl,rfl,hl,q _ H (Same.refl H) DatIs.st⟩
    · cases hf
  · obtain ⟨a,xs,rfl,ha,hd⟩:=h1
    obtain ⟨b,ys,rfl,hb,he⟩:=h2
    split at hf
    · rename_i hl
      cases hf
      refine op_cat pins s σ H _ _ v u Q I rx ry ⟨a,b,xs,ys,rfl,rfl,hid_same _ _ ha,hid_same _ _ hb,by rw [hd.length,he.length]; exact hl,fun p hp=>q _ _ (Same.upd hp) (new_lst bk hp (DatsAre.append he hd))⟩
    · cases hf
  · obtain ⟨a,xs,rfl,ha,hd⟩:=h1
    obtain ⟨b,ys,rfl,hb,he⟩:=h2
    split at hf
    · rename_i hl
      cases hf
      refine op_catA hK pins s σ H _ _ v u Q I rx ry ⟨a,b,xs,ys,rfl,rfl,ha.same hid_same,hb.same hid_same,by rw [hd.length,he.length]; exact hl,fun z=>q _ H (Same.refl H) ?_,fun z=>q _ H (Same.refl H) ?_,fun p hp=>q _ _ (Same.upd hp) (new_tup bk hp (DatsAre.append he hd))⟩
      · cases DatsAre.nil_of hd z
        simp only [DatIs,List.nil_append]
        exact ⟨b,ys,rfl,hb,he⟩
      · cases DatsAre.nil_of he z
        simp only [DatIs,List.append_nil]
        exact ⟨a,xs,rfl,ha,hd⟩
    · cases hf
noncomputable def mulD:PyData→PyData→Option PyData
  | .int i,.int j=>if Big i j then some (.int (i * j)) else none
  | .list xs,.int k=>if -(2 ^ 63) ≤ k ∧ k < 2 ^ 63 ∧ xs.length * k.toNat ≤ sizeLine then some (.list (List.replicate k.toNat xs).flatten) else none
  | _,_=>none
theorem DatsAre.rep {H:Hp} {ds:List PyData} {xs:List V} (h:DatsAre K H ds xs):∀ n,DatsAre K H (List.replicate n ds).flatten (List.replicate n xs).flatten
  | 0=>DatsAre.nil
  | n + 1=>by
    rw [List.replicate_succ,List.replicate_succ,List.flatten_cons,List.flatten_cons]
    exact DatsAre.append (DatsAre.rep h n) h
theorem od_mul:OpR X (binaryOp .Mult) (rD2 K mulD):=by
  intro pins s σ H x y v u Q I rx ry h
  obtain ⟨fp,B,d,e,r,bk,h1,h2,hf,q⟩:=h
  cases d <;> cases e <;> simp only [mulD] at hf <;> try cases hf
  · cases h1
    cases h2
    split at hf
    · rename_i hc
      cases hf
      exact op_mulB pins s σ H _ _ v u Q I rx ry ⟨_,_,rfl,rfl,hc,q _ H (Same.refl H) DatIs.int⟩
    · cases hf
  · obtain ⟨a,xs,rfl,ha,hd⟩:=h1
    cases h2
    split at hf
    · rename_i hc
      cases hf
      exact op_rep pins s σ H _ _ v u Q I rx ry ⟨a,_,xs,rfl,rfl,hid_same _ _ ha,hc.1,hc.2.1,by rw [hd.length]; exact hc.2.2,fun p hp=>q _ _ (Same.upd hp) (new_lst bk hp (DatsAre.rep hd _))⟩
    · cases hf
open PySem.SeqAt in
noncomputable def eqD (neg:Bool):PyData→PyData→Option PyData
  | .str x,.str y=>some (.bool (if neg then !decide (x = y) else decide (x = y)))
  | d,e=>if shaped d = true ∧ shaped e = true then some (.bool (if neg then !PyData.eqv d e else PyData.eqv d e)) else none
theorem od_eq (hK:X.K = K) (hu:X.A.units + 64 < cLine):OpR X (compareOp .Eq) (rD2 K (eqD false)):=by
  subst hK
  intro pins s σ H x y v u Q I rx ry h
  obtain ⟨fp,B,d,e,r,bk,h1,h2,hf,q⟩:=h
  unfold eqD at hf
  split at hf
  · cases hf
    cases h1
    cases h2
    have z:=q _ H (Same.refl H) DatIs.bl
    rename_i a b
    have e:decide (V.str a = V.str b) = decide (a = b):=by simp
    exact op_eq pins s σ H _ _ v u Q I rx ry ⟨rfl,by rw [e]; exact z⟩
  · split at hf
    · rename_i hs
      cases hf
      obtain ⟨as,ra⟩:=reads_of I _ x v h1.dat rx
      obtain ⟨bs,rb⟩:=reads_of I _ y u h2.dat ry
      exact eq_dataH ra rb hs.1 hs.2 hu ⟨.bl _,H,I,rfl,q _ H (Same.refl H) DatIs.bl⟩
    · cases hf
theorem od_ne (hK:X.K = K) (hu:X.A.units + 64 < cLine):OpR X (compareOp .NotEq) (rD2 K (eqD true)):=by
  subst hK
  intro pins s σ H x y v u Q I rx ry h
  obtain ⟨fp,B,d,e,r,bk,h1,h2,hf,q⟩:=h
  unfold eqD at hf
  split at hf
  · cases hf
    cases h1
    cases h2
    have z:=q _ H (Same.refl H) DatIs.bl
    rename_i a b
    have e:decide (V.str a = V.str b) = decide (a = b):=by simp
    exact op_ne pins s σ H _ _ v u Q I rx ry ⟨rfl,by rw [e]; exact z⟩
  · split at hf
    · rename_i hs
      cases hf
      obtain ⟨as,ra⟩:=reads_of I _ x v h1.dat rx
      obtain ⟨bs,rb⟩:=reads_of I _ y u h2.dat ry
      exact ne_dataH ra rb hs.1 hs.2 hu ⟨.bl _,H,I,rfl,q _ H (Same.refl H) DatIs.bl⟩
    · cases hf
end
end L3
namespace L3
open PySem PySem.Spec PyProof.Rows L2
section
variable {K:PySem.W.Frag} {X:Cx}
theorem DatsAre.at {H:Hp} {ds:List PyData} {xs:List V} {i:Int} {d:PyData} (h:DatsAre K H ds xs) (e:atI ds i = some d):∃ v,atI xs i = some v ∧ DatIs K H d v:=by
  unfold atI at e ⊢
  rw [h.length]
  cases q:ixN ds.length i with
  | none=>rw [q] at e; cases e
  | some j =>
    rw [q] at e
    have e:ds[j]? = some d:=e
    obtain ⟨hj,_⟩:=List.getElem?_eq_some_iff.mp e
    have hx:xs[j]? = some (xs[j]'(by rw [h.length]; exact hj)):=by simp
    obtain ⟨d',h1,h2⟩:=h.get hx
    rw [e] at h1; cases h1
    exact ⟨_,hx,h2⟩
noncomputable def ixD:PyData→PyData→Option PyData
  | .list ds,.int i=>atI ds i
  | .tuple ds,.int i=>atI ds i
  | .str x,.int i=>if x.length ≤ sizeLine then (atI x.cps.toList i).map fun c=>.str ⟨#[c]⟩ else none
  | _,_=>none
theorem id_ix (hK:X.K = K):IxR X (rD2 K ixD):=by
  intro value slice pins s σ H x y v u Q I rx ry h hs
  obtain ⟨fp,B,d,e,r,bk,h1,h2,hf,q⟩:=h
  cases d <;> cases e <;> simp only [ixD] at hf <;> try cases hf
  · cases h1
    cases h2
    split at hf
    · rename_i hl
      obtain ⟨c,e1,rfl⟩:=Option.map_eq_some_iff.mp hf
      exact ix_str value slice pins s σ H _ _ v u Q I rx ry ⟨_,_,c,rfl,rfl,hl,e1,q _ H (Same.refl H) DatIs.st⟩ hs
    · cases hf
  · obtain ⟨a,xs,rfl,ha,hd⟩:=h1
    cases h2
    obtain ⟨w,e1,e2⟩:=DatsAre.at hd hf
    exact ix_listK hK value slice pins s σ H _ _ v u Q I rx ry ⟨a,xs,_,w,rfl,rfl,SqL.of (hid_same _ _ ha),e1,q w H (Same.refl H) e2⟩ hs
  · obtain ⟨a,xs,rfl,ha,hd⟩:=h1
    cases h2
    obtain ⟨w,e1,e2⟩:=DatsAre.at hd hf
    exact ix_tupK hK value slice pins s σ H _ _ v u Q I rx ry ⟨a,xs,_,w,rfl,rfl,ha.same hid_same,e1,q w H (Same.refl H) e2⟩ hs
noncomputable def cutL {α:Type} (xs:List α) (lo hi:Option Int):List α:=(xs.drop (HT.sIx xs.length 0 lo)).take (HT.sIx xs.length xs.length hi - HT.sIx xs.length 0 lo)
noncomputable def cutD (lo hi:Option Int):PyData→Option PyData
  | .list ds=>some (.list (cutL ds lo hi))
  | .tuple ds=>some (.tuple (cutL ds lo hi))
  | .str x=>if x.length ≤ sizeLine then some (.str (Txt.slice x lo hi)) else none
  | _=>none
theorem DatsAre.drop {H:Hp}:∀ {ds:List PyData} {xs:List V} (n:Nat),DatsAre K H ds xs→DatsAre K H (ds.drop n) (xs.drop n)
  | ds,xs,0,h=>h
  | [],xs,n + 1,h=>by simp only [DatsAre] at h; subst h; simp [DatsAre]
  | d :: ds,xs,n + 1,h=>by
    simp only [DatsAre] at h
    obtain ⟨y,r,rfl,h1,h2⟩:=h
    simp only [List.drop_succ_cons]
    exact DatsAre.drop n h2
theorem DatsAre.cut {H:Hp} {ds:List PyData} {xs:List V} (h:DatsAre K H ds xs) (lo hi:Option Int):DatsAre K H (cutL ds lo hi) (cutV xs lo hi):=by
  unfold cutL cutV
  rw [h.length]
  exact DatsAre.take _ (DatsAre.drop _ h)
noncomputable def rSlD (K:PySem.W.Frag):V→Option Int→Option Int→Hp→VK→Prop:=fun x lo hi H Q=>∃ fp B d r,BOk H B ∧ DatSh K fp B H d x ∧ cutD lo hi d = some r ∧ ∀ v H',Same H H'→DatIs K (hid H' B) r v→Q v H'
theorem part_of {v:Value} {o:Option Int} (h:IsPart v o):∃ p:Option (Int × Tok),v = partValue p ∧ p.map (·.1) = o:=by
  cases h with
  | none=>exact ⟨none,rfl,rfl⟩
  | int i t=>exact ⟨some (i,t),rfl,rfl⟩
theorem sd_cut (hK:X.K = K):SlR X (rSlD K):=by
  intro pins s σ H x v vl vu lo hi sl Q I rx hs pl pu h
  obtain ⟨fp,B,d,r,bk,h1,hf,q⟩:=h
  cases d <;> simp only [cutD] at hf <;> try cases hf
  · rename_i x0
    cases h1
    split at hf
    · rename_i hl
      cases hf
      obtain ⟨t,rfl⟩:=rx
      obtain ⟨l,rfl,rfl⟩:=part_of pl
      obtain ⟨m,rfl,rfl⟩:=part_of pu
      refine ⟨"str",_,F.slot_str_getitem.lookup,typeIs_str _ _ _,getItem_meets (typeIs_str _ _ _) (by decide) F.slot_str_getitem F.entry_str_getitem (F.args_str_getitem_2 _ _) (meets_str_getitem_slice _ t sl l m none rfl) ⟨hs,?_⟩⟩
      have z:=q _ H (Same.refl H) DatIs.st
      unfold sliceMade
      unfold Txt.slice at z
      have e:slicePicked x0 l m none = Builtin.Str.strSliceIndices (l.map (·.1)) (m.map (·.1)) 1 x0.length:=rfl
      rw [e]
      simp only [Option.map_none,Option.getD_none]
      split
      · rename_i hc
        rw [if_pos hc] at z
        exact ⟨.str x0,H,I,⟨t,rfl⟩,z⟩
      · rename_i hc
        rw [if_neg hc] at z
        refine ⟨?_,⟨.str _,H,I.tok _,⟨_,rfl⟩,z⟩⟩
        have:=Txt.slice_le x0 (l.map (·.1)) (m.map (·.1))
        unfold Txt.slice at this
        rw [if_neg hc] at this
        exact Nat.le_trans this hl
    · cases hf
  · obtain ⟨a,xs,rfl,ha,hd⟩:=h1
    subst hK
    exact sl_list pins s σ H _ v vl vu lo hi sl Q I rx hs pl pu ⟨a,xs,rfl,SqL.of (hid_same _ _ ha),fun p hp=>q _ _ (Same.upd hp) (new_lst bk hp (DatsAre.cut hd lo hi))⟩
  · obtain ⟨a,xs,rfl,ha,hd⟩:=h1
    refine sl_tup2K hK pins s σ H _ v vl vu lo hi sl Q I rx hs pl pu ⟨a,xs,rfl,ha.same hid_same,fun z=>q _ H (Same.refl H) ?_,fun _ p hp=>q _ _ (Same.upd hp) (new_tup bk hp (DatsAre.cut hd lo hi))⟩
    have:=DatsAre.cut hd lo hi
    rw [z.1] at this
    simp only [DatIs]
    exact ⟨a,xs,rfl,ha,this⟩
end
section
variable [Feeds] {K:PySem.W.Frag} {X:Cx} {e:Expr} {te:TE} {m:DE→M PyData} {pos p2:Pos}
noncomputable def TOd (K:PySem.W.Frag) (to:TO) (m:DE→M (Option Int)):Prop:=∀ (G:GF) (B:List Addr) (E:DE) (F:FS) (σ:St) (H:Hp) (Q:Option Int→Hp→Prop) (d:Option Int) (F':FS),SitE K G B E F σ H→m E F = some (d,F') →
  (∀ H',Kp (fpOf K G) H H'→FAt K G H' F'→Q d H')→to σ H Q
structure Eo (K:PySem.W.Frag) (X:Cx) (e:Option Expr) (to:TO) (m:DE→M (Option Int)):Prop where
  po:PO X e to
  ok:TOd K to m
noncomputable def oNo:DE→M (Option Int):=fun _ F=>some (none,F)
noncomputable def intOf:PyData→Option Int
  | .int i=>some i
  | _=>none
theorem intOf_some {d:PyData} {i:Int} (h:intOf d = some i):d = .int i:=by
  cases d <;> simp [intOf] at h
  rw [h]
noncomputable def oI (a:DE→M PyData):DE→M (Option Int):=fun E F=>(a E F).bind fun p=>(intOf p.1).bind fun i=>some (some i,p.2)
theorem eo_no:Eo K X none tNoPart oNo:=⟨po_none,fun G B E F σ H Q d F' I e q=>by cases e; exact q H Kp.refl I.fd⟩
theorem eo_i (h:Ev K X e te m):Eo K X (some e) (tPart te) (oI m):=⟨po_some h.pe,fun G B E F σ H Q d F' I e q=>by
  obtain ⟨⟨x,F1⟩,e1,e⟩:=Option.bind_eq_some_iff.mp e
  obtain ⟨i,e2,e⟩:=Option.bind_eq_some_iff.mp e
  cases e
  refine h.ok G B E F σ H _ x F1 I e1 fun v H1 k1 f1 h1=>?_
  have:=intOf_some e2
  simp only at this
  subst this
  simp only [DatIs] at h1
  exact ⟨i,h1,q H1 k1 f1⟩⟩
noncomputable def sCut (a:DE→M PyData) (l u:DE→M (Option Int)):DE→M PyData:=fun E F=>(a E F).bind fun p=>(l E p.2).bind fun x=>(u E x.2).bind fun y=>(cutD x.1 y.1 p.1).bind fun z=>some (z,y.2)
theorem ev_cut {lo hi:Option Expr} {tl th:TO} {ml mh:DE→M (Option Int)} (he:Eb K X e te m) (hl:Eo K X lo tl ml) (hh:Eo K X hi th mh) (hK:X.K = K:=by rfl):Ev K X (.Subscript e (.Slice lo hi none p2) pos) (tSl (rSlD K) te tl th) (sCut m ml mh) :=
  ⟨pe_slice (sd_cut hK) he.pe hl.po hh.po,fun G B E F σ H Q d F' I e q=>by
    obtain ⟨⟨x,F1⟩,e1,e⟩:=Option.bind_eq_some_iff.mp e
    obtain ⟨⟨l,F2⟩,e2,e⟩:=Option.bind_eq_some_iff.mp e
    obtain ⟨⟨h,F3⟩,e3,e⟩:=Option.bind_eq_some_iff.mp e
    obtain ⟨z,e4,e⟩:=Option.bind_eq_some_iff.mp e
    cases e
    refine he.ok G B E F σ H _ x F1 I e1 fun v H1 k1 f1 h1=>?_
    refine hl.ok G B E F1 σ H1 _ l F2 (I.step k1 f1) e2 fun H2 k2 f2=>?_
    refine hh.ok G B E F2 σ H2 _ h F3 (I.step (k1.trans k2) f2) e3 fun H3 k3 f3=>?_
    exact ⟨fpOf K G,B,x,_,bok_step I.bk ((k1.trans k2).trans k3) f3,h1.step (k2.trans k3) I.fB,e4,fun u H4 s hu=>q u H4 (((k1.trans k2).trans k3).trans (Kp.same s)) (f3.same s) hu⟩⟩
end
section
variable {K:PySem.W.Frag} {X:Cx}
noncomputable def lenD:List PyData→Option PyData
  | [.list ds]=>some (.int ds.length)
  | [.tuple ds]=>some (.int ds.length)
  | [.str x]=>if x.length ≤ sizeLine then some (.int x.length) else none
  | _=>none
theorem cd_len (hK:X.K = K):CallR X (.builtin "len") (rDN K lenD):=by
  intro pins s σ H xs us Q I r h
  obtain ⟨fp,B,ds,z,bk,h1,hf,q⟩:=h
  unfold lenD at hf
  split at hf <;> try cases hf
  · obtain ⟨v,rfl,a,xs,rfl,ha,hd⟩:=shs1 h1 rfl
    have:=q _ H (Same.refl H) DatIs.int
    rw [← hd.length] at this
    exact call_len_seqK hK pins s σ H _ us Q I r ⟨a,xs,rfl,.inl (SqL.of (hid_same _ _ ha)),this⟩
  · obtain ⟨v,rfl,a,xs,rfl,ha,hd⟩:=shs1 h1 rfl
    have:=q _ H (Same.refl H) DatIs.int
    rw [← hd.length] at this
    exact call_len_seqK hK pins s σ H _ us Q I r ⟨a,xs,rfl,.inr (ha.same hid_same),this⟩
  · rename_i x0
    obtain ⟨v,rfl,hv⟩:=shs1 h1 rfl
    have hv:v = .str x0:=hv
    subst hv
    split at hf
    · rename_i hl
      cases hf
      exact call_len_str pins s σ H _ us Q I r ⟨_,rfl,hl,q _ H (Same.refl H) DatIs.int⟩
    · cases hf
noncomputable def tupleD:List PyData→Option PyData
  | [.list ds]=>some (.tuple ds)
  | [.tuple ds]=>some (.tuple ds)
  | _=>none
theorem cd_tuple (hK:X.K = K):CallR X (.type "tuple") (rDN K tupleD):=by
  intro pins s σ H xs us Q I r h
  obtain ⟨fp,B,ds,z,bk,h1,hf,q⟩:=h
  unfold tupleD at hf
  split at hf <;> try cases hf
  · obtain ⟨v,rfl,a,xs,rfl,ha,hd⟩:=shs1 h1 rfl
    exact call_tuple_ofK hK pins s σ H _ us Q I r ⟨a,xs,rfl,.inl ⟨SqL.of (hid_same _ _ ha),fun l hl=>q _ _ (Same.upd hl) (new_tup bk hl hd)⟩⟩
  · obtain ⟨v,rfl,hv⟩:=shs1 h1 rfl
    have hv':=hv.tup
    obtain ⟨a,xs,rfl,ha,hd⟩:=hv
    exact call_tuple_ofK hK pins s σ H _ us Q I r ⟨a,xs,rfl,.inr ⟨ha.same hid_same,q _ H (Same.refl H) hv'⟩⟩
noncomputable def intsOf:List PyData→Option (List Int)
  | []=>some []
  | .int i :: r=>(intsOf r).map (i :: ·)
  | _=>none
theorem intsOf_some:∀ {ds:List PyData} {ns:List Int},intsOf ds = some ns→ds = ns.map .int
  | [],ns,h=>by cases h; rfl
  | d :: r,ns,h=>by
    cases d <;> simp only [intsOf] at h <;> try cases h
    obtain ⟨m,e,rfl⟩:=Option.map_eq_some_iff.mp h
    rw [intsOf_some e]; rfl
theorem ints_v {H:Hp}:∀ {ns:List Int} {xs:List V},DatsAre K H (ns.map .int) xs→xs = ns.map V.int
  | [],xs,h=>by simpa only [List.map_nil,DatsAre] using h
  | n :: ns,xs,h=>by
    simp only [List.map_cons,DatsAre] at h
    obtain ⟨x,r,rfl,h1,h2⟩:=h
    simp only [DatIs] at h1
    rw [h1,ints_v h2]; rfl
noncomputable def reprOk (d:PyData):Bool:=d.showable && !d.hasDict && decide (d.depth ≤ 50) && decide (d.shown.length ≤ 16000000)
end
end L3
namespace L3
open PySem PySem.Spec PyProof.Rows L2
section
variable {K:PySem.W.Frag} {X:Cx}
theorem reprOk_shw {d:PyData} (h:reprOk d = true):Shw d 50 16000000:=by
  unfold reprOk at h
  simp only [Bool.and_eq_true,decide_eq_true_eq,Bool.not_eq_true'] at h
  exact ⟨h.1.1.1,h.1.1.2,h.1.2,h.2⟩
noncomputable def reprD:List PyData→Option PyData
  | [d]=>if reprOk d = true then some (.str d.shown) else none
  | _=>none
theorem cd_repr (hK:X.K = K) (hg:X.A.guards = some []) (hu:X.A.units + 64 < cLine):CallR X (.builtin "repr") (rDN K reprD):=by
  intro pins s σ H xs us Q I r h
  obtain ⟨fp,B,ds,z,bk,h1,hf,q⟩:=h
  unfold reprD at hf
  split at hf <;> try cases hf
  rename_i d
  split at hf
  · rename_i ho
    cases hf
    obtain ⟨v,rfl,hv⟩:=shs1 h1 rfl
    have sh:=reprOk_shw ho
    have qq:=q _ H (Same.refl H) DatIs.st
    cases d with
    | tuple ds =>
      have hd:=hv.dat
      obtain ⟨a,xs,rfl,ha,_⟩:=hv
      exact call_reprK hK hg hu pins s σ H _ us Q I r ⟨a,_,rfl,hd,sh,qq⟩
    | list ds =>
      have hd:=hv.dat
      obtain ⟨a,xs,rfl,ha,_⟩:=hv
      exact call_reprK hK hg hu pins s σ H _ us Q I r ⟨a,_,rfl,hd,sh,qq⟩
    | none =>
      cases (show v = .non from hv)
      obtain ⟨u,rfl,rfl⟩:=vals1 r
      exact PySem.P.repr_of_none ⟨.str _,H,I.tok _,⟨_,rfl⟩,by simpa only [PyData.shown] using qq⟩
    | bool b =>
      cases (show v = .bl b from hv)
      obtain ⟨u,rfl,rfl⟩:=vals1 r
      exact PySem.P.repr_of_bool ⟨.str _,H,I.tok _,⟨_,rfl⟩,by simpa only [PyData.shown] using qq⟩
    | int i =>
      cases (show v = .int i from hv)
      obtain ⟨u,rfl,t,rfl⟩:=vals1 r
      have hl:i.natAbs.log2 < 1920:=by have:=sh.sh; simpa only [PyData.showable,decide_eq_true_eq] using this
      exact PySem.P.repr_of_int hl ⟨.str _,H,I.tok _,⟨_,rfl⟩,by simpa only [PyData.shown] using qq⟩
    | str x =>
      cases (show v = .str x from hv)
      obtain ⟨u,rfl,t,rfl⟩:=vals1 r
      have hl:(reprText x).length ≤ sizeLine:=by have:=sh.ln; simp only [PyData.shown] at this; exact Nat.le_trans this (by rw [sizeLine_eq]; decide)
      exact PySem.P.repr_of_str ⟨.str _,H,I.tok _,⟨_,rfl⟩,by simpa only [PyData.shown] using qq⟩ hl
    | dict b=>exact (show False from hv).elim
  · cases hf
noncomputable def intD:List PyData→Option PyData
  | [.int i]=>some (.int i)
  | [.bool b]=>some (.int (if b then 1 else 0))
  | _=>none
theorem cd_int:CallR X (.type "int") (rDN K intD):=by
  intro pins s σ H xs us Q I r h
  obtain ⟨fp,B,ds,z,bk,h1,hf,q⟩:=h
  unfold intD at hf
  split at hf <;> try cases hf
  · rename_i i
    obtain ⟨v,rfl,hv⟩:=shs1 h1 rfl
    cases (show v = .int i from hv)
    exact call_int1 pins s σ H _ us Q I r (.inl ⟨i,rfl,q _ H (Same.refl H) DatIs.int⟩)
  · rename_i b
    obtain ⟨v,rfl,hv⟩:=shs1 h1 rfl
    cases (show v = .bl b from hv)
    exact call_int1 pins s σ H _ us Q I r (.inr ⟨b,rfl,q _ H (Same.refl H) DatIs.int⟩)
noncomputable def minL:List Int→Int
  | []=>0
  | [a]=>a
  | a :: b :: r=>min a (minL (b :: r))
theorem minL_mem:∀ {ns:List Int},ns ≠ []→minL ns ∈ ns ∧ ∀ n ∈ ns,minL ns ≤ n
  | [],h=>absurd rfl h
  | [a],_=>⟨by simp [minL],by simp [minL]⟩
  | a :: b :: r,_=>by
    obtain ⟨h1,h2⟩:=minL_mem (ns:=b :: r) (by simp)
    rw [minL]
    constructor
    · by_cases h:a ≤ minL (b :: r)
      · rw [Int.min_eq_left h]; simp
      · rw [Int.min_eq_right (by omega)]; exact List.mem_cons_of_mem _ h1
    · intro n hn
      rcases List.mem_cons.mp hn with rfl | hn
      · exact Int.min_le_left _ _
      · exact Int.le_trans (Int.min_le_right _ _) (h2 n hn)
noncomputable def minD:List PyData→Option PyData
  | [.tuple ds]=>(intsOf ds).bind fun ns=>if ns = [] then none else some (.int (minL ns))
  | [.int i,.int j]=>some (.int (if j < i then j else i))
  | _=>none
theorem cd_min (hK:X.K = K) (hc:X.calm = true):CallR X (.builtin "min") (rDN K minD):=by
  intro pins s σ H xs us Q I r h
  obtain ⟨fp,B,ds,z,bk,h1,hf,q⟩:=h
  unfold minD at hf
  split at hf <;> try cases hf
  · obtain ⟨ns,e,hf⟩:=Option.bind_eq_some_iff.mp hf
    split at hf
    · cases hf
    · rename_i hne
      cases hf
      cases intsOf_some e
      obtain ⟨v,rfl,a,xs,rfl,ha,hd⟩:=shs1 h1 rfl
      cases ints_v hd
      refine call_minT hK hc pins s σ H _ us Q I r ⟨a,ns,rfl,ha.same hid_same,hne,fun m hm hle=>?_⟩
      obtain ⟨m1,m2⟩:=minL_mem hne
      have:m = minL ns:=by have:=hle _ m1; have:=m2 _ hm; omega
      rw [this]
      exact q _ H (Same.refl H) DatIs.int
  · rename_i i j
    obtain ⟨v,w,rfl,hv,hw⟩:=shs2 h1 rfl
    cases (show v = .int i from hv)
    cases (show w = .int j from hw)
    exact call_min2 hc pins s σ H _ us Q I r ⟨i,j,rfl,q _ H (Same.refl H) DatIs.int⟩
noncomputable def negD:PyData→Option PyData
  | .int i=>some (.int (-i))
  | _=>none
theorem ud_neg:UnR X (unaryOp .USub) (rD1 K negD):=by
  intro pins s σ H x v Q I rx h
  obtain ⟨fp,B,d,r,bk,h1,hf,q⟩:=h
  cases d <;> simp only [negD] at hf <;> try cases hf
  rename_i i
  cases (show x = .int i from h1)
  exact un_neg pins s σ H _ v Q I rx ⟨i,rfl,q _ H (Same.refl H) DatIs.int⟩
end
section
variable [Feeds] {K:PySem.W.Frag} {X:Cx} {e:Expr} {te:TE} {m:DE→M PyData} {pos p p2 p3:Pos}
end
section
variable {K:PySem.W.Frag} {X:Cx}
end
end L3
namespace L3
open PySem PySem.Spec PyProof.Rows L2
section
variable [Feeds] {K:PySem.W.Frag} {X:Cx} {e:Expr} {te:TE} {m:DE→M PyData} {pos p p2 p3:Pos}
end
end L3
namespace L3
open PySem PySem.Spec L2
theorem noFill_tuple_mul:fillsNumberSlot (.type "tuple") "mul" = pure false :=
  fillsNumberSlot_seq (id:="tuple.__mul__") (r:=some (.builtin "tuple.__rmul__")) F.slot_tuple_mul.lookup (by decide +kernel) F.slot_tuple_rmul.lookup (by decide +kernel)
theorem repeat_tuple:seqRepeat? (.type "tuple") = pure (some (.builtin "tuple.__mul__")):=by
  unfold seqRepeat?
  rw [seqSlot_of (T:="tuple") (name:="__mul__") (id:="tuple.__mul__") F.slot_tuple_mul.lookup (by decide +kernel),seqSlot_of (T:="tuple") (name:="__rmul__") (id:="tuple.__rmul__") F.slot_tuple_rmul.lookup (by decide +kernel)]
  rfl
theorem int_rmul_tuple (a:Int) (t:Tok) (l:Addr) (items:Array Value) (n:Nat) (dd:Option Addr) (sl:Array (Option Value)) :
    Meets (Builtin.«int.__rmul__» ⟨[.int a t,.ref l],[]⟩) (fun _ R s=>s.heap.get? l = some { cls:=.type "tuple",dict:=dd,data:=.seq items n,slots:=sl } ∧ R (.ok (.ret Value.notImplemented)) s) :=
  .of_wp fun prog w A R s h=>by obtain ⟨hp,g,d,tk,os⟩:=s; obtain ⟨hl,h⟩:=h; wp_walk; exact ⟨_,rfl,h⟩
theorem tuple_mul0 (l:Addr) (items:Array Value) (n:Nat) (dd:Option Addr) (sl:Array (Option Value)) (k:Int) (u:Tok) (hc0:(decide (k < -(2 ^ 63)) || decide (k ≥ 2 ^ 63)) = false) (hc1:(items.isEmpty || k == 1) = true) :
    Meets (Builtin.«tuple.__mul__» ⟨[.ref l,.int k u],[]⟩) (fun _ R s=>s.heap.get? l = some { cls:=.type "tuple",dict:=dd,data:=.seq items n,slots:=sl } ∧ R (.ok (.ret (.ref l))) s) :=
  .of_wp fun prog w A R s h=>by
    obtain ⟨hp,g,d,tk,os⟩:=s; obtain ⟨hl,h⟩:=h
    have f1:=AutoSeq1.idx_int; have f2:=AutoSeq1.sub_tuple_tuple; have f3:=AutoSeq1.sub_list_list; have f4:=AutoSeq1.sub_tuple_list; have f5:=AutoSeq1.sub_list_tuple
    wp_walk
    refine wpAny_ite_false (by rw [hc0]; rfl) ?_
    wp_walk
    exact ⟨_,rfl,h⟩
theorem tuple_mul1 (l:Addr) (items:Array Value) (n:Nat) (dd:Option Addr) (sl:Array (Option Value)) (k:Int) (u:Tok) (hc0:(decide (k < -(2 ^ 63)) || decide (k ≥ 2 ^ 63)) = false) (hc1:(items.isEmpty || k == 1) = false) (hc2:(decide (k ≤ 0) || items.isEmpty) = true) :
    Meets (Builtin.«tuple.__mul__» ⟨[.ref l,.int k u],[]⟩) (fun _ R s=>s.heap.get? l = some { cls:=.type "tuple",dict:=dd,data:=.seq items n,slots:=sl } ∧ R (.ok (.ret (.ref s.heap.objs.size))) { s with heap:=s.heap.push { cls:=.type "tuple",data:=.seq #[] } }) :=
  .of_wp fun prog w A R s h=>by
    obtain ⟨hp,g,d,tk,os⟩:=s; obtain ⟨hl,h⟩:=h
    have f1:=AutoSeq1.idx_int; have f2:=AutoSeq1.sub_tuple_tuple; have f3:=AutoSeq1.sub_list_list; have f4:=AutoSeq1.sub_tuple_list; have f5:=AutoSeq1.sub_list_tuple
    wp_walk
    refine wpAny_ite_false (by rw [hc0]; rfl) ?_
    wp_walk
    exact ⟨_,rfl,h⟩
theorem tuple_mul2 (l:Addr) (items:Array Value) (n:Nat) (dd:Option Addr) (sl:Array (Option Value)) (k:Int) (u:Tok) (hc0:(decide (k < -(2 ^ 63)) || decide (k ≥ 2 ^ 63)) = false) (hc1:(items.isEmpty || k == 1) = false) (hc2:(decide (k ≤ 0) || items.isEmpty) = false) (hc3:decide ((items.size:Int) * k > (2 ^ 63 - 1) / 8) = false) (hc4:Builtin.Tuple.tupleTooMany ((items.size:Int) * k) = false)
    (hsz:(List.foldl (fun x1 x2=>x1 ++ x2) #[] (List.replicate k.toNat items)).size ≤ sizeLine) :
    Meets (Builtin.«tuple.__mul__» ⟨[.ref l,.int k u],[]⟩) (fun _ R s=>s.heap.get? l = some { cls:=.type "tuple",dict:=dd,data:=.seq items n,slots:=sl } ∧ R (.ok (.ret (.ref s.heap.objs.size))) { s with heap:=s.heap.push { cls:=.type "tuple",data:=.seq (List.foldl (fun x1 x2=>x1 ++ x2) #[] (List.replicate k.toNat items)) } }) :=
  .of_wp fun prog w A R s h=>by
    obtain ⟨hp,g,d,tk,os⟩:=s; obtain ⟨hl,h⟩:=h
    have f1:=AutoSeq1.idx_int; have f2:=AutoSeq1.sub_tuple_tuple; have f3:=AutoSeq1.sub_list_list; have f4:=AutoSeq1.sub_tuple_list; have f5:=AutoSeq1.sub_list_tuple
    wp_walk
    refine wpAny_ite_false (by rw [hc0]; rfl) ?_
    wp_walk
    refine wpAny_ite_false hc3 ?_
    wp_walk
    exact ⟨_,rfl,h⟩
section
open PyProof.Rows
variable {K:PySem.W.Frag} {X:Cx}
noncomputable def mulD':PyData→PyData→Option PyData
  | .tuple xs,.int k=>if -(2 ^ 63) ≤ k ∧ k < 2 ^ 63 ∧ xs.length * k.toNat ≤ sizeLine then some (.tuple (List.replicate k.toNat xs).flatten) else none
  | d,e=>mulD d e
theorem op_repT (hK:X.K = K):OpR X (binaryOp .Mult) (fun x y H Q=>∃ l k xs,x = .ref l ∧ y = .int k ∧ SqT K H l xs ∧ -(2 ^ 63) ≤ k ∧ k < 2 ^ 63 ∧ xs.length * k.toNat ≤ sizeLine ∧
    ((List.replicate k.toNat xs).flatten = xs→Q (.ref l) H) ∧ ∀ p,H p = none→Q (.ref p) (upd H p (.tup (List.replicate k.toNat xs).flatten))):=by
  subst hK
  intro pins s σ H x y v u Q I rx ry h
  obtain ⟨l,k,xs,rfl,rfl,hq,h1,h2,hz,q0,q1⟩:=h
  cases rx
  obtain ⟨t,rfl⟩:=ry
  obtain ⟨its,r,p,hl⟩:=I.tuple hq
  have hlen:=r.length
  obtain ⟨⟨cls,dd,data,sl⟩,ho,hc,n,hd⟩:=id p
  simp only at hc hd
  subst hc hd
  have hc0:(decide (k < -(2 ^ 63)) || decide (k ≥ 2 ^ 63)) = false:=by
    rw [decide_eq_false (by omega),decide_eq_false (by omega)]; rfl
  have e1:s.TypeIs (.ref l) "tuple":=⟨_,ho,rfl⟩
  refine wpAny_binaryOp_repeat_ref (T:="tuple") (U:="int") (by decide) e1 (fun s'=>typeIs_int s' k t) noFill_tuple_mul F.fills_int_mul F.slot_int_rmul repeat_tuple F.slot_int_index.lookup
    (call_meets F.slot_int_rmul (typeIs_int s k t) F.entry_int_rmul (F.args_int_rmul_2 _ _) (int_rmul_tuple k t l its.toArray n dd sl) ⟨ho,rfl,e1,?_⟩)
  by_cases c1:(its.toArray.isEmpty || k == 1) = true
  · refine call_meets F.slot_tuple_mul e1 F.entry_tuple_mul (F.args_tuple_mul_2 _ _) (tuple_mul0 l its.toArray n dd sl k t hc0 c1) ⟨ho,⟨.ref l,H,I,rfl,q0 ?_⟩⟩
    simp only [Bool.or_eq_true,beq_iff_eq] at c1
    rcases c1 with c1 | c1
    · have:xs = []:=by
        cases r with
        | nil=>rfl
        | cons a b=>simp at c1
      subst this
      simp
    · subst c1
      simp
  · have c1:(its.toArray.isEmpty || k == 1) = false:=by simpa using c1
    by_cases c2:(decide (k ≤ 0) || its.toArray.isEmpty) = true
    · refine call_meets F.slot_tuple_mul e1 F.entry_tuple_mul (F.args_tuple_mul_2 _ _) (tuple_mul1 l its.toArray n dd sl k t hc0 c1 c2) ⟨ho,?_⟩
      have ez:(List.replicate k.toNat xs).flatten = []:=by
        rw [Bool.or_eq_false_iff] at c1
        rw [c1.1,Bool.or_false] at c2
        have:k.toNat = 0:=by have:=of_decide_eq_true c2; omega
        rw [this]; rfl
      have z:=q1 _ I.fresh
      rw [ez] at z
      exact ⟨.ref _,_,I.laid (t':=s.toks) (o:=.tup []) (fun b ob q=>Heap.get?_push_of_some _ q) (Nat.le_refl _) ⟨Nat.zero_le _,[],.nil,IsTup.new _ _⟩,rfl,z⟩
    · have c2:(decide (k ≤ 0) || its.toArray.isEmpty) = false:=by simpa using c2
      have hk0:0 < k:=by
        rw [Bool.or_eq_false_iff] at c2
        have:=of_decide_eq_false c2.1
        omega
      have hm:(its.toArray.size:Int) * k ≤ sizeLine:=by
        obtain ⟨j,rfl⟩:∃ j:Nat,k = j:=⟨k.toNat,by omega⟩
        rw [List.size_toArray,← hlen]
        simp only [Int.toNat_natCast] at hz
        exact_mod_cast hz
      have hfold:List.foldl (fun x1 x2=>x1 ++ x2) #[] (List.replicate k.toNat its.toArray) = (List.replicate k.toNat its).flatten.toArray:=by
        have:=foldl_rep its k.toNat []
        rw [List.nil_append] at this
        exact this
      have hsl:(sizeLine:Int) ≤ (2 ^ 63 - 1) / 8:=by rw [sizeLine_eq]; decide
      refine call_meets F.slot_tuple_mul e1 F.entry_tuple_mul (F.args_tuple_mul_2 _ _) (tuple_mul2 l its.toArray n dd sl k t hc0 c1 c2 (decide_eq_false (by omega)) (decide_eq_false (by omega)) ?_) ⟨ho,?_⟩
      · rw [hfold,List.size_toArray,len_rep,← hlen,Nat.mul_comm]; exact hz
      · rw [hfold]
        exact ⟨.ref _,_,I.laid (t':=s.toks) (o:=.tup (List.replicate k.toNat xs).flatten) (fun b ob q=>Heap.get?_push_of_some _ q) (Nat.le_refl _) ⟨by rw [len_rep,Nat.mul_comm]; exact hz,_,r.rep k.toNat,IsTup.new _ _⟩,rfl,q1 _ I.fresh⟩
theorem od_mul' (hK:X.K = K):OpR X (binaryOp .Mult) (rD2 K mulD'):=by
  intro pins s σ H x y v u Q I rx ry h
  obtain ⟨fp,B,d,e,r,bk,h1,h2,hf,q⟩:=h
  unfold mulD' at hf
  split at hf
  · rename_i ds k
    obtain ⟨a,xs,rfl,ha,hd⟩:=h1
    cases (show y = .int k from h2)
    split at hf
    · rename_i hc
      cases hf
      refine op_repT hK pins s σ H _ _ v u Q I rx ry ⟨a,k,xs,rfl,rfl,ha.same hid_same,hc.1,hc.2.1,by rw [hd.length]; exact hc.2.2,fun e=>q _ H (Same.refl H) ?_,fun p hp=>q _ _ (Same.upd hp) (new_tup bk hp (DatsAre.rep hd _))⟩
      have:=DatsAre.rep hd k.toNat
      rw [e] at this
      simp only [DatIs]
      exact ⟨a,xs,rfl,ha,this⟩
    · cases hf
  · exact od_mul pins s σ H x y v u Q I rx ry ⟨fp,B,d,e,r,bk,h1,h2,hf,q⟩
end
end L3
namespace L3
open PySem PySem.Spec PyProof.Rows L2
section
variable [Feeds]
noncomputable def IterOk (K:PySem.W.Frag) (P:Hp→List Addr→Prop) (J:It) (items:List PyData):Prop:=∀ H B,P H B →
  (∀ i d,items[i]? = some d→J.go i H ∧ ∀ x H2,J.yld i H x H2→Same H H2 ∧ (BOk H B→DatIs K (hid H2 B) d x)) ∧ J.stop items.length H
noncomputable def TId (K:PySem.W.Frag) (wi:TI) (mi:DE→M (List PyData)):Prop:=∀ (G:GF) (B:List Addr) (E:DE) (F:FS) (σ:St) (H:Hp) (R:It→Hp→Prop) (ds:List PyData) (F':FS),SitE K G B E F σ H→mi E F = some (ds,F') →
  (∀ J H',Kp (fpOf K G) H H'→FAt K G H' F'→IterOk K (fun H2 B2=>Same (hid H' B) (hid H2 B2)) J ds→R J H')→wi σ H R
noncomputable def TIs (K:PySem.W.Frag) (wi:TI) (mi:DE→M (List PyData)):Prop:=∀ (G:GF) (B:List Addr) (E:DE) (F:FS) (σ:St) (H:Hp) (R:It→Hp→Prop) (ds:List PyData) (F':FS),SitE K G B E F σ H→mi E F = some (ds,F') →
  (∀ J H',Kp (fpOf K G) H H'→FAt K G H' F'→IterOk K (fun H2 B2=>Kp (fpOf K G) H' H2 ∧ Same (hid H' B) (hid H2 B2)) J ds→R J H')→wi σ H R
theorem TId.sh {K:PySem.W.Frag} {wi:TI} {mi:DE→M (List PyData)} (h:TId K wi mi):TIs K wi mi:=fun G B E F σ H R ds F' I e q=>h G B E F σ H R ds F' I e fun J H' k f ok=>q J H' k f fun H2 B2 kp=>ok H2 B2 kp.2
structure Ei (K:PySem.W.Frag) (X:Cx) (tg iter:Expr) (wi:TI) (mi:DE→M (List PyData)):Prop where
  pi:PI X tg iter wi
  ok:TId K wi mi
structure Eib (K:PySem.W.Frag) (X:Cx) (tg iter:Expr) (wi:TI) (mi:DE→M (List PyData)):Prop where
  pi:PI X tg iter wi
  ok:TIs K wi mi
variable {K:PySem.W.Frag} {X:Cx} {tg iter e:Expr} {te:TE} {m:DE→M PyData} {pos p:Pos}
theorem Ei.bw {wi:TI} {mi:DE→M (List PyData)} (h:Ei K X tg iter wi mi):Eib K X tg iter wi mi:=⟨h.pi,h.ok.sh⟩
noncomputable def iSeq (K:PySem.W.Frag) (tl:TE):TI:=fun σ H R=>tl σ H fun x H1=>∃ a,x = .ref a ∧ (((∃ xs,SqL K H1 a xs) ∧ R (Itl K a) H1) ∨ ((∃ xs,SqT K H1 a xs) ∧ R (Itt K a) H1))
theorem pi_seq {l:Expr} {tl:TE} (hK:X.K = K) (hl:PE X l tl):PI X tg l (iSeq K tl):=by
  subst hK
  intro pins s σ H R I h
  refine thn (hl pins s σ H _ I h) fun v s1 ⟨x,H1,I1,r1,q1⟩=>?_
  obtain ⟨a,e,q⟩:=q1
  subst e
  cases r1
  rcases q with ⟨⟨xs,hq⟩,q⟩ | ⟨⟨xs,hq⟩,q⟩
  · obtain ⟨its,rv,p,hz⟩:=I1.list hq
    refine wpAny_pyIter_list p.isList ?_
    refine ⟨s1.heap.objs.size,[s1.heap.objs.size],_,_,H1,rfl,I1.kept (t':=s1.toks) fun b o e=>Heap.get?_push_of_some _ e,turn_list a _,⟨_,Heap.get?_push_size _ rfl,rfl,rfl⟩,fun b hb=>?_,q⟩
    have e:b = s1.heap.objs.size:=by simpa using hb
    subst e
    exact I1.fpOk (Nat.le_refl _) (I1.hok.fresh (Nat.le_refl _))
  · obtain ⟨its,rv,p,hz⟩:=I1.tuple hq
    refine wpAny_pyIter_tuple (show s1.heap.IsTuple a its.toArray from p) ?_
    refine ⟨s1.heap.objs.size,[s1.heap.objs.size],_,_,H1,rfl,I1.kept (t':=s1.toks) fun b o e=>Heap.get?_push_of_some _ e,turn_tuple a _,⟨_,Heap.get?_push_size _ rfl,rfl,rfl⟩,fun b hb=>?_,q⟩
    have e:b = s1.heap.objs.size:=by simpa using hb
    subst e
    exact I1.fpOk (Nat.le_refl _) (I1.hok.fresh (Nat.le_refl _))
noncomputable def seqOf:PyData→Option (List PyData)
  | .list ds=>some ds
  | .tuple ds=>some ds
  | _=>none
noncomputable def mSeq (a:DE→M PyData):DE→M (List PyData):=fun E F=>(a E F).bind fun p=>(seqOf p.1).bind fun ds=>some (ds,p.2)
theorem DatsAre.item {H:Hp} {ds:List PyData} {xs:List V} {i:Nat} {d:PyData} (h:DatsAre K H ds xs) (e:ds[i]? = some d):∃ v,xs[i]? = some v ∧ DatIs K H d v:=by
  obtain ⟨hj,_⟩:=List.getElem?_eq_some_iff.mp e
  have hx:xs[i]? = some (xs[i]'(by rw [h.length]; exact hj)):=by simp
  obtain ⟨d',h1,h2⟩:=h.get hx
  rw [e] at h1; cases h1
  exact ⟨_,hx,h2⟩
theorem it_list {P:Hp→List Addr→Prop} {a:Addr} {ds:List PyData} {xs:List V} (h:∀ H B,P H B→H a = some (.lst xs) ∧ DatsAre K (hid H B) ds xs):IterOk K P (Itl K a) ds:=fun H B hp=>by
  obtain ⟨h1,h2⟩:=h H B hp
  refine ⟨fun i d e=>?_,⟨xs,SqL.of h1,by rw [h2.length]; exact Nat.le_refl _⟩⟩
  obtain ⟨v,e1,e2⟩:=DatsAre.item h2 e
  refine ⟨⟨xs,v,SqL.of h1,e1⟩,fun x H2 y=>?_⟩
  obtain ⟨rfl,y⟩:=y
  have:=y xs (SqL.of h1)
  rw [e1] at this; cases this
  exact ⟨Same.refl _,fun _=>e2⟩
theorem it_tup {P:Hp→List Addr→Prop} {a:Addr} {ds:List PyData} {xs:List V} (h:∀ H B,P H B→SqT K H a xs ∧ DatsAre K (hid H B) ds xs):IterOk K P (Itt K a) ds:=fun H B hp=>by
  obtain ⟨h1,h2⟩:=h H B hp
  refine ⟨fun i d e=>?_,⟨xs,h1,by rw [h2.length]; exact Nat.le_refl _⟩⟩
  obtain ⟨v,e1,e2⟩:=DatsAre.item h2 e
  refine ⟨⟨xs,v,h1,e1⟩,fun x H2 y=>?_⟩
  obtain ⟨rfl,y⟩:=y
  have:=y xs h1
  rw [e1] at this; cases this
  exact ⟨Same.refl _,fun _=>e2⟩
theorem ei_seq (h:Ev K X e te m) (hK:X.K = K:=by rfl):Ei K X tg e (iSeq K te) (mSeq m):=⟨pi_seq hK h.pe,fun G B E F σ H R ds F' I e q=>by
  obtain ⟨⟨y,F1⟩,e1,e⟩:=Option.bind_eq_some_iff.mp e
  obtain ⟨z,e2,e⟩:=Option.bind_eq_some_iff.mp e
  cases e
  refine h.ok G B E F σ H _ y F1 I e1 fun v H1 k1 f1 h1=>?_
  cases y with
  | list ys =>
    cases e2
    simp only [DatIs] at h1
    obtain ⟨a,xs,rfl,ha,hd⟩:=h1
    refine ⟨a,rfl,.inl ⟨⟨xs,SqL.of (hid_same _ _ ha)⟩,q _ H1 k1 f1 (it_list fun H2 B2 s=>⟨hid_same _ _ (s _ _ ha),hd.same s⟩)⟩⟩
  | tuple ys =>
    cases e2
    simp only [DatIs] at h1
    obtain ⟨a,xs,rfl,ha,hd⟩:=h1
    refine ⟨a,rfl,.inr ⟨⟨xs,ha.same hid_same⟩,q _ H1 k1 f1 (it_tup fun H2 B2 s=>⟨(ha.same s).same hid_same,hd.same s⟩)⟩⟩
  | _=>cases e2⟩
theorem eib_seq (h:Eb K X e te m) (hK:X.K = K:=by rfl):Eib K X tg e (iSeq K te) (mSeq m):=⟨pi_seq hK h.pe,fun G B E F σ H R ds F' I e q=>by
  obtain ⟨⟨y,F1⟩,e1,e⟩:=Option.bind_eq_some_iff.mp e
  obtain ⟨z,e2,e⟩:=Option.bind_eq_some_iff.mp e
  cases e
  refine h.ok G B E F σ H _ y F1 I e1 fun v H1 k1 f1 h1=>?_
  cases y with
  | list ys =>
    cases e2
    obtain ⟨a,xs,rfl,ha,hd⟩:=h1
    refine ⟨a,rfl,.inl ⟨⟨xs,SqL.of (hid_same _ _ ha)⟩,q _ H1 k1 f1 (it_list fun H2 B2 k=>⟨hid_same _ _ (k.1.hid (B:=fpOf K G) (fun _ z=>z) _ _ ha),hd.same k.2⟩)⟩⟩
  | tuple ys =>
    cases e2
    obtain ⟨a,xs,rfl,ha,hd⟩:=h1
    refine ⟨a,rfl,.inr ⟨⟨xs,ha.same hid_same⟩,q _ H1 k1 f1 (it_tup fun H2 B2 k=>⟨(ha.same k.2).same hid_same,hd.same k.2⟩)⟩⟩
  | _=>cases e2⟩
noncomputable def rngL (lo:Int) (n:Nat):List PyData:=(List.range n).map fun (i:Nat)=>.int (lo + i)
theorem it_rng {P:Hp→List Addr→Prop} {lo:Int} {n:Nat}:IterOk K P (Itr lo n) (rngL lo n):=fun H B _=>by
  refine ⟨fun i d e=>?_,by show n ≤ _; simp [rngL]⟩
  unfold rngL at e
  rw [List.getElem?_map] at e
  obtain ⟨j,e1,rfl⟩:=Option.map_eq_some_iff.mp e
  obtain ⟨hj,e2⟩:=List.getElem?_eq_some_iff.mp e1
  simp at hj e2
  subst e2
  refine ⟨hj,fun x H2 y=>?_⟩
  obtain ⟨rfl,rfl⟩:=y
  exact ⟨Same.refl _,fun _=>DatIs.int⟩
noncomputable def rngOf1:List PyData→Option (List PyData)
  | [.int j]=>if -(2 ^ 62) ≤ j ∧ j < 2 ^ 62 then some (rngL 0 j.toNat) else none
  | _=>none
noncomputable def mRng1 (a:DE→M (List PyData)):DE→M (List PyData):=fun E F=>(a E F).bind fun p=>(rngOf1 p.1).bind fun ds=>some (ds,p.2)
theorem ei_rng1 {a:Expr} {ta:TA} {ms:DE→M (List PyData)} (h:Ea K X [a] ta ms) (hm:X.mg "range" = none) (hg:Gl X "range":=by rfl) (hs:starEach [a] X.env = [(false,eval a X.env)]:=by rfl):Ei K X tg (.Call (.Name "range" p) [a] [] pos) (iRng1 ta) (mRng1 ms):=⟨pi_range1 hg hm h.pa hs,fun G B E F σ H R ds F' I e q=>by
  obtain ⟨⟨ys,F1⟩,e1,e⟩:=Option.bind_eq_some_iff.mp e
  obtain ⟨z,e2,e⟩:=Option.bind_eq_some_iff.mp e
  cases e
  refine h.ok G B E F σ H _ ys F1 I e1 fun vs H1 k1 f1 h1=>?_
  unfold rngOf1 at e2
  split at e2
  · rename_i j hj
    split at e2
    · rename_i hc
      cases e2
      have hj:ys = [.int j]:=hj
      subst hj
      simp only [DatsAre] at h1
      obtain ⟨x,r,rfl,h2,rfl⟩:=h1
      simp only [DatIs] at h2
      subst h2
      exact ⟨j,rfl,hc.1,hc.2,q _ H1 k1 f1 it_rng⟩
    · cases e2
  · cases e2⟩
noncomputable def TGd (K:PySem.W.Frag) (g:TG) (bd:PyData→DE→Option DE):Prop:=∀ (G:GF) (B:List Addr) (E:DE) (F:FS) (σ:St) (H:Hp) (x:V) (d:PyData) (E':DE) (Q:St→Hp→Prop),SitE K G B E F σ H→DatIs K (hid H B) d x→bd d E = some E' →
  (∀ σ',SitE K G B E' F σ' H→(∀ i:Nat,(∀ y,E'[i]? ≠ some (some (.dat y)))→E'[i]? = E[i]? ∧ σ'[i]? = σ[i]?)→Q σ' H)→g x σ H Q
noncomputable def TGsd (K:PySem.W.Frag) (g:TGs) (bd:List PyData→DE→Option DE):Prop:=∀ (G:GF) (B:List Addr) (E:DE) (F:FS) (σ:St) (H:Hp) (xs:List V) (ds:List PyData) (E':DE) (Q:St→Hp→Prop),SitE K G B E F σ H→DatsAre K (hid H B) ds xs→bd ds E = some E' →
  (∀ σ',SitE K G B E' F σ' H→(∀ i:Nat,(∀ y,E'[i]? ≠ some (some (.dat y)))→E'[i]? = E[i]? ∧ σ'[i]? = σ[i]?)→Q σ' H)→g xs σ H Q
structure Eg (K:PySem.W.Frag) (X:Cx) (tg:Expr) (g:TG) (bd:PyData→DE→Option DE):Prop where
  pg:PG X tg g
  ok:TGd K g bd
structure Egs (K:PySem.W.Frag) (X:Cx) (tgs:List Expr) (g:TGs) (bd:List PyData→DE→Option DE):Prop where
  pg:PGs X tgs g
  ok:TGsd K g bd
noncomputable def bN (i:Nat):PyData→DE→Option DE:=fun d E=>if i < E.length then some (E.set i (some (.dat d))) else none
theorem SitE.set {G:GF} {B:List Addr} {E:DE} {F:FS} {σ:St} {H:Hp} {i:Nat} {d:PyData} {v:V} (I:SitE K G B E F σ H) (h:DatIs K (hid H B) d v) (hi:i < E.length):SitE K G B (E.set i (some (.dat d))) F (σ.set i (some v)) H:=by
  refine ⟨I.fd,I.fB,I.bk,by rw [List.length_set,List.length_set]; exact I.ln,fun j x e=>?_⟩
  have hs:i < σ.length:=by rw [← I.ln]; exact hi
  by_cases hj:i = j
  · subst hj
    rw [List.getElem?_set_self hi] at e
    cases e
    exact ⟨v,by rw [List.getElem?_set_self hs],h⟩
  · rw [List.getElem?_set_ne hj] at e
    rw [List.getElem?_set_ne hj]
    exact I.loc j x e
theorem eg_n {i:Nat} {x:Str} (hN:X.N.Nodup) (hi:X.N[i]? = some x:=by rfl) (hx:Loc X.env.scope x:=by first | exact Or.inl rfl | exact Or.inr rfl) (hf:X.fn x = true ∨ X.env.scope.names.lookup x = some .local:=by first | exact .inl rfl | exact .inr rfl | assumption):Eg K X (.Name x pos) (gName i) (bN i):=⟨pg_name hN hi hx hf,fun G B E F σ H x d E' Q I h e q=>by
  unfold bN at e
  split at e
  · rename_i hl
    cases e
    refine q _ (I.set h hl) fun j hj=>?_
    by_cases hij:i = j
    · subst hij
      exact absurd (List.getElem?_set_self hl) (hj d)
    · rw [List.getElem?_set_ne hij,List.getElem?_set_ne hij]
      exact ⟨rfl,rfl⟩
  · cases e⟩
noncomputable def bNil:List PyData→DE→Option DE:=fun ds E=>if ds.isEmpty then some E else none
noncomputable def bCons (a:PyData→DE→Option DE) (r:List PyData→DE→Option DE):List PyData→DE→Option DE
  | d :: ds,E=>(a d E).bind fun E1=>r ds E1
  | [],_=>none
theorem egs_nil:Egs K X [] gNil bNil:=⟨pgs_nil,fun G B E F σ H xs ds E' Q I h e q=>by
  cases ds with
  | nil=>cases e; simp only [DatsAre] at h; exact ⟨h,q σ I fun _ _=>⟨rfl,rfl⟩⟩
  | cons d r=>cases e⟩
theorem egs_cons {es:List Expr} {t:TG} {u:TGs} {ba:PyData→DE→Option DE} {br:List PyData→DE→Option DE} (h1:Eg K X e t ba) (h2:Egs K X es u br)
    (hs:(assignEach (e :: es) X.env).map (·.2) = assign e X.env :: (assignEach es X.env).map (·.2):=by rfl):Egs K X (e :: es) (gCons t u) (bCons ba br):=⟨pgs_cons h1.pg h2.pg hs,fun G B E F σ H xs ds E' Q I h e q=>by
  cases ds with
  | nil=>cases e
  | cons d r =>
    obtain ⟨E1,e1,e⟩:=Option.bind_eq_some_iff.mp e
    simp only [DatsAre] at h
    obtain ⟨x,rr,rfl,hx,hr⟩:=h
    refine ⟨x,rr,rfl,h1.ok G B E F σ H x d E1 _ I hx e1 fun σ1 I1 k1=>?_⟩
    refine h2.ok G B E1 F σ1 H rr r E' _ I1 hr e fun σ2 I2 k2=>q σ2 I2 fun i hi=>?_
    obtain ⟨a1,a2⟩:=k2 i hi
    obtain ⟨b1,b2⟩:=k1 i (fun y z=>hi y (a1.trans z))
    exact ⟨a1.trans b1,a2.trans b2⟩⟩
noncomputable def bTup (n:Nat) (r:List PyData→DE→Option DE):PyData→DE→Option DE
  | .tuple ds,E=>if ds.length = n then r ds E else none
  | _,_=>none
theorem eg_tup {es:List Expr} {k:Nat} {t:TGs} {n:Nat} {br:List PyData→DE→Option DE} (hc:X.calm = true) (h:Egs K X es t br) (hK:X.K = K:=by rfl)
    (hn:(assignEach es X.env).length = n:=by rfl) (hst:(assignEach es X.env).findIdx? (·.1) = none:=by rfl):Eg K X (.Tuple es k pos) (gTup K n t) (bTup n br):=⟨pg_tupK hK hc h.pg hn hst,fun G B E F σ H x d E' Q I hd e q=>by
  cases d <;> simp only [bTup] at e <;> try cases e
  split at e
  · rename_i hl
    simp only [DatIs] at hd
    obtain ⟨a,xs,rfl,ha,hx⟩:=hd
    exact ⟨a,xs,rfl,ha.same hid_same,by rw [hx.length]; exact hl,h.ok G B E F σ H xs _ E' Q I hx e q⟩
  · cases e⟩
noncomputable def capE (k:Nat) (cap:List Nat) (E:DE):DE:=List.replicate k none ++ cap.map fun j=>(E[j]?).join
theorem SitE.cap {G:GF} {B:List Addr} {E:DE} {F:FS} {σ:St} {H:Hp} (I:SitE K G B E F σ H) (k:Nat) (cap:List Nat):SitE K G B (capE k cap E) F (capt k cap σ) H:=by
  refine ⟨I.fd,I.fB,I.bk,by simp [capE,capt],fun i x e=>?_⟩
  unfold capE at e
  by_cases hi:i < k
  · rw [List.getElem?_append_left (by simpa using hi),List.getElem?_replicate,if_pos hi] at e
    cases e
  · rw [List.getElem?_append_right (by simpa using hi),List.length_replicate,List.getElem?_map] at e
    obtain ⟨j,hj,hv⟩:=Option.map_eq_some_iff.mp e
    have hE:E[j]? = some (some x):=by
      cases q:E[j]? with
      | none=>rw [q] at hv; cases hv
      | some o=>rw [q] at hv; exact congrArg some hv
    obtain ⟨v,h1,h2⟩:=I.loc j x hE
    refine ⟨v,?_,h2⟩
    unfold capt
    rw [List.getElem?_append_right (by simpa using hi),List.length_replicate,List.getElem?_map,hj,Option.map_some,h1]
    rfl
theorem SitE.more {G:GF} {B:List Addr} {E:DE} {F:FS} {σ:St} {H:Hp} {D:Addr} {o:HO} (I:SitE K G B E F σ H) (hD:H D = none):SitE K G (D :: B) E F σ (upd H D o):=by
  have hn:D ∉ B:=I.bk.nin hD
  have e1:hid (upd H D o) (D :: B) = hid H B:=by
    funext b
    by_cases hb:b = D
    · subst hb; rw [hid_in List.mem_cons_self,hid_out hn,hD]
    · by_cases hB:b ∈ B
      · rw [hid_in hB,hid_in (List.mem_cons_of_mem _ hB)]
      · rw [hid_out hB,hid_out (by simp [hb,hB]),upd_ne hb]
  refine ⟨I.fd.same (Same.upd hD),fun b hb=>List.mem_cons_of_mem _ (I.fB b hb),fun b hb=>?_,I.ln,fun i x e=>?_⟩
  · rcases List.mem_cons.mp hb with rfl | hb
    · exact ⟨o,upd_same⟩
    · obtain ⟨u,e⟩:=I.bk b hb
      exact ⟨u,by rw [upd_ne (ne_of_none e hD)]; exact e⟩
  · obtain ⟨v,h1,h2⟩:=I.loc i x e
    refine ⟨v,h1,?_⟩
    cases x with
    | dat d=>show DatIs K (hid (upd H D o) (D :: B)) d v; rw [e1]; exact h2
    | feed=>exact h2
    | fn _=>exact h2
    | adr _=>exact h2
    | own ds =>
      obtain ⟨a,xs,ea,hB,hf,ha,hd⟩:=h2
      exact ⟨a,xs,ea,List.mem_cons_of_mem _ hB,hf,by rw [upd_ne (ne_of_none ha hD)]; exact ha,by rw [e1]; exact hd⟩
theorem SitE.wr {G:GF} {B:List Addr} {E:DE} {F:FS} {σ:St} {H:Hp} {D:Addr} {o:HO} (I:SitE K G (D :: B) E F σ H) (hf:D ∉ fpOf K G) (hown:∀ (i:Nat) (ds:List PyData),E[i]? = some (some (DV.own ds))→σ[i]? ≠ some (some (V.ref D))) {acc:List V} (hD:H D = some (.lst acc)):SitE K G (D :: B) E F σ (upd H D o):=by
  have e1:hid (upd H D o) (D :: B) = hid H (D :: B):=hid_upd List.mem_cons_self
  refine ⟨I.fd.congr fun b hb=>upd_ne (fun e=>hb.elim (fun hb=>hf (e ▸ hb)) fun ⟨φ,q⟩=>by rw [e,hD] at q; cases q),I.fB,fun b hb=>?_,I.ln,fun i x e=>?_⟩
  · by_cases h:b = D
    · subst h; exact ⟨o,upd_same⟩
    · rw [upd_ne h]; exact I.bk b hb
  · obtain ⟨v,h1,h2⟩:=I.loc i x e
    refine ⟨v,h1,?_⟩
    cases x with
    | dat d=>show DatIs K (hid (upd H D o) (D :: B)) d v; rw [e1]; exact h2
    | feed=>exact h2
    | fn _=>exact h2
    | adr _=>exact h2
    | own ds =>
      obtain ⟨a,xs,rfl,hB,hfa,ha,hd⟩:=h2
      have hne:a ≠ D:=fun z=>hown i ds e (by rw [← z]; exact h1)
      exact ⟨a,xs,rfl,hB,hfa,by rw [upd_ne hne]; exact ha,by rw [e1]; exact hd⟩
structure Ets (K:PySem.W.Frag) (X:Cx) (ifs:List Expr) (tt:TT) (m:DE→M Bool):Prop where
  pts:PTs X ifs tt
  ok:TTd K tt m
noncomputable def uYes:DE→M Bool:=fun _ F=>some (true,F)
theorem ets_nil:Ets K X [] tNoT uYes:=⟨pts_nil,fun G B E F σ H Q b F' I e q=>by cases e; exact q H Kp.refl I.fd⟩
theorem ets_one {c:Expr} {tt:TT} {mt:DE→M Bool} (h:Et K X c tt mt):Ets K X [c] tt mt:=⟨pts_one h.pt,h.ok⟩
noncomputable def lcGo (bd:PyData→DE→Option DE) (mt:DE→M Bool) (me:DE→M PyData):List PyData→DE→M (List PyData)
  | [],_,F=>some ([],F)
  | d :: r,E,F=>(bd d E).bind fun E1=>(mt E1 F).bind fun p=>if p.1 = true then (me E1 p.2).bind fun y=>(lcGo bd mt me r E1 y.2).bind fun z=>some (y.1 :: z.1,z.2) else lcGo bd mt me r E1 p.2
noncomputable def sLC (mi:DE→M (List PyData)) (k:Nat) (cap:List Nat) (bd:PyData→DE→Option DE) (mt:DE→M Bool) (me:DE→M PyData):DE→M PyData:=fun E F =>
  (mi E F).bind fun p=>if p.1.length ≤ sizeLine then (lcGo bd mt me p.1 (capE k cap E) p.2).bind fun z=>some (.list z.1,z.2) else none
noncomputable def LcInv (K:PySem.W.Frag) (G:GF) (B:List Addr) (D:Addr) (H1:Hp) (bd:PyData→DE→Option DE) (mt:DE→M Bool) (me:DE→M PyData) (items whole:List PyData) (Fz:FS) (i:Nat) (σ:St) (acc:List V) (H:Hp):Prop :=
  ∃ E F done rest,SitE K G (D :: B) E F σ H ∧ H D = some (.lst acc) ∧ Kp (fpOf K G) H1 H ∧ (∀ (j:Nat) (ds:List PyData),E[j]? = some (some (DV.own ds))→σ[j]? ≠ some (some (V.ref D))) ∧ DatsAre K (hid H (D :: B)) done acc ∧ lcGo bd mt me (items.drop i) E F = some (rest,Fz) ∧ whole = done ++ rest ∧ done.length ≤ i
noncomputable def TFd (K:PySem.W.Frag) (te:TE) (m:DE→M (List PyData)):Prop:=∀ (G:GF) (B:List Addr) (E:DE) (F:FS) (σ:St) (H:Hp) (Q:VK) (ds:List PyData) (F':FS),SitE K G B E F σ H→m E F = some (ds,F') →
  (∀ a vs H',H a = none→H' a = some (.lst vs)→Kp (fpOf K G) H H'→FAt K G H' F'→DatsAre K (hid H' (a :: B)) ds vs→Q (.ref a) H')→te σ H Q
theorem Kp.none {fp:List Addr} {H H':Hp} {b:Addr} (k:Kp fp H H') (h:H' b = none) (n:b ∉ fp):H b = none:=by
  cases q:H b with
  | none=>rfl
  | some o=>rw [k b o q n] at h; cases h
noncomputable def fLC (mi:DE→M (List PyData)) (k:Nat) (cap:List Nat) (bd:PyData→DE→Option DE) (mt:DE→M Bool) (me:DE→M PyData):DE→M (List PyData):=fun E F =>
  (mi E F).bind fun p=>if p.1.length ≤ sizeLine then (lcGo bd mt me p.1 (capE k cap E) p.2).bind fun z=>some (z.1,z.2) else none
theorem lcf_d {wi:TI} {mi:DE→M (List PyData)} {k:Nat} {cap:List Nat} {g:TG} {bd:PyData→DE→Option DE} {tt:TT} {mt:DE→M Bool} {me:DE→M PyData} (hi:TIs K wi mi) (hg:TGd K g bd) (ht:TTd K tt mt) (he:TEd K te me) :
    TFd K (tLC wi k cap g tt te) (fLC mi k cap bd mt me):=fun G B E F σ H Q d F' I e q=>by
  obtain ⟨⟨items,F1⟩,e1,e⟩:=Option.bind_eq_some_iff.mp e
  split at e
  · rename_i hsz
    obtain ⟨⟨whole,F2⟩,e2,e⟩:=Option.bind_eq_some_iff.mp e
    cases e
    refine hi G B E F σ H _ items F1 I e1 fun J H1 k1 f1 ok D hD=>?_
    have I1:SitE K G B E F1 σ H1:=I.step k1 f1
    have hBD:D ∉ B:=I1.bk.nin hD
    have hfD:D ∉ fpOf K G:=fun z=>hBD (I.fB D z)
    have hsz:items.length ≤ sizeLine:=hsz
    have stab:∀ {H':Hp},Kp (fpOf K G) H1 H'→Kp (fpOf K G) H1 H' ∧ Same (hid H1 B) (hid H' (D :: B)):=fun {H'} k=>⟨k,fun b o eb=>by
      by_cases hb:b ∈ B
      · rw [hid_in hb] at eb; cases eb
      · rw [hid_out hb] at eb
        rw [hid_out (by
          intro z
          rcases List.mem_cons.mp z with rfl | z
          · rw [hD] at eb; cases eb
          · exact hb z)]
        exact k b o eb fun z=>hb (I.fB b z)⟩
    refine lc_gen items.length (LcInv K G B D H1 bd mt me items whole F2) ?_ ?_ ?_ ?_ ?_
    · refine ⟨capE k cap E,F1,[],whole,(I1.cap k cap).more hD,upd_same,Kp.upd hD,fun j ds ej z=>?_,DatsAre.nil,e2,rfl,Nat.le_refl _⟩
      obtain ⟨v,v1,a,xs,rfl,_,_,ha,_⟩:=(I1.cap k cap).loc j _ ej
      rw [v1] at z
      cases z
      rw [hD] at ha; cases ha
    · rintro i σ' acc H' hlt ⟨E',F3,done,rest,I2,hD2,k2,ow,hd2,e3,ew,hdi⟩
      exact ((ok H' (D :: B) (stab k2)).1 i items[i] (by simp [hlt])).1
    · rintro σ' acc H' ⟨E',F3,done,rest,I2,hD2,k2,ow,hd2,e3,ew,hdi⟩
      exact (ok H' (D :: B) (stab k2)).2
    · rintro i σ' acc H' hlt ⟨E',F3,done,rest,I2,hD2,k2,ow,hd2,e3,ew,hdi⟩ x H2 y R hR
      obtain ⟨s2,hx⟩:=((ok H' (D :: B) (stab k2)).1 i items[i] (by simp [hlt])).2 x H2 y
      have hx':=hx I2.bk
      rw [List.drop_eq_getElem_cons hlt,lcGo] at e3
      obtain ⟨E4,e4,e3⟩:=Option.bind_eq_some_iff.mp e3
      obtain ⟨⟨b,F5⟩,e5,e3⟩:=Option.bind_eq_some_iff.mp e3
      have I3:SitE K G (D :: B) E' F3 σ' H2:=I2.step (Kp.same s2) (I2.fd.same s2)
      refine hg G (D :: B) E' F3 σ' H2 x items[i] E4 _ I3 hx' e4 fun σ4 I4 fr=>?_
      have ow4:∀ (j:Nat) (ds:List PyData),E4[j]? = some (some (DV.own ds))→σ4[j]? ≠ some (some (V.ref D)):=fun j ds ej=>by
        obtain ⟨a1,a2⟩:=fr j fun y z=>by rw [ej] at z; cases z
        rw [a2]; exact ow j ds (a1 ▸ ej)
      refine ht G (D :: B) E4 F3 σ4 H2 _ b F5 I4 e5 fun H5 k5 f5=>?_
      have kall:Kp (fpOf K G) H1 H5:=(k2.trans (Kp.same s2)).trans k5
      have I5:SitE K G (D :: B) E4 F5 σ4 H5:=I4.step k5 f5
      have hD5:H5 D = some (.lst acc):=k5 D _ (s2 D _ hD2) hfD
      have hd5:DatsAre K (hid H5 (D :: B)) done acc:=(hd2.same ((Kp.same s2).hid (fp:=[]) (by simp))).same (k5.hid I4.fB)
      cases b with
      | false =>
        exact ⟨hD5,hR _ _ _ ⟨E4,F5,done,rest,I5,hD5,kall,ow4,hd5,e3,ew,by omega⟩⟩
      | true =>
        obtain ⟨⟨yd,F6⟩,e6,e3⟩:=Option.bind_eq_some_iff.mp e3
        obtain ⟨⟨zs,F7⟩,e7,e3⟩:=Option.bind_eq_some_iff.mp e3
        cases e3
        refine he G (D :: B) E4 F5 σ4 H5 _ yd F6 I5 e6 fun v H6 k6 f6 h6=>?_
        have hD6:H6 D = some (.lst acc):=k6 D _ hD5 hfD
        have I6:SitE K G (D :: B) E4 F6 σ4 H6:=I5.step k6 f6
        have hd6:=hd5.same (k6.hid I5.fB)
        have hlen:acc.length < sizeLine:=by rw [hd2.length]; omega
        refine ⟨hD6,hlen,hR _ _ _ ⟨E4,F6,done ++ [yd],zs,I6.wr hfD ow4 hD6,upd_same,fun b o eb nb=>?_,ow4,?_,e7,by rw [ew]; simp,by simp; omega⟩⟩
        · have:=k6 b o (kall b o eb nb) nb
          rw [upd_ne]; exact this
          intro z; subst z; rw [hD] at eb; cases eb
        · rw [hid_upd List.mem_cons_self]
          exact hd6.snoc h6
    · rintro σ' acc H' ⟨E',F3,done,rest,I2,hD2,k2,ow,hd2,e3,ew,hdi⟩
      rw [List.drop_length,lcGo] at e3
      cases e3
      rw [List.append_nil] at ew
      subst ew
      exact q D acc H' (k1.none hD hfD) hD2 (k1.trans k2) I2.fd hd2
  · cases e
theorem lc_d {wi:TI} {mi:DE→M (List PyData)} {k:Nat} {cap:List Nat} {g:TG} {bd:PyData→DE→Option DE} {tt:TT} {mt:DE→M Bool} {me:DE→M PyData} (hi:TIs K wi mi) (hg:TGd K g bd) (ht:TTd K tt mt) (he:TEd K te me) :
    TEd K (tLC wi k cap g tt te) (sLC mi k cap bd mt me):=fun G B E F σ H Q d F' I e q=>by
  obtain ⟨ds,rfl,ef⟩:∃ ds,d = .list ds ∧ fLC mi k cap bd mt me E F = some (ds,F'):=by
    obtain ⟨⟨items,F1⟩,e1,e⟩:=Option.bind_eq_some_iff.mp e
    split at e
    · rename_i hsz
      obtain ⟨⟨whole,F2⟩,e2,e⟩:=Option.bind_eq_some_iff.mp e
      cases e
      refine ⟨whole,rfl,?_⟩
      unfold fLC
      rw [e1,Option.bind_some,if_pos hsz,e2]; rfl
    · cases e
  exact lcf_d hi hg ht he G B E F σ H Q ds F' I ef fun z ws H' hz hw k1 f1 hd=>q _ H' k1 f1 (DatIs.lst (by rw [hid_out (I.bk.nin hz)]; exact hw) (hd.same (hid_sub fun b hb=>List.mem_cons_of_mem _ hb)))
theorem ev_lc {elt:Expr} {ifs:List Expr} {scope osc:Scope} {N:List Str} {k:Nat} {cap:List Nat} {wi:TI} {g:TG} {tt:TT} {mi:DE→M (List PyData)} {bd:PyData→DE→Option DE} {mt:DE→M Bool} {me:DE→M PyData}
    (hc:X.calm = true) (hosc:X.env.scope = osc) (hcap:Caps X.N osc N k cap scope) (hi:Eib K X tg iter wi mi)
    (hg:∀ cl C ex pins s H,Eg K (cxC X N scope cl C ex pins s H) tg g bd)
    (ht:∀ cl C ex pins s H,Ets K (cxC X N scope cl C ex pins s H) ifs tt mt)
    (he:∀ cl C ex pins s H,Ev K (cxC X N scope cl C ex pins s H) elt te me)
    (hs:∀ x,foldedSetIterable iter X.env x = pure x:=by intro _; rfl) :
    Ev K X (.ListComp elt [⟨tg,iter,ifs,0⟩] scope pos) (tLC wi k cap g tt te) (sLC mi k cap bd mt me) :=
  ⟨pe_lc hc hosc hcap hi.pi (fun cl C ex pins s H=>(hg cl C ex pins s H).pg) (fun cl C ex pins s H=>(ht cl C ex pins s H).pts) (fun cl C ex pins s H=>(he cl C ex pins s H).pe) hs,
    lc_d hi.ok (hg [] 0 [] [] X.s₀ X.H₀).ok (ht [] 0 [] [] X.s₀ X.H₀).ok (he [] 0 [] [] X.s₀ X.H₀).ok⟩
end
end L3
namespace L3
open PySem PySem.Spec PyProof.Rows L2
section
variable [Feeds]
inductive Out where
  | nx (E:DE) | rt (d:PyData) | bk (E:DE) | ct (E:DE)
structure Sit (K:PySem.W.Frag) (G:GF) (B0:List Addr) (H0:Hp) (E:DE) (F:FS) (σ:St) (H:Hp):Prop where
  ex:∃ B,(∀ b ∈ B0,b ∈ B) ∧ (∀ b ∈ B,b ∈ B0 ∨ H0 b = none) ∧ SitE K G B E F σ H
  fB:∀ b ∈ fpOf K G,b ∈ B0
  kp:Kp (fpOf K G) H0 H
  own:∀ (i:Nat) (ds:List PyData) (a:Addr),E[i]? = some (some (DV.own ds))→σ[i]? = some (some (V.ref a))→H0 a = none ∧ a ∉ B0
  inj:∀ (i j:Nat) (ds es:List PyData) (a:Addr),E[i]? = some (some (DV.own ds))→E[j]? = some (some (DV.own es))→σ[i]? = some (some (V.ref a))→σ[j]? = some (some (V.ref a))→i = j
noncomputable def OutOk (K:PySem.W.Frag) (G:GF) (B0:List Addr) (H0:Hp) (F:FS) (D:Ends):Out→Prop
  | .nx E=>∀ σ H,Sit K G B0 H0 E F σ H→D.nx σ H
  | .bk E=>∀ σ H,Sit K G B0 H0 E F σ H→D.bk σ H
  | .ct E=>∀ σ H,Sit K G B0 H0 E F σ H→D.ct σ H
  | .rt d=>∀ v H,Kp (fpOf K G) H0 H→FAt K G H F→DatIs K (hid H B0) d v→D.rt v H
noncomputable def TSd (K:PySem.W.Frag) (ts:TS) (m:DE→M Out):Prop:=∀ (G:GF) (B0:List Addr) (H0:Hp) (E:DE) (F:FS) (σ:St) (H:Hp) (D:Ends) (r:Out) (F':FS),Sit K G B0 H0 E F σ H→m E F = some (r,F')→OutOk K G B0 H0 F' D r→ts D σ H
structure Ss (K:PySem.W.Frag) (X:Cx) (st:Stmt) (ts:TS) (m:DE→M Out):Prop where
  ps:PS X st ts
  ok:TSd K ts m
structure Sss (K:PySem.W.Frag) (X:Cx) (sts:List Stmt) (ts:TS) (m:DE→M Out):Prop where
  ps:PSs X sts ts
  ok:TSd K ts m
variable {K:PySem.W.Frag} {X:Cx} {a b c e tg iter:Expr} {es:List Expr} {st:Stmt} {sts rest:List Stmt} {ta tb te:TE} {ma mb m:DE→M PyData} {t u:TS} {mt mu:DE→M Out} {pos pos' p p2:Pos}
theorem Sit.step {G:GF} {B0:List Addr} {H0:Hp} {E:DE} {F F':FS} {σ:St} {H H':Hp} (S:Sit K G B0 H0 E F σ H) (k:Kp (fpOf K G) H H') (f:FAt K G H' F'):Sit K G B0 H0 E F' σ H':=by
  obtain ⟨B,s,sn,I⟩:=S.ex
  exact ⟨⟨B,s,sn,I.step k f⟩,S.fB,S.kp.trans k,S.own,S.inj⟩
noncomputable def mNx:DE→M Out:=fun E F=>some (.nx E,F)
noncomputable def mSq (a b:DE→M Out):DE→M Out:=fun E F=>(a E F).bind fun p=>match p.1 with
  | .nx E1=>b E1 p.2
  | o=>some (o,p.2)
theorem ss_nil:Sss K X [] tNext mNx:=⟨pss_nil,fun G B0 H0 E F σ H D r F' S e q=>by cases e; exact q σ H S⟩
theorem ss_cons (h1:Ss K X st t mt) (h2:Sss K X rest u mu):Sss K X (st :: rest) (tSeq t u) (mSq mt mu):=⟨pss_cons h1.ps h2.ps,fun G B0 H0 E F σ H D r F' S e q=>by
  obtain ⟨⟨o,F1⟩,e1,e⟩:=Option.bind_eq_some_iff.mp e
  refine h1.ok G B0 H0 E F σ H _ o F1 S e1 ?_
  cases o with
  | nx E1=>exact fun σ' H' S'=>h2.ok G B0 H0 E1 F1 σ' H' D r F' S' e q
  | rt d=>cases e; exact q
  | bk E1=>cases e; exact q
  | ct E1=>cases e; exact q⟩
theorem ss_one (h1:Ss K X st t mt):Sss K X [st] t mt:=⟨pss_one h1.ps,h1.ok⟩
noncomputable def mRt (a:DE→M PyData):DE→M Out:=fun E F=>(a E F).bind fun p=>some (.rt p.1,p.2)
theorem st_ret (h:Ev K X e te m):Ss K X (.Return (some e) pos) (tRet te) (mRt m):=⟨ps_ret h.pe,fun G B0 H0 E F σ H D r F' S e q=>by
  obtain ⟨⟨d,F1⟩,e1,e⟩:=Option.bind_eq_some_iff.mp e
  cases e
  obtain ⟨B,s,sn,I⟩:=S.ex
  exact h.ok G B E F σ H _ d F1 I e1 fun v H1 k1 f1 h1=>q v H1 (S.kp.trans k1) f1 (h1.same (hid_sub s))⟩
theorem st_retW (i:Nat) {x:Str} (hN:X.N[i]? = some x:=by rfl) (hv:Vis X.env.scope x:=by first | exact Or.inl rfl | exact Or.inr (Or.inl rfl) | exact Or.inr (Or.inr rfl)) (hd:(x == ("__debug__":Str)) = false:=by decide)
    (hcd:(x == ("__classdict__":Str)) = false:=by decide):Ss K X (.Return (some (.Name x p)) pos) (tRet (tVar i)) (mRt (sW i)):=⟨ps_ret (pe_var hN hv hd hcd),fun G B0 H0 E F σ H D r F' S e q=>by
  obtain ⟨⟨d,F1⟩,e1,e⟩:=Option.bind_eq_some_iff.mp e
  cases e
  obtain ⟨B,s,sn,I⟩:=S.ex
  unfold sW at e1
  split at e1
  · rename_i x hx
    cases e1
    obtain ⟨v,h1,h2⟩:=I.loc i _ hx
    exact ⟨v,h1,q v H S.kp I.fd (DatIs.same h2 (hid_sub s))⟩
  · rename_i x hx
    cases e1
    obtain ⟨v,h1,p,xs,rfl,hB,hf,hp,hd⟩:=I.loc i _ hx
    obtain ⟨n1,n2⟩:=S.own i x p hx h1
    exact ⟨_,h1,q _ H S.kp I.fd (DatIs.lst (by rw [hid_out n2]; exact hp) (hd.same (hid_sub s)))⟩
  · cases e1⟩
noncomputable def mSet (i:Nat) (a:DE→M PyData):DE→M Out:=fun E F=>(a E F).bind fun p=>(bN i p.1 E).bind fun E1=>some (.nx E1,p.2)
theorem Sit.bind {G:GF} {B0 B:List Addr} {H0:Hp} {E E':DE} {F F':FS} {σ σ':St} {H:Hp} (S:Sit K G B0 H0 E F σ H) (s:∀ b ∈ B0,b ∈ B) (sn:∀ b ∈ B,b ∈ B0 ∨ H0 b = none) (I:SitE K G B E' F' σ' H) (fr:∀ i:Nat,(∀ y,E'[i]? ≠ some (some (.dat y)))→E'[i]? = E[i]? ∧ σ'[i]? = σ[i]?):Sit K G B0 H0 E' F' σ' H:=by
  refine ⟨⟨B,s,sn,I⟩,S.fB,S.kp,fun i ds a ei si=>?_,fun i j ds es a ei ej si sj=>?_⟩
  · obtain ⟨a1,a2⟩:=fr i fun y z=>by rw [ei] at z; cases z
    exact S.own i ds a (a1 ▸ ei) (a2 ▸ si)
  · obtain ⟨a1,a2⟩:=fr i fun y z=>by rw [ei] at z; cases z
    obtain ⟨b1,b2⟩:=fr j fun y z=>by rw [ej] at z; cases z
    exact S.inj i j ds es a (a1 ▸ ei) (b1 ▸ ej) (a2 ▸ si) (b2 ▸ sj)
theorem asg_d {g:TG} {bd:PyData→DE→Option DE} (he:TEd K te m) (hg:TGd K g bd):TSd K (tAsg te g) (fun E F=>(m E F).bind fun p=>(bd p.1 E).bind fun E1=>some (.nx E1,p.2)):=fun G B0 H0 E F σ H D r F' S e q=>by
  obtain ⟨⟨d,F1⟩,e1,e⟩:=Option.bind_eq_some_iff.mp e
  obtain ⟨E1,e2,e⟩:=Option.bind_eq_some_iff.mp e
  cases e
  obtain ⟨B,s,sn,I⟩:=S.ex
  refine he G B E F σ H _ d F1 I e1 fun v H1 k1 f1 h1=>?_
  have S1:=S.step k1 f1
  exact hg G B E F1 σ H1 v d E1 _ (I.step k1 f1) h1 e2 fun σ' I' fr=>q σ' H1 (S1.bind s sn I' fr)
theorem name_d (i:Nat):TGd K (gName i) (bN i):=fun G B E F σ H x d E' Q I h e q=>by
  unfold bN at e
  split at e
  · rename_i hl
    cases e
    refine q _ (I.set h hl) fun j hj=>?_
    by_cases hij:i = j
    · subst hij
      exact absurd (List.getElem?_set_self hl) (hj d)
    · rw [List.getElem?_set_ne hij,List.getElem?_set_ne hij]
      exact ⟨rfl,rfl⟩
  · cases e
theorem st_set (i:Nat) {x:Str} (hN:X.N.Nodup) (he:Ev K X e te m) (hi:X.N[i]? = some x:=by rfl) (hx:Loc X.env.scope x:=by first | exact Or.inl rfl | exact Or.inr rfl) (hs:swapsWith e (some (.Name x pos')) pos.line X.env = pure false:=by rfl) (hf:X.fn x = true ∨ X.env.scope.names.lookup x = some .local:=by first | exact .inl rfl | exact .inr rfl | assumption) :
    Ss K X (.Assign [.Name x pos'] e pos) (tAsg te (gName i)) (mSet i m):=⟨ps_set hN hi hx he.pe hs hf,asg_d he.ok (name_d i)⟩
noncomputable def mAsg (bd:PyData→DE→Option DE) (a:DE→M PyData):DE→M Out:=fun E F=>(a E F).bind fun p=>(bd p.1 E).bind fun E1=>some (.nx E1,p.2)
theorem st_asg {g:TG} {bd:PyData→DE→Option DE} (he:Ev K X e te m) (hg:Eg K X tg g bd) (hs:swapsWithSole [tg] e pos.line X.env = pure false:=by rfl) (hw:swappedStores [tg] e X.env = pure none:=by rfl)
    (h1:(assignEach [tg] X.env).map (·.2) = [assign tg X.env]:=by rfl):Ss K X (.Assign [tg] e pos) (tAsg te g) (mAsg bd m):=⟨ps_asg he.pe hg.pg hs hw h1,asg_d he.ok hg.ok⟩
theorem st_setLC (i:Nat) {y:Str} {py:Pos} {elt:Expr} {ifs:List Expr} {scope osc:Scope} {N:List Str} {k:Nat} {cap:List Nat} {wi:TI} {g:TG} {tt:TT} {mi:DE→M (List PyData)} {bd:PyData→DE→Option DE} {mt:DE→M Bool} {me:DE→M PyData}
    (hN:X.N.Nodup) (hc:X.calm = true) (hosc:X.env.scope = osc) (hcap:Caps X.N osc N k cap scope) (hi:Eib K X tg iter wi mi)
    (hg:∀ cl C ex pins s H,Eg K (cxC X N scope cl C ex pins s H) tg g bd)
    (ht:∀ cl C ex pins s H,Ets K (cxC X N scope cl C ex pins s H) ifs tt mt)
    (he:∀ cl C ex pins s H,Ev K (cxC X N scope cl C ex pins s H) elt te me)
    (hix:X.N[i]? = some y:=by rfl) (hLy:Loc X.env.scope y:=by first | exact Or.inl rfl | exact Or.inr rfl)
    (hs:∀ x,foldedSetIterable iter X.env x = pure x:=by intro _; rfl) (hfy:X.fn y = true ∨ X.env.scope.names.lookup y = some .local:=by first | exact .inl rfl | exact .inr rfl | assumption)
    (hsw:swapsWith (.ListComp elt [⟨tg,iter,ifs,0⟩] scope p) (some (.Name y py)) pos.line X.env = pure true:=by rfl) :
    Ss K X (.Assign [.Name y py] (.ListComp elt [⟨tg,iter,ifs,0⟩] scope p) pos) (tAsg (tLC wi k cap g tt te) (gName i)) (mSet i (sLC mi k cap bd mt me)) :=
  ⟨ps_setLC hN hix hLy hc hosc hcap hi.pi (fun cl C ex pins s H=>(hg cl C ex pins s H).pg) (fun cl C ex pins s H=>(ht cl C ex pins s H).pts) (fun cl C ex pins s H=>(he cl C ex pins s H).pe) hs hfy hsw,
    asg_d (lc_d hi.ok (hg [] 0 [] [] X.s₀ X.H₀).ok (ht [] 0 [] [] X.s₀ X.H₀).ok (he [] 0 [] [] X.s₀ X.H₀).ok) (name_d i)⟩
noncomputable def mIf (c:DE→M Bool) (a b:DE→M Out):DE→M Out:=fun E F=>(c E F).bind fun p=>if p.1 = true then a E p.2 else b E p.2
theorem st_if {x y:List Stmt} {tt:TT} {mc:DE→M Bool} (hc:Et K X c tt mc) (ha:Sss K X x t mt) (hb:Sss K X y u mu):Ss K X (.If c x y pos) (tIfS tt t u) (mIf mc mt mu):=⟨ps_if hc.pt ha.ps hb.ps,fun G B0 H0 E F σ H D r F' S e q=>by
  obtain ⟨⟨d,F1⟩,e1,e⟩:=Option.bind_eq_some_iff.mp e
  obtain ⟨B,s,sn,I⟩:=S.ex
  refine hc.ok G B E F σ H _ d F1 I e1 fun H1 k1 f1=>?_
  cases d with
  | true=>exact ha.ok G B0 H0 E F1 σ H1 D r F' (S.step k1 f1) e q
  | false=>exact hb.ok G B0 H0 E F1 σ H1 D r F' (S.step k1 f1) e q⟩
end
end L3
namespace L3
open PySem PySem.Spec PyProof.Rows L2
section
variable [Feeds] {K:PySem.W.Frag} {X:Cx} {a b c e tg iter:Expr} {es:List Expr} {st:Stmt} {sts rest:List Stmt} {ta tb te:TE} {ma mb m:DE→M PyData} {t u:TS} {mt mu:DE→M Out} {pos pos' p p2:Pos}
noncomputable def cutH (H:Hp) (B B0:List Addr):Hp:=hid H (B.filter fun b=>decide (b ∉ B0))
theorem cutH_none {H:Hp} {B B0:List Addr} {b:Addr} (h1:b ∈ B) (h2:b ∉ B0):cutH H B B0 b = none:=hid_in (List.mem_filter.mpr ⟨h1,by simpa using h2⟩)
theorem cutH_some {H:Hp} {B B0:List Addr} {b:Addr} (h:b ∉ B ∨ b ∈ B0):cutH H B B0 b = H b:=hid_out fun z=>by
  obtain ⟨z1,z2⟩:=List.mem_filter.mp z
  rcases h with h | h
  · exact h z1
  · simp at z2; exact z2 h
section
variable {G:GF} {B0 B:List Addr} {H0:Hp} {E E2:DE} {F F2:FS} {σ σ2:St} {H H2:Hp}
theorem Sit.base (S:Sit K G B0 H0 E F σ H) (s:∀ b ∈ B0,b ∈ B) (sn:∀ b ∈ B,b ∈ B0 ∨ H0 b = none) (I:SitE K G B E F σ H):Sit K G B0 (cutH H B B0) E F σ H:=by
  refine ⟨⟨B,s,fun b hb=>?_,I⟩,S.fB,Kp.same hid_same,fun i ds a ei si=>?_,S.inj⟩
  · by_cases h:b ∈ B0
    · exact .inl h
    · exact .inr (cutH_none hb h)
  · obtain ⟨v,v1,a',xs,rfl,hB,_⟩:=I.loc i _ ei
    rw [v1] at si; cases si
    exact ⟨cutH_none hB (S.own i ds _ ei v1).2,(S.own i ds _ ei v1).2⟩
theorem cut_kp (S:Sit K G B0 H0 E F σ H) (sn:∀ b ∈ B,b ∈ B0 ∨ H0 b = none) (k:Kp (fpOf K G) (cutH H B B0) H2):Kp (fpOf K G) H0 H2:=fun b o e n=>by
  refine k b o ?_ n
  rw [cutH_some]
  · exact S.kp b o e n
  · by_cases hb:b ∈ B
    · rcases sn b hb with h | h
      · exact .inr h
      · rw [h] at e; cases e
    · exact .inl hb
theorem Sit.unbase (S:Sit K G B0 H0 E F σ H) (sn:∀ b ∈ B,b ∈ B0 ∨ H0 b = none) (S2:Sit K G B0 (cutH H B B0) E2 F2 σ2 H2):Sit K G B0 H0 E2 F2 σ2 H2:=by
  have no:∀ b,cutH H B B0 b = none→b ∈ B0 ∨ H0 b = none:=fun b e=>by
    by_cases hb:b ∈ B
    · exact sn b hb
    · rw [cutH_some (.inl hb)] at e
      by_cases hf:b ∈ fpOf K G
      · exact .inl (S.fB b hf)
      · cases q:H0 b with
        | none=>exact .inr rfl
        | some o=>rw [S.kp b o q hf] at e; cases e
  obtain ⟨B2,s2,sn2,I2⟩:=S2.ex
  refine ⟨⟨B2,s2,fun b hb=>?_,I2⟩,S.fB,cut_kp S sn S2.kp,fun i ds a ei si=>?_,S2.inj⟩
  · rcases sn2 b hb with h | h
    · exact .inl h
    · exact no b h
  · obtain ⟨h1,h2⟩:=S2.own i ds a ei si
    exact ⟨(no a h1).resolve_left h2,h2⟩
end
noncomputable def forGo (bd:PyData→DE→Option DE) (body:DE→M Out):List PyData→DE→M Out
  | [],E,F=>some (.nx E,F)
  | d :: r,E,F=>(bd d E).bind fun E1=>(body E1 F).bind fun p=>match p.1 with
    | .nx E2=>forGo bd body r E2 p.2
    | .ct E2=>forGo bd body r E2 p.2
    | .bk E2=>some (.nx E2,p.2)
    | .rt d=>some (.rt d,p.2)
noncomputable def mFor (mi:DE→M (List PyData)) (bd:PyData→DE→Option DE) (body:DE→M Out):DE→M Out:=fun E F=>(mi E F).bind fun p=>forGo bd body p.1 E p.2
theorem for_d {wi:TI} {g:TG} {tb:TS} {mi:DE→M (List PyData)} {bd:PyData→DE→Option DE} {mb:DE→M Out} (hi:TId K wi mi) (hg:TGd K g bd) (hb:TSd K tb mb):TSd K (tFor wi g tb) (mFor mi bd mb):=fun G B0 H0 E F σ H D r F' S e q=>by
  obtain ⟨⟨items,F1⟩,e1,e⟩:=Option.bind_eq_some_iff.mp e
  obtain ⟨B,s,sn,I⟩:=S.ex
  refine hi G B E F σ H _ items F1 I e1 fun J H1 k1 f1 ok=>?_
  have S1:=S.step k1 f1
  have I1:=I.step k1 f1
  have S1':=S1.base s sn I1
  have qn:∀ {E2:DE} {F2:FS},r = .nx E2→F' = F2→∀ σ2 H2,Sit K G B0 (cutH H1 B B0) E2 F2 σ2 H2→D.nx σ2 H2:=fun {E2 F2} er ef σ2 H2 S2=>by
    subst er ef
    exact q σ2 H2 (S1.unbase sn S2)
  have stab:∀ {E2:DE} {F2:FS} {σ2:St} {H2:Hp} {B2:List Addr},Sit K G B0 (cutH H1 B B0) E2 F2 σ2 H2→(∀ b ∈ B2,b ∈ B0 ∨ cutH H1 B B0 b = none)→Same (hid H1 B) (hid H2 B2):=fun {E2 F2 σ2 H2 B2} S2 sn2 b o eb=>by
    by_cases hB:b ∈ B
    · rw [hid_in hB] at eb; cases eb
    · rw [hid_out hB] at eb
      have ec:cutH H1 B B0 b = some o:=by rw [cutH_some (.inl hB)]; exact eb
      rw [hid_out fun z=>(sn2 b z).elim (fun h=>hB (s b h)) fun h=>by rw [h] at ec; cases ec]
      exact S2.kp b o ec fun z=>hB (s b (S.fB b z))
  refine ⟨fun i m σ H=>m = items.length - i ∧ i ≤ items.length ∧ ∃ E F,Sit K G B0 (cutH H1 B B0) E F σ H ∧ forGo bd mb (items.drop i) E F = some (r,F'),⟨items.length,by simp,Nat.zero_le _,E,F1,S1',e⟩,?_⟩
  rintro i mm σ2 H2 ⟨rfl,hi2,E2,F2,S2,e2⟩
  obtain ⟨B2,s2,sn2,I2⟩:=S2.ex
  have st2:=stab S2 sn2
  by_cases hlt:i < items.length
  · refine .inr ⟨((ok H2 B2 st2).1 i items[i] (by simp [hlt])).1,fun σ' H'=>i + 1 ≤ items.length ∧ ∃ E F,Sit K G B0 (cutH H1 B B0) E F σ' H' ∧ forGo bd mb (items.drop (i + 1)) E F = some (r,F'),fun σ' H' ⟨h1,h2⟩=>⟨items.length - (i + 1),by omega,rfl,h1,h2⟩,fun x H3 y=>?_⟩
    obtain ⟨s3,hx⟩:=((ok H2 B2 st2).1 i items[i] (by simp [hlt])).2 x H3 y
    have hx:=hx I2.bk
    rw [List.drop_eq_getElem_cons hlt,forGo] at e2
    obtain ⟨E4,e4,e2⟩:=Option.bind_eq_some_iff.mp e2
    obtain ⟨⟨o,F5⟩,e5,e2⟩:=Option.bind_eq_some_iff.mp e2
    have S3:=S2.step (Kp.same s3) (I2.fd.same s3)
    have I3:SitE K G B2 E2 F2 σ2 H3:=I2.step (Kp.same s3) (I2.fd.same s3)
    refine hg G B2 E2 F2 σ2 H3 x items[i] E4 _ I3 hx e4 fun σ4 I4 fr=>?_
    refine hb G B0 (cutH H1 B B0) E4 F2 σ4 H3 _ o F5 (S3.bind s2 sn2 I4 fr) e5 ?_
    cases o with
    | nx E6=>exact fun σ6 H6 S6=>⟨hlt,E6,F5,S6,e2⟩
    | ct E6=>exact fun σ6 H6 S6=>⟨hlt,E6,F5,S6,e2⟩
    | bk E6=>cases e2; exact fun σ6 H6 S6=>qn rfl rfl σ6 H6 S6
    | rt d=>cases e2; exact fun v H6 k6 f6 h6=>q v H6 (cut_kp S1 sn k6) f6 h6
  · have ei:i = items.length:=by omega
    subst ei
    rw [List.drop_length,forGo] at e2
    cases e2
    exact .inl ⟨(ok H2 B2 st2).2,qn rfl rfl σ2 H2 S2⟩
theorem st_for {body:List Stmt} {wi:TI} {g:TG} {tb:TS} {mi:DE→M (List PyData)} {bd:PyData→DE→Option DE} {mb:DE→M Out} (hc:X.calm = true) (hi:Ei K X tg iter wi mi) (hg:Eg K X tg g bd) (hb:Sss K X body tb mb) (hp:PassesOwn (model X.prog X.w) X.A X.env X.xe:=by exact PassesOwn.never)
    (hs:∀ x,foldedSetIterable iter X.env x = pure x:=by intro _; rfl):Ss K X (.For tg iter body [] pos) (tFor wi g tb) (mFor mi bd mb):=⟨ps_for hp hc hi.pi hg.pg hb.ps hs,for_d hi.ok hg.ok hb.ok⟩
structure Ef (K:PySem.W.Frag) (X:Cx) (e:Expr) (te:TE) (m:DE→M (List PyData)):Prop where
  pe:PE X e te
  ok:TFd K te m
theorem hid_more {H:Hp} {B:List Addr} {p:Addr} {o:HO} (hp:H p = none):Same (hid H B) (hid (upd H p o) (p :: B)):=fun b u e=>by
  by_cases hb:b ∈ B
  · rw [hid_in hb] at e; cases e
  · rw [hid_out hb] at e
    have hne:=ne_of_none e hp
    rw [hid_out (by simp [hne,hb]),upd_ne hne]; exact e
noncomputable def fLst (a:DE→M (List PyData)):DE→M (List PyData):=fun E F=>(a E F).bind fun p=>if p.1.length ≤ sizeLine then some (p.1,p.2) else none
theorem ef_lst {t:TA} {ms:DE→M (List PyData)} (h:Ea K X es t ms):Ef K X (.List es pos) (tLst t) (fLst ms):=⟨pe_lst h.pa,fun G B E F σ H Q d F' I e q=>by
  obtain ⟨⟨x,F1⟩,e1,e⟩:=Option.bind_eq_some_iff.mp e
  split at e
  · rename_i hl
    cases e
    refine h.ok G B E F σ H _ x F1 I e1 fun vs H1 k1 f1 h1=>⟨by rw [h1.length]; exact hl,fun p hp=>?_⟩
    have hnf:p ∉ fpOf K G:=fun z=>(bok_step I.bk k1 f1).nin hp (I.fB p z)
    exact q p vs _ (k1.none hp hnf) upd_same (k1.trans (Kp.upd hp)) (f1.same (Same.upd hp)) (h1.same (hid_more hp))
  · cases e⟩
noncomputable def mOwn (i:Nat) (a:DE→M (List PyData)):DE→M Out:=fun E F=>(a E F).bind fun p=>if i < E.length then some (.nx (E.set i (some (.own p.1))),p.2) else none
theorem own_d {i:Nat} {mf:DE→M (List PyData)} (he:TFd K te mf):TSd K (tAsg te (gName i)) (mOwn i mf):=fun G B0 H0 E F σ H D r F' S e q=>by
  obtain ⟨⟨ds,F1⟩,e1,e⟩:=Option.bind_eq_some_iff.mp e
  split at e
  · rename_i hl
    cases e
    obtain ⟨B,s,sn,I⟩:=S.ex
    refine he G B E F σ H _ ds _ I e1 fun a vs H1 hn ha k1 f1 h1=>?_
    have I1:=I.step k1 f1
    have hsl:i < σ.length:=by rw [← I.ln]; exact hl
    have haB:a ∉ B:=I.bk.nin hn
    have haf:a ∉ fpOf K G:=fun z=>haB (I.fB a z)
    have h0:H0 a = none:=S.kp.none hn haf
    have sm:Same (hid H B) (hid H1 (a :: B)):=fun b o eb=>by
      by_cases hb:b ∈ B
      · rw [hid_in hb] at eb; cases eb
      · rw [hid_out hb] at eb
        have hne:=ne_of_none eb hn
        rw [hid_out (by simp [hne,hb])]
        exact k1 b o eb fun z=>hb (I.fB b z)
    refine q _ H1 ⟨⟨a :: B,fun b hb=>List.mem_cons_of_mem _ (s b hb),fun b hb=>?_,⟨f1,fun b hb=>List.mem_cons_of_mem _ (I.fB b hb),fun b hb=>?_,by rw [List.length_set,List.length_set]; exact I.ln,fun j x ej=>?_⟩⟩,S.fB,S.kp.trans k1,fun j es a' ej sj=>?_,fun j k es es' a' ej ek sj sk=>?_⟩
    · rcases List.mem_cons.mp hb with rfl | hb
      · exact .inr h0
      · exact sn b hb
    · rcases List.mem_cons.mp hb with rfl | hb
      · exact ⟨_,ha⟩
      · exact I1.bk b hb
    · by_cases hj:i = j
      · subst hj
        rw [List.getElem?_set_self hl] at ej
        cases ej
        exact ⟨.ref a,by rw [List.getElem?_set_self hsl],a,vs,rfl,List.mem_cons_self,haf,ha,h1⟩
      · rw [List.getElem?_set_ne hj] at ej
        obtain ⟨v,v1,v2⟩:=I.loc j x ej
        refine ⟨v,by rw [List.getElem?_set_ne hj]; exact v1,?_⟩
        cases x with
        | dat d=>exact DatIs.same (show DatIs K (hid H B) d v from v2) sm
        | feed=>exact v2
        | fn _=>exact v2
        | adr _=>exact v2
        | own es =>
          obtain ⟨a',xs',rfl,hB',hf',ha',hd'⟩:=v2
          exact ⟨a',xs',rfl,List.mem_cons_of_mem _ hB',hf',k1 _ _ ha' hf',hd'.same sm⟩
    · by_cases hj:i = j
      · subst hj
        rw [List.getElem?_set_self hsl] at sj
        cases sj
        exact ⟨h0,fun z=>haB (s a z)⟩
      · rw [List.getElem?_set_ne hj] at ej sj
        exact S.own j es a' ej sj
    · have other:∀ (j:Nat) (es:List PyData),i ≠ j→E[j]? = some (some (DV.own es))→σ[j]? ≠ some (some (V.ref a)):=fun j es _ ej z=>by
        obtain ⟨v,v1,a',xs',rfl,hB',_⟩:=I.loc j _ ej
        rw [v1] at z; cases z
        exact haB hB'
      by_cases hj:i = j
      · by_cases hk:i = k
        · exact hj.symm.trans hk
        · subst hj
          rw [List.getElem?_set_self hsl] at sj
          cases sj
          rw [List.getElem?_set_ne hk] at ek sk
          exact absurd sk (other k es' hk ek)
      · rw [List.getElem?_set_ne hj] at ej sj
        by_cases hk:i = k
        · subst hk
          rw [List.getElem?_set_self hsl] at sk
          cases sk
          exact absurd sj (other j es hj ej)
        · rw [List.getElem?_set_ne hk] at ek sk
          exact S.inj j k es es' a' ej ek sj sk
  · cases e
theorem st_own (i:Nat) {x:Str} {mf:DE→M (List PyData)} (hN:X.N.Nodup) (he:Ef K X e te mf) (hi:X.N[i]? = some x:=by rfl) (hx:Loc X.env.scope x:=by first | exact Or.inl rfl | exact Or.inr rfl) (hs:swapsWith e (some (.Name x pos')) pos.line X.env = pure false:=by rfl) (hf:X.fn x = true ∨ X.env.scope.names.lookup x = some .local:=by first | exact .inl rfl | exact .inr rfl | assumption) :
    Ss K X (.Assign [.Name x pos'] e pos) (tAsg te (gName i)) (mOwn i mf):=⟨ps_set hN hi hx he.pe hs hf,own_d he.ok⟩
end
end L3
namespace L3
open PySem PySem.Spec PyProof.Rows L2
section
variable [Feeds] {K:PySem.W.Frag} {X:Cx} {a b c e tg iter:Expr} {es:List Expr} {st:Stmt} {sts rest:List Stmt} {ta tb te:TE} {ma mb m:DE→M PyData} {t u:TS} {mt mu:DE→M Out} {pos pos' p p2:Pos}
section
variable {G:GF} {B0 B:List Addr} {H0:Hp} {E:DE} {F:FS} {σ:St} {H:Hp}
theorem Sit.write {i:Nat} {ds ds':List PyData} {x:Addr} {vs':List V} (S:Sit K G B0 H0 E F σ H) (s:∀ b ∈ B0,b ∈ B) (sn:∀ b ∈ B,b ∈ B0 ∨ H0 b = none) (I:SitE K G B E F σ H) (ei:E[i]? = some (some (DV.own ds))) (si:σ[i]? = some (some (V.ref x)))
    (hd:DatsAre K (hid H B) ds' vs'):Sit K G B0 H0 (E.set i (some (.own ds'))) F σ (upd H x (.lst vs')):=by
  have hl:i < E.length:=(List.getElem?_eq_some_iff.mp ei).1
  obtain ⟨v,v1,x',xs,rfl,hB,hf,hx,_⟩:=I.loc i _ ei
  rw [si] at v1; cases v1
  have e1:hid (upd H x (.lst vs')) B = hid H B:=hid_upd hB
  obtain ⟨n1,n2⟩:=S.own i ds x ei si
  refine ⟨⟨B,s,sn,⟨I.fd.congr fun b hb=>upd_ne (fun z=>hb.elim (fun hb=>hf (z ▸ hb)) fun ⟨φ,q⟩=>by rw [z,hx] at q; cases q),I.fB,fun b hb=>?_,by rw [List.length_set]; exact I.ln,fun j y ej=>?_⟩⟩,S.fB,fun b o eb nb=>?_,fun j es a' ej sj=>?_,fun j k es es' a' ej ek sj sk=>?_⟩
  · by_cases h:b = x
    · subst h; exact ⟨_,upd_same⟩
    · rw [upd_ne h]; exact I.bk b hb
  · by_cases hj:i = j
    · subst hj
      rw [List.getElem?_set_self hl] at ej
      cases ej
      exact ⟨.ref x,si,x,vs',rfl,hB,hf,upd_same,by rw [e1]; exact hd⟩
    · rw [List.getElem?_set_ne hj] at ej
      obtain ⟨w,w1,w2⟩:=I.loc j y ej
      refine ⟨w,w1,?_⟩
      cases y with
      | dat d=>show DatIs K (hid (upd H x (.lst vs')) B) d w; rw [e1]; exact w2
      | feed=>exact w2
      | fn _=>exact w2
      | adr _=>exact w2
      | own es =>
        obtain ⟨a',xs',rfl,hB',hf',ha',hd'⟩:=w2
        have hne:a' ≠ x:=fun z=>hj (S.inj i j ds es x ei ej si (z ▸ w1))
        exact ⟨a',xs',rfl,hB',hf',by rw [upd_ne hne]; exact ha',by rw [e1]; exact hd'⟩
  · rw [upd_ne]
    · exact S.kp b o eb nb
    · intro z; subst z; rw [n1] at eb; cases eb
  · by_cases hj:i = j
    · subst hj
      exact S.own i ds a' ei sj
    · rw [List.getElem?_set_ne hj] at ej
      exact S.own j es a' ej sj
  · have back:∀ (j:Nat) (es:List PyData),(E.set i (some (.own ds')))[j]? = some (some (DV.own es))→∃ es,E[j]? = some (some (DV.own es)):=fun j es ej=>by
      by_cases hj:i = j
      · subst hj; exact ⟨ds,ei⟩
      · rw [List.getElem?_set_ne hj] at ej; exact ⟨es,ej⟩
    obtain ⟨f1,ej'⟩:=back j es ej
    obtain ⟨f2,ek'⟩:=back k es' ek
    exact S.inj j k f1 f2 a' ej' ek' sj sk
end
noncomputable def ownOf (E:DE) (i:Nat):Option (List PyData):=match E[i]? with
  | some (some (.own ds))=>some ds
  | _=>none
theorem ownOf_some {E:DE} {i:Nat} {ds:List PyData} (h:ownOf E i = some ds):E[i]? = some (some (DV.own ds)):=by
  unfold ownOf at h
  split at h
  · rename_i q; cases h; exact q
  · cases h
noncomputable def mPut (i:Nat) (v k:DE→M PyData):DE→M Out:=fun E F=>(v E F).bind fun p=>(k E p.2).bind fun q=>(intOf q.1).bind fun n=>(ownOf E i).bind fun ds=>(ixN ds.length n).bind fun j=>some (.nx (E.set i (some (.own (ds.set j p.1)))),q.2)
theorem DatsAre.set {H:Hp}:∀ {ds:List PyData} {xs:List V} {d:PyData} {v:V} (j:Nat),DatsAre K H ds xs→DatIs K H d v→DatsAre K H (ds.set j d) (xs.set j v)
  | [],xs,d,v,j,h,h'=>by simp only [DatsAre] at h; subst h; simp [DatsAre]
  | e :: ds,xs,d,v,0,h,h'=>by
    simp only [DatsAre] at h
    obtain ⟨y,r,rfl,h1,h2⟩:=h
    simp only [List.set_cons_zero,DatsAre]
    exact ⟨v,r,rfl,h',h2⟩
  | e :: ds,xs,d,v,j + 1,h,h'=>by
    simp only [DatsAre] at h
    obtain ⟨y,r,rfl,h1,h2⟩:=h
    simp only [List.set_cons_succ,DatsAre]
    exact ⟨y,r.set j v,rfl,h1,DatsAre.set j h2 h'⟩
theorem st_put (i:Nat) {x:Str} {px:Pos} (hv:Ev K X e te m) (hk:Ev K X b tb mb) (hN:X.N[i]? = some x:=by rfl) (hvis:Vis X.env.scope x:=by first | exact Or.inl rfl | exact Or.inr (Or.inl rfl) | exact Or.inr (Or.inr rfl)) (hd:(x == ("__debug__":Str)) = false:=by decide) (hcd:(x == ("__classdict__":Str)) = false:=by decide)
    (ha:∀ v,assign (.Subscript (.Name x px) b p) X.env v = (do
      let ov ← holding [v] (eval (.Name x px) X.env)
      let iv ← holding [v,ov] (eval b X.env)
      standAt p
      holding [v,ov,iv] (setItem ov iv v)
      release [v,ov,iv] []):=by intro _; rfl)
    (hs:swapsWithSole [.Subscript (.Name x px) b p] e pos.line X.env = pure false:=by rfl) (hw:swappedStores [.Subscript (.Name x px) b p] e X.env = pure none:=by rfl)
    (h1:(assignEach [.Subscript (.Name x px) b p] X.env).map (·.2) = [assign (.Subscript (.Name x px) b p) X.env]:=by rfl) :
    Ss K X (.Assign [.Subscript (.Name x px) b p] e pos) (tAsg te (gSub (tVar i) tb rSetL)) (mPut i m mb) :=
  ⟨ps_asg hv.pe (pg_sub (pe_var hN hvis hd hcd) hk.pe set_list ha) hs hw h1,fun G B0 H0 E F σ H D r F' S e q=>by
    obtain ⟨⟨d,F1⟩,e1,e⟩:=Option.bind_eq_some_iff.mp e
    obtain ⟨⟨n,F2⟩,e2,e⟩:=Option.bind_eq_some_iff.mp e
    obtain ⟨k,e3,e⟩:=Option.bind_eq_some_iff.mp e
    obtain ⟨ds,e4,e⟩:=Option.bind_eq_some_iff.mp e
    obtain ⟨j,e5,e⟩:=Option.bind_eq_some_iff.mp e
    cases e
    obtain ⟨B,s,sn,I⟩:=S.ex
    have eo:=ownOf_some e4
    refine hv.ok G B E F σ H _ d F1 I e1 fun v H1 k1 f1 h1=>?_
    have I1:=I.step k1 f1
    obtain ⟨w,w1,a,xs,rfl,hB,hf,hx,hdx⟩:=I1.loc i _ eo
    refine ⟨_,w1,hk.ok G B E F1 σ H1 _ n _ I1 e2 fun u H2 k2 f2 h2=>?_⟩
    have:=intOf_some e3
    simp only at this
    subst this
    simp only [DatIs] at h2
    subst h2
    have I2:=I1.step k2 f2
    have S2:=S.step (k1.trans k2) f2
    have hd2:=hdx.same (k2.hid I.fB)
    refine ⟨a,xs,k,j,rfl,rfl,k2 a _ hx hf,by rw [hd2.length]; exact e5,q σ _ (S2.write s sn I2 eo w1 (DatsAre.set j hd2 (h1.same (k2.hid I.fB))))⟩⟩
noncomputable def mApp (i:Nat) (v:DE→M PyData):DE→M Out:=fun E F=>(v E F).bind fun p=>(ownOf E i).bind fun ds=>if ds.length < sizeLine then some (.nx (E.set i (some (.own (ds ++ [p.1])))),p.2) else none
theorem app_d {i:Nat} (hv:TEd K te m):TSd K (tDrop (tBM K "list" rAppend (tVar i) (tCons te tNil))) (mApp i m):=fun G B0 H0 E F σ H D r F' S e q=>by
  obtain ⟨⟨d,F1⟩,e1,e⟩:=Option.bind_eq_some_iff.mp e
  obtain ⟨ds,e4,e⟩:=Option.bind_eq_some_iff.mp e
  split at e
  · rename_i hl
    cases e
    obtain ⟨B,s,sn,I⟩:=S.ex
    have eo:=ownOf_some e4
    obtain ⟨w,w1,a,xs,rfl,hB,hf,hx,hdx⟩:=I.loc i _ eo
    refine ⟨_,w1,.inl ⟨rfl,xs,SqL.of hx⟩,hv G B E F σ H _ d _ I e1 fun u H2 k2 f2 h2=>?_⟩
    have hd2:=hdx.same (k2.hid I.fB)
    exact ⟨a,xs,u,rfl,rfl,k2 a _ hx hf,by rw [hdx.length]; exact hl,q σ _ ((S.step k2 f2).write s sn (I.step k2 f2) eo w1 (hd2.snoc h2))⟩
  · cases e
noncomputable def ArgR (K:PySem.W.Frag) (G:GF) (B:List Addr) (H:Hp):List DV→List V→Prop
  | [],vs=>vs = []
  | x :: xs,vs=>∃ v r,vs = v :: r ∧ (∀ ds,x ≠ .own ds) ∧ DVr K G B H x v ∧ ArgR K G B H xs r
noncomputable def spD (K:PySem.W.Frag) (n:Nat) (f:List DV→M PyData):Sp:=fun vs H Q _=>∃ G B F args d F',vs.length = n ∧ (∀ b ∈ fpOf K G,b ∈ B) ∧ BOk H B ∧ FAt K G H F ∧ ArgR K G B H args vs ∧ f args F = some (d,F') ∧
  ∀ v H',Kp (fpOf K G) H H'→FAt K G H' F'→DatIs K (hid H' B) d v→Q v H'
noncomputable def startE (N:List Str) (args:List DV):DE:=args.map some ++ List.replicate (N.length - args.length) none
noncomputable def runD (N:List Str) (m:DE→M Out):List DV→M PyData:=fun args F=>(m (startE N args) F).bind fun p=>match p.1 with
  | .rt d=>some (d,p.2)
  | .nx _=>some (.none,p.2)
  | _=>none
theorem ArgR.length {G:GF} {B:List Addr} {H:Hp}:∀ {args:List DV} {vs:List V},ArgR K G B H args vs→vs.length = args.length
  | [],vs,h=>by cases h; rfl
  | x :: xs,vs,⟨v,r,e,_,_,h⟩=>by subst e; rw [List.length_cons,List.length_cons,h.length]
theorem ArgR.get {G:GF} {B:List Addr} {H:Hp}:∀ {args:List DV} {vs:List V} {i:Nat} {x:DV},ArgR K G B H args vs→args[i]? = some x→∃ v,vs[i]? = some v ∧ (∀ ds,x ≠ .own ds) ∧ DVr K G B H x v
  | [],vs,i,x,h,e=>by simp at e
  | y :: xs,vs,i,x,⟨v,r,e1,h1,h2,h3⟩,e=>by
    subst e1
    cases i with
    | zero=>simp at e; subst e; exact ⟨v,rfl,h1,h2⟩
    | succ i=>simpa using h3.get (i:=i) (by simpa using e)
theorem start_get {N:List Str} {args:List DV} {i:Nat} {x:DV} (h:(startE N args)[i]? = some (some x)):args[i]? = some x:=by
  unfold startE at h
  by_cases hi:i < args.length
  · rw [List.getElem?_append_left (by simpa using hi),List.getElem?_map] at h
    obtain ⟨y,e1,e2⟩:=Option.map_eq_some_iff.mp h
    cases e2; exact e1
  · rw [List.getElem?_append_right (by simpa using hi),List.getElem?_replicate] at h
    split at h <;> simp at h
theorem sit_start {G:GF} {B:List Addr} {F:FS} {H:Hp} {N:List Str} {args:List DV} {vs:List V} (fB:∀ b ∈ fpOf K G,b ∈ B) (bk:BOk H B) (f:FAt K G H F) (h:ArgR K G B H args vs):Sit K G B H (startE N args) F (L2.start N vs) H:=by
  have noown:∀ (i:Nat) (ds:List PyData),(startE N args)[i]? ≠ some (some (DV.own ds)):=fun i ds e=>by
    obtain ⟨v,_,n,_⟩:=h.get (start_get e)
    exact n ds rfl
  refine ⟨⟨B,fun _ z=>z,fun b hb=>.inl hb,⟨f,fB,bk,by simp [startE,L2.start,h.length],fun i x e=>?_⟩⟩,fB,Kp.refl,fun i ds a e _=>absurd e (noown i ds),fun i j ds es a e _ _ _=>absurd e (noown i ds)⟩
  obtain ⟨v,v1,_,v2⟩:=h.get (start_get e)
  refine ⟨v,?_,v2⟩
  have hi:i < vs.length:=(List.getElem?_eq_some_iff.mp v1).1
  unfold L2.start
  rw [List.getElem?_append_left (by simpa using hi),List.getElem?_map,v1]
  rfl
variable {P:Program} {w:World} {mg:Str→Option Value} {base:Heap}
theorem def_ok {x qual:Str} {f:Addr} {fd:FuncData} {N ps:List Str} {k:Nat} {m:DE→M Out} (Fn:Fun K x qual st f fd) (S:FnScope N ps (defScope st))
    (hbody:∀ (cdv:Value) (A:Around) (outer:List Env) (s:Shared) (H:Hp) (E:XK),Room k (A.deeper (envOfC qual (defScope st) s.heap.objs.size f cdv)) →
      ∃ ts,Sss K (cxOf CX0 P w K mg base N qual (defScope st) f cdv A outer s H E).nox (defBody st) ts m):FnOk P w K mg base CX0 (k + 1) f fd ps (spD K ps.length (runD N m)):=by
  refine Fn.ok S (fun vs H Q E h=>?_) (fun cdv A outer s H vs Q E hr h=>?_)
  · obtain ⟨G,B,F,args,d,F',hl,_⟩:=h
    exact hl
  · obtain ⟨G,B,F,args,d,F',hl,fB,bk,fa,ha,hm,q⟩:=h
    obtain ⟨ts,hts⟩:=hbody cdv A outer s H E hr
    refine ⟨ts,hts.ps,?_⟩
    obtain ⟨⟨o,F1⟩,e1,e⟩:=Option.bind_eq_some_iff.mp hm
    refine hts.ok G B H (startE N args) F (L2.start N vs) H _ o F1 (sit_start fB bk fa ha) e1 ?_
    cases o with
    | rt d'=>cases e; exact fun v H' k1 f1 h1=>q v H' k1 f1 h1
    | nx E'=>cases e; exact fun σ' H' S'=>q _ H' S'.kp (by obtain ⟨B,_,_,I⟩:=S'.ex; exact I.fd) DatIs.non
    | bk E'=>cases e
    | ct E'=>cases e
noncomputable def TVd (K:PySem.W.Frag) (ta:TA) (m:DE→M (List DV)):Prop:=∀ (G:GF) (B:List Addr) (E:DE) (F:FS) (σ:St) (H:Hp) (Q:List V→Hp→Prop) (ds:List DV) (F':FS),SitE K G B E F σ H→m E F = some (ds,F') →
  (∀ vs H',Kp (fpOf K G) H H'→FAt K G H' F'→ArgR K G B H' ds vs→Q vs H')→ta σ H Q
structure Evs (K:PySem.W.Frag) (X:Cx) (es:List Expr) (ta:TA) (m:DE→M (List DV)):Prop where
  pa:PA X es ta
  ok:TVd K ta m
noncomputable def vNil:DE→M (List DV):=fun _ F=>some ([],F)
noncomputable def vD (a:DE→M PyData) (r:DE→M (List DV)):DE→M (List DV):=fun E F=>(a E F).bind fun p=>(r E p.2).bind fun q=>some (.dat p.1 :: q.1,q.2)
noncomputable def vF (i:Nat) (r:DE→M (List DV)):DE→M (List DV):=fun E F=>match E[i]? with
  | some (some .feed)=>(r E F).bind fun q=>some (.feed :: q.1,q.2)
  | _=>none
theorem av_nil:Evs K X [] tNil vNil:=⟨pa_nil,fun G B E F σ H Q ds F' I e q=>by cases e; exact q [] H Kp.refl I.fd rfl⟩
theorem av_d {tl:TA} {ms:DE→M (List DV)} (ha:Ev K X e te m) (hr:Evs K X es tl ms) (hs:starEach (e :: es) X.env = (false,eval e X.env) :: starEach es X.env:=by rfl):Evs K X (e :: es) (tCons te tl) (vD m ms) :=
  ⟨pa_cons ha.pe hr.pa hs,fun G B E F σ H Q ds F' I e q=>by
    obtain ⟨⟨x,F1⟩,e1,e⟩:=Option.bind_eq_some_iff.mp e
    obtain ⟨⟨ys,F2⟩,e2,e⟩:=Option.bind_eq_some_iff.mp e
    cases e
    refine ha.ok G B E F σ H _ x F1 I e1 fun v H1 k1 f1 h1=>?_
    refine hr.ok G B E F1 σ H1 _ ys _ (I.step k1 f1) e2 fun vs H2 k2 f2 h2=>q _ H2 (k1.trans k2) f2 ⟨v,vs,rfl,(fun _ z=>by cases z),h1.same (k2.hid I.fB),h2⟩⟩
theorem av_f (i:Nat) {x:Str} {tl:TA} {ms:DE→M (List DV)} (hr:Evs K X es tl ms) (hN:X.N[i]? = some x:=by rfl) (hv:Vis X.env.scope x:=by first | exact Or.inl rfl | exact Or.inr (Or.inl rfl) | exact Or.inr (Or.inr rfl)) (hd:(x == ("__debug__":Str)) = false:=by decide)
    (hcd:(x == ("__classdict__":Str)) = false:=by decide) (hs:starEach (.Name x p :: es) X.env = (false,eval (.Name x p) X.env) :: starEach es X.env:=by rfl):Evs K X (.Name x p :: es) (tCons (tVar i) tl) (vF i ms) :=
  ⟨pa_cons (pe_var hN hv hd hcd) hr.pa hs,fun G B E F σ H Q ds F' I e q=>by
    unfold vF at e
    split at e
    · rename_i hx
      obtain ⟨⟨ys,F2⟩,e2,e⟩:=Option.bind_eq_some_iff.mp e
      cases e
      obtain ⟨v,v1,v2⟩:=I.loc i _ hx
      refine ⟨v,v1,hr.ok G B E F σ H _ ys _ I e2 fun vs H2 k2 f2 h2=>q _ H2 k2 f2 ⟨v,vs,rfl,(fun _ z=>by cases z),v2.step k2 I.fB,h2⟩⟩
    · cases e⟩
noncomputable def sCall (f:List DV→M PyData) (ms:DE→M (List DV)):DE→M PyData:=fun E F=>(ms E F).bind fun p=>f p.1 p.2
theorem call_d {n:Nat} {f:List DV→M PyData} {ta:TA} {ms:DE→M (List DV)} (h:TVd K ta ms) (hn:∀ E F args F',ms E F = some (args,F')→args.length = n):TEd K (tCall (spD K n f) [] E0 ta) (sCall f ms):=fun G B E F σ H Q d F' I e q=>by
  obtain ⟨⟨args,F1⟩,e1,e⟩:=Option.bind_eq_some_iff.mp e
  refine h G B E F σ H _ args F1 I e1 fun vs H1 k1 f1 h1=>?_
  rw [List.append_nil]
  exact ⟨G,B,F1,args,d,F',by rw [h1.length]; exact hn _ _ _ _ e1,I.fB,bok_step I.bk k1 f1,f1,h1,e,fun v H2 k2 f2 h2=>q v H2 (k1.trans k2) f2 h2⟩
theorem ln_nil:∀ E F args F',vNil E F = some (args,F')→args.length = 0:=fun E F args F' e=>by cases e; rfl
theorem ln_d {n:Nat} {ms:DE→M (List DV)} (h:∀ E F args F',ms E F = some (args,F')→args.length = n):∀ E F args F',vD m ms E F = some (args,F')→args.length = n + 1:=fun E F args F' e=>by
  obtain ⟨⟨x,F1⟩,e1,e⟩:=Option.bind_eq_some_iff.mp e
  obtain ⟨⟨ys,F2⟩,e2,e⟩:=Option.bind_eq_some_iff.mp e
  cases e
  rw [List.length_cons,h _ _ _ _ e2]
theorem ln_f {n i:Nat} {ms:DE→M (List DV)} (h:∀ E F args F',ms E F = some (args,F')→args.length = n):∀ E F args F',vF i ms E F = some (args,F')→args.length = n + 1:=fun E F args F' e=>by
  unfold vF at e
  split at e
  · obtain ⟨⟨ys,F2⟩,e2,e⟩:=Option.bind_eq_some_iff.mp e
    cases e
    rw [List.length_cons,h _ _ _ _ e2]
  · cases e
theorem ev_call {x:Str} {k n:Nat} {ps:List Str} {f:List DV→M PyData} {tl:TA} {ms:DE→M (List DV)} (C:Callee X.prog X.w X.K X.mg X.base x k ps (spD K n f)) (hr:Room k X.A) (ha:Evs K X (e :: es) tl ms) (hn:∀ E F args F',ms E F = some (args,F')→args.length = n) (hg:Gl X x:=by rfl)
    (hdb:(x == ("__debug__":Str)) = false:=by decide) (he:starEach (e :: es) X.env = (false,eval e X.env) :: starEach es X.env:=by rfl) (hpl:(backTo pos (starEach es X.env)).any (·.1) = false:=by rfl) :
    Ev K X (.Call (.Name x p) (e :: es) [] pos) (tCall (spD K n f) [] E0 tl) (sCall f ms):=⟨pe_callee C hr hg ha.pa hdb he hpl,call_d ha.ok hn⟩
end
end L3
namespace L3
open PySem PySem.Spec PyProof.Rows L2
section
variable {H:Hp} {d c:Addr} {a l t:Int}
end
structure FdS where
  ns:List Int
  a:Int
  l:Int
  t:Int
class Fam where
  At:Addr→Addr→Hp→FdS→Prop
  some1:∀ {d c H F},At d c H F→∃ o,H d = some o ∧ NoT o
  some2:∀ {d c H F},At d c H F→∃ o,H c = some o ∧ NoT o
  congr:∀ {d c H H' F},At d c H F→H' d = H d→H' c = H c→At d c H' F
  lam:List Str
  drawF:Int→FdS→Option (Int × FdS)
  draw_some:∀ {m:Int} {F:FdS},0 < m→m < 1073741824→F.t < 199999→∃ r F',drawF m F = some (r,F') ∧ 0 ≤ r ∧ r < m ∧ F'.t = F.t + 1
noncomputable instance fdI [Fam]:Feeds where
  S:=FdS
  At:=Fam.At
  some1:=Fam.some1
  some2:=Fam.some2
  congr:=Fam.congr
  lam:=Fam.lam
noncomputable def FdS.cell (F:FdS):Int:=if F.ns = [] then 11 else (F.ns[(F.a % (F.ns.length:Int)).toNat]?).getD 0
noncomputable def drawS [Fam]:List DV→M PyData
  | [.feed,.dat (.int m)]=>fun F=>(Fam.drawF m F).bind fun p=>some (.int p.1,p.2)
  | _=>fun _=>none
theorem mod_lt {x m:Int} (h:0 < m):0 ≤ x % m ∧ x % m < m:=⟨Int.emod_nonneg _ (by omega),Int.emod_lt_of_pos _ h⟩
theorem cell_at {F:FdS} (h0:¬ F.ns = []):atI (F.ns.map V.int) (F.a % ((F.ns.map V.int).length:Int)) = some (.int F.cell):=by
  have hp:0 < F.ns.length:=List.length_pos_iff.mpr h0
  rw [List.length_map]
  obtain ⟨q1,q2⟩:=mod_lt (x:=F.a) (m:=(F.ns.length:Int)) (by omega)
  obtain ⟨j,hj⟩:∃ j:Nat,F.a % (F.ns.length:Int) = j:=⟨(F.a % (F.ns.length:Int)).toNat,by omega⟩
  have hjl:j < F.ns.length:=by omega
  unfold FdS.cell
  rw [if_neg h0,hj]
  refine atI_nat ?_
  rw [List.getElem?_map]
  simp [hjl]
noncomputable def FdS.cellL (F:FdS):Int:=if F.ns = [] then 0 else (F.ns[(F.a % (F.ns.length:Int)).toNat]?).getD 0
theorem cellL_at {F:FdS} (h0:¬ F.ns = []):atI (F.ns.map V.int) (F.a % ((F.ns.map V.int).length:Int)) = some (.int F.cellL):=by
  have e:F.cellL = F.cell:=by unfold FdS.cellL FdS.cell; rw [if_neg h0,if_neg h0]
  rw [e]
  exact cell_at h0
noncomputable def newF (ns:List Int):FdS:=⟨ns,0,0,0⟩
end L3
namespace L3
open PySem PySem.Spec PyProof.Rows L2
noncomputable def cC:Const→Option PyData
  | .int i=>some (.int i)
  | .bool b=>some (.bool b)
  | .none=>some .none
  | .str x=>some (.str x)
  | _=>none
noncomputable def cI:Expr→Option Int
  | .Constant c _ _=>match c with
    | .int i=>some i
    | _=>none
  | _=>none
noncomputable def cU:UnaryOp→Bool
  | .USub=>true
  | _=>false
noncomputable def cP:Operator→Bool
  | .Pow=>true
  | _=>false
mutual
noncomputable def constD:Expr→Option PyData
  | .Constant c _ _=>cC c
  | .UnaryOp o e _=>if cU o = true then (cI e).map fun i=>.int (-i) else none
  | .BinOp a o b _=>if cP o = true then (cI a).bind fun i=>(cI b).bind fun j=>if CPow i j then some (.int (i ^ j.toNat)) else none else none
  | .Tuple es _ _=>(constDs es).bind fun ds=>if ds.length ≤ 10000 then some (.tuple ds) else none
  | .List es _=>(constDs es).bind fun ds=>if ds.length ≤ 10000 then some (.list ds) else none
  | _=>none
noncomputable def constDs:List Expr→Option (List PyData)
  | []=>some []
  | e :: es=>(constD e).bind fun d=>(constDs es).bind fun ds=>some (d :: ds)
end
mutual
noncomputable def constT:PyData→TE
  | .int i=>tC (.int i)
  | .bool b=>tC (.bl b)
  | .none=>tC .non
  | .str x=>tC (.str x)
  | .tuple ds=>tTup (constTs ds)
  | .list ds=>tLst (constTs ds)
  | .dict _=>fun _ _ _=>False
noncomputable def constTs:List PyData→TA
  | []=>tNil
  | d :: ds=>tCons (constT d) (constTs ds)
end
theorem cI_some {e:Expr} {i:Int} (h:cI e = some i):∃ k p,e = .Constant (.int i) k p:=by
  unfold cI at h
  split at h
  · split at h
    · cases h; exact ⟨_,_,rfl⟩
    · cases h
  · cases h
theorem star_const {e:Expr} {es:List Expr} {env:Env} {d:PyData} (h:constD e = some d):starEach (e :: es) env = (false,eval e env) :: starEach es env:=by
  unfold constD at h
  split at h
  · rfl
  · rfl
  · rfl
  · rfl
  · rfl
  · cases h
section
variable [Feeds] {K:PySem.W.Frag} {X:Cx}
theorem const_all:∀ n:Nat,(∀ (e:Expr) (d:PyData),sizeOf e < n→constD e = some d→Ev K X e (constT d) (sC d)) ∧ (∀ (es:List Expr) (ds:List PyData),sizeOf es < n→constDs es = some ds→Ea K X es (constTs ds) (fun _ F=>some (ds,F))):=by
  intro n
  induction n with
  | zero=>exact ⟨fun _ _ h=>absurd h (Nat.not_lt_zero _),fun _ _ h=>absurd h (Nat.not_lt_zero _)⟩
  | succ n ih =>
    refine ⟨fun e d hn h=>?_,fun es ds hn h=>?_⟩
    · unfold constD at h
      split at h
      · unfold cC at h
        split at h
        · cases h; simp only [constT]; exact ev_int
        · cases h; simp only [constT]; exact ev_bl
        · cases h; simp only [constT]; exact ev_non
        · cases h; simp only [constT]; exact ev_str
        · cases h
      · rename_i o e1 p1
        split at h
        · rename_i ho
          obtain ⟨i,e2,h2⟩:=Option.map_eq_some_iff.mp h
          clear h
          obtain ⟨k,p,rfl⟩:=cI_some e2
          have:o = .USub:=by cases o <;> first | rfl | (exact absurd ho (by decide))
          subst this h2
          simp only [constT]
          have hp:PE X (.UnaryOp .USub (.Constant (.int i) k p) p1) (tUn (rU fun i=>.int (-i)) (tC (.int i))):=pe_un un_neg pe_int
          exact ⟨fun pins s σ H Q I h=>hp pins s σ H Q I ⟨i,rfl,h⟩,fun G B E F σ H Q d F' I e q=>by cases e; exact q _ H Kp.refl I.fd DatIs.int⟩
        · cases h
      · rename_i a o b p1
        split at h
        · rename_i ho
          obtain ⟨i,e2,h2⟩:=Option.bind_eq_some_iff.mp h
          clear h
          obtain ⟨j,e3,h⟩:=Option.bind_eq_some_iff.mp h2
          clear h2
          obtain ⟨k,p,rfl⟩:=cI_some e2
          obtain ⟨k',p',rfl⟩:=cI_some e3
          have:o = .Pow:=by cases o <;> first | rfl | (exact absurd ho (by decide))
          subst this
          split at h
          · rename_i hc
            cases h
            simp only [constT]
            have hp:PE X (.BinOp (.Constant (.int i) k p) .Pow (.Constant (.int j) k' p') p1) (tOp (rI CPow fun i j=>.int (i ^ j.toNat)) (tC (.int i)) (tC (.int j))):=pe_op op_pow pe_int pe_int
            exact ⟨fun pins s σ H Q I h=>hp pins s σ H Q I ⟨i,j,rfl,rfl,hc,h⟩,fun G B E F σ H Q d F' I e q=>by cases e; exact q _ H Kp.refl I.fd DatIs.int⟩
          · cases h
        · cases h
      · rename_i es k p
        obtain ⟨ds,e1,h⟩:=Option.bind_eq_some_iff.mp h
        split at h
        · rename_i hl
          cases h; simp only [constT]
          have hh:=ih.2 es ds (by simp at hn; omega) e1
          exact ⟨pe_tup hh.pa,fun G B E F σ H Q d F' I e q=>by
            cases e
            refine hh.ok G B E F σ H _ ds _ I rfl fun vs H1 k1 f1 h1=>⟨?_,fun p hp=>q _ _ (k1.trans (Kp.upd hp)) (f1.same (Same.upd hp)) (new_tup (bok_step I.bk k1 f1) hp h1)⟩
            rw [h1.length]
            exact Nat.le_trans hl (by rw [sizeLine_eq]; decide)⟩
        · cases h
      · rename_i es p
        obtain ⟨ds,e1,h⟩:=Option.bind_eq_some_iff.mp h
        split at h
        · rename_i hl
          cases h; simp only [constT]
          have hh:=ih.2 es ds (by simp at hn; omega) e1
          exact ⟨pe_lst hh.pa,fun G B E F σ H Q d F' I e q=>by
            cases e
            refine hh.ok G B E F σ H _ ds _ I rfl fun vs H1 k1 f1 h1=>⟨?_,fun p hp=>q _ _ (k1.trans (Kp.upd hp)) (f1.same (Same.upd hp)) (new_lst (bok_step I.bk k1 f1) hp h1)⟩
            rw [h1.length]
            exact Nat.le_trans hl (by rw [sizeLine_eq]; decide)⟩
        · cases h
      · cases h
    · cases es with
      | nil=>simp only [constDs] at h; cases h; simp only [constTs]; exact ea_nil
      | cons e es =>
        simp only [constDs] at h
        obtain ⟨d,e1,h⟩:=Option.bind_eq_some_iff.mp h
        obtain ⟨ds',e2,h⟩:=Option.bind_eq_some_iff.mp h
        cases h
        simp only [constTs]
        exact ea_cons (ih.1 e d (by simp at hn; omega) e1) (ih.2 es ds' (by simp at hn; omega) e2) (star_const e1)
theorem const_ev (e:Expr) (d:PyData) (h:constD e = some d):Ev K X e (constT d) (sC d):=(const_all (sizeOf e + 1)).1 e d (Nat.lt_succ_self _) h
theorem ev_k (d:PyData) {e:Expr} (h:constD e = some d):Ev K X e (constT d) (sC d):=const_ev e d h
end
end L3
namespace L3
open PySem
theorem bt_len:bootBuiltins "len" = some (.builtin "len"):=by decide +kernel
theorem bt_sum:bootBuiltins "sum" = some (.builtin "sum"):=by decide +kernel
theorem bt_min:bootBuiltins "min" = some (.builtin "min"):=by decide +kernel
theorem bt_repr:bootBuiltins "repr" = some (.builtin "repr"):=by decide +kernel
theorem bt_isinstance:bootBuiltins "isinstance" = some (.builtin "isinstance"):=by decide +kernel
theorem bt_tuple:bootBuiltins "tuple" = some (.type "tuple"):=by decide +kernel
theorem bt_list:bootBuiltins "list" = some (.type "list"):=by decide +kernel
theorem bt_int:bootBuiltins "int" = some (.type "int"):=by decide +kernel
end L3
namespace L3
open PySem PySem.Spec PyProof.Rows L2
section
variable [Feeds] {K:PySem.W.Frag} {X:Cx} {a b c e tg iter:Expr} {es:List Expr} {ta tb tc te:TE} {ma mb mc m:DE→M PyData} {pos pos' p p2:Pos}
noncomputable def sCh (f g:PyData→PyData→Option PyData) (a b c:DE→M PyData):DE→M PyData:=fun E F=>(a E F).bind fun p=>(b E p.2).bind fun q=>(f p.1 q.1).bind fun z=>(boolOf z).bind fun t=>if t then (c E q.2).bind fun r=>(g q.1 r.1).bind fun y=>some (y,r.2) else some (.bool false,q.2)
theorem chain_d {f g:PyData→PyData→Option PyData} (ha:TEs K ta ma) (hb:TEs K tb mb) (hc:TEs K tc mc):TEd K (tChain (rD2 K f) (rD2 K g) ta tb tc) (sCh f g ma mb mc):=fun G B E F σ H Q d F' I e q=>by
  obtain ⟨⟨x,F1⟩,e1,e⟩:=Option.bind_eq_some_iff.mp e
  obtain ⟨⟨y,F2⟩,e2,e⟩:=Option.bind_eq_some_iff.mp e
  obtain ⟨z,e3,e⟩:=Option.bind_eq_some_iff.mp e
  obtain ⟨t,e4,eL⟩:=Option.bind_eq_some_iff.mp e
  refine ha G B E F σ H _ x F1 I e1 fun v H1 k1 f1 h1=>?_
  refine hb G B E F1 σ H1 _ y F2 (I.step k1 f1) e2 fun w H2 k2 f2 h2=>⟨fpOf K G,B,x,y,_,bok_step I.bk (k1.trans k2) f2,h1.step k2 I.fB,h2,e3,fun u H3 s hu=>?_⟩
  have:=boolOf_some e4
  subst this
  simp only [DatIs] at hu
  refine ⟨t,hu,?_⟩
  have k3:=(k1.trans k2).trans (Kp.same s)
  cases t with
  | false =>
    rw [if_neg (by decide)] at eL ⊢
    cases eL
    exact q _ H3 k3 (f2.same s) DatIs.bl
  | true =>
    rw [if_pos rfl] at eL ⊢
    obtain ⟨⟨r,F3⟩,e5,eM⟩:=Option.bind_eq_some_iff.mp eL
    obtain ⟨z2,e6,eN⟩:=Option.bind_eq_some_iff.mp eM
    cases eN
    refine hc G B E F2 σ H3 _ r F3 (I.step k3 (f2.same s)) e5 fun w' H4 k4 f4 h4=>⟨fpOf K G,B,y,r,_,bok_step I.bk (k3.trans k4) f4,(h2.step (Kp.same s) I.fB).step k4 I.fB,h4,e6,fun u5 H5 s5 hu5=>q u5 H5 ((k3.trans k4).trans (Kp.same s5)) (f4.same s5) hu5⟩
theorem et_chain {op op':CmpOp} {f g:PyData→PyData→Option PyData} (ho:OpR X (compareOp op) (rD2 K f)) (ho':OpR X (compareOp op') (rD2 K g)) (ha:Eb K X a ta ma) (hb:Eb K X b tb mb) (hc:Eb K X c tc mc)
    (hm:lastMarks [op,op'] [b,c] = false:=by with_unfolding_all rfl):Et K X (.Compare a [op,op'] [b,c] pos) (tTest (tChain (rD2 K f) (rD2 K g) ta tb tc)) (uB (sCh f g ma mb mc)) :=
  ⟨pt_chain ho ho' ha.pe hb.pe hc.pe hm,fun G B E F σ H Q d F' I e q=>by
    obtain ⟨⟨x,F1⟩,e1,e⟩:=Option.bind_eq_some_iff.mp e
    obtain ⟨t,e2,e⟩:=Option.bind_eq_some_iff.mp e
    cases e
    refine chain_d ha.ok hb.ok hc.ok G B E F σ H _ x F1 I e1 fun v H1 k1 f1 h1=>?_
    have:=boolOf_some e2
    simp only at this
    subst this
    simp only [DatIs] at h1
    exact ⟨_,h1,q H1 k1 f1⟩⟩
theorem st_app (i:Nat) {x:Str} {px ap cp:Pos} (hK:X.K = K) (hv:Ev K X e te m) (hN:X.N[i]? = some x:=by rfl) (hvis:Vis X.env.scope x:=by first | exact Or.inl rfl | exact Or.inr (Or.inl rfl) | exact Or.inr (Or.inr rfl)) (hd:(x == ("__debug__":Str)) = false:=by decide) (hcd:(x == ("__classdict__":Str)) = false:=by decide)
    (hbase:attributeBase (.Name x px) "append" X.env (eval (.Name x px) X.env) = eval (.Name x px) X.env:=by rfl)
    (hfew:((backTo cp (starEach [e] X.env)).all (fun x=>!x.1) && (backToKw cp (keywordEach [] X.env)).all (fun x=>x.1.isSome)
      && decide ([e].length + ([]:List Keyword).length + (if ([]:List Keyword).isEmpty then 0 else 1) < 30)) = true:=by rfl)
    (hline:(ap.endLine == cp.line) = true:=by rfl) (hst:starEach [e] X.env = (false,eval e X.env) :: starEach [] X.env:=by rfl) (hplain:(backTo cp (starEach [] X.env)).any (·.1) = false:=by rfl)
    (hs:swapsWith (.Call (.Attribute (.Name x px) "append" ap) [e] [] cp) none pos.line X.env = pure false:=by rfl) :
    Ss K X (.Expr (.Call (.Attribute (.Name x px) "append" ap) [e] [] cp) pos) (tDrop (tBM K "list" rAppend (tVar i) (tCons te tNil))) (mApp i m):=by
  subst hK
  exact ⟨ps_expr (pe_bm PySem.F.plainAttrs_list PySem.F.slot_list_append PySem.F.type_list_append mt_append (pe_var hN hvis hd hcd) (pa_cons hv.pe pa_nil hst) hbase hfew hline hst hplain) hs,app_d hv.ok⟩
end
end L3
namespace L3
open PySem PySem.Spec PyProof.Rows L2
section
variable [Feeds] {K:PySem.W.Frag} {X:Cx} {a b c e tg iter:Expr} {es:List Expr} {ta tb tc te:TE} {ma mb mc m:DE→M PyData} {pos pos' p p2:Pos} {P:Program} {w:World} {mg:Str→Option Value} {base:Heap}
end
end L3
namespace L3
open PySem PySem.Spec PyProof.Rows L2
section
variable {prog:Program} {w:World} {A:Around} {E:Value→Shared→Prop} {s:Shared}
theorem nextOf_tuple_item {it l:Addr} {i:Nat} {items} {x:Value} {Q:Value→Shared→Prop} (hit:s.heap.IsTupleIter it l i)
    (hl:s.heap.IsTuple l items) (hx:items[i]? = some x)
    (hQ:∀ h',h'.IsTupleIter it l (i + 1)→Heap.SameBut it s.heap h'→Q x { s with heap:=h' }) :
    wpAny (model prog w) A (Builtin.SmallTypes.nextOf (.ref it)) Q E s:=by
  obtain ⟨o,ho,hc,hd⟩:=id hit
  obtain ⟨ol,hol,_,nl,hdl⟩:=hl
  unfold Builtin.SmallTypes.nextOf
  refine wpAny_bind (wpAny_callSpecial?_slot (name:=Str.ofString "__next__") hit.typeIs PySem.F.slot_tuple_iterator_next
    (wpAny_call_entry PySem.F.slot_tuple_iterator_next hit.typeIs PySem.F.entry_tuple_iterator_next ?_ (PySem.F.args_tuple_iterator_next_1 _)))
  show wpAny _ _ (field (.ref it) 0 >>= _) _ _ s
  refine wpAny_bind (wpAny_field ho hd (x:=.ref l) rfl ?_)
  show wpAny _ _ (if (Value.ref l == Value.none) = true then _ else _) _ _ s
  rw [if_neg (show ¬ ((Value.ref l == Value.none) = true) from Bool.false_ne_true)]
  show wpAny _ _ (field (.ref it) 1 >>= _) _ _ s
  refine wpAny_bind (wpAny_field ho hd (x:=.int i 0) rfl ?_)
  show wpAny _ _ (seqItems? (.ref l) >>= _) _ _ s
  refine wpAny_bind (wpAny_seqItems hol hdl ?_)
  simp only [Int.toNat_natCast,hx]
  refine wpAny_bind (wpAny_setField ho hd (by simp) (wpAny_pure ⟨x,rfl,wpAny_pure (hQ _ ?_ (Heap.SameBut.update ..))⟩))
  exact ⟨_,Heap.get?_update_self _ ho (Obj.isFreed_of_fields (Obj.data_mapFields hd _)),(Obj.cls_mapFields ..).trans hc,by
    rw [Obj.data_mapFields hd]; simp [rawInt]⟩
theorem nextOf_tuple_end {it l:Addr} {i:Nat} {items} {Q:Value→Shared→Prop} (hh:A.handled = none)
    (hit:s.heap.IsTupleIter it l i) (hl:s.heap.IsTuple l items) (hx:items[i]? = none)
    (hE:∀ h' e,Heap.ExtBut it s.heap h'→(∃ o,h'.get? e = some o ∧ o.cls = .type "StopIteration")→E (.ref e) { s with heap:=h' }) :
    wpAny (model prog w) A (Builtin.SmallTypes.nextOf (.ref it)) Q E s:=by
  obtain ⟨o,ho,hc,hd⟩:=id hit
  obtain ⟨ol,hol,_,nl,hdl⟩:=hl
  unfold Builtin.SmallTypes.nextOf
  refine wpAny_bind (wpAny_callSpecial?_slot (name:=Str.ofString "__next__") hit.typeIs PySem.F.slot_tuple_iterator_next
    (wpAny_call_entry PySem.F.slot_tuple_iterator_next hit.typeIs PySem.F.entry_tuple_iterator_next ?_ (PySem.F.args_tuple_iterator_next_1 _)))
  show wpAny _ _ (field (.ref it) 0 >>= _) _ _ s
  refine wpAny_bind (wpAny_field ho hd (x:=.ref l) rfl ?_)
  show wpAny _ _ (if (Value.ref l == Value.none) = true then _ else _) _ _ s
  rw [if_neg (show ¬ ((Value.ref l == Value.none) = true) from Bool.false_ne_true)]
  show wpAny _ _ (field (.ref it) 1 >>= _) _ _ s
  refine wpAny_bind (wpAny_field ho hd (x:=.int i 0) rfl ?_)
  show wpAny _ _ (seqItems? (.ref l) >>= _) _ _ s
  refine wpAny_bind (wpAny_seqItems hol hdl ?_)
  simp only [Int.toNat_natCast,hx]
  refine wpAny_bind (wpAny_rule (wpAny_bind (wpAny_setField ho hd (by simp) ?_)))
  show wpAny _ _ (newExc (.type "StopIteration") [] >>= _) _ _ _
  refine wpAny_bind ?_
  simp only [newExc,newTuple]
  refine wpAny_bind (wpAny_newObj_type ?_ (by size_fits))
  refine wpAny_bind (m:=firstArgMember _ _) (wpAny_of_eq (a:=Value.none) (by first | rfl | (simp only [firstArgMember]; rfl)) ?_)
  refine wpAny_newObj_type ?_ (by size_fits)
  simp only [raiseNew]
  refine wpAny_bind (wpAny_handled ?_)
  first | rw [show A.in1.handled = none from hh] | rw [hh]
  refine wpAny_bind (wpAny_pure (wpAny_throw ?_))
  exact hE _ _ (((Heap.SameBut.update ..).extBut.push _).push _) ⟨_,Heap.get?_push_size _ rfl,rfl⟩
end
noncomputable def ItSt (b:Bool) (h:Heap) (it l:Addr) (i:Nat):Prop:=if b then h.IsListIter it l i else h.IsTupleIter it l i
noncomputable def SqSt (b:Bool) (h:Heap) (l:Addr) (items:Array Value):Prop:=if b then h.IsList l items else h.IsTuple l items
theorem ItSt.at {b:Bool} {h h':Heap} {it l:Addr} {i:Nat} (x:ItSt b h it l i) (k:∀ o,h.get? it = some o→h'.get? it = some o):ItSt b h' it l i:=by
  cases b
  · exact Heap.IsTupleIter.at (show h.IsTupleIter it l i from x) k
  · exact Heap.IsListIter.at (show h.IsListIter it l i from x) k
theorem SqSt.at {b:Bool} {h h':Heap} {l:Addr} {items:Array Value} (x:SqSt b h l items) (k:∀ o,h.get? l = some o→h'.get? l = some o):SqSt b h' l items:=by
  cases b
  · obtain ⟨o,ho,r⟩:=(show h.IsTuple l items from x)
    exact ⟨o,k o ho,r⟩
  · exact Heap.IsList.at (show h.IsList l items from x) k
theorem ItSt.obj {b:Bool} {h:Heap} {it l:Addr} {i:Nat} (x:ItSt b h it l i):∃ o,h.get? it = some o ∧ ∀ v,o.data ≠ .cell v:=by
  cases b
  · obtain ⟨o,e,c,d⟩:=(show h.IsTupleIter it l i from x)
    exact ⟨o,e,fun v z=>by rw [d] at z; cases z⟩
  · obtain ⟨o,e,c,d⟩:=(show h.IsListIter it l i from x)
    exact ⟨o,e,fun v z=>by rw [d] at z; cases z⟩
theorem drawsSeq {prog:Program} {w:World} {A:Around} (b:Bool) (hh:A.handled = none) (it l:Addr) (hne:l ≠ it) (items:Array Value) :
    Draws prog w A it [it,l] items.size (fun i v=>items[i]? = some v) (fun i h=>ItSt b h it l i ∧ SqSt b h l items) where
  live:=fun _ _ st=>let ⟨o,ho,_⟩:=st.1.obj; ⟨o,ho⟩
  frame:=fun _ _ _ st hk=>⟨st.1.at fun o e=>hk it (by simp) o e,st.2.at fun o e=>hk l (by simp) o e⟩
  item:=fun i s Q E hi st hQ=>by
    cases b
    · refine nextOf_tuple_item (show s.heap.IsTupleIter it l i from st.1) (show s.heap.IsTuple l items from st.2) (x:=items[i]) (by simp [hi]) fun h' hit' hs'=>?_
      exact hQ _ h' s.toks (by simp [hi]) ⟨hit',st.2.at fun o e=>hs'.extBut l o hne e⟩ hs'
    · refine wpAny_nextOf_list_item (show s.heap.IsListIter it l i from st.1) (show s.heap.IsList l items from st.2) (x:=items[i]) (by simp [hi]) fun h' hit' hs'=>?_
      exact hQ _ h' s.toks (by simp [hi]) ⟨hit',st.2.at fun o e=>hs'.extBut l o hne e⟩ hs'
  done:=fun s Q E st hE=>by
    cases b
    · exact nextOf_tuple_end hh (show s.heap.IsTupleIter it l items.size from st.1) (show s.heap.IsTuple l items from st.2) (by simp) hE
    · exact wpAny_nextOf_list_end hh (show s.heap.IsListIter it l items.size from st.1) (show s.heap.IsList l items from st.2) (by simp) hE
open AutoSeq1 (wpAny_loadPart') in
theorem meets_enumerate_newT (l:Addr) (items:Array Value) (n:Nat) (dct:Option Addr) (sl:Array (Option Value)) :
    Meets (Builtin.«enumerate.__new__» ⟨[.type "enumerate",.ref l],[]⟩) (fun _ R s=>s.heap.get? l = some { cls:=.type "tuple",dict:=dct,data:=.seq items n,slots:=sl } ∧
      R (.ok (.ret (.ref (s.heap.push { cls:=.type "tuple_iterator",data:=.fields #[.ref l,.int 0 0] }).objs.size)))
        { s with heap:=(s.heap.push { cls:=.type "tuple_iterator",data:=.fields #[.ref l,.int 0 0] }).push { cls:=.type "enumerate",data:=.fields #[.none,.bool false,.ref s.heap.objs.size,rawInt 0,.none,.none] } }) :=
  .of_wp fun prog w A R s h=>by
    obtain ⟨hp,g,d,tk,os⟩:=s; obtain ⟨hl,h⟩:=h
    have hsub:=sub_enumerate
    have hL:Heap.IsTuple (Shared.heap ⟨hp,g,d,tk,os⟩) l items:=⟨_,hl,rfl,n,rfl⟩
    wp_walk using wpAny_loadPart' hl
    refine wpAny_stack_any fun st=>wpAny_pure ?_
    split
    · rename_i c _ _ _ _ _
      cases (c == Value.type "enumerate")
      · wp_walk using wpAny_loadPart' hl,wpAny_pyIter_tuple hL
        exact ⟨_,rfl,h⟩
      · wp_walk using wpAny_loadPart' hl,wpAny_pyIter_tuple hL
        exact ⟨_,rfl,h⟩
    · wp_walk using wpAny_loadPart' hl,wpAny_pyIter_tuple hL
      exact ⟨_,rfl,h⟩
section
variable {prog:Program} {w:World} {A:Around} {E:Value→Shared→Prop} {s:Shared}
theorem call_enumerate_tuple {l:Addr} {items:Array Value} {Q:Value→Shared→Prop} (hL:s.heap.IsTuple l items)
    (h:∀ h',IsEnum h' (s.heap.objs.size + 1) s.heap.objs.size 0 .none→h'.IsTupleIter s.heap.objs.size l 0→h'.objs.size = s.heap.objs.size + 2 →
      (∀ b o,s.heap.get? b = some o→h'.get? b = some o)→Q (.ref (s.heap.objs.size + 1)) { s with heap:=h' }) :
    wpAny (model prog w) A (call (.type "enumerate") [.ref l]) Q E s:=by
  obtain ⟨⟨c,dct,dt,sl⟩,hl,hc,n,hd⟩:=hL
  replace hc:c = .type "tuple":=hc
  replace hd:dt = .seq items n:=hd
  subst hc hd
  refine callType_new PySem.F.called_enumerate (by decide) (PySem.F.typeCall_enumerate_1 _) (PySem.F.newCall_enumerate_1 _) (fun obj=>PySem.F.args_object_init_2 obj _) PySem.F.entry_enumerate_new
    (meets_enumerate_newT l items n dct sl) ⟨hl,?_⟩
  have hz:(s.heap.push { cls:=.type "tuple_iterator",data:=.fields #[.ref l,.int 0 0] }).objs.size = s.heap.objs.size + 1:=Heap.size_push ..
  show _ ∧ _
  rw [hz]
  have he:IsEnum ((s.heap.push { cls:=.type "tuple_iterator",data:=.fields #[.ref l,.int 0 0] }).push
      { cls:=.type "enumerate",data:=.fields #[.none,.bool false,.ref s.heap.objs.size,rawInt 0,.none,.none] }) (s.heap.objs.size + 1) s.heap.objs.size 0 .none:=by
    have:=Heap.get?_push_size (s.heap.push { cls:=.type "tuple_iterator",data:=.fields #[.ref l,.int 0 0] })
      (o:={ cls:=.type "enumerate",data:=.fields #[.none,.bool false,.ref s.heap.objs.size,rawInt 0,.none,.none] }) rfl
    rw [hz] at this; exact this
  refine ⟨⟨_,he,rfl⟩,h _ he ⟨_,Heap.get?_push_of_some _ (Heap.get?_push_size _ rfl),rfl,rfl⟩ (by rw [Heap.size_push,hz]) fun b o x=>Heap.get?_push_of_some _ (Heap.get?_push_of_some _ x)⟩
theorem call_enum {b:Bool} {l:Addr} {items:Array Value} {Q:Value→Shared→Prop} (hL:SqSt b s.heap l items)
    (h:∀ h',IsEnum h' (s.heap.objs.size + 1) s.heap.objs.size 0 .none→ItSt b h' s.heap.objs.size l 0→h'.objs.size = s.heap.objs.size + 2 →
      (∀ b o,s.heap.get? b = some o→h'.get? b = some o)→Q (.ref (s.heap.objs.size + 1)) { s with heap:=h' }) :
    wpAny (model prog w) A (call (.type "enumerate") [.ref l]) Q E s:=by
  cases b
  · exact call_enumerate_tuple (show s.heap.IsTuple l items from hL) h
  · exact call_enumerate_list (show s.heap.IsList l items from hL) h
end
noncomputable def SqA (b:Bool) (K:PySem.W.Frag) (H:Hp) (a:Addr) (xs:List V):Prop:=if b then SqL K H a xs else SqT K H a xs
noncomputable def Ite (b:Bool) (K:PySem.W.Frag) (a:Addr):It :=
  ⟨fun i H=>∃ xs x,SqA b K H a xs ∧ xs[i]? = some x,fun i H v H'=>∃ t x,v = .ref t ∧ H t = none ∧ H' = upd H t (.tup [.int i,x]) ∧ ∀ xs,SqA b K H a xs→xs[i]? = some x,fun i H=>∃ xs,SqA b K H a xs ∧ xs.length = i⟩
theorem SqA.get {b:Bool} {X:Cx} {pins:List (Addr × Obj)} {σ:St} {H:Hp} {s:Shared} {a:Addr} {xs:List V} (I:Inv X pins σ H s) (h:SqA b X.K H a xs):∃ its:List Value,Vals xs its ∧ SqSt b s.heap a its.toArray:=by
  cases b
  · obtain ⟨its,rv,p,_⟩:=I.tuple (show SqT X.K H a xs from h)
    exact ⟨its,rv,p⟩
  · obtain ⟨its,rv,p,_⟩:=I.list (show SqL X.K H a xs from h)
    exact ⟨its,rv,p.isList⟩
theorem SqA.inj {b:Bool} {X:Cx} {pins:List (Addr × Obj)} {σ:St} {H:Hp} {s:Shared} {a:Addr} {xs ys:List V} (I:Inv X pins σ H s) (h:SqA b X.K H a xs) (h':SqA b X.K H a ys):ys = xs:=by
  cases b
  · exact I.tuple_inj (show SqT X.K H a ys from h') (show SqT X.K H a xs from h)
  · exact I.list_inj (show SqL X.K H a ys from h') (show SqL X.K H a xs from h)
end L3
namespace L3
open PySem PySem.Spec PyProof.Rows L2
theorem push_old {h:Heap} {c:Addr} {o o':Obj} (hl:c < h.objs.size) (e:(h.push o).get? c = some o'):h.get? c = some o':=by
  obtain ⟨e1,e2⟩:=Heap.get?_some_iff.mp e
  refine Heap.get?_some_iff.mpr ⟨?_,e2⟩
  have:=Nat.ne_of_lt hl
  cases h; simpa [Heap.push,Array.getElem?_push,this] using e1
theorem inv_turned {X:Cx} {pins:List (Addr × Obj)} {σ:St} {H:Hp} {s:Shared} {h':Heap} {t':Nat} {fp:List Addr} (I:Inv X pins σ H s) (hf:∀ b ∈ fp,FpOk X pins H b) (k:∀ b o,b ∉ fp→s.heap.get? b = some o→h'.get? b = some o):Inv X pins σ H { s with heap:=h',toks:=t' }:=by
  have nit:∀ b u,H b = some u→b ∉ fp:=fun b u e z=>by rw [(hf b z).1] at e; cases e
  refine I.step (g':=s.gens) (d':=s.drawn) (ch:=fp) (fun b hb=>?_) (fun b o _ _ hc e _=>k b o hc e) (fun b o _ _ hc e _=>⟨o.slots,k b o hc e⟩) (fun _ _ _ _ n=>n)
    (fun b o hc e=>⟨o,k b o hc e⟩) (fun _ _ e=>e) (fun _ _ _ e=>e) (fun b ps e=>⟨#[],by rw [e]; simp⟩) (fun m hm=>?_) (fun b u e=>?_) I.bare
  · obtain ⟨_,f1,f2,f3,f4,f5⟩:=hf b hb
    exact ⟨f3,f1,f4,f5⟩
  · obtain ⟨o,es,ep,ho,r⟩:=hm
    exact ⟨o,es,ep,k _ o (fun z=>(hf _ z).2.1 rfl) ho,r⟩
  · refine (I.hok b u e).stay (fun c v hc q=>k c v ?_ q) (fun _ q=>q) fun _ _ q=>q
    rcases hc with z | z
    · rw [z]; exact nit b u e
    · exact nit c _ z
theorem turn_enum {P:Program} {w:World} {K:PySem.W.Frag} {es:List Expr} {k:Nat} {pos:Pos} (b:Bool) (a e it:Addr):Turn P w K (.Tuple es k pos) (Ite b K a) [e,it] e (fun i h=>(e ≠ it ∧ a ≠ e ∧ a ≠ it) ∧ (∃ old,IsEnum h e it i old) ∧ ItSt b h it a i) where
  mem:=by simp
  obj:=fun i h st c hb=>by
    obtain ⟨_,⟨old,he⟩,hit⟩:=st
    rcases List.mem_cons.mp hb with rfl | hb
    · exact ⟨_,he,fun v z=>by cases (show Data.fields _ = Data.cell v from z)⟩
    · rw [List.mem_singleton.mp hb]; exact hit.obj
  keep:=fun i h h' st kk=>by
    obtain ⟨n,⟨old,he⟩,hit⟩:=st
    exact ⟨n,⟨old,kk e (by simp) _ he⟩,hit.at fun o z=>kk it (by simp) o z⟩
  item:=by
    intro X hP hw hK hc i pins s σ H E I hf st hg
    subst hP hw hK
    obtain ⟨⟨n1,n2,n3⟩,⟨old,he⟩,hit⟩:=st
    obtain ⟨xs,x,hq,hx⟩:=hg
    obtain ⟨its,rv,p⟩:=SqA.get I hq
    obtain ⟨u,hu,ru⟩:=rv.get hx
    have hlt:i < its.toArray.size:=by
      have:=(List.getElem?_eq_some_iff.mp hu).1
      simpa using this
    have hel:e < s.heap.objs.size:=Heap.lt_size he
    have hil:it < s.heap.objs.size:=by obtain ⟨o,z,_⟩:=hit.obj; exact Heap.lt_size z
    refine wpAny_pyNext_enum_itemD (drawsSeq b (A:=X.A.in1) (I.ok.hd hc) it a n3 its.toArray) he ⟨hit,p⟩ hlt n1 (by simp [n1,Ne.symm n2]) fun y h' tk hy ho hst' ht hz hk=>?_
    have hyu:y = u:=by
      have hy:its.toArray[i]? = some y:=hy
      rw [List.getElem?_toArray,hu] at hy
      exact (Option.some.inj hy).symm
    subst hyu
    refine ⟨_,rfl,wpAny_letOwnedTupleGo_enum ho fun h2 he2 hs2=>?_⟩
    have hs2:Heap.SameBut e h' h2:=hs2
    have hf0:H s.heap.objs.size = none:=I.hok.fresh (Nat.le_refl _)
    have I1:Inv X pins σ (upd H s.heap.objs.size (.tup [.int i,x])) { s with heap:=s.heap.push { cls:=.type "tuple",data:=.seq #[.int i tk,y] },toks:=tk }:=by
      refine I.laid (t':=tk) (fun b u e=>Heap.get?_push_of_some _ e) (Nat.le_refl _) ?_
      exact ⟨Nat.le_trans (show 2 ≤ 10000 by decide) (by rw [sizeLine_eq]; decide),[.int i tk,y],.cons ⟨tk,rfl⟩ (.cons ru .nil),⟨_,Heap.get?_push_size _ rfl,rfl,_,rfl⟩⟩
    have hfp:∀ c ∈ [e,it],FpOk X pins (upd H s.heap.objs.size (.tup [.int i,x])) c:=fun c hcm=>by
      obtain ⟨f0,f⟩:=hf c hcm
      have hne:c ≠ s.heap.objs.size:=by
        rcases List.mem_cons.mp hcm with rfl | hcm
        · exact Nat.ne_of_lt hel
        · rw [List.mem_singleton.mp hcm]; exact Nat.ne_of_lt hil
      exact ⟨by rw [upd_ne hne]; exact f0,f⟩
    have hT2:h2.get? s.heap.objs.size = some { cls:=.type "tuple",data:=.seq #[.int i tk,y] }:=hs2.extBut _ _ (Nat.ne_of_gt hel) ht
    have I2:Inv X pins σ (upd H s.heap.objs.size (.tup [.int i,x])) { s with heap:=h2,toks:=tk + 1 }:=by
      refine inv_turned (s:={ s with heap:=s.heap.push { cls:=.type "tuple",data:=.seq #[.int i tk,y] },toks:=tk }) I1 hfp fun c o hcn ec=>?_
      have c1:c ≠ e:=fun z=>hcn (by simp [z])
      have c2:c ≠ it:=fun z=>hcn (by simp [z])
      by_cases hcT:c = s.heap.objs.size
      · subst hcT
        have:(s.heap.push { cls:=.type "tuple",data:=.seq #[.int i tk,y] }).get? s.heap.objs.size = some o:=ec
        rw [Heap.get?_push_size _ rfl] at this
        rw [hT2]; exact this
      · have hlc:c < s.heap.objs.size:=by
          have h1:c < (s.heap.push { cls:=.type "tuple",data:=.seq #[.int i tk,y] }).objs.size:=Heap.lt_size ec
          rw [Heap.size_push] at h1
          exact Nat.lt_of_le_of_ne (Nat.le_of_lt_succ h1) hcT
        have ec':s.heap.get? c = some o:=by
          have ec:(s.heap.push { cls:=.type "tuple",data:=.seq #[.int i tk,y] }).get? c = some o:=ec
          exact push_old hlc ec
        exact hs2.extBut c o c1 (hk c o c1 c2 ec')
    refine ⟨.ref s.heap.objs.size,upd H s.heap.objs.size (.tup [.int i,x]),I2,rfl,⟨_,x,rfl,hf0,rfl,fun ys hy=>by rw [SqA.inj I hq hy]; exact hx⟩,⟨⟨n1,n2,n3⟩,⟨y,by simpa using he2⟩,hst'.1.at fun o z=>hs2.extBut it o (Ne.symm n1) z⟩,fun c hcm=>(hfp c hcm).1⟩
  done:=by
    intro X hP hw hK hc i pins s σ H E I hf st hg
    subst hP hw hK
    obtain ⟨⟨n1,n2,n3⟩,⟨old,he⟩,hit⟩:=st
    obtain ⟨xs,hq,hx⟩:=hg
    obtain ⟨its,rv,p⟩:=SqA.get I hq
    have hl:its.toArray.size = i:=by rw [List.size_toArray,← rv.length]; exact hx
    refine wpAny_pyNext_enum_endD (drawsSeq b (A:=X.A.in1) (I.ok.hd hc) it a n3 its.toArray) he (by rw [hl]; exact ⟨hit,p⟩) fun h' eb=>⟨rfl,inv_turned (t':=s.toks) I hf fun c o hc ec=>eb c o (fun z=>hc (by simp [z])) ec⟩
  self:=fun _ _ _ _ _ st h=>by
    obtain ⟨_,⟨old,he⟩,_⟩:=st
    exact wpAny_pyIter_enum he h
section
variable [Feeds] {K:PySem.W.Frag} {X:Cx} {tg iter e:Expr} {te:TE} {m:DE→M PyData} {pos p tp:Pos} {es:List Expr} {tk:Nat}
noncomputable def enumL:Nat→List PyData→List PyData
  | _,[]=>[]
  | k,d :: r=>.tuple [.int k,d] :: enumL (k + 1) r
theorem enumL_len:∀ {ds:List PyData} {k:Nat},(enumL k ds).length = ds.length
  | [],k=>rfl
  | d :: r,k=>by rw [enumL,List.length_cons,List.length_cons,enumL_len]
theorem enumL_get:∀ {ds:List PyData} {k i:Nat} {z:PyData},(enumL k ds)[i]? = some z→∃ d,ds[i]? = some d ∧ z = .tuple [.int ((k + i:Nat)),d]
  | [],k,i,z,h=>by simp [enumL] at h
  | d :: r,k,0,z,h=>by simp [enumL] at h; exact ⟨d,by simp,by simp [h]⟩
  | d :: r,k,i + 1,z,h=>by
    rw [enumL,List.getElem?_cons_succ] at h
    obtain ⟨d',h1,h2⟩:=enumL_get h
    refine ⟨d',by simpa using h1,?_⟩
    rw [h2,show k + 1 + i = k + (i + 1) by omega]
noncomputable def mEnum (a:DE→M PyData):DE→M (List PyData):=fun E F=>(a E F).bind fun p=>(seqOf p.1).bind fun ds=>some (enumL 0 ds,p.2)
noncomputable def iEnum (K:PySem.W.Frag) (tl:TA):TI:=fun σ H R=>tl σ H fun xs H1=>∃ a,xs = [.ref a] ∧ ∃ b ys,SqA b K H1 a ys ∧ R (Ite b K a) H1
theorem pi_enum {l:Expr} {tl:TA} (hK:X.K = K) (hg:Gl X "enumerate") (hm:X.mg "enumerate" = none) (ha:PA X [l] tl) (hs:starEach [l] X.env = [(false,eval l X.env)]:=by rfl):PI X (.Tuple es tk tp) (.Call (.Name "enumerate" p) [l] [] pos) (iEnum K tl):=by
  subst hK
  intro pins s σ H R I h
  refine Call_ (ld_blt I hg hm boot_enumerate (PyProof.Rows.callWith_type1 (thn (ha pos pins s σ H _ I h) fun us s1 ⟨vs,H1,I1,r1,q1⟩=>?_) hs rfl))
  obtain ⟨a,e,b,ys,hq,q⟩:=q1
  subst e
  cases r1 with
  | cons r rr =>
    cases rr
    cases r
    obtain ⟨its,rv,p⟩:=SqA.get I1 hq
    refine call_enum p fun h' he hit hz hk=>?_
    have I2:Inv X pins σ H1 { s1 with heap:=h' }:=I1.kept (t':=s1.toks) hk
    have hal:a < s1.heap.objs.size:=by
      cases b
      · obtain ⟨o,z,_⟩:=(show s1.heap.IsTuple a its.toArray from p); exact Heap.lt_size z
      · obtain ⟨o,z,_⟩:=(show s1.heap.IsList a its.toArray from p); exact Heap.lt_size z
    refine wpAny_pyIter_enum he ⟨s1.heap.objs.size + 1,[s1.heap.objs.size + 1,s1.heap.objs.size],_,_,H1,rfl,I2,turn_enum b a _ _,⟨⟨Nat.succ_ne_self _,Nat.ne_of_lt (Nat.lt_succ_of_lt hal),Nat.ne_of_lt hal⟩,⟨_,he⟩,hit⟩,fun c hc=>?_,q⟩
    have hle:s1.heap.objs.size ≤ c:=by
      rcases List.mem_cons.mp hc with rfl | hc
      · exact Nat.le_succ _
      · rw [List.mem_singleton.mp hc]; exact Nat.le_refl _
    exact I1.fpOk hle (I1.hok.fresh hle)
theorem it_enum {P:Hp→List Addr→Prop} {b:Bool} {a:Addr} {ds:List PyData} {xs:List V} (h:∀ H B,P H B→SqA b K H a xs ∧ DatsAre K (hid H B) ds xs):IterOk K P (Ite b K a) (enumL 0 ds):=fun H B hp=>by
  obtain ⟨h1,h2⟩:=h H B hp
  refine ⟨fun i d e=>?_,⟨xs,h1,by rw [enumL_len,h2.length]⟩⟩
  obtain ⟨d',hd',rfl⟩:=enumL_get e
  obtain ⟨v,e1,e2⟩:=DatsAre.item h2 hd'
  refine ⟨⟨xs,v,h1,e1⟩,fun x H2 y=>?_⟩
  obtain ⟨t,x',rfl,ht,rfl,y⟩:=y
  have:=y xs h1
  rw [e1] at this; cases this
  refine ⟨Same.upd ht,fun bk=>?_⟩
  rw [Nat.zero_add]
  exact new_tup bk ht ⟨_,_,rfl,DatIs.int,_,_,rfl,e2,rfl⟩
theorem eib_enum (h:Eb K X e te m) (hm:X.mg "enumerate" = none) (hK:X.K = K:=by rfl) (hg:Gl X "enumerate":=by rfl) (hs:starEach [e] X.env = [(false,eval e X.env)]:=by rfl):Eib K X (.Tuple es tk tp) (.Call (.Name "enumerate" p) [e] [] pos) (iEnum K (tCons te tNil)) (mEnum m):=⟨pi_enum hK hg hm (pa_cons h.pe pa_nil hs) hs,fun G B E F σ H R ds F' I e q=>by
  obtain ⟨⟨y,F1⟩,e1,e⟩:=Option.bind_eq_some_iff.mp e
  obtain ⟨z,e2,e⟩:=Option.bind_eq_some_iff.mp e
  cases e
  refine h.ok G B E F σ H _ y F1 I e1 fun v H1 k1 f1 h1=>?_
  cases y with
  | list ys =>
    cases e2
    obtain ⟨a,xs,rfl,ha,hd⟩:=h1
    exact ⟨a,rfl,true,xs,SqL.of (hid_same _ _ ha),q _ H1 k1 f1 (it_enum fun H2 B2 k=>⟨SqL.of (hid_same _ _ (k.1.hid (B:=fpOf K G) (fun _ z=>z) _ _ ha)),hd.same k.2⟩)⟩
  | tuple ys =>
    cases e2
    obtain ⟨a,xs,rfl,ha,hd⟩:=h1
    exact ⟨a,rfl,false,xs,ha.same hid_same,q _ H1 k1 f1 (it_enum fun H2 B2 k=>⟨(ha.same k.2).same hid_same,hd.same k.2⟩)⟩
  | _=>cases e2⟩
end
end L3
namespace L3
open PySem PySem.Spec PyProof.Rows L2
section
variable [Feeds] {K:PySem.W.Frag} {X:Cx} {a b c e tg iter:Expr} {es:List Expr} {ta tb tc te:TE} {ma mb mc m:DE→M PyData} {pos pos' p p2:Pos} {t u:TS} {mt mu:DE→M Out}
noncomputable def mAug (f:Int→Int→Int) (i:Nat) (a:DE→M PyData):DE→M Out:=fun E F=>match E[i]? with
  | some (some (.dat (.int x)))=>(a E F).bind fun p=>(intOf p.1).bind fun y=>(bN i (.int (f x y)) E).bind fun E1=>some (.nx E1,p.2)
  | _=>none
theorem aug_d {f:Int→Int→Int} {i:Nat} (he:TEd K te m):TSd K (tAug i te (ipI f)) (mAug f i m):=fun G B0 H0 E F σ H D r F' S e q=>by
  unfold mAug at e
  split at e
  · rename_i x hx
    obtain ⟨⟨d,F1⟩,e1,e⟩:=Option.bind_eq_some_iff.mp e
    obtain ⟨y,e2,e⟩:=Option.bind_eq_some_iff.mp e
    obtain ⟨E1,e3,e⟩:=Option.bind_eq_some_iff.mp e
    cases e
    obtain ⟨B,s,sn,I⟩:=S.ex
    obtain ⟨v,v1,v2⟩:=I.loc i _ hx
    have v2:DatIs K (hid H B) (.int x) v:=v2
    simp only [DatIs] at v2
    subst v2
    refine ⟨_,v1,he G B E F σ H _ d F1 I e1 fun v H1 k1 f1 h1=>?_⟩
    have:=intOf_some e2
    simp only at this
    subst this
    simp only [DatIs] at h1
    subst h1
    refine ⟨x,y,rfl,rfl,?_⟩
    have S1:=S.step k1 f1
    exact name_d i G B E F1 σ H1 (.int (f x y)) _ E1 (fun σ' H'=>D.nx σ' H') (I.step k1 f1) DatIs.int e3 fun σ' I' fr=>q σ' H1 (S1.bind s sn I' fr)
  · cases e
theorem st_augA (i:Nat) {x:Str} (hN:X.N.Nodup) (he:Ev K X e te m) (hi:X.N[i]? = some x:=by rfl) (hx:Loc X.env.scope x:=by first | exact Or.inl rfl | exact Or.inr rfl) (hf:X.fn x = true ∨ X.env.scope.names.lookup x = some .local:=by first | exact .inl rfl | exact .inr rfl | assumption) :
    Ss K X (.AugAssign (.Name x pos') .Add e pos) (tAug i te (ipI fun i j=>i + j)) (mAug (fun i j=>i + j) i m):=⟨ps_aug hN hi hx he.pe ip_add hf,aug_d he.ok⟩
end
end L3
namespace L3
open PySem PySem.Spec PyProof.Rows L2
section
variable [Feeds] {K:PySem.W.Frag} {X:Cx} {a b c e tg iter:Expr} {es:List Expr} {ta tb tc te:TE} {ma mb mc m:DE→M PyData} {pos pos' p p2:Pos}
end
end L3
namespace L3
open PySem PySem.Spec PyProof.Rows L2
section
variable {X:Cx}
end
section
variable [Feeds] {K:PySem.W.Frag} {X:Cx} {a b c e tg iter:Expr} {es:List Expr} {ta tb tc te:TE} {ma mb mc m:DE→M PyData} {pos pos' p p2 pos2:Pos}
end
end L3
namespace L3
open PySem PySem.Spec PyProof.Rows L2
section
variable {prog:Program} {w:World} {A:Around} {E:Value→Shared→Prop} {s:Shared}
end
section
variable {X:Cx} {K:PySem.W.Frag} {p p2 pos pos2:Pos}
end
section
variable {prog:Program} {w:World} {A:Around} {E:Value→Shared→Prop} {s:Shared}
theorem sum_intTuple {l:Addr} {xs:Array (Int × Tok)} {Q:Value→Shared→Prop} (hh:A.handled = none) (hl:s.heap.IsTuple l (intItems xs))
    (h:∀ h' tk t',(∀ b o,s.heap.get? b = some o→h'.get? b = some o)→Q (.int (preSum (numAt xs) xs.size) t') { s with heap:=h',toks:=tk }) :
    wpAny (model prog w) A (call (.builtin "sum") [.ref l]) Q E s:=by
  have hlt:l < s.heap.objs.size:=by obtain ⟨_,e,_⟩:=hl; exact Heap.lt_size e
  refine call_sum_walkG (wpAny_pyIter_tuple hl ?_)
  refine ⟨s.heap.objs.size,[s.heap.objs.size,l],[s.heap.objs.size],_,_,_,numAt xs,rfl,Walks.tuple (A:=A.in1) hh _ l (Nat.ne_of_lt hlt) (intItems xs),⟨⟨_,Heap.get?_push_size _ rfl,rfl,rfl⟩,hl.push _⟩,fun b hb=>?_,(fun _ _=>intItems_at),fun h' tk t' hk=>?_⟩
  · show b < (s.heap.push _).objs.size
    rw [Heap.size_push]
    rcases List.mem_cons.mp hb with rfl | hb
    · exact Nat.lt_succ_self _
    · rw [List.mem_singleton.mp hb]; exact Nat.lt_succ_of_lt hlt
  · have:=h h' tk t' fun b o e=>hk b o (fun hm=>by rw [List.mem_singleton.mp hm] at e; exact absurd (Heap.lt_size e) (Nat.lt_irrefl _)) (Heap.get?_push_of_some _ e)
    simpa [intItems] using this
end
section
variable {X:Cx} {K:PySem.W.Frag} {p p2 pos pos2:Pos}
theorem call_sumT (hc:X.calm = true):CallR X (.builtin "sum") (fun xs H Q=>∃ (a:Addr) (ns:List Int),xs = [.ref a] ∧ SqT X.K H a (ns.map V.int) ∧ Q (.int ns.sum) H):=by
  intro pins s σ H xs us Q I r h
  obtain ⟨a,ns,rfl,hq,q⟩:=h
  obtain ⟨u,rfl,ru⟩:=vals1 r
  cases ru
  obtain ⟨its,rv,p,hz⟩:=I.tuple hq
  have hi:=intsAre_of rv
  obtain ⟨zs,hzs⟩:=hi.allInts.items
  have hl:s.heap.IsTuple a (intItems zs):=hzs ▸ p
  refine sum_intTuple (I.ok.hd hc) hl fun h' tk t' hk=>⟨.int ns.sum,H,I.kept hk,⟨t',?_⟩,q⟩
  have hn:=hi.numsOf
  have e:numsOf (intItems zs).toList = ns:=by rw [← hzs]; exact hn
  rw [nums_intItems] at e
  rw [preSum_eq,List.take_of_length_le (by simp),e]
noncomputable def sumD':List PyData→Option PyData
  | [.list ds]=>(intsOf ds).map fun ns=>.int ns.sum
  | [.tuple ds]=>(intsOf ds).map fun ns=>.int ns.sum
  | _=>none
theorem cd_sum' (hK:X.K = K) (hc:X.calm = true):CallR X (.builtin "sum") (rDN K sumD'):=by
  subst hK
  intro pins s σ H xs us Q I r h
  obtain ⟨fp,B,ds,z,bk,h1,hf,q⟩:=h
  unfold sumD' at hf
  split at hf <;> try cases hf
  · obtain ⟨ns,e,rfl⟩:=Option.map_eq_some_iff.mp hf
    cases intsOf_some e
    obtain ⟨v,rfl,a,xs,rfl,ha,hd⟩:=shs1 h1 rfl
    cases ints_v hd
    exact call_sum hc pins s σ H _ us Q I r ⟨a,ns,rfl,SqL.of (hid_same _ _ ha),q _ H (Same.refl H) DatIs.int⟩
  · obtain ⟨ns,e,rfl⟩:=Option.map_eq_some_iff.mp hf
    cases intsOf_some e
    obtain ⟨v,rfl,a,xs,rfl,ha,hd⟩:=shs1 h1 rfl
    cases ints_v hd
    exact call_sumT hc pins s σ H _ us Q I r ⟨a,ns,rfl,ha.same hid_same,q _ H (Same.refl H) DatIs.int⟩
variable [Feeds]
end
end L3
namespace L3
open PySem PySem.Spec PyProof.Rows L2
section
variable {X:Cx} {K:PySem.W.Frag}
variable {mg:Str→Option Value}
end
section
variable [Feeds] {X:Cx} {K:PySem.W.Frag}
noncomputable def mPub (i:Nat) (m:DE→M Out):DE→M Out:=fun E F=>(ownOf E i).bind fun ds=>m (E.set i (some (.dat (.list ds)))) F
theorem pub_d {i:Nat} {ts:TS} {m:DE→M Out} (h:TSd K ts m):TSd K ts (mPub i m):=fun G B0 H0 E F σ H D r F' S e q=>by
  obtain ⟨ds,e4,e⟩:=Option.bind_eq_some_iff.mp e
  obtain ⟨B,s,sn,I⟩:=S.ex
  have eo:=ownOf_some e4
  have hil:i < E.length:=(List.getElem?_eq_some_iff.mp eo).1
  obtain ⟨w,w1,a,xs,rfl,hB,hf,hx,hdx⟩:=I.loc i _ eo
  have ha:=S.own i ds a eo w1
  have sub:∀ b ∈ B.filter (fun b=>decide (b ≠ a)),b ∈ B:=fun b hb=>(List.mem_filter.mp hb).1
  have inB:∀ b ∈ B,b ≠ a→b ∈ B.filter (fun b=>decide (b ≠ a)):=fun b hb hn=>List.mem_filter.mpr ⟨hb,decide_eq_true hn⟩
  have ng:a ∉ B.filter (fun b=>decide (b ≠ a)):=fun hb=>absurd rfl (of_decide_eq_true (List.mem_filter.mp hb).2)
  have sm:Same (hid H B) (hid H (B.filter (fun b=>decide (b ≠ a)))):=hid_sub sub
  have get:∀ j,j ≠ i→(E.set i (some (.dat (.list ds))))[j]? = E[j]?:=fun j hj=>by rw [List.getElem?_set_ne (Ne.symm hj)]
  have geti:(E.set i (some (.dat (.list ds))))[i]? = some (some (.dat (.list ds))):=by rw [List.getElem?_set_self hil]
  refine h G B0 H0 (E.set i (some (.dat (.list ds)))) F σ H D r F' ⟨⟨_,fun b hb=>inB b (s b hb) fun z=>ha.2 (z ▸ hb),fun b hb=>sn b (sub b hb),⟨I.fd,fun b hb=>inB b (I.fB b hb) fun z=>hf (z ▸ hb),fun b hb=>I.bk b (sub b hb),by rw [List.length_set]; exact I.ln,fun j x ej=>?_⟩⟩,S.fB,S.kp,fun j es b ej=>?_,fun j k es fs b ej ek=>?_⟩ e q
  · by_cases hj:j = i
    · subst hj
      rw [geti] at ej
      cases ej
      refine ⟨_,w1,DatIs.lst (by rw [hid_out ng]; exact hx) (hdx.same sm)⟩
    · rw [get j hj] at ej
      obtain ⟨v,v1,hv⟩:=I.loc j x ej
      refine ⟨v,v1,?_⟩
      cases x with
      | dat d=>exact DatIs.same (hv:DatIs _ _ _ _) sm
      | feed=>exact hv
      | fn _=>exact hv
      | adr _=>exact hv
      | own es =>
        obtain ⟨b,ys,e1,hb1,hb2,hb3,hb4⟩:=hv
        subst e1
        exact ⟨b,ys,rfl,inB b hb1 fun z=>hj (S.inj j i es ds a ej eo (z ▸ v1) w1),hb2,hb3,hb4.same sm⟩
  · by_cases hj:j = i
    · subst hj; rw [geti] at ej; cases ej
    · rw [get j hj] at ej; exact S.own j es b ej
  · by_cases hj:j = i
    · subst hj; rw [geti] at ej; cases ej
    · by_cases hk:k = i
      · subst hk; rw [geti] at ek; cases ek
      · rw [get j hj] at ej; rw [get k hk] at ek; exact S.inj j k es fs b ej ek
theorem st_pub (i:Nat) {st:Stmt} {ts:TS} {m:DE→M Out} (h:Ss K X st ts m):Ss K X st ts (mPub i m):=⟨h.ps,pub_d h.ok⟩
end
end L3
namespace L3
open PySem PySem.Spec PyProof.Rows L2
section
variable {X:Cx}
end
section
variable [Feeds] {X:Cx} {K:PySem.W.Frag} {e:Expr} {te:TE} {m:DE→M PyData} {pos pos':Pos}
end
end L3
namespace L3
open PySem PySem.Spec PyProof.Rows L2
section
variable {prog:Program} {w:World} {A:Around} {E:Value→Shared→Prop} {s:Shared}
end
section
variable [Feeds] {K:PySem.W.Frag} {X:Cx} {pos:Pos}
end
end L3
namespace L3
open PySem PySem.Spec PyProof.Rows L2
section
variable [Feeds] {X:Cx} {K:PySem.W.Frag} {e:Expr} {te:TE} {m:DE→M PyData} {pos:Pos}
end
end L3
namespace L3
open PySem PySem.Spec PyProof.Rows L2
section
variable [Feeds] {X:Cx} {K:PySem.W.Frag} {e:Expr} {te:TE} {m:DE→M PyData} {pos p2:Pos}
end
end L3
namespace L3
open PySem PySem.Spec PyProof.Rows L2
theorem len_1 {us:List Value} (h:us.length = 1):∃ a,us = [a]:=List.length_eq_one_iff.mp h
theorem len_s {us:List Value} {n:Nat} (h:us.length = n + 1):∃ a r,us = a :: r ∧ r.length = n:=by
  cases us with
  | nil=>cases h
  | cons a r=>exact ⟨a,r,rfl,Nat.succ.inj h⟩
theorem len_2 {us:List Value} (h:us.length = 2):∃ a b,us = [a,b]:=by
  obtain ⟨a,r,rfl,h2⟩:=len_s h
  obtain ⟨b,rfl⟩:=len_1 h2
  exact ⟨a,b,rfl⟩
theorem len_3 {us:List Value} (h:us.length = 3):∃ a b c,us = [a,b,c]:=by
  obtain ⟨a,r,rfl,h2⟩:=len_s h
  obtain ⟨b,c,rfl⟩:=len_2 h2
  exact ⟨a,b,c,rfl⟩
theorem len_4 {us:List Value} (h:us.length = 4):∃ a b c d,us = [a,b,c,d]:=by
  obtain ⟨a,r,rfl,h2⟩:=len_s h
  obtain ⟨b,c,d,rfl⟩:=len_3 h2
  exact ⟨a,b,c,d,rfl⟩
section
variable {K:PySem.W.Frag} {H:Hp} {B A:List Addr}
end
section
variable [Feeds]
variable {K:PySem.W.Frag} {X:Cx} {e:Expr} {es:List Expr} {te:TE} {m:DE→M PyData} {tl:TA} {ms:DE→M (List DV)} {pos p:Pos}
end
end L3
namespace L3
open PySem PySem.Spec PyProof.Rows L2
section
variable [Feeds] {K:PySem.W.Frag} {X:Cx}
end
end L3
namespace L3
open PySem PySem.Spec PyProof.Rows L2
section
variable [Feeds] {K:PySem.W.Frag} {X:Cx}
end
end L3
namespace L2
open PySem PySem.Spec PyProof.Rows
section
variable {P:Program} {w:World} {K:PySem.W.Frag} {mg:Str→Option Value} {base:Heap}
end
end L2
namespace L3
open PySem PySem.Spec PyProof.Rows L2
section
variable [Feeds] {P:Program} {w:World} {K:PySem.W.Frag} {mg:Str→Option Value} {base:Heap}
end
end L3
namespace L3
open PySem PySem.Spec PyProof.Rows L2
noncomputable abbrev TabL:=List (Str × Addr × Addr)
noncomputable def TabsAt (ts:TabL) (h:Heap):Prop:=∀ t ∈ ts,PySem.W.CodeHd h t.2.1 t.2.2 ∧ h.get? t.2.2 = some (PySem.W.tabObj #[])
theorem law_callT {P:Program} {w:World} {K:PySem.W.Frag} {mg mb:Str→Option Value} {CX:CXT} {k:Nat} {fa a:Addr} {fd:FuncData} {x:Str} {sp:Sp} {s₁:Shared} {vs:List Value} {ns:List Int} {ts:TabL}
    (KX:K.In s₁.heap) (hns:s₁.heap.Ns mainGlobals mg) (hb:s₁.heap.Ns builtinsNs mb) (hbb:∀ x:Str,x ≠ "__name__"→mb x = bootBuiltins x) (hlim:s₁.heap.NoLimit) (hg:s₁.gens = #[])
    (ha:s₁.heap.get? a = some { cls:=.type "list",data:=.seq vs.toArray }) (hi:IntsAre vs ns) (hl:ns.length ≤ sizeLine) (hr:Room k callerA)
    (hT:TabsAt ts s₁.heap) (hnt:PySem.W.noTabs K = true) (BM:BMd s₁.heap mg)
    (F:∀ base:Heap,K.In base→base.Ns mainGlobals mg→BMd base mg→(∀ t ∈ ts,PySem.W.CodeHd base t.2.1 t.2.2)→FnOk P w K mg base CX k fa fd [x] sp) (hbind:∀ (s:Shared) (u:Value),BindsTo s fd ⟨[u],[]⟩ [(x,u)])
    (hsp:∀ H:Hp,SqL K H a (ns.map V.int)→TabsOk ts H→sp [.ref a] H (fun v _=>v = .bl true) fun _ _ _=>False)
    (hCX:∀ H e s',CX [] H s₁ (fun _ _ _=>False) e s'→False) :
    codeAny (model P w) callerA (.call (.ref fa) ⟨[.ref a],[]⟩) (fun r s'=>r = .ok (.ret (.bool true)) ∧ OldK s₁.heap s'.heap ∧ s'.os = s₁.os ∧ AllBare s'.gens) s₁:=by
  have rv:=vals_ints hi
  have lenV:=hi.length
  have aP:∀ t ∈ ts,t.2.2 ≠ a:=fun t ht e=>by
    have:=(hT t ht).2
    rw [e,ha] at this; cases this
  have core:∀ H:Hp,(∀ b,H b = none ∨ (b = a ∧ H b = some (.frz { cls:=.type "list",data:=.seq vs.toArray } (.lst (ns.map V.int)))) ∨ (b ∈ ts.map (·.2.2) ∧ H b = some (.tbl #[])))→(∀ t ∈ ts,H t.2.2 = some (.tbl #[]))→SqL K H a (ns.map V.int)→(H a ≠ none→K.lookup a = none) →
      codeAny (model P w) callerA (.call (.ref fa) ⟨[.ref a],[]⟩) (fun r s'=>r = .ok (.ret (.bool true)) ∧ OldK s₁.heap s'.heap ∧ s'.os = s₁.os ∧ AllBare s'.gens) s₁:=by
    intro H hO hTH hS hK
    have tabO:∀ {b:Addr},b ∈ ts.map (·.2.2)→s₁.heap.get? b = some (PySem.W.tabObj #[]):=fun {b} hb=>by
      obtain ⟨t,ht,rfl⟩:=List.mem_map.mp hb
      exact (hT t ht).2
    have hok:HOk P w H s₁.heap:=fun b u e=>by
      rcases hO b with z | ⟨rfl,z⟩ | ⟨hb,z⟩
      · rw [z] at e; cases e
      · rw [z] at e; cases e
        exact ⟨ha,by rw [List.length_map]; exact hl,vs,_,rv,ha⟩
      · rw [z] at e; cases e
        exact tabO hb
    have base_of:∀ {b:Addr} {o:Obj},s₁.heap.get? b = some o→H b = none→(hidT s₁.heap H).get? b = some o:=fun e n=>hidT_get e n
    have other:∀ {b:Addr} {o:Obj},s₁.heap.get? b = some o→o ≠ { cls:=.type "list",data:=.seq vs.toArray }→o ≠ PySem.W.tabObj #[]→H b = none:=fun {b o} e h1 h2=>by
      rcases hO b with z | ⟨rfl,z⟩ | ⟨hb,z⟩
      · exact z
      · rw [ha] at e; exact absurd (Option.some.inj e).symm h1
      · rw [tabO hb] at e; exact absurd (Option.some.inj e).symm h2
    have nsK:∀ {b:Addr} {m:Str→Option Value},s₁.heap.Ns b m→(hidT s₁.heap H).Ns b m:=fun {b m} ⟨o,es,ep,e,d,r⟩=>⟨o,es,ep,base_of e (other e (fun z=>by rw [z] at d; cases d) fun z=>by rw [z] at d; cases d),d,r⟩
    have hKb:K.In (hidT s₁.heap H):=fun b o e=>base_of (KX b o e) (by
      rcases hO b with z | ⟨rfl,z⟩ | ⟨hb,z⟩
      · exact z
      · rw [hK (by rw [z]; simp)] at e; cases e
      · have e2:=KX b o e
        rw [tabO hb] at e2
        cases e2
        have h2:=List.all_eq_true.mp hnt _ (PySem.W.mem_of_lookupK e)
        exact absurd (show false = true from h2) Bool.false_ne_true)
    have hM:Mod K mg (hidT s₁.heap H):=⟨hKb,nsK hns,⟨mb,nsK hb,hbb⟩,let ⟨mc,h1,h2⟩:=hlim; ⟨mc,nsK h1,h2⟩⟩
    have hBM:BMd (hidT s₁.heap H) mg:=by
      obtain ⟨bm,ob,b1,b2,b3,b4,b5,b6⟩:=BM
      exact ⟨bm,ob,b1,b2,base_of b3 (other b3 (fun z=>by rw [z] at b4; have b4:Value.type "list" = Value.type "module":=b4; exact absurd b4 (by decide)) fun z=>by rw [z] at b4; have b4:Value.none = Value.type "module":=b4; exact absurd b4 (by decide)),b4,b5,b6⟩
    have hCd:∀ t ∈ ts,PySem.W.CodeHd (hidT s₁.heap H) t.2.1 t.2.2:=fun t ht=>by
      obtain ⟨o,vs',file,tf,flags,tg,inF,text,tt,e1,r1,r2⟩:=(hT t ht).1
      exact ⟨o,vs',file,tf,flags,tg,inF,text,tt,base_of e1 (other e1 (fun z=>by rw [z] at r1; have r1:Value.type "list" = Value.type "code":=r1; exact absurd r1 (by decide)) fun z=>by rw [z] at r1; have r1:Value.none = Value.type "code":=r1; exact absurd r1 (by decide)),r1,r2⟩
    have e0:Env0 P w K mg (hidT s₁.heap H) callerA [] s₁ H:=⟨rfl,hM,fun b o e=>of_hidT e,Nat.le_of_eq (hidT_size _ _),trivial,fun b hb=>absurd (show b ∈ ([]:List Addr) from hb) (by simp),hok,.of_eq hg⟩
    have hTO:TabsOk ts H:=fun t ht=>⟨#[],hTH t ht,trivial,fun pos cv e=>by cases e⟩
    refine codeAny_mono ((F _ hKb (nsK hns) hBM hCd).run callerA [] s₁ H ⟨[.ref a],[]⟩ [.ref a] [.ref a] _ _ hr e0 (hbind s₁ (.ref a)) (.cons rfl .nil) (hsp H hS hTO)) fun r s' h=>?_
    cases r with
    | error e=>exact (hCX H e s' h).elim
    | ok fl =>
      cases fl with
      | next=>exact False.elim h
      | brk=>exact False.elim h
      | cont=>exact False.elim h
      | ret u =>
        obtain ⟨v,H',os,bare,un,hok',r',q⟩:=h
        have q':v = .bl true:=q
        subst q'
        obtain rfl:u = Value.bool true:=r'
        have kept:∀ b o,s₁.heap.get? b = some o→H b = none→s'.heap.get? b = some o:=fun b o e q=>un.keep b o e q (by intro z; exact absurd (show b ∈ ([]:List Addr) from z) (by simp)) (by simp)
        have scr:∀ b o,s₁.heap.get? b = some o→b = a→H b = some (.frz { cls:=.type "list",data:=.seq vs.toArray } (.lst (ns.map V.int)))→s'.heap.get? b = some o:=fun b o e hb z=>by
          have z2:=un.frzs b _ _ z
          obtain ⟨e1,_⟩:=hok b _ z
          obtain ⟨e2,_⟩:=hok' b _ z2
          rw [e] at e1; cases e1
          exact e2
        have tab:∀ b,H b = some (.tbl #[])→∃ more,s'.heap.get? b = some (PySem.W.tabObj more):=fun b z=>by
          obtain ⟨more,z2⟩:=un.tbls b _ z
          exact ⟨_,hok' b _ z2⟩
        refine ⟨rfl,⟨fun b o e=>?_,fun b o e=>?_⟩,os,bare⟩
        · rcases hO b with z | ⟨hb,z⟩ | ⟨hb,z⟩
          · exact .inl (kept b o e z)
          · exact .inl (scr b o e hb z)
          · obtain ⟨more,e2⟩:=tab b z
            have e3:=tabO hb
            rw [e] at e3; cases e3
            obtain ⟨t,ht,rfl⟩:=List.mem_map.mp hb
            refine .inr (.inl ⟨((hT t ht).1.tab (hT t ht).2).isCodeTable,rfl,#[],more,rfl,by rw [Array.empty_append]; exact e2⟩)
        · rcases hO b with z | ⟨hb,z⟩ | ⟨hb,z⟩
          · exact ⟨o,kept b o e z⟩
          · exact ⟨o,scr b o e hb z⟩
          · obtain ⟨more,e2⟩:=tab b z
            exact ⟨_,e2⟩
  cases hk:K.lookup a with
  | some o =>
    have e:=KX a o hk
    rw [ha] at e
    cases e
    have haT:a ∉ ts.map (·.2.2):=fun z=>by
      obtain ⟨t,ht,e⟩:=List.mem_map.mp z
      exact aP t ht e
    refine core (fun b=>if b ∈ ts.map (·.2.2) then some (.tbl #[]) else none) (fun b=>?_) (fun t ht=>if_pos (List.mem_map_of_mem ht)) (.inr ⟨_,vs.toArray,_,hk,rfl,rfl,rfl,by rw [List.size_toArray,lenV]; exact hl,by simpa using rv⟩) fun z=>absurd (if_neg haT) z
    by_cases hb:b ∈ ts.map (·.2.2)
    · exact .inr (.inr ⟨hb,if_pos hb⟩)
    · exact .inl (if_neg hb)
  | none =>
    refine core (fun b=>if b = a then some (.frz { cls:=.type "list",data:=.seq vs.toArray } (.lst (ns.map V.int))) else if b ∈ ts.map (·.2.2) then some (.tbl #[]) else none) (fun b=>?_) (fun t ht=>?_) (.inl (.inr ⟨{ cls:=.type "list",data:=.seq vs.toArray },if_pos rfl⟩)) fun _=>hk
    · by_cases hb:b = a
      · exact .inr (.inl ⟨hb,if_pos hb⟩)
      · by_cases hb2:b ∈ ts.map (·.2.2)
        · exact .inr (.inr ⟨hb2,by rw [if_neg hb,if_pos hb2]⟩)
        · exact .inl (by rw [if_neg hb,if_neg hb2])
    · rw [if_neg (aP t ht)]
      exact if_pos (List.mem_map_of_mem (f:=fun t:Str × Addr × Addr=>t.2.2) ht)
theorem walk_ofT {l:PySem.W.OpenLaw} {n k:Nat} {q:Program} {loose:List Str} {XP:(Str→Option Value)→Heap→Prop} {YP:World→Heap→Prop} {d:DefRec} {K:Params→PySem.W.Frag} {CX:World→CXT} {sp:World→Sp} {x:Str} (lam:List Str)
    (hn:l.most = some n) (hn2:n ≤ sizeLine) (hdf:d.params.defaults = []) (hr:Room k callerA)
    (hrec:(lam.all fun x=>((recsOf q).find? fun e=>e.name == x).isSome) = true) (hnt:∀ w:World,PySem.W.noTabs (K w.params) = true)
    (hY:∀ (w:World) (h:Heap),YP w h→(K w.params).In h)
    (F:∀ (w:World) (mg:Str→Option Value) (fa:Addr) (h:Heap),(K w.params).In h→h.Ns mainGlobals mg→mg d.name = some (.ref fa) →
      ∃ fd:FuncData,(∀ (s:Shared) (u:Value),BindsTo s fd ⟨[u],[]⟩ [(x,u)]) ∧
        ∀ base:Heap,(K w.params).In base→base.Ns mainGlobals mg→BMd base mg→(∀ t ∈ tabsK lam (K w.params),PySem.W.CodeHd base t.2.1 t.2.2)→FnOk l.prog w (K w.params) mg base (CX w) k fa fd [x] (sp w))
    (hsp:∀ (w:World) (H:Hp) (a:Addr) (ns:List Int),ns.length ≤ n→SqL (K w.params) H a (ns.map V.int)→TabsOk (tabsK lam (K w.params)) H→sp w [.ref a] H (fun v _=>v = .bl true) fun _ _ _=>False)
    (hCX:∀ (w:World) (H:Hp) (s:Shared) (e:Value) (s':Shared),CX w [] H s (fun _ _ _=>False) e s'→False) :
    PySem.W.WalkO q loose XP YP l.row.toRowW d [] (fun f vs=>PySem.call f vs):=by
  refine Att.attach_call hn hdf fun w s₀ s₁ mg mb fa o pm cd doc a vs ns G Y ho hd hcd hmg hobj hints hlen hg=>?_
  have KX:=hY w _ Y
  obtain ⟨fd,hb,hF⟩:=F w mg fa _ KX G.T.g hmg
  refine law_callT (ts:=tabsK lam (K w.params)) KX G.T.g G.T.b G.T.builtins G.T.nolimit hg hobj hints (Nat.le_trans hlen hn2) hr (fun t ht=>?_) (hnt w) G.T.bmain hF hb (fun H hS hT=>hsp w H a ns hlen hS hT) fun H e s'=>hCX w H s₁ e s'
  obtain ⟨x,hx,e⟩:=List.mem_filterMap.mp ht
  obtain ⟨⟨c,P⟩,e1,e2⟩:=Option.map_eq_some_iff.mp e
  cases e2
  obtain ⟨dr,hdr⟩:=Option.isSome_iff_exists.mp (List.all_eq_true.mp hrec x hx)
  exact PySem.W.tab_of G.T KX hdr e1
end L3
namespace L3
open PySem PySem.Spec PyProof.Rows L2
section
variable [Feeds] {K:PySem.W.Frag} {X:Cx} {e a b c:Expr} {te:TE} {pos:Pos}
section
variable {G:GF} {B B0:List Addr} {E:DE} {F F1:FS} {σ:St} {H H1 H0:Hp} {dv:DV} {v:V} {i:Nat}
end
end
end L3
namespace L3
open PySem PySem.Spec PyProof.Rows L2
section
variable {K:PySem.W.Frag} {X0:Cx} {tg iter:Expr} {te:TE} {pos:Pos}
theorem lk_relabel {env:Env}:∀ {names:List (Str × NameKind)} {x:Str},names.lookup x = some .cell ∨ names.lookup x = some .free →
    (names.map fun (n,k)=>if (k == NameKind.free && env.scope.kind == .function && env.kindOf n == some .cell) then (n,NameKind.cell) else (n,k)).lookup x = some .cell ∨ (names.map fun (n,k)=>if (k == NameKind.free && env.scope.kind == .function && env.kindOf n == some .cell) then (n,NameKind.cell) else (n,k)).lookup x = some .free
  | [],_,h=>by simp at h
  | (n,k) :: r,x,h=>by
    have ih:=@lk_relabel env r x
    show List.lookup x ((if (k == NameKind.free && env.scope.kind == .function && env.kindOf n == some .cell) = true then (n,NameKind.cell) else (n,k)) :: _) = _ ∨ List.lookup x ((if (k == NameKind.free && env.scope.kind == .function && env.kindOf n == some .cell) = true then (n,NameKind.cell) else (n,k)) :: _) = _
    cases hx:x == n with
    | true =>
      simp only [List.lookup_cons,hx] at h
      by_cases hc:(k == NameKind.free && env.scope.kind == .function && env.kindOf n == some .cell) = true
      · rw [if_pos hc]; simp [List.lookup_cons,hx]
      · rw [if_neg hc]; simpa [List.lookup_cons,hx] using h
    | false =>
      simp only [List.lookup_cons,hx] at h
      by_cases hc:(k == NameKind.free && env.scope.kind == .function && env.kindOf n == some .cell) = true
      · rw [if_pos hc]; simp only [List.lookup_cons,hx]; exact ih h
      · rw [if_neg hc]; simp only [List.lookup_cons,hx]; exact ih h
theorem ev_lcC [Feeds] {elt:Expr} {ifs:List Expr} {scope0 scope:Scope} {N0 N:List Str} {cl0 C0 ex0 pins0 s0 H0} {k:Nat} {cap:List Nat} {wi:TI} {g:TG} {tt:TT} {mi:DE→M (List PyData)} {bd:PyData→DE→Option DE} {mt:DE→M Bool} {me:DE→M PyData}
    (hc:(cxC X0 N0 scope0 cl0 C0 ex0 pins0 s0 H0).calm = true) (hcap:Caps N0 scope0 N k cap scope) (hi:Eib K (cxC X0 N0 scope0 cl0 C0 ex0 pins0 s0 H0) tg iter wi mi)
    (hg:∀ cl C ex pins s H,Eg K (cxC (cxC X0 N0 scope0 cl0 C0 ex0 pins0 s0 H0) N scope cl C ex pins s H) tg g bd)
    (ht:∀ cl C ex pins s H,Ets K (cxC (cxC X0 N0 scope0 cl0 C0 ex0 pins0 s0 H0) N scope cl C ex pins s H) ifs tt mt)
    (he:∀ cl C ex pins s H,Ev K (cxC (cxC X0 N0 scope0 cl0 C0 ex0 pins0 s0 H0) N scope cl C ex pins s H) elt te me)
    (hs:∀ x,foldedSetIterable iter (cxC X0 N0 scope0 cl0 C0 ex0 pins0 s0 H0).env x = pure x:=by intro _; rfl) :
    Ev K (cxC X0 N0 scope0 cl0 C0 ex0 pins0 s0 H0) (.ListComp elt [⟨tg,iter,ifs,0⟩] scope pos) (tLC wi k cap g tt te) (sLC mi k cap bd mt me) :=
  ev_lc (osc:=relabel scope0 X0.env) hc rfl ⟨hcap.kind,hcap.cell,hcap.loc,fun y hy e=>lk_relabel (hcap.free y hy e),hcap.len,hcap.capx,hcap.capf⟩ hi hg ht he hs
end
section
variable {K:PySem.W.Frag} {X:Cx} [Feeds]
end
noncomputable def FdS.fstN (F:FdS):Int:=(F.cellL % 1000003 + 37 * F.a * F.a + 13 * F.a + 5) * 48271 % 999983
noncomputable def FdS.mixN (F:FdS):Int:=((F.fstN * F.fstN + 7919 * F.a + 11) % 2097143) * 69621 % 2147483629 / 7
noncomputable def drawN (m:Int) (F:FdS):Option (Int × FdS):=if 0 < m ∧ m < 1073741824 ∧ F.t < 199999 then
    some (if 0 < F.l then (F.l % m,⟨F.ns,F.a,F.l / m,F.t + 1⟩)
      else if 10 ^ 18 ≤ F.cellL ∧ F.a < F.ns.length then (F.cellL % m,⟨F.ns,F.a + 1,F.cellL / m,F.t + 1⟩)
      else (F.mixN % m,⟨F.ns,F.a + 1,F.l,F.t + 1⟩))
  else none
theorem drawN_some {m:Int} {F:FdS} (h0:0 < m) (h1:m < 1073741824) (h2:F.t < 199999):∃ r F',drawN m F = some (r,F') ∧ 0 ≤ r ∧ r < m ∧ F'.t = F.t + 1:=by
  have b:∀ x:Int,0 ≤ x % m ∧ x % m < m:=fun x=>⟨Int.emod_nonneg _ (by omega),Int.emod_lt_of_pos _ h0⟩
  unfold drawN
  rw [if_pos ⟨h0,h1,h2⟩]
  by_cases hl:0 < F.l
  · rw [if_pos hl]; exact ⟨_,_,rfl,(b _).1,(b _).2,rfl⟩
  · rw [if_neg hl]
    by_cases hc:10 ^ 18 ≤ F.cellL ∧ F.a < F.ns.length
    · rw [if_pos hc]; exact ⟨_,_,rfl,(b _).1,(b _).2,rfl⟩
    · rw [if_neg hc]; exact ⟨_,_,rfl,(b _).1,(b _).2,rfl⟩
@[reducible] noncomputable def famN (l:List Str):Fam where
  At:=fun d c H F=>H d = some (.lst [.ref c,.int F.a,.int F.l]) ∧ H c = some (.lst (F.ns.map V.int)) ∧ F.ns.length ≤ 63 ∧ 0 ≤ F.a ∧ F.a ≤ F.t ∧ d ≠ c
  some1:=fun h=>⟨_,h.1,⟨fun _ z=>(by cases z),fun _ z=>(by cases z)⟩⟩
  some2:=fun h=>⟨_,h.2.1,⟨fun _ z=>(by cases z),fun _ z=>(by cases z)⟩⟩
  lam:=l
  congr:=fun h e1 e2=>⟨e1.trans h.1,e2.trans h.2.1,h.2.2⟩
  drawF:=drawN
  draw_some:=drawN_some
end L3
namespace L3
open PySem PySem.Spec PyProof.Rows L2
end L3
namespace L3
open PySem PySem.Spec PyProof.Rows L2
section
variable {K:PySem.W.Frag} {X:Cx} [Feeds]
end
end L3
namespace L3
open PySem PySem.Spec PyProof.Rows L2
section
variable {M:Lang} {A:Around} {E:Value→Shared→Prop} {s:Shared}
end
section
variable {prog:Program} {w:World} {A:Around} {E:Value→Shared→Prop} {s:Shared}
end
section
variable {K:PySem.W.Frag} {X:Cx} [Feeds]
variable {e:Expr} {te:TE} {m:DE→M PyData} {pos:Pos}
variable {a b:Expr}
end
end L3
namespace L3
open PySem PySem.Spec PyProof.Rows L2
section
variable [Feeds]
variable {K:PySem.W.Frag} {X:Cx} {e i v1 v2 v3:Expr} {es:List Expr} {te t1 t2 t3 ti:TE} {m1 m2 m3 mi:DE→M PyData} {p pos p1 p2 p3:Pos}
variable {P:Program} {w:World} {mg:Str→Option Value} {base:Heap}
noncomputable def spG (K:PySem.W.Frag) (n:Nat) (f:List DV→M (List PyData)):Sp:=fun vs H Q _=>∃ G B F args ds F',vs.length = n ∧ (∀ b ∈ fpOf K G,b ∈ B) ∧ BOk H B ∧ FAt K G H F ∧ ArgR K G B H args vs ∧ f args F = some (ds,F') ∧
  ∀ a ws H',H a = none→H' a = some (.lst ws)→Kp (fpOf K G) H H'→FAt K G H' F'→DatsAre K (hid H' (a :: B)) ds ws→Q (.ref a) H'
noncomputable def runG (N:List Str) (mf:DE→M (List PyData)):List DV→M (List PyData):=fun args F=>mf (startE N args) F
noncomputable def fCall (f:List DV→M (List PyData)) (ms:DE→M (List DV)):DE→M (List PyData):=fun E F=>(ms E F).bind fun p=>f p.1 p.2
theorem callG_d {n:Nat} {f:List DV→M (List PyData)} {ta:TA} {ms:DE→M (List DV)} (h:TVd K ta ms) (hn:∀ E F args F',ms E F = some (args,F')→args.length = n):TFd K (tCall (spG K n f) [] E0 ta) (fCall f ms):=fun G B E F σ H Q ds F' I e q=>by
  obtain ⟨⟨args,F1⟩,e1,e⟩:=Option.bind_eq_some_iff.mp e
  refine h G B E F σ H _ args F1 I e1 fun vs H1 k1 f1 h1=>?_
  rw [List.append_nil]
  refine ⟨G,B,F1,args,ds,F',by rw [h1.length]; exact hn _ _ _ _ e1,I.fB,bok_step I.bk k1 f1,f1,h1,e,fun a ws H2 hn2 ha2 k2 f2 h2=>q a ws H2 ?_ ha2 (k1.trans k2) f2 h2⟩
  exact k1.none hn2 fun z=>(bok_step I.bk k1 f1).nin hn2 (I.fB a z)
theorem ef_call {x:Str} {k n:Nat} {ps:List Str} {f:List DV→M (List PyData)} {tl:TA} {ms:DE→M (List DV)} (C:Callee X.prog X.w X.K X.mg X.base x k ps (spG K n f)) (hr:Room k X.A) (ha:Evs K X (e :: es) tl ms) (hn:∀ E F args F',ms E F = some (args,F')→args.length = n) (hg:Gl X x:=by rfl)
    (hdb:(x == ("__debug__":Str)) = false:=by decide) (he:starEach (e :: es) X.env = (false,eval e X.env) :: starEach es X.env:=by rfl) (hpl:(backTo pos (starEach es X.env)).any (·.1) = false:=by rfl) :
    Ef K X (.Call (.Name x p) (e :: es) [] pos) (tCall (spG K n f) [] E0 tl) (fCall f ms):=⟨pe_callee C hr hg ha.pa hdb he hpl,callG_d ha.ok hn⟩
end
end L3
namespace L2
open PySem PySem.Spec PyProof.Rows
noncomputable def turnM (target iter:Expr) (ifs:List Expr) (it:Value) (env:Env) (act:Sem Unit) (more:Sem Fin):Sem Fin:=do
  standAt iter.pos
  match ← pyNext it with
  | none=>pure (.done .next)
  | some v =>
    letOwnedTupleGo target it v
    assign target env v
    let mut ok:=true
    for c in ifs do
      if ok then ok ← isTrue c env (eval c env)
    if ok then act
    more
noncomputable def actIn (e:Expr) (iter1:Expr) (acc:Value) (env:Env) (k:Sem Fin):Sem Fin:=do
  let x ← eval iter1 env
  standAt iter1.pos
  let x ← foldedSetIterable iter1 env x
  let _ ← runOwn (.compStart e 1 (← holding [x] (pyIter x)) acc env) env
  k
theorem turn_out (elt tg iter tg1 iter1:Expr) (ifs ifs1:List Expr) (scope:Scope) (pos:Pos) (it acc:Value) (env:Env) :
    compTurn (.ListComp elt [⟨tg,iter,ifs,0⟩,⟨tg1,iter1,ifs1,0⟩] scope pos) 0 it acc env = turnC tg iter ifs it env (actIn (.ListComp elt [⟨tg,iter,ifs,0⟩,⟨tg1,iter1,ifs1,0⟩] scope pos) iter1 acc env) (again (.compLoop (.ListComp elt [⟨tg,iter,ifs,0⟩,⟨tg1,iter1,ifs1,0⟩] scope pos) 0 it acc env)):=by rfl
theorem turn_in (elt tg iter tg1 iter1:Expr) (ifs ifs1:List Expr) (scope:Scope) (pos:Pos) (it acc:Value) (env:Env) :
    compTurn (.ListComp elt [⟨tg,iter,ifs,0⟩,⟨tg1,iter1,ifs1,0⟩] scope pos) 1 it acc env = turnM tg1 iter1 ifs1 it env (actEm elt acc env) (again (.compLoop (.ListComp elt [⟨tg,iter,ifs,0⟩,⟨tg1,iter1,ifs1,0⟩] scope pos) 1 it acc env)):=by rfl
section
variable {prog:Program} {w:World} {A:Around} {R:Result→Shared→Prop} {s:Shared}
theorem loopM {elt:Expr} {gens:List Comprehension} {scope:Scope} {pos:Pos} {d:Nat} {it acc:Value} {env:Env} {target iter:Expr} {ifs:List Expr} {act:Sem Unit} (I:Nat→Shared→Prop)
    (ht:compTurn (.ListComp elt gens scope pos) d it acc env = turnM target iter ifs it env act (again (.compLoop (.ListComp elt gens scope pos) d it acc env)))
    (turn:∀ n s,I n s→wpAny (model prog w) A (pyNext it) (fun r s₁=>match r with
      | none=>R (.ok .next) s₁
      | some v=>wpAny (model prog w) A (letOwnedTupleGo target it v) (fun _ s₀=>wpAny (model prog w) A (assign target env v) (fun _ s₂ =>
          wpAny (model prog w) A (forIn ifs true fun c r=>if r = true then do let ok ← isTrue c env (eval c env); pure (ForInStep.yield ok) else pure (ForInStep.yield r)) (fun ok s₃ =>
            if ok = true then wpAny (model prog w) A act (fun _ s₅=>∃ m,m < n ∧ I m s₅) (fun _ _=>False) s₃
            else ∃ m,m < n ∧ I m s₃) (fun _ _=>False) s₂) (fun _ _=>False) s₀) (fun _ _=>False) s₁) (fun _ _=>False) s)
    (n:Nat) (h:I n s):codeAny (model prog w) A (.compLoop (.ListComp elt gens scope pos) d it acc env) R s:=by
  refine codeAny_loop rfl I (fun n s hI=>?_) n h
  show wpAny _ A ((compTurn (.ListComp elt gens scope pos) d it acc env).onRaise (fun x=>do noteFrame x env; theTreesLotGoes x)) _ _ s
  refine wpAny_noted ?_
  rw [ht]
  unfold turnM
  refine wpAny_bind (wpAny_standAt (wpAny_bind (wpAny_mono (turn n s hI) (fun r s₁ h₁=>?_) fun _ _ h'=>h'.elim)))
  cases r with
  | none=>exact wpAny_pure h₁
  | some v =>
    refine wpAny_bind (wpAny_mono h₁ (fun _ s₀ h₀=>?_) fun _ _ h'=>h'.elim)
    refine wpAny_bind (wpAny_mono h₀ (fun _ s₂ h₂=>wpAny_bind (wpAny_mono h₂ (fun ok s₃ h₃=>?_) fun _ _ h'=>h'.elim)) fun _ _ h'=>h'.elim)
    cases ok with
    | false=>exact wpAny_pure ⟨rfl,h₃⟩
    | true=>exact wpAny_bind (wpAny_mono h₃ (fun _ s₅ h₅=>wpAny_pure ⟨rfl,h₅⟩) fun _ _ h'=>h'.elim)
theorem start_in {elt:Expr} {g0:Comprehension} {target iter:Expr} {ifs:List Expr} {rest:List Comprehension} {scope:Scope} {pos:Pos} {it acc:Value} {env:Env}
    (h0:codeAny (model prog w) A (.compLoop (.ListComp elt (g0 :: ⟨target,iter,ifs,0⟩ :: rest) scope pos) 1 it acc env) R s)
    (h:wpAny (model prog w) A (pyIter it) (fun it' s'=>codeAny (model prog w) A (.compLoop (.ListComp elt (g0 :: ⟨target,iter,ifs,0⟩ :: rest) scope pos) 1 it' acc env) R s') (notedBy (model prog w) A env fun x s'=>R (.error x) s') s) :
    codeAny (model prog w) A (.compStart (.ListComp elt (g0 :: ⟨target,iter,ifs,0⟩ :: rest) scope pos) 1 it acc env) R s:=by
  refine codeAny_of_tree ?_
  show wpAny _ _ ((compStart (.ListComp elt (g0 :: ⟨target,iter,ifs,0⟩ :: rest) scope pos) 1 it acc env).onRaise (fun x=>do noteFrame x env; standAt theWindowsPlace)) _ _ s
  refine wpAny_notedAt ?_; unfold compStart; show wpAny _ _ (ask >>= _) _ _ s; refine wpAny_bind (wpAny_askSetting (wpAny_ite ?_))
  split
  · first | exact wpAny_bind (wpAny_pure (wpAny_pure (And.intro rfl h0))) | exact wpAny_pure (And.intro rfl h0)
  · first | exact wpAny_bind (wpAny_rule (wpAny_bind (wpAny_standAt (wpAny_bind (wpAny_mono h (fun it' s' h'=>wpAny_pure (And.intro rfl h')) fun _ _ x=>x))))) | (refine wpAny_bind (wpAny_rule ?_); show wpAny _ _ (standAt iter.pos >>= _) _ _ s; exact wpAny_bind (wpAny_standAt (wpAny_bind (wpAny_mono h (fun it' s' h'=>wpAny_pure (And.intro rfl h')) fun _ _ x=>x))))
end
noncomputable def tIn (wi:TI) (g:TG) (tt:TT) (te:TE) (D:Addr):TM:=fun σ H Q=>wi σ H fun J H1 =>
  ∃ W:Nat→Nat→St→List V→Hp→Prop,(∃ m acc,H1 D = some (.lst acc) ∧ W 0 m σ acc H1) ∧ ∀ i m σ' acc H',W i m σ' acc H' →
    (J.stop i H' ∧ Q σ' H') ∨
    (J.go i H' ∧ ∀ x H2,J.yld i H' x H2→g x σ' H2 fun σ2 H3=>tt σ2 H3 fun ok H4=>if ok = true then te σ2 H4 fun y H5=>H5 D = some (.lst acc) ∧ acc.length < sizeLine ∧ ∃ m',m' < m ∧ W (i + 1) m' σ2 (acc ++ [y]) (upd H5 D (.lst (acc ++ [y])))
      else H4 D = some (.lst acc) ∧ ∃ m',m' < m ∧ W (i + 1) m' σ2 acc H4)
theorem pm_in {Y:Cx} {elt tg iter tg1 iter1:Expr} {ifs ifs1:List Expr} {scope:Scope} {pos:Pos} {wi:TI} {g:TG} {tt:TT} {te:TE} {D:Addr} (hx:Y.xe = fun _ _=>False) (hc:Y.calm = true) (hi:PI Y tg1 iter1 wi) (hg:PG Y tg1 g) (ht:PTs Y ifs1 tt) (he:PE Y elt te)
    (hs:∀ x,foldedSetIterable iter1 Y.env x = pure x):PM Y (actIn (.ListComp elt [⟨tg,iter,ifs,0⟩,⟨tg1,iter1,ifs1,0⟩] scope pos) iter1 (.ref D) Y.env) (tIn wi g tt te D):=by
  intro pins s σ H Q I h k R E hk
  unfold actIn
  have hxe:∀ {a b},Y.xe a b→False:=fun {a b} z=>by rw [hx] at z; exact z
  refine wpAny_bind (wpAny_mono (hi pins s σ H _ I h) (fun v s1 h1=>wpAny_bind (wpAny_standAt ?_)) fun _ _ z=>(hxe z).elim)
  rw [hs]
  refine wpAny_bind (wpAny_pure (wpAny_bind (wpAny_holding (wpAny_mono h1 (fun itv s2 h2=>?_) fun _ _ z=>(hxe z).elim))))
  obtain ⟨it,fp,tn,J,H2,e,I2,T,st2,f2,W,⟨m0,acc0,hD0,w0⟩,turn⟩:=h2
  subst e
  have stat:∀ {H':Hp},(∀ b ∈ fp,H' b = none)→∀ b ∈ fp,FpOk Y pins H' b:=fun hn b hb=>⟨hn b hb,(f2 b hb).2⟩
  refine wpAny_bind (wpAny_runOwn ?_)
  have loop:codeAny (model Y.prog Y.w) (Y.A.mark none) (.compLoop (.ListComp elt [⟨tg,iter,ifs,0⟩,⟨tg1,iter1,ifs1,0⟩] scope pos) 1 (.ref it) (.ref D) Y.env) (fun r s'=>match r with | .ok f=>wpAny (model Y.prog Y.w) Y.A k R E s' | .error e=>cameBackBy (model Y.prog Y.w) Y.A Y.env E e s') s2:=by
    refine loopM (A:=Y.A) (fun n s'=>∃ i σ' acc H',Inv Y pins σ' H' s' ∧ tn i s'.heap ∧ (∀ b ∈ fp,H' b = none) ∧ H' D = some (.lst acc) ∧ W i n σ' acc H') (turn_in ..) ?_ m0 ⟨0,σ,acc0,H2,I2,st2,fun b hb=>(f2 b hb).1,hD0,w0⟩
    rintro n s5 ⟨i,σ5,acc,H5,I5,st5,fr5,hD5,w5⟩
    rcases turn i n σ5 acc H5 w5 with ⟨stop,q⟩ | ⟨go,step⟩
    · refine wpAny_mono (T.done Y rfl rfl rfl hc i pins s5 σ5 H5 _ I5 (stat fr5) st5 stop) (fun r s6 ⟨hr,I6⟩=>?_) fun _ _ z=>z
      subst hr
      exact hk s6 σ5 H5 I6 q
    · refine wpAny_mono (T.item Y rfl rfl rfl hc i pins s5 σ5 H5 _ I5 (stat fr5) st5 go) (fun r s6 ⟨u,hr,h6⟩=>?_) fun _ _ z=>z
      subst hr
      refine wpAny_mono h6 (fun _ s7 ⟨x,H7,I7,r7,y7,st7,fr7⟩=>?_) fun _ _ z=>z
      have I7':=I7.pinned (stat fr7) (T.obj _ _ st7)
      have keepI:∀ {s':Shared} {σ':St} {H':Hp},Inv Y (pins ++ pinsAt fp s7.heap) σ' H' s'→tn (i + 1) s'.heap ∧ ∀ b ∈ fp,H' b = none:=fun {s' σ' H'} I'=>by
        refine ⟨T.keep _ _ _ st7 fun b hb o e=>(I'.pin (b,o) (List.mem_append_right _ (List.mem_append_right _ (mem_pinsAt hb e)))).1,fun b hb=>?_⟩
        obtain ⟨o,e,d⟩:=T.obj _ _ st7 b hb
        exact (I'.pin (b,o) (List.mem_append_right _ (List.mem_append_right _ (mem_pinsAt hb e)))).2.1
      refine wpAny_mono (hg _ s7 σ5 H7 x u _ I7' r7 (step x H7 y7)) (fun _ s8 ⟨σ8,H8,I8,q8⟩=>?_) fun _ _ z=>hxe z
      refine wpAny_mono (ht _ s8 σ8 H8 _ I8 q8) (fun ok s9 ⟨H9,I9,q9⟩=>?_) fun _ _ z=>hxe z
      cases ok with
      | false =>
        have q9:H9 D = some (.lst acc) ∧ ∃ m',m' < n ∧ W (i + 1) m' σ8 acc H9:=q9
        obtain ⟨hD9,m',hm,w9⟩:=q9
        obtain ⟨k1,k2⟩:=keepI I9
        exact ⟨m',hm,i + 1,σ8,acc,H9,I9.unpinned,k1,k2,hD9,w9⟩
      | true =>
        show wpAny _ _ (actEm elt (.ref D) Y.env) _ _ _
        unfold actEm
        refine wpAny_bind (wpAny_mono (he _ s9 σ8 H9 _ I9 q9) (fun yv s10 ⟨y,H10,I10,r10,hD10,hz,m',hm,w10⟩=>?_) fun _ _ z=>hxe z)
        refine wpAny_bind (wpAny_mono (mt_append (X:=Y) _ s10 σ8 H10 (.ref D) [y] (.ref D) [yv] (fun _ H'=>H' = upd H10 D (.lst (acc ++ [y]))) I10 rfl (.cons r10 .nil) ⟨D,acc,y,rfl,rfl,hD10,hz,rfl⟩) (fun _ s11 ⟨_,H11,I11,_,e11⟩=>wpAny_pure ?_) fun _ _ z=>hxe z)
        subst e11
        obtain ⟨k1,k2⟩:=keepI I11
        exact ⟨m',hm,i + 1,σ8,acc ++ [y],_,I11.unpinned,k1,k2,upd_same,w10⟩
  exact start_in loop (T.self _ 0 _ _ _ st2 loop)
end L2
namespace L2
open PySem PySem.Spec PyProof.Rows
theorem lc2_block {X:Cx} {elt tg iter tg1 iter1:Expr} {ifs ifs1:List Expr} {scope osc:Scope} {pos:Pos} {N:List Str} {k:Nat} {cap:List Nat} {g:TG} {tt:TT} {tm:TM} {cl:List (Str × Addr)}
    {pins:List (Addr × Obj)} {σ:St} {H3:Hp} {s3:Shared} {D it:Addr} {fp:List Addr} {tn:Nat→Heap→Prop} {J:It} {Q:VK} {W:Nat→Nat→St→Hp→Prop} {m0:Nat}
    (hc:X.calm = true) (hosc:X.env.scope = osc) (hcap:Caps X.N osc N k cap scope)
    (hcl:∀ {x:Str} {c:Addr},cl.lookup x = some c→X.env.cells.lookup x = some c) (hhas:∀ x,(x,NameKind.free) ∈ scope.names→∃ c,cl.lookup x = some c)
    (hg:∀ cl C ex pins s H,PG (cxC X N scope cl C ex pins s H) tg g)
    (ht:∀ cl C ex pins s H,PTs (cxC X N scope cl C ex pins s H) ifs tt)
    (he:∀ cl C ex pins s H,PM (cxC X N scope cl C ex pins s H) (actIn (.ListComp elt [⟨tg,iter,ifs,0⟩,⟨tg1,iter1,ifs1,0⟩] scope pos) iter1 (.ref D) (cxC X N scope cl C ex pins s H).env) tm)
    (I3:Inv X pins σ H3 s3) (T:Turn X.prog X.w X.K tg J fp it tn) (st:tn 0 s3.heap) (f3:∀ b ∈ fp,FpOk X pins H3 b) (w0:W 0 m0 (capt k cap σ) H3)
    (turn:∀ i m σ' H',W i m σ' H'→(J.stop i H' ∧ Q (.ref D) H') ∨
      (J.go i H' ∧ ∀ x H2,J.yld i H' x H2→g x σ' H2 fun σ2 H3=>tt σ2 H3 fun ok H4=>if ok = true then tm σ2 H4 fun σ3 H5=>∃ m',m' < m ∧ W (i + 1) m' σ3 H5 else ∃ m',m' < m ∧ W (i + 1) m' σ2 H4)) :
    wpAny (model X.prog X.w) X.A (newFunctionEnv scope X.env.globals cl [] X.env.qual none .none (some X.env)) (fun cenv s₄ =>
      codeAny (model X.prog X.w) X.A (.compStart (.ListComp elt [⟨tg,iter,ifs,0⟩,⟨tg1,iter1,ifs1,0⟩] scope pos) 0 (.ref it) (.ref D) { cenv with scope:=relabel scope X.env }) (compPost (model X.prog X.w) X.A X.xe none (EP X pins σ Q) (.ref D) cenv.locals) s₄) X.xe s3:=by
  refine lc_core (P:=fun C=>compPost (model X.prog X.w) X.A X.xe none (EP X pins σ Q) (.ref D) C) (Qs:=Q (.ref D)) (W:=W) (fun env=>turn_out ..) hc hosc hcap hcl hhas hg ht I3 T st f3 w0 (fun s6 σ5 H5 I6 I7 q=>?_) fun i m σ' H' w=>?_
  · obtain ⟨m,hn,_⟩:=id I6.loc
    refine ⟨m,hn,fun h' hsb=>?_⟩
    obtain ⟨g0,g1,g2,g3,g4,g5⟩:=I3.fpOk (H':=H5) (b:=s3.heap.objs.size) (Nat.le_refl _) I6.free
    exact ⟨.ref D,H5,I7.turned (t':=s6.toks) (fun b o hb e=>(hsb.2 b hb).trans e) g0 g1 g3 g4 g5,rfl,q⟩
  · rcases turn i m σ' H' w with h | ⟨go,step⟩
    · exact .inl h
    · exact .inr ⟨go,_,step,fun σ2 H4 h=>h,fun pins' s σ2 H4 I h k R E hk=>he _ _ _ _ _ _ _ s σ2 H4 _ I h k R E hk⟩
noncomputable def tLC2 (wi:TI) (k:Nat) (cap:List Nat) (g:TG) (tt:TT) (wi1:TI) (g1:TG) (tt1:TT) (te:TE):TE:=fun σ H Q=>wi σ H fun J H1=>∀ D,H1 D = none →
  ∃ W:Nat→Nat→St→Hp→Prop,(∃ m,W 0 m (capt k cap σ) (upd H1 D (.lst []))) ∧ ∀ i m σ' H',W i m σ' H' →
    (J.stop i H' ∧ Q (.ref D) H') ∨
    (J.go i H' ∧ ∀ x H2,J.yld i H' x H2→g x σ' H2 fun σ2 H3=>tt σ2 H3 fun ok H4=>if ok = true then tIn wi1 g1 tt1 te D σ2 H4 fun σ3 H5=>∃ m',m' < m ∧ W (i + 1) m' σ3 H5 else ∃ m',m' < m ∧ W (i + 1) m' σ2 H4)
theorem pe_lc2 {X:Cx} {elt tg iter tg1 iter1:Expr} {ifs ifs1:List Expr} {scope osc:Scope} {pos:Pos} {N:List Str} {k:Nat} {cap:List Nat} {wi:TI} {g:TG} {tt:TT} {wi1:TI} {g1:TG} {tt1:TT} {te:TE}
    (hc:X.calm = true) (hosc:X.env.scope = osc) (hcap:Caps X.N osc N k cap scope) (hi:PI X tg iter wi)
    (hg:∀ cl C ex pins s H,PG (cxC X N scope cl C ex pins s H) tg g)
    (ht:∀ cl C ex pins s H,PTs (cxC X N scope cl C ex pins s H) ifs tt)
    (hi1:∀ cl C ex pins s H,PI (cxC X N scope cl C ex pins s H) tg1 iter1 wi1)
    (hg1:∀ cl C ex pins s H,PG (cxC X N scope cl C ex pins s H) tg1 g1)
    (ht1:∀ cl C ex pins s H,PTs (cxC X N scope cl C ex pins s H) ifs1 tt1)
    (he:∀ cl C ex pins s H,PE (cxC X N scope cl C ex pins s H) elt te)
    (hs1:∀ cl C ex pins s H x,foldedSetIterable iter1 (cxC X N scope cl C ex pins s H).env x = pure x:=by intros; rfl)
    (hs:∀ x,foldedSetIterable iter X.env x = pure x:=by intro _; rfl) :
    PE X (.ListComp elt [⟨tg,iter,ifs,0⟩,⟨tg1,iter1,ifs1,0⟩] scope pos) (tLC2 wi k cap g tt wi1 g1 tt1 te):=by
  intro pins s σ H Q I h
  have hcell:∀ y ∈ scope.names,y.2 = .free→∃ c,X.env.cells.lookup y.1 = some c:=fun y hy hk=>I.ok.has y.1 (by
    show X.env.scope.names.lookup y.1 = _ ∨ X.env.scope.names.lookup y.1 = _
    rw [hosc]; exact hcap.free y hy hk)
  let f:Str→Addr:=fun x=>(X.env.cells.lookup x).getD 0
  have hf:∀ y ∈ scope.names,y.2 = .free→X.env.cells.lookup y.1 = some (f y.1):=fun y hy hk=>by
    obtain ⟨c,e⟩:=hcell y hy hk
    show _ = some ((X.env.cells.lookup y.1).getD 0)
    rw [e]; rfl
  have hclos:closureFor scope X.env = pure (closL f scope.names []):=closureFor_closL fun y hy hk=>by
    unfold cellOf
    rw [hf y hy hk]
  have hcl:∀ {x:Str} {c:Addr},(closL f scope.names []).lookup x = some c→X.env.cells.lookup x = some c:=fun {x c} e=>by
    rcases closL_lookup _ _ e with ⟨h1,h2⟩ | h1
    · rw [h2]; exact hf (x,.free) h1 rfl
    · simp at h1
  have hhas:∀ x,(x,NameKind.free) ∈ scope.names→∃ c,(closL f scope.names []).lookup x = some c:=fun x hx=>⟨_,closL_has _ _ (.inl hx)⟩
  generalize closL f scope.names [] = cl at hclos hcl hhas
  rw [eval_ListComp]
  refine wpAny_comprehension_free (use:=none) (cl:=cl) rfl hs hclos hcap.kind hcap.loc ?_
  refine thn (hi pins s σ H _ I h) fun v s1 h1=>thn h1 fun itv s2 h2=>?_
  obtain ⟨it,fp,tn,J,H2,e,I2,T,st2,f2,q2⟩:=h2
  subst e
  obtain ⟨W,⟨m0,w0⟩,turn⟩:=q2 s2.heap.objs.size (I2.hok.fresh (Nat.le_refl _))
  refine wpAny_newObj_type ?_
  have I3:Inv X pins σ (upd H2 s2.heap.objs.size (.lst [])) { s2 with heap:=s2.heap.push { cls:=.type "list",data:=.seq ([]:List Value).toArray } }:=I2.lnew (ys:=[]) (its:=[]) (t':=s2.toks) .nil (Nat.zero_le _)
  have lt2:∀ b ∈ fp,b ≠ s2.heap.objs.size:=fun b hb=>by
    obtain ⟨o,e,_⟩:=T.obj _ _ st2 b hb
    exact Nat.ne_of_lt (Heap.lt_size e)
  exact lc2_block hc hosc hcap hcl hhas hg ht (fun cl C ex pins s H=>pm_in (Y:=cxC X N scope cl C ex pins s H) rfl hc (hi1 cl C ex pins s H) (hg1 cl C ex pins s H) (ht1 cl C ex pins s H) (he cl C ex pins s H) (hs1 cl C ex pins s H)) I3 T (T.keep _ _ (s2.heap.push { cls:=.type "list",data:=.seq ([]:List Value).toArray }) st2 fun b _ o e=>Heap.get?_push_of_some _ e) (fun b hb=>⟨by rw [upd_ne (lt2 b hb)]; exact (f2 b hb).1,(f2 b hb).2⟩) w0 turn
end L2
namespace L3
open PySem PySem.Spec PyProof.Rows L2
section
variable [Feeds]
variable {K:PySem.W.Frag} {X:Cx} {tg iter tg1 iter1 elt:Expr} {te:TE} {pos:Pos}
noncomputable def inGo (bd:PyData→DE→Option DE) (mt:DE→M Bool) (me:DE→M PyData):List PyData→DE→M (List PyData × DE)
  | [],E,F=>some (([],E),F)
  | d :: r,E,F=>(bd d E).bind fun E1=>(mt E1 F).bind fun p=>if p.1 = true then (me E1 p.2).bind fun y=>(inGo bd mt me r E1 y.2).bind fun z=>some ((y.1 :: z.1.1,z.1.2),z.2) else inGo bd mt me r E1 p.2
noncomputable def lc2Go (bd:PyData→DE→Option DE) (mt:DE→M Bool) (mi1:DE→M (List PyData)) (bd1:PyData→DE→Option DE) (mt1:DE→M Bool) (me:DE→M PyData):List PyData→DE→M (List PyData)
  | [],_,F=>some ([],F)
  | d :: r,E,F=>(bd d E).bind fun E1=>(mt E1 F).bind fun p=>if p.1 = true then (mi1 E1 p.2).bind fun its=>(inGo bd1 mt1 me its.1 E1 its.2).bind fun z=>(lc2Go bd mt mi1 bd1 mt1 me r z.1.2 z.2).bind fun w=>some (z.1.1 ++ w.1,w.2) else lc2Go bd mt mi1 bd1 mt1 me r E1 p.2
noncomputable def sLC2 (mi:DE→M (List PyData)) (k:Nat) (cap:List Nat) (bd:PyData→DE→Option DE) (mt:DE→M Bool) (mi1:DE→M (List PyData)) (bd1:PyData→DE→Option DE) (mt1:DE→M Bool) (me:DE→M PyData):DE→M PyData:=fun E F =>
  (mi E F).bind fun p=>(lc2Go bd mt mi1 bd1 mt1 me p.1 (capE k cap E) p.2).bind fun z=>if z.1.length ≤ sizeLine then some (.list z.1,z.2) else none
theorem lc2_d {wi wi1:TI} {mi mi1:DE→M (List PyData)} {k:Nat} {cap:List Nat} {g g1:TG} {bd bd1:PyData→DE→Option DE} {tt tt1:TT} {mt mt1:DE→M Bool} {me:DE→M PyData} (hi:TIs K wi mi) (hg:TGd K g bd) (ht:TTd K tt mt)
    (hi1:TId K wi1 mi1) (hg1:TGd K g1 bd1) (ht1:TTd K tt1 mt1) (he:TEd K te me):TEd K (tLC2 wi k cap g tt wi1 g1 tt1 te) (sLC2 mi k cap bd mt mi1 bd1 mt1 me):=fun G B E F σ H Q d F' I e q=>by
  obtain ⟨⟨items,F1⟩,e1,e⟩:=Option.bind_eq_some_iff.mp e
  obtain ⟨⟨whole,F2⟩,e2,e⟩:=Option.bind_eq_some_iff.mp e
  split at e
  · rename_i hsz
    cases e
    have hsz:whole.length ≤ sizeLine:=hsz
    refine hi G B E F σ H _ items F1 I e1 fun J H1 k1 f1 ok D hD=>?_
    have I1:SitE K G B E F1 σ H1:=I.step k1 f1
    have hBD:D ∉ B:=I1.bk.nin hD
    have hfD:D ∉ fpOf K G:=fun z=>hBD (I.fB D z)
    have stab:∀ {H':Hp},Kp (fpOf K G) H1 H'→Kp (fpOf K G) H1 H' ∧ Same (hid H1 B) (hid H' (D :: B)):=fun {H'} k=>⟨k,fun b o eb=>by
      by_cases hb:b ∈ B
      · rw [hid_in hb] at eb; cases eb
      · rw [hid_out hb] at eb
        rw [hid_out (by
          intro z
          rcases List.mem_cons.mp z with rfl | z
          · rw [hD] at eb; cases eb
          · exact hb z)]
        exact k b o eb fun z=>hb (I.fB b z)⟩
    obtain ⟨W,hW⟩:∃ W:Nat→Nat→St→Hp→Prop,W = fun i m σ' H'=>m = items.length - i ∧ i ≤ items.length ∧ ∃ E F done rest acc,SitE K G (D :: B) E F σ' H' ∧ H' D = some (.lst acc) ∧ Kp (fpOf K G) H1 H' ∧ (∀ (j:Nat) (ds:List PyData),E[j]? = some (some (DV.own ds))→σ'[j]? ≠ some (some (V.ref D))) ∧ DatsAre K (hid H' (D :: B)) done acc ∧ lc2Go bd mt mi1 bd1 mt1 me (items.drop i) E F = some (rest,F2) ∧ whole = done ++ rest:=⟨_,rfl⟩
    have w0:W 0 items.length (capt k cap σ) (upd H1 D (.lst [])):=by
      rw [hW]
      refine ⟨by simp,Nat.zero_le _,capE k cap E,F1,[],whole,[],(I1.cap k cap).more hD,upd_same,Kp.upd hD,fun j ds ej z=>?_,DatsAre.nil,e2,rfl⟩
      obtain ⟨v,v1,a,xs,rfl,_,_,ha,_⟩:=(I1.cap k cap).loc j _ ej
      rw [v1] at z
      cases z
      rw [hD] at ha; cases ha
    refine ⟨W,⟨_,w0⟩,fun i m σ' H' w=>?_⟩
    have wn:∀ {i m σ' H'},(m = items.length - i ∧ i ≤ items.length ∧ ∃ E F done rest acc,SitE K G (D :: B) E F σ' H' ∧ H' D = some (.lst acc) ∧ Kp (fpOf K G) H1 H' ∧ (∀ (j:Nat) (ds:List PyData),E[j]? = some (some (DV.own ds))→σ'[j]? ≠ some (some (V.ref D))) ∧ DatsAre K (hid H' (D :: B)) done acc ∧ lc2Go bd mt mi1 bd1 mt1 me (items.drop i) E F = some (rest,F2) ∧ whole = done ++ rest)→W i m σ' H':=fun h=>by rw [hW]; exact h
    rw [hW] at w
    clear hW w0
    obtain ⟨rfl,hil,E',F3,done,rest,acc,I2,hD2,k2,ow,hd2,e3,ew⟩:=w
    by_cases hlt:i < items.length
    · refine .inr ⟨((ok H' (D :: B) (stab k2)).1 i items[i] (by simp [hlt])).1,fun x H2 y=>?_⟩
      obtain ⟨s2,hx⟩:=((ok H' (D :: B) (stab k2)).1 i items[i] (by simp [hlt])).2 x H2 y
      have hx':=hx I2.bk
      rw [List.drop_eq_getElem_cons hlt,lc2Go] at e3
      obtain ⟨E4,e4,e3⟩:=Option.bind_eq_some_iff.mp e3
      obtain ⟨⟨b,F5⟩,e5,e3⟩:=Option.bind_eq_some_iff.mp e3
      have I3:SitE K G (D :: B) E' F3 σ' H2:=I2.step (Kp.same s2) (I2.fd.same s2)
      refine hg G (D :: B) E' F3 σ' H2 x items[i] E4 _ I3 hx' e4 fun σ4 I4 fr=>?_
      have ow4:∀ (j:Nat) (ds:List PyData),E4[j]? = some (some (DV.own ds))→σ4[j]? ≠ some (some (V.ref D)):=fun j ds ej=>by
        obtain ⟨a1,a2⟩:=fr j fun y z=>by rw [ej] at z; cases z
        rw [a2]; exact ow j ds (a1 ▸ ej)
      refine ht G (D :: B) E4 F3 σ4 H2 _ b F5 I4 e5 fun H5 k5 f5=>?_
      have kall:Kp (fpOf K G) H1 H5:=(k2.trans (Kp.same s2)).trans k5
      have I5:SitE K G (D :: B) E4 F5 σ4 H5:=I4.step k5 f5
      have hD5:H5 D = some (.lst acc):=k5 D _ (s2 D _ hD2) hfD
      have hd5:DatsAre K (hid H5 (D :: B)) done acc:=(hd2.same ((Kp.same s2).hid (fp:=[]) (by simp))).same (k5.hid I4.fB)
      cases b with
      | false=>exact ⟨items.length - (i + 1),by omega,wn ⟨rfl,hlt,E4,F5,done,rest,acc,I5,hD5,kall,ow4,hd5,e3,ew⟩⟩
      | true =>
        obtain ⟨⟨its,F6⟩,e6,e3⟩:=Option.bind_eq_some_iff.mp e3
        obtain ⟨⟨⟨zs,Ez⟩,F7⟩,e7,e3⟩:=Option.bind_eq_some_iff.mp e3
        obtain ⟨⟨ws,F8⟩,e8,e3⟩:=Option.bind_eq_some_iff.mp e3
        cases e3
        refine hi1 G (D :: B) E4 F5 σ4 H5 _ its F6 I5 e6 fun J1 H6 k6 f6 ok1=>?_
        have I6:SitE K G (D :: B) E4 F6 σ4 H6:=I5.step k6 f6
        have hD6:H6 D = some (.lst acc):=k6 D _ hD5 hfD
        obtain ⟨V5,hV⟩:∃ V5:Nat→Nat→St→List V→Hp→Prop,V5 = fun j n σ5 acc5 H7=>n = its.length - j ∧ j ≤ its.length ∧ ∃ E F done' rest',SitE K G (D :: B) E F σ5 H7 ∧ H7 D = some (.lst acc5) ∧ Kp (fpOf K G) H1 H7 ∧ Same (hid H6 (D :: B)) (hid H7 (D :: B)) ∧ (∀ (j:Nat) (ds:List PyData),E[j]? = some (some (DV.own ds))→σ5[j]? ≠ some (some (V.ref D))) ∧ DatsAre K (hid H7 (D :: B)) done' acc5 ∧ inGo bd1 mt1 me (its.drop j) E F = some ((rest',Ez),F7) ∧ whole = done' ++ rest' ++ ws:=⟨_,rfl⟩
        have v0:V5 0 its.length σ4 acc H6:=by
          rw [hV]
          exact ⟨by simp,Nat.zero_le _,E4,F6,done,zs,I6,hD6,kall.trans k6,fun _ _ z=>z,ow4,hd5.same (k6.hid I5.fB),e7,by rw [ew,List.append_assoc]⟩
        refine ⟨V5,⟨its.length,acc,hD6,v0⟩,fun j n σ5 acc5 H7 w=>?_⟩
        have vn:∀ {j n σ5 acc5 H7},(n = its.length - j ∧ j ≤ its.length ∧ ∃ E F done' rest',SitE K G (D :: B) E F σ5 H7 ∧ H7 D = some (.lst acc5) ∧ Kp (fpOf K G) H1 H7 ∧ Same (hid H6 (D :: B)) (hid H7 (D :: B)) ∧ (∀ (j:Nat) (ds:List PyData),E[j]? = some (some (DV.own ds))→σ5[j]? ≠ some (some (V.ref D))) ∧ DatsAre K (hid H7 (D :: B)) done' acc5 ∧ inGo bd1 mt1 me (its.drop j) E F = some ((rest',Ez),F7) ∧ whole = done' ++ rest' ++ ws)→V5 j n σ5 acc5 H7:=fun h=>by rw [hV]; exact h
        rw [hV] at w
        clear hV v0
        obtain ⟨rfl,hj,E5,F9,done5,rest5,I7,hD7,k7,s7,ow5,hd7,e9,ew9⟩:=w
        by_cases hjl:j < its.length
        · refine .inr ⟨((ok1 H7 (D :: B) s7).1 j its[j] (by simp [hjl])).1,fun x1 H8 y1=>?_⟩
          obtain ⟨s8,hx8⟩:=((ok1 H7 (D :: B) s7).1 j its[j] (by simp [hjl])).2 x1 H8 y1
          have hx8':=hx8 I7.bk
          rw [List.drop_eq_getElem_cons hjl,inGo] at e9
          obtain ⟨Ea,ea,e9⟩:=Option.bind_eq_some_iff.mp e9
          obtain ⟨⟨bb,Fb⟩,eb,e9⟩:=Option.bind_eq_some_iff.mp e9
          have I8:SitE K G (D :: B) E5 F9 σ5 H8:=I7.step (Kp.same s8) (I7.fd.same s8)
          refine hg1 G (D :: B) E5 F9 σ5 H8 x1 its[j] Ea _ I8 hx8' ea fun σa Ia fra=>?_
          have owa:∀ (j:Nat) (ds:List PyData),Ea[j]? = some (some (DV.own ds))→σa[j]? ≠ some (some (V.ref D)):=fun j ds ej=>by
            obtain ⟨a1,a2⟩:=fra j fun y z=>by rw [ej] at z; cases z
            rw [a2]; exact ow5 j ds (a1 ▸ ej)
          refine ht1 G (D :: B) Ea F9 σa H8 _ bb Fb Ia eb fun Hb kb fb=>?_
          have kallb:Kp (fpOf K G) H1 Hb:=(k7.trans (Kp.same s8)).trans kb
          have Ib:SitE K G (D :: B) Ea Fb σa Hb:=Ia.step kb fb
          have hDb:Hb D = some (.lst acc5):=kb D _ (s8 D _ hD7) hfD
          have s78:Same (hid H7 (D :: B)) (hid H8 (D :: B)):=(Kp.same s8).hid (fp:=[]) (by simp)
          have s8b:Same (hid H8 (D :: B)) (hid Hb (D :: B)):=kb.hid Ia.fB
          have hdb:DatsAre K (hid Hb (D :: B)) done5 acc5:=(hd7.same s78).same s8b
          have s6b:Same (hid H6 (D :: B)) (hid Hb (D :: B)):=fun b o z=>s8b b o (s78 b o (s7 b o z))
          cases bb with
          | false=>exact ⟨hDb,its.length - (j + 1),by omega,vn ⟨rfl,hjl,Ea,Fb,done5,rest5,Ib,hDb,kallb,s6b,owa,hdb,e9,ew9⟩⟩
          | true =>
            obtain ⟨⟨yd,Fc⟩,ec,e9⟩:=Option.bind_eq_some_iff.mp e9
            obtain ⟨⟨⟨zs',Ez'⟩,Fd⟩,ed,e9⟩:=Option.bind_eq_some_iff.mp e9
            cases e9
            refine he G (D :: B) Ea Fb σa Hb _ yd Fc Ib ec fun v Hc kc fc hc=>?_
            have hDc:Hc D = some (.lst acc5):=kc D _ hDb hfD
            have Ic:SitE K G (D :: B) Ea Fc σa Hc:=Ib.step kc fc
            have hdc:=hdb.same (kc.hid Ib.fB)
            have hlen:acc5.length < sizeLine:=by
              have h1:=hd7.length
              have h2:=congrArg List.length ew9
              simp only [List.length_append,List.length_cons] at h2
              omega
            refine ⟨hDc,hlen,its.length - (j + 1),by omega,vn ⟨rfl,hjl,Ea,Fc,done5 ++ [yd],zs',Ic.wr hfD owa hDc,upd_same,fun b o eb nb=>?_,?_,owa,?_,ed,by rw [ew9]; simp⟩⟩
            · have:=kc b o (kallb b o eb nb) nb
              rw [upd_ne]; exact this
              intro z; subst z; rw [hD] at eb; cases eb
            · rw [hid_upd List.mem_cons_self]
              exact fun b o z=>kc.hid Ib.fB b o (s6b b o z)
            · rw [hid_upd List.mem_cons_self]
              exact hdc.snoc hc
        · have hje:j = its.length:=by omega
          subst hje
          rw [List.drop_length,inGo] at e9
          cases e9
          rw [List.append_nil] at ew9
          exact .inl ⟨(ok1 H7 (D :: B) s7).2,items.length - (i + 1),by omega,wn ⟨rfl,hlt,_,_,done5,ws,acc5,I7,hD7,k7,ow5,hd7,e8,ew9⟩⟩
    · have hie:i = items.length:=by omega
      subst hie
      rw [List.drop_length,lc2Go] at e3
      cases e3
      rw [List.append_nil] at ew
      subst ew
      exact .inl ⟨(ok H' (D :: B) (stab k2)).2,q _ H' (k1.trans k2) I2.fd (DatIs.lst (by rw [hid_out hBD]; exact hD2) (hd2.same (hid_sub fun b hb=>List.mem_cons_of_mem _ hb)))⟩
  · cases e
theorem ev_lc2 {ifs ifs1:List Expr} {scope osc:Scope} {N:List Str} {k:Nat} {cap:List Nat} {wi wi1:TI} {g g1:TG} {tt tt1:TT} {mi mi1:DE→M (List PyData)} {bd bd1:PyData→DE→Option DE} {mt mt1:DE→M Bool} {me:DE→M PyData}
    (hc:X.calm = true) (hosc:X.env.scope = osc) (hcap:Caps X.N osc N k cap scope) (hi:Eib K X tg iter wi mi)
    (hg:∀ cl C ex pins s H,Eg K (cxC X N scope cl C ex pins s H) tg g bd)
    (ht:∀ cl C ex pins s H,Ets K (cxC X N scope cl C ex pins s H) ifs tt mt)
    (hi1:∀ cl C ex pins s H,Ei K (cxC X N scope cl C ex pins s H) tg1 iter1 wi1 mi1)
    (hg1:∀ cl C ex pins s H,Eg K (cxC X N scope cl C ex pins s H) tg1 g1 bd1)
    (ht1:∀ cl C ex pins s H,Ets K (cxC X N scope cl C ex pins s H) ifs1 tt1 mt1)
    (he:∀ cl C ex pins s H,Ev K (cxC X N scope cl C ex pins s H) elt te me)
    (hs1:∀ cl C ex pins s H x,foldedSetIterable iter1 (cxC X N scope cl C ex pins s H).env x = pure x:=by intros; rfl)
    (hs:∀ x,foldedSetIterable iter X.env x = pure x:=by intro _; rfl) :
    Ev K X (.ListComp elt [⟨tg,iter,ifs,0⟩,⟨tg1,iter1,ifs1,0⟩] scope pos) (tLC2 wi k cap g tt wi1 g1 tt1 te) (sLC2 mi k cap bd mt mi1 bd1 mt1 me) :=
  ⟨pe_lc2 hc hosc hcap hi.pi (fun cl C ex pins s H=>(hg cl C ex pins s H).pg) (fun cl C ex pins s H=>(ht cl C ex pins s H).pts) (fun cl C ex pins s H=>(hi1 cl C ex pins s H).pi) (fun cl C ex pins s H=>(hg1 cl C ex pins s H).pg) (fun cl C ex pins s H=>(ht1 cl C ex pins s H).pts) (fun cl C ex pins s H=>(he cl C ex pins s H).pe) hs1 hs,
    lc2_d hi.ok (hg [] 0 [] [] X.s₀ X.H₀).ok (ht [] 0 [] [] X.s₀ X.H₀).ok (hi1 [] 0 [] [] X.s₀ X.H₀).ok (hg1 [] 0 [] [] X.s₀ X.H₀).ok (ht1 [] 0 [] [] X.s₀ X.H₀).ok (he [] 0 [] [] X.s₀ X.H₀).ok⟩
end
end L3
namespace L3
open PySem PySem.Spec PyProof.Rows L2
section
variable [Feeds]
variable {K:PySem.W.Frag} {X:Cx} {st:Stmt} {rest:List Stmt} {t u:TS} {mt:DE→M Out} {mu:DE→M (List PyData)} {p pos:Pos}
variable {P:Program} {w:World} {mg:Str→Option Value} {base:Heap}
noncomputable def GI (mg:Str→Option Value) (x:Str) (i:Int):Prop:=∃ t,mg x = some (Value.int i t)
theorem ev_gi {x:Str} {i:Int} (h:GI X.mg x i) (hg:Gl X x:=by rfl) (hd:(x == ("__debug__":Str)) = false:=by decide):Ev K X (.Name x p) (tC (.int i)) (sC (.int i)) :=
  ⟨pe_glob hg h.choose_spec ⟨_,rfl⟩ hd,tc_d fun _=>DatIs.int⟩
noncomputable def gSq (a:DE→M Out) (b:DE→M (List PyData)):DE→M (List PyData):=fun E F=>(a E F).bind fun p=>match p.1 with
  | .nx E1=>b E1 p.2
  | _=>none
noncomputable def gRet (i:Nat):DE→M (List PyData):=fun E F=>match E[i]? with
  | some (some (.own ds))=>some (ds,F)
  | _=>none
structure SsG (K:PySem.W.Frag) (X:Cx) (sts:List Stmt) (ts:TS) (m:DE→M (List PyData)):Prop where
  ps:PSs X sts ts
  ok:∀ (G:GF) (B0:List Addr) (H0:Hp) (E:DE) (F:FS) (σ:St) (H:Hp) (D:Ends) (ds:List PyData) (F':FS),Sit K G B0 H0 E F σ H→m E F = some (ds,F') →
    (∀ a ws H',H0 a = none→H' a = some (.lst ws)→Kp (fpOf K G) H0 H'→FAt K G H' F'→DatsAre K (hid H' (a :: B0)) ds ws→D.rt (.ref a) H')→ts D σ H
theorem sg_one (i:Nat) {x:Str} (hN:X.N[i]? = some x:=by rfl) (hv:Vis X.env.scope x:=by first | exact Or.inl rfl | exact Or.inr (Or.inl rfl) | exact Or.inr (Or.inr rfl)) (hd:(x == ("__debug__":Str)) = false:=by decide)
    (hcd:(x == ("__classdict__":Str)) = false:=by decide):SsG K X [.Return (some (.Name x p)) pos] (tRet (tVar i)) (gRet i):=⟨pss_one (ps_ret (pe_var hN hv hd hcd)),fun G B0 H0 E F σ H D ds F' S e q=>by
  obtain ⟨B,s,sn,I⟩:=S.ex
  unfold gRet at e
  split at e
  · rename_i x hx
    cases e
    obtain ⟨v,h1,p,xs,rfl,hB,hf,hp,hd⟩:=I.loc i _ hx
    obtain ⟨n1,n2⟩:=S.own i _ p hx h1
    exact ⟨_,h1,q p xs H n1 hp S.kp I.fd (hd.same (hid_sub fun b hb=>by
      rcases List.mem_cons.mp hb with rfl | hb
      · exact hB
      · exact s b hb))⟩
  · cases e⟩
theorem sg_cons (h1:Ss K X st t mt) (h2:SsG K X rest u mu):SsG K X (st :: rest) (tSeq t u) (gSq mt mu):=⟨pss_cons h1.ps h2.ps,fun G B0 H0 E F σ H D ds F' S e q=>by
  obtain ⟨⟨o,F1⟩,e1,e⟩:=Option.bind_eq_some_iff.mp e
  refine h1.ok G B0 H0 E F σ H _ o F1 S e1 ?_
  cases o with
  | nx E1=>exact fun σ' H' S'=>h2.ok G B0 H0 E1 F1 σ' H' D ds F' S' e q
  | rt d=>cases e
  | bk E1=>cases e
  | ct E1=>cases e⟩
theorem def_okS {x qual:Str} {st:Stmt} {f:Addr} {fd:FuncData} {N ps:List Str} {k:Nat} {mf:DE→M (List PyData)} (Fn:Fun K x qual st f fd) (S:FnScope N ps (defScope st))
    (hbody:∀ (cdv:Value) (A:Around) (outer:List Env) (s:Shared) (H:Hp) (E:XK),Room k (A.deeper (envOfC qual (defScope st) s.heap.objs.size f cdv)) →
      ∃ ts,SsG K (cxOf CX0 P w K mg base N qual (defScope st) f cdv A outer s H E).nox (defBody st) ts mf):FnOk P w K mg base CX0 (k + 1) f fd ps (spG K ps.length (runG N mf)):=by
  refine Fn.ok S (fun vs H Q E h=>?_) (fun cdv A outer s H vs Q E hr h=>?_)
  · obtain ⟨G,B,F,args,d,F',hl,_⟩:=h
    exact hl
  · obtain ⟨G,B,F,args,ds,F',hl,fB,bk,fa,ha,e1,q⟩:=h
    obtain ⟨ts,hts⟩:=hbody cdv A outer s H E hr
    exact ⟨ts,hts.ps,hts.ok G B H (startE N args) F (L2.start N vs) H _ ds F' (sit_start fB bk fa ha) e1 q⟩
end
end L3
namespace L3
open PySem PySem.W PySem.Spec PyProof.Rows L2
abbrev vMro:List Value:=[.type "ValueError",.type "Exception",.type "BaseException",.type "object"]
structure ECls (K:Frag) (Wt C f:Addr):Prop where
  obj:∃ nm q N bs hdct sn sub ab col dd k0 k1 k2 k3 k5,K.lookup C = some (excClassObj nm q C N bs (.ref Wt :: vMro) hdct sn sub ab col dd k0 k1 k2 k3 k5 "ValueError.__new__")
  top:∃ c0 dd cd sl,K.lookup Wt = some { cls:=c0,dict:=dd,data:=.cls cd,slots:=sl } ∧ nsOkIn K cd.ns = true ∧ nsIn K cd.ns "__init__" = some none
  init:findIn K (.ref C) "__init__" = some (some (.ref f))
  fn:typeIn K (.ref f) = some (.type "function")
  call:specialIn K (.ref C) "__call__" = some (some (.builtin "type.__call__"))
  typ:instIn K (.ref C) (.type "type") = some true
  kp:keepIn K (.ref C) = true
  dict:(clsIn K C).any (·.hasDict) = true
  sa:findIn K (.ref C) "__setattr__" = some (some (.builtin "object.__setattr__"))
noncomputable abbrev excObj (C t:Addr) (dx:Option Addr):Obj:={ cls:=.ref C,dict:=dx,data:=.fields #[.ref t,.none,.none,.none,.bool false,.none] }
section
variable {prog:Program} {w:World} {A:Around} {E:Value→Shared→Prop} {R:Result→Shared→Prop} {K:Frag} {Wt C f:Addr} {h:Heap} {g:Array GenState} {d:Drawn} {t:Nat} {os:OsState}
theorem ECls.tail (c:ECls K Wt C f) (X:K.In h):OwnTail h vMro (.ref Wt :: vMro):=by
  obtain ⟨c0,dd,cd,sl,l,n1,n2⟩:=c.top
  exact .own (X _ _ l) (.of_isNs (isNs_of_in X n1)) (nsMap_none_of_in X n1 n2) .base
theorem exc_call {rest:List Value} (c:ECls K Wt C f) (X:K.In h) (hz:rest.length ≤ sizeLine)
    (hq:codeAny (model prog w) (A.under (.builtin "type.__call__" ⟨.ref C :: rest,[]⟩)) (.call (.ref f) ⟨.ref (h.objs.size + 1) :: rest,[]⟩) (InitBack (h.objs.size + 1) R)
      ⟨(h.push { cls:=.type "tuple",data:=.seq rest.toArray }).push (excObj C h.objs.size none),g,d,t,os⟩) :
    codeAny (model prog w) A (.call (.ref C) ⟨rest,[]⟩) R ⟨h,g,d,t,os⟩:=by
  obtain ⟨nm,q,N,bs,hdct,sn,sub,ab,col,dd,k0,k1,k2,k3,k5,lk⟩:=c.obj
  have hC:=X _ _ lk
  have T:=c.tail X
  have call:=looks_specialIn (M:=model prog w) X c.call
  have typ:=looks_instIn (M:=model prog w) X c.typ
  have hi:=looks_findIn (M:=model prog w) X c.init
  have FB:=PySem.F.excBase_ValueError
  refine codeAny_of_tree ?_
  show wpAny _ _ (callAny (.ref C) _) _ _ _
  refine nd_load hC ?_
  show wpAny _ _ (callAny.viaDunder (.ref C) _) _ _ _
  unfold callAny.viaDunder
  refine wpAny_bind (call.at ?_)
  dsimp only
  rw [tc_bind]
  refine wpAny_bind (wpAny_pure (wpAny_bind (wpAny_pure ?_)))
  refine wpAny_pure (a:=Fin.again (.call (.builtin "type.__call__") ⟨.ref C :: rest,[]⟩)) ⟨rfl,?_⟩
  refine codeAny_call_builtin_at (Code.quiet_builtin _ (by decide +kernel)) entry_typeCall (check_slot tc_kind tc_split typ (tc_args _ _ _) ?_)
  unfold Builtin.«type.__call__»
  have hm:Looks (model prog w) h (mroOf (.ref C)) (.ref C :: .ref Wt :: vMro):=((Looks.ld (part:=none) hC).andThen .now).andThen .now
  have made:Looks (model prog w) h (Bind.madeBy (.ref C)) (some "ValueError.__new__"):=fun A Q E s k q=>by
    obtain ⟨hh,gg,dd',tt,oo⟩:=s
    exact wpAny_madeBy_exc (k _ _ hC) q
  repeat (first | simp only [List.isEmpty_cons,Bool.false_eq_true,if_false] | with_reducible refine wpAny_call ?_ | lk)
  refine codeAny_call_builtin_code (Code.quiet_builtin _ FB.quiet) (wpAny_check_new_subT FB T hC ?_)
  refine codeAny_exc_new_subT FB T hC ?_ hz
  generalize hh:(h.push { cls:=.type "tuple",data:=.seq rest.toArray }).push (excObj C h.objs.size none) = h1 at hq ⊢
  have up:∀ b o,h.get? b = some o→h1.get? b = some o:=fun b o z=>by rw [← hh]; exact Heap.get?_push_of_some _ (Heap.get?_push_of_some _ z)
  have here:h1.get? (h.objs.size + 1) = some (excObj C h.objs.size none):=by rw [← hh]; heap_get
  have X1:K.In h1:=X.keeps up
  have ty:Looks (model prog w) h1 (typeOf (.ref (h.objs.size + 1))) (.ref C):=(Looks.ld here).andThen .now
  have mr:mroIn K C (.ref C) = some true:=by unfold mroIn clsIn; rw [lk]; simp
  have own:=looks_mroIn (M:=model prog w) X1 mr
  have ini:=looks_findIn (M:=model prog w) X1 c.init
  have bnd:=bind_fn (M:=model prog w) X1 (.ref (h.objs.size + 1)) c.fn
  show wpAny _ _ _ _ _ _
  unfold isInstance callSpecial? specialOf
  repeat (first | with_reducible refine wpAny_call ?_ | lk)
  refine codeAny_mono hq fun r s2 z=>?_
  rcases r with e | (v | _ | _ | _) <;> first | exact z | exact z.elim | skip
  obtain ⟨rfl,z⟩:=z
  exact wpAny_pure (wpAny_pure z)
end
end L3
namespace L3
open PySem PySem.W PySem.Spec PyProof.Rows L2
open Builtin Builtin.ObjectAttr
section
variable {prog:Program} {w:World} {A:Around} {E:Value→Shared→Prop} {R:Result→Shared→Prop} {K:Frag} {Wt C f e:Addr} {h:Heap} {g:Array GenState} {d:Drawn} {t:Nat} {os:OsState} {mA:Str→Option Value} {name:Str} {v:Value}
theorem ECls.cls (c:ECls K Wt C f):∃ cd,clsIn K C = some cd ∧ cd.mro = .ref C :: .ref Wt :: vMro ∧ cd.hasDict = true:=by
  obtain ⟨nm,q,N,bs,hdct,sn,sub,ab,col,dd,k0,k1,k2,k3,k5,lk⟩:=c.obj
  obtain ⟨cd,e1,e2⟩:=any_some c.dict
  refine ⟨cd,e1,?_,e2⟩
  unfold clsIn at e1
  rw [lk] at e1
  cases e1
  rfl
noncomputable def Left (h h':Heap) (e:Addr):Prop :=
  (∀ b o,b ≠ e→(∀ o0 dx,h.get? e = some o0→o0.dict = some dx→b ≠ dx)→h.get? b = some o→h'.get? b = some o) ∧
  ∀ o0,h.get? e = some o0→∃ o1 dx,h'.get? e = some o1 ∧ o1.cls = o0.cls ∧ o1.data = o0.data ∧ o1.slots = o0.slots ∧ o1.dict = some dx ∧ (o0.dict = some dx ∨ (o0.dict = none ∧ dx = h.objs.size))
theorem exc_put {tk:Tok} {ns:List Str} (c:ECls K Wt C f) (X:K.In h) (na:findIn K (.ref C) name = some none) (I:h.Inst e C mA) (hw:Within mA ns) (hl:ns.length ≤ 1000)
    (hq:∀ h' tk',h'.Inst e C (fun y=>if y = name then some v else mA y)→Left h h' e→R (.ok (.ret .none)) ⟨h',g,d,tk',os⟩) :
    codeAny (model prog w) A (.call (.builtin "object.__setattr__") ⟨[.ref e,.str name tk,v],[]⟩) R ⟨h,g,d,t,os⟩:=by
  have SO:=PySem.F.store_object
  have SV:=PySem.F.store_ValueError
  obtain ⟨cd,hc,hmro,hdict⟩:=c.cls
  obtain ⟨⟨cl,dct,dat,sls⟩,hx,hcl,hnc,hd⟩:=I
  dsimp only at hcl hnc hd
  subst hcl
  have ty:Looks (model prog w) h (typeOf (.ref e)) (.ref C):=(Looks.ld hx).andThen .now
  have mr:mroIn K C (.type "object") = some true:=by unfold mroIn; rw [hc,Option.bind_some,hmro]; rfl
  have sub:Looks (model prog w) h (isInstance (.ref e) (.type "object")) true:=ty.andThen (looks_mroIn X mr)
  have hm:Looks (model prog w) h (mroOf (.ref C)) cd.mro:=(looks_clsIn X hc).andThen .now
  have lkn:=looks_findIn (M:=model prog w) X na
  refine codeAny_call_builtin SO.slot.plain SO.entry (@check_slot (model prog w) _ _ ⟨h,g,d,t,os⟩ "object.__setattr__" "object" "__setattr__" (.ref e) [.str name tk,v] [] _ SO.kind SO.split sub (SO.args (.ref e) (.str name tk) v) ?_)
  rw [osa_eq,refuse_eq]
  refine wpAny_bind (wpAny_bind (ty.here (wpAny_bind (hm.here ?_))))
  rw [hmro,refuseLoop_ref,refuseLoop_ref,SV.passes]
  refine wpAny_pure (wpAny_bind (ty.here (wpAny_bind (lkn.here (wpAny_bind (wpAny_pure ?_))))))
  show wpAny _ _ (storeInOwnDict (.ref e) (.ref C) (.str name tk) name v false) _ _ _
  have cdl:=looks_clsIn (M:=model prog w) X hc
  unfold storeInOwnDict ownDictForStores instanceDict
  refine wpAny_bind (wpAny_pure (wpAny_bind (wpAny_bind (wpAny_loadPart hx (wpAny_bind (cdl.here ?_))))))
  rw [hdict]
  simp only [Bool.not_true,Bool.false_eq_true,if_false]
  rcases hd with ⟨rfl,hmA⟩ | ⟨dx,rfl,hne,hns⟩
  · dsimp only
    rw [if_neg (by simp [typeHasDict])]
    have hlt:e < h.objs.size:=Heap.lt_size hx
    have hes:e ≠ h.objs.size:=Nat.ne_of_lt hlt
    refine wpAny_bind (wpAny_alloc' (wpAny_bind (wpAny_update' (Heap.get?_push_of_some _ hx) (wpAny_pure ?_))))
    generalize hh1:(h.push { cls:=.type "dict",data:=.dict #[] }).update e (fun o=>{ cls:=o.cls,dict:=some h.objs.size,data:=o.data,slots:=o.slots }) = h1
    have gd:h1.get? h.objs.size = some { cls:=.type "dict",data:=.dict #[] }:=by rw [← hh1]; exact (Heap.get?_update_ne _ _ _ _ hes.symm).trans (Heap.get?_push_at rfl rfl)
    have ge:h1.get? e = some { cls:=.ref C,dict:=some h.objs.size,data:=dat,slots:=sls }:=by
      rw [← hh1]
      refine Heap.get?_update_self _ (Heap.get?_push_of_some _ hx) ?_
      have fr:=(Heap.get?_some_iff.mp hx).2
      cases dat <;> first | rfl | exact fr
    have up1:∀ b o,b ≠ e→h.get? b = some o→h1.get? b = some o:=fun b o hb z=>by rw [← hh1]; exact (Heap.get?_update_ne _ _ _ _ hb).trans (Heap.get?_push_of_some _ z)
    have e0:h1.Ns h.objs.size (fun _=>none):=⟨_,#[],_,gd,rfl,fun z hz=>absurd hz (by simp),fun _=>rfl⟩
    show wpAny _ _ (storeInDict h.objs.size (.str name tk) name v) _ _ _
    unfold storeInDict newKeyGuard
    refine wpAny_bind (wpAny_pure (wpAny_bind (wpAny_nsSet1 (Heap.Ns1.of_empty e0) fun h2 n2 s2=>?_)))
    obtain ⟨oD,esD,epD,hoD,hdD,hcD⟩:=n2.count (Within.cons name v Within.nil)
    refine wpAny_bind (wpAny_lookBehind hoD (by rw [hdD]; exact pastItsLine_dict (Nat.le_trans hcD (by simp [sizeLine_eq]))) ?_)
    refine wpAny_pure (hq h2 _ ⟨_,(s2.2 e hes).trans ge,rfl,hnc,.inr ⟨h.objs.size,rfl,hes.symm,?_⟩⟩ ⟨fun b o hb _ z=>(s2.2 b (Nat.ne_of_lt (Heap.lt_size z))).trans (up1 b o hb z),fun o0 z=>?_⟩)
    · have ef:(fun y=>if y = name then some v else mA y) = fun y=>if y = name then some v else (none:Option Value):=by
        funext y; rw [hmA y]
      rw [ef]; exact n2
    · rw [hx] at z; cases z
      exact ⟨_,_,(s2.2 e hes).trans ge,rfl,rfl,rfl,rfl,.inr ⟨rfl,rfl⟩⟩
  · refine wpAny_pure ?_
    show wpAny _ _ (storeInDict dx (.str name tk) name v) _ _ _
    unfold storeInDict newKeyGuard
    refine wpAny_bind (wpAny_pure (wpAny_bind (wpAny_nsSet1 hns fun h2 n2 s2=>?_)))
    obtain ⟨oD,esD,epD,hoD,hdD,hcD⟩:=n2.count (Within.cons name v hw)
    refine wpAny_bind (wpAny_lookBehind hoD (by rw [hdD]; exact pastItsLine_dict (Nat.le_trans hcD (by rw [List.length_cons,sizeLine_eq]; omega))) ?_)
    refine wpAny_pure (hq h2 _ ⟨_,(s2.2 e hne.symm).trans hx,rfl,hnc,.inr ⟨dx,rfl,hne,n2⟩⟩ ⟨fun b o hb hbd z=>(s2.2 b (hbd _ dx hx rfl)).trans z,fun o0 z=>⟨o0,dx,(s2.2 e hne.symm).trans z,rfl,rfl,rfl,by rw [hx] at z; cases z; rfl,.inl (by rw [hx] at z; cases z; rfl)⟩⟩)
end
end L3
namespace L3
open PySem PySem.W PySem.Spec PyProof.Rows L2
open Builtin Builtin.ObjectAttr
section
variable {prog:Program} {w:World} {A:Around} {E:Value→Shared→Prop} {R:Result→Shared→Prop} {K:Frag} {Wt C f e:Addr} {h:Heap} {g:Array GenState} {d:Drawn} {t:Nat} {os:OsState} {mA:Str→Option Value} {name:Str} {v:Value}
theorem exc_setattr {ns:List Str} {Q:Unit→Shared→Prop} (c:ECls K Wt C f) (X:K.In h) (na:findIn K (.ref C) name = some none) (I:h.Inst e C mA) (hw:Within mA ns) (hl:ns.length ≤ 1000)
    (hq:∀ h' tk',h'.Inst e C (fun y=>if y = name then some v else mA y)→Left h h' e→Q () ⟨h',g,d,tk',os⟩) :
    wpAny (model prog w) A (setAttr (.ref e) name v) Q E ⟨h,g,d,t,os⟩:=by
  have SO:=PySem.F.store_object
  obtain ⟨⟨cl,dct,dat,sls⟩,hx,hcl,hnc,hd⟩:=id I
  dsimp only at hcl hnc hd
  subst hcl
  have ty:Looks (model prog w) h (typeOf (.ref e)) (.ref C):=(Looks.ld hx).andThen .now
  have sa:=looks_findIn (M:=model prog w) X c.sa
  have bnd:=SO.slot.bind (.ref e)
  unfold setAttr callSpecial? specialOf
  refine wpAny_bind (wpAny_mkText ?_)
  refine wpAny_bind (wpAny_bind (wpAny_bind (ty.here (sa.here (wpAny_holding ?_)))))
  rw [bnd]
  refine wpAny_bind (wpAny_pure (wpAny_bind (wpAny_call ?_)))
  refine exc_put c X na I hw hl fun h' tk' I' L=>?_
  exact wpAny_pure (wpAny_pure (hq h' tk' I' L))
end
end L3
namespace L3
open PySem PySem.W PySem.Spec PyProof.Rows L2
inductive InitBody:List Str→List Stmt→Prop
  | nil:InitBody [] []
  | pass {pos:Pos}:InitBody [] [.Pass pos]
  | cons {p:Str} {ps:List Str} {b:List Stmt} {x y z pos:Pos}:InitBody ps b→InitBody (p :: ps) (.Assign [.Attribute (.Name "self" x) p y] (.Name p z) pos :: b)
noncomputable def setsM (m:Str→Option Value):List Str→(Str→Option Value)→Str→Option Value
  | [],M=>M
  | p :: ps,M=>setsM m ps fun y=>if y = p then m p else M y
structure ISt (hb:Heap) (L e C t:Addr) (m mA:Str→Option Value) (ns:List Str) (h:Heap):Prop where
  keep:∀ b o,hb.get? b = some o→b ≠ e→h.get? b = some o
  fr:h.Ns L m
  obj:∃ dct,h.get? e = some (excObj C t dct) ∧ ((dct = none ∧ ∀ n,mA n = none) ∨ ∃ dx,dct = some dx ∧ dx ≠ e ∧ dx ≠ L ∧ hb.objs.size ≤ dx ∧ h.Ns1 dx mA)
  wi:Within mA ns
  sz:hb.objs.size ≤ h.objs.size
section
variable {prog:Program} {w:World} {A:Around} {E:Value→Shared→Prop} {K:Frag} {Wt C f e L t0:Addr} {hb:Heap} {g:Array GenState} {d:Drawn} {os:OsState} {m mA:Str→Option Value} {env:Env}
theorem ISt.inst {ns:List Str} {h:Heap} (I:ISt hb L e C t0 m mA ns h):h.Inst e C mA:=by
  obtain ⟨dct,ge,z⟩:=I.obj
  refine ⟨_,ge,rfl,fun c q=>(nomatch q),?_⟩
  rcases z with z | ⟨dx,rfl,n1,_,_,n⟩
  · exact .inl z
  · exact .inr ⟨dx,rfl,n1,n⟩
theorem ISt.put {ns:List Str} {h h':Heap} {name:Str} {v:Value} (I:ISt hb L e C t0 m mA ns h) (he:e < hb.objs.size) (hL:hb.objs.size ≤ L) (J:h'.Inst e C (fun y=>if y = name then some v else mA y)) (lf:Left h h' e) :
    ISt hb L e C t0 m (fun y=>if y = name then some v else mA y) (name :: ns) h':=by
  obtain ⟨dct,ge,z⟩:=I.obj
  obtain ⟨o1,dx,g1,c1,d1,s1,e1,e2⟩:=lf.2 _ ge
  have hLs:L < h.objs.size:=I.fr.lt
  have hes:e < h.objs.size:=Heap.lt_size ge
  have dxs:dx ≠ e ∧ dx ≠ L ∧ hb.objs.size ≤ dx:=by
    rcases e2 with q | ⟨q,rfl⟩
    · rcases z with ⟨z,_⟩ | ⟨dy,z,a1,a2,a3,_⟩
      · rw [z] at q; cases q
      · rw [z] at q; cases q; exact ⟨a1,a2,a3⟩
    · exact ⟨Nat.ne_of_gt hes,Nat.ne_of_gt hLs,I.sz⟩
  have old:∀ o0 dy,h.get? e = some o0→o0.dict = some dy→dy ≠ L ∧ hb.objs.size ≤ dy:=fun o0 dy q1 q2=>by
    rw [ge] at q1; cases q1
    rcases z with ⟨z,_⟩ | ⟨dz,z,a1,a2,a3,_⟩
    · rw [z] at q2; cases q2
    · rw [z] at q2; cases q2; exact ⟨a2,a3⟩
  have n1:h'.Ns1 dx (fun y=>if y = name then some v else mA y):=by
    obtain ⟨o,q1,_,_,q2⟩:=J
    rw [g1] at q1; cases q1
    rcases q2 with ⟨q2,_⟩ | ⟨dy,q2,_,q3⟩
    · rw [e1] at q2; cases q2
    · rw [e1] at q2; cases q2; exact q3
  refine ⟨fun b o q1 q2=>lf.1 b o q2 (fun o0 dy r1 r2=>Nat.ne_of_lt (Nat.lt_of_lt_of_le (Heap.lt_size q1) (old o0 dy r1 r2).2)) (I.keep b o q1 q2),?_,⟨some dx,?_,.inr ⟨dx,rfl,dxs.1,dxs.2.1,dxs.2.2,n1⟩⟩,Within.cons name v I.wi,?_⟩
  · obtain ⟨o,es,ep,q,r⟩:=I.fr
    exact ⟨o,es,ep,lf.1 L o (Nat.ne_of_gt (Nat.lt_of_lt_of_le he hL)) (fun o0 dy r1 r2=>(old o0 dy r1 r2).1.symm) q,r⟩
  · obtain ⟨c,dd,da,sl⟩:=o1
    dsimp only at c1 d1 s1 e1
    subst c1 d1 s1 e1
    exact g1
  · have:L < h'.objs.size:=by
      obtain ⟨o,es,ep,q,r⟩:=I.fr
      exact Heap.lt_size (lf.1 L o (Nat.ne_of_gt (Nat.lt_of_lt_of_le he hL)) (fun o0 dy r1 r2=>(old o0 dy r1 r2).1.symm) q)
    exact Nat.le_of_lt (Nat.lt_of_le_of_lt hL this)
theorem init_run (c:ECls K Wt C f) (X:K.In hb) (he:e < hb.objs.size) (hKe:K.lookup e = none) (hL:hb.objs.size ≤ L) (hk:env.scope.kind = .function) (hl:env.locals = L) (hself:m "self" = some (.ref e) ∧ env.kindOf "self" = some .local) {Q:Flow→Shared→Prop} :
    ∀ (ps:List Str) (body:List Stmt) (mA:Str→Option Value) (ns:List Str) (h:Heap) (tk:Nat),InitBody ps body→ISt hb L e C t0 m mA ns h→ns.length + ps.length ≤ 1000 →
    (∀ p ∈ ps,findIn K (.ref C) p = some none ∧ (p == ("__debug__":Str)) = false ∧ env.kindOf p = some .local ∧ ∃ v,m p = some v) →
    (∀ h' tk' ns',ISt hb L e C t0 m (setsM m ps mA) ns' h'→Q .next ⟨h',g,d,tk',os⟩)→wpAny (model prog w) A (execs body env) Q E ⟨h,g,d,tk,os⟩
  | [],_,mA,ns,h,tk,.nil,I,_,_,q=>wpAny_execs_nil (q h tk ns I)
  | [],_,mA,ns,h,tk,.pass,I,_,_,q=>wpAny_execs_cons (wpAny_Pass (wpAny_execs_nil (q h tk ns I)))
  | p :: ps,_,mA,ns,h,tk,.cons B,I,hz,hp,q=>by
    obtain ⟨na,nd,kp,v,hv⟩:=hp p List.mem_cons_self
    rw [List.length_cons] at hz
    have XK:K.In h:=fun b o z=>I.keep b o (X b o z) fun y=>by rw [y,hKe] at z; cases z
    have fr:h.Ns env.locals m:=by rw [hl]; exact I.fr
    refine wpAny_execs_cons (plainObj_wpAny_Assign_Attribute (wpAny_Name (wpAny_loadName_local hk kp fr hv (wpAny_Name (wpAny_loadName_local hk hself.2 fr hself.1 ?_))) nd))
    refine exc_setattr c XK na I.inst I.wi (by omega) fun h' tk' J lf=>?_
    refine init_run c X he hKe hL hk hl hself ps _ _ (p :: ns) h' tk' B (I.put he hL J lf) (by rw [List.length_cons]; omega) (fun x hx=>hp x (List.mem_cons_of_mem _ hx)) fun h2 tk2 ns2 I2=>q h2 tk2 ns2 ?_
    rw [setsM]
    rw [hv]
    exact I2
end
end L3
namespace L3
open PySem PySem.W PySem.Spec PyProof.Rows L2
structure EIni (K:Frag) (C f:Addr) (ps:List Str):Prop where
  fn:∃ (qual:Str) (params:Arguments) (body:List Stmt) (scope:Scope) (oc:Value) (od:Option Addr) (kV doc pm:Value) (an:Option Addr) (cdv ct:Value) (osl:Array (Option Value)),
    K.lookup f = some ⟨oc,od,.func (fnOf "__init__" qual params body scope .none kV doc pm an cdv ct),osl⟩ ∧ codeIn K cdv qual = true ∧ FnScope (("self":Str) :: ps) (("self":Str) :: ps) scope ∧ (∀ p ∈ ("self":Str) :: ps,scope.names.lookup p = some .local) ∧ InitBody ps body ∧
    ∀ us:List Value,us.length = ps.length + 1→bindArgs (fnOf "__init__" qual params body scope .none kV doc pm an cdv ct) ⟨us,[]⟩ = pure ((("self":Str) :: ps).zip us)
  na:∀ p ∈ ps,findIn K (.ref C) p = some none ∧ (p == ("__debug__":Str)) = false
  few:ps.length ≤ 100
structure EMade (h h':Heap) (e C:Addr) (mF:Str→Option Value):Prop where
  keeps:∀ b o,h.get? b = some o→h'.get? b = some o
  new:h.objs.size ≤ e
  obj:∃ t dct,h'.get? e = some (excObj C t dct) ∧ ((dct = none ∧ ∀ n,mF n = none) ∨ ∃ dx,dct = some dx ∧ dx ≠ e ∧ h.objs.size ≤ dx ∧ h'.Ns1 dx mF)
noncomputable def fMap:List Str→List Value→Str→Option Value
  | p :: ps,v :: vs,y=>if y = p then some v else fMap ps vs y
  | _,_,_=>none
theorem setsM_at (m:Str→Option Value):∀ (ps:List Str) (M:Str→Option Value) (y:Str),setsM m ps M y = if y ∈ ps then m y else M y
  | [],M,y=>by simp [setsM]
  | p :: ps,M,y=>by
    rw [setsM,setsM_at m ps]
    by_cases h:y ∈ ps
    · simp [h]
    · by_cases h2:y = p
      · subst h2; simp [h]
      · simp [h,h2]
theorem fMap_get:∀ {ps:List Str} {vs:List Value} {i:Nat} {p:Str} {v:Value},ps.Nodup→ps[i]? = some p→vs[i]? = some v→fMap ps vs p = some v
  | [],_,_,_,_,_,h,_=>by simp at h
  | _ :: _,[],_,_,_,_,_,h=>by simp at h
  | q :: ps,w :: vs,0,p,v,nd,h1,h2=>by
    cases h1; cases h2; simp [fMap]
  | q :: ps,w :: vs,i + 1,p,v,nd,h1,h2=>by
    have nd':=List.nodup_cons.mp nd
    have h1:ps[i]? = some p:=h1
    have h2:vs[i]? = some v:=h2
    have hne:p ≠ q:=fun z=>nd'.1 (by rw [← z]; exact List.mem_of_getElem? h1)
    rw [fMap,if_neg hne]
    exact fMap_get nd'.2 h1 h2
theorem fMap_out:∀ {ps:List Str} {vs:List Value} {y:Str},y ∉ ps→fMap ps vs y = none
  | [],_,_,_=>by simp [fMap]
  | _ :: _,[],_,_=>by simp [fMap]
  | q :: ps,w :: vs,y,h=>by
    rw [fMap,if_neg (fun z=>h (by simp [z]))]
    exact fMap_out fun z=>h (List.mem_cons_of_mem _ z)
section
variable {prog:Program} {w:World} {A:Around} {E:Value→Shared→Prop} {K:Frag} {Wt C f:Addr} {ps:List Str} {h:Heap} {g:Array GenState} {d:Drawn} {tk:Nat} {os:OsState}
theorem exc_made {us:List Value} {Q:Value→Shared→Prop} (c:ECls K Wt C f) (i:EIni K C f ps) (X:K.In h) (lim:h.NoLimit) (hr:Room 2 A) (hl:us.length = ps.length)
    (hq:∀ h' tk' e,EMade h h' e C (fMap ps us)→Q (.ref e) ⟨h',g,d,tk',os⟩):wpAny (model prog w) A (call (.ref C) us) Q E ⟨h,g,d,tk,os⟩:=by
  have few:=i.few
  refine wpAny_call (exc_call c X (by rw [sizeLine_eq]; omega) ?_)
  obtain ⟨qual,params,body,scope,oc,od,kV,doc,pm,an,cdv,ct,osl,lk,hcd,S,loc,IB,bd⟩:=i.fn
  generalize hh:(h.push { cls:=.type "tuple",data:=.seq us.toArray }).push (excObj C h.objs.size none) = hb
  have up:∀ b o,h.get? b = some o→hb.get? b = some o:=fun b o z=>by rw [← hh]; exact Heap.get?_push_of_some _ (Heap.get?_push_of_some _ z)
  have here:hb.get? (h.objs.size + 1) = some (excObj C h.objs.size none):=by rw [← hh]; heap_get
  have hsz:hb.objs.size = h.objs.size + 2:=by rw [← hh,Heap.size_push,Heap.size_push]
  have X1:K.In hb:=X.keeps up
  have hKe:K.lookup (h.objs.size + 1) = none:=by
    cases q:K.lookup (h.objs.size + 1) with
    | none=>rfl
    | some o=>exact absurd (Heap.lt_size (X _ _ q)) (Nat.not_lt.mpr (Nat.le_succ _))
  have hlu:(Value.ref (h.objs.size + 1) :: us).length = ps.length + 1:=by simp [hl]
  have hr1:Room 1 (A.under (.builtin "type.__call__" ⟨.ref C :: us,[]⟩)):=hr.make C us []
  refine codeAny_call_function hr1.depth (X1 _ _ lk) rfl S.co S.gen rfl (codeRec_of X1 hcd) (BindsTo.of_eq (bd _ hlu) _ _ _ _ ?_)
  refine wpAny_newFunctionEnv_cells S.kind (fun y hy=>.inl (loc y.1 (List.of_mem_zip hy).1)) fun env he s1 x=>?_
  subst he
  refine ⟨lim.keeps fun b o z=>x.toInCall.keep b o (up b o z),codeAny_func ?_⟩
  obtain ⟨h1,tk1,rfl,hk1⟩:=x.done
  have fr:=x.toInCall.ns
  have nd:=List.nodup_cons.mp S.nd
  have kd:∀ p ∈ ("self":Str) :: ps,(envOfC qual scope hb.objs.size f cdv).kindOf p = some .local:=fun p hp=>loc p hp
  have bg:∀ {i:Nat} {p:Str} {v:Value},(("self":Str) :: ps)[i]? = some p→(Value.ref (h.objs.size + 1) :: us)[i]? = some v→bindL (envOfC qual scope hb.objs.size f cdv).kindOf ((("self":Str) :: ps).zip (Value.ref (h.objs.size + 1) :: us)) (fun _=>none) p = some v :=
    fun h1 h2=>bindL_get S.nd h1 h2 (kd _ (List.mem_of_getElem? h1))
  have at_:∀ p ∈ ps,∃ v,fMap ps us p = some v ∧ bindL (envOfC qual scope hb.objs.size f cdv).kindOf ((("self":Str) :: ps).zip (Value.ref (h.objs.size + 1) :: us)) (fun _=>none) p = some v:=fun p hp=>by
    obtain ⟨j,hj,e⟩:=List.mem_iff_getElem.mp hp
    have e1:ps[j]? = some p:=by rw [List.getElem?_eq_getElem hj,e]
    have e2:us[j]? = some (us[j]'(by omega)):=List.getElem?_eq_getElem _
    exact ⟨_,fMap_get nd.2 e1 e2,bg (i:=j + 1) e1 e2⟩
  have hk2:∀ b o,hb.get? b = some o→h1.get? b = some o:=hk1
  refine init_run (hb:=hb) (L:=hb.objs.size) (t0:=h.objs.size) (C:=C) (e:=h.objs.size + 1) (f:=f) c X1 (by rw [hsz]; exact Nat.lt_succ_self _) hKe (Nat.le_refl _) S.kind rfl ⟨bg (i:=0) rfl rfl,kd _ List.mem_cons_self⟩ ps body (fun _=>none) [] h1 tk1 IB
    ⟨fun b o z _=>hk2 b o z,fr,⟨none,hk2 _ _ here,.inl ⟨rfl,fun _=>rfl⟩⟩,Within.nil,Nat.le_of_lt fr.lt⟩ (by rw [List.length_nil,Nat.zero_add]; exact Nat.le_trans few (by decide)) (fun p hp=>⟨(i.na p hp).1,(i.na p hp).2,kd p (List.mem_cons_of_mem _ hp),let ⟨v,_,z⟩:=at_ p hp; ⟨v,z⟩⟩) fun h' tk' ns' I'=>?_
  refine ⟨rfl,hq h' tk' _ ⟨fun b o z=>I'.keep b o (up b o z) (Nat.ne_of_lt (Nat.lt_succ_of_lt (Heap.lt_size z))),Nat.le_succ _,?_⟩⟩
  have em:setsM (bindL (envOfC qual scope hb.objs.size f cdv).kindOf ((("self":Str) :: ps).zip (Value.ref (h.objs.size + 1) :: us)) (fun _=>none)) ps (fun _=>none) = fMap ps us:=by
    funext y
    rw [setsM_at]
    by_cases hy:y ∈ ps
    · obtain ⟨v,z1,z2⟩:=at_ y hy
      rw [if_pos hy,z1,z2]
    · rw [if_neg hy,fMap_out hy]
  obtain ⟨dct,ge,z⟩:=I'.obj
  rw [em] at z
  refine ⟨_,dct,ge,?_⟩
  rcases z with z | ⟨dx,z1,z2,_,z4,z5⟩
  · exact .inl z
  · exact .inr ⟨dx,z1,z2,Nat.le_trans (by rw [hsz]; exact Nat.le_add_right _ 2) z4,z5⟩
end
end L3
namespace L3
open PySem PySem.W PySem.Spec PyProof.Rows L2
section
variable {M:Model} {A:Around} {E:Value→Shared→Prop} {K:Frag} {Wt C f:Addr} {s:Shared} {env:Env}
theorem exc_throw {x:Sem Value} {Q:Flow→Shared→Prop} (c:ECls K Wt C f) (hh:A.handled = none)
    (h:wpAny M A x (fun v s1=>∃ e t dct,v = .ref e ∧ K.In s1.heap ∧ s1.heap.get? e = some (excObj C t dct) ∧ E (.ref e) s1) E s) :
    wpAny M A (raiseStmt env (some x) none) Q E s:=by
  unfold raiseStmt
  refine wpAny_bind (wpAny_mono h (fun v s1 h1=>?_) fun _ _ z=>z)
  obtain ⟨e,t,dct,rfl,X,ge,q⟩:=h1
  obtain ⟨nm,qn,N,bs,hdct,sn,sub,ab,col,dd,k0,k1,k2,k3,k5,lk⟩:=c.obj
  have hC:=X _ _ lk
  have has:(Value.ref C :: .ref Wt :: vMro).contains (.type "BaseException") = true:=rfl
  obtain ⟨hp,g,d,tk,os⟩:=s1
  repeat (first | with_reducible refine wpAny_loadPart_at ge ?_ | with_reducible refine wpAny_loadPart_at hC ?_ | (with_reducible refine wpAny_isSubtype_exc hC ?_; rw [has]) | wp_step)
  exact wpAny_raiseNew_none hh q
end
section
variable {X:Cx} {K:Frag} {Wt C f:Addr} {ps:List Str} {x:Str} {p cp pos:Pos} {a:Expr} {es:List Expr} {t:TA}
noncomputable def tRaise (W:List V→Hp→Prop) (ps:List Str) (t:TA):TS:=fun _ σ H=>t σ H fun vs H1=>vs.length = ps.length ∧ W vs H1
noncomputable def Asks (X:Cx) (C:Addr) (ps:List Str) (W:List V→Hp→Prop):Prop:=∀ (pins:List (Addr × Obj)) (σ:St) (H:Hp) (s:Shared) (e:Addr) (h':Heap) (tk:Nat) (us:List Value) (vs:List V),
  Inv X pins σ H s→Vals vs us→EMade s.heap h' e C (fMap ps us)→W vs H→X.xe (.ref e) { s with heap:=h',toks:=tk }
theorem ps_raise {W:List V→Hp→Prop} (c:ECls X.K Wt C f) (i:EIni X.K C f ps) (hr:Room 2 X.A) (hg:Gl X x) (hm:X.mg x = some (.ref C)) (hA:Asks X C ps W) (ha:PA X (a :: es) t)
    (hdb:(x == ("__debug__":Str)) = false:=by decide) (he:starEach (a :: es) X.env = (false,eval a X.env) :: starEach es X.env:=by rfl) (hpl:(backTo cp (starEach es X.env)).any (·.1) = false:=by rfl) :
    PS X (.Raise (some (.Call (.Name x p) (a :: es) [] cp)) none pos) (tRaise W ps t):=by
  intro pins s σ H D I h
  rw [arm_exec_Raise]
  refine wpAny_bind (wpAny_standAt (exc_throw (K:=X.K) c hr.hd ?_))
  refine wpAny_bind (wpAny_mono ?_ (fun v s2 q=>wpAny_bind (wpAny_standAt (wpAny_pure q))) fun _ _ z=>z)
  refine wpAny_Call_Name_kw (ld_glob I hg hm ?_ hdb)
  refine PySem.W.callWith_K (h₀:=X.base) I.ok.mod.kin c.kp (thn (ha cp pins s σ H _ I h) fun us s1 ⟨vs,H1,I1,r,q⟩=>⟨I1.kIn,?_⟩) he hpl
  obtain ⟨hp,g,d,tk,os⟩:=s1
  refine exc_made c i I1.kIn I1.nolimit hr (by show us.length = _; rw [← r.length]; exact q.1) fun h' tk' e M=>?_
  obtain ⟨t0,dct,ge,z⟩:=M.obj
  exact ⟨e,t0,dct,rfl,I1.kIn.keeps M.keeps,ge,hA pins σ H1 _ e h' tk' us vs I1 r M q.2⟩
end
end L3
namespace L3
open PySem PySem.W PySem.Spec PyProof.Rows L2
noncomputable def Err (h:Heap) (e C:Addr) (dct:Option Addr) (tb:Value):Prop:=∃ vs,h.get? e = some { cls:=.ref C,dict:=dct,data:=.fields vs } ∧ vs[1]? = some tb
noncomputable def Tbk (h:Heap) (T:Addr) (fl:Value):Prop:=∃ o ts,h.get? T = some o ∧ o.data = .fields ts ∧ ts[3]? = some fl
structure Turned (fr S:List Addr) (h h':Heap):Prop where
  keep:∀ b o,b ∉ fr→b ∉ S→h.get? b = some o→h'.get? b = some o
  slot:∀ b o,b ∉ S→h.get? b = some o→∃ sl,h'.get? b = some { o with slots:=sl }
  size:h.objs.size ≤ h'.objs.size
theorem Turned.trans {fr S S':List Addr} {h h1 h2:Heap} (a:Turned fr S h h1) (b:Turned fr S' h1 h2):Turned fr (S ++ S') h h2 where
  keep:=fun c o n1 n2 z=>b.keep c o n1 (fun q=>n2 (List.mem_append_right _ q)) (a.keep c o n1 (fun q=>n2 (List.mem_append_left _ q)) z)
  slot:=fun c o n z=>by
    obtain ⟨sl,z1⟩:=a.slot c o (fun q=>n (List.mem_append_left _ q)) z
    obtain ⟨sl',z2⟩:=b.slot c _ (fun q=>n (List.mem_append_right _ q)) z1
    exact ⟨sl',z2⟩
  size:=Nat.le_trans a.size b.size
theorem turned_upd {fr:List Addr} {h:Heap} {a:Addr} {g:Obj→Obj}:Turned fr [a] h (h.update a g) where
  keep:=fun b o _ n z=>(Heap.get?_update_ne _ _ _ _ (by simpa using n)).trans z
  slot:=fun b o n z=>⟨o.slots,(Heap.get?_update_ne _ _ _ _ (by simpa using n)).trans z⟩
  size:=Nat.le_of_eq (Heap.size_update _ _ _).symm
section
variable {M:Model} {A:Around} {E:Value→Shared→Prop} {s:Shared} {base:Heap} {env:Env} {outer:List Env} {L e C T:Addr} {dct:Option Addr} {tb:Value}
theorem new_entry {hadNext:Bool} {head:Value} {Q:Unit→Shared→Prop} (hfr:A.frames = some (env :: outer)) (hl:s.heap.FunFrames base (env :: outer)) (hf:env.frame = some L) (he:Err s.heap e C dct tb)
    (q:∀ h' T,s.heap.objs.size ≤ T→Err h' e C dct (.ref T)→Tbk h' T (rawInt L)→Turned (frs (env :: outer)) [e] s.heap h'→Q () { s with heap:=h' }) :
    wpAny M A (do let a ← frameOf env; let pl ← entryPlaceOf L hadNext; let b ← EntryCells.newEntry head a .none (rawInt L) .none pl; setField (.ref e) 1 b) Q E s:=by
  obtain ⟨vs,ge,g1⟩:=he
  have hsz:1 < vs.size:=(Array.getElem?_eq_some_iff.mp g1).1
  have hne:e ∉ frs (env :: outer):=fun z=>by
    obtain ⟨_,o,ho,nf⟩:=hl.mem z
    rw [ge] at ho; cases ho
    exact nf vs rfl
  refine wpAny_bind (wpAny_frameOf_fun hfr hl hf fun h1 ⟨z1,z2,z3⟩=>wpAny_bind (wpAny_entryPlaceOf fun pl hpl=>?_))
  unfold EntryCells.newEntry newFields
  refine wpAny_bind (wpAny_newObj_type ?_ (hpl.sizeOk5 _ _ _ _ _))
  have ge1:h1.get? e = some { cls:=.ref C,dict:=dct,data:=.fields vs }:=(z2 e hne).trans ge
  generalize hts:([head,Value.ref L,Value.none,rawInt L,Value.none] ++ (if pl.isEmpty then List.replicate 6 Value.none else pl)).toArray = ts
  have t3:ts[3]? = some (rawInt L):=by rw [← hts]; first | (simp; done) | (rcases hpl with rfl | ⟨_,_,_,_,_,_,_,rfl⟩ <;> simp)
  generalize hO:({ cls:=Value.type "traceback",dict:=none,data:=Data.fields ts }:Obj) = O
  have ge2:(h1.push O).get? e = some { cls:=.ref C,dict:=dct,data:=.fields vs }:=Heap.get?_push_of_some O ge1
  refine wpAny_setField ge2 rfl hsz ?_
  have hTe:h1.objs.size ≠ e:=Nat.ne_of_gt (Heap.lt_size ge1)
  have sz1:h1.objs.size = s.heap.objs.size:=z1
  refine q _ h1.objs.size (Nat.le_of_eq sz1.symm) ⟨vs.setIfInBounds 1 (.ref h1.objs.size),?_,by simp [hsz]⟩ ⟨O,ts,?_,by rw [← hO],t3⟩ ⟨fun b o n1 n2 z=>?_,fun b o n z=>?_,?_⟩
  · exact Heap.get?_update_self (Obj.mapFields (·.setIfInBounds 1 (Value.ref h1.objs.size))) ge2 rfl
  · refine (Heap.get?_update_ne _ _ _ _ hTe).trans (Heap.get?_push_size h1 ?_)
    rw [← hO]; rfl
  · have hb:b ≠ e:=by simpa using n2
    exact (Heap.get?_update_ne _ _ _ _ hb).trans (Heap.get?_push_of_some O ((z2 b n1).trans z))
  · have hb:b ≠ e:=by simpa using n
    obtain ⟨sl,y⟩:=z3 b o z
    exact ⟨sl,(Heap.get?_update_ne _ _ _ _ hb).trans (Heap.get?_push_of_some O y)⟩
  · rw [Heap.size_update,Heap.size_push,sz1]; exact Nat.le_succ _
theorem note_first {Q:Unit→Shared→Prop} (hfr:A.frames = some (env :: outer)) (hl:s.heap.FunFrames base (env :: outer)) (hf:env.frame = some L) (he:Err s.heap e C dct .none)
    (q:∀ h' T,s.heap.objs.size ≤ T→Err h' e C dct (.ref T)→Tbk h' T (rawInt L)→Turned (frs (env :: outer)) [e] s.heap h'→Q () { s with heap:=h' }):wpAny M A (noteFrame (.ref e) env) Q E s:=by
  obtain ⟨vs,ge,g1⟩:=id he
  unfold noteFrame
  simp only [hf]
  refine wpAny_bind (wpAny_field ge rfl g1 ?_)
  rw [if_neg (show ¬ ((Value.none != Value.none) = true) by decide)]
  exact new_entry hfr hl hf he q
theorem note_next {Q:Unit→Shared→Prop} (hfr:A.frames = some (env :: outer)) (hl:s.heap.FunFrames base (env :: outer)) (hf:env.frame = some L) (he:Err s.heap e C dct (.ref T)) (ht:Tbk s.heap T .none) (hTe:T ≠ e)
    (q:∀ h' T',s.heap.objs.size ≤ T'→Err h' e C dct (.ref T')→Tbk h' T' (rawInt L)→Turned (frs (env :: outer)) [T,e] s.heap h'→Q () { s with heap:=h' }):wpAny M A (noteFrame (.ref e) env) Q E s:=by
  obtain ⟨vs,ge,g1⟩:=id he
  obtain ⟨oT,ts,gt,dt,t3⟩:=ht
  unfold noteFrame
  simp only [hf]
  refine wpAny_bind (wpAny_field ge rfl g1 ?_)
  rw [if_pos (show (Value.ref T != Value.none) = true by simp)]
  refine wpAny_bind (wpAny_field gt dt t3 ?_)
  rw [if_neg (show ¬ ((Value.none == rawInt L) = true) by simp [rawInt])]
  refine wpAny_bind (wpAny_setField gt dt (Array.getElem?_eq_some_iff.mp t3).1 ?_)
  have tu:Turned (frs (env :: outer)) [T] s.heap (s.heap.update T (Obj.mapFields (·.setIfInBounds 3 Value.none))):=turned_upd
  refine new_entry (s:={ s with heap:=s.heap.update T (Obj.mapFields (·.setIfInBounds 3 Value.none)) }) hfr (hl.of_keeps fun b o z nf=>?_) hf ⟨vs,(Heap.get?_update_ne _ _ _ _ hTe.symm).trans ge,g1⟩ fun h' T' z1 z2 z3 z4=>q h' T' (Nat.le_trans tu.size z1) z2 z3 (tu.trans z4)
  refine ⟨o,(Heap.get?_update_ne _ _ _ _ fun y=>?_).trans z,rfl⟩
  rw [y,gt] at z; cases z
  exact nf ts dt
theorem flight_off {fl:Value} {Q:Unit→Shared→Prop} (he:Err s.heap e C dct (.ref T)) (ht:Tbk s.heap T fl) (hTe:T ≠ e)
    (q:∀ h',Err h' e C dct (.ref T)→Tbk h' T .none→Turned [] [T] s.heap h'→Q () { s with heap:=h' }):wpAny M A (setFlight (.ref e) none) Q E s:=by
  obtain ⟨vs,ge,g1⟩:=he
  obtain ⟨oT,ts,gt,dt,t3⟩:=ht
  have h3:=(Array.getElem?_eq_some_iff.mp t3).1
  unfold setFlight
  refine wpAny_bind (wpAny_field ge rfl g1 ?_)
  rw [if_pos (show (Value.ref T != Value.none) = true by simp)]
  refine wpAny_setField gt dt h3 (q _ ⟨vs,(Heap.get?_update_ne _ _ _ _ hTe.symm).trans ge,g1⟩ ⟨_,ts.setIfInBounds 3 .none,Heap.get?_update_self _ gt (Obj.isFreed_of_fields (Obj.data_mapFields dt _)),Obj.data_mapFields dt _,by simp [h3]⟩ turned_upd)
end
end L3
namespace L3
open PySem PySem.W PySem.Spec PyProof.Rows L2
section
variable {M:Model} {A:Around} {E:Value→Shared→Prop} {s:Shared} {base:Heap} {env:Env} {outer:List Env} {L e C T:Addr} {dct:Option Addr}
theorem Turned.off {fr S:List Addr} {h h1 h2:Heap} (a:Turned fr S h h1) (b:Turned [] [T] h1 h2) (hT:h.objs.size ≤ T):Turned fr S h h2 where
  keep:=fun c o n1 n2 z=>b.keep c o (by simp) (by simpa using Nat.ne_of_lt (Nat.lt_of_lt_of_le (Heap.lt_size z) hT)) (a.keep c o n1 n2 z)
  slot:=fun c o n z=>by
    obtain ⟨sl,z1⟩:=a.slot c o n z
    exact ⟨sl,b.keep c _ (by simp) (by simpa using Nat.ne_of_lt (Nat.lt_of_lt_of_le (Heap.lt_size z) hT)) z1⟩
  size:=Nat.le_trans a.size b.size
noncomputable def Aloft (h:Heap) (e C:Addr) (dct:Option Addr) (S:List Addr):Prop:=(Err h e C dct .none ∧ S = [e]) ∨ ∃ T,Err h e C dct (.ref T) ∧ Tbk h T .none ∧ T ≠ e ∧ S = [T,e]
theorem Aloft.lt {h:Heap} {S:List Addr} (a:Aloft h e C dct S):e < h.objs.size:=by
  rcases a with ⟨⟨vs,g,_⟩,_⟩ | ⟨T,⟨vs,g,_⟩,_⟩ <;> exact Heap.lt_size g
theorem leave_any {S:List Addr} {Q:Unit→Shared→Prop} (hfr:A.frames = some (env :: outer)) (hl:s.heap.FunFrames base (env :: outer)) (hf:env.frame = some L) (ha:Aloft s.heap e C dct S)
    (q:∀ h' T,s.heap.objs.size ≤ T→T ≠ e→Err h' e C dct (.ref T)→Tbk h' T .none→Turned (frs (env :: outer)) S s.heap h'→Q () { s with heap:=h' }):wpAny M A (leaving env (.ref e)) Q E s:=by
  have hlt:=ha.lt
  unfold leaving
  rcases ha with ⟨he,rfl⟩ | ⟨T,he,ht,hTe,rfl⟩
  · refine wpAny_bind (note_first hfr hl hf he fun h1 T z1 z2 z3 z4=>?_)
    have hne:T ≠ e:=Nat.ne_of_gt (Nat.lt_of_lt_of_le hlt z1)
    exact flight_off (s:={ s with heap:=h1 }) z2 z3 hne fun h2 y1 y2 y3=>q h2 T z1 hne y1 y2 (z4.off y3 z1)
  · refine wpAny_bind (note_next hfr hl hf he ht hTe fun h1 T' z1 z2 z3 z4=>?_)
    have hne:T' ≠ e:=Nat.ne_of_gt (Nat.lt_of_lt_of_le hlt z1)
    exact flight_off (s:={ s with heap:=h1 }) z2 z3 hne fun h2 y1 y2 y3=>q h2 T' z1 hne y1 y2 (z4.off y3 z1)
end
theorem hok_turned {P:Program} {w:World} {H:Hp} {h h':Heap} {fr S:List Addr} (ok:HOk P w H h) (t:Turned fr S h h') (n1:∀ b ∈ fr,H b = none) (n2:∀ b ∈ S,H b = none):HOk P w H h':=fun b u z=>by
  refine (ok b u z).stay (fun c v hc q=>t.keep c v (fun y=>?_) (fun y=>?_) q) (fun _ q=>q) fun _ _ q=>q
  · rcases hc with rfl | hc
    · rw [n1 _ y] at z; cases z
    · rw [n1 _ y] at hc; cases hc
  · rcases hc with rfl | hc
    · rw [n2 _ y] at z; cases z
    · rw [n2 _ y] at hc; cases hc
noncomputable def Flds (lo:Nat) (dct:Option Addr) (mF:Str→Option Value) (S:List Addr) (H:Hp) (h:Heap):Prop :=
  (dct = none ∧ ∀ n,mF n = none) ∨ ∃ dx,dct = some dx ∧ dx ∉ S ∧ lo ≤ dx ∧ H dx = none ∧ h.Ns1 dx mF
noncomputable def Fly (lo:Nat) (e C:Addr) (mF:Str→Option Value) (H:Hp) (h:Heap):Prop :=
  ∃ dct T,Err h e C dct (.ref T) ∧ Tbk h T .none ∧ T ≠ e ∧ lo ≤ e ∧ lo ≤ T ∧ H e = none ∧ H T = none ∧ Flds lo dct mF [T,e] H h
noncomputable def CXe (P:Program) (w:World):CXT:=fun outer H s E ev s'=>∃ (e:Addr) (H':Hp) (C:Addr) (ps:List Str) (us:List Value) (vs:List V),ev = .ref e ∧ s'.os = s.os ∧ AllBare s'.gens ∧ Un (frs outer) [] H H' s.heap s'.heap ∧ HOk P w H' s'.heap ∧
  Vals vs us ∧ Fly s.heap.objs.size e C (fMap ps us) H' s'.heap ∧ E (.ref C) (some e) (upd H' e (.xd (ps.zip vs)))
structure Goes (X:Cx) (E:XK):Prop where
  stk:X.stack = X.env :: X.outer
  fr:X.env.frame = some X.env.locals
  ex:X.ex = []
  xe:∀ e s',wpAny (model X.prog X.w) X.A (leaving X.env e) (fun _ s''=>CXe X.prog X.w X.outer X.H₀ X.s₀ E e s'') (fun e' s''=>CXe X.prog X.w X.outer X.H₀ X.s₀ E e' s'') s'→X.xe e s'
theorem goes_of {P:Program} {w:World} {K:Frag} {mg:Str→Option Value} {base:Heap} {N:List Str} {qual:Str} {scope:Scope} {f:Addr} {cd:Value} {A:Around} {outer:List Env} {s:Shared} {H:Hp} {E:XK} :
    Goes (cxOf (CXe P w) P w K mg base N qual scope f cd A outer s H E) E:=⟨rfl,rfl,rfl,fun _ _ h=>h⟩
section
variable {X:Cx} {E:XK} {pins:List (Addr × Obj)} {σ:St} {H:Hp} {s:Shared}
theorem out_of (G:Goes X E) (I:Inv X pins σ H s) {e C:Addr} {dct:Option Addr} {S:List Addr} {ps:List Str} {us:List Value} {vs:List V} (ha:Aloft s.heap e C dct S) (hS:∀ b ∈ S,X.s₀.heap.objs.size ≤ b ∧ H b = none ∧ b ∉ frs X.stack)
    (hF:Flds X.s₀.heap.objs.size dct (fMap ps us) S H s.heap) (hd:∀ dx,dct = some dx→dx ∉ frs X.stack) (r:Vals vs us) (q:E (.ref C) (some e) (upd H e (.xd (ps.zip vs)))):X.xe (.ref e) s:=by
  refine G.xe _ _ ?_
  have hfr:=I.ok.frames
  have hl:=I.stack
  have hfree:=I.stkFree
  rw [G.stk] at hfr hl hfree hd hS
  have heS:e ∈ S:=by rcases ha with ⟨_,rfl⟩ | ⟨T,_,_,_,rfl⟩ <;> simp
  have ha':=ha
  refine leave_any (base:=X.base) hfr hl G.fr ha fun h' T z1 z2 z3 z4 z5=>?_
  have out:∀ b o,X.s₀.heap.get? b = some o→b ∉ S:=fun b o y z=>absurd (Heap.lt_size y) (Nat.not_lt.mpr (hS b z).1)
  have nL:∀ b o,X.s₀.heap.get? b = some o→b ∉ X.fs→b ∉ frs (X.env :: X.outer):=fun b o y n z=>by
    unfold frs at z
    rw [List.filterMap_cons,G.fr] at z
    rcases List.mem_cons.mp z with rfl | z
    · exact absurd (Heap.lt_size y) (Nat.not_lt.mpr I.ok.above)
    · exact n z
  have bs:=I.base
  rw [G.ex] at bs
  refine ⟨e,H,C,ps,us,vs,rfl,I.os,I.bare,⟨fun b o y n hb _=>z5.keep b o (nL b o y hb) (out b o y) (bs.keep b o y n hb (by simp)),fun b o y n hb _=>?_,fun b o y n _=>bs.free b o y n (by simp),fun b o y _=>?_,bs.tups,bs.frzs,bs.tbls⟩,hok_turned I.hok z5 hfree fun b hb=>(hS b hb).2.1,r,
    ⟨dct,T,z3,z4,z2,(hS e heS).1,Nat.le_trans I.sz z1,(hS e heS).2.1,I.hok.fresh z1,?_⟩,q⟩
  · obtain ⟨sl,y1⟩:=bs.slot b o y n hb (by simp)
    obtain ⟨sl2,y2⟩:=z5.slot b _ (out b o y) y1
    exact ⟨sl2,y2⟩
  · obtain ⟨o',y1⟩:=bs.there b o y (by simp)
    obtain ⟨sl,y2⟩:=z5.slot b _ (out b o y) y1
    exact ⟨_,y2⟩
  · rcases hF with hF | ⟨dx,rfl,n1,n2,n3,n4⟩
    · exact .inl hF
    · have hdl:dx < s.heap.objs.size:=n4.ns.lt
      refine .inr ⟨dx,rfl,fun z=>?_,n2,n3,n4.at fun o y=>z5.keep dx o (hd dx rfl) n1 y⟩
      simp only [List.mem_cons,List.not_mem_nil,or_false] at z
      rcases z with z | z
      · exact absurd hdl (by rw [z]; exact Nat.not_lt.mpr z1)
      · exact n1 (by rw [z]; exact heS)
theorem asks_of (G:Goes X E) {C:Addr} {ps:List Str}:Asks X C ps fun vs H=>∀ e,H e = none→E (.ref C) (some e) (upd H e (.xd (ps.zip vs))):=fun pins σ H s e h' tk us vs I r M w=>by
  obtain ⟨t,dct,ge,z⟩:=M.obj
  have I':Inv X pins σ H { s with heap:=h',toks:=tk }:=I.kept M.keeps
  have fre:∀ b,s.heap.objs.size ≤ b→b ∉ frs X.stack:=fun b hb hm=>by
    obtain ⟨_,o,ho,_⟩:=I.stack.mem hm
    exact absurd (Heap.lt_size ho) (Nat.not_lt.mpr hb)
  refine out_of G I' (C:=C) (dct:=dct) (S:=[e]) (ps:=ps) (us:=us) (vs:=vs) (.inl ⟨⟨_,ge,rfl⟩,rfl⟩) (fun b hb=>?_) ?_ (fun dx hdx=>?_) r (w e (I.hok.fresh M.new))
  · rw [List.mem_singleton.mp hb]
    exact ⟨Nat.le_trans I.sz M.new,I.hok.fresh M.new,fre e M.new⟩
  · rcases z with z | ⟨dx,z1,z2,z3,z4⟩
    · exact .inl z
    · exact .inr ⟨dx,z1,by simpa using z2,Nat.le_trans I.sz z3,I.hok.fresh z3,z4⟩
  · rcases z with z | ⟨dy,z1,z2,z3,z4⟩
    · rw [z.1] at hdx; cases hdx
    · rw [z1] at hdx; cases hdx; exact fre _ z3
theorem passes_of (G:Goes X E):Passes (CXe X.prog X.w) X E:=fun pins σ H s ev s' I z=>by
  obtain ⟨e,H',C,ps,us,vs,rfl,os,bare,un,hok,r,⟨dct,T,y1,y2,y3,y4,y5,y6,y7,y8⟩,q⟩:=z
  have I':Inv X pins σ H' s':=I.call' (ch:=[]) os un hok bare fun b hb=>absurd hb (by simp)
  have fre:∀ b,s.heap.objs.size ≤ b→b ∉ frs X.stack:=fun b hb hm=>by
    obtain ⟨_,o,ho,_⟩:=I.stack.mem hm
    exact absurd (Heap.lt_size ho) (Nat.not_lt.mpr hb)
  refine out_of G I' (C:=C) (dct:=dct) (S:=[T,e]) (ps:=ps) (us:=us) (vs:=vs) (.inr ⟨T,y1,y2,y3,rfl⟩) (fun b hb=>?_) ?_ (fun dx hdx=>?_) r q
  · simp only [List.mem_cons,List.not_mem_nil,or_false] at hb
    rcases hb with rfl | rfl
    · exact ⟨Nat.le_trans I.sz y5,y7,fre _ y5⟩
    · exact ⟨Nat.le_trans I.sz y4,y6,fre _ y4⟩
  · rcases y8 with y8 | ⟨dx,z1,z2,z3,z4,z5⟩
    · exact .inl y8
    · exact .inr ⟨dx,z1,z2,Nat.le_trans I.sz z3,z4,z5⟩
  · rcases y8 with y8 | ⟨dy,z1,z2,z3,z4,z5⟩
    · rw [y8.1] at hdx; cases hdx
    · rw [z1] at hdx; cases hdx; exact fre _ z3
end
end L3
namespace L3
open PySem PySem.W PySem.Spec PyProof.Rows L2
open Builtin Builtin.ObjectAttr
structure ECat (K:Frag) (C:Addr):Prop where
  ga:findIn K (.ref C) "__getattribute__" = some (some (.builtin "BaseException.__getattribute__"))
  gn:findIn K (.ref C) "__getattr__" = some none
  mb:mroIn K C (.type "BaseException") = some true
  mo:mroIn K C (.type "object") = some true
  ca:findIn K (.ref C) "__class__" = some (some (.builtin "object.__class__"))
  cg:specialIn K (.builtin "object.__class__") "__get__" = some (some (.builtin "getset_descriptor.__get__"))
  ct:takesIn K (.builtin "object.__class__") = some true
section
variable {prog:Program} {w:World} {A:Around} {E:Value→Shared→Prop} {K:Frag} {C e:Addr} {oe:Obj} {od:Option Obj} {s:Shared} {name:Str} {tk:Tok}
theorem exc_gaCall {r:Found} {R:Result→Shared→Prop} (c:ECat K C) (X:K.In s.heap) (I:InstAt s.heap e oe C od) (hf:findObj K C od name = some r) (hr:r ≠ .missing)
    (h:∀ A',wpAny (model prog w) A' (match r with | .value v=>ret v | .bind g a=>bindTo g a (.ref e) (.ref C) | .missing=>ret .none) (fun fin s'=>match fin with | .done z=>R (.ok z) s' | _=>False) (fun x s'=>R (.error x) s') s) :
    codeAny (model prog w) A (.call (.builtin "BaseException.__getattribute__") ⟨[.ref e,.str name tk],[]⟩) R s:=by
  obtain ⟨hp,g,d,t,os⟩:=s
  have FB:=PySem.F.attrBase_ValueError
  have ty:=I.type (M:=model prog w)
  have L1:=looks_find (M:=model prog w) X I hf
  have L2:=looks_mroIn (M:=model prog w) X c.mb
  refine codeAny_call_builtin FB.ga.plain PySem.F.entry_bexc_ga ?_
  have hk:builtinKind "BaseException.__getattribute__" = some .slot:=by decide +kernel
  have hsp:splitId "BaseException.__getattribute__" = some ("BaseException","__getattribute__"):=by decide +kernel
  have ha:=PySem.F.args_bexc_ga (.ref e) (.str name tk)
  have inst:Looks (model prog w) hp (isInstance (.ref e) (.type "BaseException")) true:=ty.andThen L2
  simp only [checkBuiltinCall,hk,hsp]
  refine wpAny_bind (inst.at ?_)
  simp only [Bool.not_true,Bool.false_eq_true,if_false]
  unfold argsOk at ha
  generalize Manifest.signature? "BaseException.__getattribute__" = sg at ha ⊢
  suffices hgo:wpAny (model prog w) A.in1 (Builtin.«object.__getattribute__» { pos:=[Value.ref e,Value.str name tk] }) (fun fin s'=>match fin with | .done f=>R (.ok f) s' | .again c'=>c'.quiet = true ∧ codeAny (model prog w) A c' R s') (fun e s'=>R (.error e) s') ⟨hp,g,d,t,os⟩ by
    cases sg with
    | none=>exact wpAny_pure hgo
    | some sig =>
      have ha':Bind.checkArgs "BaseException.__getattribute__" sig { pos:=[Value.ref e,Value.str name tk] } = pure ():=ha
      show wpAny _ _ (Bind.checkArgs "BaseException.__getattribute__" sig { pos:=[Value.ref e,Value.str name tk] }) _ _ _
      rw [ha']
      exact wpAny_pure hgo
  unfold Builtin.«object.__getattribute__»
  refine wpAny_bind (wpAny_pure (wpAny_bind (wpAny_pure (wpAny_bind (ty.at (wpAny_bind (L1.at ?_)))))))
  have hz:=h A.in1
  cases r with
  | value v =>
    refine wpAny_mono hz (fun fin s' z=>?_) fun _ _ z=>z
    cases fin <;> first | exact z | exact z.elim
  | bind g a =>
    refine wpAny_mono hz (fun fin s' z=>?_) fun _ _ z=>z
    cases fin <;> first | exact z | exact z.elim
  | missing=>exact absurd rfl hr
theorem exc_by {r:Found} {fill expr:Bool} {Q:Value→Shared→Prop} (c:ECat K C) (X:K.In s.heap) (I:InstAt s.heap e oe C od) (hf:findObj K C od name = some r) (hr:r ≠ .missing)
    (h:∀ A',wpAny (model prog w) A' (match r with | .value v=>ret v | .bind g a=>bindTo g a (.ref e) (.ref C) | .missing=>ret .none) (fun fin s'=>match fin with | .done (.ret z)=>handedIn z = true ∧ Q z s' | _=>False) (fun _ _=>False) s) :
    wpAny (model prog w) A (getAttrBy (.ref e) (.str name tk) fill expr) Q E s:=by
  obtain ⟨hp,g,d,t,os⟩:=s
  have FB:=PySem.F.attrBase_ValueError
  have ty:=I.type (M:=model prog w)
  have L1:=looks_findIn (M:=model prog w) X c.ga
  have L2:=looks_findIn (M:=model prog w) X c.gn
  have f3:=FB.ga.bind (.ref e)
  unfold getAttrBy
  refine wpAny_holding (wpAny_bind (ty.at (wpAny_bind (L1.at ?_))))
  show wpAny _ _ (getAttrByItsOwn _ _ _ _ _ _) _ _ _
  unfold getAttrByItsOwn hookBefore callGetattribute
  refine wpAny_bind (L2.at (wpAny_bind (wpAny_attempt (wpAny_holding ?_))))
  rw [if_neg (show ¬ ((expr && onTheHeap (Value.builtin "BaseException.__getattribute__")) = true) by cases expr <;> decide)]
  unfold boundAndCalled
  rw [f3]
  refine wpAny_bind (wpAny_pure (wpAny_call ?_))
  refine exc_gaCall (s:=⟨hp,g,d,t,os⟩) c X I hf hr fun A'=>wpAny_mono (h A') (fun fin s' z=>?_) fun _ _ z=>z.elim
  cases fin with
  | again _=>exact z.elim
  | done f =>
    cases f with
    | ret z1 =>
      show wpAny _ _ (handedOut z1) _ _ _
      rw [handedOut_of z.1]
      exact wpAny_pure z.2
    | _=>exact z.elim
theorem exc_field {v:Value} {expr:Bool} {Q:Value→Shared→Prop} (c:ECat K C) (X:K.In s.heap) (I:InstAt s.heap e oe C od) (hf:findObj K C od name = some (.value v)) (hv:handedIn v = true) (h:∀ tk,Q v { s with toks:=tk }) :
    wpAny (model prog w) A (getAttr (.ref e) name expr) Q E s:=by
  unfold getAttr
  refine wpAny_bind (wpAny_mkText ?_)
  exact exc_by (s:={ s with toks:=s.toks + 1 }) c X I hf (by simp) fun A'=>wpAny_pure ⟨hv,h _⟩
theorem exc_class {Q:Option Value→Shared→Prop} (c:ECat K C) (X:K.In s.heap) (I:InstAt s.heap e oe C od) (h:Q (some (.ref C)) { s with toks:=s.toks + 1 }) :
    wpAny (model prog w) A (getAttr? (.ref e) "__class__") Q E s:=by
  have hcd:(clsIn K C).isSome = true:=by
    have z:=c.mo
    unfold mroIn at z
    cases q:clsIn K C with
    | none=>rw [q] at z; cases z
    | some cd=>rfl
  have hf:findObj K C od "__class__" = some (.bind (.builtin "getset_descriptor.__get__") (.builtin "object.__class__")):=by
    obtain ⟨cd,hc⟩:=Option.isSome_iff_exists.mp hcd
    simp only [findObj,hc,c.ca,c.cg,c.ct,Option.bind_some]
  unfold getAttr? getAttrBy?
  refine wpAny_bind (wpAny_mkText (wpAny_bind (wpAny_attempt ?_)))
  refine exc_by (s:={ s with toks:=s.toks + 1 }) c X I hf (by simp) fun A'=>?_
  unfold bindTo
  refine wpAny_bind (wpAny_holding (wpAny_call (class_get (s:={ s with toks:=s.toks + 1 }) (ox:=oe) (od:=od) X I c.mo ?_)))
  exact wpAny_pure ⟨rfl,wpAny_pure h⟩
theorem exc_kit (c:ECat K C):KitX K (.ref e) (.ref C) (fun h=>InstAt h e oe C od) where
  ty:=fun _ _ _ I=>I.type
  it:=fun _ _ X _=>by
    have z:=c.mo
    unfold mroIn clsIn at z
    split at z
    · rename_i c' d' cd' sl' ho
      intro A' Q' E' s' k q
      unfold isType loadHead
      exact wpAny_bind (wpAny_loadPart (k _ _ (X _ _ ho)) (wpAny_pure q))
    · cases z
  ne:=fun h tp dd its n sl X htp=>by
    have z:=c.mo
    unfold mroIn clsIn at z
    refine Bool.eq_false_iff.mpr fun q=>?_
    have e:C = tp:=Value.ref.inj (beq_iff_eq.mp q)
    subst e
    split at z
    · rename_i c' d' cd' sl' ho
      cases (X _ _ ho).symm.trans htp
    · cases z
  ca:=fun X I k=>exc_class c X I k
end
end L3
namespace L3
open PySem PySem.W PySem.Spec PyProof.Rows L2
structure Has (X:Cx) (e C:Addr) (fs:List (Str × V)):Prop where
  ob:∃ oe od,(e,oe) ∈ X.pn ∧ oe.cls = .ref C ∧ notCls oe = true ∧
    ((oe.dict = none ∧ od = none ∧ ∀ n,fs.lookup n = none) ∨ ∃ dx o,oe.dict = some dx ∧ od = some o ∧ (dx,o) ∈ X.pn ∧ ∀ n v,fs.lookup n = some v→∃ u,RelV v u ∧ lookIn n o = some (some u))
  cat:ECat X.K C
  hd:hasDictIn X.K C = true
theorem inv_pin {X:Cx} {pins:List (Addr × Obj)} {σ:St} {H:Hp} {s:Shared} (I:Inv X pins σ H s) {p:Addr × Obj} (h:p ∈ X.pn):s.heap.get? p.1 = some p.2:=(I.pin p (List.mem_append_left _ h)).1
theorem handed_v {v:V} {u:Value} (r:RelV v u):handedIn u = true:=by
  cases v <;> first | (cases (show u = _ from r); rfl) | (obtain ⟨t,z⟩:=r; rw [z]; rfl)
section
variable {X:Cx} {e C:Addr} {fs:List (Str × V)} {pins:List (Addr × Obj)} {σ:St} {H:Hp} {s:Shared}
theorem Has.inst (h:Has X e C fs) (I:Inv X pins σ H s):∃ oe od,InstAt s.heap e oe C od ∧ ∀ n v,fs.lookup n = some v→findIn X.K (.ref C) n = some none→∃ u,RelV v u ∧ findObj X.K C od n = some (.value u):=by
  obtain ⟨oe,od,m1,m2,m3,m4⟩:=h.ob
  refine ⟨oe,od,⟨inv_pin I m1,m2,m3,?_⟩,fun n v z na=>?_⟩
  · rcases m4 with ⟨z1,z2,_⟩ | ⟨dx,o,z1,z2,z3,_⟩
    · rw [z1,z2]; trivial
    · rw [z1,z2]; exact inv_pin I z3
  · rcases m4 with ⟨_,_,z3⟩ | ⟨dx,o,z1,z2,z3,z4⟩
    · rw [z3] at z; cases z
    · obtain ⟨u,ru,lu⟩:=z4 n v z
      rw [z2]
      exact ⟨u,ru,findObj_own h.hd na rfl lu⟩
noncomputable def rIsE (K:Frag) (e C:Addr):List V→Hp→VK→Prop:=fun xs H Q=>∃ y b,xs = [.ref e,y] ∧
  ((∃ a,y = .ref a ∧ kitOne K (.ref C) (.ref a) = some b) ∨ (∃ T,y = .ty T ∧ kitOne K (.ref C) (.type T) = some b) ∨ ∃ (a:Addr) (ys:List Addr),y = .ref a ∧ H a = some (.tup (ys.map V.ref)) ∧ kitAny K (.ref C) (ys.map Value.ref) = some b) ∧ Q (.bl b) H
theorem vals_back:∀ {ys:List Addr} {us:List Value},Vals (ys.map V.ref) us→us = ys.map Value.ref
  | [],_,.nil=>rfl
  | y :: ys,_,.cons r t=>by rw [show _ = Value.ref y from r,vals_back t]; rfl
theorem call_isE (h:Has X e C fs):CallR X (.builtin "isinstance") (rIsE X.K e C):=by
  intro pins s σ H xs vs Q I r hh
  obtain ⟨y,b,rfl,hy,q⟩:=hh
  obtain ⟨u,w',rfl,ru,rw'⟩:=vals2 r
  cases (show u = Value.ref e from ru)
  obtain ⟨oe,od,J,_⟩:=h.inst I
  have fin:∀ tk,EP X pins σ Q (.bool b) { s with toks:=tk }:=fun tk=>⟨.bl b,H,I.tok tk,rfl,q⟩
  rcases hy with ⟨a,rfl,k⟩ | ⟨T,rfl,k⟩ | ⟨a,ys,rfl,ha,k⟩
  · cases (show w' = Value.ref a from rw')
    exact kia_one (exc_kit h.cat) I.kIn J k (fun z=>nomatch z) fin
  · cases (show w' = Value.type T from rw')
    exact kia_one (exc_kit h.cat) I.kIn J k (fun z=>nomatch z) fin
  · cases (show w' = Value.ref a from rw')
    obtain ⟨_,its,rv,o,h1,h2,h3⟩:=(show ObjOk X.prog X.w H s.heap a (.tup (ys.map V.ref)) from I.hok a _ ha)
    have ei:=vals_back rv
    subst ei
    obtain ⟨oc,odd,oda,osl⟩:=o
    obtain ⟨n,h3⟩:=h3
    dsimp only at h2 h3
    subst h2 h3
    exact kia_tup (exc_kit h.cat) I.kIn J h1 k (fun z=>nomatch z) fin
noncomputable def tErr (K:Frag) (C:Addr) (fs:List (Str × V)) (e:Addr) (i:Nat) (f:Str):TE:=fun σ H Q=>σ[i]? = some (some (.ref e)) ∧ findIn K (.ref C) f = some none ∧ ∃ v,fs.lookup f = some v ∧ Q v H
theorem pe_err {i:Nat} {x f:Str} {px pos:Pos} (h:Has X e C fs) (hN:X.N[i]? = some x) (hv:Vis X.env.scope x) (hb:attributeBase (.Name x px) f X.env (eval (.Name x px) X.env) = eval (.Name x px) X.env:=by rfl)
    (hd:(x == ("__debug__":Str)) = false:=by decide) (hcd:(x == ("__classdict__":Str)) = false:=by decide):PE X (.Attribute (.Name x px) f pos) (tErr X.K C fs e i f):=by
  intro pins s σ H Q I hh
  obtain ⟨h1,na,v,h2,q⟩:=hh
  refine attr_of hb (thn (pe_var (pos:=px) hN hv hd hcd pins s σ H (fun y H'=>y = .ref e ∧ H' = H) I ⟨_,h1,rfl,rfl⟩) fun u s1 ⟨y,H1,I1,ry,ey,eH⟩=>?_)
  subst ey eH
  cases (show u = Value.ref e from ry)
  obtain ⟨oe,od,J,hf⟩:=h.inst I1
  obtain ⟨u',ru,fo⟩:=hf f v h2 na
  exact exc_field h.cat I1.kIn J fo (handed_v ru) fun tk=>⟨v,H1,I1.tok tk,ru,q⟩
end
end L3
namespace L3
open PySem PySem.W PySem.Spec PyProof.Rows L2
section
variable {X:Cx} {pins:List (Addr × Obj)} {σ:St} {H:Hp} {s:Shared}
theorem inv_aside {S:List Addr} {h':Heap} (I:Inv X pins σ H s) (t:Turned (frs X.stack) S s.heap h')
    (hS:∀ b ∈ S,H b = none ∧ (b ∈ X.ex ∨ X.s₀.heap.objs.size ≤ b) ∧ b ≠ X.env.locals ∧ (∀ x c,X.env.cells.lookup x = some c→c ≠ b) ∧ ∀ p ∈ X.pn ++ pins,p.1 ≠ b):Inv X pins σ H { s with heap:=h' } :=
  I.call' (ch:=S) rfl ⟨fun b o z n hb hx=>t.keep b o hb hx z,fun b o z n hb hx=>t.slot b o hx z,fun _ _ _ n _=>n,fun b o z hx=>(let ⟨sl,q⟩:=t.slot b o hx z; ⟨_,q⟩),fun _ _ z=>z,fun _ _ _ z=>z,fun b ps z=>⟨#[],by simp [z]⟩⟩
    (hok_turned I.hok t I.stkFree fun b hb=>(hS b hb).1) I.bare fun b hb=>(hS b hb).2
noncomputable abbrev inTry (X:Cx) (pn:List (Addr × Obj)) (xe:Value→Shared→Prop):Cx:={ X with pn:=pn,xe:=xe }
noncomputable abbrev inSuite (X:Cx) (e:Addr) (pn:List (Addr × Obj)) (xe:Value→Shared→Prop):Cx:={ X with A:=X.A.mark (some (.ref e)),calm:=false,pn:=pn,xe:=xe }
theorem ok_try {pn:List (Addr × Obj)} {xe:Value→Shared→Prop} (k:X.Ok):(inTry X pn xe).Ok:=⟨k.mod,k.kind,k.glob,k.blt,k.above,k.inj,k.has,k.cab,k.hd,k.frames,k.stk,k.exf,k.bs,k.bsz,k.noex,k.exfs,k.funs,k.frf⟩
theorem ok_suite {e:Addr} {pn:List (Addr × Obj)} {xe:Value→Shared→Prop} (k:X.Ok):(inSuite X e pn xe).Ok:=⟨k.mod,k.kind,k.glob,k.blt,k.above,k.inj,k.has,k.cab,(fun z=>nomatch z),k.frames,k.stk,k.exf,k.bs,k.bsz,k.noex,k.exfs,k.funs,k.frf⟩
theorem inv_try {pn pins':List (Addr × Obj)} {xe:Value→Shared→Prop} (I:Inv X pins σ H s) (hp:∀ p ∈ pn ++ pins',s.heap.get? p.1 = some p.2 ∧ H p.1 = none ∧ p.1 ≠ X.env.locals ∧ p.1 ∉ X.fs ∧ ∀ v,p.2.data ≠ .cell v):Inv (inTry X pn xe) pins' σ H s :=
  ⟨ok_try I.ok,I.os,I.bare,I.base,I.loc,I.cell,I.free,I.freeC,hp,I.hok,I.len⟩
theorem inv_untry {pn pins':List (Addr × Obj)} {xe:Value→Shared→Prop} (k:X.Ok) (I:Inv (inTry X pn xe) pins' σ H s) (hp:∀ p ∈ X.pn ++ pins,p ∈ pn):Inv X pins σ H s :=
  ⟨k,I.os,I.bare,I.base,I.loc,I.cell,I.free,I.freeC,fun p z=>I.pin p (List.mem_append_left _ (hp p z)),I.hok,I.len⟩
theorem inv_suite {e:Addr} {pn pins':List (Addr × Obj)} {xe:Value→Shared→Prop} (I:Inv X pins σ H s) (hp:∀ p ∈ pn ++ pins',s.heap.get? p.1 = some p.2 ∧ H p.1 = none ∧ p.1 ≠ X.env.locals ∧ p.1 ∉ X.fs ∧ ∀ v,p.2.data ≠ .cell v):Inv (inSuite X e pn xe) pins' σ H s :=
  ⟨ok_suite I.ok,I.os,I.bare,I.base,I.loc,I.cell,I.free,I.freeC,hp,I.hok,I.len⟩
theorem inv_unsuite {e:Addr} {pn pins':List (Addr × Obj)} {xe:Value→Shared→Prop} (k:X.Ok) (I:Inv (inSuite X e pn xe) pins' σ H s) (hp:∀ p ∈ X.pn ++ pins,p ∈ pn):Inv X pins σ H s :=
  ⟨k,I.os,I.bare,I.base,I.loc,I.cell,I.free,I.freeC,fun p z=>I.pin p (List.mem_append_left _ (hp p z)),I.hok,I.len⟩
theorem name_goes {M:Model} {A:Around} {E:Value→Shared→Prop} {x:Str} {i:Nat} {pos:Pos} {Q:Unit→Shared→Prop} (I:Inv X pins σ H s) (hN:X.N.Nodup) (hi:X.N[i]? = some x) (hx:X.env.scope.names.lookup x = some .local)
    (h:∀ s',Inv X pins (σ.set i none) H s'→Q () s'):wpAny M A (do bindName X.env x .none; unbindBehindTheSuite X.env x pos) Q E s:=by
  obtain ⟨m,hn,hl⟩:=id I.loc
  have hcls:(X.env.scope.kind == .class || (X.env.scope.kind == .module && X.env.locals != X.env.globals)) = false:=by rw [I.ok.kind]; rfl
  refine wpAny_nameGoes_keeps hx hn hcls fun h' v hn' same=>h _ ?_
  have bel:∀ b o,X.s₀.heap.get? b = some o→b ≠ X.env.locals:=fun b o z=>Nat.ne_of_lt (Nat.lt_of_lt_of_le (Heap.lt_size z) I.ok.above)
  obtain ⟨oL,_,_,hoL,_⟩:=id hn
  refine ⟨I.ok,I.os,I.bare,⟨fun b o z n hb hx=>(same.2 b (bel b o z)).trans (I.base.keep b o z n hb hx),fun b o z n hb hx=>?_,I.base.free,fun b o z hx=>?_,I.base.tups,I.base.frzs,I.base.tbls⟩,
    ⟨_,hn',fun j y v' e1 e2 e3=>?_⟩,fun y c z=>?_,I.free,I.freeC,fun p hp=>?_,fun b ob z=>?_,by simpa using I.len⟩
  · obtain ⟨sl,q⟩:=I.base.slot b o z n hb hx
    exact ⟨sl,(same.2 b (bel b o z)).trans q⟩
  · obtain ⟨o',q⟩:=I.base.there b o z hx
    exact ⟨o',(same.2 b (bel b o z)).trans q⟩
  · by_cases hj:j = i
    · subst hj
      have hlt:j < σ.length:=by rw [I.len]; exact (List.getElem?_eq_some_iff.mp hi).1
      rw [List.getElem?_set_self hlt] at e2
      cases e2
    · rw [List.getElem?_set_ne (Ne.symm hj)] at e2
      obtain ⟨u',r',q⟩:=hl j y v' e1 e2 e3
      refine ⟨u',r',?_⟩
      rcases q with ⟨k,q⟩ | ⟨k,c,q,z⟩
      · have hy:y ≠ x:=fun z=>hj (nodup_ix hN e1 (z ▸ hi))
        exact .inl ⟨k,by simp [hy,q]⟩
      · exact .inr ⟨k,c,q,z.sameBut same (I.cne y c q)⟩
  · obtain ⟨w',q⟩:=I.cell y c z
    exact ⟨w',q.sameBut same (I.cne y c z)⟩
  · obtain ⟨q,n,ne,nf,dd⟩:=I.pin p hp
    exact ⟨(same.2 p.1 ne).trans q,n,ne,nf,dd⟩
  · refine (I.hok b ob z).stay (fun c w' hc q=>(same.2 c ?_).trans q) (fun _ q=>q) fun _ _ q=>q
    rintro rfl
    rcases hc with rfl | hc
    · rw [I.free] at z; cases z
    · rw [I.free] at hc; cases hc
theorem zip_at:∀ {ps:List Str} {vs:List V} {us:List Value} {n:Str} {v:V},Vals vs us→(ps.zip vs).lookup n = some v→∃ u,RelV v u ∧ fMap ps us n = some u
  | [],_,_,_,_,_,h=>by simp at h
  | _ :: _,[],_,_,_,_,h=>by simp at h
  | p :: ps,w :: vs,_,n,v,.cons r t,h=>by
    rw [List.zip_cons_cons,List.lookup_cons] at h
    by_cases hn:n = p
    · subst hn
      rw [show (n == n) = true from beq_self_eq_true n] at h
      cases h
      exact ⟨_,r,by simp [fMap]⟩
    · rw [show (n == p) = false from beq_eq_false_iff_ne.mpr hn] at h
      obtain ⟨u,ru,lu⟩:=zip_at (ps:=ps) t h
      exact ⟨u,ru,by rw [fMap,if_neg hn]; exact lu⟩
variable {x wt:Str} {i:Nat} {b₀:Stmt} {suite:List Stmt} {pw hpos:Pos} {Wt:Addr} {tsu:Addr→Addr→List (Str × V)→TS} {ok:Addr→Prop}
theorem caught {E:XK} {D:Ends} {ev:Value} {s':Shared} (hstk:X.stack = X.env :: X.outer) (hfr:X.env.frame = some X.env.locals) (hN:X.N.Nodup) (hi:X.N[i]? = some x) (hx:X.env.scope.names.lookup x = some .local)
    (hg:Gl X wt) (hW:X.mg wt = some (.ref Wt)) (hwd:(wt == ("__debug__":Str)) = false) (hok:∀ C,ok C→ECat X.K C ∧ hasDictIn X.K C = true ∧ exmOne X.K (.ref C) (.ref Wt) = some true)
    (hsuite:∀ e C fs pn xe,ok C→Has (inSuite X e pn xe) e C fs→PSs (inSuite X e pn xe) (b₀ :: suite) (tsu e C fs))
    (hE:∀ C e fs H',E (.ref C) (some e) (upd H' e (.xd fs))→H' e = none→ok C ∧ tsu e C fs { nx:=fun σ' H'=>D.nx (σ'.set i none) H',rt:=fun _ _=>False } (σ.set i (some (.ref e))) H')
    (I:Inv X pins σ H s) (z:CXe X.prog X.w X.stack H s E ev s') :
    wpAny (model X.prog X.w) X.A (noteFrame ev X.env) (fun _ s2=>wpAny (model X.prog X.w) X.A (setFlight ev none) (fun _ s3=>wpAny (model X.prog X.w) X.A (handleBy ev X.env [.ExceptHandler (some (.Name wt pw)) (some x) (b₀ :: suite) hpos]) (SP X pins D) X.xe s3) X.xe s2) X.xe s':=by
  obtain ⟨e,H',C,ps,us,vs,rfl,os,bare,un,hok',r,⟨dct,T,y1,y2,y3,y4,y5,y6,y7,y8⟩,q⟩:=z
  have I':Inv X pins σ H' s':=I.call' (ch:=[]) os un hok' bare fun b hb=>absurd hb (by simp)
  obtain ⟨okC,ts⟩:=hE C e _ H' q y6
  obtain ⟨cat,hdC,hm⟩:=hok C okC
  have hl:=I'.stack
  have hfs:=I'.ok.frames
  rw [hstk] at hl hfs
  have apart:∀ b,s.heap.objs.size ≤ b→(b ∈ X.ex ∨ X.s₀.heap.objs.size ≤ b) ∧ b ≠ X.env.locals ∧ (∀ x c,X.env.cells.lookup x = some c→c ≠ b) ∧ ∀ p ∈ X.pn ++ pins,p.1 ≠ b:=fun b hb =>
    ⟨.inr (Nat.le_trans I.sz hb),Nat.ne_of_gt (Nat.lt_of_lt_of_le I.lt hb),fun y c hc=>by obtain ⟨v,o,ho,_⟩:=I.cell y c hc; exact Nat.ne_of_lt (Nat.lt_of_lt_of_le (Heap.lt_size ho) hb),fun p hp=>Nat.ne_of_lt (Nat.lt_of_lt_of_le (Heap.lt_size (I.pin p hp).1) hb)⟩
  have big:s.heap.objs.size ≤ s'.heap.objs.size:=Nat.le_trans y4 (Nat.le_of_lt (by obtain ⟨_,g,_⟩:=y1; exact Heap.lt_size g))
  refine note_next (base:=X.base) hfs hl hfr y1 y2 y3 fun h1 T1 z1 z2 z3 z4=>?_
  rw [← hstk] at z4
  have hT1:T1 ≠ e:=Nat.ne_of_gt (Nat.lt_of_lt_of_le (by obtain ⟨_,g,_⟩:=y1; exact Heap.lt_size g) z1)
  have I1:Inv X pins σ H' { s' with heap:=h1 }:=inv_aside I' z4 fun b hb=>by
    simp only [List.mem_cons,List.not_mem_nil,or_false] at hb
    rcases hb with rfl | rfl
    · exact ⟨y7,apart _ y5⟩
    · exact ⟨y6,apart _ y4⟩
  have nT1:H' T1 = none:=I'.hok.fresh z1
  have side:∀ {ha hb:Heap},Inv X pins σ H' { s' with heap:=ha }→Turned [] [T1] ha hb→Inv X pins σ H' { s' with heap:=hb }:=fun {ha hb} Ia tu=>inv_aside (s:={ s' with heap:=ha }) Ia ⟨fun b o _ n2 zz=>tu.keep b o (by simp) n2 zz,tu.slot,tu.size⟩ fun b hb=>by
    rw [List.mem_singleton.mp hb]
    exact ⟨nT1,apart _ (Nat.le_trans big z1)⟩
  refine flight_off (s:={ s' with heap:=h1 }) z2 z3 hT1 fun h2 w1 w2 w3=>?_
  have I2:=side I1 w3
  refine wpAny_handleBy_cons (codeAny_handlers_test ?_) (by intro q; cases q)
  have J2:Inv (inSuite X e [] fun _ _=>False) [] σ H' { s' with heap:=h2 }:=inv_suite I2 (by simp)
  refine ld_glob J2 hg hW ?_ hwd
  have LT:Looks (model X.prog X.w) h2 (typeOf (.ref e)) (.ref C):=by obtain ⟨_,g,_⟩:=w1; exact (Looks.ld g).andThen .now
  refine (exm_one (M:=model X.prog X.w) (h:=h2) I2.kIn LT hm).at ?_
  refine codeAny_handlers_suite_as (flight_off (s:={ s' with heap:=h2 }) w1 w2 hT1 fun h3 v1 v2 v3=>?_)
  have I3:=side I2 v3
  obtain ⟨fv,ge,g1⟩:=v1
  have pinned:∀ p ∈ X.pn ++ pins,h3.get? p.1 = some p.2 ∧ H' p.1 = none ∧ p.1 ≠ X.env.locals ∧ p.1 ∉ X.fs ∧ ∀ v,p.2.data ≠ .cell v:=I3.pin
  have pinE:h3.get? e = some { cls:=.ref C,dict:=dct,data:=.fields fv } ∧ H' e = none ∧ e ≠ X.env.locals ∧ e ∉ X.fs ∧ ∀ v,(Data.fields fv) ≠ .cell v:=⟨ge,y6,(apart e y4).2.1,I.nofs y4,fun _ z=>nomatch z⟩
  have go:∀ pn,(∀ p ∈ X.pn ++ pins,p ∈ pn)→(∀ p ∈ pn ++ [],h3.get? p.1 = some p.2 ∧ H' p.1 = none ∧ p.1 ≠ X.env.locals ∧ p.1 ∉ X.fs ∧ ∀ v,p.2.data ≠ .cell v)→Has (inSuite X e pn fun _ _=>False) e C (ps.zip vs) →
      wpAny (model X.prog X.w) (X.A.mark (some (.ref e))) (storeName X.env x (.ref e)) (fun _ s₂=>wpAny (model X.prog X.w) (X.A.mark (some (.ref e))) (execs (b₀ :: suite) X.env) (fun f s₃=>wpAny (model X.prog X.w) X.A (do bindName X.env x .none; unbindBehindTheSuite X.env x hpos) (fun _ s₄=>SP X pins D f s₄) X.xe s₃) (fun _ _=>False) s₂) (fun _ _=>False) { s' with heap:=h3 }:=fun pn hpn hpp has=>by
    have I4:Inv (inSuite X e pn fun _ _=>False) [] σ H' { s' with heap:=h3 }:=inv_suite I3 hpp
    refine store_ok (X:=inSuite X e pn fun _ _=>False) (v:=.ref e) I4 hN hi (.inl hx) rfl (fun s4 I5=>?_) (.inr hx)
    refine wpAny_mono (hsuite e C _ pn (fun _ _=>False) okC has [] s4 _ H' _ I5 ts) (fun f s5 h5=>?_) fun _ _ z=>z
    cases f with
    | next =>
      obtain ⟨σ',H2,I6,q2⟩:=h5
      exact name_goes (X:=X) (inv_unsuite I'.ok I6 hpn) hN hi hx fun s6 I7=>⟨_,H2,I7,q2⟩
    | ret v=>obtain ⟨_,_,_,_,_,h5⟩:=h5; exact h5.elim
    | brk=>obtain ⟨_,_,_,h5⟩:=h5; exact h5.elim
    | cont=>obtain ⟨_,_,_,h5⟩:=h5; exact h5.elim
  suffices hs:∃ pn,(∀ p ∈ X.pn ++ pins,p ∈ pn) ∧ (∀ p ∈ pn ++ [],h3.get? p.1 = some p.2 ∧ H' p.1 = none ∧ p.1 ≠ X.env.locals ∧ p.1 ∉ X.fs ∧ ∀ v,p.2.data ≠ .cell v) ∧ Has (inSuite X e pn fun _ _=>False) e C (ps.zip vs) by
    obtain ⟨pn,a,b,c⟩:=hs
    exact wpAny_mono (go pn a b c) (fun _ _ z=>wpAny_mono z (fun _ _ z=>z) fun _ _ z=>z.elim) fun _ _ z=>z.elim
  rcases y8 with ⟨rfl,y8⟩ | ⟨dx,rfl,n1,n2,n3,n4⟩
  · refine ⟨(e,{ cls:=.ref C,dict:=none,data:=.fields fv }) :: (X.pn ++ pins),(fun p hp=>List.mem_cons_of_mem _ hp),(fun p hp=>?_),⟨⟨_,none,List.mem_cons_self,rfl,rfl,.inl ⟨rfl,rfl,fun n=>?_⟩⟩,cat,hdC⟩⟩
    · rw [List.append_nil] at hp
      rcases List.mem_cons.mp hp with rfl | hp
      · exact pinE
      · exact pinned p hp
    · cases q3:(ps.zip vs).lookup n with
      | none=>rfl
      | some v =>
        obtain ⟨u,_,z⟩:=zip_at r q3
        rw [y8] at z; cases z
  · obtain ⟨od,god,lod⟩:=lookIn_ns n4
    have hdl:dx < s'.heap.objs.size:=n4.ns.lt
    have nT:dx ≠ T1:=Nat.ne_of_lt (Nat.lt_of_lt_of_le hdl z1)
    have nfr:dx ∉ frs X.stack:=fun hm=>by
      obtain ⟨_,o,ho,_⟩:=I.stack.mem hm
      exact absurd (Heap.lt_size ho) (Nat.not_lt.mpr n2)
    have g3:h3.get? dx = some od:=v3.keep dx od (by simp) (by simpa using nT) (w3.keep dx od (by simp) (by simpa using nT) (z4.keep dx od nfr n1 god))
    have dod:∀ v,od.data ≠ .cell v:=fun v z=>by
      obtain ⟨o',es,ep,g',d',_⟩:=n4
      rw [god] at g'; cases g'; rw [d'] at z; cases z
    refine ⟨(e,{ cls:=.ref C,dict:=some dx,data:=.fields fv }) :: (dx,od) :: (X.pn ++ pins),(fun p hp=>List.mem_cons_of_mem _ (List.mem_cons_of_mem _ hp)),(fun p hp=>?_),⟨⟨_,some od,List.mem_cons_self,rfl,rfl,.inr ⟨dx,od,rfl,rfl,List.mem_cons_of_mem _ List.mem_cons_self,fun n v z=>?_⟩⟩,cat,hdC⟩⟩
    · rw [List.append_nil] at hp
      rcases List.mem_cons.mp hp with rfl | hp
      · exact pinE
      · rcases List.mem_cons.mp hp with rfl | hp
        · exact ⟨g3,n3,(apart dx n2).2.1,I.nofs n2,dod⟩
        · exact pinned p hp
    · obtain ⟨u,ru,zu⟩:=zip_at r z
      exact ⟨u,ru,by rw [lod,zu]⟩
end
end L3
namespace L3
open PySem PySem.W PySem.Spec PyProof.Rows L2
noncomputable def errD (nm:Str) (fs:List PyData):PyData:=.dict [(.str nm,.tuple fs)]
noncomputable def errOf:PyData→Option (Str × List PyData)
  | .dict [(.str nm,.tuple fs)]=>some (nm,fs)
  | _=>none
theorem errOf_some {d:PyData} {nm:Str} {fs:List PyData} (h:errOf d = some (nm,fs)):d = errD nm fs:=by
  unfold errOf at h
  split at h
  · cases h; rfl
  · cases h
theorem errOf_D {nm:Str} {fs:List PyData}:errOf (errD nm fs) = some (nm,fs):=rfl
noncomputable def psT (nm:Str):List Str:=if nm = "NoPaper" then ["word","number"] else if nm = "NoRest" then ["word"] else if nm = "TooMany" then ["word"] else if nm = "NoHouse" then ["word"] else if nm = "NoComer" then ["number"] else []
noncomputable def WE (mg:Str→Option Value) (E:XK):Str→List V→Hp→Prop:=fun nm vs H=>∀ C,mg nm = some (.ref C)→∀ e,H e = none→E (.ref C) (some e) (upd H e (.xd ((psT nm).zip vs)))
section
variable [Feeds]
noncomputable def OutOkX (K:Frag) (W:Str→List V→Hp→Prop) (G:GF) (B0:List Addr) (H0:Hp) (F:FS) (D:Ends):Out→Prop
  | .rt d=>OutOk K G B0 H0 F D (.rt d) ∧ ∀ nm fs,errOf d = some (nm,fs)→∀ vs H,Kp (fpOf K G) H0 H→FAt K G H F→DatsAre K (hid H B0) fs vs→W nm vs H
  | o=>OutOk K G B0 H0 F D o
noncomputable def TSdX (K:Frag) (W:Str→List V→Hp→Prop) (ts:TS) (m:DE→M Out):Prop:=∀ (G:GF) (B0:List Addr) (H0:Hp) (E:DE) (F:FS) (σ:St) (H:Hp) (D:Ends) (r:Out) (F':FS),Sit K G B0 H0 E F σ H→m E F = some (r,F')→OutOkX K W G B0 H0 F' D r→ts D σ H
structure SsX (K:Frag) (W:Str→List V→Hp→Prop) (X:Cx) (st:Stmt) (ts:TS) (m:DE→M Out):Prop where
  ps:PS X st ts
  ok:TSdX K W ts m
structure SssX (K:Frag) (W:Str→List V→Hp→Prop) (X:Cx) (sts:List Stmt) (ts:TS) (m:DE→M Out):Prop where
  ps:PSs X sts ts
  ok:TSdX K W ts m
variable {K:Frag} {W:Str→List V→Hp→Prop} {X:Cx} {st:Stmt} {sts rest:List Stmt} {t u:TS} {mt mu:DE→M Out} {pos p:Pos} {c a:Expr} {es:List Expr}
theorem outOk_of {G:GF} {B0:List Addr} {H0:Hp} {F:FS} {D:Ends} {o:Out} (h:OutOkX K W G B0 H0 F D o):OutOk K G B0 H0 F D o:=by
  cases o <;> first | exact h | exact h.1
theorem tsx_of (h:TSd K t mt):TSdX K W t mt:=fun G B0 H0 E F σ H D r F' S e q=>h G B0 H0 E F σ H D r F' S e (outOk_of q)
theorem sxs_of (h:Sss K X.nox sts t mt):SssX K W X sts t mt:=⟨h.ps.nox,tsx_of h.ok⟩
theorem sxs_cons (h1:SsX K W X st t mt) (h2:SssX K W X rest u mu):SssX K W X (st :: rest) (tSeq t u) (mSq mt mu):=⟨pss_cons h1.ps h2.ps,fun G B0 H0 E F σ H D r F' S e q=>by
  obtain ⟨⟨o,F1⟩,e1,e⟩:=Option.bind_eq_some_iff.mp e
  refine h1.ok G B0 H0 E F σ H _ o F1 S e1 ?_
  cases o with
  | nx E1=>exact fun σ' H' S'=>h2.ok G B0 H0 E1 F1 σ' H' D r F' S' e q
  | rt d=>cases e; exact q
  | bk E1=>cases e; exact q
  | ct E1=>cases e; exact q⟩
theorem sxs_one (h1:SsX K W X st t mt):SssX K W X [st] t mt:=⟨pss_one h1.ps,h1.ok⟩
theorem sx_if {x y:List Stmt} {tt:TT} {mc:DE→M Bool} (hc:Et K X.nox c tt mc) (ha:SssX K W X x t mt) (hb:SssX K W X y u mu):SsX K W X (.If c x y pos) (tIfS tt t u) (mIf mc mt mu):=⟨ps_if hc.pt.nox ha.ps hb.ps,fun G B0 H0 E F σ H D r F' S e q=>by
  obtain ⟨⟨b,F1⟩,e1,e⟩:=Option.bind_eq_some_iff.mp e
  obtain ⟨B,s,sn,I⟩:=S.ex
  refine hc.ok G B E F σ H _ b F1 I e1 fun H1 k1 f1=>?_
  cases b with
  | true=>exact ha.ok G B0 H0 E F1 σ H1 D r F' (S.step k1 f1) e q
  | false=>exact hb.ok G B0 H0 E F1 σ H1 D r F' (S.step k1 f1) e q⟩
noncomputable def mRaise (nm:Str) (ms:DE→M (List PyData)):DE→M Out:=fun E F=>(ms E F).bind fun p=>if p.1.length = (psT nm).length then some (.rt (errD nm p.1),p.2) else none
theorem PA.nox {t:TA} (h:PA X.nox es t):PA X es t:=fun cp pins s σ H Q I hw=>by
  refine wpAny_mono (h cp pins s σ H Q (I.wish _) hw) (fun vs s' z=>?_) fun _ _ z=>z.elim
  obtain ⟨xs,H',I',r,q⟩:=z
  exact ⟨xs,H',Inv.unwish I',r,q⟩
theorem sx_raise (nm:Str) {E:XK} {Wt C f:Addr} {cp:Pos} {ta:TA} {ms:DE→M (List PyData)} (G:Goes X E) (cl:ECls X.K Wt C f) (ini:EIni X.K C f (psT nm)) (hr:Room 2 X.A) (hm:X.mg nm = some (.ref C)) (ha:Ea K X.nox (a :: es) ta ms) (hg:Gl X nm:=by rfl)
    (hdb:(nm == ("__debug__":Str)) = false:=by decide) (he:starEach (a :: es) X.env = (false,eval a X.env) :: starEach es X.env:=by rfl) (hpl:(backTo cp (starEach es X.env)).any (·.1) = false:=by rfl) :
    SsX K (WE X.mg E) X (.Raise (some (.Call (.Name nm p) (a :: es) [] cp)) none pos) (tRaise (fun vs H=>∀ e,H e = none→E (.ref C) (some e) (upd H e (.xd ((psT nm).zip vs)))) (psT nm) ta) (mRaise nm ms) :=
  ⟨ps_raise cl ini hr hg hm (asks_of G) (PA.nox ha.pa) hdb he hpl,fun G B0 H0 E F σ H D r F' S e q=>by
    obtain ⟨⟨ds,F1⟩,e1,e⟩:=Option.bind_eq_some_iff.mp e
    obtain ⟨B,s,sn,I⟩:=S.ex
    split at e
    · rename_i hl
      cases e
      refine ha.ok G B E F σ H _ ds F1 I e1 fun vs H1 k1 f1 h1=>⟨?_,?_⟩
      · rw [h1.length]; exact hl
      · exact q.2 nm ds errOf_D vs H1 (S.kp.trans k1) f1 (h1.same (hid_sub s)) C hm
    · cases e⟩
end
end L3
namespace L3
open PySem PySem.W PySem.Spec PyProof.Rows L2
section
variable [Feeds]
noncomputable def spX (K:Frag) (mg:Str→Option Value) (n:Nat) (f:List DV→M PyData):Sp:=fun vs H Q E=>∃ G B F args d F',vs.length = n ∧ (∀ b ∈ fpOf K G,b ∈ B) ∧ BOk H B ∧ FAt K G H F ∧ ArgR K G B H args vs ∧ f args F = some (d,F') ∧
  (∀ v H',Kp (fpOf K G) H H'→FAt K G H' F'→DatIs K (hid H' B) d v→Q v H') ∧
  ∀ nm fs,errOf d = some (nm,fs)→∀ vs H',Kp (fpOf K G) H H'→FAt K G H' F'→DatsAre K (hid H' B) fs vs→WE mg E nm vs H'
noncomputable def CalleeX (P:Program) (w:World) (K:Frag) (mg:Str→Option Value) (base:Heap) (x:Str) (k:Nat) (ps:List Str) (sp:Sp):Prop :=
  ∃ f fd,FnOk P w K mg base (CXe P w) k f fd ps sp ∧ mg x = some (.ref f) ∧ keepIn K (.ref f) = true ∧ Binds K fd ps []
variable {K:Frag} {X:Cx} {st:Stmt} {P:Program} {w:World} {mg:Str→Option Value} {base:Heap}
theorem defx_ok {x qual:Str} {f:Addr} {fd:FuncData} {N ps:List Str} {k:Nat} {m:DE→M Out} (Fn:Fun K x qual st f fd) (S:FnScope N ps (defScope st))
    (hbody:∀ (cdv:Value) (A:Around) (outer:List Env) (s:Shared) (H:Hp) (E:XK),Room k (A.deeper (envOfC qual (defScope st) s.heap.objs.size f cdv)) →
      ∃ ts,SssX K (WE mg E) (cxOf (CXe P w) P w K mg base N qual (defScope st) f cdv A outer s H E) (defBody st) ts m):FnOk P w K mg base (CXe P w) (k + 1) f fd ps (spX K mg ps.length (runD N m)):=by
  obtain ⟨oc,od,kV,doc,pm,an,cdv,ct,osl,rfl,lk,hcd⟩:=Fn.ex
  refine fn_of lk hcd S (fun vs H Q E h=>?_) fun A outer s H vs Q E hr h=>?_
  · obtain ⟨G,B,F,args,d,F',hl,_⟩:=h
    exact hl
  · obtain ⟨G,B,F,args,d,F',hl,fB,bk,fa,ha,hm,q,qe⟩:=h
    obtain ⟨ts,hts⟩:=hbody cdv A outer s H E hr
    refine ⟨ts,hts.ps,?_⟩
    obtain ⟨⟨o,F1⟩,e1,e⟩:=Option.bind_eq_some_iff.mp hm
    refine hts.ok G B H (startE N args) F (L2.start N vs) H _ o F1 (sit_start fB bk fa ha) e1 ?_
    cases o with
    | rt d'=>cases e; exact ⟨fun v H' k1 f1 h1=>q v H' k1 f1 h1,fun nm fs ee vs H' k1 f1 h1=>qe nm fs ee vs H' k1 f1 h1⟩
    | nx E'=>cases e; exact fun σ' H' S'=>q _ H' S'.kp (by obtain ⟨B,_,_,I⟩:=S'.ex; exact I.fd) DatIs.non
    | bk E'=>cases e
    | ct E'=>cases e
variable {x:Str} {k n:Nat} {ps:List Str} {p pos:Pos} {e:Expr} {es:List Expr} {tl:TA} {f:List DV→M PyData} {ms:DE→M (List DV)}
noncomputable def tAt (σ0:St) (t:TE):TE:=fun σ H Q=>σ = σ0 ∧ t σ H Q
theorem pe_callX {sp:Sp} {E:XK} {σ0:St} (C:CalleeX X.prog X.w X.K X.mg X.base x k ps sp) (hr:Room k X.A) (hg:Gl X x) (hx:∀ pins H s ev s',Inv X pins σ0 H s→CXe X.prog X.w X.stack H s E ev s'→X.xe ev s') (ha:PA X (e :: es) tl)
    (hdb:(x == ("__debug__":Str)) = false) (he:starEach (e :: es) X.env = (false,eval e X.env) :: starEach es X.env) (hpl:(backTo pos (starEach es X.env)).any (·.1) = false) :
    PE X (.Call (.Name x p) (e :: es) [] pos) (tAt σ0 (tCall sp [] E tl)):=by
  obtain ⟨f,fd,G,m,kp,b⟩:=C
  intro pins s σ H Q I ⟨hσ,h⟩
  subst hσ
  refine wpAny_Call_Name_kw (ld_glob I hg m ?_ hdb)
  refine callWith_K (h₀:=X.base) I.ok.mod.kin kp (thn (ha pos pins s σ H _ I h) fun us s1 ⟨vs,H1,I1,r,q⟩=>⟨I1.kIn,?_⟩) he hpl
  have r2:Vals (vs ++ []) (us ++ []):=r.append .nil
  have hl:(us ++ []).length = ps.length:=by rw [← r2.length]; exact G.len _ _ _ _ q
  refine wpAny_call (codeAny_mono (G.run X.A X.stack s1 H1 ⟨us,[]⟩ _ _ Q E hr I1.env0 (b s1 us I1.kIn hl) r2 q) fun rr s' hq=>?_)
  cases rr with
  | error ev=>exact hx pins H1 s1 ev s' I1 hq
  | ok fl =>
    cases fl with
    | ret u=>exact I1.after hq
    | _=>exact hq.elim
noncomputable def mDoX (f:List DV→M PyData) (ms:DE→M (List DV)):DE→M Out:=fun E F=>(ms E F).bind fun p=>(f p.1 p.2).bind fun q=>match errOf q.1 with
  | some _=>some (.rt q.1,q.2)
  | none=>some (.nx E,q.2)
theorem datIs_err {K:Frag} {H:Hp} {d:PyData} {v:V} {z:Str × List PyData} (h:DatIs K H d v) (e:errOf d = some z):False:=by
  obtain ⟨nm,fs⟩:=z
  rw [errOf_some e] at h
  simp only [errD,DatIs] at h
theorem sx_do {E:XK} {p1 p2 p3:Pos} (G:Goes X E) (C:CalleeX X.prog X.w X.K X.mg X.base x k ps (spX K X.mg n f)) (hr:Room k X.A) (ha:Evs K X.nox (e :: es) tl ms) (hn:∀ E F args F',ms E F = some (args,F')→args.length = n) (hg:Gl X x:=by rfl)
    (hdb:(x == ("__debug__":Str)) = false:=by decide) (he:starEach (e :: es) X.env = (false,eval e X.env) :: starEach es X.env:=by rfl) (hpl:(backTo p2 (starEach es X.env)).any (·.1) = false:=by rfl)
    (hs:swapsWith (.Call (.Name x p1) (e :: es) [] p2) none p3.line X.env = pure false:=by rfl) :
    SsX K (WE X.mg E) X (.Expr (.Call (.Name x p1) (e :: es) [] p2) p3) (tDrop (tCall (spX K X.mg n f) [] E tl)) (mDoX f ms):=by
  obtain ⟨g,fd,F,m,kp,b⟩:=C
  refine ⟨ps_expr (pe_call F hr hg m kp b .nil (passes_of G) (PA.nox ha.pa) hdb he hpl) hs,fun G B0 H0 E1 F σ H D r F' S ee q=>?_⟩
  obtain ⟨⟨args,F1⟩,e1,ee⟩:=Option.bind_eq_some_iff.mp ee
  obtain ⟨⟨d,F2⟩,e2,ee⟩:=Option.bind_eq_some_iff.mp ee
  obtain ⟨B,s,sn,I⟩:=S.ex
  refine ha.ok G B E1 F σ H _ args F1 I e1 fun vs H1 k1 f1 h1=>?_
  rw [List.append_nil]
  refine ⟨G,B,F1,args,d,F2,by rw [h1.length]; exact hn _ _ _ _ e1,I.fB,bok_step I.bk k1 f1,f1,h1,e2,fun v H2 k2 f2 h2=>?_,fun nm fs er vs2 H2 k2 f2 h2=>?_⟩
  · dsimp only at ee
    cases er:errOf d with
    | some z=>exact (datIs_err h2 er).elim
    | none =>
      rw [er] at ee; cases ee
      exact q σ H2 ((S.step k1 f1).step k2 f2)
  · dsimp only at ee
    rw [er] at ee; cases ee
    exact q.2 nm fs er vs2 H2 ((S.kp.trans k1).trans k2) f2 (h2.same (hid_sub s))
end
end L3
namespace L3
open PySem PySem.W PySem.Spec PyProof.Rows L2
section
variable {X:Cx} {x wt:Str} {i:Nat} {body suite:List Stmt} {b₀:Stmt} {pw hpos pos:Pos} {Wt:Addr} {tsu:Addr→Addr→List (Str × V)→TS} {ok:Addr→Prop} {tb:XK→St→TS}
noncomputable def eTry (i:Nat) (ok:Addr→Prop) (tsu:Addr→Addr→List (Str × V)→TS) (D:Ends) (σ:St):XK:=fun Cv eo H2=>∃ C e fs H',Cv = .ref C ∧ eo = some e ∧ H2 = upd H' e (.xd fs) ∧ H' e = none ∧ ok C ∧
  tsu e C fs { nx:=fun σ' H'=>D.nx (σ'.set i none) H',rt:=fun _ _=>False } (σ.set i (some (.ref e))) H'
theorem eTry_of {D:Ends} {σ:St} {C e:Addr} {fs:List (Str × V)} {H':Hp} (h:eTry i ok tsu D σ (.ref C) (some e) (upd H' e (.xd fs))) (he:H' e = none):ok C ∧ tsu e C fs { nx:=fun σ' H'=>D.nx (σ'.set i none) H',rt:=fun _ _=>False } (σ.set i (some (.ref e))) H':=by
  obtain ⟨C',e',fs',H1,e1,e2,e3,e4,e5,e6⟩:=h
  cases e1; cases e2
  have ef:fs = fs':=by
    have z:=congrFun e3 e
    rw [upd_same,upd_same] at z
    cases z; rfl
  have eh:H' = H1:=funext fun b=>by
    by_cases hb:b = e
    · rw [hb,he,e4]
    · have z:=congrFun e3 b
      rwa [upd_ne hb,upd_ne hb] at z
  subst ef eh
  exact ⟨e5,e6⟩
theorem ps_try (hstk:X.stack = X.env :: X.outer) (hfr:X.env.frame = some X.env.locals) (hN:X.N.Nodup) (hi:X.N[i]? = some x) (hx:X.env.scope.names.lookup x = some .local)
    (hg:Gl X wt) (hW:X.mg wt = some (.ref Wt)) (hwd:(wt == ("__debug__":Str)) = false) (hok:∀ C,ok C→ECat X.K C ∧ hasDictIn X.K C = true ∧ exmOne X.K (.ref C) (.ref Wt) = some true)
    (hsuite:∀ e C fs pn xe,ok C→Has (inSuite X e pn xe) e C fs→PSs (inSuite X e pn xe) (b₀ :: suite) (tsu e C fs))
    (hbody:∀ (E:XK) (σ0:St) pn xe,(∀ pins' H s ev s',Inv (inTry X pn xe) pins' σ0 H s→CXe X.prog X.w X.stack H s E ev s'→xe ev s')→PSs (inTry X pn xe) body (tb E σ0)) :
    PS X (.Try body [.ExceptHandler (some (.Name wt pw)) (some x) (b₀ :: suite) hpos] [] [] pos) (fun D σ H=>tb (eTry i ok tsu D σ) σ D σ H):=by
  intro pins s σ H D I h
  refine wpAny_Try_except ?_
  refine wpAny_mono (hbody (eTry i ok tsu D σ) σ (X.pn ++ pins) _ (fun pins' H1 s1 ev s' J z=>caught hstk hfr hN hi hx hg hW hwd hok hsuite (fun C e fs H'=>eTry_of) (inv_untry I.ok J fun p hp=>hp) z) [] s σ H D (inv_try I (by simpa using I.pin)) h) (fun f s1 z=>?_) (fun _ _ z=>z)
  cases f with
  | next=>obtain ⟨σ',H',J,q⟩:=z; exact wpAny_execs_nil ⟨σ',H',inv_untry I.ok J fun p hp=>hp,q⟩
  | brk=>obtain ⟨σ',H',J,q⟩:=z; exact ⟨σ',H',inv_untry I.ok J fun p hp=>hp,q⟩
  | cont=>obtain ⟨σ',H',J,q⟩:=z; exact ⟨σ',H',inv_untry I.ok J fun p hp=>hp,q⟩
  | ret v=>obtain ⟨y,H',σ',J,r,q⟩:=z; exact ⟨y,H',σ',inv_untry I.ok J fun p hp=>hp,r,q⟩
end
end L3
namespace L3
open PySem PySem.W PySem.Spec PyProof.Rows L2
section
variable [Feeds] {K:Frag} {G:GF} {B B0:List Addr} {H0:Hp} {E:DE} {F:FS} {σ:St} {H:Hp} {i:Nat}
theorem SitE.hole (I:SitE K G B E F σ H) (h:E[i]? = some none) (v:Option V):SitE K G B E F (σ.set i v) H :=
  ⟨I.fd,I.fB,I.bk,by rw [List.length_set]; exact I.ln,fun j x e=>by
    have hj:i ≠ j:=fun z=>by rw [← z,h] at e; cases e
    rw [List.getElem?_set_ne hj]
    exact I.loc j x e⟩
theorem Sit.hole (S:Sit K G B0 H0 E F σ H) (h:E[i]? = some none) (v:Option V):Sit K G B0 H0 E F (σ.set i v) H:=by
  obtain ⟨B,s,sn,I⟩:=S.ex
  refine ⟨⟨B,s,sn,I.hole h v⟩,S.fB,S.kp,fun j ds a e z=>?_,fun j k ds es a e1 e2 z1 z2=>?_⟩
  · have hj:i ≠ j:=fun y=>by rw [← y,h] at e; cases e
    rw [List.getElem?_set_ne hj] at z
    exact S.own j ds a e z
  · have hj:i ≠ j:=fun y=>by rw [← y,h] at e1; cases e1
    have hk:i ≠ k:=fun y=>by rw [← y,h] at e2; cases e2
    rw [List.getElem?_set_ne hj] at z1
    rw [List.getElem?_set_ne hk] at z2
    exact S.inj j k ds es a e1 e2 z1 z2
noncomputable def SuD (K:Frag) (mg:Str→Option Value) (ok:Addr→Prop) (i:Nat) (tsu:Addr→Addr→List (Str × V)→TS) (hd:Str→List PyData→DE→Option DE):Prop :=
  ∀ (G:GF) (B B0:List Addr) (H0:Hp) (E:DE) (F:FS) (σ:St) (H:Hp) (D:Ends) (nm:Str) (C:Addr) (fs:List PyData) (vs:List V) (E1:DE) (e:Addr),Sit K G B0 H0 E F σ H→(∀ b ∈ B0,b ∈ B)→(∀ b ∈ B,b ∈ B0 ∨ H0 b = none)→SitE K G B E F σ H →
    mg nm = some (.ref C)→DatsAre K (hid H B) fs vs→hd nm fs E = some E1→H e = none→(∀ σ1 H1,Sit K G B0 H0 E1 F σ1 H1→D.nx σ1 H1) →
    ok C ∧ tsu e C ((psT nm).zip vs) { nx:=fun σ' H'=>D.nx (σ'.set i none) H',rt:=fun _ _=>False } (σ.set i (some (.ref e))) H
noncomputable def mTry (fi:Nat) (told:Str) (g:List DV→M PyData) (ms:DE→M (List DV)) (hd:Str→List PyData→DE→Option DE):DE→M Out:=fun E F=>(ms E F).bind fun p=>(g p.1 p.2).bind fun q=>match errOf q.1 with
  | some z=>(hd z.1 z.2 E).bind fun E1=>some (.nx E1,q.2)
  | none=>(bN fi (.tuple [.str told,q.1]) E).bind fun E1=>some (.nx E1,q.2)
variable {X:Cx} {x y wt gn told:Str} {suite:List Stmt} {b₀:Stmt} {pw hpos pos p1 p2 p3 p4 p5 p6:Pos} {Wt:Addr} {tsu:Addr→Addr→List (Str × V)→TS} {ok:Addr→Prop} {k n fi j1:Nat} {k0} {ps:List Str} {a:Expr} {es:List Expr} {tl:TA} {g:List DV→M PyData} {ms:DE→M (List DV)} {hd:Str→List PyData→DE→Option DE}
end
end L3
namespace L3
open PySem PySem.W PySem.Spec PyProof.Rows L2
section
variable {X:Cx} {es:List Expr} {p px pos:Pos} {cl:List Addr} {t t':TA} {e C:Addr} {fs:List (Str × V)} {i:Nat} {x f:Str}
noncomputable def tRefs (cl:List Addr):TA:=fun _ H Q=>Q (cl.map V.ref) H
theorem pr_nil:PA X [] (tRefs []):=pa_nil
theorem pr_cons {nm:Str} {C:Addr} (hm:X.mg nm = some (.ref C)) (h:PA X es (tRefs cl)) (hg:Gl X nm:=by rfl) (hd:(nm == ("__debug__":Str)) = false:=by decide) (hs:starEach (.Name nm p :: es) X.env = (false,eval (.Name nm p) X.env) :: starEach es X.env:=by rfl):PA X (.Name nm p :: es) (tRefs (C :: cl)) :=
  pa_cons (te:=tC (.ref C)) (t:=tRefs cl) (pe_glob hg hm rfl hd) h hs
theorem PA.imp (h:PA X es t) (w:∀ σ H Q,t' σ H Q→t σ H Q):PA X es t':=fun cp pins s σ H Q I z=>h cp pins s σ H Q I (w σ H Q z)
noncomputable def itV (fs:List (Str × V)):List (Sum Str Str)→Option (List V)
  | []=>some []
  | .inl c :: r=>(itV fs r).bind fun vs=>some (.str c :: vs)
  | .inr f :: r=>(fs.lookup f).bind fun v=>(itV fs r).bind fun vs=>some (v :: vs)
noncomputable def tIts (K:Frag) (C:Addr) (fs:List (Str × V)) (e:Addr) (i:Nat) (its:List (Sum Str Str)):TA:=fun σ H Q=>σ[i]? = some (some (.ref e)) ∧ (∀ f,.inr f ∈ its→findIn K (.ref C) f = some none) ∧ ∃ vs,itV fs its = some vs ∧ Q vs H
theorem pi_nil:PA X [] (tIts X.K C fs e i []):=PA.imp pa_nil fun σ H Q ⟨_,_,vs,z,q⟩=>by cases z; exact q
theorem pi_str {c:Str} {j:Nat} {its:List (Sum Str Str)} (h:PA X es (tIts X.K C fs e i its)) (hs:starEach (.Constant (.str c) j p :: es) X.env = (false,eval (.Constant (.str c) j p) X.env) :: starEach es X.env:=by rfl):PA X (.Constant (.str c) j p :: es) (tIts X.K C fs e i (.inl c :: its)) :=
  PA.imp (pa_cons pe_str h hs) fun σ H Q ⟨z1,z2,vs,z3,q⟩=>by
    obtain ⟨ws,z4,z5⟩:=Option.bind_eq_some_iff.mp z3
    cases z5
    exact ⟨z1,fun f hf=>z2 f (List.mem_cons_of_mem _ hf),ws,z4,q⟩
theorem pi_fld {its:List (Sum Str Str)} (hh:Has X e C fs) (h:PA X es (tIts X.K C fs e i its)) (hN:X.N[i]? = some x:=by rfl) (hv:Vis X.env.scope x:=by exact Or.inl rfl) (hb:attributeBase (.Name x px) f X.env (eval (.Name x px) X.env) = eval (.Name x px) X.env:=by rfl)
    (hd:(x == ("__debug__":Str)) = false:=by decide) (hcd:(x == ("__classdict__":Str)) = false:=by decide) (hs:starEach (.Attribute (.Name x px) f p :: es) X.env = (false,eval (.Attribute (.Name x px) f p) X.env) :: starEach es X.env:=by rfl) :
    PA X (.Attribute (.Name x px) f p :: es) (tIts X.K C fs e i (.inr f :: its)) :=
  PA.imp (pa_cons (pe_err hh hN hv hb hd hcd) h hs) fun σ H Q ⟨z1,z2,vs,z3,q⟩=>by
    obtain ⟨v,z4,z5⟩:=Option.bind_eq_some_iff.mp z3
    obtain ⟨ws,z6,z7⟩:=Option.bind_eq_some_iff.mp z5
    cases z7
    exact ⟨z1,z2 f List.mem_cons_self,v,z4,z1,fun g hg=>z2 g (List.mem_cons_of_mem _ hg),ws,z6,q⟩
end
noncomputable def itD (fs:List (Str × PyData)):List (Sum Str Str)→Option (List PyData)
  | []=>some []
  | .inl c :: r=>(itD fs r).bind fun vs=>some (.str c :: vs)
  | .inr f :: r=>(fs.lookup f).bind fun v=>(itD fs r).bind fun vs=>some (v :: vs)
section
variable {K:Frag} {H:Hp}
theorem zip_dat:∀ {ps:List Str} {fs:List PyData} {vs:List V} {n:Str} {d:PyData},DatsAre K H fs vs→(ps.zip fs).lookup n = some d→∃ v,(ps.zip vs).lookup n = some v ∧ DatIs K H d v
  | [],_,_,_,_,_,h=>by simp at h
  | _ :: _,[],_,_,_,_,h=>by simp at h
  | p :: ps,w :: fs,vs,n,d,hd,h=>by
    simp only [DatsAre] at hd
    obtain ⟨v,r,rfl,h1,h2⟩:=hd
    rw [List.zip_cons_cons,List.lookup_cons] at h ⊢
    by_cases hn:n = p
    · subst hn
      rw [show (n == n) = true from beq_self_eq_true n] at h ⊢
      cases h
      exact ⟨v,rfl,h1⟩
    · rw [show (n == p) = false from beq_eq_false_iff_ne.mpr hn] at h ⊢
      exact zip_dat h2 h
theorem its_dat {ps:List Str} {fs:List PyData} {vs:List V} (hd:DatsAre K H fs vs):∀ {its:List (Sum Str Str)} {ds:List PyData},itD (ps.zip fs) its = some ds→∃ ws,itV (ps.zip vs) its = some ws ∧ DatsAre K H ds ws
  | [],ds,h=>by cases h; exact ⟨[],rfl,DatsAre.nil⟩
  | .inl c :: its,ds,h=>by
    obtain ⟨es,h1,h2⟩:=Option.bind_eq_some_iff.mp h
    cases h2
    obtain ⟨ws,z1,z2⟩:=its_dat hd h1
    exact ⟨.str c :: ws,by rw [itV,z1]; rfl,DatsAre.cons DatIs.st z2⟩
  | .inr f :: its,ds,h=>by
    obtain ⟨d,h0,h⟩:=Option.bind_eq_some_iff.mp h
    obtain ⟨es,h1,h2⟩:=Option.bind_eq_some_iff.mp h
    cases h2
    obtain ⟨v,y1,y2⟩:=zip_dat hd h0
    obtain ⟨ws,z1,z2⟩:=its_dat hd h1
    exact ⟨v :: ws,by rw [itV,y1,Option.bind_some,z1]; rfl,DatsAre.cons y2 z2⟩
end
structure EFit (K:Frag) (mg:Str→Option Value) (Wt:Addr) (nm:Str) (cl:List Addr) (C:Addr):Prop where
  mgc:mg nm = some (.ref C)
  cat:ECat K C
  hd:hasDictIn K C = true
  exm:exmOne K (.ref C) (.ref Wt) = some true
  ve:kitOne K (.ref C) (.type "ValueError") = some true
  st:kitAny K (.ref C) (cl.map Value.ref) = some false
  nof:∀ p ∈ psT nm,findIn K (.ref C) p = some none
section
variable [Feeds] {K:Frag} {mg:Str→Option Value} {Wt C0:Addr} {nm0:Str} {cl:List Addr} {i j fi:Nat} {its:List (Sum Str Str)}
noncomputable def isHole (E:DE) (i:Nat):Bool:=match E[i]? with
  | some none=>true
  | _=>false
theorem isHole_of {E:DE} {i:Nat} (h:isHole E i = true):E[i]? = some none:=by
  unfold isHole at h
  split at h
  · assumption
  · cases h
theorem itV_len:∀ {fs:List (Str × V)} {its:List (Sum Str Str)} {vs:List V},itV fs its = some vs→vs.length = its.length
  | _,[],_,h=>by cases h; rfl
  | fs,.inl c :: r,_,h=>by
    obtain ⟨ws,h1,h2⟩:=Option.bind_eq_some_iff.mp h
    cases h2
    rw [List.length_cons,List.length_cons,itV_len h1]
  | fs,.inr f :: r,_,h=>by
    obtain ⟨v,_,h⟩:=Option.bind_eq_some_iff.mp h
    obtain ⟨ws,h1,h2⟩:=Option.bind_eq_some_iff.mp h
    cases h2
    rw [List.length_cons,List.length_cons,itV_len h1]
theorem bN_other {i j:Nat} {d:PyData} {E E1:DE} (h:bN j d E = some E1) (hij:i ≠ j):E1[i]? = E[i]?:=by
  unfold bN at h
  split at h
  · cases h; exact List.getElem?_set_ne (Ne.symm hij)
  · cases h
end
end L3
namespace L3
open PySem PySem.W PySem.Spec PyProof.Rows L2
theorem bt_ValueError:bootBuiltins "ValueError" = some (.type "ValueError"):=by first | rfl | decide +kernel
section
variable {X:Cx} {e C C0:Addr} {fs:List (Str × V)} {i j fi:Nat} {cl:List Addr} {its:List (Sum Str Str)} {x y z nm0:Str} {ces ies:List Expr} {p1 p2 p3 p4 p5 p6 q1 q2 q3 q4 q5 q6 q7 q8 q9 r1 r2 r3 r4:Pos} {k1 k2} {p2' p3':Pos}
end
end L3
namespace L3
open PySem PySem.W PySem.Spec PyProof.Rows L2
noncomputable def clsInit:Stmt→Stmt
  | .ClassDef _ _ _ b _ _ _ _ _ _ _=>b.getD 0 (.Pass ⟨0,0,0,0⟩)
  | s=>s
noncomputable def Adrs (mg:Str→Option Value):List Str→List Addr→Prop
  | [],cl=>cl = []
  | n :: ns,cl=>∃ a r,cl = a :: r ∧ mg n = some (.ref a) ∧ Adrs mg ns r
noncomputable def ErrT (K:Frag) (mg:Str→Option Value) (wt nm:Str) (cls:List Str):Prop:=∃ (Wt C f:Addr) (cl:List Addr),mg wt = some (.ref Wt) ∧ Adrs mg cls cl ∧ ECls K Wt C f ∧ EIni K C f (psT nm) ∧ EFit K mg Wt nm cl C
structure IniTxt (st:Stmt) (qual:Str) (ps:List Str):Prop where
  sc:FnScope (("self":Str) :: ps) (("self":Str) :: ps) (defScope st)
  loc:∀ p ∈ ("self":Str) :: ps,(defScope st).names.lookup p = some .local
  ib:InitBody ps (defBody st)
  few:ps.length ≤ 100
  nd:∀ p ∈ ps,(p == ("__debug__":Str)) = false
  bd:∀ (kV doc pm:Value) (an:Option Addr) (cdv ct:Value) (us:List Value),us.length = ps.length + 1→bindArgs (fnOf "__init__" qual (defArgs st) (defBody st) (defScope st) .none kV doc pm an cdv ct) ⟨us,[]⟩ = pure ((("self":Str) :: ps).zip us)
theorem eini_mk {K:Frag} {C f:Addr} {ps:List Str} {st:Stmt} {qual:Str} {oc:Value} {od an:Option Addr} {osl:Array (Option Value)} {kV doc pm cdv ct:Value} (I:IniTxt st qual ps)
    (l:K.lookup f = some ⟨oc,od,.func (fnOf "__init__" qual (defArgs st) (defBody st) (defScope st) .none kV doc pm an cdv ct),osl⟩) (c:codeIn K cdv qual = true) (na:∀ p ∈ ps,findIn K (.ref C) p = some none):EIni K C f ps :=
  ⟨⟨qual,defArgs st,defBody st,defScope st,oc,od,kV,doc,pm,an,cdv,ct,osl,l,c,I.sc,I.loc,I.ib,fun us hl=>I.bd kV doc pm an cdv ct us hl⟩,fun p hp=>⟨na p hp,I.nd p hp⟩,I.few⟩
theorem ecls_mk {K:Frag} {Wt C f N:Addr} {nm q:Str} {bs:List Value} {hdct} {sn sub ab col dd k0 k1 k2 k3 k5}
    (obj:K.lookup C = some (excClassObj nm q C N bs (.ref Wt :: vMro) hdct sn sub ab col dd k0 k1 k2 k3 k5 "ValueError.__new__")) (tp:excIn K Wt vMro "ValueError.__new__" = true)
    (init:findIn K (.ref C) "__init__" = some (some (.ref f))) (fn:typeIn K (.ref f) = some (.type "function")) (call:specialIn K (.ref C) "__call__" = some (some (.builtin "type.__call__"))) (typ:instIn K (.ref C) (.type "type") = some true) (kp:keepIn K (.ref C) = true)
    (dict:hasDictIn K C = true) (sa:findIn K (.ref C) "__setattr__" = some (some (.builtin "object.__setattr__"))):ECls K Wt C f:=by
  refine ⟨⟨_,_,_,_,_,_,_,_,_,_,_,_,_,_,_,obj⟩,?_,init,fn,call,typ,kp,dict,sa⟩
  unfold excIn at tp
  split at tp
  · rename_i dd0 cd sl ho
    split at tp
    · simp only [Bool.and_eq_true,beq_iff_eq] at tp
      exact ⟨_,_,_,_,ho,tp.1.2,tp.2⟩
    · cases tp
  · cases tp
theorem efit_mk {K:Frag} {mg:Str→Option Value} {Wt C:Addr} {nm:Str} {cl:List Addr} (hm:mg nm = some (.ref C)) (hd:hasDictIn K C = true) (ga:findIn K (.ref C) "__getattribute__" = some (some (.builtin "BaseException.__getattribute__"))) (gn:findIn K (.ref C) "__getattr__" = some none) (mb:mroIn K C (.type "BaseException") = some true) (mo:mroIn K C (.type "object") = some true)
    (ca:findIn K (.ref C) "__class__" = some (some (.builtin "object.__class__"))) (cg:specialIn K (.builtin "object.__class__") "__get__" = some (some (.builtin "getset_descriptor.__get__"))) (ct:takesIn K (.builtin "object.__class__") = some true)
    (sb:subIn K (.ref Wt) (.type "BaseException") = some true) (ko:kitOne K (.ref C) (.ref Wt) = some true) (ne:(Value.ref C == Value.ref Wt) = false) (ve:kitOne K (.ref C) (.type "ValueError") = some true) (st:kitAny K (.ref C) (cl.map Value.ref) = some false) (na:∀ p ∈ psT nm,findIn K (.ref C) p = some none):EFit K mg Wt nm cl C:=by
  refine ⟨hm,⟨ga,gn,mb,mo,ca,cg,ct⟩,hd,?_,ve,st,na⟩
  unfold exmOne
  rw [sb,if_pos (by rfl)]
  unfold kitOne at ko
  rwa [if_neg (by rw [ne]; exact Bool.false_ne_true)] at ko
end L3
namespace L3
open PySem PySem.W PySem.Spec PyProof.Rows L2
section
variable {X:Cx} {tg iter:Expr} {wi:TI} {g:TG}
end
section
variable [Feeds]
variable {K:Frag} {W:Str→List V→Hp→Prop} {X:Cx} {tg iter:Expr} {pos:Pos}
end
end L3
namespace L3
open PySem PySem.Spec PyProof.Rows L2
variable [Fam]
noncomputable def wp {α σ:Type} (m:Option (α × σ)) (Q:α→σ→Prop):Prop:=∃ a F',m = some (a,F') ∧ Q a F'
section
variable {α β γ σ τ:Type} {Q:α→σ→Prop}
theorem wp_some {a:α} {F:σ}:wp (some (a,F)) Q ↔ Q a F:=⟨fun ⟨_,_,e,q⟩=>by cases e; exact q,fun q=>⟨_,_,rfl,q⟩⟩
theorem wp_none:wp (none:Option (α × σ)) Q ↔ False:=⟨fun ⟨_,_,e,_⟩=>(by cases e),False.elim⟩
theorem wp_bind {x:Option (β × τ)} {f:β × τ→Option (α × σ)}:wp (x.bind f) Q ↔ wp x fun a F'=>wp (f (a,F')) Q:=by
  constructor
  · rintro ⟨a,F',e,q⟩
    obtain ⟨⟨b,F1⟩,e1,e2⟩:=Option.bind_eq_some_iff.mp e
    exact ⟨b,F1,e1,a,F',e2,q⟩
  · rintro ⟨b,F1,e1,a,F',e2,q⟩
    exact ⟨a,F',by rw [e1]; exact e2,q⟩
theorem wp_obind {o:Option γ} {f:γ→Option (α × σ)}:wp (o.bind f) Q ↔ ∃ z,o = some z ∧ wp (f z) Q:=by
  constructor
  · rintro ⟨a,F',e,q⟩
    obtain ⟨z,e1,e2⟩:=Option.bind_eq_some_iff.mp e
    exact ⟨z,e1,a,F',e2,q⟩
  · rintro ⟨z,e1,a,F',e2,q⟩
    exact ⟨a,F',by rw [e1]; exact e2,q⟩
theorem wp_ite {c:Prop} [Decidable c] {a b:Option (α × σ)}:wp (if c then a else b) Q ↔ if c then wp a Q else wp b Q:=by
  split <;> rfl
theorem wp_mono {m:Option (α × σ)} {Q':α→σ→Prop} (h:wp m Q) (hq:∀ a F,Q a F→Q' a F):wp m Q':=by
  obtain ⟨a,F,e,q⟩:=h
  exact ⟨a,F,e,hq a F q⟩
theorem wp_congr {m:Option (α × σ)} {Q':α→σ→Prop} (h:∀ a F,Q a F ↔ Q' a F):wp m Q ↔ wp m Q':=⟨fun z=>wp_mono z fun a F q=>(h a F).mp q,fun z=>wp_mono z fun a F q=>(h a F).mpr q⟩
theorem ex_some {z:γ} {P:γ→Prop}:(∃ y,some z = some y ∧ P y) ↔ P z:=⟨fun ⟨_,e,p⟩=>by cases e; exact p,fun p=>⟨_,rfl,p⟩⟩
theorem wp_draw {m:Int} {F:FdS} {Q:PyData→FdS→Prop} (h0:0 < m) (h1:m < 1073741824) (h2:F.t < 199999) (q:∀ r F',0 ≤ r→r < m→F'.t = F.t + 1→Q (.int r) F'):wp (drawS [.feed,.dat (.int m)] F) Q:=by
  obtain ⟨r,F',e,r0,r1,ht⟩:=Fam.draw_some h0 h1 h2
  exact ⟨.int r,F',by show (Fam.drawF m F).bind _ = _; rw [e]; rfl,q r F' r0 r1 ht⟩
end
noncomputable def gD (o:Option (Option DV)) (P:PyData→Prop):Prop:=match o with
  | some (some (.dat d))=>P d
  | _=>False
noncomputable def gW (o:Option (Option DV)) (P:PyData→Prop):Prop:=match o with
  | some (some (.dat d))=>P d
  | some (some (.own ds))=>P (.list ds)
  | _=>False
noncomputable def gF (o:Option (Option DV)) (P:Prop):Prop:=match o with
  | some (some .feed)=>P
  | _=>False
noncomputable def oB {γ:Type} (o:Option γ) (P:γ→Prop):Prop:=∃ z,o = some z ∧ P z
noncomputable def cIf (c:Bool) (A B:Prop):Prop:=if c = true then A else B
theorem cIf_t {A B:Prop}:cIf true A B ↔ A:=by simp [cIf]
theorem cIf_f {A B:Prop}:cIf false A B ↔ B:=by simp [cIf]
theorem cIf_2 {c:Bool} {A B:Prop} (h1:c = true→A) (h2:c = false→B):cIf c A B:=by
  cases c
  · exact cIf_f.mpr (h2 rfl)
  · exact cIf_t.mpr (h1 rfl)
section
variable [Feeds] {E:DE} {F:FS}
theorem r_sC {d:PyData} {Q:PyData→FS→Prop}:wp (sC d E F) Q ↔ Q d F:=wp_some
theorem r_sV {i:Nat} {Q:PyData→FS→Prop}:wp (sV i E F) Q ↔ gD E[i]? fun d=>Q d F:=by
  unfold sV gD; generalize E[i]? = o
  rcases o with _ | _ | x
  · exact wp_none
  · exact wp_none
  · cases x <;> first | exact wp_some | exact wp_none
theorem r_sW {i:Nat} {Q:PyData→FS→Prop}:wp (sW i E F) Q ↔ gW E[i]? fun d=>Q d F:=by
  unfold sW gW; generalize E[i]? = o
  rcases o with _ | _ | x
  · exact wp_none
  · exact wp_none
  · cases x <;> first | exact wp_some | exact wp_none
theorem r_s1 {f:PyData→Option PyData} {a:DE→M PyData} {Q:PyData→FS→Prop}:wp (s1 f a E F) Q ↔ wp (a E F) fun x F1=>oB (f x) fun z=>Q z F1:=by
  unfold s1; rw [wp_bind]; simp only [wp_obind,wp_some,oB]
theorem r_s2 {f:PyData→PyData→Option PyData} {a b:DE→M PyData} {Q:PyData→FS→Prop}:wp (s2 f a b E F) Q ↔ wp (a E F) fun x F1=>wp (b E F1) fun y F2=>oB (f x y) fun z=>Q z F2:=by
  unfold s2; rw [wp_bind]; refine wp_congr fun x F1=>?_; rw [wp_bind]; refine wp_congr fun y F2=>?_; simp only [wp_obind,wp_some,oB]
theorem r_sN {f:List PyData→Option PyData} {a:DE→M (List PyData)} {Q:PyData→FS→Prop}:wp (sN f a E F) Q ↔ wp (a E F) fun x F1=>oB (f x) fun z=>Q z F1:=by
  unfold sN; rw [wp_bind]; simp only [wp_obind,wp_some,oB]
theorem r_sNil {Q:List PyData→FS→Prop}:wp (sNil E F) Q ↔ Q [] F:=wp_some
theorem r_sCons {a:DE→M PyData} {r:DE→M (List PyData)} {Q:List PyData→FS→Prop}:wp (sCons a r E F) Q ↔ wp (a E F) fun x F1=>wp (r E F1) fun xs F2=>Q (x :: xs) F2:=by
  unfold sCons; rw [wp_bind]; simp only [wp_bind,wp_some]
theorem r_sTup {a:DE→M (List PyData)} {Q:PyData→FS→Prop}:wp (sTup a E F) Q ↔ wp (a E F) fun xs F1=>xs.length ≤ sizeLine ∧ Q (.tuple xs) F1:=by
  unfold sTup; rw [wp_bind]
  constructor
  · exact fun h=>wp_mono h fun xs F1 h=>by
      split at h
      · rename_i hl; exact ⟨hl,wp_some.mp h⟩
      · exact (wp_none.mp h).elim
  · exact fun h=>wp_mono h fun xs F1 h=>by rw [if_pos h.1]; exact wp_some.mpr h.2
theorem r_sLst {a:DE→M (List PyData)} {Q:PyData→FS→Prop}:wp (sLst a E F) Q ↔ wp (a E F) fun xs F1=>xs.length ≤ sizeLine ∧ Q (.list xs) F1:=by
  unfold sLst; rw [wp_bind]
  constructor
  · exact fun h=>wp_mono h fun xs F1 h=>by
      split at h
      · rename_i hl; exact ⟨hl,wp_some.mp h⟩
      · exact (wp_none.mp h).elim
  · exact fun h=>wp_mono h fun xs F1 h=>by rw [if_pos h.1]; exact wp_some.mpr h.2
theorem r_vNil {Q:List DV→FS→Prop}:wp (vNil E F) Q ↔ Q [] F:=wp_some
theorem r_vD {a:DE→M PyData} {r:DE→M (List DV)} {Q:List DV→FS→Prop}:wp (vD a r E F) Q ↔ wp (a E F) fun x F1=>wp (r E F1) fun xs F2=>Q (.dat x :: xs) F2:=by
  unfold vD; rw [wp_bind]; simp only [wp_bind,wp_some]
theorem r_vF {i:Nat} {r:DE→M (List DV)} {Q:List DV→FS→Prop}:wp (vF i r E F) Q ↔ gF E[i]? (wp (r E F) fun xs F2=>Q (.feed :: xs) F2):=by
  unfold vF gF; generalize E[i]? = o
  rcases o with _ | _ | x
  · exact wp_none
  · exact wp_none
  · cases x with
    | feed=>exact wp_bind.trans (wp_congr fun _ _=>wp_some)
    | _=>exact wp_none
theorem r_sCall {f:List DV→M PyData} {ms:DE→M (List DV)} {Q:PyData→FS→Prop}:wp (sCall f ms E F) Q ↔ wp (ms E F) fun xs F1=>wp (f xs F1) Q:=by
  unfold sCall; rw [wp_bind]
theorem r_cut {a:DE→M PyData} {l u:DE→M (Option Int)} {Q:PyData→FS→Prop}:wp (sCut a l u E F) Q ↔ wp (a E F) fun x F1=>wp (l E F1) fun lo F2=>wp (u E F2) fun hi F3=>oB (cutD lo hi x) fun z=>Q z F3:=by
  unfold sCut; rw [wp_bind]; refine wp_congr fun x F1=>?_; rw [wp_bind]; refine wp_congr fun y F2=>?_; rw [wp_bind]; refine wp_congr fun y F2=>?_; simp only [wp_obind,wp_some,oB]
theorem r_oNo {Q:Option Int→FS→Prop}:wp (oNo E F) Q ↔ Q none F:=wp_some
theorem r_oI {a:DE→M PyData} {Q:Option Int→FS→Prop}:wp (oI a E F) Q ↔ wp (a E F) fun x F1=>oB (intOf x) fun i=>Q (some i) F1:=by
  unfold oI; rw [wp_bind]; simp only [wp_obind,wp_some,oB]
theorem r_sAnd {a b:DE→M PyData} {Q:PyData→FS→Prop}:wp (sAnd a b E F) Q ↔ wp (a E F) fun x F1=>oB (boolOf x) fun c=>cIf c (wp (b E F1) Q) (Q (.bool false) F1):=by
  unfold sAnd; rw [wp_bind]; simp only [wp_obind,wp_ite,wp_some,oB,cIf]
theorem r_sIf {c:DE→M Bool} {a b:DE→M PyData} {Q:PyData→FS→Prop}:wp (sIf c a b E F) Q ↔ wp (c E F) fun x F1=>cIf x (wp (a E F1) Q) (wp (b E F1) Q):=by
  unfold sIf; rw [wp_bind]; simp only [wp_ite,cIf]
theorem r_uB {a:DE→M PyData} {Q:Bool→FS→Prop}:wp (uB a E F) Q ↔ wp (a E F) fun x F1=>oB (boolOf x) fun c=>Q c F1:=by
  unfold uB; rw [wp_bind]; simp only [wp_obind,wp_some,oB]
theorem r_uT {a:DE→M PyData} {Q:Bool→FS→Prop}:wp (uT a E F) Q ↔ wp (a E F) fun x F1=>oB (truD x) fun c=>Q c F1:=by
  unfold uT; rw [wp_bind]; simp only [wp_obind,wp_some,oB]
theorem r_uOr {a b:DE→M Bool} {Q:Bool→FS→Prop}:wp (uOr a b E F) Q ↔ wp (a E F) fun x F1=>cIf x (Q true F1) (wp (b E F1) Q):=by
  unfold uOr; rw [wp_bind]; simp only [wp_ite,wp_some,cIf]
theorem r_uNot {a:DE→M Bool} {Q:Bool→FS→Prop}:wp (uNot a E F) Q ↔ wp (a E F) fun x F1=>Q (!x) F1:=by
  unfold uNot; rw [wp_bind]; simp only [wp_some]
theorem r_uYes {Q:Bool→FS→Prop}:wp (uYes E F) Q ↔ Q true F:=wp_some
theorem r_mNx {Q:Out→FS→Prop}:wp (mNx E F) Q ↔ Q (.nx E) F:=wp_some
noncomputable def sqK (b:DE→M Out) (Q:Out→FS→Prop) (o:Out) (F1:FS):Prop:=match o with
    | .nx E1=>wp (b E1 F1) Q
    | o=>Q o F1
theorem sq_nx {b:DE→M Out} {Q:Out→FS→Prop} {E1:DE} (h:wp (b E1 F) Q):sqK b Q (.nx E1) F:=h
theorem sq_rt {b:DE→M Out} {Q:Out→FS→Prop} {d:PyData} (h:Q (.rt d) F):sqK b Q (.rt d) F:=h
theorem r_mSq {a b:DE→M Out} {Q:Out→FS→Prop}:wp (mSq a b E F) Q ↔ wp (a E F) (sqK b Q):=by
  unfold mSq; rw [wp_bind]
  refine wp_congr fun o F1=>?_
  cases o with
  | nx E1=>exact Iff.rfl
  | rt d=>exact wp_some
  | bk d=>exact wp_some
  | ct d=>exact wp_some
theorem r_mRt {a:DE→M PyData} {Q:Out→FS→Prop}:wp (mRt a E F) Q ↔ wp (a E F) fun x F1=>Q (.rt x) F1:=by
  unfold mRt; rw [wp_bind]; simp only [wp_some]
theorem r_mSet {i:Nat} {a:DE→M PyData} {Q:Out→FS→Prop}:wp (mSet i a E F) Q ↔ wp (a E F) fun x F1=>i < E.length ∧ Q (.nx (E.set i (some (.dat x)))) F1:=by
  unfold mSet; rw [wp_bind]
  refine wp_congr fun x F1=>?_
  unfold bN
  by_cases h:i < E.length
  · rw [if_pos h]; simp only [wp_obind,wp_some,ex_some,h,true_and]
  · rw [if_neg h]; simp only [wp_obind,h,false_and]
    exact ⟨fun ⟨_,e,_⟩=>(by cases e),False.elim⟩
theorem r_mAsg {bd:PyData→DE→Option DE} {a:DE→M PyData} {Q:Out→FS→Prop}:wp (mAsg bd a E F) Q ↔ wp (a E F) fun x F1=>oB (bd x E) fun E1=>Q (.nx E1) F1:=by
  unfold mAsg; rw [wp_bind]
  simp only [wp_obind,wp_some,oB]
theorem r_mIf {c:DE→M Bool} {a b:DE→M Out} {Q:Out→FS→Prop}:wp (mIf c a b E F) Q ↔ wp (c E F) fun x F1=>cIf x (wp (a E F1) Q) (wp (b E F1) Q):=by
  unfold mIf; rw [wp_bind]; simp only [wp_ite,cIf]
theorem r_mOwn {i:Nat} {a:DE→M (List PyData)} {Q:Out→FS→Prop}:wp (mOwn i a E F) Q ↔ wp (a E F) fun x F1=>i < E.length ∧ Q (.nx (E.set i (some (.own x)))) F1:=by
  unfold mOwn; rw [wp_bind]
  refine wp_congr fun x F1=>?_
  by_cases h:i < E.length
  · rw [if_pos h]; simp only [wp_some,h,true_and]
  · rw [if_neg h]; simp only [h,false_and]
    exact wp_none
theorem r_mPut {i:Nat} {v k:DE→M PyData} {ds:List PyData} {Q:Out→FS→Prop} (h:E[i]? = some (some (.own ds))):wp (mPut i v k E F) Q ↔ wp (v E F) fun x F1=>wp (k E F1) fun y F2=>oB (intOf y) fun n=>oB (ixN ds.length n) fun j=>Q (.nx (E.set i (some (.own (ds.set j x))))) F2:=by
  unfold mPut; rw [wp_bind]
  have e:ownOf E i = some ds:=by unfold ownOf; rw [h]
  refine wp_congr fun x F1=>?_; rw [wp_bind]; refine wp_congr fun y F2=>?_
  simp only [wp_obind,wp_some,e,ex_some,oB]
theorem r_mFor {mi:DE→M (List PyData)} {bd:PyData→DE→Option DE} {body:DE→M Out} {Q:Out→FS→Prop}:wp (mFor mi bd body E F) Q ↔ wp (mi E F) fun ds F1=>wp (forGo bd body ds E F1) Q:=by
  unfold mFor; rw [wp_bind]
theorem r_mRng1 {a:DE→M (List PyData)} {Q:List PyData→FS→Prop}:wp (mRng1 a E F) Q ↔ wp (a E F) fun x F1=>oB (rngOf1 x) fun ds=>Q ds F1:=by
  unfold mRng1; rw [wp_bind]; simp only [wp_obind,wp_some,oB]
theorem r_mSeq {a:DE→M PyData} {Q:List PyData→FS→Prop}:wp (mSeq a E F) Q ↔ wp (a E F) fun x F1=>oB (seqOf x) fun ds=>Q ds F1:=by
  unfold mSeq; rw [wp_bind]; simp only [wp_obind,wp_some,oB]
theorem r_fLst {a:DE→M (List PyData)} {Q:List PyData→FS→Prop}:wp (fLst a E F) Q ↔ wp (a E F) fun x F1=>x.length ≤ sizeLine ∧ Q x F1:=by
  unfold fLst; rw [wp_bind]
  constructor
  · exact fun h=>wp_mono h fun xs F1 h=>by
      split at h
      · rename_i hl; exact ⟨hl,wp_some.mp h⟩
      · exact (wp_none.mp h).elim
  · exact fun h=>wp_mono h fun xs F1 h=>by rw [if_pos h.1]; exact wp_some.mpr h.2
theorem r_sLC {mi:DE→M (List PyData)} {k:Nat} {cap:List Nat} {bd:PyData→DE→Option DE} {mt:DE→M Bool} {me:DE→M PyData} {Q:PyData→FS→Prop}:wp (sLC mi k cap bd mt me E F) Q ↔ wp (mi E F) fun ds F1=>ds.length ≤ sizeLine ∧ wp (lcGo bd mt me ds (capE k cap E) F1) fun zs F2=>Q (.list zs) F2:=by
  unfold sLC; rw [wp_bind]
  constructor
  · refine fun h=>wp_mono h fun ds F1 h=>?_
    dsimp only at h
    split at h
    · rename_i hl; rw [wp_bind] at h; exact ⟨hl,wp_mono h fun zs F2 h=>wp_some.mp h⟩
    · exact (wp_none.mp h).elim
  · refine fun h=>wp_mono h fun ds F1 h=>?_
    dsimp only
    rw [if_pos h.1,wp_bind]
    exact wp_mono h.2 fun zs F2 h=>wp_some.mpr h
noncomputable def runK (Q:PyData→FS→Prop) (o:Out) (F1:FS):Prop:=match o with
    | .rt d=>Q d F1
    | .nx _=>Q .none F1
    | _=>False
theorem run_rt {Q:PyData→FS→Prop} {d:PyData} (h:Q d F):runK Q (.rt d) F:=h
theorem run_nx {Q:PyData→FS→Prop} {d:DE} (h:Q .none F):runK Q (.nx d) F:=h
theorem r_run {N:List Str} {m:DE→M Out} {args:List DV} {Q:PyData→FS→Prop}:wp (runD N m args F) Q ↔ wp (m (startE N args) F) (runK Q):=by
  unfold runD; rw [wp_bind]
  refine wp_congr fun o F1=>?_
  cases o with
  | nx E1=>exact wp_some
  | rt d=>exact wp_some
  | bk d=>exact wp_none
  | ct d=>exact wp_none
theorem gD_e {o:Option (Option DV)} {d:PyData} {P:PyData→Prop} (h:o = some (some (.dat d))) (q:P d):gD o P:=by rw [h]; exact q
theorem gW_e {o:Option (Option DV)} {d:PyData} {P:PyData→Prop} (h:o = some (some (.dat d))) (q:P d):gW o P:=by rw [h]; exact q
theorem gW_eo {o:Option (Option DV)} {ds:List PyData} {P:PyData→Prop} (h:o = some (some (.own ds))) (q:P (.list ds)):gW o P:=by rw [h]; exact q
theorem gF_e {o:Option (Option DV)} {P:Prop} (h:o = some (some .feed)) (q:P):gF o P:=by rw [h]; exact q
theorem oB_e {γ:Type} {o:Option γ} {z:γ} {P:γ→Prop} (h:o = some z) (q:P z):oB o P:=⟨z,h,q⟩
theorem cIf_te {c:Bool} {A B:Prop} (h:c = true) (q:A):cIf c A B:=by rw [h]; exact cIf_t.mpr q
theorem cIf_fe {c:Bool} {A B:Prop} (h:c = false) (q:B):cIf c A B:=by rw [h]; exact cIf_f.mpr q
theorem le_size {n:Nat} (h:Nat.ble n 10000 = true):n ≤ sizeLine:=Nat.le_trans (Nat.le_of_ble_eq_true h) (by rw [sizeLine_eq]; decide)
theorem lt_len {i n:Nat} (h:Nat.ble (i + 1) n = true):i < n:=Nat.le_of_ble_eq_true h
end
noncomputable def Tr (f:List DV→M PyData) (args:List DV) (c:Int) (P:PyData→Prop):Prop:=∀ F:FdS,F.t + c ≤ 199999→∃ d F',f args F = some (d,F') ∧ F'.t ≤ F.t + c ∧ P d
theorem Tr.wp {f:List DV→M PyData} {args:List DV} {c:Int} {P:PyData→Prop} {F:FdS} {Q:PyData→FdS→Prop} (h:Tr f args c P) (hF:F.t + c ≤ 199999) (q:∀ d F',F'.t ≤ F.t + c→P d→Q d F'):wp (f args F) Q:=by
  obtain ⟨d,F',e,ht,p⟩:=h F hF
  exact ⟨d,F',e,q d F' ht p⟩
theorem Tr.of {f:List DV→M PyData} {args:List DV} {c:Int} {P:PyData→Prop} (h:∀ F:FdS,F.t + c ≤ 199999→L3.wp (f args F) fun d F'=>F'.t ≤ F.t + c ∧ P d):Tr f args c P:=fun F hF=>by
  obtain ⟨d,F',e,q⟩:=h F hF
  exact ⟨d,F',e,q⟩
mutual
noncomputable def cnt:PyData→Nat
  | .tuple ds=>1 + cntL ds
  | .list ds=>1 + cntL ds
  | _=>1
noncomputable def cntL:List PyData→Nat
  | []=>0
  | d :: ds=>cnt d + cntL ds
end
noncomputable def asc (x:Str):Prop:=∀ c ∈ x.cps.toList,c < 128
mutual
noncomputable def scs (n:Nat):PyData→Prop
  | .none=>True
  | .bool _=>True
  | .int i=>i.natAbs < 10 ^ 300 + n
  | .str x=>x.length ≤ 600 + n ∧ asc x
  | .tuple ds=>scsL n ds
  | .list ds=>scsL n ds
  | .dict _=>False
noncomputable def scsL (n:Nat):List PyData→Prop
  | []=>True
  | d :: ds=>scs n d ∧ scsL n ds
end
theorem scsL_iff {n:Nat}:∀ {ds:List PyData},scsL n ds ↔ ∀ d ∈ ds,scs n d
  | []=>by simp [scsL]
  | d :: ds=>by simp [scsL,scsL_iff (ds:=ds)]
structure Gd (n N k:Nat) (d:PyData):Prop where
  sc:scs n d
  dp:d.depth ≤ k
  ct:cnt d ≤ N
theorem Gd.mono {n N k n' N' k':Nat} {d:PyData} (h:Gd n N k d) (h1:n = n' ∨ n ≤ n') (h2:N ≤ N') (h3:k ≤ k'):Gd n' N' k' d:=by
  refine ⟨?_,Nat.le_trans h.dp h3,Nat.le_trans h.ct h2⟩
  have hn:n ≤ n':=by rcases h1 with h | h <;> omega
  have key:∀ m:Nat,∀ d:PyData,sizeOf d < m→scs n d→scs n' d:=by
    intro m
    induction m with
    | zero=>intro d h; exact absurd h (Nat.not_lt_zero _)
    | succ m ih =>
      intro d hm hs
      cases d with
      | none=>trivial
      | bool b=>trivial
      | int i=>simp only [scs] at hs ⊢; omega
      | str x=>simp only [scs] at hs ⊢; exact ⟨by omega,hs.2⟩
      | tuple ds =>
        simp only [scs] at hs ⊢
        rw [scsL_iff] at hs ⊢
        exact fun d hd=>ih d (by have:=List.sizeOf_lt_of_mem hd; simp at hm; omega) (hs d hd)
      | list ds =>
        simp only [scs] at hs ⊢
        rw [scsL_iff] at hs ⊢
        exact fun d hd=>ih d (by have:=List.sizeOf_lt_of_mem hd; simp at hm; omega) (hs d hd)
      | dict kvs=>simp only [scs] at hs
  exact key _ d (Nat.lt_succ_self _) h.sc
theorem depthAll_le {k:Nat}:∀ {ds:List PyData},PyData.depthAll ds ≤ k ↔ ∀ d ∈ ds,d.depth ≤ k
  | []=>by simp [PyData.depthAll]
  | d :: ds=>by
    have:=depthAll_le (k:=k) (ds:=ds)
    simp only [PyData.depthAll,List.mem_cons,forall_eq_or_imp]
    rw [← this]; omega
theorem Gd.tup {n N k M:Nat} {ds:List PyData} (h:∀ d ∈ ds,Gd n M k d) (hc:1 + cntL ds ≤ N):Gd n N (k + 1) (.tuple ds):=by
  refine ⟨?_,?_,?_⟩
  · simp only [scs]; rw [scsL_iff]; exact fun d hd=>(h d hd).sc
  · simp only [PyData.depth]
    have:PyData.depthAll ds ≤ k:=depthAll_le.mpr fun d hd=>(h d hd).dp
    omega
  · simp only [cnt]; exact hc
end L3
namespace L3
open PySem PySem.Spec PyProof.Rows L2
variable [Fam]
structure Nod (d:PyData):Prop where
  sh:d.showable = true
  nd:d.hasDict = false
  cl:d.canLay0 = true
  ln:d.shown.length + 2 ≤ 7100 * cnt d
theorem ten_two:(10:Nat) ^ 300 ≤ 2 ^ 1000:=by
  have h:((10:Nat) ^ 3) ^ 100 ≤ (2 ^ 10) ^ 100:=Nat.pow_le_pow_left (by decide) 100
  rwa [← Nat.pow_mul,← Nat.pow_mul] at h
theorem big_lt {n:Nat} (hn:n ≤ 100):10 ^ 300 + n ≤ 2 ^ 1001:=by
  have h0:=ten_two
  have h1:(2:Nat) ^ 1001 = 2 ^ 1000 + 2 ^ 1000:=by rw [Nat.pow_succ,Nat.mul_two]
  have h2:(2:Nat) ^ 7 ≤ 2 ^ 1000:=Nat.pow_le_pow_right (by decide) (by decide)
  have h3:(2:Nat) ^ 7 = 128:=by decide
  rw [h1]
  generalize (10:Nat) ^ 300 = A at *
  generalize (2:Nat) ^ 1000 = B at *
  omega
theorem nods {ds:List PyData}:(∀ d ∈ ds,Nod d)→PyData.showableAll ds = true ∧ PyData.hasDictAll ds = false ∧ PyData.canLayAll0 ds = true ∧ ((PyData.shownAll ds).map (·.length)).sum + 2 * ds.length ≤ 7100 * cntL ds:=by
  induction ds with
  | nil=>intro _; exact ⟨by simp [PyData.showableAll],by simp [PyData.hasDictAll],by simp [PyData.canLayAll0],by simp [PyData.shownAll,cntL]⟩
  | cons d ds ih =>
    intro h
    obtain ⟨a,b,c,e⟩:=ih fun x hx=>h x (List.mem_cons_of_mem _ hx)
    have hd:=h d List.mem_cons_self
    refine ⟨by simp [PyData.showableAll,hd.sh,a],by simp [PyData.hasDictAll,hd.nd,b],by simp [PyData.canLayAll0,hd.cl,c],?_⟩
    simp only [PyData.shownAll,List.map_cons,List.sum_cons,List.length_cons,cntL]
    have:=hd.ln
    omega
theorem nod_of {n:Nat} (hn:n ≤ 100):∀ m:Nat,∀ d:PyData,sizeOf d < m→scs n d→Nod d:=by
  intro m
  induction m with
  | zero=>intro d h; exact absurd h (Nat.not_lt_zero _)
  | succ m ih =>
    intro d hm hs
    cases d with
    | none=>exact ⟨rfl,rfl,rfl,by decide⟩
    | bool b=>exact ⟨rfl,rfl,rfl,by cases b <;> decide⟩
    | int i =>
      simp only [scs] at hs
      have hb:i.natAbs < 2 ^ 1001:=Nat.lt_of_lt_of_le hs (big_lt hn)
      have:=Shw.int hb (by decide) (by decide)
      exact ⟨this.sh,this.nd,rfl,by have:=this.ln; simp only [cnt]; omega⟩
    | str x =>
      simp only [scs] at hs
      refine ⟨rfl,rfl,?_,?_⟩
      · simp only [PyData.canLay0,PyData.strOk]
        rw [Array.all_eq_true']
        intro c hc
        have:=hs.2 c (by simpa using hc)
        exact decide_eq_true (by omega)
      · have h1:=PySem.StrLaws.reprText_len x fun c hc=>Nat.lt_of_lt_of_le (hs.2 c hc) (by decide)
        simp only [PyData.shown,cnt]
        omega
    | tuple ds =>
      simp only [scs] at hs
      rw [scsL_iff] at hs
      obtain ⟨a,b,c,e⟩:=nods fun d hd=>ih d (by have:=List.sizeOf_lt_of_mem hd; simp at hm; omega) (hs d hd)
      refine ⟨by simpa only [PyData.showable] using a,by simpa only [PyData.hasDict] using b,by simpa only [PyData.canLay0] using c,?_⟩
      have h5:=tupleText_len_le (PyData.shownAll ds)
      have h6:=PyData.shownAll_length ds
      simp only [PyData.shown,cnt]
      omega
    | list ds =>
      simp only [scs] at hs
      rw [scsL_iff] at hs
      obtain ⟨a,b,c,e⟩:=nods fun d hd=>ih d (by have:=List.sizeOf_lt_of_mem hd; simp at hm; omega) (hs d hd)
      refine ⟨by simpa only [PyData.showable] using a,by simpa only [PyData.hasDict] using b,by simpa only [PyData.canLay0] using c,?_⟩
      have h5:=listText_len_le (PyData.shownAll ds)
      have h6:=PyData.shownAll_length ds
      simp only [PyData.shown,cnt]
      omega
    | dict kvs=>simp only [scs] at hs
section
variable {n N k:Nat} {d:PyData}
theorem Gd.nod (h:Gd n N k d) (hn:n ≤ 100):Nod d:=nod_of hn _ d (Nat.lt_succ_self _) h.sc
theorem Gd.repr (h:Gd n N k d) (hn:n ≤ 100) (hN:N ≤ 2000) (hk:k ≤ 50):reprOk d = true:=by
  have hd:=h.nod hn
  unfold reprOk
  rw [hd.sh,hd.nd]
  have h1:=hd.ln
  have h2:=h.ct
  have h3:=h.dp
  simp
  constructor <;> omega
theorem gd_int {i:Int} (h:i.natAbs < 10 ^ 300 + n):Gd n 1 0 (.int i):=⟨h,by simp [PyData.depth],by simp [cnt]⟩
theorem gd_str {x:Str} (h:x.length ≤ 600 + n) (ha:asc x):Gd n 1 0 (.str x):=⟨⟨h,ha⟩,by simp [PyData.depth],by simp [cnt]⟩
end
theorem small_int {i:Int} {n:Nat} (h:i.natAbs ≤ 100000000000000000000000000000000000000000):i.natAbs < 10 ^ 300 + n:=by
  have h1:(10:Nat) ^ 42 ≤ 10 ^ 300:=Nat.pow_le_pow_right (by decide) (by decide)
  have h2:100000000000000000000000000000000000000000 < (10:Nat) ^ 42:=by decide
  generalize (10:Nat) ^ 300 = A at *
  omega
end L3
namespace L3
open PySem PySem.Spec PyProof.Rows L2
variable [Fam]
section
variable {ds es:List PyData} {i j:Int} {x y:Str} {b c:Bool} {d:PyData} {T:String}
theorem e_addI:addD (.int i) (.int j) = some (.int (i + j)):=rfl
theorem e_geI:geD (.int i) (.int j) = some (.bool (decide (j ≤ i))):=rfl
theorem e_ltI:ltD (.int i) (.int j) = some (.bool (decide (i < j))):=rfl
theorem e_leI:leD (.int i) (.int j) = some (.bool (decide (i ≤ j))):=rfl
theorem e_lenT:lenD [.tuple ds] = some (.int ds.length):=rfl
theorem e_lenL:lenD [.list ds] = some (.int ds.length):=rfl
theorem e_tupL:tupleD [.list ds] = some (.tuple ds):=rfl
theorem e_cutL {lo hi:Option Int}:cutD lo hi (.list ds) = some (.list (cutL ds lo hi)):=rfl
theorem e_seqT:seqOf (.tuple ds) = some ds:=rfl
theorem e_seqL:seqOf (.list ds) = some ds:=rfl
theorem e_intB:intD [.bool b] = some (.int (if b then 1 else 0)):=rfl
end
end L3
set_option hygiene false
local macro_rules | `(tactic| walk_at "st")=>`(tactic| first | (with_reducible first | refine L3.sq_nx ?_ | refine L3.sq_rt ?_ | refine L3.run_rt ?_ | refine L3.r_mSq.mpr ?_ | refine L3.r_mIf.mpr ?_ | refine L3.r_mSet.mpr ?_ | refine L3.r_mRt.mpr ?_ | refine L3.r_mNx.mpr ?_ | refine r_uAnd.mpr ?_ | refine L3.r_uOr.mpr ?_ | refine L3.r_uNot.mpr ?_ | refine L3.r_uB.mpr ?_ | refine L3.r_uT.mpr ?_ | refine L3.r_uYes.mpr ?_ | refine L3.r_s2.mpr ?_ | refine L3.r_s1.mpr ?_ | refine L3.r_sN.mpr ?_ | refine L3.r_sC.mpr ?_ | refine L3.r_sV.mpr ?_ | refine L3.r_sW.mpr ?_ | refine L3.r_sNil.mpr ?_ | refine L3.r_sCons.mpr ?_ | refine L3.r_sTup.mpr ?_ | refine L3.r_sLst.mpr ?_ | refine L3.r_vNil.mpr ?_ | refine L3.r_vD.mpr ?_ | refine L3.r_vF.mpr ?_ | refine L3.r_sCall.mpr ?_ | refine L3.r_cut.mpr ?_ | refine L3.r_oNo.mpr ?_ | refine L3.r_oI.mpr ?_ | refine L3.r_sAnd.mpr ?_ | refine r_sOr.mpr ?_ | refine r_sNot.mpr ?_ | refine L3.r_sIf.mpr ?_ | refine L3.r_mAsg.mpr ?_ | refine L3.r_mOwn.mpr ?_ | refine L3.r_mFor.mpr ?_ | refine L3.r_mRng1.mpr ?_ | refine L3.r_mSeq.mpr ?_ | refine L3.r_fLst.mpr ?_ | refine r_fCat.mpr ?_ | refine L3.r_sLC.mpr ?_) | ((with_reducible refine L3.r_run.mpr ?_); try dsimp only [L3.startE,List.map_cons,List.map_nil,List.length_cons,List.length_nil,List.replicate,List.cons_append,List.nil_append,Nat.reduceAdd,Nat.reduceSub]) | ((with_reducible apply L3.gD_e); exact rfl) | ((with_reducible apply L3.gW_e); exact rfl) | ((with_reducible apply L3.gW_eo); exact rfl) | ((with_reducible apply L3.gF_e); exact rfl) | ((with_reducible apply L3.oB_e); first | exact e_isin | exact rfl) | ((with_reducible refine And.intro (L3.le_size ?_) ?_); exact rfl) | ((with_reducible refine And.intro (L3.lt_len ?_) ?_); exact rfl; try dsimp only [List.set_cons_zero,List.set_cons_succ]))
local macro_rules | `(tactic| walk_at "rd")=>`(tactic| (repeat walk_at "st"))
local macro_rules | `(tactic| walk_at "ty")=>`(tactic| first | refine L3.cIf_fe L3.t_NoneType_tuple ?_ | refine L3.cIf_fe L3.t_NoneType_bool ?_ | refine L3.cIf_fe L3.t_NoneType_int ?_ | refine L3.cIf_fe L3.t_NoneType_str ?_ | refine L3.cIf_fe L3.t_NoneType_list ?_ | refine L3.cIf_fe L3.t_bool_tuple ?_ | refine L3.cIf_te L3.t_bool_bool ?_ | refine L3.cIf_te L3.t_bool_int ?_ | refine L3.cIf_fe L3.t_bool_str ?_ | refine L3.cIf_fe L3.t_bool_list ?_ | refine L3.cIf_fe L3.t_int_tuple ?_ | refine L3.cIf_fe L3.t_int_bool ?_ | refine L3.cIf_te L3.t_int_int ?_ | refine L3.cIf_fe L3.t_int_str ?_ | refine L3.cIf_fe L3.t_int_list ?_ | refine L3.cIf_fe L3.t_str_tuple ?_ | refine L3.cIf_fe L3.t_str_bool ?_ | refine L3.cIf_fe L3.t_str_int ?_ | refine L3.cIf_te L3.t_str_str ?_ | refine L3.cIf_fe L3.t_str_list ?_ | refine L3.cIf_fe L3.t_list_tuple ?_ | refine L3.cIf_fe L3.t_list_bool ?_ | refine L3.cIf_fe L3.t_list_int ?_ | refine L3.cIf_fe L3.t_list_str ?_ | refine L3.cIf_te L3.t_list_list ?_ | refine L3.cIf_te L3.t_tuple_tuple ?_ | refine L3.cIf_fe L3.t_tuple_bool ?_ | refine L3.cIf_fe L3.t_tuple_int ?_ | refine L3.cIf_fe L3.t_tuple_str ?_ | refine L3.cIf_fe L3.t_tuple_list ?_)
local macro_rules | `(tactic| walk_at "go")=>`(tactic| (repeat first | walk_at "st" | walk_at "ty"))
namespace L3
open PySem PySem.Spec PyProof.Rows L2
variable [Fam]
theorem t_NoneType_tuple:isT "NoneType" "tuple" = false:=by decide +kernel
theorem t_NoneType_bool:isT "NoneType" "bool" = false:=by decide +kernel
theorem t_NoneType_int:isT "NoneType" "int" = false:=by decide +kernel
theorem t_NoneType_str:isT "NoneType" "str" = false:=by decide +kernel
theorem t_NoneType_list:isT "NoneType" "list" = false:=by decide +kernel
theorem t_bool_tuple:isT "bool" "tuple" = false:=by decide +kernel
theorem t_bool_bool:isT "bool" "bool" = true:=by decide +kernel
theorem t_bool_int:isT "bool" "int" = true:=by decide +kernel
theorem t_bool_str:isT "bool" "str" = false:=by decide +kernel
theorem t_bool_list:isT "bool" "list" = false:=by decide +kernel
theorem t_int_tuple:isT "int" "tuple" = false:=by decide +kernel
theorem t_int_bool:isT "int" "bool" = false:=by decide +kernel
theorem t_int_int:isT "int" "int" = true:=by decide +kernel
theorem t_int_str:isT "int" "str" = false:=by decide +kernel
theorem t_int_list:isT "int" "list" = false:=by decide +kernel
theorem t_str_tuple:isT "str" "tuple" = false:=by decide +kernel
theorem t_str_bool:isT "str" "bool" = false:=by decide +kernel
theorem t_str_int:isT "str" "int" = false:=by decide +kernel
theorem t_str_str:isT "str" "str" = true:=by decide +kernel
theorem t_str_list:isT "str" "list" = false:=by decide +kernel
theorem t_list_tuple:isT "list" "tuple" = false:=by decide +kernel
theorem t_list_bool:isT "list" "bool" = false:=by decide +kernel
theorem t_list_int:isT "list" "int" = false:=by decide +kernel
theorem t_list_str:isT "list" "str" = false:=by decide +kernel
theorem t_list_list:isT "list" "list" = true:=by decide +kernel
theorem t_tuple_tuple:isT "tuple" "tuple" = true:=by decide +kernel
theorem t_tuple_bool:isT "tuple" "bool" = false:=by decide +kernel
theorem t_tuple_int:isT "tuple" "int" = false:=by decide +kernel
theorem t_tuple_str:isT "tuple" "str" = false:=by decide +kernel
theorem t_tuple_list:isT "tuple" "list" = false:=by decide +kernel
section
variable {s N k:Nat}
end
variable [Fam]
theorem sz {n:Nat} (h:n ≤ 100000):n ≤ sizeLine:=Nat.le_trans h (by rw [sizeLine_eq]; decide)
theorem sIx_lo {n:Nat} {i:Int} (h:0 ≤ i):HT.sIx n 0 (some i) = min i.toNat n:=by
  obtain ⟨j,rfl⟩:∃ j:Nat,i = j:=⟨i.toNat,by omega⟩
  exact HT.sIx_nat _ _ j
theorem sIx_hi {n:Nat} {i:Int} (h:0 ≤ i):HT.sIx n n (some i) = min i.toNat n:=by
  obtain ⟨j,rfl⟩:∃ j:Nat,i = j:=⟨i.toNat,by omega⟩
  exact HT.sIx_nat _ _ j
theorem cut_to {α:Type} {xs:List α} {i:Int} (h:0 ≤ i):cutL xs none (some i) = xs.take i.toNat:=by
  unfold cutL
  rw [sIx_hi h,HT.sIx_none,List.drop_zero,Nat.sub_zero]
  by_cases hl:i.toNat ≤ xs.length
  · rw [Nat.min_eq_left hl]
  · rw [Nat.min_eq_right (by omega),List.take_of_length_le (Nat.le_refl _),List.take_of_length_le (by omega)]
theorem cut_from {α:Type} {xs:List α} {i:Int} (h:0 ≤ i):cutL xs (some i) none = xs.drop i.toNat:=by
  unfold cutL
  rw [sIx_lo h]
  have e:HT.sIx xs.length xs.length none = xs.length:=HT.sIx_none ..
  rw [e]
  by_cases hl:i.toNat ≤ xs.length
  · rw [Nat.min_eq_left hl,List.take_of_length_le (by rw [List.length_drop]; omega)]
  · rw [Nat.min_eq_right (by omega),List.drop_of_length_le (Nat.le_refl _),List.drop_of_length_le (by omega),List.take_nil]
theorem add_l {xs ys:List PyData} (h:xs.length + ys.length ≤ 100000):addD (.list xs) (.list ys) = some (.list (xs ++ ys)):=if_pos (sz h)
variable [Fam]
variable [Fam]
theorem for_inv {bd:PyData→DE→Option DE} {body:DE→M Out} {Q:Out→FdS→Prop} (I:Nat→DE→FdS→Prop):∀ (items:List PyData) (n:Nat) (E:DE) (F:FdS),I n E F →
    (∀ i d,items[i]? = some d→∀ E F,I (n + i) E F→∃ E1,bd d E = some E1 ∧ wp (body E1 F) fun o F'=>∃ E2,o = .nx E2 ∧ I (n + i + 1) E2 F')→(∀ E F,I (n + items.length) E F→Q (.nx E) F)→wp (forGo bd body items E F) Q
  | [],n,E,F,h,_,hq=>wp_some.mpr (hq E F h)
  | d :: r,n,E,F,h,st,hq=>by
    obtain ⟨E1,e1,h1⟩:=st 0 d rfl E F h
    rw [forGo,e1,Option.bind_some,wp_bind]
    refine wp_mono h1 fun o F1 ⟨E2,e2,h2⟩=>?_
    subst e2
    refine for_inv I r (n + 1) E2 F1 h2 (fun i d e E F hI=>?_) (fun E F hI=>hq E F (by rw [List.length_cons]; rw [show n + (r.length + 1) = n + 1 + r.length by omega]; exact hI))
    have:=st (i + 1) d (by simpa using e) E F (by rw [show n + (i + 1) = n + 1 + i by omega]; exact hI)
    rw [show n + (i + 1) + 1 = n + 1 + i + 1 by omega] at this
    exact this
theorem rng_len {lo:Int} {n:Nat}:(rngL lo n).length = n:=by simp [rngL]
theorem mul_i {i j:Int} (h:CMul i j):mulD' (.int i) (.int j) = some (.int (i * j)):=if_pos (.inl h)
variable [Fam]
section
variable {F:FdS} {Q:PyData→FdS→Prop} {n:Nat}
theorem rep_e {d:PyData} (h:reprOk d = true):reprD [d] = some (.str d.shown):=if_pos h
theorem r_sCh {f g:PyData→PyData→Option PyData} {a b c:DE→M PyData} {E:DE} {F:FdS} {Q:PyData→FdS→Prop}:wp (sCh f g a b c E F) Q ↔ wp (a E F) fun x F1=>wp (b E F1) fun y F2=>oB (f x y) fun z=>oB (boolOf z) fun t=>cIf t (wp (c E F2) fun w F3=>oB (g y w) fun v=>Q v F3) (Q (.bool false) F2):=by
  unfold sCh; rw [wp_bind]; refine wp_congr fun x F1=>?_; rw [wp_bind]; refine wp_congr fun y F2=>?_
  simp only [wp_obind,oB]
  refine exists_congr fun z=>and_congr_right fun _=>exists_congr fun t=>and_congr_right fun _=>?_
  cases t
  · simp only [Bool.false_eq_true,if_false,cIf_f]; exact wp_some
  · simp only [if_true,cIf_t]; rw [wp_bind]; refine wp_congr fun w F3=>?_; simp only [wp_obind,wp_some]
end
section
variable {F:FdS} {Q:Out→FdS→Prop} {E:DE} {i:Nat} {ds:List PyData}
theorem app_w {v:DE→M PyData} (he:ownOf E i = some ds) (hl:ds.length ≤ 100000) (q:wp (v E F) fun x F1=>Q (.nx (E.set i (some (.own (ds ++ [x]))))) F1):wp (mApp i v E F) Q:=by
  unfold mApp; rw [wp_bind]
  refine wp_mono q fun x F1 h=>?_
  rw [he,Option.bind_some,if_pos (Nat.lt_of_le_of_lt hl (by rw [sizeLine_eq]; decide))]
  exact wp_some.mpr h
theorem enum_w {a:DE→M PyData} {Q:List PyData→FdS→Prop} (q:wp (a E F) fun x F1=>oB (seqOf x) fun ds=>Q (enumL 0 ds) F1):wp (mEnum a E F) Q:=by
  unfold mEnum; rw [wp_bind]
  refine wp_mono q fun x F1 h=>?_
  obtain ⟨ds,e,q⟩:=h
  dsimp only
  rw [e,Option.bind_some]
  exact wp_some.mpr q
end
variable [Fam]
theorem cntL_mul {c:Nat}:∀ {ds:List PyData},(∀ d ∈ ds,cnt d ≤ c)→cntL ds ≤ c * ds.length
  | [],_=>by simp [cntL]
  | d :: ds,h=>by
    have h1:=h d List.mem_cons_self
    have h2:=cntL_mul (c:=c) (ds:=ds) fun d hd=>h d (List.mem_cons_of_mem _ hd)
    rw [cntL,List.length_cons,Nat.mul_add,Nat.mul_one]
    omega
variable [Fam]
variable [Fam]
variable [Fam]
variable [Fam]
section
variable {B:Int}
end
section
variable {F:FdS} {E:DE}
end
theorem ixN_n {n:Nat} {i:Int} (h0:0 ≤ i) (h1:i < n):ixN n i = some i.toNat:=by
  unfold ixN; rw [if_pos h0,if_pos h1]
variable [Fam]
theorem rng1_i {i:Int} (h0:-(2 ^ 62) ≤ i) (h1:i < 2 ^ 62):rngOf1 [.int i] = some (rngL 0 i.toNat):=if_pos ⟨h0,h1⟩
theorem rng1_e {n:Nat} (h:n ≤ 100000):rngOf1 [.int (n:Nat)] = some (rngL 0 n):=by
  have e:=rng1_i (i:=(n:Int)) (by omega) (by omega)
  rwa [Int.toNat_natCast] at e
end L3
namespace L3
open L2
end L3
namespace L3
open PySem PySem.Spec PyProof.Rows L2
noncomputable def natD (l:List Nat):List PyData:=l.map fun i:Nat=>PyData.int (i:Int)
theorem rng_nat (n:Nat):rngL 0 n = natD (List.range n):=by
  unfold rngL natD
  exact List.map_congr_left fun i _=>by congr 1; omega
section
variable [Fam]
end
section
variable [Fam]
variable {F:FdS} {Q:PyData→FdS→Prop}
end
variable [Fam]
section
variable {F:FdS} {Q:PyData→FdS→Prop}
end
variable [Fam]
theorem gInt {i:Int} {n:Nat} (h0:-100000 ≤ i) (h1:i ≤ 100000):Gd n 1 0 (.int i):=gd_int (small_int (by omega))
theorem two_gd {n N M k:Nat} {a b:PyData} (ha:Gd n N k a) (hb:Gd n M k b):Gd n (1 + N + M) (k + 1) (.tuple [a,b]):=by
  refine Gd.tup (M:=N + M) (fun z hz=>?_) ?_
  · simp only [List.mem_cons,List.not_mem_nil,or_false] at hz
    rcases hz with rfl | rfl
    · exact ha.mono (.inl rfl) (by omega) (Nat.le_refl _)
    · exact hb.mono (.inl rfl) (by omega) (Nat.le_refl _)
  · have:=ha.ct; have:=hb.ct
    simp only [cntL]; omega
end L3
namespace L3
open L2
end L3
namespace L3
open L2
theorem map_range {α β:Type} (d:α) (f:α→β):∀ l:List α,(List.range l.length).map (fun i=>f (l.getD i d)) = l.map f:=fun l=>by
  apply List.ext_getElem
  · simp
  · intro i h1 h2
    simp only [List.length_map,List.length_range] at h1
    simp [h1]
noncomputable abbrev Bt:=List (Int × Int)
noncomputable def btAt (way:List Bt) (i:Nat):Bt:=way.getD i []
noncomputable def lens (way:List Bt):Nat:=(way.map List.length).sum
theorem lens_take {way:List Bt} {i:Nat} (h:i < way.length):lens (way.take (i + 1)) = lens (way.take i) + (btAt way i).length:=by
  unfold lens btAt
  have e:way.getD i [] = way[i]:=by simp [h]
  rw [List.take_add_one,List.getElem?_eq_getElem h,List.map_append,List.sum_append,e]
  rfl
theorem lens_le (way:List Bt) (i:Nat):lens (way.take i) ≤ lens way:=by
  conv=>rhs; rw [← List.take_append_drop i way]
  unfold lens
  rw [List.map_append,List.sum_append]
  omega
end L3
namespace L3
open L2
end L3
namespace L3
open L2
end L3
namespace L3
open L2
section
variable {h c:Nat} {rk L w:Nat→Int}
end
end L3
namespace L3
open PySem PySem.Spec PyProof.Rows L2
variable [Fam]
noncomputable abbrev cmD (c:Int × Int):PyData:=.tuple [.int c.1,.int c.2]
noncomputable abbrev b2:PyData→DE→Option DE:=bTup 2 (bCons (bN 0) (bCons (bN 1) bNil))
section
variable {F:FdS}
theorem lcm2 {me:DE→M PyData} {α:Type} {x y:α→PyData} {f:α→PyData} {rest:DE} {Q:List PyData→FdS→Prop}:∀ (ds:List α) (o o':Option DV),(∀ d ∈ ds,∀ (F:FdS) (Q:PyData→FdS→Prop),Q (f d) F→wp (me (some (.dat (x d)) :: some (.dat (y d)) :: rest) F) Q)→Q (ds.map f) F→wp (lcGo b2 uYes me (ds.map fun d=>.tuple [x d,y d]) (o :: o' :: rest) F) Q
  | [],o,o',_,q=>wp_some.mpr q
  | d :: ds,o,o',h,q=>by
    rw [List.map_cons,lcGo]
    have e:b2 (.tuple [x d,y d]) (o :: o' :: rest) = some (some (.dat (x d)) :: some (.dat (y d)) :: rest):=rfl
    rw [e,Option.bind_some,wp_bind]
    refine r_uYes.mpr ?_
    rw [if_pos rfl,wp_bind]
    refine h d List.mem_cons_self F _ ?_
    rw [wp_bind]
    exact lcm2 ds _ _ (fun d hd=>h d (List.mem_cons_of_mem _ hd)) (wp_some.mpr q)
theorem eqv_ii {a b:Int}:(PyData.int a).eqv (.int b) = decide (a = b):=by
  simp only [PyData.eqv]
  exact Bool.beq_eq_decide_eq ..
end
section
variable {F:FdS} {Q:PyData→FdS→Prop}
end
variable [Fam]
section
variable {F:FdS} {Q:PyData→FdS→Prop}
end
variable [Fam]
noncomputable abbrev btD (b:Bt):PyData:=.tuple (b.map cmD)
theorem bt_get {way:List Bt} {i:Nat} {d:PyData} (h:(way.map btD)[i]? = some d):i < way.length ∧ d = btD (btAt way i):=by
  rw [List.getElem?_map] at h
  obtain ⟨b,e,rfl⟩:=Option.map_eq_some_iff.mp h
  obtain ⟨hi,rfl⟩:=List.getElem?_eq_some_iff.mp e
  exact ⟨hi,by unfold btAt; simp [hi]⟩
theorem map_at {f:Nat→PyData} {n i:Nat} (h:i < n):atI ((List.range n).map f) (i:Int) = some (f i):=by
  refine atI_nat ?_
  rw [List.getElem?_map,List.getElem?_eq_getElem (by simpa using h)]
  simp
theorem rng_get {n i:Nat} {d:PyData} {f:Nat→PyData} (h:((List.range n).map f)[i]? = some d):i < n ∧ d = f i:=by
  rw [List.getElem?_map] at h
  obtain ⟨b,e,rfl⟩:=Option.map_eq_some_iff.mp h
  obtain ⟨hi,rfl⟩:=List.getElem?_eq_some_iff.mp e
  simp only [List.length_range] at hi
  exact ⟨hi,by simp⟩
section
variable {F:FdS} {Q:PyData→FdS→Prop}
end
variable [Fam]
section
variable {F:FdS} {Q:PyData→FdS→Prop}
end
variable [Fam]
noncomputable def c_wayN (nm:List Str):List DV→M PyData:=runD nm (mSq (mOwn 3 (fLst sNil))
    (mSq (mSet 4 (sC (.int 0)))
    (mSq (mFor (mRng1 (sCons (sCall drawS (vF 0 (vD (s2 addD (sW 1) (sC (.int 1))) vNil))) sNil)) (bN 5) (mSq (mOwn 6 (fLst sNil))
    (mSq (mFor (mRng1 (sCons (s2 ixD (sC (.list [.int 0,.int 0,.int 1,.int 1,.int 2,.int 3])) (sCall drawS (vF 0 (vD (sC (.int 6)) vNil)))) sNil)) (bN 7) (mIf (uB (s2 ltD (sW 4) (sC (.int 40)))) (mSq (mApp 6 (sTup (sCons (sCall drawS (vF 0 (vD (sC (.int 2)) vNil))) (sCons (s2 addD (sC (.int 1)) (sCall drawS (vF 0 (vD (sV 2) vNil)))) sNil))))
    (mSet 4 (s2 addD (sW 4) (sC (.int 1))))) mNx))
    (mApp 3 (sN tupleD (sCons (sW 6) sNil))))))
    (mRt (sN tupleD (sCons (sW 3) sNil))))))
noncomputable abbrev nmB:List Str:=["_law_feed_here","_law_beats","_law_works","_law_way_here","_law_many","_law_k","_law_beat","_law_j"]
noncomputable def CmOk (c:Int × Int):Prop:=0 ≤ c.1 ∧ c.1 ≤ 1 ∧ 1 ≤ c.2 ∧ c.2 ≤ 6
structure WayOk (n:Nat) (way:List Bt):Prop where
  len:way.length ≤ n
  many:lens way ≤ 40
  ok:∀ b ∈ way,∀ c ∈ b,CmOk c
theorem lens_app (way:List Bt) (b:Bt):lens (way ++ [b]) = lens way + b.length:=by
  unfold lens
  rw [List.map_append,List.sum_append]
  rfl
theorem six {r:Int} (r0:0 ≤ r) (r1:r < 6):∃ c:Nat,ixD (.list [.int 0,.int 0,.int 1,.int 1,.int 2,.int 3]) (.int r) = some (.int (c:Int)) ∧ c ≤ 3:=by
  have:r = 0 ∨ r = 1 ∨ r = 2 ∨ r = 3 ∨ r = 4 ∨ r = 5:=by omega
  rcases this with rfl | rfl | rfl | rfl | rfl | rfl
  · exact ⟨0,rfl,by decide⟩
  · exact ⟨0,rfl,by decide⟩
  · exact ⟨1,rfl,by decide⟩
  · exact ⟨1,rfl,by decide⟩
  · exact ⟨2,rfl,by decide⟩
  · exact ⟨3,rfl,by decide⟩
theorem wayN_tr {nm:List Str} (hnm:nm.length = 8) {n w:Nat} (hn:n ≤ 24) (w1:1 ≤ w) (w2:w ≤ 6):Tr (c_wayN nm) [.feed,.dat (.int (n:Int)),.dat (.int (w:Int))] 170 (fun d=>∃ way:List Bt,d = .tuple (way.map btD) ∧ WayOk n way):=Tr.of fun F hF=>by
  unfold c_wayN
  refine r_run.mpr ?_
  have es:startE nm [.feed,.dat (.int (n:Int)),.dat (.int (w:Int))] = [some .feed,some (.dat (.int (n:Int))),some (.dat (.int (w:Int))),none,none,none,none,none]:=by unfold startE; rw [hnm]; rfl
  rw [es]
  walk_at "go"
  refine wp_draw (by omega) (by omega) (by omega) fun r F1 r0 r1 t1=>?_
  refine r_sNil.mpr (oB_e (rng1_i (by omega) (by omega)) ?_)
  refine for_inv (fun m E F'=>F'.t ≤ F.t + 1 + 7 * m ∧ ∃ way:List Bt,∃ o5 o6 o7,E = [some .feed,some (.dat (.int (n:Int))),some (.dat (.int (w:Int))),some (.own (way.map btD)),some (.dat (.int (lens way:Nat))),o5,o6,o7] ∧ way.length = m ∧ lens way ≤ 40 ∧ ∀ b ∈ way,∀ c ∈ b,CmOk c) _ 0 _ F1 ⟨by omega,[],none,none,none,rfl,rfl,by decide,fun b hb=>by cases hb⟩ ?_ ?_
  · rintro m d e E F2 ⟨t2,way,o5,o6,o7,rfl,hw,hm,ho⟩
    have hi:=(List.getElem?_eq_some_iff.mp e).1
    rw [rng_len] at hi
    refine ⟨_,rfl,?_⟩
    walk_at "go"
    refine wp_draw (by decide) (by decide) (by omega) fun r2 F3 r20 r21 t3=>?_
    obtain ⟨c,ec,hc⟩:=six r20 r21
    refine oB_e ec (r_sNil.mpr (oB_e (rng1_i (by omega) (by omega)) ?_))
    refine for_inv (fun j E F'=>F'.t ≤ F2.t + 1 + 2 * j ∧ ∃ bt:Bt,∃ o5 o7,E = [some .feed,some (.dat (.int (n:Int))),some (.dat (.int (w:Int))),some (.own (way.map btD)),some (.dat (.int (lens way + bt.length:Nat))),o5,some (.own (bt.map cmD)),o7] ∧ bt.length ≤ j ∧ lens way + bt.length ≤ 40 ∧ ∀ c ∈ bt,CmOk c) _ 0 _ F3 ⟨by omega,[],_,_,rfl,Nat.le_refl _,hm,fun b hb=>by cases hb⟩ ?_ ?_
    · rintro j d2 e2 E F4 ⟨t4,bt,o5,o7,rfl,hbl,hbm,hbo⟩
      have hj:=(List.getElem?_eq_some_iff.mp e2).1
      rw [rng_len] at hj
      refine ⟨_,rfl,?_⟩
      refine r_mIf.mpr (r_uB.mpr (r_s2.mpr (r_sW.mpr (gW_e rfl (r_sC.mpr (oB_e rfl (oB_e rfl (cIf_2 (fun hc=>?_) fun hc=>?_))))))))
      · have hc:((lens way + bt.length:Nat):Int) < 40:=of_decide_eq_true hc
        refine r_mSq.mpr (app_w rfl (by rw [List.length_map]; omega) ?_)
        walk_at "go"
        refine wp_draw (by decide) (by decide) (by omega) fun a F5 a0 a1 t5=>?_
        walk_at "go"
        refine wp_draw (by omega) (by omega) (by omega) fun b F6 b0 b1 t6=>?_
        walk_at "go"
        refine ⟨_,rfl,by omega,bt ++ [(a,1 + b)],o5,some (.dat d2),?_,by simp; omega,by simp; omega,fun c hc=>?_⟩
        · have e1:(lens way + (bt ++ [(a,1 + b)]).length:Nat) = (lens way + bt.length) + 1:=by simp; omega
          rw [e1,List.map_append]
          rfl
        · rcases List.mem_append.mp hc with hc | hc
          · exact hbo c hc
          · simp only [List.mem_singleton] at hc
            subst hc
            exact ⟨a0,by show a ≤ 1; omega,by show 1 ≤ 1 + b; omega,by show 1 + b ≤ 6; omega⟩
      · exact r_mNx.mpr ⟨_,rfl,by omega,bt,_,_,rfl,by omega,hbm,hbo⟩
    · rintro E F4 ⟨t4,bt,o5,o7,rfl,hbl,hbm,hbo⟩
      rw [rng_len] at t4
      refine sq_nx (app_w rfl (by rw [List.length_map]; omega) ?_)
      walk_at "go"
      refine ⟨_,rfl,by omega,way ++ [bt],o5,some (.own (bt.map cmD)),o7,?_,by simp [hw],by rw [lens_app]; exact hbm,fun b hb=>?_⟩
      · rw [lens_app,List.map_append]; rfl
      · rcases List.mem_append.mp hb with hb | hb
        · exact ho b hb
        · simp only [List.mem_singleton] at hb
          subst hb
          exact hbo
  · rintro E F2 ⟨t2,way,o5,o6,o7,rfl,hw,hm,ho⟩
    rw [rng_len] at t2 hw
    walk_at "go"
    exact ⟨by omega,way,rfl,by omega,hm,ho⟩
variable [Fam]
theorem cm_gd {c:Int × Int} (h:CmOk c):Gd 0 3 1 (cmD c):=by
  obtain ⟨h1,h2,h3,h4⟩:=h
  exact two_gd (N:=1) (M:=1) (gInt (by omega) (by omega)) (gInt (by omega) (by omega))
theorem lcm1 {me:DE→M PyData} {α:Type} {F:FdS} {x:α→PyData} {f:α→PyData} {rest:DE} {Q:List PyData→FdS→Prop}:∀ (ds:List α) (o:Option DV),(∀ d ∈ ds,∀ (F:FdS) (Q:PyData→FdS→Prop),Q (f d) F→wp (me (some (.dat (x d)) :: rest) F) Q)→Q (ds.map f) F→wp (lcGo (bN 0) uYes me (ds.map x) (o :: rest) F) Q:=fun ds o h q=>by
  have key:∀ (l:List α) (o:Option DV) (Q:List PyData→FdS→Prop),(∀ d ∈ l,d ∈ ds)→Q (l.map f) F→wp (lcGo (bN 0) uYes me (l.map x) (o :: rest) F) Q:=by
    intro l
    induction l with
    | nil=>intro o Q _ q; exact wp_some.mpr q
    | cons d l ih =>
      intro o Q hs q
      rw [List.map_cons,lcGo]
      have e:bN 0 (x d) (o :: rest) = some (some (.dat (x d)) :: rest):=rfl
      rw [e,Option.bind_some,wp_bind]
      refine r_uYes.mpr ?_
      rw [if_pos rfl,wp_bind]
      refine h d (hs d List.mem_cons_self) F _ ?_
      rw [wp_bind]
      exact ih _ _ (fun z hz=>hs z (List.mem_cons_of_mem _ hz)) (wp_some.mpr q)
  exact key ds o Q (fun d hd=>hd) q
theorem btAt_mem {way:List Bt} {P:Int × Int→Prop} (h:∀ b ∈ way,∀ c ∈ b,P c) (i:Nat):∀ c ∈ btAt way i,P c:=by
  unfold btAt
  by_cases hi:i < way.length
  · have:way.getD i [] = way[i]:=by simp [hi]
    rw [this]
    exact h _ (List.getElem_mem hi)
  · have:way.getD i [] = []:=by simp [Nat.not_lt.mp hi]
    rw [this]
    intro c hc
    cases hc
variable [Fam]
theorem pubJ_w {i:Nat} {m:DE→M Out} {E:DE} {F:FdS} {ds:List PyData} {Q:Out→FdS→Prop} (he:ownOf E i = some ds) (q:wp (m (E.set i (some (.dat (.list ds)))) F) Q):wp (mPub i m E F) Q:=by
  unfold mPub; rw [he,Option.bind_some]; exact q
theorem augJ_w {f:Int→Int→Int} {i:Nat} {a:DE→M PyData} {E:DE} {F:FdS} {x:Int} {Q:Out→FdS→Prop} (he:E[i]? = some (some (.dat (.int x)))) (q:wp (a E F) fun d F1=>∃ y:Int,d = .int y ∧ Q (.nx (E.set i (some (.dat (.int (f x y)))))) F1):wp (mAug f i a E F) Q:=by
  unfold mAug
  rw [he]
  dsimp only
  rw [wp_bind]
  refine wp_mono q fun d F1 ⟨y,e,q⟩=>?_
  subst e
  have hl:i < E.length:=(List.getElem?_eq_some_iff.mp he).1
  have e2:bN i (.int (f x y)) E = some (E.set i (some (.dat (.int (f x y))))):=by unfold bN; rw [if_pos hl]
  show wp ((bN i (.int (f x y)) E).bind _) Q
  rw [e2]
  exact wp_some.mpr q
section
variable {F:FdS} {Q:PyData→FdS→Prop}
end
end L3
namespace L3
open PySem PySem.Spec PyProof.Rows L2
noncomputable def cntW (way:List Bt) (m:Nat):Nat:=lens (way.take m)
theorem cntW_succ {way:List Bt} {m:Nat} (h:m < way.length):cntW way (m + 1) = cntW way m + (btAt way m).length:=lens_take h
theorem cntW_le (way:List Bt) (m:Nat):cntW way m ≤ lens way:=lens_le way m
theorem flat_len (l:List Bt):l.flatten.length = lens l:=by
  unfold lens
  rw [List.length_flatten]
theorem flat_get {way:List Bt} {m j:Nat} (hm:m < way.length) (hj:j < (btAt way m).length):way.flatten.getD (cntW way m + j) (0,0) = (btAt way m).getD j (0,0):=by
  have e:way = way.take m ++ btAt way m :: way.drop (m + 1):=by
    unfold btAt
    have:way.getD m [] = way[m]:=by simp [hm]
    rw [this]
    simp
  have e2:way.flatten = (way.take m).flatten ++ (btAt way m ++ (way.drop (m + 1)).flatten):=by
    conv=>lhs; rw [e]
    rw [List.flatten_append,List.flatten_cons]
  rw [e2,List.getD_eq_getElem?_getD,List.getElem?_append_right (by rw [flat_len]; unfold cntW; omega),flat_len]
  have e3:cntW way m + j - lens (way.take m) = j:=by unfold cntW; omega
  rw [e3,List.getElem?_append_left hj,List.getD_eq_getElem?_getD]
section
variable (h:Nat) (way:List Bt)
end
section
variable {h:Nat} {way:List Bt} {m:Nat}
theorem range_two (a b:Nat):List.range (a + b) = List.range a ++ (List.range b).map (a + ·):=List.range_add ..
end
end L3
namespace L3
open PySem PySem.Spec PyProof.Rows L2
variable [Fam]
section
variable {F:FdS} {Q:PyData→FdS→Prop}
end
variable [Fam]
section
variable {F:FdS} {Q:PyData→FdS→Prop}
theorem enum_go (N:Nat) (f:Nat→PyData):enumL 0 ((List.range N).map f) = (List.range N).map fun i=>.tuple [.int (i:Int),f i]:=by
  have key:∀ (l:List PyData) (k:Nat),enumL k l = (List.range l.length).map fun i=>.tuple [.int ((k + i:Nat):Int),l.getD i .none]:=by
    intro l
    induction l with
    | nil=>intro k; rfl
    | cons d l ih =>
      intro k
      rw [enumL,ih,List.length_cons,List.range_succ_eq_map,List.map_cons,List.map_map]
      have e1:(PyData.tuple [.int (k:Int),d]) = .tuple [.int ((k + 0:Nat):Int),(d :: l).getD 0 .none]:=by simp
      rw [← e1]
      refine congrArg (List.cons _) (List.map_congr_left fun i _=>?_)
      simp only [Function.comp,Nat.succ_eq_add_one,List.getD_cons_succ]
      rw [show k + 1 + i = k + (i + 1) by omega]
  rw [key,List.length_map,List.length_range]
  refine List.map_congr_left fun i hi=>?_
  have hi:=List.mem_range.mp hi
  rw [Nat.zero_add,List.getD_eq_getElem?_getD,List.getElem?_map,List.getElem?_eq_getElem (by simpa using hi)]
  simp
end
end L3
namespace L3
open PySem PySem.Spec PyProof.Rows L2
end L3
namespace L3
open PySem PySem.Spec PyProof.Rows L2
end L3
namespace L3
open PySem PySem.W PySem.Spec PyProof.Rows L2
section
variable [Feeds] {K:Frag} {mg:Str→Option Value} {Wt C0:Addr} {nm0:Str} {cl:List Addr} {i fi:Nat} {its:List (Sum Str Str)}
end
section
variable {X:Cx} {e C:Addr} {fs:List (Str × V)} {i fi:Nat} {its:List (Sum Str Str)} {z:Str} {ies:List Expr} {r1 r2 r3:Pos} {k2}
end
end L3
namespace L3
open PySem PySem.W PySem.Spec PyProof.Rows L2
section
variable {X:Cx} {Wt C f:Addr} {x:Str} {p cp pos:Pos}
theorem ps_raise0 {W:List V→Hp→Prop} {ps:List Str} (c:ECls X.K Wt C f) (i:EIni X.K C f ps) (hps:ps = []) (hr:Room 2 X.A) (hg:Gl X x) (hm:X.mg x = some (.ref C)) (hA:Asks X C ps W)
    (hdb:(x == ("__debug__":Str)) = false:=by decide):PS X (.Raise (some (.Call (.Name x p) [] [] cp)) none pos) (tRaise W ps tNil):=by
  intro pins s σ H D I h
  rw [arm_exec_Raise]
  refine wpAny_bind (wpAny_standAt (exc_throw (K:=X.K) c hr.hd ?_))
  refine wpAny_bind (wpAny_mono ?_ (fun v s2 q=>wpAny_bind (wpAny_standAt (wpAny_pure q))) fun _ _ z=>z)
  refine wpAny_Call_Name_kw (ld_glob I hg hm ?_ hdb)
  refine PySem.W.callWith_K0 I.kIn c.kp ?_
  obtain ⟨hp,g,d,tk,os⟩:=s
  refine exc_made c i I.kIn I.nolimit hr (by rw [hps]; rfl) fun h' tk' e M=>?_
  obtain ⟨t0,dct,ge,z⟩:=M.obj
  exact ⟨e,t0,dct,rfl,I.kIn.keeps M.keeps,ge,hA pins σ H _ e h' tk' [] [] I .nil M h.2⟩
end
section
variable [Feeds] {K:Frag} {X:Cx}
noncomputable def mRaise0 (nm:Str):DE→M Out:=fun _ F=>some (.rt (errD nm []),F)
theorem sx_raise0 (nm:Str) {E:XK} {Wt C f:Addr} {p cp pos:Pos} (G:Goes X E) (cl:ECls X.K Wt C f) (ini:EIni X.K C f (psT nm)) (hr:Room 2 X.A) (hm:X.mg nm = some (.ref C)) (hps:psT nm = []:=by decide) (hg:Gl X nm:=by rfl)
    (hdb:(nm == ("__debug__":Str)) = false:=by decide) :
    SsX K (WE X.mg E) X (.Raise (some (.Call (.Name nm p) [] [] cp)) none pos) (tRaise (fun vs H=>∀ e,H e = none→E (.ref C) (some e) (upd H e (.xd ((psT nm).zip vs)))) (psT nm) tNil) (mRaise0 nm) :=
  ⟨ps_raise0 cl ini hps hr hg hm (asks_of G) hdb,fun G B0 H0 E F σ H D r F' S e q=>by
    cases e
    obtain ⟨B,s,sn,I⟩:=S.ex
    exact ⟨by rw [hps]; rfl,q.2 nm [] errOf_D [] H S.kp I.fd DatsAre.nil C hm⟩⟩
end
section
variable [Feeds] {K:Frag} {X:Cx} {i:Nat} {ok:Addr→Prop} {tsu:Addr→Addr→List (Str × V)→TS}
structure TryB (K:Frag) (X:Cx) (i:Nat) (ok:Addr→Prop) (tsu:Addr→Addr→List (Str × V)→TS) (body:List Stmt) (tb:XK→St→TS) (m:DE→M Out):Prop where
  ps:∀ (E:XK) (σ0:St) pn xe,(∀ pins' H s ev s',Inv (inTry X pn xe) pins' σ0 H s→CXe X.prog X.w X.stack H s E ev s'→xe ev s')→PSs (inTry X pn xe) body (tb E σ0)
  ok:∀ (G:GF) (B0:List Addr) (H0:Hp) (E:DE) (F:FS) (σ:St) (H:Hp) (D:Ends) (r:Out) (F':FS),Sit K G B0 H0 E F σ H→m E F = some (r,F')→OutOk K G B0 H0 F' D r→tb (eTry i ok tsu D σ) σ D σ H
variable {x y wt gn told:Str} {suite:List Stmt} {b₀:Stmt} {pw hpos pos p1 p2 p3 p4 p5 p6:Pos} {Wt:Addr} {k n fi j1:Nat} {k0} {ps:List Str} {a c:Expr} {es:List Expr} {tl:TA} {g:List DV→M PyData} {ms:DE→M (List DV)} {hd:Str→List PyData→DE→Option DE}
theorem try_set (fi:Nat) (C:CalleeX X.prog X.w X.K X.mg X.base gn k ps (spX K X.mg n g)) (hr:Room k X.A) (ha:∀ pn xe,Evs K (inTry X pn xe) (a :: es) tl ms) (hn:∀ E F args F',ms E F = some (args,F')→args.length = n)
    (hsd:SuD K X.mg ok i tsu hd) (hN:X.N.Nodup) (hfi:X.N[fi]? = some y:=by rfl) (hy:X.env.scope.names.lookup y = some .local:=by rfl) (hgg:Gl X gn:=by rfl) (hgd:(gn == ("__debug__":Str)) = false:=by decide)
    (he:starEach (a :: es) X.env = (false,eval a X.env) :: starEach es X.env:=by rfl) (hpl:(backTo p3 (starEach es X.env)).any (·.1) = false:=by rfl)
    (hs:swapsWith (.Tuple [.Constant (.str told) j1 p1,.Call (.Name gn p2) (a :: es) [] p3] k0 p4) (some (.Name y p6)) p5.line X.env = pure false:=by rfl) :
    TryB K X i ok tsu [.Assign [.Name y p6] (.Tuple [.Constant (.str told) j1 p1,.Call (.Name gn p2) (a :: es) [] p3] k0 p4) p5]
      (fun E0 σ0=>tAsg (tTup (tCons (tC (.str told)) (tCons (tAt σ0 (tCall (spX K X.mg n g) [] E0 tl)) tNil))) (gName fi)) (mTry fi told g ms hd):=by
  refine ⟨fun E0 σ0 pn xe hxe=>?_,fun G B0 H0 E F σ H D r F' S e q=>?_⟩
  · exact pss_one (ps_set (X:=inTry X pn xe) hN hfi (.inl hy) (pe_tup (pa_cons pe_str (pa_cons (pe_callX (X:=inTry X pn xe) C hr hgg hxe (ha pn xe).pa hgd he hpl) pa_nil))) hs (.inr hy))
  · obtain ⟨⟨args,F1⟩,e1,e⟩:=Option.bind_eq_some_iff.mp e
    obtain ⟨⟨d,F2⟩,e2,e⟩:=Option.bind_eq_some_iff.mp e
    obtain ⟨B,s,sn,I⟩:=S.ex
    dsimp only at e
    refine ⟨rfl,(ha [] fun _ _=>False).ok G B E F σ H _ args F1 I e1 fun vs H1 k1 f1 h1=>?_⟩
    have S1:=S.step k1 f1
    have I1:=I.step k1 f1
    rw [List.append_nil]
    refine ⟨G,B,F1,args,d,F2,by rw [h1.length]; exact hn _ _ _ _ e1,I.fB,bok_step I.bk k1 f1,f1,h1,e2,fun v H2 k2 f2 h2=>?_,fun nm fs er vs2 H2 k2 f2 h2=>?_⟩
    · have S2:=S1.step k2 f2
      have I2:=I1.step k2 f2
      cases er:errOf d with
      | some z=>exact (datIs_err h2 er).elim
      | none =>
        rw [er] at e
        obtain ⟨E1,e3,e⟩:=Option.bind_eq_some_iff.mp e
        cases e
        refine ⟨by rw [sizeLine_eq]; simp,fun p hp=>?_⟩
        have kp:Kp (fpOf K G) H2 (upd H2 p (.tup [.str told,v])):=Kp.upd hp
        have f3:FAt K G (upd H2 p (.tup [.str told,v])) _:=f2.same (Same.upd hp)
        have hd3:DatIs K (hid (upd H2 p (.tup [.str told,v])) B) (.tuple [.str told,d]) (.ref p):=new_tup I2.bk hp (DatsAre.cons DatIs.st (DatsAre.cons h2 DatsAre.nil))
        exact name_d fi G B E _ σ _ _ _ E1 (fun σ' H'=>D.nx σ' H') (I2.step kp f3) hd3 e3 fun σ' I' fr=>q σ' _ ((S2.step kp f3).bind s sn I' fr)
    · rw [er] at e
      obtain ⟨E1,e3,e⟩:=Option.bind_eq_some_iff.mp e
      cases e
      intro C' hm e' he'
      obtain ⟨okC,ht⟩:=hsd G B B0 H0 E _ σ H2 D nm C' fs vs2 E1 e' (S1.step k2 f2) s sn (I1.step k2 f2) hm h2 e3 he' q
      exact ⟨C',e',_,H2,rfl,rfl,rfl,he',okC,ht⟩
theorem try_if {bx by':List Stmt} {ta tb:XK→St→TS} {ma mb:DE→M Out} {tt:TT} {mc:DE→M Bool} (hc:∀ pn xe,Et K (inTry X pn xe) c tt mc) (ha:TryB K X i ok tsu bx ta ma) (hb:TryB K X i ok tsu by' tb mb) :
    TryB K X i ok tsu [.If c bx by' pos] (fun E0 σ0=>tIfS tt (ta E0 σ0) (tb E0 σ0)) (mIf mc ma mb) :=
  ⟨fun E0 σ0 pn xe hxe=>pss_one (ps_if (hc pn xe).pt (ha.ps E0 σ0 pn xe hxe) (hb.ps E0 σ0 pn xe hxe)),fun G B0 H0 E F σ H D r F' S e q=>by
    obtain ⟨⟨b,F1⟩,e1,e⟩:=Option.bind_eq_some_iff.mp e
    obtain ⟨B,s,sn,I⟩:=S.ex
    refine (hc [] fun _ _=>False).ok G B E F σ H _ b F1 I e1 fun H1 k1 f1=>?_
    cases b with
    | true=>exact ha.ok G B0 H0 E F1 σ H1 D r F' (S.step k1 f1) e q
    | false=>exact hb.ok G B0 H0 E F1 σ H1 D r F' (S.step k1 f1) e q⟩
theorem st_tryB {body:List Stmt} {tb:XK→St→TS} {m:DE→M Out} (h:TryB K X i ok tsu body tb m) (hsuite:∀ e C fs pn xe,ok C→Has (inSuite X e pn xe) e C fs→PSs (inSuite X e pn xe) (b₀ :: suite) (tsu e C fs))
    (hok:∀ C,ok C→ECat X.K C ∧ hasDictIn X.K C = true ∧ exmOne X.K (.ref C) (.ref Wt) = some true) (hW:X.mg wt = some (.ref Wt)) (hN:X.N.Nodup)
    (hstk:X.stack = X.env :: X.outer:=by rfl) (hfr:X.env.frame = some X.env.locals:=by rfl) (hi:X.N[i]? = some x:=by rfl) (hx:X.env.scope.names.lookup x = some .local:=by rfl)
    (hg:Gl X wt:=by rfl) (hwd:(wt == ("__debug__":Str)) = false:=by decide) :
    Ss K X (.Try body [.ExceptHandler (some (.Name wt pw)) (some x) (b₀ :: suite) hpos] [] [] pos) (fun D σ H=>tb (eTry i ok tsu D σ) σ D σ H) m :=
  ⟨ps_try hstk hfr hN hi hx hg hW hwd hok hsuite h.ps,h.ok⟩
end
theorem kitAny_cons {K:Frag} {t c:Value} {r:List Value} (h:kitAny K t (c :: r) = some false):kitOne K t c = some false ∧ kitAny K t r = some false:=by
  unfold kitAny at h
  split at h
  · cases h
  · rename_i z; exact ⟨z,h⟩
  · cases h
section
variable [Feeds] {K:Frag} {mg:Str→Option Value} {Wt CA CB:Addr} {nmA nmB odd beat:Str} {cl:List Addr} {i j fi:Nat} {its:List (Sum Str Str)}
noncomputable def tIs (K:Frag) (i:Nat) (e C:Addr) (y:TE):TE:=tCB (rIsE K e C) (tCons (tVar i) (tCons y tNil))
noncomputable def tsC (K:Frag) (CA CB:Addr) (cl:List Addr) (i j fi:Nat) (odd beat:Str) (its:List (Sum Str Str)):Addr→Addr→List (Str × V)→TS:=fun e C fs =>
  tSeq (tAsg (tOrV (tIs K i e C (tTup (tRefs cl))) (tNotV (tIs K i e C (tC (.ty "ValueError"))))) (gName j))
    (tSeq (tAsg (tTup (tCons (tC (.str odd)) (tCons (tC (.int 0)) tNil))) (gName fi))
      (tSeq (tIfS (tAnd (tB (tIs K i e C (tC (.ref CA)))) (tAnd (tNot (tB (tIs K i e C (tC (.ref CB))))) (tNot (tB (tVar j))))) (tAsg (tTup (tCons (tC (.str beat)) (tCons (tC (.int 0)) tNil))) (gName fi)) tNext)
        (tIfS (tAnd (tB (tIs K i e C (tC (.ref CB)))) (tAnd (tNot (tB (tIs K i e C (tC (.ref CA))))) (tNot (tB (tVar j))))) (tAsg (tTup (tIts K C fs e i its)) (gName fi)) tNext)))
noncomputable def hdC (nmA nmB:Str) (i j fi:Nat) (odd beat:Str) (its:List (Sum Str Str)):Str→List PyData→DE→Option DE:=fun nm fs E=>if isHole E i = true then (bN j (.bool false) E).bind fun E1=>(bN fi (.tuple [.str odd,.int 0]) E1).bind fun E2 =>
  if nm = nmA then bN fi (.tuple [.str beat,.int 0]) E2 else if nm = nmB then (itD ((psT nmB).zip fs) its).bind fun ds=>bN fi (.tuple ds) E2 else none else none
section
variable {G:GF} {B B0:List Addr} {H0:Hp} {E E1:DE} {F:FS} {σ:St} {H:Hp} {ws:List V} {ds:List PyData}
theorem asg_t (S:Sit K G B0 H0 E F σ H) (s:∀ b ∈ B0,b ∈ B) (sn:∀ b ∈ B,b ∈ B0 ∨ H0 b = none) (I:SitE K G B E F σ H) (hl:ws.length ≤ 1000) (hw:DatsAre K (hid H B) ds ws) (h:bN fi (.tuple ds) E = some E1) {Q:St→Hp→Prop}
    (q:∀ σ1 H1,Sit K G B0 H0 E1 F σ1 H1→SitE K G B E1 F σ1 H1→Kp (fpOf K G) H H1→(∀ k:Nat,k ≠ fi→σ1[k]? = σ[k]?)→Q σ1 H1):ws.length ≤ sizeLine ∧ ∀ p,H p = none→gName fi (.ref p) σ (upd H p (.tup ws)) Q:=by
  refine ⟨by rw [sizeLine_eq]; omega,fun p hp=>?_⟩
  have kp:Kp (fpOf K G) H (upd H p (.tup ws)):=Kp.upd hp
  have f1:FAt K G (upd H p (.tup ws)) F:=I.fd.same (Same.upd hp)
  have w3:DatIs K (hid (upd H p (.tup ws)) B) (.tuple ds) (.ref p):=new_tup I.bk hp hw
  unfold bN at h
  split at h
  · rename_i hi
    cases h
    have I1:=(I.step kp f1).set w3 hi
    refine q _ _ ((S.step kp f1).bind s sn I1 fun k hk=>?_) I1 kp fun k hk=>List.getElem?_set_ne (Ne.symm hk)
    by_cases hkf:fi = k
    · subst hkf; exact (hk _ (List.getElem?_set_self hi)).elim
    · exact ⟨List.getElem?_set_ne hkf,List.getElem?_set_ne hkf⟩
  · cases h
end
theorem su_C (efA:EFit K mg Wt nmA (CB :: cl) CA) (efB:EFit K mg Wt nmB (CA :: cl) CB) (hAB:nmA ≠ nmB) (hij:i ≠ j) (hif:i ≠ fi) (hjf:j ≠ fi) (hjl:its.length ≤ 100) (hcl:cl.length ≤ 100) (hb:(its.all fun z=>match z with | .inr f=>(psT nmB).contains f | .inl _=>true) = true) :
    SuD K mg (fun C=>C = CA ∨ C = CB) i (tsC K CA CB cl i j fi odd beat its) (hdC nmA nmB i j fi odd beat its):=by
  have hits:∀ f,.inr f ∈ its→f ∈ psT nmB:=fun f hf=>by
    have z:=List.all_eq_true.mp hb (.inr f) hf
    exact List.contains_iff_mem.mp z
  intro G B B0 H0 E F σ H D nm C fs vs E1 e S s sn I hm hd hE he q
  unfold hdC at hE
  split at hE
  · rename_i hh
    have hh:=isHole_of hh
    obtain ⟨Ea,ha,hE⟩:=Option.bind_eq_some_iff.mp hE
    obtain ⟨Eb,hb2,hE⟩:=Option.bind_eq_some_iff.mp hE
    have hil:i < σ.length:=by rw [← I.ln]; exact (List.getElem?_eq_some_iff.mp hh).1
    obtain ⟨kA,stA⟩:=kitAny_cons (r:=cl.map Value.ref) efA.st
    obtain ⟨kB,stB⟩:=kitAny_cons (r:=cl.map Value.ref) efB.st
    have self1:∀ C:Addr,kitOne K (.ref C) (.ref C) = some true:=fun C=>by unfold kitOne; rw [if_pos (beq_self_eq_true _)]
    have hjE:∀ {E2:DE},bN j (.bool false) E = some E2→E2[j]? = some (some (.dat (.bool false))):=fun {E2} h=>by
      unfold bN at h
      split at h
      · rename_i hl; cases h; exact List.getElem?_set_self hl
      · cases h
    have two:(nm = nmA ∧ C = CA ∧ kitAny K (.ref C) (cl.map Value.ref) = some false ∧ kitOne K (.ref C) (.type "ValueError") = some true) ∨ (nm ≠ nmA ∧ nm = nmB ∧ C = CB ∧ kitAny K (.ref C) (cl.map Value.ref) = some false ∧ kitOne K (.ref C) (.type "ValueError") = some true):=by
      by_cases hA:nm = nmA
      · subst hA
        have z:=hm.symm.trans efA.mgc
        cases z
        exact .inl ⟨rfl,rfl,stA,efA.ve⟩
      · rw [if_neg hA] at hE
        by_cases hB:nm = nmB
        · subst hB
          have z:=hm.symm.trans efB.mgc
          cases z
          exact .inr ⟨hA,rfl,rfl,stB,efB.ve⟩
        · rw [if_neg hB] at hE; cases hE
    have stC:kitAny K (.ref C) (cl.map Value.ref) = some false:=by rcases two with z | z; exact z.2.2.1; exact z.2.2.2.1
    have veC:kitOne K (.ref C) (.type "ValueError") = some true:=by rcases two with z | z; exact z.2.2.2; exact z.2.2.2.2
    refine ⟨by rcases two with z | z; exact .inl z.2.1; exact .inr z.2.2.1,?_⟩
    refine ⟨.ref e,List.getElem?_set_self hil,?_,fun p hp=>?_⟩
    · rw [sizeLine_eq]; simp; omega
    have kp:Kp (fpOf K G) H (upd H p (.tup (cl.map V.ref))):=Kp.upd hp
    have f1:FAt K G (upd H p (.tup (cl.map V.ref))) F:=I.fd.same (Same.upd hp)
    refine ⟨.ref p,false,rfl,.inr (.inr ⟨p,cl,rfl,upd_same,stC⟩),false,rfl,?_⟩
    try dsimp only
    rw [if_neg Bool.false_ne_true]
    refine ⟨.ref e,List.getElem?_set_self hil,.ty "ValueError",true,rfl,.inr (.inl ⟨_,rfl,veC⟩),true,rfl,?_⟩
    have S1:=(S.hole hh (some (.ref e))).step kp f1
    have I1:=(I.hole hh (some (.ref e))).step kp f1
    have hd1:DatsAre K (hid (upd H p (.tup (cl.map V.ref))) B) fs vs:=hd.same (kp.hid I.fB)
    refine name_d j G B E F _ _ (.bl false) (.bool false) Ea _ I1 DatIs.bl ha fun σ2 I2 fr2=>?_
    have S2:=S1.bind s sn I2 fr2
    have hh2:Ea[i]? = some none:=(bN_other ha hij).trans hh
    have g2:σ2[i]? = some (some (.ref e)):=((fr2 i fun y z=>by rw [hh2] at z; cases z).2).trans (List.getElem?_set_self hil)
    refine asg_t S2 s sn I2 (by simp) (DatsAre.cons DatIs.st (DatsAre.cons DatIs.int DatsAre.nil)) hb2 fun σ3 H3 S3 I3 k3 fr3=>?_
    have g3:σ3[i]? = some (some (.ref e)):=(fr3 i hif).trans g2
    have hd3:DatsAre K (hid H3 B) fs vs:=hd1.same (k3.hid I.fB)
    have hh3:Eb[i]? = some none:=(bN_other hb2 hif).trans hh2
    have hj3:σ3[j]? = some (some (.bl false)):=by
      obtain ⟨v,v1,v2⟩:=I3.loc j _ ((bN_other hb2 hjf).trans (hjE ha))
      have v2:DatIs K (hid H3 B) (.bool false) v:=v2
      simp only [DatIs] at v2
      rw [v1,v2]
    rcases two with ⟨rfl,rfl,_,_⟩ | ⟨hA,rfl,rfl,_,_⟩
    · rw [if_pos rfl] at hE
      refine ⟨.ref e,g3,.ref C,true,rfl,.inl ⟨C,rfl,self1 C⟩,true,rfl,?_⟩
      try dsimp only
      rw [if_pos rfl]
      refine ⟨.ref e,g3,.ref CB,false,rfl,.inl ⟨CB,rfl,kA⟩,false,rfl,?_⟩
      try dsimp only
      rw [if_pos (by rfl)]
      refine ⟨_,hj3,false,rfl,?_⟩
      try dsimp only
      rw [if_pos (by rfl)]
      refine asg_t S3 s sn I3 (by simp) (DatsAre.cons DatIs.st (DatsAre.cons DatIs.int DatsAre.nil)) hE fun σ4 H4 S4 I4 k4 fr4=>?_
      have g4:σ4[i]? = some (some (.ref e)):=(fr4 i hif).trans g3
      refine ⟨.ref e,g4,.ref CB,false,rfl,.inl ⟨CB,rfl,kA⟩,false,rfl,?_⟩
      try dsimp only
      rw [if_neg Bool.false_ne_true]
      rw [if_neg Bool.false_ne_true]
      exact q _ _ (S4.hole ((bN_other hE hif).trans hh3) none)
    · rw [if_neg hA,if_pos rfl] at hE
      obtain ⟨ds,h1,hE⟩:=Option.bind_eq_some_iff.mp hE
      obtain ⟨ws,w1,w2⟩:=its_dat hd3 h1
      refine ⟨.ref e,g3,.ref CA,false,rfl,.inl ⟨CA,rfl,kB⟩,false,rfl,?_⟩
      try dsimp only
      rw [if_neg Bool.false_ne_true]
      rw [if_neg Bool.false_ne_true]
      refine ⟨.ref e,g3,.ref C,true,rfl,.inl ⟨C,rfl,self1 C⟩,true,rfl,?_⟩
      try dsimp only
      rw [if_pos rfl]
      refine ⟨.ref e,g3,.ref CA,false,rfl,.inl ⟨CA,rfl,kB⟩,false,rfl,?_⟩
      try dsimp only
      rw [if_pos (by rfl)]
      refine ⟨_,hj3,false,rfl,?_⟩
      try dsimp only
      rw [if_pos (by rfl)]
      refine ⟨g3,fun f hf=>efB.nof f (hits f hf),ws,w1,?_⟩
      exact asg_t S3 s sn I3 (by rw [itV_len w1]; omega) w2 hE fun σ4 H4 S4 I4 k4 fr4=>q _ _ (S4.hole ((bN_other hE hif).trans hh3) none)
  · cases hE
end
section
variable {X:Cx} {e C CA CB:Addr} {fs:List (Str × V)} {i j fi:Nat} {cl:List Addr} {its:List (Sum Str Str)} {x y z nmA nmB odd beat:Str} {ces ies:List Expr} {k1 k2 k3 k4 c1 c2 c3 c4:Nat}
  {p1 p2 p3 p4 p5 p6 p7 p8 p9 pa pb pc q1 q2 q3 q4 q5 r1 r2 r3 r4 r5 r6 r7 r8 r9 ra rb rc s1 s2 s3 s4 s5 t1 t2 t3 t4 t5 t6 t7 t8 t9 tx ty tz u1 u2 u3 u4 pos:Pos}
theorem pss_C (h:Has X e C fs) (hmI:X.mg "isinstance" = none) (hmV:X.mg "ValueError" = none) (hmA:X.mg nmA = some (.ref CA)) (hmB:X.mg nmB = some (.ref CB)) (hc:PA X ces (tRefs cl)) (hits:PA X ies (tIts X.K C fs e i its)) (hNd:X.N.Nodup)
    (hi:X.N[i]? = some x:=by rfl) (hj:X.N[j]? = some y:=by rfl) (hfi:X.N[fi]? = some z:=by rfl) (hx:X.env.scope.names.lookup x = some .local:=by rfl) (hy:X.env.scope.names.lookup y = some .local:=by rfl) (hz:X.env.scope.names.lookup z = some .local:=by rfl)
    (dx:(x == ("__debug__":Str)) = false:=by decide) (cx:(x == ("__classdict__":Str)) = false:=by decide) (dy:(y == ("__debug__":Str)) = false:=by decide) (cy:(y == ("__classdict__":Str)) = false:=by decide) (dA:(nmA == ("__debug__":Str)) = false:=by decide) (dB:(nmB == ("__debug__":Str)) = false:=by decide)
    (gI:Gl X "isinstance":=by rfl) (gV:Gl X "ValueError":=by rfl) (gA:Gl X nmA:=by rfl) (gB:Gl X nmB:=by rfl)
    (w1:swapsWith (.BoolOp .Or [.Call (.Name "isinstance" p2) [.Name x p3,.Tuple ces k1 p4] [] p5,.UnaryOp .Not (.Call (.Name "isinstance" p6) [.Name x p7,.Name "ValueError" p8] [] p9) pa] pb) (some (.Name y p1)) pc.line X.env = pure false:=by rfl)
    (w2:swapsWith (.Tuple [.Constant (.str odd) c1 q1,.Constant (.int 0) c2 q2] k2 q3) (some (.Name z q4)) q5.line X.env = pure false:=by rfl)
    (w3:swapsWith (.Tuple [.Constant (.str beat) c3 s1,.Constant (.int 0) c4 s2] k3 s3) (some (.Name z s4)) s5.line X.env = pure false:=by rfl)
    (w4:swapsWith (.Tuple ies k4 u1) (some (.Name z u2)) u3.line X.env = pure false:=by rfl) :
    PSs X [.Assign [.Name y p1] (.BoolOp .Or [.Call (.Name "isinstance" p2) [.Name x p3,.Tuple ces k1 p4] [] p5,.UnaryOp .Not (.Call (.Name "isinstance" p6) [.Name x p7,.Name "ValueError" p8] [] p9) pa] pb) pc,
      .Assign [.Name z q4] (.Tuple [.Constant (.str odd) c1 q1,.Constant (.int 0) c2 q2] k2 q3) q5,
      .If (.BoolOp .And [.Call (.Name "isinstance" r1) [.Name x r2,.Name nmA r3] [] r4,.UnaryOp .Not (.Call (.Name "isinstance" r5) [.Name x r6,.Name nmB r7] [] r8) r9,.UnaryOp .Not (.Name y ra) rb] rc) [.Assign [.Name z s4] (.Tuple [.Constant (.str beat) c3 s1,.Constant (.int 0) c4 s2] k3 s3) s5] [] tx,
      .If (.BoolOp .And [.Call (.Name "isinstance" t1) [.Name x t2,.Name nmB t3] [] t4,.UnaryOp .Not (.Call (.Name "isinstance" t5) [.Name x t6,.Name nmA t7] [] t8) t9,.UnaryOp .Not (.Name y ty) tz] u4) [.Assign [.Name z u2] (.Tuple ies k4 u1) u3] [] pos] (tsC X.K CA CB cl i j fi odd beat its e C fs):=by
  have is1:∀ {a b c d:Pos} {nm:Str} {D:Addr},Gl X nm→X.mg nm = some (.ref D)→(nm == ("__debug__":Str)) = false→PE X (.Call (.Name "isinstance" a) [.Name x b,.Name nm c] [] d) (tIs X.K i e C (tC (.ref D))):=fun g m n=>pe_callB (call_isE h) gI hmI bt_isinstance (pa_cons (pe_var hi (.inl hx) dx cx) (pa_cons (pe_glob g m rfl n) pa_nil))
  refine pss_cons (ps_set hNd hj (.inl hy) (pe_or (pe_callB (call_isE h) gI hmI bt_isinstance (pa_cons (pe_var hi (.inl hx) dx cx) (pa_cons (pe_tup hc) pa_nil))) (pe_one (pe_not (pe_callB (call_isE h) gI hmI bt_isinstance (pa_cons (pe_var hi (.inl hx) dx cx) (pa_cons (pe_bltn gV hmV bt_ValueError rfl) pa_nil)))))) w1 (.inr hy)) ?_
  refine pss_cons (ps_set hNd hfi (.inl hz) (pe_tup (pa_cons pe_str (pa_cons pe_int pa_nil))) w2 (.inr hz)) ?_
  refine pss_cons (ps_if (PW.pt (pw_and (pt_val (is1 gA hmA dA)) (pw_and (pt_not (pt_val (is1 gB hmB dB))) (pw_and1 (pt_not (pt_val (pe_var hj (.inl hy) dy cy))))))) (pss_one (ps_set hNd hfi (.inl hz) (pe_tup (pa_cons pe_str (pa_cons pe_int pa_nil))) w3 (.inr hz))) pss_nil) ?_
  exact pss_one (ps_if (PW.pt (pw_and (pt_val (is1 gB hmB dB)) (pw_and (pt_not (pt_val (is1 gA hmA dA))) (pw_and1 (pt_not (pt_val (pe_var hj (.inl hy) dy cy))))))) (pss_one (ps_set hNd hfi (.inl hz) (pe_tup hits) w4 (.inr hz))) pss_nil)
end
end L3
namespace L3
open PySem L2
section
variable {h:Nat} {ι:Nat→Nat}
end
end L3
namespace L3
open PySem L2
section
variable {α:Type}
theorem set_flat {rows:List (List α)} {b:Nat} (hb:b < rows.length) (r:List α):(rows.set b r).flatten = (rows.take b).flatten ++ (r ++ (rows.drop (b + 1)).flatten):=by
  rw [List.set_eq_take_append_cons_drop,if_pos hb,List.flatten_append,List.flatten_cons]
end
section
variable {way:List Bt} {b p:Nat} {c:Int × Int}
end
section
variable {way:List Bt} {k:Nat} {more:Int}
theorem beats_flat {α:Type} (way:List Bt) (f:Nat→Int × Int→α):∀ m,m ≤ way.length→((List.range m).map fun m=>(List.range (btAt way m).length).map fun j=>f (cntW way m + j) ((btAt way m).getD j (0,0))).flatten = (List.range (cntW way m)).map fun n=>f n (way.flatten.getD n (0,0))
  | 0,_=>rfl
  | m + 1,hm=>by
    have ih:=beats_flat way f m (by omega)
    rw [List.range_succ,List.map_append,List.flatten_append,ih,cntW_succ (by omega),range_two,List.map_append]
    congr 1
    simp only [List.map_cons,List.map_nil,List.flatten_cons,List.flatten_nil,List.append_nil,List.map_map]
    refine List.map_congr_left fun j hj=>?_
    have hj:=List.mem_range.mp hj
    show _ = f (cntW way m + j) (way.flatten.getD (cntW way m + j) (0,0))
    rw [flat_get (by omega) hj]
theorem cnt_all (way:List Bt):cntW way way.length = lens way:=by unfold cntW; rw [List.take_length]
end
end L3
namespace L3
open PySem PySem.Spec PyProof.Rows L2
variable [Fam]
section
variable {N k:Nat} {d:PyData}
end
end L3
namespace L3
open PySem PySem.Spec PyProof.Rows L2
variable [Fam]
mutual
noncomputable def numD:PyData→Prop
  | .none=>True
  | .bool _=>True
  | .int _=>True
  | .tuple ds=>numL ds
  | .list ds=>numL ds
  | _=>False
noncomputable def numL:List PyData→Prop
  | []=>True
  | d :: ds=>numD d ∧ numL ds
end
theorem numL_iff:∀ {ds:List PyData},numL ds ↔ ∀ d ∈ ds,numD d
  | []=>by simp [numL]
  | d :: ds=>by simp [numL,numL_iff (ds:=ds)]
theorem hi_free {k:Nat} (hk:128 ≤ k):∀ (n:Nat) (d:PyData),sizeOf d < n→numD d→k ∉ d.shown.cps.toList:=by
  intro n
  induction n with
  | zero=>intro d h; exact absurd h (Nat.not_lt_zero _)
  | succ n ih =>
    intro d hn h
    cases d with
    | none=>rw [mem_shown_none]; intro hm; simp only [List.mem_cons,List.not_mem_nil,or_false] at hm; rcases hm with h | h | h | h <;> omega
    | bool b =>
      rw [mem_shown_bool]
      cases b
      · rw [if_neg (by decide)]; intro hm; simp only [List.mem_cons,List.not_mem_nil,or_false] at hm; rcases hm with h | h | h | h | h <;> omega
      · rw [if_pos rfl]; intro hm; simp only [List.mem_cons,List.not_mem_nil,or_false] at hm; rcases hm with h | h | h | h <;> omega
    | int i=>exact shown_int_free' ⟨by omega,by omega⟩ i
    | str x=>simp only [numD] at h
    | tuple ds =>
      simp only [numD] at h
      rw [numL_iff] at h
      have hf:=shownAll_free (k:=k) (xs:=ds) fun x hx=>ih x (by have:=List.sizeOf_lt_of_mem hx; simp at hn; omega) (h x hx)
      rw [PyData.shown_tuple,mem_cps_append,mem_cps_append,signs_lparen,mem_join,signs_tuple_end,signs_sep]
      rintro ((hm | (⟨t,ht,hc⟩ | ⟨_,hm⟩)) | hm)
      · simp only [List.mem_cons,List.not_mem_nil,or_false] at hm; omega
      · exact hf t ht hc
      · simp only [List.mem_cons,List.not_mem_nil,or_false] at hm; omega
      · split at hm <;> (simp only [List.mem_cons,List.not_mem_nil,or_false] at hm; omega)
    | list ds =>
      simp only [numD] at h
      rw [numL_iff] at h
      have hf:=shownAll_free (k:=k) (xs:=ds) fun x hx=>ih x (by have:=List.sizeOf_lt_of_mem hx; simp at hn; omega) (h x hx)
      rw [PyData.shown_list,mem_cps_append,mem_cps_append,signs_lbrack,signs_rbrack,mem_join,signs_sep]
      rintro ((hm | (⟨t,ht,hc⟩ | ⟨_,hm⟩)) | hm)
      · simp only [List.mem_cons,List.not_mem_nil,or_false] at hm; omega
      · exact hf t ht hc
      · simp only [List.mem_cons,List.not_mem_nil,or_false] at hm; omega
      · simp only [List.mem_cons,List.not_mem_nil,or_false] at hm; omega
    | dict kvs=>simp only [numD] at h
theorem num_ok {d:PyData} (h:numD d):(PyData.str d.shown).canLay0 = true:=by
  show PyData.strOk d.shown = true
  unfold PyData.strOk
  rw [Array.all_eq_true']
  intro c hc
  refine decide_eq_true (Nat.lt_of_not_le fun hz=>?_)
  exact hi_free (k:=c) (by omega) _ d (Nat.lt_succ_self _) h (Array.mem_toList_iff.mpr hc)
theorem texts_same {d:PyData} (h:numD d) (n:Nat):eqD false (.list (List.replicate n (.str d.shown))) (.list (List.replicate n (.str d.shown))) = some (.bool true):=by
  have hc:PyData.canLayAll0 (List.replicate n (.str d.shown)) = true:=by
    induction n with
    | zero=>rfl
    | succ n ih=>rw [List.replicate_succ]; simp only [PyData.canLayAll0]; rw [num_ok h,ih]; rfl
  have hd:PyData.depthAll (List.replicate n (.str d.shown)) ≤ 1:=depthAll_le.mpr fun x hx=>by rw [(List.mem_replicate.mp hx).2]; simp [PyData.depth]
  have hs:SeqAt.shaped (.list (List.replicate n (.str d.shown))) = true:=by
    unfold SeqAt.shaped
    simp only [PyData.canLay0,PyData.depth,hc,Bool.true_and]
    exact decide_eq_true (by omega)
  show (if SeqAt.shaped _ = true ∧ SeqAt.shaped _ = true then _ else none) = _
  rw [if_pos (show SeqAt.shaped (.list (List.replicate n (.str d.shown))) = true ∧ SeqAt.shaped (.list (List.replicate n (.str d.shown))) = true from ⟨hs,hs⟩),if_neg (by decide)]
  refine congrArg (fun b=>some (PyData.bool b)) ?_
  exact PySem.SeqAt.eqv_refl _ (by simp only [PyData.canLay0]; exact hc)
end L3
namespace K26
open PySem L2 L3
noncomputable def top (i:Nat):Stmt:=PySem.Challenge.pw_hatchwaits_k26_ways_changed.main.body.getD i (.Pass ⟨0,0,0,0⟩)
noncomputable instance famI:Fam:=famN []
noncomputable abbrev s_many_in:Stmt:=top 1
noncomputable abbrev s_numbered:Stmt:=top 14
noncomputable abbrev s_told_way:Stmt:=top 15
noncomputable abbrev s_with_comer:Stmt:=top 16
noncomputable abbrev s_check_comer:Stmt:=top 17
noncomputable abbrev s_without:Stmt:=top 18
noncomputable abbrev s_longer:Stmt:=top 19
noncomputable abbrev s_front_alone:Stmt:=top 20
noncomputable abbrev s__law_feed:Stmt:=top 22
noncomputable abbrev s__law_next:Stmt:=top 23
noncomputable abbrev s__law_way:Stmt:=top 24
noncomputable abbrev s__law_flat:Stmt:=top 25
noncomputable abbrev s__law_built:Stmt:=top 26
noncomputable abbrev s__law_told:Stmt:=top 27
noncomputable abbrev s__law_due:Stmt:=top 28
noncomputable abbrev s__law_deed:Stmt:=top 29
noncomputable abbrev s__law_front_right:Stmt:=top 30
noncomputable abbrev s_law:Stmt:=top 31
noncomputable abbrev ini_NoBeat:Stmt:=clsInit (top 9)
theorem it_NoBeat:IniTxt ini_NoBeat "NoBeat.__init__" []:=⟨⟨rfl,rfl,rfl,by decide +kernel,rfl,by decide +kernel,by decide +kernel⟩,by decide +kernel,.pass,by decide,by decide,fun _ _ _ _ _ _ us hl=>match us,hl with | [_],_=>rfl⟩
noncomputable abbrev ini_NoComer:Stmt:=clsInit (top 8)
theorem it_NoComer:IniTxt ini_NoComer "NoComer.__init__" ["number"]:=⟨⟨rfl,rfl,rfl,by decide +kernel,rfl,by decide +kernel,by decide +kernel⟩,by decide +kernel,(.cons .nil),by decide,by decide,fun _ _ _ _ _ _ us hl=>match us,hl with | [_,_],_=>rfl⟩
structure Txt (K:PySem.W.Frag) (mg:Str→Option Value):Prop where
  ValueError:mg "ValueError" = none
  enumerate:mg "enumerate" = none
  int:mg "int" = none
  isinstance:mg "isinstance" = none
  len:mg "len" = none
  list:mg "list" = none
  min:mg "min" = none
  range:mg "range" = none
  repr:mg "repr" = none
  sum:mg "sum" = none
  tuple:mg "tuple" = none
  gi_NEW:GI mg "NEW" (-1)
  err_NoBeat:ErrT K mg "WaitError" "NoBeat" ["NoComer","NoHouse","NoPaper","NoRest","NoRow","NoText","TooMany"]
  err_NoComer:ErrT K mg "WaitError" "NoComer" ["NoBeat","NoHouse","NoPaper","NoRest","NoRow","NoText","TooMany"]
noncomputable section
variable {P:Program} {w:World} {K:PySem.W.Frag} {mg:Str→Option Value} {base:Heap}
theorem sc_many_in:FnScope ["way"] ["way"] (defScope s_many_in):=⟨rfl,rfl,rfl,by decide +kernel,rfl,by decide +kernel,by decide +kernel⟩
noncomputable def f_many_in:List DV→M PyData:=runD ["way"] (mRt (sN sumD' (sCons (sLC (mSeq (sW 0)) 1 [] (bN 0) uYes (sN lenD (sCons (sW 0) sNil))) sNil)))
theorem ok_many_in {f:Addr} {fd:FuncData} (Fn:Fun K "many_in" "many_in" s_many_in f fd) (T:Txt K mg) :FnOk P w K mg base CX0 1 f fd ["way"] (spD K 1 f_many_in):=by
  refine def_ok Fn sc_many_in fun cdv A outer s H E hr=>?_
  have hu5:(A.deeper (PyProof.Rows.envOfC "many_in" (defScope s_many_in) s.heap.objs.size f cdv)).units + 65 < cLine:=by have:=hr.un; omega
  exact ⟨_,(ss_one (st_ret (ev_callB (cd_sum' rfl rfl) T.sum bt_sum (es_cons (Ev.bw (ev_lc (osc:=(defScope s_many_in)) (N:=["beat"]) (k:=1) (cap:=[]) rfl rfl ⟨rfl,by decide +kernel,by decide +kernel,by decide +kernel,rfl,rfl,by decide +kernel⟩ (eib_seq (eb_v 0)) (fun cl C ex pins s H=>(eg_n (i:=0) (show List.Nodup (["beat"]:List Str) by decide +kernel))) (fun cl C ex pins s H=>ets_nil) (fun cl C ex pins s H=>(ev_callB (cd_len rfl) T.len bt_len (es_cons (eb_v 0) es_nil))))) es_nil))))⟩
theorem sc_numbered:FnScope ["way","rows","number","beat"] ["way"] (defScope s_numbered):=⟨rfl,rfl,rfl,by decide +kernel,rfl,by decide +kernel,by decide +kernel⟩
noncomputable def fG_numbered:List DV→M (List PyData):=runG ["way","rows","number","beat"] (gSq (mOwn 1 (fLst sNil))
    (gSq (mSet 2 (sC (.int 0)))
    (gSq (mFor (mSeq (sV 0)) (bN 3) (mSq (mApp 1 (sLC (mEnum (sW 3)) 2 [2] (bTup 2 (bCons (bN 0) (bCons (bN 1) bNil))) uYes (sTup (sCons (sV 1) (sCons (s2 addD (sW 2) (sW 0)) sNil)))))
    (mAug (fun i j=>i + j) 2 (sN lenD (sCons (sW 3) sNil)))))
    (gRet 1))))
theorem okG_numbered {f:Addr} {fd:FuncData} (Fn:Fun K "numbered" "numbered" s_numbered f fd) (T:Txt K mg) :FnOk P w K mg base CX0 1 f fd ["way"] (spG K 1 fG_numbered):=by
  refine def_okS Fn sc_numbered fun cdv A outer s H E hr=>?_
  have hu5:(A.deeper (PyProof.Rows.envOfC "numbered" (defScope s_numbered) s.heap.objs.size f cdv)).units + 65 < cLine:=by have:=hr.un; omega
  exact ⟨_,(sg_cons (st_own 1 sc_numbered.nd (ef_lst ea_nil))
      (sg_cons (st_set 2 sc_numbered.nd ev_int)
      (sg_cons (st_for rfl (ei_seq (ev_v 0)) (eg_n (i:=3) sc_numbered.nd) (ss_cons (st_app 1 rfl (ev_lc (osc:=(defScope s_numbered)) (N:=["place","comer","number"]) (k:=2) (cap:=[2]) rfl rfl ⟨rfl,by decide +kernel,by decide +kernel,by decide +kernel,rfl,rfl,by decide +kernel⟩ (eib_enum (eb_v 3) T.enumerate) (fun cl C ex pins s H=>(eg_tup (n:=2) rfl (egs_cons (eg_n (i:=0) (show List.Nodup (["place","comer","number"]:List Str) by decide +kernel)) (egs_cons (eg_n (i:=1) (show List.Nodup (["place","comer","number"]:List Str) by decide +kernel)) egs_nil)))) (fun cl C ex pins s H=>ets_nil) (fun cl C ex pins s H=>(ev_tup (ea_cons (ev_v 1) (ea_cons (ev_op (od_add rfl) (eb_v 2) (eb_v 0)) ea_nil))))))
      (ss_one (st_augA 2 sc_numbered.nd (ev_callB (cd_len rfl) T.len bt_len (es_cons (eb_v 3) es_nil))))))
      (sg_one 1))))⟩
noncomputable def f_numbered:List DV→M PyData:=runD ["way","rows","number","beat"] (mSq (mOwn 1 (fLst sNil))
    (mSq (mSet 2 (sC (.int 0)))
    (mSq (mFor (mSeq (sV 0)) (bN 3) (mSq (mApp 1 (sLC (mEnum (sW 3)) 2 [2] (bTup 2 (bCons (bN 0) (bCons (bN 1) bNil))) uYes (sTup (sCons (sV 1) (sCons (s2 addD (sW 2) (sW 0)) sNil)))))
    (mAug (fun i j=>i + j) 2 (sN lenD (sCons (sW 3) sNil)))))
    (mRt (sW 1)))))
theorem ok_numbered {f:Addr} {fd:FuncData} (Fn:Fun K "numbered" "numbered" s_numbered f fd) (T:Txt K mg) :FnOk P w K mg base CX0 1 f fd ["way"] (spD K 1 f_numbered):=by
  refine def_ok Fn sc_numbered fun cdv A outer s H E hr=>?_
  have hu5:(A.deeper (PyProof.Rows.envOfC "numbered" (defScope s_numbered) s.heap.objs.size f cdv)).units + 65 < cLine:=by have:=hr.un; omega
  exact ⟨_,(ss_cons (st_own 1 sc_numbered.nd (ef_lst ea_nil))
      (ss_cons (st_set 2 sc_numbered.nd ev_int)
      (ss_cons (st_for rfl (ei_seq (ev_v 0)) (eg_n (i:=3) sc_numbered.nd) (ss_cons (st_app 1 rfl (ev_lc (osc:=(defScope s_numbered)) (N:=["place","comer","number"]) (k:=2) (cap:=[2]) rfl rfl ⟨rfl,by decide +kernel,by decide +kernel,by decide +kernel,rfl,rfl,by decide +kernel⟩ (eib_enum (eb_v 3) T.enumerate) (fun cl C ex pins s H=>(eg_tup (n:=2) rfl (egs_cons (eg_n (i:=0) (show List.Nodup (["place","comer","number"]:List Str) by decide +kernel)) (egs_cons (eg_n (i:=1) (show List.Nodup (["place","comer","number"]:List Str) by decide +kernel)) egs_nil)))) (fun cl C ex pins s H=>ets_nil) (fun cl C ex pins s H=>(ev_tup (ea_cons (ev_v 1) (ea_cons (ev_op (od_add rfl) (eb_v 2) (eb_v 0)) ea_nil))))))
      (ss_one (st_augA 2 sc_numbered.nd (ev_callB (cd_len rfl) T.len bt_len (es_cons (eb_v 3) es_nil))))))
      (ss_one (st_retW 1)))))⟩
theorem sc_told_way:FnScope ["rows","way"] ["rows"] (defScope s_told_way):=⟨rfl,rfl,rfl,by decide +kernel,rfl,by decide +kernel,by decide +kernel⟩
noncomputable def f_told_way:List DV→M PyData:=runD ["rows","way"] (mSq (mSet 1 (sN tupleD (sCons (sLC (mSeq (sW 0)) 1 [] (bN 0) uYes (sN tupleD (sCons (sLC (mSeq (sW 0)) 2 [] (bTup 2 (bCons (bN 0) (bCons (bN 1) bNil))) uYes (sV 0)) sNil))) sNil)))
    (mRt (sTup (sCons (sV 1) (sCons (sN tupleD (sCons (sLC2 (mSeq (sW 0)) 3 [] (bN 0) uYes (mSeq (sV 0)) (bTup 2 (bCons (bN 1) (bCons (bN 2) bNil))) uYes (sV 2)) sNil)) sNil)))))
theorem ok_told_way {f:Addr} {fd:FuncData} (Fn:Fun K "told_way" "told_way" s_told_way f fd) (T:Txt K mg) :FnOk P w K mg base CX0 1 f fd ["rows"] (spD K 1 f_told_way):=by
  refine def_ok Fn sc_told_way fun cdv A outer s H E hr=>?_
  have hu5:(A.deeper (PyProof.Rows.envOfC "told_way" (defScope s_told_way) s.heap.objs.size f cdv)).units + 65 < cLine:=by have:=hr.un; omega
  exact ⟨_,(ss_cons (st_set 1 sc_told_way.nd (ev_callT (cd_tuple rfl) T.tuple bt_tuple (es_cons (Ev.bw (ev_lc (osc:=(defScope s_told_way)) (N:=["row"]) (k:=1) (cap:=[]) rfl rfl ⟨rfl,by decide +kernel,by decide +kernel,by decide +kernel,rfl,rfl,by decide +kernel⟩ (eib_seq (eb_v 0)) (fun cl C ex pins s H=>(eg_n (i:=0) (show List.Nodup (["row"]:List Str) by decide +kernel))) (fun cl C ex pins s H=>ets_nil) (fun cl C ex pins s H=>(ev_callT (cd_tuple rfl) T.tuple bt_tuple (es_cons (Ev.bw (ev_lcC (N:=["comer","number"]) (k:=2) (cap:=[]) rfl ⟨rfl,by decide +kernel,by decide +kernel,by decide +kernel,rfl,rfl,by decide +kernel⟩ (eib_seq (eb_v 0)) (fun cl C ex pins s H=>(eg_tup (n:=2) rfl (egs_cons (eg_n (i:=0) (show List.Nodup (["comer","number"]:List Str) by decide +kernel)) (egs_cons (eg_n (i:=1) (show List.Nodup (["comer","number"]:List Str) by decide +kernel)) egs_nil)))) (fun cl C ex pins s H=>ets_nil) (fun cl C ex pins s H=>(ev_v 0)))) es_nil))))) es_nil)))
      (ss_one (st_ret (ev_tup (ea_cons (ev_v 1) (ea_cons (ev_callT (cd_tuple rfl) T.tuple bt_tuple (es_cons (Ev.bw (ev_lc2 (osc:=(defScope s_told_way)) (N:=["row","comer","number"]) (k:=3) (cap:=[]) rfl rfl ⟨rfl,by decide +kernel,by decide +kernel,by decide +kernel,rfl,rfl,by decide +kernel⟩ (eib_seq (eb_v 0)) (fun cl C ex pins s H=>(eg_n (i:=0) (show List.Nodup (["row","comer","number"]:List Str) by decide +kernel))) (fun cl C ex pins s H=>ets_nil) (fun cl C ex pins s H=>(ei_seq (ev_v 0))) (fun cl C ex pins s H=>(eg_tup (n:=2) rfl (egs_cons (eg_n (i:=1) (show List.Nodup (["row","comer","number"]:List Str) by decide +kernel)) (egs_cons (eg_n (i:=2) (show List.Nodup (["row","comer","number"]:List Str) by decide +kernel)) egs_nil)))) (fun cl C ex pins s H=>ets_nil) (fun cl C ex pins s H=>(ev_v 2)))) es_nil)) ea_nil))))))⟩
theorem sc_with_comer:FnScope ["way","beat","place","comer","rows"] ["way","beat","place","comer"] (defScope s_with_comer):=⟨rfl,rfl,rfl,by decide +kernel,rfl,by decide +kernel,by decide +kernel⟩
noncomputable def f_with_comer:List DV→M PyData:=runD ["way","beat","place","comer","rows"] (mSq (mIf (uNot (uB (sCh leD ltD (sC (.int 0)) (sW 1) (sN lenD (sCons (sW 0) sNil))))) (mRaise0 "NoBeat") mNx)
    (mSq (mOwn 4 (fCall fG_numbered (vD (sV 0) vNil)))
    (mSq (mPut 4 (s2 addD (s2 addD (sCut (s2 ixD (sW 4) (sW 1)) oNo (oI (sV 2))) (sLst (sCons (sTup (sCons (sV 3) (sCons (sC (.int (-1))) sNil))) sNil))) (sCut (s2 ixD (sW 4) (sW 1)) (oI (sV 2)) oNo)) (sV 1))
    (mPub 4 (mRt (sCall f_told_way (vD (sV 4) vNil)))))))
theorem ok_with_comer {f:Addr} {fd:FuncData} (Fn:Fun K "with_comer" "with_comer" s_with_comer f fd) (T:Txt K mg) (CG_numbered:Callee P w K mg base "numbered" 1 ["way"] (spG K 1 fG_numbered)) (C_told_way:Callee P w K mg base "told_way" 1 ["rows"] (spD K 1 f_told_way)):FnOk P w K mg base (CXe P w) 3 f fd ["way","beat","place","comer"] (spX K mg 4 f_with_comer):=by
  refine defx_ok Fn sc_with_comer fun cdv A outer s H E hr=>?_
  have hu5:(A.deeper (PyProof.Rows.envOfC "with_comer" (defScope s_with_comer) s.heap.objs.size f cdv)).units + 65 < cLine:=by have:=hr.un; omega
  obtain ⟨Wt_NoBeat,Cl_NoBeat,fi_NoBeat,cl_NoBeat,hW_NoBeat,hA_NoBeat,ecl_NoBeat,eini_NoBeat,efit_NoBeat⟩:=T.err_NoBeat
  exact ⟨_,(sxs_cons (sx_if (et_not (et_chain od_le od_lt (Ev.bw ev_int) (eb_v 1) (Ev.bw (ev_callB (cd_len rfl) T.len bt_len (es_cons (eb_v 0) es_nil))))) (sxs_one (sx_raise0 "NoBeat" goes_of ecl_NoBeat eini_NoBeat (hr.mono (by decide)) efit_NoBeat.mgc)) (sxs_of ss_nil))
      (sxs_of (ss_cons (st_own 4 sc_with_comer.nd (ef_call CG_numbered (hr.mono (by decide)) (av_d (ev_v 0) av_nil) (ln_d ln_nil)))
      (ss_cons (st_put 4 (ev_op (od_add rfl) (Ev.bw (ev_op (od_add rfl) (Ev.bw (ev_cut (Ev.bw (ev_ix (id_ix rfl) (eb_v 4) (eb_v 1))) eo_no (eo_i (ev_v 2)))) (Ev.bw (ev_lst (ea_cons (ev_tup (ea_cons (ev_v 3) (ea_cons (ev_gi T.gi_NEW) ea_nil))) ea_nil))))) (Ev.bw (ev_cut (Ev.bw (ev_ix (id_ix rfl) (eb_v 4) (eb_v 1))) (eo_i (ev_v 2)) eo_no))) (ev_v 1))
      (ss_one (st_pub 4 (st_ret (ev_call C_told_way (hr.mono (by decide)) (av_d (ev_v 4) av_nil) (ln_d ln_nil)))))))))⟩
theorem sc_check_comer:FnScope ["way","number"] ["way","number"] (defScope s_check_comer):=⟨rfl,rfl,rfl,by decide +kernel,rfl,by decide +kernel,by decide +kernel⟩
noncomputable def f_check_comer:List DV→M PyData:=runD ["way","number"] (mIf (uNot (uB (sCh leD ltD (sC (.int 0)) (sW 1) (sCall f_many_in (vD (sV 0) vNil))))) (mRaise "NoComer" (sCons (sV 1) sNil)) mNx)
theorem ok_check_comer {f:Addr} {fd:FuncData} (Fn:Fun K "check_comer" "check_comer" s_check_comer f fd) (T:Txt K mg) (C_many_in:Callee P w K mg base "many_in" 1 ["way"] (spD K 1 f_many_in)):FnOk P w K mg base (CXe P w) 3 f fd ["way","number"] (spX K mg 2 f_check_comer):=by
  refine defx_ok Fn sc_check_comer fun cdv A outer s H E hr=>?_
  have hu5:(A.deeper (PyProof.Rows.envOfC "check_comer" (defScope s_check_comer) s.heap.objs.size f cdv)).units + 65 < cLine:=by have:=hr.un; omega
  obtain ⟨Wt_NoComer,Cl_NoComer,fi_NoComer,cl_NoComer,hW_NoComer,hA_NoComer,ecl_NoComer,eini_NoComer,efit_NoComer⟩:=T.err_NoComer
  exact ⟨_,(sxs_one (sx_if (et_not (et_chain od_le od_lt (Ev.bw ev_int) (eb_v 1) (Ev.bw (ev_call C_many_in (hr.mono (by decide)) (av_d (ev_v 0) av_nil) (ln_d ln_nil))))) (sxs_one (sx_raise "NoComer" goes_of ecl_NoComer eini_NoComer (hr.mono (by decide)) efit_NoComer.mgc (ea_cons (ev_v 1) ea_nil))) (sxs_of ss_nil)))⟩
theorem sc_without:FnScope ["way","number"] ["way","number"] (defScope s_without):=⟨rfl,rfl,rfl,by decide +kernel,rfl,by decide +kernel,by decide +kernel⟩
noncomputable def f_without:List DV→M PyData:=runD ["way","number"] (mSq (mDoX f_check_comer (vD (sV 0) (vD (sV 1) vNil)))
    (mRt (sCall f_told_way (vD (sLC (mSeq (sCall f_numbered (vD (sV 0) vNil))) 1 [1] (bN 0) uYes (sLC (mSeq (sW 0)) 1 [1] (bN 0) (uB (s2 (eqD true) (s2 ixD (sW 0) (sC (.int 1))) (sW 1))) (sV 0))) vNil))))
theorem ok_without {f:Addr} {fd:FuncData} (Fn:Fun K "without" "without" s_without f fd) (T:Txt K mg) (C_check_comer:CalleeX P w K mg base "check_comer" 3 ["way","number"] (spX K mg 2 f_check_comer)) (C_told_way:Callee P w K mg base "told_way" 1 ["rows"] (spD K 1 f_told_way)) (C_numbered:Callee P w K mg base "numbered" 1 ["way"] (spD K 1 f_numbered)):FnOk P w K mg base (CXe P w) 4 f fd ["way","number"] (spX K mg 2 f_without):=by
  refine defx_ok Fn sc_without fun cdv A outer s H E hr=>?_
  have hu5:(A.deeper (PyProof.Rows.envOfC "without" (defScope s_without) s.heap.objs.size f cdv)).units + 65 < cLine:=by have:=hr.un; omega
  exact ⟨_,(sxs_cons (sx_do goes_of C_check_comer (hr.mono (by decide)) (av_d (ev_v 0) (av_d (ev_v 1) av_nil)) (ln_d (ln_d ln_nil)))
      (sxs_of (ss_one (st_ret (ev_call C_told_way (hr.mono (by decide)) (av_d (ev_lc (osc:=(defScope s_without)) (N:=["row","number"]) (k:=1) (cap:=[1]) rfl rfl ⟨rfl,by decide +kernel,by decide +kernel,by decide +kernel,rfl,rfl,by decide +kernel⟩ (eib_seq (Ev.bw (ev_call C_numbered (hr.mono (by decide)) (av_d (ev_v 0) av_nil) (ln_d ln_nil)))) (fun cl C ex pins s H=>(eg_n (i:=0) (show List.Nodup (["row","number"]:List Str) by decide +kernel))) (fun cl C ex pins s H=>ets_nil) (fun cl C ex pins s H=>(ev_lcC (N:=["entry","number"]) (k:=1) (cap:=[1]) rfl ⟨rfl,by decide +kernel,by decide +kernel,by decide +kernel,rfl,rfl,by decide +kernel⟩ (eib_seq (eb_v 0)) (fun cl C ex pins s H=>(eg_n (i:=0) (show List.Nodup (["entry","number"]:List Str) by decide +kernel))) (fun cl C ex pins s H=>(ets_one (et_cmp (od_ne rfl hr.units) (Ev.bw (ev_ix (id_ix rfl) (eb_v 0) (Ev.bw ev_int))) (eb_v 1)))) (fun cl C ex pins s H=>(ev_v 0))))) av_nil) (ln_d ln_nil))))))⟩
theorem sc_longer:FnScope ["way","number","more","rows","row"] ["way","number","more"] (defScope s_longer):=⟨rfl,rfl,rfl,by decide +kernel,rfl,by decide +kernel,by decide +kernel⟩
noncomputable def f_longer:List DV→M PyData:=runD ["way","number","more","rows","row"] (mSq (mDoX f_check_comer (vD (sV 0) (vD (sV 1) vNil)))
    (mSq (mOwn 3 (fLst sNil))
    (mSq (mFor (mSeq (sCall f_numbered (vD (sV 0) vNil))) (bN 4) (mApp 3 (sLC (mSeq (sW 4)) 3 [1,2] (bTup 2 (bCons (bTup 2 (bCons (bN 0) (bCons (bN 1) bNil))) (bCons (bN 2) bNil))) uYes (sTup (sCons (sTup (sCons (sV 0) (sCons (sIf (uB (s2 (eqD false) (sW 2) (sW 3))) (s2 addD (sW 1) (sW 4)) (sV 1)) sNil))) (sCons (sV 2) sNil))))))
    (mPub 3 (mRt (sCall f_told_way (vD (sV 3) vNil)))))))
theorem ok_longer {f:Addr} {fd:FuncData} (Fn:Fun K "longer" "longer" s_longer f fd) (T:Txt K mg) (C_check_comer:CalleeX P w K mg base "check_comer" 3 ["way","number"] (spX K mg 2 f_check_comer)) (C_numbered:Callee P w K mg base "numbered" 1 ["way"] (spD K 1 f_numbered)) (C_told_way:Callee P w K mg base "told_way" 1 ["rows"] (spD K 1 f_told_way)):FnOk P w K mg base (CXe P w) 4 f fd ["way","number","more"] (spX K mg 3 f_longer):=by
  refine defx_ok Fn sc_longer fun cdv A outer s H E hr=>?_
  have hu5:(A.deeper (PyProof.Rows.envOfC "longer" (defScope s_longer) s.heap.objs.size f cdv)).units + 65 < cLine:=by have:=hr.un; omega
  exact ⟨_,(sxs_cons (sx_do goes_of C_check_comer (hr.mono (by decide)) (av_d (ev_v 0) (av_d (ev_v 1) av_nil)) (ln_d (ln_d ln_nil)))
      (sxs_of (ss_cons (st_own 3 sc_longer.nd (ef_lst ea_nil))
      (ss_cons (st_for rfl (ei_seq (ev_call C_numbered (hr.mono (by decide)) (av_d (ev_v 0) av_nil) (ln_d ln_nil))) (eg_n (i:=4) sc_longer.nd) (ss_one (st_app 3 rfl (ev_lc (osc:=(defScope s_longer)) (N:=["rank","work","each","number","more"]) (k:=3) (cap:=[1,2]) rfl rfl ⟨rfl,by decide +kernel,by decide +kernel,by decide +kernel,rfl,rfl,by decide +kernel⟩ (eib_seq (eb_v 4)) (fun cl C ex pins s H=>(eg_tup (n:=2) rfl (egs_cons (eg_tup (n:=2) rfl (egs_cons (eg_n (i:=0) (show List.Nodup (["rank","work","each","number","more"]:List Str) by decide +kernel)) (egs_cons (eg_n (i:=1) (show List.Nodup (["rank","work","each","number","more"]:List Str) by decide +kernel)) egs_nil))) (egs_cons (eg_n (i:=2) (show List.Nodup (["rank","work","each","number","more"]:List Str) by decide +kernel)) egs_nil)))) (fun cl C ex pins s H=>ets_nil) (fun cl C ex pins s H=>(ev_tup (ea_cons (ev_tup (ea_cons (ev_v 0) (ea_cons (ev_if (et_cmp (od_eq rfl hr.units) (eb_v 2) (eb_v 3)) (ev_op (od_add rfl) (eb_v 1) (eb_v 4)) (ev_v 1)) ea_nil))) (ea_cons (ev_v 2) ea_nil))))))))
      (ss_one (st_pub 3 (st_ret (ev_call C_told_way (hr.mono (by decide)) (av_d (ev_v 3) av_nil) (ln_d ln_nil)))))))))⟩
theorem sc_front_alone:FnScope ["way"] ["way"] (defScope s_front_alone):=⟨rfl,rfl,rfl,by decide +kernel,rfl,by decide +kernel,by decide +kernel⟩
noncomputable def f_front_alone:List DV→M PyData:=runD ["way"] (mRt (sCall f_told_way (vD (sLC (mSeq (sCall f_numbered (vD (sV 0) vNil))) 1 [] (bN 0) uYes (sLC (mSeq (sW 0)) 1 [] (bN 0) (uB (s2 (eqD false) (s2 ixD (s2 ixD (sW 0) (sC (.int 0))) (sC (.int 0))) (sC (.int 0)))) (sV 0))) vNil)))
theorem ok_front_alone {f:Addr} {fd:FuncData} (Fn:Fun K "front_alone" "front_alone" s_front_alone f fd) (T:Txt K mg) (C_told_way:Callee P w K mg base "told_way" 1 ["rows"] (spD K 1 f_told_way)) (C_numbered:Callee P w K mg base "numbered" 1 ["way"] (spD K 1 f_numbered)):FnOk P w K mg base CX0 2 f fd ["way"] (spD K 1 f_front_alone):=by
  refine def_ok Fn sc_front_alone fun cdv A outer s H E hr=>?_
  have hu5:(A.deeper (PyProof.Rows.envOfC "front_alone" (defScope s_front_alone) s.heap.objs.size f cdv)).units + 65 < cLine:=by have:=hr.un; omega
  exact ⟨_,(ss_one (st_ret (ev_call C_told_way (hr.mono (by decide)) (av_d (ev_lc (osc:=(defScope s_front_alone)) (N:=["row"]) (k:=1) (cap:=[]) rfl rfl ⟨rfl,by decide +kernel,by decide +kernel,by decide +kernel,rfl,rfl,by decide +kernel⟩ (eib_seq (Ev.bw (ev_call C_numbered (hr.mono (by decide)) (av_d (ev_v 0) av_nil) (ln_d ln_nil)))) (fun cl C ex pins s H=>(eg_n (i:=0) (show List.Nodup (["row"]:List Str) by decide +kernel))) (fun cl C ex pins s H=>ets_nil) (fun cl C ex pins s H=>(ev_lcC (N:=["entry"]) (k:=1) (cap:=[]) rfl ⟨rfl,by decide +kernel,by decide +kernel,by decide +kernel,rfl,rfl,by decide +kernel⟩ (eib_seq (eb_v 0)) (fun cl C ex pins s H=>(eg_n (i:=0) (show List.Nodup (["entry"]:List Str) by decide +kernel))) (fun cl C ex pins s H=>(ets_one (et_cmp (od_eq rfl hr.units) (Ev.bw (ev_ix (id_ix rfl) (Ev.bw (ev_ix (id_ix rfl) (eb_v 0) (Ev.bw ev_int))) (Ev.bw ev_int))) (Ev.bw ev_int)))) (fun cl C ex pins s H=>(ev_v 0))))) av_nil) (ln_d ln_nil))))⟩
noncomputable def spFeed (K:PySem.W.Frag):Sp:=fun vs H Q _=>∃ (a:Addr) (ns:List Int),vs = [.ref a] ∧ SqL K H a (ns.map V.int) ∧ ns.length ≤ 63 ∧
  ∀ (d c:Addr) (H':Hp),Feeds.At d c H' (newF ns)→Same H H'→Q (.ref d) H'
theorem cut63 {ns:List Int} (h:ns.length ≤ 63):cutV (ns.map V.int) none (some 63) = ns.map V.int:=by
  unfold cutV
  have e:HT.sIx (ns.map V.int).length (ns.map V.int).length (some 63) = min 63 (ns.map V.int).length:=HT.sIx_nat _ _ 63
  rw [e,HT.sIx_none,List.drop_zero,Nat.sub_zero,List.take_of_length_le (by rw [List.length_map]; omega)]
theorem sc__law_feed:FnScope ["_law_script"] ["_law_script"] (defScope s__law_feed):=⟨rfl,rfl,rfl,by decide +kernel,rfl,by decide +kernel,by decide +kernel⟩
theorem ok__law_feed {f:Addr} {fd:FuncData} (F:Fun K "_law_feed" "_law_feed" s__law_feed f fd) (T:Txt K mg):FnOk P w K mg base CX0 1 f fd ["_law_script"] (spFeed K):=by
  refine F.ok sc__law_feed (fun vs H Q E h=>?_) (fun cdv A outer s H vs Q E hr h=>?_)
  · obtain ⟨a,ns,rfl,_⟩:=h
    rfl
  · obtain ⟨a,ns,rfl,hS,hl,k⟩:=h
    refine ⟨_,pss_one (ps_ret (pe_lst (pa_cons (pe_callTy call_list_of rfl T.list bt_list (pa_cons (pe_slice sl_list (pv 0) po_none (po_some pe_int)) pa_nil)) (pa_cons pe_int (pa_cons pe_int pa_nil))))),?_⟩
    refine ⟨_,rfl,63,rfl,a,_,rfl,hS,fun q0 hq0=>?_⟩
    rw [cut63 hl]
    refine ⟨q0,_,rfl,.inl (SqL.of upd_same),fun q hq=>⟨Nat.le_of_lt (small1000 (by show 3 ≤ 1000; decide)),fun p hp=>?_⟩⟩
    have s0:Same H (upd H q0 (.lst (ns.map V.int))):=Same.upd hq0
    have nqp:q ≠ p:=ne_of_none upd_same hp
    refine k p q _ ⟨upd_same,by rw [upd_ne nqp]; exact upd_same,hl,(by show (0:Int) ≤ 0; decide),(by show (0:Int) ≤ 0; decide),Ne.symm nqp⟩ fun b o e=>?_
    have e1:upd (upd H q0 (.lst (ns.map V.int))) q (.lst (ns.map V.int)) b = some o:=by rw [upd_ne (ne_of_none (s0 b o e) hq)]; exact s0 b o e
    rw [upd_ne (ne_of_none e1 hp)]
    exact e1
theorem sc__law_next:FnScope ["_law_feed_here","_law_many","_law_digit","_law_at","_law_cell","_law_first"] ["_law_feed_here","_law_many"] (defScope s__law_next):=⟨rfl,rfl,rfl,by decide +kernel,rfl,by decide +kernel,by decide +kernel⟩
theorem ok__law_next {f:Addr} {fd:FuncData} (Fn:Fun K "_law_next" "_law_next" s__law_next f fd) (T:Txt K mg):FnOk P w K mg base CX0 1 f fd ["_law_feed_here","_law_many"] (spD K 2 drawS):=by
  refine Fn.ok sc__law_next (fun vs H Q E h=>?_) (fun cdv A outer s H vs Q E hr h=>?_)
  · obtain ⟨G,B,F,args,d,F',hl,_⟩:=h
    exact hl
  · obtain ⟨G,B,F,args,dd,F',hl,fB,bk,fa,ha,hm0,q⟩:=h
    obtain ⟨m,rfl⟩:∃ m,args = [.feed,.dat (.int m)]:=by
      unfold drawS at hm0
      split at hm0
      · exact ⟨_,rfl⟩
      · cases hm0
    obtain ⟨v,r,rfl,_,⟨d,c,rfl,rfl⟩,v2,r2,rfl,_,hv2,rfl⟩:=ha
    have hv2:v2 = .int m:=by simpa only [DVr,DatIs] using hv2
    subst hv2
    obtain ⟨⟨r0,F1⟩,e1,e2⟩:=Option.bind_eq_some_iff.mp hm0
    cases e2
    replace e1:drawN m F = some (r0,F1):=e1
    have hcond:0 < m ∧ m < 1073741824 ∧ F.t < 199999:=by
      unfold drawN at e1
      split at e1
      · assumption
      · cases e1
    obtain ⟨hm,hm2,htl⟩:=hcond
    obtain ⟨ns,a,l,t⟩:=F
    obtain ⟨⟨hd,hc,hl63,ha0,ht0,ndc⟩,tbo⟩:=fa
    simp only at hd hc hl63 ha0 ht0 htl
    have k:∀ (r:Int) (H':Hp) (F2:FdS),drawN m ⟨ns,a,l,t⟩ = some (r,F2)→Feeds.At d c H' F2→(∀ b o,H b = some o→b ≠ d→H' b = some o)→Q (.int r) H':=fun r H' F2 er fa' kp=>by
      rw [er] at e1
      cases e1
      exact q _ H' (fun b o e nb=>kp b o e fun z=>nb (by simp [fpOf,z])) ⟨fa',tbo.but hd ⟨fun _ z=>(by cases z),fun _ z=>(by cases z)⟩ kp⟩ DatIs.int
    have hdr:drawN m ⟨ns,a,l,t⟩ = some (if 0 < l then (l % m,⟨ns,a,l / m,t + 1⟩) else if 10 ^ 18 ≤ (FdS.cellL ⟨ns,a,l,t⟩) ∧ a < ns.length then ((FdS.cellL ⟨ns,a,l,t⟩) % m,⟨ns,a + 1,(FdS.cellL ⟨ns,a,l,t⟩) / m,t + 1⟩) else ((FdS.mixN ⟨ns,a,l,t⟩) % m,⟨ns,a + 1,l,t + 1⟩)):=by
      unfold drawN; rw [if_pos ⟨hm,hm2,htl⟩]
    have ncd:c ≠ d:=Ne.symm ndc
    refine ⟨_,pss_cons (ps_if (pt_cmpR op_gt (pe_ix ix_list (pv 0) pe_int (fun _ _=>rfl)) pe_int (nomark _))
        (pss_cons (ps_set (i:=2) sc__law_next.nd rfl (Or.inl rfl) (pe_op op_mod (pe_ix ix_list (pv 0) pe_int (fun _ _=>rfl)) (pv 1)))
          (pss_cons (ps_asg (pe_op op_fdiv (pe_ix ix_list (pv 0) pe_int (fun _ _=>rfl)) (pv 1)) (pg_sub (pv 0) pe_int set_list (fun _=>rfl))) (pss_one (ps_ret (pv 2))))) pss_nil)
      (pss_cons (ps_set (i:=3) sc__law_next.nd rfl (Or.inl rfl) (pe_ix ix_list (pv 0) pe_int (fun _ _=>rfl)))
      (pss_cons (ps_asg (pe_op op_add (pv 3) pe_int) (pg_sub (pv 0) pe_int set_list (fun _=>rfl)))
      (pss_cons (ps_set (i:=4) sc__law_next.nd rfl (Or.inl rfl) (pe_ifExp (pt_cmpR (op_neNil (Nat.lt_of_le_of_lt (Nat.le_add_right _ 64) hr.units)) (pe_ix ix_list (pv 0) pe_int (fun _ _=>rfl)) (pe_lst pa_nil) (nomark _))
        (pe_ix ix_list (pe_ix ix_list (pv 0) pe_int (fun _ _=>rfl)) (pe_op op_mod (pv 3) (pe_callB call_len_seq (by rfl) T.len PySem.boot_len (pa_cons (pe_ix ix_list (pv 0) pe_int (fun _ _=>rfl)) pa_nil))) (fun _ _=>rfl)) pe_int))
      (pss_cons (ps_if (PW.pt (pw_and (pt_cmpR op_ge (pv 4) (pe_op op_pow pe_int pe_int) (nomark _)) (pw_and1 (pt_cmpR op_lt (pv 3) (pe_callB call_len_seq (by rfl) T.len PySem.boot_len (pa_cons (pe_ix ix_list (pv 0) pe_int (fun _ _=>rfl)) pa_nil)) (nomark _)))))
        (pss_cons (ps_asg (pe_op op_fdiv (pv 4) (pv 1)) (pg_sub (pv 0) pe_int set_list (fun _=>rfl))) (pss_one (ps_ret (pe_op op_mod (pv 4) (pv 1))))) pss_nil)
      (pss_cons (ps_set (i:=5) sc__law_next.nd rfl (Or.inl rfl) (pe_op op_mod (pe_op op_mul (pe_op op_add (pe_op op_add (pe_op op_add (pe_op op_mod (pv 4) pe_int) (pe_op op_mul (pe_op op_mul pe_int (pv 3)) (pv 3))) (pe_op op_mul pe_int (pv 3))) pe_int) pe_int) pe_int))
      (pss_one (ps_ret (pe_op op_mod (pe_op op_fdiv (pe_op op_mod (pe_op op_mul (pe_op op_mod (pe_op op_add (pe_op op_add (pe_op op_mul (pv 5) (pv 5)) (pe_op op_mul pe_int (pv 3))) pe_int) pe_int) pe_int) pe_int) pe_int) (pv 1))))))))),?_⟩
    refine ⟨_,rfl,d,_,_,_,rfl,rfl,SqL.of hd,rfl,_,_,rfl,rfl,_,rfl,?_⟩
    refine ite2 (fun hleft=>?_) (fun hleft=>?_)
    · have hleft:0 < l:=of_decide_eq_true hleft
      refine ⟨_,rfl,d,_,_,_,rfl,rfl,SqL.of hd,rfl,_,rfl,_,_,rfl,rfl,hm,?_⟩
      refine ⟨_,rfl,d,_,_,_,rfl,rfl,SqL.of hd,rfl,_,rfl,_,_,rfl,rfl,⟨hm,hm2⟩,_,rfl,d,_,_,2,rfl,rfl,hd,rfl,_,rfl,?_⟩
      exact k _ _ ⟨ns,a,l / m,t + 1⟩ (by rw [hdr,if_pos hleft]) ⟨upd_same,by rw [upd_ne ncd]; exact hc,hl63,ha0,by simp only; omega,ndc⟩ (fun b o e hb=>by rw [upd_ne hb]; exact e)
    · have hleft:¬ 0 < l:=fun z=>hleft (decide_eq_true z)
      refine ⟨_,rfl,d,_,_,_,rfl,rfl,SqL.of hd,rfl,?_⟩
      refine ⟨_,rfl,_,_,rfl,rfl,_,rfl,d,_,_,1,rfl,rfl,hd,rfl,?_⟩
      have hd1:(upd H d (.lst [.ref c,.int (a + 1),.int l])) d = some (.lst [.ref c,.int (a + 1),.int l]):=upd_same
      have hc1:(upd H d (.lst [.ref c,.int (a + 1),.int l])) c = some (.lst (ns.map V.int)):=by rw [upd_ne ncd]; exact hc
      have kp1:∀ b o,H b = some o→b ≠ d→(upd H d (.lst [.ref c,.int (a + 1),.int l])) b = some o:=fun b o e hb=>by rw [upd_ne hb]; exact e
      show tSeq _ _ _ _ (upd H d (.lst [.ref c,.int (a + 1),.int l]))
      generalize upd H d (.lst [.ref c,.int (a + 1),.int l]) = H1 at hd1 hc1 kp1
      refine ⟨_,rfl,d,_,_,_,rfl,rfl,SqL.of hd1,rfl,?_⟩
      refine ⟨Nat.le_of_lt (small1000 (by show 0 ≤ 1000; decide)),fun p hp=>?_⟩
      replace kp1:∀ b o,H b = some o→b ≠ d→(upd H1 p (.lst [])) b = some o:=fun b o e hb=>by rw [upd_ne (ne_of_none (kp1 b o e hb) hp)]; exact kp1 b o e hb
      replace hd1:(upd H1 p (.lst [])) d = some (.lst [.ref c,.int (a + 1),.int l]):=by rw [upd_ne (ne_of_none hd1 hp)]; exact hd1
      replace hc1:(upd H1 p (.lst [])) c = some (.lst (ns.map V.int)):=by rw [upd_ne (ne_of_none hc1 hp)]; exact hc1
      have hpp:(upd H1 p (.lst [])) p = some (.lst []):=upd_same
      generalize upd H1 p (.lst []) = H1 at hd1 hc1 kp1 hpp
      refine ⟨c,p,_,rfl,rfl,SqL.of hc1,SqL.of hpp,_,rfl,?_⟩
      have big:10 ^ 18 ≤ (FdS.cellL ⟨ns,a,l,t⟩) ∧ a < ns.length→Q (.int (FdS.cellL ⟨ns,a,l,t⟩ % m)) (upd H1 d (.lst [.ref c,.int (a + 1),.int (FdS.cellL ⟨ns,a,l,t⟩ / m)])):=fun hb =>
        k _ _ ⟨ns,a + 1,FdS.cellL ⟨ns,a,l,t⟩ / m,t + 1⟩ (by rw [hdr,if_neg hleft,if_pos hb]) ⟨upd_same,by rw [upd_ne ncd]; exact hc1,hl63,by simp only; omega,by simp only; omega,ndc⟩ (fun b o e hb=>by rw [upd_ne hb]; exact kp1 b o e hb)
      have small:¬ (10 ^ 18 ≤ (FdS.cellL ⟨ns,a,l,t⟩) ∧ a < ns.length)→Q (.int (FdS.mixN ⟨ns,a,l,t⟩ % m)) H1:=fun hb =>
        k _ _ ⟨ns,a + 1,l,t + 1⟩ (by rw [hdr,if_neg hleft,if_neg hb]) ⟨hd1,hc1,hl63,by simp only; omega,by simp only; omega,ndc⟩ kp1
      unfold FdS.mixN FdS.fstN at small
      simp only at small
      refine ite2 (fun hne=>?_) (fun he=>?_)
      · have h0:¬ ns = []:=by intro e; rw [e] at hne; simp at hne
        have hne:(0:Int) < ns.length:=by have:=List.length_pos_iff.mpr h0; omega
        refine ⟨_,rfl,d,_,_,_,rfl,rfl,SqL.of hd1,rfl,_,rfl,_,rfl,d,_,_,_,rfl,rfl,SqL.of hd1,rfl,c,_,rfl,.inl (SqL.of hc1),_,_,rfl,rfl,(by rw [List.length_map]; exact hne),c,_,_,_,rfl,rfl,SqL.of hc1,cellL_at (F:=⟨ns,a,l,t⟩) h0,?_⟩
        generalize FdS.cellL ⟨ns,a,l,t⟩ = z at big small
        obtain ⟨q1,q2⟩:=mod_lt (x:=(z % 1000003 + 37 * a * a + 13 * a + 5) * 48271) (m:=999983) (by decide)
        have tl:¬ (10 ^ 18 ≤ (z:Int) ∧ a < ns.length)→Q (.int (((z % 1000003 + 37 * a * a + 13 * a + 5) * 48271 % 999983 * ((z % 1000003 + 37 * a * a + 13 * a + 5) * 48271 % 999983) + 7919 * a + 11) % 2097143 * 69621 % 2147483629 / 7 % m)) H1:=small
        refine ⟨_,rfl,_,_,rfl,rfl,⟨by decide,by decide,by decide⟩,_,_,rfl,rfl,_,rfl,?_⟩
        refine ite2 (fun hb1=>⟨_,rfl,_,rfl,d,_,_,_,rfl,rfl,SqL.of hd1,rfl,c,_,rfl,.inl (SqL.of hc1),_,_,rfl,rfl,_,rfl,ite2 (fun hb2=>?_) (fun hb2=>?_)⟩) (fun hb1=>iteF ?_)
        · have hb1:=of_decide_eq_true hb1
          have hb2:=of_decide_eq_true hb2
          rw [List.length_map] at hb2
          exact ⟨_,rfl,_,rfl,_,_,rfl,rfl,⟨hm,hm2⟩,_,rfl,d,_,_,2,rfl,rfl,hd1,rfl,_,rfl,_,rfl,_,_,rfl,rfl,hm,big ⟨hb1,hb2⟩⟩
        all_goals
          have hq:=tl fun hb=>by first | exact hb2 (decide_eq_true (by rw [List.length_map]; exact hb.2)) | exact hb1 (decide_eq_true hb.1)
          refine ⟨_,rfl,_,_,rfl,rfl,(by show (0:Int) < 1000003; decide),_,rfl,_,_,rfl,rfl,.inl ⟨by decide,by decide⟩,_,rfl,_,_,rfl,rfl,.inr ⟨by omega,by omega⟩,_,_,rfl,rfl,_,rfl,_,_,rfl,rfl,.inl ⟨by decide,by decide⟩,_,_,rfl,rfl,_,_,rfl,rfl,_,_,rfl,rfl,.inr ⟨by decide,by decide⟩,_,_,rfl,rfl,(by show (0:Int) < 999983; decide),?_⟩
          refine ⟨_,rfl,_,rfl,_,_,rfl,rfl,.inl ⟨by omega,by omega⟩,_,rfl,_,_,rfl,rfl,.inl ⟨by decide,by decide⟩,_,_,rfl,rfl,_,_,rfl,rfl,_,_,rfl,rfl,(by show (0:Int) < 2097143; decide),?_⟩
          exact ⟨_,_,rfl,rfl,.inr ⟨by decide,by decide⟩,_,_,rfl,rfl,(by show (0:Int) < 2147483629; decide),_,_,rfl,rfl,⟨by decide,by decide⟩,_,rfl,_,_,rfl,rfl,hm,hq⟩
      · have h0:ns = []:=by
          cases ns with
          | nil=>rfl
          | cons x y=>exact absurd rfl he
        have hcell:FdS.cellL ⟨ns,a,l,t⟩ = 0:=by unfold FdS.cellL; rw [if_pos h0]
        rw [hcell] at big small
        obtain ⟨q1,q2⟩:=mod_lt (x:=((0:Int) % 1000003 + 37 * a * a + 13 * a + 5) * 48271) (m:=999983) (by decide)
        have tl:¬ (10 ^ 18 ≤ ((0:Int):Int) ∧ a < ns.length)→Q (.int ((((0:Int) % 1000003 + 37 * a * a + 13 * a + 5) * 48271 % 999983 * (((0:Int) % 1000003 + 37 * a * a + 13 * a + 5) * 48271 % 999983) + 7919 * a + 11) % 2097143 * 69621 % 2147483629 / 7 % m)) H1:=small
        refine ⟨_,rfl,_,_,rfl,rfl,⟨by decide,by decide,by decide⟩,_,_,rfl,rfl,_,rfl,?_⟩
        refine ite2 (fun hb1=>⟨_,rfl,_,rfl,d,_,_,_,rfl,rfl,SqL.of hd1,rfl,c,_,rfl,.inl (SqL.of hc1),_,_,rfl,rfl,_,rfl,ite2 (fun hb2=>?_) (fun hb2=>?_)⟩) (fun hb1=>iteF ?_)
        · have hb1:=of_decide_eq_true hb1
          have hb2:=of_decide_eq_true hb2
          rw [List.length_map] at hb2
          exact ⟨_,rfl,_,rfl,_,_,rfl,rfl,⟨hm,hm2⟩,_,rfl,d,_,_,2,rfl,rfl,hd1,rfl,_,rfl,_,rfl,_,_,rfl,rfl,hm,big ⟨hb1,hb2⟩⟩
        all_goals
          have hq:=tl fun hb=>by first | exact hb2 (decide_eq_true (by rw [List.length_map]; exact hb.2)) | exact hb1 (decide_eq_true hb.1)
          refine ⟨_,rfl,_,_,rfl,rfl,(by show (0:Int) < 1000003; decide),_,rfl,_,_,rfl,rfl,.inl ⟨by decide,by decide⟩,_,rfl,_,_,rfl,rfl,.inr ⟨by omega,by omega⟩,_,_,rfl,rfl,_,rfl,_,_,rfl,rfl,.inl ⟨by decide,by decide⟩,_,_,rfl,rfl,_,_,rfl,rfl,_,_,rfl,rfl,.inr ⟨by decide,by decide⟩,_,_,rfl,rfl,(by show (0:Int) < 999983; decide),?_⟩
          refine ⟨_,rfl,_,rfl,_,_,rfl,rfl,.inl ⟨by omega,by omega⟩,_,rfl,_,_,rfl,rfl,.inl ⟨by decide,by decide⟩,_,_,rfl,rfl,_,_,rfl,rfl,_,_,rfl,rfl,(by show (0:Int) < 2097143; decide),?_⟩
          exact ⟨_,_,rfl,rfl,.inr ⟨by decide,by decide⟩,_,_,rfl,rfl,(by show (0:Int) < 2147483629; decide),_,_,rfl,rfl,⟨by decide,by decide⟩,_,rfl,_,_,rfl,rfl,hm,hq⟩
theorem sc__law_way:FnScope ["_law_feed_here","_law_beats","_law_works","_law_way_here","_law_many","_law_k","_law_beat","_law_j"] ["_law_feed_here","_law_beats","_law_works"] (defScope s__law_way):=⟨rfl,rfl,rfl,by decide +kernel,rfl,by decide +kernel,by decide +kernel⟩
noncomputable abbrev f__law_way:=c_wayN nmB
theorem ok__law_way {f:Addr} {fd:FuncData} (Fn:Fun K "_law_way" "_law_way" s__law_way f fd) (T:Txt K mg) (C__law_next:Callee P w K mg base "_law_next" 1 ["_law_feed_here","_law_many"] (spD K 2 drawS)):FnOk P w K mg base CX0 2 f fd ["_law_feed_here","_law_beats","_law_works"] (spD K 3 f__law_way):=by
  refine def_ok Fn sc__law_way fun cdv A outer s H E hr=>?_
  have hu5:(A.deeper (PyProof.Rows.envOfC "_law_way" (defScope s__law_way) s.heap.objs.size f cdv)).units + 65 < cLine:=by have:=hr.un; omega
  exact ⟨_,(ss_cons (st_own 3 sc__law_way.nd (ef_lst ea_nil))
      (ss_cons (st_set 4 sc__law_way.nd ev_int)
      (ss_cons (st_for rfl (ei_rng1 (ea_cons (ev_call C__law_next (hr.mono (by decide)) (av_f 0 (av_d (ev_op (od_add rfl) (eb_v 1) (Ev.bw ev_int)) av_nil)) (ln_f (ln_d ln_nil))) ea_nil) T.range) (eg_n (i:=5) sc__law_way.nd) (ss_cons (st_own 6 sc__law_way.nd (ef_lst ea_nil))
      (ss_cons (st_for rfl (ei_rng1 (ea_cons (ev_ix (id_ix rfl) (Ev.bw (ev_k (.list [.int 0,.int 0,.int 1,.int 1,.int 2,.int 3]) rfl)) (Ev.bw (ev_call C__law_next (hr.mono (by decide)) (av_f 0 (av_d ev_int av_nil)) (ln_f (ln_d ln_nil))))) ea_nil) T.range) (eg_n (i:=7) sc__law_way.nd) (ss_one (st_if (et_cmp od_lt (eb_v 4) (Ev.bw ev_int)) (ss_cons (st_app 6 rfl (ev_tup (ea_cons (ev_call C__law_next (hr.mono (by decide)) (av_f 0 (av_d ev_int av_nil)) (ln_f (ln_d ln_nil))) (ea_cons (ev_op (od_add rfl) (Ev.bw ev_int) (Ev.bw (ev_call C__law_next (hr.mono (by decide)) (av_f 0 (av_d (ev_v 2) av_nil)) (ln_f (ln_d ln_nil))))) ea_nil))))
      (ss_one (st_set 4 sc__law_way.nd (ev_op (od_add rfl) (eb_v 4) (Ev.bw ev_int))))) ss_nil)))
      (ss_one (st_app 3 rfl (ev_callT (cd_tuple rfl) T.tuple bt_tuple (es_cons (eb_v 6) es_nil)))))))
      (ss_one (st_ret (ev_callT (cd_tuple rfl) T.tuple bt_tuple (es_cons (eb_v 3) es_nil)))))))⟩
theorem sc__law_flat:FnScope ["_law_way_here","_law_rows","_law_at","_law_comer"] ["_law_way_here"] (defScope s__law_flat):=⟨rfl,rfl,rfl,by decide +kernel,rfl,by decide +kernel,by decide +kernel⟩
noncomputable def f__law_flat:List DV→M PyData:=runD ["_law_way_here","_law_rows","_law_at","_law_comer"] (mSq (mOwn 1 (fLst sNil))
    (mSq (mFor (mRng1 (sCons (sN lenD (sCons (sW 0) sNil)) sNil)) (bN 2) (mFor (mSeq (s2 ixD (sW 0) (sW 2))) (bN 3) (mApp 1 (sTup (sCons (sV 2) (sCons (sV 3) (sCons (sN lenD (sCons (sW 1) sNil)) sNil)))))))
    (mRt (sW 1))))
theorem ok__law_flat {f:Addr} {fd:FuncData} (Fn:Fun K "_law_flat" "_law_flat" s__law_flat f fd) (T:Txt K mg) :FnOk P w K mg base CX0 1 f fd ["_law_way_here"] (spD K 1 f__law_flat):=by
  refine def_ok Fn sc__law_flat fun cdv A outer s H E hr=>?_
  have hu5:(A.deeper (PyProof.Rows.envOfC "_law_flat" (defScope s__law_flat) s.heap.objs.size f cdv)).units + 65 < cLine:=by have:=hr.un; omega
  exact ⟨_,(ss_cons (st_own 1 sc__law_flat.nd (ef_lst ea_nil))
      (ss_cons (st_for rfl (ei_rng1 (ea_cons (ev_callB (cd_len rfl) T.len bt_len (es_cons (eb_v 0) es_nil)) ea_nil) T.range) (eg_n (i:=2) sc__law_flat.nd) (ss_one (st_for rfl (ei_seq (ev_ix (id_ix rfl) (eb_v 0) (eb_v 2))) (eg_n (i:=3) sc__law_flat.nd) (ss_one (st_app 1 rfl (ev_tup (ea_cons (ev_v 2) (ea_cons (ev_v 3) (ea_cons (ev_callB (cd_len rfl) T.len bt_len (es_cons (eb_v 1) es_nil)) ea_nil)))))))))
      (ss_one (st_retW 1))))⟩
theorem sc__law_built:FnScope ["_law_rows","_law_many","_law_beats"] ["_law_rows","_law_many"] (defScope s__law_built):=⟨rfl,rfl,rfl,by decide +kernel,rfl,by decide +kernel,by decide +kernel⟩
noncomputable def f__law_built:List DV→M PyData:=runD ["_law_rows","_law_many","_law_beats"] (mSq (mSet 2 (sLC (mRng1 (sCons (sV 1) sNil)) 1 [0] (bN 0) uYes (sN tupleD (sCons (sLC (mSeq (sW 1)) 3 [0] (bTup 3 (bCons (bN 0) (bCons (bN 1) (bCons (bN 2) bNil)))) (uB (s2 (eqD false) (sW 0) (sW 3))) (sV 1)) sNil))))
    (mRt (sTup (sCons (sN tupleD (sCons (sW 2) sNil)) (sCons (sN tupleD (sCons (sLC (mSeq (sW 0)) 3 [] (bTup 3 (bCons (bN 0) (bCons (bN 1) (bCons (bN 2) bNil)))) uYes (sV 2)) sNil)) sNil)))))
theorem ok__law_built {f:Addr} {fd:FuncData} (Fn:Fun K "_law_built" "_law_built" s__law_built f fd) (T:Txt K mg) :FnOk P w K mg base CX0 1 f fd ["_law_rows","_law_many"] (spD K 2 f__law_built):=by
  refine def_ok Fn sc__law_built fun cdv A outer s H E hr=>?_
  have hu5:(A.deeper (PyProof.Rows.envOfC "_law_built" (defScope s__law_built) s.heap.objs.size f cdv)).units + 65 < cLine:=by have:=hr.un; omega
  exact ⟨_,(ss_cons (st_setLC 2 (hN:=sc__law_built.nd) (osc:=(defScope s__law_built)) (N:=["_law_beat","_law_rows"]) (k:=1) (cap:=[0]) (hc:=rfl) (hosc:=rfl) (hcap:=⟨rfl,by decide +kernel,by decide +kernel,by decide +kernel,rfl,rfl,by decide +kernel⟩) (Ei.bw (ei_rng1 (ea_cons (ev_v 1) ea_nil) T.range)) (fun cl C ex pins s H=>(eg_n (i:=0) (show List.Nodup (["_law_beat","_law_rows"]:List Str) by decide +kernel))) (fun cl C ex pins s H=>ets_nil) (fun cl C ex pins s H=>(ev_callT (cd_tuple rfl) T.tuple bt_tuple (es_cons (Ev.bw (ev_lcC (N:=["_law_at","_law_comer","_law_number","_law_beat"]) (k:=3) (cap:=[0]) rfl ⟨rfl,by decide +kernel,by decide +kernel,by decide +kernel,rfl,rfl,by decide +kernel⟩ (eib_seq (eb_v 1)) (fun cl C ex pins s H=>(eg_tup (n:=3) rfl (egs_cons (eg_n (i:=0) (show List.Nodup (["_law_at","_law_comer","_law_number","_law_beat"]:List Str) by decide +kernel)) (egs_cons (eg_n (i:=1) (show List.Nodup (["_law_at","_law_comer","_law_number","_law_beat"]:List Str) by decide +kernel)) (egs_cons (eg_n (i:=2) (show List.Nodup (["_law_at","_law_comer","_law_number","_law_beat"]:List Str) by decide +kernel)) egs_nil))))) (fun cl C ex pins s H=>(ets_one (et_cmp (od_eq rfl hr.units) (eb_v 0) (eb_v 3)))) (fun cl C ex pins s H=>(ev_v 1)))) es_nil))))
      (ss_one (st_ret (ev_tup (ea_cons (ev_callT (cd_tuple rfl) T.tuple bt_tuple (es_cons (eb_v 2) es_nil)) (ea_cons (ev_callT (cd_tuple rfl) T.tuple bt_tuple (es_cons (Ev.bw (ev_lc (osc:=(defScope s__law_built)) (N:=["_law_at","_law_comer","_law_number"]) (k:=3) (cap:=[]) rfl rfl ⟨rfl,by decide +kernel,by decide +kernel,by decide +kernel,rfl,rfl,by decide +kernel⟩ (eib_seq (eb_v 0)) (fun cl C ex pins s H=>(eg_tup (n:=3) rfl (egs_cons (eg_n (i:=0) (show List.Nodup (["_law_at","_law_comer","_law_number"]:List Str) by decide +kernel)) (egs_cons (eg_n (i:=1) (show List.Nodup (["_law_at","_law_comer","_law_number"]:List Str) by decide +kernel)) (egs_cons (eg_n (i:=2) (show List.Nodup (["_law_at","_law_comer","_law_number"]:List Str) by decide +kernel)) egs_nil))))) (fun cl C ex pins s H=>ets_nil) (fun cl C ex pins s H=>(ev_v 2)))) es_nil)) ea_nil))))))⟩
theorem sc__law_told:FnScope ["_law_deed_here","_law_way_here","_law_some","_law_told_here","e","_law_others"] ["_law_deed_here","_law_way_here","_law_some"] (defScope s__law_told):=⟨rfl,rfl,rfl,by decide +kernel,rfl,by decide +kernel,by decide +kernel⟩
noncomputable def f__law_told:List DV→M PyData:=runD ["_law_deed_here","_law_way_here","_law_some","_law_told_here","e","_law_others"] (mSq (mSet 3 (sC .none))
    (mSq (mIf (uB (s2 (eqD false) (sW 0) (sC (.str "with")))) (mTry 3 "told" f_with_comer (vD (sV 1) (vD (s2 ixD (sW 2) (sC (.int 0))) (vD (s2 ixD (sW 2) (sC (.int 1))) (vD (s2 ixD (sW 2) (sC (.int 2))) vNil)))) (hdC "NoBeat" "NoComer" 4 5 3 "odd" "beat" [.inl "comer",.inr "number"])) (mIf (uB (s2 (eqD false) (sW 0) (sC (.str "without")))) (mTry 3 "told" f_without (vD (sV 1) (vD (s2 ixD (sW 2) (sC (.int 0))) vNil)) (hdC "NoBeat" "NoComer" 4 5 3 "odd" "beat" [.inl "comer",.inr "number"])) (mTry 3 "told" f_longer (vD (sV 1) (vD (s2 ixD (sW 2) (sC (.int 0))) (vD (s2 ixD (sW 2) (sC (.int 1))) vNil))) (hdC "NoBeat" "NoComer" 4 5 3 "odd" "beat" [.inl "comer",.inr "number"]))))
    (mRt (sV 3))))
theorem ok__law_told {f:Addr} {fd:FuncData} (Fn:Fun K "_law_told" "_law_told" s__law_told f fd) (T:Txt K mg) (C_with_comer:CalleeX P w K mg base "with_comer" 3 ["way","beat","place","comer"] (spX K mg 4 f_with_comer)) (C_without:CalleeX P w K mg base "without" 4 ["way","number"] (spX K mg 2 f_without)) (C_longer:CalleeX P w K mg base "longer" 4 ["way","number","more"] (spX K mg 3 f_longer)):FnOk P w K mg base CX0 5 f fd ["_law_deed_here","_law_way_here","_law_some"] (spD K 3 f__law_told):=by
  refine def_ok Fn sc__law_told fun cdv A outer s H E hr=>?_
  have hu5:(A.deeper (PyProof.Rows.envOfC "_law_told" (defScope s__law_told) s.heap.objs.size f cdv)).units + 65 < cLine:=by have:=hr.un; omega
  obtain ⟨Wt_NoBeat,Cl_NoBeat,fi_NoBeat,cl_NoBeat,hW_NoBeat,hA_NoBeat,ecl_NoBeat,eini_NoBeat,efit_NoBeat⟩:=T.err_NoBeat
  obtain ⟨Wt_NoComer,Cl_NoComer,fi_NoComer,cl_NoComer,hW_NoComer,hA_NoComer,ecl_NoComer,eini_NoComer,efit_NoComer⟩:=T.err_NoComer
  obtain ⟨_,_,rfl,hA_NoBeat_0,_,_,rfl,hA_NoBeat_1,_,_,rfl,hA_NoBeat_2,_,_,rfl,hA_NoBeat_3,_,_,rfl,hA_NoBeat_4,_,_,rfl,hA_NoBeat_5,_,_,rfl,hA_NoBeat_6,rfl⟩:=hA_NoBeat
  obtain ⟨_,_,rfl,hA_NoComer_0,_,_,rfl,hA_NoComer_1,_,_,rfl,hA_NoComer_2,_,_,rfl,hA_NoComer_3,_,_,rfl,hA_NoComer_4,_,_,rfl,hA_NoComer_5,_,_,rfl,hA_NoComer_6,rfl⟩:=hA_NoComer
  have z9:=hA_NoBeat_0.symm.trans efit_NoComer.mgc
  cases z9
  have z9:=hA_NoComer_0.symm.trans efit_NoBeat.mgc
  cases z9
  have z9:=hW_NoBeat.symm.trans hW_NoComer
  cases z9
  have z9:=hA_NoBeat_1.symm.trans hA_NoComer_1
  cases z9
  have z9:=hA_NoBeat_2.symm.trans hA_NoComer_2
  cases z9
  have z9:=hA_NoBeat_3.symm.trans hA_NoComer_3
  cases z9
  have z9:=hA_NoBeat_4.symm.trans hA_NoComer_4
  cases z9
  have z9:=hA_NoBeat_5.symm.trans hA_NoComer_5
  cases z9
  have z9:=hA_NoBeat_6.symm.trans hA_NoComer_6
  cases z9
  exact ⟨_,(ss_cons (st_set 3 sc__law_told.nd ev_non)
      (ss_cons (by have hsu:=(su_C (odd:="odd") (beat:="beat") (its:=[.inl "comer",.inr "number"]) (i:=4) (j:=5) (fi:=3) efit_NoBeat efit_NoComer (by decide) (by decide) (by decide) (by decide) (by decide) (Nat.le_of_ble_eq_true rfl) (by decide)); exact st_tryB (try_if (fun pn xe=>(et_cmp (od_eq rfl hr.units) (eb_v 0) (Ev.bw ev_str))) (try_set 3 C_with_comer (hr.mono (by decide)) (fun pn xe=>(av_d (ev_v 1) (av_d (ev_ix (id_ix rfl) (eb_v 2) (Ev.bw ev_int)) (av_d (ev_ix (id_ix rfl) (eb_v 2) (Ev.bw ev_int)) (av_d (ev_ix (id_ix rfl) (eb_v 2) (Ev.bw ev_int)) av_nil))))) (ln_d (ln_d (ln_d (ln_d ln_nil)))) hsu sc__law_told.nd) (try_if (fun pn xe=>(et_cmp (od_eq rfl hr.units) (eb_v 0) (Ev.bw ev_str))) (try_set 3 C_without (hr.mono (by decide)) (fun pn xe=>(av_d (ev_v 1) (av_d (ev_ix (id_ix rfl) (eb_v 2) (Ev.bw ev_int)) av_nil))) (ln_d (ln_d ln_nil)) hsu sc__law_told.nd) (try_set 3 C_longer (hr.mono (by decide)) (fun pn xe=>(av_d (ev_v 1) (av_d (ev_ix (id_ix rfl) (eb_v 2) (Ev.bw ev_int)) (av_d (ev_ix (id_ix rfl) (eb_v 2) (Ev.bw ev_int)) av_nil)))) (ln_d (ln_d (ln_d ln_nil))) hsu sc__law_told.nd))) (fun e C1 fs pn xe hC hh=>pss_C hh T.isinstance T.ValueError efit_NoBeat.mgc efit_NoComer.mgc (pr_cons hA_NoBeat_1 (pr_cons hA_NoBeat_2 (pr_cons hA_NoBeat_3 (pr_cons hA_NoBeat_4 (pr_cons hA_NoBeat_5 (pr_cons hA_NoBeat_6 pr_nil)))))) (pi_str (pi_fld hh pi_nil)) sc__law_told.nd) (fun C1 hC=>by rcases hC with rfl | rfl <;> first | exact ⟨efit_NoBeat.cat,efit_NoBeat.hd,efit_NoBeat.exm⟩ | exact ⟨efit_NoComer.cat,efit_NoComer.hd,efit_NoComer.exm⟩) hW_NoBeat sc__law_told.nd)
      (ss_one (st_ret (ev_v 3)))))⟩
theorem sc__law_due:FnScope ["_law_deed_here","_law_way_here","_law_some","_law_rows","_law_beat","_law_place","_law_comer","_law_ahead","_law_more","_law_at","_law_number"] ["_law_deed_here","_law_way_here","_law_some"] (defScope s__law_due):=⟨rfl,rfl,rfl,by decide +kernel,rfl,by decide +kernel,by decide +kernel⟩
noncomputable def f__law_due:List DV→M PyData:=runD ["_law_deed_here","_law_way_here","_law_some","_law_rows","_law_beat","_law_place","_law_comer","_law_ahead","_law_more","_law_at","_law_number"] (mSq (mSet 3 (sCall f__law_flat (vD (sV 1) vNil)))
    (mSq (mIf (uB (s2 (eqD false) (sW 0) (sC (.str "with")))) (mSq (mAsg (bTup 3 (bCons (bN 4) (bCons (bN 5) (bCons (bN 6) bNil)))) (sV 2))
    (mSq (mIf (uB (s2 geD (sW 4) (sN lenD (sCons (sW 1) sNil)))) (mRt (sC (.tuple [.str "beat",.int 0]))) mNx)
    (mSq (mSet 7 (s2 addD (sN lenD (sCons (sLC (mSeq (sW 3)) 1 [4] (bN 0) (uB (s2 ltD (s2 ixD (sW 0) (sC (.int 0))) (sW 1))) (sV 0)) sNil)) (sN minD (sCons (sW 5) (sCons (sN lenD (sCons (s2 ixD (sW 1) (sW 4)) sNil)) sNil)))))
    (mRt (sTup (sCons (sC (.str "told")) (sCons (sCall f__law_built (vD (s2 addD (s2 addD (sCut (sW 3) oNo (oI (sV 7))) (sLst (sCons (sTup (sCons (sV 4) (sCons (sV 6) (sCons (s1 negD (sC (.int 1))) sNil)))) sNil))) (sCut (sW 3) (oI (sV 7)) oNo)) (vD (sN lenD (sCons (sW 1) sNil)) vNil))) sNil))))))) mNx)
    (mSq (mIf (uB (s2 geD (s2 ixD (sW 2) (sC (.int 0))) (sN lenD (sCons (sW 3) sNil)))) (mRt (sTup (sCons (sC (.str "comer")) (sCons (s2 ixD (sW 2) (sC (.int 0))) sNil)))) mNx)
    (mSq (mIf (uB (s2 (eqD false) (sW 0) (sC (.str "without")))) (mRt (sTup (sCons (sC (.str "told")) (sCons (sCall f__law_built (vD (sLC (mSeq (sW 3)) 1 [2] (bN 0) (uB (s2 (eqD true) (s2 ixD (sW 0) (sC (.int 2))) (s2 ixD (sW 1) (sC (.int 0))))) (sV 0)) (vD (sN lenD (sCons (sW 1) sNil)) vNil))) sNil)))) mNx)
    (mSq (mOwn 8 (fLst sNil))
    (mSq (mFor (mSeq (sV 3)) (bTup 3 (bCons (bN 9) (bCons (bN 6) (bCons (bN 10) bNil)))) (mApp 8 (sTup (sCons (sV 9) (sCons (sTup (sCons (s2 ixD (sW 6) (sC (.int 0))) (sCons (s2 addD (s2 ixD (sW 6) (sC (.int 1))) (s2 mulD' (s2 ixD (sW 2) (sC (.int 1))) (sN intD (sCons (s2 (eqD false) (sW 10) (s2 ixD (sW 2) (sC (.int 0)))) sNil)))) sNil))) (sCons (sV 10) sNil))))))
    (mPub 8 (mRt (sTup (sCons (sC (.str "told")) (sCons (sCall f__law_built (vD (sV 8) (vD (sN lenD (sCons (sW 1) sNil)) vNil))) sNil)))))))))))
theorem ok__law_due {f:Addr} {fd:FuncData} (Fn:Fun K "_law_due" "_law_due" s__law_due f fd) (T:Txt K mg) (C__law_flat:Callee P w K mg base "_law_flat" 1 ["_law_way_here"] (spD K 1 f__law_flat)) (C__law_built:Callee P w K mg base "_law_built" 1 ["_law_rows","_law_many"] (spD K 2 f__law_built)):FnOk P w K mg base CX0 2 f fd ["_law_deed_here","_law_way_here","_law_some"] (spD K 3 f__law_due):=by
  refine def_ok Fn sc__law_due fun cdv A outer s H E hr=>?_
  have hu5:(A.deeper (PyProof.Rows.envOfC "_law_due" (defScope s__law_due) s.heap.objs.size f cdv)).units + 65 < cLine:=by have:=hr.un; omega
  exact ⟨_,(ss_cons (st_set 3 sc__law_due.nd (ev_call C__law_flat (hr.mono (by decide)) (av_d (ev_v 1) av_nil) (ln_d ln_nil)))
      (ss_cons (st_if (et_cmp (od_eq rfl hr.units) (eb_v 0) (Ev.bw ev_str)) (ss_cons (st_asg (ev_v 2) (eg_tup (n:=3) rfl (egs_cons (eg_n (i:=4) sc__law_due.nd) (egs_cons (eg_n (i:=5) sc__law_due.nd) (egs_cons (eg_n (i:=6) sc__law_due.nd) egs_nil)))))
      (ss_cons (st_if (et_cmp od_ge (eb_v 4) (Ev.bw (ev_callB (cd_len rfl) T.len bt_len (es_cons (eb_v 1) es_nil)))) (ss_one (st_ret (ev_k (.tuple [.str "beat",.int 0]) rfl))) ss_nil)
      (ss_cons (st_set 7 sc__law_due.nd (ev_op (od_add rfl) (Ev.bw (ev_callB (cd_len rfl) T.len bt_len (es_cons (Ev.bw (ev_lc (osc:=(defScope s__law_due)) (N:=["_law_row","_law_beat"]) (k:=1) (cap:=[4]) rfl rfl ⟨rfl,by decide +kernel,by decide +kernel,by decide +kernel,rfl,rfl,by decide +kernel⟩ (eib_seq (eb_v 3)) (fun cl C ex pins s H=>(eg_n (i:=0) (show List.Nodup (["_law_row","_law_beat"]:List Str) by decide +kernel))) (fun cl C ex pins s H=>(ets_one (et_cmp od_lt (Ev.bw (ev_ix (id_ix rfl) (eb_v 0) (Ev.bw ev_int))) (eb_v 1)))) (fun cl C ex pins s H=>(ev_v 0)))) es_nil))) (Ev.bw (ev_callB (cd_min rfl rfl) T.min bt_min (es_cons (eb_v 5) (es_cons (Ev.bw (ev_callB (cd_len rfl) T.len bt_len (es_cons (Ev.bw (ev_ix (id_ix rfl) (eb_v 1) (eb_v 4))) es_nil))) es_nil))))))
      (ss_one (st_ret (ev_tup (ea_cons ev_str (ea_cons (ev_call C__law_built (hr.mono (by decide)) (av_d (ev_op (od_add rfl) (Ev.bw (ev_op (od_add rfl) (Ev.bw (ev_cut (eb_v 3) eo_no (eo_i (ev_v 7)))) (Ev.bw (ev_lst (ea_cons (ev_tup (ea_cons (ev_v 4) (ea_cons (ev_v 6) (ea_cons (ev_un ud_neg (Ev.bw ev_int)) ea_nil)))) ea_nil))))) (Ev.bw (ev_cut (eb_v 3) (eo_i (ev_v 7)) eo_no))) (av_d (ev_callB (cd_len rfl) T.len bt_len (es_cons (eb_v 1) es_nil)) av_nil)) (ln_d (ln_d ln_nil))) ea_nil)))))))) ss_nil)
      (ss_cons (st_if (et_cmp od_ge (Ev.bw (ev_ix (id_ix rfl) (eb_v 2) (Ev.bw ev_int))) (Ev.bw (ev_callB (cd_len rfl) T.len bt_len (es_cons (eb_v 3) es_nil)))) (ss_one (st_ret (ev_tup (ea_cons ev_str (ea_cons (ev_ix (id_ix rfl) (eb_v 2) (Ev.bw ev_int)) ea_nil))))) ss_nil)
      (ss_cons (st_if (et_cmp (od_eq rfl hr.units) (eb_v 0) (Ev.bw ev_str)) (ss_one (st_ret (ev_tup (ea_cons ev_str (ea_cons (ev_call C__law_built (hr.mono (by decide)) (av_d (ev_lc (osc:=(defScope s__law_due)) (N:=["_law_row","_law_some"]) (k:=1) (cap:=[2]) rfl rfl ⟨rfl,by decide +kernel,by decide +kernel,by decide +kernel,rfl,rfl,by decide +kernel⟩ (eib_seq (eb_v 3)) (fun cl C ex pins s H=>(eg_n (i:=0) (show List.Nodup (["_law_row","_law_some"]:List Str) by decide +kernel))) (fun cl C ex pins s H=>(ets_one (et_cmp (od_ne rfl hr.units) (Ev.bw (ev_ix (id_ix rfl) (eb_v 0) (Ev.bw ev_int))) (Ev.bw (ev_ix (id_ix rfl) (eb_v 1) (Ev.bw ev_int)))))) (fun cl C ex pins s H=>(ev_v 0))) (av_d (ev_callB (cd_len rfl) T.len bt_len (es_cons (eb_v 1) es_nil)) av_nil)) (ln_d (ln_d ln_nil))) ea_nil))))) ss_nil)
      (ss_cons (st_own 8 sc__law_due.nd (ef_lst ea_nil))
      (ss_cons (st_for rfl (ei_seq (ev_v 3)) (eg_tup (n:=3) rfl (egs_cons (eg_n (i:=9) sc__law_due.nd) (egs_cons (eg_n (i:=6) sc__law_due.nd) (egs_cons (eg_n (i:=10) sc__law_due.nd) egs_nil)))) (ss_one (st_app 8 rfl (ev_tup (ea_cons (ev_v 9) (ea_cons (ev_tup (ea_cons (ev_ix (id_ix rfl) (eb_v 6) (Ev.bw ev_int)) (ea_cons (ev_op (od_add rfl) (Ev.bw (ev_ix (id_ix rfl) (eb_v 6) (Ev.bw ev_int))) (Ev.bw (ev_op (od_mul' rfl) (Ev.bw (ev_ix (id_ix rfl) (eb_v 2) (Ev.bw ev_int))) (Ev.bw (ev_callT (cd_int) T.int bt_int (es_cons (Ev.bw (ev_cmp (od_eq rfl hr.units) (eb_v 10) (Ev.bw (ev_ix (id_ix rfl) (eb_v 2) (Ev.bw ev_int))))) es_nil)))))) ea_nil))) (ea_cons (ev_v 10) ea_nil)))))))
      (ss_one (st_pub 8 (st_ret (ev_tup (ea_cons ev_str (ea_cons (ev_call C__law_built (hr.mono (by decide)) (av_d (ev_v 8) (av_d (ev_callB (cd_len rfl) T.len bt_len (es_cons (eb_v 1) es_nil)) av_nil)) (ln_d (ln_d ln_nil))) ea_nil))))))))))))⟩
theorem sc__law_deed:FnScope ["_law_feed_here","_law_way_here","_law_deed_here","_law_far","_law_beat","_law_place","_law_number"] ["_law_feed_here","_law_way_here"] (defScope s__law_deed):=⟨rfl,rfl,rfl,by decide +kernel,rfl,by decide +kernel,by decide +kernel⟩
noncomputable def f__law_deed:List DV→M PyData:=runD ["_law_feed_here","_law_way_here","_law_deed_here","_law_far","_law_beat","_law_place","_law_number"] (mSq (mSet 2 (s2 ixD (sC (.list [.str "with",.str "with",.str "without",.str "longer"])) (sCall drawS (vF 0 (vD (sC (.int 4)) vNil)))))
    (mSq (mSet 3 (s2 (eqD false) (sCall drawS (vF 0 (vD (sC (.int 12)) vNil))) (sC (.int 0))))
    (mSq (mIf (uB (s2 (eqD false) (sW 2) (sC (.str "with")))) (mSq (mSet 4 (sIf (uT (sW 3)) (sC (.int 1000000000000000000000000000000)) (sCall drawS (vF 0 (vD (s2 addD (sN lenD (sCons (sW 1) sNil)) (sC (.int 2))) vNil)))))
    (mSq (mSet 5 (s2 ixD (sLst (sCons (sCall drawS (vF 0 (vD (sC (.int 4)) vNil))) (sCons (sCall drawS (vF 0 (vD (sC (.int 6)) vNil))) (sCons (sC (.int 1000000000000000000000000000000)) sNil)))) (sCall drawS (vF 0 (vD (sC (.int 3)) vNil)))))
    (mRt (sTup (sCons (sV 2) (sCons (sTup (sCons (sV 4) (sCons (sV 5) (sCons (sTup (sCons (sCall drawS (vF 0 (vD (sC (.int 2)) vNil))) (sCons (s2 addD (sC (.int 1)) (sCall drawS (vF 0 (vD (sC (.int 6)) vNil)))) sNil))) sNil)))) sNil)))))) mNx)
    (mSq (mSet 6 (sIf (uT (sW 3)) (sC (.int 1000000000000000000000000000000)) (sCall drawS (vF 0 (vD (s2 addD (sN lenD (sCons (sCall f__law_flat (vD (sV 1) vNil)) sNil)) (sC (.int 2))) vNil)))))
    (mRt (sTup (sCons (sV 2) (sCons (sTup (sCons (sV 6) (sCons (sCall drawS (vF 0 (vD (sC (.int 7)) vNil))) sNil))) sNil))))))))
theorem ok__law_deed {f:Addr} {fd:FuncData} (Fn:Fun K "_law_deed" "_law_deed" s__law_deed f fd) (T:Txt K mg) (C__law_next:Callee P w K mg base "_law_next" 1 ["_law_feed_here","_law_many"] (spD K 2 drawS)) (C__law_flat:Callee P w K mg base "_law_flat" 1 ["_law_way_here"] (spD K 1 f__law_flat)):FnOk P w K mg base CX0 2 f fd ["_law_feed_here","_law_way_here"] (spD K 2 f__law_deed):=by
  refine def_ok Fn sc__law_deed fun cdv A outer s H E hr=>?_
  have hu5:(A.deeper (PyProof.Rows.envOfC "_law_deed" (defScope s__law_deed) s.heap.objs.size f cdv)).units + 65 < cLine:=by have:=hr.un; omega
  exact ⟨_,(ss_cons (st_set 2 sc__law_deed.nd (ev_ix (id_ix rfl) (Ev.bw (ev_k (.list [.str "with",.str "with",.str "without",.str "longer"]) rfl)) (Ev.bw (ev_call C__law_next (hr.mono (by decide)) (av_f 0 (av_d ev_int av_nil)) (ln_f (ln_d ln_nil))))))
      (ss_cons (st_set 3 sc__law_deed.nd (ev_cmp (od_eq rfl hr.units) (Ev.bw (ev_call C__law_next (hr.mono (by decide)) (av_f 0 (av_d ev_int av_nil)) (ln_f (ln_d ln_nil)))) (Ev.bw ev_int)))
      (ss_cons (st_if (et_cmp (od_eq rfl hr.units) (eb_v 2) (Ev.bw ev_str)) (ss_cons (st_set 4 sc__law_deed.nd (ev_if (et_val (eb_v 3)) (ev_k (.int 1000000000000000000000000000000) rfl) (ev_call C__law_next (hr.mono (by decide)) (av_f 0 (av_d (ev_op (od_add rfl) (Ev.bw (ev_callB (cd_len rfl) T.len bt_len (es_cons (eb_v 1) es_nil))) (Ev.bw ev_int)) av_nil)) (ln_f (ln_d ln_nil)))))
      (ss_cons (st_set 5 sc__law_deed.nd (ev_ix (id_ix rfl) (Ev.bw (ev_lst (ea_cons (ev_call C__law_next (hr.mono (by decide)) (av_f 0 (av_d ev_int av_nil)) (ln_f (ln_d ln_nil))) (ea_cons (ev_call C__law_next (hr.mono (by decide)) (av_f 0 (av_d ev_int av_nil)) (ln_f (ln_d ln_nil))) (ea_cons (ev_k (.int 1000000000000000000000000000000) rfl) ea_nil))))) (Ev.bw (ev_call C__law_next (hr.mono (by decide)) (av_f 0 (av_d ev_int av_nil)) (ln_f (ln_d ln_nil))))))
      (ss_one (st_ret (ev_tup (ea_cons (ev_v 2) (ea_cons (ev_tup (ea_cons (ev_v 4) (ea_cons (ev_v 5) (ea_cons (ev_tup (ea_cons (ev_call C__law_next (hr.mono (by decide)) (av_f 0 (av_d ev_int av_nil)) (ln_f (ln_d ln_nil))) (ea_cons (ev_op (od_add rfl) (Ev.bw ev_int) (Ev.bw (ev_call C__law_next (hr.mono (by decide)) (av_f 0 (av_d ev_int av_nil)) (ln_f (ln_d ln_nil))))) ea_nil))) ea_nil)))) ea_nil))))))) ss_nil)
      (ss_cons (st_set 6 sc__law_deed.nd (ev_if (et_val (eb_v 3)) (ev_k (.int 1000000000000000000000000000000) rfl) (ev_call C__law_next (hr.mono (by decide)) (av_f 0 (av_d (ev_op (od_add rfl) (Ev.bw (ev_callB (cd_len rfl) T.len bt_len (es_cons (Ev.bw (ev_call C__law_flat (hr.mono (by decide)) (av_d (ev_v 1) av_nil) (ln_d ln_nil))) es_nil))) (Ev.bw ev_int)) av_nil)) (ln_f (ln_d ln_nil)))))
      (ss_one (st_ret (ev_tup (ea_cons (ev_v 2) (ea_cons (ev_tup (ea_cons (ev_v 6) (ea_cons (ev_call C__law_next (hr.mono (by decide)) (av_f 0 (av_d ev_int av_nil)) (ln_f (ln_d ln_nil))) ea_nil))) ea_nil)))))))))⟩
theorem sc__law_front_right:FnScope ["_law_way_here","_law_kept","_law_due_here"] ["_law_way_here"] (defScope s__law_front_right):=⟨rfl,rfl,rfl,by decide +kernel,rfl,by decide +kernel,by decide +kernel⟩
noncomputable def f__law_front_right:List DV→M PyData:=runD ["_law_way_here","_law_kept","_law_due_here"] (mSq (mSet 1 (sN reprD (sCons (sW 0) sNil)))
    (mSq (mSet 2 (sN reprD (sCons (sCall f__law_built (vD (sLC (mSeq (sCall f__law_flat (vD (sV 0) vNil))) 1 [] (bN 0) (uB (s2 (eqD false) (s2 ixD (s2 ixD (sW 0) (sC (.int 1))) (sC (.int 0))) (sC (.int 0)))) (sV 0)) (vD (sN lenD (sCons (sW 0) sNil)) vNil))) sNil)))
    (mRt (sAnd (s2 (eqD false) (sLC (mRng1 (sCons (sC (.int 2)) sNil)) 1 [0] (bN 0) uYes (sN reprD (sCons (sCall f_front_alone (vD (sV 1) vNil)) sNil))) (sLst (sCons (sV 2) (sCons (sV 2) sNil)))) (s2 (eqD false) (sN reprD (sCons (sW 0) sNil)) (sW 1))))))
theorem ok__law_front_right {f:Addr} {fd:FuncData} (Fn:Fun K "_law_front_right" "_law_front_right" s__law_front_right f fd) (T:Txt K mg) (C__law_built:Callee P w K mg base "_law_built" 1 ["_law_rows","_law_many"] (spD K 2 f__law_built)) (C__law_flat:Callee P w K mg base "_law_flat" 1 ["_law_way_here"] (spD K 1 f__law_flat)) (C_front_alone:Callee P w K mg base "front_alone" 2 ["way"] (spD K 1 f_front_alone)):FnOk P w K mg base CX0 3 f fd ["_law_way_here"] (spD K 1 f__law_front_right):=by
  refine def_ok Fn sc__law_front_right fun cdv A outer s H E hr=>?_
  have hu5:(A.deeper (PyProof.Rows.envOfC "_law_front_right" (defScope s__law_front_right) s.heap.objs.size f cdv)).units + 65 < cLine:=by have:=hr.un; omega
  exact ⟨_,(ss_cons (st_set 1 sc__law_front_right.nd (ev_callB (cd_repr rfl hr.gd hr.units) T.repr bt_repr (es_cons (eb_v 0) es_nil)))
      (ss_cons (st_set 2 sc__law_front_right.nd (ev_callB (cd_repr rfl hr.gd hr.units) T.repr bt_repr (es_cons (Ev.bw (ev_call C__law_built (hr.mono (by decide)) (av_d (ev_lc (osc:=(defScope s__law_front_right)) (N:=["_law_row"]) (k:=1) (cap:=[]) rfl rfl ⟨rfl,by decide +kernel,by decide +kernel,by decide +kernel,rfl,rfl,by decide +kernel⟩ (eib_seq (Ev.bw (ev_call C__law_flat (hr.mono (by decide)) (av_d (ev_v 0) av_nil) (ln_d ln_nil)))) (fun cl C ex pins s H=>(eg_n (i:=0) (show List.Nodup (["_law_row"]:List Str) by decide +kernel))) (fun cl C ex pins s H=>(ets_one (et_cmp (od_eq rfl hr.units) (Ev.bw (ev_ix (id_ix rfl) (Ev.bw (ev_ix (id_ix rfl) (eb_v 0) (Ev.bw ev_int))) (Ev.bw ev_int))) (Ev.bw ev_int)))) (fun cl C ex pins s H=>(ev_v 0))) (av_d (ev_callB (cd_len rfl) T.len bt_len (es_cons (eb_v 0) es_nil)) av_nil)) (ln_d (ln_d ln_nil)))) es_nil)))
      (ss_one (st_ret (ev_and (ev_cmp (od_eq rfl hr.units) (Ev.bw (ev_lc (osc:=(defScope s__law_front_right)) (N:=["_law_once","_law_way_here"]) (k:=1) (cap:=[0]) rfl rfl ⟨rfl,by decide +kernel,by decide +kernel,by decide +kernel,rfl,rfl,by decide +kernel⟩ (Ei.bw (ei_rng1 (ea_cons ev_int ea_nil) T.range)) (fun cl C ex pins s H=>(eg_n (i:=0) (show List.Nodup (["_law_once","_law_way_here"]:List Str) by decide +kernel))) (fun cl C ex pins s H=>ets_nil) (fun cl C ex pins s H=>(ev_callB (cd_repr rfl hr.gd hr.units) T.repr bt_repr (es_cons (Ev.bw (ev_call C_front_alone (hr.mono (by decide)) (av_d (ev_v 1) av_nil) (ln_d ln_nil))) es_nil))))) (Ev.bw (ev_lst (ea_cons (ev_v 2) (ea_cons (ev_v 2) ea_nil))))) (ev_one (ev_cmp (od_eq rfl hr.units) (Ev.bw (ev_callB (cd_repr rfl hr.gd hr.units) T.repr bt_repr (es_cons (eb_v 0) es_nil))) (eb_v 1))))))))⟩
end
end K26
namespace K26
open PySem L2 L3
noncomputable section
variable {P:Program} {w:World} {K:PySem.W.Frag} {mg:Str→Option Value} {base:Heap}
theorem sc_law:FnScope ["_law_script","_law_feed_here","_law_turn","_law_way_here","_law_again","_law_deed_here","_law_some","_law_kept","_law_due_here","_law_once"] ["_law_script"] (defScope s_law):=⟨rfl,rfl,rfl,by decide +kernel,rfl,by decide +kernel,by decide +kernel⟩
noncomputable def forBody:Stmt→List Stmt
  | .For _ _ b _ _=>b
  | _=>[]
noncomputable def m_law_1_0:DE→M Out:=(mSet 3 (sCall f__law_way (vF 1 (vD (s2 ixD (sC (.list [.int 3,.int 8,.int 14])) (sCall drawS (vF 1 (vD (sC (.int 3)) vNil)))) (vD (sC (.int 6)) vNil)))))
noncomputable def m_law_1_1_0:DE→M Out:=(mAsg (bTup 2 (bCons (bN 5) (bCons (bN 6) bNil))) (sCall f__law_deed (vF 1 (vD (sV 3) vNil))))
noncomputable def m_law_1_1_1:DE→M Out:=(mSet 7 (sN reprD (sCons (sTup (sCons (sV 3) (sCons (sV 6) sNil))) sNil)))
noncomputable def m_law_1_1_2:DE→M Out:=(mSet 8 (sCall f__law_due (vD (sV 5) (vD (sV 3) (vD (sV 6) vNil)))))
noncomputable def m_law_1_1_3:DE→M Out:=(mFor (mRng1 (sCons (sC (.int 2)) sNil)) (bN 9) (mIf (uOr (uB (s2 (eqD true) (sN reprD (sCons (sCall f__law_told (vD (sV 5) (vD (sV 3) (vD (sV 6) vNil)))) sNil)) (sN reprD (sCons (sW 8) sNil)))) (uB (s2 (eqD true) (sN reprD (sCons (sTup (sCons (sV 3) (sCons (sV 6) sNil))) sNil)) (sW 7)))) (mRt (sC (.bool false))) mNx))
noncomputable def m_law_1_1_4:DE→M Out:=(mIf (uNot (uT (sCall f__law_front_right (vD (sV 3) vNil)))) (mRt (sC (.bool false))) mNx)
noncomputable def m_law_1_1_5:DE→M Out:=(mIf (uB (s2 (eqD false) (s2 ixD (sW 8) (sC (.int 0))) (sC (.str "told")))) (mSet 3 (s2 ixD (s2 ixD (sW 8) (sC (.int 1))) (sC (.int 0)))) mNx)
noncomputable def m_law_1_1:DE→M Out:=(mFor (mRng1 (sCons (sC (.int 2)) sNil)) (bN 4) (mSq m_law_1_1_0 (mSq m_law_1_1_1 (mSq m_law_1_1_2 (mSq m_law_1_1_3 (mSq m_law_1_1_4 m_law_1_1_5))))))
noncomputable def m_law_1_2:DE→M Out:=(mIf (uNot (uT (sCall f__law_front_right (vD (sV 3) vNil)))) (mRt (sC (.bool false))) mNx)
noncomputable def m_law_1:DE→M Out:=(mFor (mRng1 (sCons (sC (.int 4)) sNil)) (bN 2) (mSq m_law_1_0 (mSq m_law_1_1 m_law_1_2)))
noncomputable def m_law_2:DE→M Out:=(mRt (sC (.bool true)))
section
variable {f:Addr} {cdv:Value} {A:Around} {outer:List Env} {s:Shared} {H:Hp} {E:XK} (T:Txt K mg) (hr:Room 5 (A.deeper (PyProof.Rows.envOfC "law" (defScope s_law) s.heap.objs.size f cdv))) (hu5:(A.deeper (PyProof.Rows.envOfC "law" (defScope s_law) s.heap.objs.size f cdv)).units + 65 < cLine) (C__law_way:Callee P w K mg base "_law_way" 2 ["_law_feed_here","_law_beats","_law_works"] (spD K 3 f__law_way)) (C__law_next:Callee P w K mg base "_law_next" 1 ["_law_feed_here","_law_many"] (spD K 2 drawS)) (C__law_deed:Callee P w K mg base "_law_deed" 2 ["_law_feed_here","_law_way_here"] (spD K 2 f__law_deed)) (C__law_due:Callee P w K mg base "_law_due" 2 ["_law_deed_here","_law_way_here","_law_some"] (spD K 3 f__law_due)) (C__law_told:Callee P w K mg base "_law_told" 5 ["_law_deed_here","_law_way_here","_law_some"] (spD K 3 f__law_told)) (C__law_front_right:Callee P w K mg base "_law_front_right" 3 ["_law_way_here"] (spD K 1 f__law_front_right))
include T hr hu5 C__law_way C__law_next C__law_deed C__law_due C__law_told C__law_front_right
theorem ok_law_1_0:∃ ts,Ss K (cxOf CX0 P w K mg base ["_law_script","_law_feed_here","_law_turn","_law_way_here","_law_again","_law_deed_here","_law_some","_law_kept","_law_due_here","_law_once"] "law" (defScope s_law) f cdv A outer s H E).nox ((forBody ((defBody s_law).getD 1 (.Pass ⟨0,0,0,0⟩))).getD 0 (.Pass ⟨0,0,0,0⟩)) ts m_law_1_0:=by
  unfold m_law_1_0
  exact ⟨_,(st_set 3 sc_law.nd (ev_call C__law_way (hr.mono (by decide)) (av_f 1 (av_d (ev_ix (id_ix rfl) (Ev.bw (ev_k (.list [.int 3,.int 8,.int 14]) rfl)) (Ev.bw (ev_call C__law_next (hr.mono (by decide)) (av_f 1 (av_d ev_int av_nil)) (ln_f (ln_d ln_nil))))) (av_d ev_int av_nil))) (ln_f (ln_d (ln_d ln_nil)))))⟩
theorem ok_law_1_1_0:∃ ts,Ss K (cxOf CX0 P w K mg base ["_law_script","_law_feed_here","_law_turn","_law_way_here","_law_again","_law_deed_here","_law_some","_law_kept","_law_due_here","_law_once"] "law" (defScope s_law) f cdv A outer s H E).nox ((forBody ((forBody ((defBody s_law).getD 1 (.Pass ⟨0,0,0,0⟩))).getD 1 (.Pass ⟨0,0,0,0⟩))).getD 0 (.Pass ⟨0,0,0,0⟩)) ts m_law_1_1_0:=by
  unfold m_law_1_1_0
  exact ⟨_,(st_asg (ev_call C__law_deed (hr.mono (by decide)) (av_f 1 (av_d (ev_v 3) av_nil)) (ln_f (ln_d ln_nil))) (eg_tup (n:=2) rfl (egs_cons (eg_n (i:=5) sc_law.nd) (egs_cons (eg_n (i:=6) sc_law.nd) egs_nil))))⟩
theorem ok_law_1_1_1:∃ ts,Ss K (cxOf CX0 P w K mg base ["_law_script","_law_feed_here","_law_turn","_law_way_here","_law_again","_law_deed_here","_law_some","_law_kept","_law_due_here","_law_once"] "law" (defScope s_law) f cdv A outer s H E).nox ((forBody ((forBody ((defBody s_law).getD 1 (.Pass ⟨0,0,0,0⟩))).getD 1 (.Pass ⟨0,0,0,0⟩))).getD 1 (.Pass ⟨0,0,0,0⟩)) ts m_law_1_1_1:=by
  unfold m_law_1_1_1
  exact ⟨_,(st_set 7 sc_law.nd (ev_callB (cd_repr rfl hr.gd hr.units) T.repr bt_repr (es_cons (Ev.bw (ev_tup (ea_cons (ev_v 3) (ea_cons (ev_v 6) ea_nil)))) es_nil)))⟩
theorem ok_law_1_1_2:∃ ts,Ss K (cxOf CX0 P w K mg base ["_law_script","_law_feed_here","_law_turn","_law_way_here","_law_again","_law_deed_here","_law_some","_law_kept","_law_due_here","_law_once"] "law" (defScope s_law) f cdv A outer s H E).nox ((forBody ((forBody ((defBody s_law).getD 1 (.Pass ⟨0,0,0,0⟩))).getD 1 (.Pass ⟨0,0,0,0⟩))).getD 2 (.Pass ⟨0,0,0,0⟩)) ts m_law_1_1_2:=by
  unfold m_law_1_1_2
  exact ⟨_,(st_set 8 sc_law.nd (ev_call C__law_due (hr.mono (by decide)) (av_d (ev_v 5) (av_d (ev_v 3) (av_d (ev_v 6) av_nil))) (ln_d (ln_d (ln_d ln_nil)))))⟩
theorem ok_law_1_1_3:∃ ts,Ss K (cxOf CX0 P w K mg base ["_law_script","_law_feed_here","_law_turn","_law_way_here","_law_again","_law_deed_here","_law_some","_law_kept","_law_due_here","_law_once"] "law" (defScope s_law) f cdv A outer s H E).nox ((forBody ((forBody ((defBody s_law).getD 1 (.Pass ⟨0,0,0,0⟩))).getD 1 (.Pass ⟨0,0,0,0⟩))).getD 3 (.Pass ⟨0,0,0,0⟩)) ts m_law_1_1_3:=by
  unfold m_law_1_1_3
  exact ⟨_,(st_for rfl (ei_rng1 (ea_cons ev_int ea_nil) T.range) (eg_n (i:=9) sc_law.nd) (ss_one (st_if (Ew.t (ew_or (et_cmp (od_ne rfl hr.units) (Ev.bw (ev_callB (cd_repr rfl hr.gd hr.units) T.repr bt_repr (es_cons (Ev.bw (ev_call C__law_told (hr.mono (by decide)) (av_d (ev_v 5) (av_d (ev_v 3) (av_d (ev_v 6) av_nil))) (ln_d (ln_d (ln_d ln_nil))))) es_nil))) (Ev.bw (ev_callB (cd_repr rfl hr.gd hr.units) T.repr bt_repr (es_cons (eb_v 8) es_nil)))) (ew_or1 (et_cmp (od_ne rfl hr.units) (Ev.bw (ev_callB (cd_repr rfl hr.gd hr.units) T.repr bt_repr (es_cons (Ev.bw (ev_tup (ea_cons (ev_v 3) (ea_cons (ev_v 6) ea_nil)))) es_nil))) (eb_v 7))))) (ss_one (st_ret ev_bl)) ss_nil)))⟩
theorem ok_law_1_1_4:∃ ts,Ss K (cxOf CX0 P w K mg base ["_law_script","_law_feed_here","_law_turn","_law_way_here","_law_again","_law_deed_here","_law_some","_law_kept","_law_due_here","_law_once"] "law" (defScope s_law) f cdv A outer s H E).nox ((forBody ((forBody ((defBody s_law).getD 1 (.Pass ⟨0,0,0,0⟩))).getD 1 (.Pass ⟨0,0,0,0⟩))).getD 4 (.Pass ⟨0,0,0,0⟩)) ts m_law_1_1_4:=by
  unfold m_law_1_1_4
  exact ⟨_,(st_if (et_not (et_val (Ev.bw (ev_call C__law_front_right (hr.mono (by decide)) (av_d (ev_v 3) av_nil) (ln_d ln_nil))))) (ss_one (st_ret ev_bl)) ss_nil)⟩
theorem ok_law_1_1_5:∃ ts,Ss K (cxOf CX0 P w K mg base ["_law_script","_law_feed_here","_law_turn","_law_way_here","_law_again","_law_deed_here","_law_some","_law_kept","_law_due_here","_law_once"] "law" (defScope s_law) f cdv A outer s H E).nox ((forBody ((forBody ((defBody s_law).getD 1 (.Pass ⟨0,0,0,0⟩))).getD 1 (.Pass ⟨0,0,0,0⟩))).getD 5 (.Pass ⟨0,0,0,0⟩)) ts m_law_1_1_5:=by
  unfold m_law_1_1_5
  exact ⟨_,(st_if (et_cmp (od_eq rfl hr.units) (Ev.bw (ev_ix (id_ix rfl) (eb_v 8) (Ev.bw ev_int))) (Ev.bw ev_str)) (ss_one (st_set 3 sc_law.nd (ev_ix (id_ix rfl) (Ev.bw (ev_ix (id_ix rfl) (eb_v 8) (Ev.bw ev_int))) (Ev.bw ev_int)))) ss_nil)⟩
theorem ok_law_1_1:∃ ts,Ss K (cxOf CX0 P w K mg base ["_law_script","_law_feed_here","_law_turn","_law_way_here","_law_again","_law_deed_here","_law_some","_law_kept","_law_due_here","_law_once"] "law" (defScope s_law) f cdv A outer s H E).nox ((forBody ((defBody s_law).getD 1 (.Pass ⟨0,0,0,0⟩))).getD 1 (.Pass ⟨0,0,0,0⟩)) ts m_law_1_1:=by
  obtain ⟨t_law_1_1_5,h_law_1_1_5⟩:=ok_law_1_1_5 (f:=f) (cdv:=cdv) (A:=A) (outer:=outer) (s:=s) (H:=H) (E:=E) T hr hu5 C__law_way C__law_next C__law_deed C__law_due C__law_told C__law_front_right
  obtain ⟨t_law_1_1_4,h_law_1_1_4⟩:=ok_law_1_1_4 (f:=f) (cdv:=cdv) (A:=A) (outer:=outer) (s:=s) (H:=H) (E:=E) T hr hu5 C__law_way C__law_next C__law_deed C__law_due C__law_told C__law_front_right
  obtain ⟨t_law_1_1_3,h_law_1_1_3⟩:=ok_law_1_1_3 (f:=f) (cdv:=cdv) (A:=A) (outer:=outer) (s:=s) (H:=H) (E:=E) T hr hu5 C__law_way C__law_next C__law_deed C__law_due C__law_told C__law_front_right
  obtain ⟨t_law_1_1_2,h_law_1_1_2⟩:=ok_law_1_1_2 (f:=f) (cdv:=cdv) (A:=A) (outer:=outer) (s:=s) (H:=H) (E:=E) T hr hu5 C__law_way C__law_next C__law_deed C__law_due C__law_told C__law_front_right
  obtain ⟨t_law_1_1_1,h_law_1_1_1⟩:=ok_law_1_1_1 (f:=f) (cdv:=cdv) (A:=A) (outer:=outer) (s:=s) (H:=H) (E:=E) T hr hu5 C__law_way C__law_next C__law_deed C__law_due C__law_told C__law_front_right
  obtain ⟨t_law_1_1_0,h_law_1_1_0⟩:=ok_law_1_1_0 (f:=f) (cdv:=cdv) (A:=A) (outer:=outer) (s:=s) (H:=H) (E:=E) T hr hu5 C__law_way C__law_next C__law_deed C__law_due C__law_told C__law_front_right
  exact ⟨_,st_for rfl (ei_rng1 (ea_cons ev_int ea_nil) T.range) (eg_n (i:=4) sc_law.nd) (ss_cons h_law_1_1_0 (ss_cons h_law_1_1_1 (ss_cons h_law_1_1_2 (ss_cons h_law_1_1_3 (ss_cons h_law_1_1_4 (ss_one h_law_1_1_5))))))⟩
theorem ok_law_1_2:∃ ts,Ss K (cxOf CX0 P w K mg base ["_law_script","_law_feed_here","_law_turn","_law_way_here","_law_again","_law_deed_here","_law_some","_law_kept","_law_due_here","_law_once"] "law" (defScope s_law) f cdv A outer s H E).nox ((forBody ((defBody s_law).getD 1 (.Pass ⟨0,0,0,0⟩))).getD 2 (.Pass ⟨0,0,0,0⟩)) ts m_law_1_2:=by
  unfold m_law_1_2
  exact ⟨_,(st_if (et_not (et_val (Ev.bw (ev_call C__law_front_right (hr.mono (by decide)) (av_d (ev_v 3) av_nil) (ln_d ln_nil))))) (ss_one (st_ret ev_bl)) ss_nil)⟩
theorem ok_law_1:∃ ts,Ss K (cxOf CX0 P w K mg base ["_law_script","_law_feed_here","_law_turn","_law_way_here","_law_again","_law_deed_here","_law_some","_law_kept","_law_due_here","_law_once"] "law" (defScope s_law) f cdv A outer s H E).nox ((defBody s_law).getD 1 (.Pass ⟨0,0,0,0⟩)) ts m_law_1:=by
  obtain ⟨t_law_1_2,h_law_1_2⟩:=ok_law_1_2 (f:=f) (cdv:=cdv) (A:=A) (outer:=outer) (s:=s) (H:=H) (E:=E) T hr hu5 C__law_way C__law_next C__law_deed C__law_due C__law_told C__law_front_right
  obtain ⟨t_law_1_1,h_law_1_1⟩:=ok_law_1_1 (f:=f) (cdv:=cdv) (A:=A) (outer:=outer) (s:=s) (H:=H) (E:=E) T hr hu5 C__law_way C__law_next C__law_deed C__law_due C__law_told C__law_front_right
  obtain ⟨t_law_1_0,h_law_1_0⟩:=ok_law_1_0 (f:=f) (cdv:=cdv) (A:=A) (outer:=outer) (s:=s) (H:=H) (E:=E) T hr hu5 C__law_way C__law_next C__law_deed C__law_due C__law_told C__law_front_right
  exact ⟨_,st_for rfl (ei_rng1 (ea_cons ev_int ea_nil) T.range) (eg_n (i:=2) sc_law.nd) (ss_cons h_law_1_0 (ss_cons h_law_1_1 (ss_one h_law_1_2)))⟩
theorem ok_law_2:∃ ts,Ss K (cxOf CX0 P w K mg base ["_law_script","_law_feed_here","_law_turn","_law_way_here","_law_again","_law_deed_here","_law_some","_law_kept","_law_due_here","_law_once"] "law" (defScope s_law) f cdv A outer s H E).nox ((defBody s_law).getD 2 (.Pass ⟨0,0,0,0⟩)) ts m_law_2:=by
  unfold m_law_2
  exact ⟨_,(st_ret ev_bl)⟩
end
noncomputable def m_law:DE→M Out:=(mSq m_law_1 m_law_2)
theorem split1 {α:Type} (l:List α) (d:α) (h:0 < l.length):l = l.getD 0 d :: l.drop 1:=by
  cases l with
  | nil=>simp at h
  | cons a r=>rfl
noncomputable def spLaw (K:PySem.W.Frag):Sp:=fun vs H Q _=>∃ (a:Addr) (ns:List Int),vs = [.ref a] ∧ SqL K H a (ns.map V.int) ∧ ns.length ≤ 63 ∧ TabsOk (tabsK Feeds.lam K) H ∧ ∀ H',Q (.bl true) H'
theorem ok_law_0 {f:Addr} {cdv:Value} {A:Around} {outer:List Env} {s:Shared} {H:Hp} {E:XK} (hr:Room 5 (A.deeper (PyProof.Rows.envOfC "law" (defScope s_law) s.heap.objs.size f cdv))) (CF:Callee P w K mg base "_law_feed" 1 ["_law_script"] (spFeed K)) :
    PS (cxOf CX0 P w K mg base ["_law_script","_law_feed_here","_law_turn","_law_way_here","_law_again","_law_deed_here","_law_some","_law_kept","_law_due_here","_law_once"] "law" (defScope s_law) f cdv A outer s H E).nox ((defBody s_law).getD 0 (.Pass ⟨0,0,0,0⟩)) (tAsg (tCall (spFeed K) [] E0 (tCons (tVar 0) tNil)) (gName 1)) :=
  ps_set (i:=1) sc_law.nd rfl (by first | exact Or.inl rfl | exact Or.inr rfl) (pe_callee CF (hr.mono (by decide)) rfl (pa_cons (pv 0) pa_nil))
theorem ok_law {f:Addr} {fd:FuncData} (Fn:Fun K "law" "law" s_law f fd) (T:Txt K mg) (CF:Callee P w K mg base "_law_feed" 1 ["_law_script"] (spFeed K)) (C__law_way:Callee P w K mg base "_law_way" 2 ["_law_feed_here","_law_beats","_law_works"] (spD K 3 f__law_way)) (C__law_next:Callee P w K mg base "_law_next" 1 ["_law_feed_here","_law_many"] (spD K 2 drawS)) (C__law_deed:Callee P w K mg base "_law_deed" 2 ["_law_feed_here","_law_way_here"] (spD K 2 f__law_deed)) (C__law_due:Callee P w K mg base "_law_due" 2 ["_law_deed_here","_law_way_here","_law_some"] (spD K 3 f__law_due)) (C__law_told:Callee P w K mg base "_law_told" 5 ["_law_deed_here","_law_way_here","_law_some"] (spD K 3 f__law_told)) (C__law_front_right:Callee P w K mg base "_law_front_right" 3 ["_law_way_here"] (spD K 1 f__law_front_right))
    (fin:∀ ns:List Int,ns.length ≤ 63→∃ F',m_law ([none,some .feed] ++ List.replicate (["_law_script","_law_feed_here","_law_turn","_law_way_here","_law_again","_law_deed_here","_law_some","_law_kept","_law_due_here","_law_once"].length - 2) none) (newF ns) = some (.rt (.bool true),F')):FnOk P w K mg base CX0 6 f fd ["_law_script"] (spLaw K):=by
  refine Fn.ok sc_law (fun vs H Q E h=>?_) (fun cdv A outer s H vs Q E hr h=>?_)
  · obtain ⟨a,ns,rfl,_⟩:=h
    rfl
  · obtain ⟨a,ns,rfl,hS,hl,tbo,k⟩:=h
    have hu5:(A.deeper (PyProof.Rows.envOfC "law" (defScope s_law) s.heap.objs.size f cdv)).units + 65 < cLine:=by have:=hr.un; omega
    obtain ⟨t_law_1,h_law_1⟩:=ok_law_1 (f:=f) (cdv:=cdv) (A:=A) (outer:=outer) (s:=s) (H:=H) (E:=E) T hr hu5 C__law_way C__law_next C__law_deed C__law_due C__law_told C__law_front_right
    obtain ⟨t_law_2,h_law_2⟩:=ok_law_2 (f:=f) (cdv:=cdv) (A:=A) (outer:=outer) (s:=s) (H:=H) (E:=E) T hr hu5 C__law_way C__law_next C__law_deed C__law_due C__law_told C__law_front_right
    obtain ⟨ts,hq,hk⟩:∃ ts,Sss K (cxOf CX0 P w K mg base ["_law_script","_law_feed_here","_law_turn","_law_way_here","_law_again","_law_deed_here","_law_some","_law_kept","_law_due_here","_law_once"] "law" (defScope s_law) f cdv A outer s H E).nox ((defBody s_law).drop 1) ts m_law:=⟨_,(ss_cons h_law_1 (ss_one h_law_2))⟩
    have h0:=ok_law_0 (P:=P) (w:=w) (K:=K) (mg:=mg) (base:=base) (f:=f) (cdv:=cdv) (A:=A) (outer:=outer) (s:=s) (H:=H) (E:=E) hr CF
    have hsp:=split1 (defBody s_law) (.Pass ⟨0,0,0,0⟩) (by decide +kernel)
    generalize List.drop 1 (defBody s_law) = R at hq hsp
    generalize (defBody s_law).getD 0 (Stmt.Pass { line:=0,col:=0,endLine:=0,endCol:=0 }) = S0 at h0 hsp
    have hp:=pss_cons h0 hq
    rw [← hsp] at hp
    refine ⟨_,hp,?_⟩
    refine ⟨_,rfl,a,ns,rfl,hS,hl,fun d c H1 f1 s1=>?_⟩
    obtain ⟨F',e⟩:=fin ns hl
    have fat:FAt K (some (d,c)) H1 (newF ns):=⟨f1,tbo.congr fun b hb=>by
      obtain ⟨o,e⟩:∃ o,H b = some o:=by
        rcases hb with hb | ⟨φ,e⟩
        · obtain ⟨t,ht,rfl⟩:=List.mem_map.mp hb
          obtain ⟨ps,e,_⟩:=tbo t ht
          exact ⟨_,e⟩
        · exact ⟨_,e⟩
      rw [e]; exact s1 b o e⟩
    refine hk (some (d,c)) (fpOf K (some (d,c))) H1 _ (newF ns) _ H1 _ _ F' ⟨⟨fpOf K (some (d,c)),fun _ z=>z,fun b hb=>.inl hb,⟨fat,fun _ z=>z,fat.bok,by simp [L2.start],fun i x ei=>?_⟩⟩,fun _ z=>z,Kp.refl,fun i ds b ei=>?_,fun i j ds es b ei=>?_⟩ e (fun v H' _ _ hv=>?_)
    · match i,ei with
      | 0,ei=>cases ei
      | 1,ei=>cases ei; exact ⟨.ref d,rfl,d,c,rfl,rfl⟩
      | i + 2,ei=>simp only [List.cons_append,List.nil_append,List.getElem?_cons_succ,List.getElem?_replicate] at ei; split at ei <;> cases ei
    · match i,ei with
      | 0,ei=>cases ei
      | 1,ei=>cases ei
      | i + 2,ei=>simp only [List.cons_append,List.nil_append,List.getElem?_cons_succ,List.getElem?_replicate] at ei; split at ei <;> cases ei
    · match i,ei with
      | 0,ei=>cases ei
      | 1,ei=>cases ei
      | i + 2,ei=>simp only [List.cons_append,List.nil_append,List.getElem?_cons_succ,List.getElem?_replicate] at ei; split at ei <;> cases ei
    · simp only [DatIs] at hv
      subst hv
      exact k H'
end
end K26
namespace K26
open PySem L2 L3
noncomputable abbrev En:=(Int × Int) × Int
noncomputable abbrev enD (e:En):PyData:=.tuple [cmD e.1,.int e.2]
noncomputable abbrev rowD (r:List En):PyData:=.list (r.map enD)
noncomputable abbrev Fe:=Nat × En
noncomputable abbrev feD (x:Fe):PyData:=.tuple [.int (x.1:Int),cmD x.2.1,.int x.2.2]
noncomputable def flO:Nat→List (List En)→List Fe
  | _,[]=>[]
  | m,r :: rs=>r.map (fun e=>(m,e)) ++ flO (m + 1) rs
theorem flO_app:∀ (a b:List (List En)) (m:Nat),flO m (a ++ b) = flO m a ++ flO (m + a.length) b
  | [],b,m=>rfl
  | r :: a,b,m=>by
    rw [List.cons_append,flO,flO,flO_app a b (m + 1),List.append_assoc,List.length_cons,show m + 1 + a.length = m + (a.length + 1) by omega]
theorem flO_ge:∀ (rs:List (List En)) (m:Nat),∀ x ∈ flO m rs,m ≤ x.1
  | [],m,x,h=>by cases h
  | r :: rs,m,x,h=>by
    rcases List.mem_append.mp h with h | h
    · obtain ⟨e,_,rfl⟩:=List.mem_map.mp h
      exact Nat.le_refl _
    · exact Nat.le_trans (Nat.le_succ m) (flO_ge rs (m + 1) x h)
theorem flO_snd:∀ (rs:List (List En)) (m:Nat),(flO m rs).map (·.2) = rs.flatten
  | [],_=>rfl
  | r :: rs,m=>by
    rw [flO,List.map_append,flO_snd rs,List.flatten_cons,List.map_map]
    congr 1
    exact List.map_id' r
theorem flO_len (rs:List (List En)) (m:Nat):(flO m rs).length = rs.flatten.length:=by rw [← flO_snd rs m,List.length_map]
theorem flO_filter (p:En→Bool):∀ (rs:List (List En)) (m:Nat),(flO m rs).filter (fun x=>p x.2) = flO m (rs.map (·.filter p))
  | [],_=>rfl
  | r :: rs,m=>by
    rw [flO,List.filter_append,flO_filter p rs,List.map_cons,flO,List.filter_map]
    rfl
theorem flO_map (f:En→En):∀ (rs:List (List En)) (m:Nat),(flO m rs).map (fun x=>(x.1,f x.2)) = flO m (rs.map (·.map f))
  | [],_=>rfl
  | r :: rs,m=>by
    rw [flO,List.map_append,flO_map f rs,List.map_cons,flO,List.map_map,List.map_map]
    rfl
theorem filt_none {α:Type} {p:α→Bool} {l:List α} (h:∀ x ∈ l,p x = false):l.filter p = []:=List.filter_eq_nil_iff.mpr fun x hx=>by rw [h x hx]; exact Bool.false_ne_true
theorem filt_all {α:Type} {p:α→Bool} {l:List α} (h:∀ x ∈ l,p x = true):l.filter p = l:=List.filter_eq_self.mpr h
theorem flO_at:∀ (rs:List (List En)) (m b:Nat),((flO m rs).filter fun x=>decide (x.1 = m + b)).map (·.2) = rs.getD b []
  | [],_,b=>by cases b <;> rfl
  | r :: rs,m,0=>by
    rw [flO,List.filter_append,filt_all (l:=r.map _) (fun x hx=>by
      obtain ⟨e,_,rfl⟩:=List.mem_map.mp hx
      exact decide_eq_true rfl),filt_none (l:=flO (m + 1) rs) (fun x hx=>by
      have:=flO_ge rs (m + 1) x hx
      exact decide_eq_false (by omega)),List.append_nil,List.map_map]
    exact List.map_id' r
  | r :: rs,m,b + 1=>by
    have ih:=flO_at rs (m + 1) b
    rw [show m + 1 + b = m + (b + 1) by omega] at ih
    rw [flO,List.filter_append,filt_none (l:=r.map _) (fun x hx=>by
      obtain ⟨e,_,rfl⟩:=List.mem_map.mp hx
      exact decide_eq_false (show ¬ m = m + (b + 1) by omega)),List.nil_append,ih]
    rfl
theorem flO_below:∀ (rs:List (List En)) (m b:Nat),((flO m rs).filter fun x=>decide (x.1 < m + b)).length = (rs.take b).flatten.length
  | [],_,b=>by rw [List.take_nil]; rfl
  | r :: rs,m,0=>by
    rw [filt_none (fun x hx=>by
      have:=flO_ge (r :: rs) m x hx
      exact decide_eq_false (by omega))]
    rfl
  | r :: rs,m,b + 1=>by
    have ih:=flO_below rs (m + 1) b
    rw [show m + 1 + b = m + (b + 1) by omega] at ih
    rw [flO,List.filter_append,filt_all (l:=r.map _) (fun x hx=>by
      obtain ⟨e,_,rfl⟩:=List.mem_map.mp hx
      exact decide_eq_true (show m < m + (b + 1) by omega)),List.length_append,ih,List.length_map,List.take_succ_cons,List.flatten_cons,List.length_append]
theorem flO_ins:∀ (rs:List (List En)) (m b p:Nat) (x:En) (r0:List En),rs[b]? = some r0→(flO m rs).take ((rs.take b).flatten.length + min p r0.length) ++ [(m + b,x)] ++ (flO m rs).drop ((rs.take b).flatten.length + min p r0.length) = flO m (rs.set b (r0.take p ++ [x] ++ r0.drop p))
  | [],_,b,_,_,_,h=>by simp at h
  | r :: rs,m,0,p,x,r0,h=>by
    cases h
    rw [flO,List.set_cons_zero,flO,List.take_zero,List.flatten_nil,List.length_nil,Nat.zero_add]
    have h1:min p r.length ≤ (r.map fun e=>(m,e)).length:=by rw [List.length_map]; omega
    rw [List.take_append_of_le_length h1,List.drop_append_of_le_length h1,← List.map_take,← List.map_drop,List.map_append,List.map_append]
    have e1:r.take (min p r.length) = r.take p:=by
      by_cases hp:p ≤ r.length
      · rw [Nat.min_eq_left hp]
      · rw [Nat.min_eq_right (by omega),List.take_length,List.take_of_length_le (by omega)]
    have e2:r.drop (min p r.length) = r.drop p:=by
      by_cases hp:p ≤ r.length
      · rw [Nat.min_eq_left hp]
      · rw [Nat.min_eq_right (by omega),List.drop_length,List.drop_of_length_le (by omega)]
    rw [e1,e2]
    simp only [List.append_assoc,Nat.add_zero]
    rfl
  | r :: rs,m,b + 1,p,x,r0,h=>by
    have ih:=flO_ins rs (m + 1) b p x r0 h
    rw [show m + 1 + b = m + (b + 1) by omega] at ih
    rw [List.set_cons_succ,flO,flO,← ih,List.take_succ_cons,List.flatten_cons,List.length_append]
    have hl:(r.map fun e=>((m,e):Fe)).length = r.length:=List.length_map ..
    rw [Nat.add_assoc]
    conv=>lhs; rw [← hl,List.take_length_add_append,List.drop_length_add_append]
    simp only [List.append_assoc]
noncomputable abbrev enA (way:List Bt) (m j:Nat):En:=((btAt way m).getD j (0,0),((cntW way m + j:Nat):Int))
noncomputable abbrev row0 (way:List Bt) (m:Nat):List En:=(List.range (btAt way m).length).map (enA way m)
noncomputable abbrev rows0 (way:List Bt) (n:Nat):List (List En):=(List.range n).map (row0 way)
theorem rows0_fl (way:List Bt) (m:Nat):flO 0 (rows0 way (m + 1)) = flO 0 (rows0 way m) ++ (row0 way m).map fun e=>(m,e):=by
  unfold rows0
  rw [List.range_succ,List.map_append,flO_app,List.length_map,List.length_range,Nat.zero_add]
  show _ ++ (_ ++ []) = _
  rw [List.append_nil]
theorem rows0_len (way:List Bt):(rows0 way way.length).flatten.length = lens way:=by
  have:=beats_flat way (fun n c=>((c,(n:Int)):En)) way.length (Nat.le_refl _)
  rw [cnt_all] at this
  have e:(rows0 way way.length).flatten = _:=this
  rw [e,List.length_map,List.length_range]
theorem rows0_lenB (way:List Bt) (b:Nat) (hb:b ≤ way.length):(rows0 way b).flatten.length = cntW way b:=by
  have:=beats_flat way (fun n c=>((c,(n:Int)):En)) b hb
  have e:(rows0 way b).flatten = _:=this
  rw [e,List.length_map,List.length_range]
theorem rows0_take (way:List Bt) {b:Nat} (hb:b ≤ way.length):(rows0 way way.length).take b = rows0 way b:=by
  unfold rows0
  rw [← List.map_take,List.take_range,Nat.min_eq_left hb]
noncomputable abbrev wayR (rows:List (List En)):List Bt:=rows.map fun r=>r.map (·.1)
noncomputable abbrev toldD (rows:List (List En)):PyData:=.tuple [.tuple ((wayR rows).map btD),.tuple (rows.flatten.map fun e=>.int e.2)]
structure Wz (N:Nat) (B:Int) (way:List Bt):Prop where
  len:way.length ≤ 14
  many:lens way ≤ N
  ok:∀ b ∈ way,∀ c ∈ b,0 ≤ c.1 ∧ c.1 ≤ 1 ∧ 0 ≤ c.2 ∧ c.2 ≤ B
theorem cntL_way:∀ (way:List Bt),(∀ b ∈ way,∀ c ∈ b,c.1.natAbs < 10 ^ 100 ∧ c.2.natAbs < 10 ^ 100)→(∀ d ∈ way.map btD,Gd 0 (1 + 3 * lens way) 2 d) ∧ cntL (way.map btD) ≤ way.length + 3 * lens way
  | [],_=>⟨fun d hd=>(nomatch hd),Nat.zero_le _⟩
  | b :: way,h=>by
    obtain ⟨i1,i2⟩:=cntL_way way fun x hx=>h x (List.mem_cons_of_mem _ hx)
    have hl:lens (b :: way) = b.length + lens way:=by unfold lens; rw [List.map_cons,List.sum_cons]
    have hb:Gd 0 (1 + 3 * b.length) 2 (btD b):=by
      have key:∀ d ∈ b.map cmD,Gd 0 3 1 d:=fun d hd=>by
        obtain ⟨c,hc,rfl⟩:=List.mem_map.mp hd
        obtain ⟨c1,c2⟩:=h b List.mem_cons_self c hc
        have big:(10:Nat) ^ 100 ≤ 10 ^ 300 + 0:=by decide
        exact Gd.tup (M:=1) (fun d hd=>by
          rcases List.mem_cons.mp hd with rfl | hd
          · exact gd_int (Nat.lt_of_lt_of_le c1 big)
          · rcases List.mem_cons.mp hd with rfl | hd
            · exact gd_int (Nat.lt_of_lt_of_le c2 big)
            · cases hd) (by simp [cntL,cnt])
      refine Gd.tup key ?_
      have:=cntL_mul (c:=3) fun d hd=>(key d hd).ct
      rw [List.length_map] at this
      omega
    refine ⟨fun d hd=>?_,?_⟩
    · rcases List.mem_cons.mp hd with rfl | hd
      · exact hb.mono (.inl rfl) (by omega) (Nat.le_refl _)
      · exact (i1 d hd).mono (.inl rfl) (by omega) (Nat.le_refl _)
    · have:=hb.ct
      rw [List.map_cons]
      simp only [cntL,List.length_cons]
      omega
theorem way_gd {way:List Bt} (h:∀ b ∈ way,∀ c ∈ b,c.1.natAbs < 10 ^ 100 ∧ c.2.natAbs < 10 ^ 100) (h2:way.length ≤ 14) (h3:lens way ≤ 50):Gd 0 200 3 (.tuple (way.map btD)):=by
  obtain ⟨i1,i2⟩:=cntL_way way h
  exact Gd.tup i1 (by omega)
section
variable {F:FdS}
theorem in_w {α:Type} {x y:α→PyData} {o0:Option DV}:∀ (ds:List α) (o1 o2:Option DV) (F:FdS) (Q:List PyData × DE→FdS→Prop),(∀ o1 o2,Q (ds.map y,[o0,o1,o2]) F) →
    wp (inGo (bTup 2 (bCons (bN 1) (bCons (bN 2) bNil))) uYes (sV 2) (ds.map fun d=>.tuple [x d,y d]) [o0,o1,o2] F) Q
  | [],o1,o2,F,Q,q=>wp_some.mpr (q o1 o2)
  | d :: ds,o1,o2,F,Q,q=>by
    rw [List.map_cons,inGo]
    have e:bTup 2 (bCons (bN 1) (bCons (bN 2) bNil)) (.tuple [x d,y d]) [o0,o1,o2] = some [o0,some (.dat (x d)),some (.dat (y d))]:=rfl
    rw [e,Option.bind_some,wp_bind]
    refine r_uYes.mpr ?_
    rw [if_pos rfl,wp_bind]
    refine r_sV.mpr (gD_e rfl ?_)
    rw [wp_bind]
    refine in_w ds _ _ F _ fun o1 o2=>wp_some.mpr (q o1 o2)
theorem lc2_w:∀ (rows:List (List En)) (o0 o1 o2:Option DV) (F:FdS) (Q:List PyData→FdS→Prop),Q (rows.flatten.map fun e=>.int e.2) F →
    wp (lc2Go (bN 0) uYes (mSeq (sV 0)) (bTup 2 (bCons (bN 1) (bCons (bN 2) bNil))) uYes (sV 2) (rows.map rowD) [o0,o1,o2] F) Q
  | [],o0,o1,o2,F,Q,q=>wp_some.mpr q
  | r :: rows,o0,o1,o2,F,Q,q=>by
    rw [List.map_cons,lc2Go]
    have e:bN 0 (rowD r) [o0,o1,o2] = some [some (.dat (rowD r)),o1,o2]:=rfl
    rw [e,Option.bind_some,wp_bind]
    refine r_uYes.mpr ?_
    rw [if_pos rfl,wp_bind]
    refine r_mSeq.mpr (r_sV.mpr (gD_e rfl (oB_e e_seqL ?_)))
    rw [wp_bind]
    refine in_w (x:=fun e:En=>cmD e.1) (y:=fun e:En=>.int e.2) r o1 o2 F _ fun o1 o2=>?_
    rw [wp_bind]
    refine lc2_w rows _ _ _ F _ (wp_some.mpr ?_)
    rw [List.flatten_cons,List.map_append] at q
    exact q
variable {Q:PyData→FdS→Prop}
theorem toldway_w {rows:List (List En)} (hl:rows.length ≤ 1000) (hr:∀ r ∈ rows,r.length ≤ 1000) (ht:rows.flatten.length ≤ 1000) (q:Q (toldD rows) F) :
    wp (f_told_way [.dat (.list (rows.map rowD))] F) Q:=by
  have e9:(wayR rows).map btD = rows.map fun r=>btD (r.map (·.1)):=by rw [List.map_map]; rfl
  have q:Q (.tuple [.tuple (rows.map fun r=>btD (r.map (·.1))),.tuple (rows.flatten.map fun e=>.int e.2)]) F:=by rw [← e9]; exact q
  unfold f_told_way
  refine r_run.mpr ?_
  dsimp only [startE,List.map_cons,List.map_nil,List.length_cons,List.length_nil,List.replicate,List.cons_append,List.nil_append,Nat.reduceAdd,Nat.reduceSub]
  refine r_mSq.mpr (r_mSet.mpr (r_sN.mpr (r_sCons.mpr (r_sLC.mpr (r_mSeq.mpr (r_sW.mpr (gW_e rfl (oB_e e_seqL ⟨sz (by simp; omega),?_⟩))))))))
  refine lcm1 (x:=rowD) (f:=fun r=>btD (r.map (·.1))) _ _ (fun r hr' F Q q=>?_) (r_sNil.mpr (oB_e e_tupL ⟨lt_len rfl,sq_nx ?_⟩))
  · have:=hr r hr'
    refine r_sN.mpr (r_sCons.mpr (r_sLC.mpr (r_mSeq.mpr (r_sW.mpr (gW_e rfl (oB_e e_seqL ⟨sz (by rw [List.length_map]; omega),?_⟩))))))
    refine lcm2 (x:=fun e:En=>cmD e.1) (y:=fun e:En=>.int e.2) (f:=fun e=>cmD e.1) _ _ _ (fun e _ F Q q=>r_sV.mpr (gD_e rfl q)) (r_sNil.mpr (oB_e e_tupL ?_))
    have e:r.map (fun e:En=>cmD e.1) = (r.map (·.1)).map cmD:=by rw [List.map_map]; rfl
    rw [e]
    exact q
  refine r_mRt.mpr (r_sTup.mpr (r_sCons.mpr (r_sV.mpr (gD_e rfl (r_sCons.mpr (r_sN.mpr (r_sCons.mpr ?_)))))))
  unfold sLC2
  rw [wp_bind]
  refine r_mSeq.mpr (r_sW.mpr (gW_e rfl (oB_e e_seqL ?_)))
  dsimp only
  rw [wp_bind]
  refine lc2_w rows _ _ _ _ _ ?_
  have hnl:(rows.flatten.map fun e:En=>PyData.int e.2).length ≤ sizeLine:=sz (by rw [List.length_map]; omega)
  dsimp only
  rw [if_pos hnl]
  exact wp_some.mpr (r_sNil.mpr (oB_e e_tupL (r_sNil.mpr ⟨le_size rfl,run_rt q⟩)))
theorem num_for {way:List Bt} {N:Nat} {B:Int} (hw:Wz N B way) (hN:N ≤ 50) {Q:Out→FdS→Prop} (q:∀ o2 o3,Q (.nx [some (.dat (.tuple (way.map btD))),some (.own ((rows0 way way.length).map rowD)),o2,o3]) F) :
    wp ((mFor (mSeq (sV 0)) (bN 3) (mSq (mApp 1 (sLC (mEnum (sW 3)) 2 [2] (bTup 2 (bCons (bN 0) (bCons (bN 1) bNil))) uYes (sTup (sCons (sV 1) (sCons (s2 addD (sW 2) (sW 0)) sNil))))) (mAug (fun i j=>i + j) 2 (sN lenD (sCons (sW 3) sNil))))) [some (.dat (.tuple (way.map btD))),some (.own []),some (.dat (.int 0)),none] F) Q:=by
  have h1:=hw.len
  have h2:=hw.many
  refine r_mFor.mpr (r_mSeq.mpr (r_sV.mpr (gD_e rfl (oB_e e_seqT ?_))))
  refine for_inv (fun m E F'=>F' = F ∧ ∃ o3,E = [some (.dat (.tuple (way.map btD))),some (.own ((rows0 way m).map rowD)),some (.dat (.int (cntW way m:Nat))),o3]) _ 0 _ F ⟨rfl,none,rfl⟩ ?_ ?_
  · rintro m d e E F1 ⟨rfl,o3,rfl⟩
    rw [Nat.zero_add]
    obtain ⟨hm,rfl⟩:=bt_get e
    have hb:(btAt way m).length ≤ 50:=by have h3:=lens_take hm; have h4:=lens_le way (m + 1); omega
    refine ⟨_,rfl,r_mSq.mpr ?_⟩
    refine app_w rfl (by rw [List.length_map,List.length_map,List.length_range]; omega) (r_sLC.mpr (enum_w (r_sW.mpr (gW_e rfl (oB_e e_seqT ?_)))))
    have een:enumL 0 ((btAt way m).map cmD) = (List.range (btAt way m).length).map fun i=>.tuple [.int (i:Int),cmD ((btAt way m).getD i (0,0))]:=by
      have e:=map_range ((0:Int),(0:Int)) cmD (btAt way m)
      rw [← e]
      exact enum_go _ _
    rw [een]
    refine ⟨sz (by simp; omega),?_⟩
    refine lcm2 (x:=fun i:Nat=>.int (i:Int)) (y:=fun i=>cmD ((btAt way m).getD i (0,0))) (f:=fun j=>enD (enA way m j)) _ _ _ (fun i hi F Q q=>?_) ?_
    · refine r_sTup.mpr (r_sCons.mpr (r_sV.mpr (gD_e rfl (r_sCons.mpr (r_s2.mpr (r_sW.mpr (gW_e rfl (r_sW.mpr (gW_e rfl (oB_e e_addI (r_sNil.mpr ⟨le_size rfl,?_⟩)))))))))))
      have e:((cntW way m:Nat):Int) + (i:Nat) = ((cntW way m + i:Nat):Int):=by omega
      rw [e]
      exact q
    refine sq_nx (augJ_w rfl (r_sN.mpr (r_sCons.mpr (r_sW.mpr (gW_e rfl (r_sNil.mpr (oB_e e_lenT ⟨_,rfl,?_⟩)))))))
    have e1:(rows0 way (m + 1)).map rowD = (rows0 way m).map rowD ++ [.list ((List.range (btAt way m).length).map fun j=>enD (enA way m j))]:=by
      unfold rows0
      rw [List.range_succ,List.map_append,List.map_append]
      congr 1
      show [rowD (row0 way m)] = _
      unfold rowD row0
      rw [List.map_map]
      rfl
    have e2:((cntW way m:Nat):Int) + (((btAt way m).map cmD).length:Nat) = ((cntW way (m + 1):Nat):Int):=by rw [List.length_map,cntW_succ hm]; omega
    exact ⟨_,rfl,rfl,_,by rw [e1,← e2]; rfl⟩
  · rintro E F1 ⟨rfl,o3,rfl⟩
    rw [Nat.zero_add,List.length_map]
    exact q _ _
theorem numbered_w {way:List Bt} {N:Nat} {B:Int} (hw:Wz N B way) (hN:N ≤ 50) (q:Q (.list ((rows0 way way.length).map rowD)) F):wp (f_numbered [.dat (.tuple (way.map btD))] F) Q:=by
  unfold f_numbered
  refine r_run.mpr ?_
  dsimp only [startE,List.map_cons,List.map_nil,List.length_cons,List.length_nil,List.replicate,List.cons_append,List.nil_append,Nat.reduceAdd,Nat.reduceSub]
  refine r_mSq.mpr (r_mOwn.mpr (r_fLst.mpr (r_sNil.mpr ⟨sz (by decide),lt_len rfl,sq_nx (r_mSq.mpr (r_mSet.mpr (r_sC.mpr ⟨lt_len rfl,sq_nx (r_mSq.mpr ?_)⟩)))⟩)))
  exact num_for hw hN fun o2 o3=>sq_nx (r_mRt.mpr (r_sW.mpr (gW_eo rfl (run_rt q))))
theorem gsq_nx {a:DE→M Out} {b:DE→M (List PyData)} {E:DE} {Q:List PyData→FdS→Prop} (h:wp (a E F) fun o F1=>∃ E1,o = .nx E1 ∧ wp (b E1 F1) Q):wp (gSq a b E F) Q:=by
  unfold gSq
  rw [wp_bind]
  refine wp_mono h fun o F1 ⟨E1,e,q⟩=>?_
  subst e
  exact q
theorem numberedG_w {way:List Bt} {N:Nat} {B:Int} {Q:List PyData→FdS→Prop} (hw:Wz N B way) (hN:N ≤ 50) (q:Q ((rows0 way way.length).map rowD) F):wp (fG_numbered [.dat (.tuple (way.map btD))] F) Q:=by
  unfold fG_numbered runG
  dsimp only [startE,List.map_cons,List.map_nil,List.length_cons,List.length_nil,List.replicate,List.cons_append,List.nil_append,Nat.reduceAdd,Nat.reduceSub]
  refine gsq_nx (r_mOwn.mpr (r_fLst.mpr (r_sNil.mpr ⟨sz (by decide),lt_len rfl,_,rfl,gsq_nx (r_mSet.mpr (r_sC.mpr ⟨lt_len rfl,_,rfl,gsq_nx ?_⟩))⟩)))
  exact num_for hw hN fun o2 o3=>⟨_,rfl,wp_some.mpr q⟩
end
theorem eqInt {a b:Int}:eqD false (.int a) (.int b) = some (.bool (decide (a = b))):=by
  show some (PyData.bool (if false = true then !(PyData.int _).eqv (.int _) else (PyData.int _).eqv (.int _))) = _
  rw [if_neg (by decide),eqv_ii]
theorem neInt {a b:Int}:eqD true (.int a) (.int b) = some (.bool (!decide (a = b))):=by
  show some (PyData.bool (if true = true then !(PyData.int _).eqv (.int _) else (PyData.int _).eqv (.int _))) = _
  rw [if_pos rfl,eqv_ii]
theorem intsOf_map:∀ ns:List Int,intsOf (ns.map .int) = some ns
  | []=>rfl
  | n :: ns=>by
    show (intsOf (ns.map .int)).map (n :: ·) = _
    rw [intsOf_map ns]
    rfl
theorem lens_sum {way:List Bt}:sumD' [.list (way.map fun b=>.int ((b.length:Nat):Int))] = some (.int (lens way:Nat)):=by
  have e:way.map (fun b=>PyData.int ((b.length:Nat):Int)) = (way.map fun b=>((b.length:Nat):Int)).map .int:=by rw [List.map_map]; rfl
  rw [e]
  simp only [sumD',intsOf_map,Option.map_some]
  congr 2
  unfold lens
  induction way with
  | nil=>rfl
  | cons b way ih=>simp only [List.map_cons,List.sum_cons]; rw [ih (by rw [List.map_map]; rfl)]; omega
theorem ownOf_e {E:DE} {i:Nat} {ds:List PyData} (h:E[i]? = some (some (.own ds))):ownOf E i = some ds:=by unfold ownOf; rw [h]
section
variable {F:FdS}
theorem lcf1 {mt:DE→M Bool} {me:DE→M PyData} {α:Type} {x f:α→PyData} {g:α→Bool} {rest:DE}:∀ (ds:List α) (o:Option DV) (Q:List PyData→FdS→Prop),(∀ d ∈ ds,∀ (F:FdS) (Q:Bool→FdS→Prop),Q (g d) F→wp (mt (some (.dat (x d)) :: rest) F) Q) →
    (∀ d ∈ ds,∀ (F:FdS) (Q:PyData→FdS→Prop),Q (f d) F→wp (me (some (.dat (x d)) :: rest) F) Q)→Q ((ds.filter g).map f) F→wp (lcGo (bN 0) mt me (ds.map x) (o :: rest) F) Q
  | [],o,Q,_,_,q=>wp_some.mpr q
  | d :: ds,o,Q,ht,h,q=>by
    rw [List.map_cons,lcGo]
    have e:bN 0 (x d) (o :: rest) = some (some (.dat (x d)) :: rest):=rfl
    rw [e,Option.bind_some,wp_bind]
    refine ht d List.mem_cons_self F _ ?_
    cases c:g d with
    | false =>
      rw [List.filter_cons_of_neg (by rw [c]; simp)] at q
      rw [if_neg (by simp)]
      exact lcf1 ds _ _ (fun d hd=>ht d (List.mem_cons_of_mem _ hd)) (fun d hd=>h d (List.mem_cons_of_mem _ hd)) q
    | true =>
      rw [List.filter_cons_of_pos c,List.map_cons] at q
      rw [if_pos rfl,wp_bind]
      refine h d List.mem_cons_self F _ ?_
      rw [wp_bind]
      exact lcf1 ds _ _ (fun d hd=>ht d (List.mem_cons_of_mem _ hd)) (fun d hd=>h d (List.mem_cons_of_mem _ hd)) (wp_some.mpr q)
variable {Q:PyData→FdS→Prop}
theorem row0_len {way:List Bt} {N:Nat} {B:Int} (hw:Wz N B way) {m:Nat} (hm:m < way.length):(btAt way m).length ≤ N:=by
  have h3:=lens_take hm
  have h4:=lens_le way (m + 1)
  have:=hw.many
  omega
theorem many_w {way:List Bt} {N:Nat} {B:Int} (hw:Wz N B way) (q:Q (.int (lens way:Nat)) F):wp (f_many_in [.dat (.tuple (way.map btD))] F) Q:=by
  have h1:=hw.len
  unfold f_many_in
  refine r_run.mpr ?_
  dsimp only [startE,List.map_cons,List.map_nil,List.length_cons,List.length_nil,List.replicate,List.cons_append,List.nil_append,Nat.reduceAdd,Nat.reduceSub]
  refine r_mRt.mpr (r_sN.mpr (r_sCons.mpr (r_sLC.mpr (r_mSeq.mpr (r_sW.mpr (gW_e rfl (oB_e e_seqT ⟨sz (by rw [List.length_map]; omega),?_⟩)))))))
  refine lcm1 (x:=btD) (f:=fun b=>.int ((b.length:Nat):Int)) _ _ (fun b _ F Q q=>?_) (r_sNil.mpr (oB_e lens_sum (run_rt q)))
  refine r_sN.mpr (r_sCons.mpr (r_sW.mpr (gW_e rfl (r_sNil.mpr (oB_e e_lenT ?_)))))
  rw [List.length_map]
  exact q
structure Rw (N:Nat) (rows:List (List En)):Prop where
  len:rows.length ≤ 14
  many:rows.flatten.length ≤ N
theorem row_le {rows:List (List En)} {r:List En} (h:r ∈ rows):r.length ≤ rows.flatten.length:=by
  induction rows with
  | nil=>cases h
  | cons a rows ih =>
    rw [List.flatten_cons,List.length_append]
    rcases List.mem_cons.mp h with rfl | h
    · omega
    · have:=ih h; omega
theorem told_w {N:Nat} {rows:List (List En)} (h:Rw N rows) (hN:N ≤ 60) (q:Q (toldD rows) F):wp (f_told_way [.dat (.list (rows.map rowD))] F) Q :=
  toldway_w (by have:=h.len; omega) (fun r hr=>by have:=row_le hr; have:=h.many; omega) (by have:=h.many; omega) q
theorem rw0 {way:List Bt} {N:Nat} {B:Int} (hw:Wz N B way):Rw N (rows0 way way.length):=⟨by rw [List.length_map,List.length_range]; exact hw.len,by rw [rows0_len]; exact hw.many⟩
theorem Rw.fil {N:Nat} {rows:List (List En)} (h:Rw N rows) (p:En→Bool):Rw N (rows.map (·.filter p)):=⟨by rw [List.length_map]; exact h.len,by
  have e:(rows.map (·.filter p)).flatten.length ≤ rows.flatten.length:=by rw [← List.filter_flatten]; exact List.length_filter_le ..
  exact Nat.le_trans e h.many⟩
theorem Rw.map {N:Nat} {rows:List (List En)} (h:Rw N rows) (f:En→En):Rw N (rows.map (·.map f)):=⟨by rw [List.length_map]; exact h.len,by
  rw [← List.map_flatten,List.length_map]
  exact h.many⟩
noncomputable abbrev insR (way:List Bt) (b p:Nat) (c:Int × Int):List (List En):=(rows0 way way.length).set b ((row0 way b).take p ++ [(c,-1)] ++ (row0 way b).drop p)
theorem rw_ins {way:List Bt} {N:Nat} {B:Int} (hw:Wz N B way) {b p:Nat} (hb:b < way.length) {c:Int × Int}:Rw (N + 1) (insR way b p c):=⟨by rw [List.length_set,List.length_map,List.length_range]; exact hw.len,by
  have hbl:b < (rows0 way way.length).length:=by simp; exact hb
  rw [set_flat hbl]
  have e:=congrArg List.length (set_flat hbl (rows0 way way.length)[b])
  rw [List.set_getElem_self] at e
  have e2:(rows0 way way.length)[b] = row0 way b:=by unfold rows0; rw [List.getElem_map,List.getElem_range]
  rw [e2] at e
  have h1:=hw.many
  rw [rows0_len] at e
  simp only [List.length_append,List.length_take,List.length_drop,List.length_cons,List.length_nil] at e ⊢
  omega⟩
noncomputable abbrev errB:PyData:=errD "NoBeat" []
noncomputable abbrev errC (i:Int):PyData:=errD "NoComer" [.int i]
theorem r_mRaise {nm:Str} {ms:DE→M (List PyData)} {E:DE} {F:FdS} {Q:Out→FdS→Prop} (q:wp (ms E F) fun ds F1=>ds.length = (psT nm).length ∧ Q (.rt (errD nm ds)) F1):wp (mRaise nm ms E F) Q:=by
  unfold mRaise
  rw [wp_bind]
  refine wp_mono q fun ds F1 h=>?_
  rw [if_pos h.1]
  exact wp_some.mpr h.2
theorem with_w {way:List Bt} {N:Nat} {B:Int} (hw:Wz N B way) (hN:N ≤ 50) {b p:Nat} {c:Int × Int} (q1:b < way.length→Q (toldD (insR way b p c)) F) (q2:way.length ≤ b→Q errB F) :
    wp (f_with_comer [.dat (.tuple (way.map btD)),.dat (.int (b:Int)),.dat (.int (p:Int)),.dat (cmD c)] F) Q:=by
  have h1:=hw.len
  have h2:=hw.many
  unfold f_with_comer
  refine r_run.mpr ?_
  dsimp only [startE,List.map_cons,List.map_nil,List.length_cons,List.length_nil,List.replicate,List.cons_append,List.nil_append,Nat.reduceAdd,Nat.reduceSub]
  refine r_mSq.mpr (r_mIf.mpr (r_uNot.mpr (r_uB.mpr (r_sCh.mpr (r_sC.mpr (r_sW.mpr (gW_e rfl (oB_e e_leI (oB_e rfl (cIf_te (decide_eq_true (by omega)) (r_sN.mpr (r_sCons.mpr (r_sW.mpr (gW_e rfl (r_sNil.mpr (oB_e e_lenT (oB_e e_ltI (oB_e rfl ?_))))))))))))))))))
  rw [List.length_map]
  by_cases hb:b < way.length
  case neg =>
    rw [decide_eq_false (show ¬ (b:Int) < (way.length:Nat) by omega)]
    exact cIf_te rfl (wp_some.mpr (sq_rt (run_rt (q2 (by omega)))))
  have hbl:=row0_len hw hb
  rw [decide_eq_true (show (b:Int) < (way.length:Nat) by omega)]
  refine cIf_fe rfl (r_mNx.mpr (sq_nx (r_mSq.mpr (r_mOwn.mpr ?_))))
  unfold fCall
  rw [wp_bind]
  refine r_vD.mpr (r_sV.mpr (gD_e rfl (r_vNil.mpr (numberedG_w hw hN ⟨lt_len rfl,sq_nx (r_mSq.mpr ((r_mPut rfl).mpr ?_))⟩))))
  have eat:ixD (.list ((rows0 way way.length).map rowD)) (.int (b:Int)) = some (rowD (row0 way b)):=by
    have:(rows0 way way.length).map rowD = (List.range way.length).map fun m=>rowD (row0 way m):=by unfold rows0; rw [List.map_map]; rfl
    rw [this]
    exact map_at (f:=fun m=>rowD (row0 way m)) hb
  have ec1:cutL ((row0 way b).map enD) none (some (p:Int)) = ((row0 way b).take p).map enD:=by rw [cut_to (by omega),List.map_take]; rfl
  have ec2:cutL ((row0 way b).map enD) (some (p:Int)) none = ((row0 way b).drop p).map enD:=by rw [cut_from (by omega),List.map_drop]; rfl
  have hl1:((row0 way b).take p).length ≤ N:=by rw [List.length_take]; simp; omega
  have hl2:((row0 way b).drop p).length ≤ N:=by rw [List.length_drop]; simp; omega
  refine r_s2.mpr (r_s2.mpr (r_cut.mpr (r_s2.mpr (r_sW.mpr (gW_eo rfl (r_sW.mpr (gW_e rfl (oB_e eat (r_oNo.mpr (r_oI.mpr (r_sV.mpr (gD_e rfl (oB_e rfl (oB_e e_cutL ?_))))))))))))))
  rw [ec1]
  refine r_sLst.mpr (r_sCons.mpr (r_sTup.mpr (r_sCons.mpr (r_sV.mpr (gD_e rfl (r_sCons.mpr (r_sC.mpr (r_sNil.mpr ⟨le_size rfl,r_sNil.mpr ⟨le_size rfl,oB_e (add_l (by rw [List.length_map]; show _ + 1 ≤ _; omega)) ?_⟩⟩))))))))
  refine r_cut.mpr (r_s2.mpr (r_sW.mpr (gW_eo rfl (r_sW.mpr (gW_e rfl (oB_e eat (r_oI.mpr (r_sV.mpr (gD_e rfl (oB_e rfl (r_oNo.mpr (oB_e e_cutL ?_))))))))))))
  rw [ec2]
  refine oB_e (add_l (by rw [List.length_append,List.length_map,List.length_map]; show _ + 1 + _ ≤ _; omega)) (r_sV.mpr (gD_e rfl (oB_e rfl (oB_e (ixN_n (by omega) (by simp; omega)) (sq_nx (pubJ_w (ownOf_e rfl) ?_))))))
  have er:((rows0 way way.length).map rowD).set ((b:Int)).toNat (.list (((row0 way b).take p).map enD ++ [.tuple [cmD c,.int (-1)]] ++ ((row0 way b).drop p).map enD)) = (insR way b p c).map rowD:=by
    rw [List.map_set,Int.toNat_natCast]
    congr 1
    unfold rowD
    rw [List.map_append,List.map_append]
    rfl
  rw [er]
  exact r_mRt.mpr (r_sCall.mpr (r_vD.mpr (r_sV.mpr (gD_e rfl (r_vNil.mpr (told_w (rw_ins hw hb) (by omega) (run_rt (q1 hb))))))))
theorem check_w {way:List Bt} {N:Nat} {B:Int} (hw:Wz N B way) {k:Nat} (q1:k < lens way→Q .none F) (q2:lens way ≤ k→Q (errC k) F):wp (f_check_comer [.dat (.tuple (way.map btD)),.dat (.int (k:Int))] F) Q:=by
  unfold f_check_comer
  refine r_run.mpr ?_
  dsimp only [startE,List.map_cons,List.map_nil,List.length_cons,List.length_nil,List.replicate,List.cons_append,List.nil_append,Nat.reduceAdd,Nat.reduceSub]
  refine r_mIf.mpr (r_uNot.mpr (r_uB.mpr (r_sCh.mpr (r_sC.mpr (r_sW.mpr (gW_e rfl (oB_e e_leI (oB_e rfl (cIf_te (decide_eq_true (by omega)) (r_sCall.mpr (r_vD.mpr (r_sV.mpr (gD_e rfl (r_vNil.mpr (many_w hw (oB_e e_ltI (oB_e rfl ?_)))))))))))))))))
  by_cases hk:k < lens way
  · rw [decide_eq_true (show (k:Int) < (lens way:Nat) by omega)]
    exact cIf_fe rfl (r_mNx.mpr (run_nx (q1 hk)))
  · rw [decide_eq_false (show ¬ (k:Int) < (lens way:Nat) by omega)]
    exact cIf_te rfl (r_mRaise (r_sCons.mpr (r_sV.mpr (gD_e rfl (r_sNil.mpr ⟨rfl,run_rt (q2 (by omega))⟩)))))
theorem r_mDoX {f:List DV→M PyData} {ms:DE→M (List DV)} {E:DE} {F:FdS} {Q:Out→FdS→Prop} (q:wp (ms E F) fun xs F1=>wp (f xs F1) fun d F2=>(errOf d = none ∧ Q (.nx E) F2) ∨ ∃ z,errOf d = some z ∧ Q (.rt d) F2):wp (mDoX f ms E F) Q:=by
  unfold mDoX
  rw [wp_bind]
  refine wp_mono q fun xs F1 h=>?_
  rw [wp_bind]
  refine wp_mono h fun d F2 h=>?_
  dsimp only
  rcases h with ⟨e,h⟩ | ⟨z,e,h⟩
  · rw [e]; exact wp_some.mpr h
  · rw [e]; exact wp_some.mpr h
noncomputable abbrev outR (way:List Bt) (k:Nat):List (List En):=(rows0 way way.length).map (·.filter fun e=>!decide (e.2 = (k:Int)))
theorem without_w {way:List Bt} {N:Nat} {B:Int} (hw:Wz N B way) (hN:N ≤ 50) {k:Nat} (q1:k < lens way→Q (toldD (outR way k)) F) (q2:lens way ≤ k→Q (errC k) F):wp (f_without [.dat (.tuple (way.map btD)),.dat (.int (k:Int))] F) Q:=by
  have h1:=hw.len
  have h2:=hw.many
  unfold f_without
  refine r_run.mpr ?_
  dsimp only [startE,List.map_cons,List.map_nil,List.length_cons,List.length_nil,List.replicate,List.cons_append,List.nil_append,Nat.reduceAdd,Nat.reduceSub]
  refine r_mSq.mpr (r_mDoX (r_vD.mpr (r_sV.mpr (gD_e rfl (r_vD.mpr (r_sV.mpr (gD_e rfl (r_vNil.mpr (check_w hw (fun hk=>.inl ⟨rfl,sq_nx ?_⟩) fun hk=>.inr ⟨_,rfl,sq_rt (run_rt (q2 hk))⟩)))))))))
  refine r_mRt.mpr (r_sCall.mpr (r_vD.mpr (r_sLC.mpr (r_mSeq.mpr (r_sCall.mpr (r_vD.mpr (r_sV.mpr (gD_e rfl (r_vNil.mpr (numbered_w hw hN (oB_e e_seqL ⟨sz (by simp; omega),?_⟩)))))))))))
  refine lcm1 (x:=rowD) (f:=fun r=>rowD (r.filter fun e=>!decide (e.2 = (k:Int)))) _ _ (fun r hr F Q q=>?_) (r_vNil.mpr ?_)
  · have:=row_le hr
    rw [rows0_len] at this
    refine r_sLC.mpr (r_mSeq.mpr (r_sW.mpr (gW_e rfl (oB_e e_seqL ⟨sz (by rw [List.length_map]; omega),?_⟩))))
    refine lcf1 (x:=enD) (f:=enD) (g:=fun e=>!decide (e.2 = (k:Int))) _ _ _ (fun e _ F Q q=>?_) (fun e _ F Q q=>r_sV.mpr (gD_e rfl q)) q
    exact r_uB.mpr (r_s2.mpr (r_s2.mpr (r_sW.mpr (gW_e rfl (r_sC.mpr (oB_e rfl (r_sW.mpr (gW_e rfl (oB_e neInt (oB_e rfl q))))))))))
  have e:(rows0 way way.length).map (fun r=>rowD (r.filter fun e=>!decide (e.2 = (k:Int)))) = (outR way k).map rowD:=by
    unfold outR
    conv=>rhs; rw [List.map_map]
    rfl
  rw [e]
  exact told_w ((rw0 hw).fil _) (by omega) (run_rt (q1 hk))
noncomputable abbrev fronR (way:List Bt):List (List En):=(rows0 way way.length).map (·.filter fun e=>decide (e.1.1 = 0))
theorem front_w {way:List Bt} {N:Nat} {B:Int} (hw:Wz N B way) (hN:N ≤ 50) (q1:Q (toldD (fronR way)) F):wp (f_front_alone [.dat (.tuple (way.map btD))] F) Q:=by
  have h1:=hw.len
  have h2:=hw.many
  unfold f_front_alone
  refine r_run.mpr ?_
  dsimp only [startE,List.map_cons,List.map_nil,List.length_cons,List.length_nil,List.replicate,List.cons_append,List.nil_append,Nat.reduceAdd,Nat.reduceSub]
  refine r_mRt.mpr (r_sCall.mpr (r_vD.mpr (r_sLC.mpr (r_mSeq.mpr (r_sCall.mpr (r_vD.mpr (r_sV.mpr (gD_e rfl (r_vNil.mpr (numbered_w hw hN (oB_e e_seqL ⟨sz (by simp; omega),?_⟩)))))))))))
  refine lcm1 (x:=rowD) (f:=fun r=>rowD (r.filter fun e=>decide (e.1.1 = 0))) _ _ (fun r hr F Q q=>?_) (r_vNil.mpr ?_)
  · have:=row_le hr
    rw [rows0_len] at this
    refine r_sLC.mpr (r_mSeq.mpr (r_sW.mpr (gW_e rfl (oB_e e_seqL ⟨sz (by rw [List.length_map]; omega),?_⟩))))
    refine lcf1 (x:=enD) (f:=enD) (g:=fun e=>decide (e.1.1 = 0)) _ _ _ (fun e _ F Q q=>?_) (fun e _ F Q q=>r_sV.mpr (gD_e rfl q)) q
    exact r_uB.mpr (r_s2.mpr (r_s2.mpr (r_s2.mpr (r_sW.mpr (gW_e rfl (r_sC.mpr (oB_e rfl (r_sC.mpr (oB_e rfl (r_sC.mpr (oB_e eqInt (oB_e rfl q))))))))))))
  have e:(rows0 way way.length).map (fun r=>rowD (r.filter fun e=>decide (e.1.1 = 0))) = (fronR way).map rowD:=by
    unfold fronR
    conv=>rhs; rw [List.map_map]
    rfl
  rw [e]
  exact told_w ((rw0 hw).fil _) (by omega) (run_rt q1)
theorem lcm3 {me:DE→M PyData} {f:En→PyData} {rest:DE}:∀ (ds:List En) (o o' o'':Option DV) (Q:List PyData→FdS→Prop),(∀ d ∈ ds,∀ (F:FdS) (Q:PyData→FdS→Prop),Q (f d) F→wp (me (some (.dat (.int d.1.1)) :: some (.dat (.int d.1.2)) :: some (.dat (.int d.2)) :: rest) F) Q)→Q (ds.map f) F →
    wp (lcGo (bTup 2 (bCons (bTup 2 (bCons (bN 0) (bCons (bN 1) bNil))) (bCons (bN 2) bNil))) uYes me (ds.map enD) (o :: o' :: o'' :: rest) F) Q
  | [],o,o',o'',Q,_,q=>wp_some.mpr q
  | d :: ds,o,o',o'',Q,h,q=>by
    rw [List.map_cons,lcGo]
    have e:bTup 2 (bCons (bTup 2 (bCons (bN 0) (bCons (bN 1) bNil))) (bCons (bN 2) bNil)) (enD d) (o :: o' :: o'' :: rest) = some (some (.dat (.int d.1.1)) :: some (.dat (.int d.1.2)) :: some (.dat (.int d.2)) :: rest):=rfl
    rw [e,Option.bind_some,wp_bind]
    refine r_uYes.mpr ?_
    rw [if_pos rfl,wp_bind]
    refine h d List.mem_cons_self F _ ?_
    rw [wp_bind]
    exact lcm3 ds _ _ _ _ (fun d hd=>h d (List.mem_cons_of_mem _ hd)) (wp_some.mpr q)
noncomputable abbrev lgE (k:Nat) (more:Int) (e:En):En:=((e.1.1,if e.2 = (k:Int) then e.1.2 + more else e.1.2),e.2)
noncomputable abbrev lgR (way:List Bt) (k:Nat) (more:Int) (n:Nat):List (List En):=(rows0 way n).map (·.map (lgE k more))
theorem longer_w {way:List Bt} {N:Nat} {B:Int} (hw:Wz N B way) (hN:N ≤ 50) {k:Nat} {more:Int} (q1:k < lens way→Q (toldD (lgR way k more way.length)) F) (q2:lens way ≤ k→Q (errC k) F) :
    wp (f_longer [.dat (.tuple (way.map btD)),.dat (.int (k:Int)),.dat (.int more)] F) Q:=by
  have h1:=hw.len
  have h2:=hw.many
  unfold f_longer
  refine r_run.mpr ?_
  dsimp only [startE,List.map_cons,List.map_nil,List.length_cons,List.length_nil,List.replicate,List.cons_append,List.nil_append,Nat.reduceAdd,Nat.reduceSub]
  refine r_mSq.mpr (r_mDoX (r_vD.mpr (r_sV.mpr (gD_e rfl (r_vD.mpr (r_sV.mpr (gD_e rfl (r_vNil.mpr (check_w hw (fun hk=>.inl ⟨rfl,sq_nx ?_⟩) fun hk=>.inr ⟨_,rfl,sq_rt (run_rt (q2 hk))⟩)))))))))
  refine r_mSq.mpr (r_mOwn.mpr (r_fLst.mpr (r_sNil.mpr ⟨sz (by decide),lt_len rfl,sq_nx (r_mSq.mpr ?_)⟩)))
  refine r_mFor.mpr (r_mSeq.mpr (r_sCall.mpr (r_vD.mpr (r_sV.mpr (gD_e rfl (r_vNil.mpr (numbered_w hw hN (oB_e e_seqL ?_))))))))
  refine for_inv (fun m E F'=>F' = F ∧ ∃ o4,E = [some (.dat (.tuple (way.map btD))),some (.dat (.int (k:Int))),some (.dat (.int more)),some (.own ((lgR way k more m).map rowD)),o4]) _ 0 _ F ⟨rfl,_,rfl⟩ ?_ ?_
  · rintro m d e E F1 ⟨rfl,o4,rfl⟩
    rw [Nat.zero_add]
    have ed:(rows0 way way.length).map rowD = (List.range way.length).map fun m=>rowD (row0 way m):=by unfold rows0; rw [List.map_map]; rfl
    rw [ed] at e
    obtain ⟨hm,rfl⟩:=rng_get e
    have hb:=row0_len hw hm
    refine ⟨_,rfl,?_⟩
    refine app_w (ownOf_e rfl) (by simp; omega) (r_sLC.mpr (r_mSeq.mpr (r_sW.mpr (gW_e rfl (oB_e e_seqL ⟨sz (by simp; omega),?_⟩)))))
    refine lcm3 (f:=fun e=>enD (lgE k more e)) _ _ _ _ _ (fun e _ F Q q=>?_) ?_
    · refine r_sTup.mpr (r_sCons.mpr (r_sTup.mpr (r_sCons.mpr (r_sV.mpr (gD_e rfl (r_sCons.mpr (r_sIf.mpr (r_uB.mpr (r_s2.mpr (r_sW.mpr (gW_e rfl (r_sW.mpr (gW_e rfl (oB_e eqInt (oB_e rfl (cIf_2 (fun hc=>?_) fun hc=>?_))))))))))))))))
      · have hc:=of_decide_eq_true hc
        refine r_s2.mpr (r_sW.mpr (gW_e rfl (r_sW.mpr (gW_e rfl (oB_e e_addI (r_sNil.mpr ⟨le_size rfl,r_sCons.mpr (r_sV.mpr (gD_e rfl (r_sNil.mpr ⟨le_size rfl,?_⟩)))⟩))))))
        have:lgE k more e = ((e.1.1,e.1.2 + more),e.2):=by unfold lgE; rw [if_pos hc]
        rw [this] at q
        exact q
      · have hc:=of_decide_eq_false hc
        refine r_sV.mpr (gD_e rfl (r_sNil.mpr ⟨le_size rfl,r_sCons.mpr (r_sV.mpr (gD_e rfl (r_sNil.mpr ⟨le_size rfl,?_⟩)))⟩))
        have:lgE k more e = ((e.1.1,e.1.2),e.2):=by unfold lgE; rw [if_neg hc]
        rw [this] at q
        exact q
    have e1:(lgR way k more (m + 1)).map rowD = (lgR way k more m).map rowD ++ [.list ((row0 way m).map fun e=>enD (lgE k more e))]:=by
      unfold lgR rows0
      rw [List.range_succ,List.map_append,List.map_append,List.map_append]
      congr 1
      show [rowD ((row0 way m).map (lgE k more))] = _
      unfold rowD
      rw [List.map_map]
      rfl
    exact ⟨_,rfl,rfl,_,by rw [e1]; rfl⟩
  · rintro E F1 ⟨rfl,o4,rfl⟩
    have el:(rows0 way way.length).length = way.length:=by simp
    rw [Nat.zero_add,List.length_map,el]
    exact sq_nx (pubJ_w (ownOf_e rfl) (r_mRt.mpr (r_sCall.mpr (r_vD.mpr (r_sV.mpr (gD_e rfl (r_vNil.mpr (told_w ((rw0 hw).map _) (by omega) (run_rt (q1 hk))))))))))
end
section
variable {F:FdS}
theorem lcf3 {mt:DE→M Bool} {me:DE→M PyData} {α:Type} {x y z f:α→PyData} {g:α→Bool} {rest:DE}:∀ (ds:List α) (o o' o'':Option DV) (Q:List PyData→FdS→Prop),(∀ d ∈ ds,∀ (F:FdS) (Q:Bool→FdS→Prop),Q (g d) F→wp (mt (some (.dat (x d)) :: some (.dat (y d)) :: some (.dat (z d)) :: rest) F) Q) →
    (∀ d ∈ ds,∀ (F:FdS) (Q:PyData→FdS→Prop),Q (f d) F→wp (me (some (.dat (x d)) :: some (.dat (y d)) :: some (.dat (z d)) :: rest) F) Q)→Q ((ds.filter g).map f) F→wp (lcGo (bTup 3 (bCons (bN 0) (bCons (bN 1) (bCons (bN 2) bNil)))) mt me (ds.map fun d=>.tuple [x d,y d,z d]) (o :: o' :: o'' :: rest) F) Q
  | [],o,o',o'',Q,_,_,q=>wp_some.mpr q
  | d :: ds,o,o',o'',Q,ht,h,q=>by
    rw [List.map_cons,lcGo]
    have e:bTup 3 (bCons (bN 0) (bCons (bN 1) (bCons (bN 2) bNil))) (.tuple [x d,y d,z d]) (o :: o' :: o'' :: rest) = some (some (.dat (x d)) :: some (.dat (y d)) :: some (.dat (z d)) :: rest):=rfl
    rw [e,Option.bind_some,wp_bind]
    refine ht d List.mem_cons_self F _ ?_
    cases c:g d with
    | false =>
      rw [List.filter_cons_of_neg (by rw [c]; simp)] at q
      rw [if_neg (by simp)]
      exact lcf3 ds _ _ _ _ (fun d hd=>ht d (List.mem_cons_of_mem _ hd)) (fun d hd=>h d (List.mem_cons_of_mem _ hd)) q
    | true =>
      rw [List.filter_cons_of_pos c,List.map_cons] at q
      rw [if_pos rfl,wp_bind]
      refine h d List.mem_cons_self F _ ?_
      rw [wp_bind]
      exact lcf3 ds _ _ _ _ (fun d hd=>ht d (List.mem_cons_of_mem _ hd)) (fun d hd=>h d (List.mem_cons_of_mem _ hd)) (wp_some.mpr q)
variable {Q:PyData→FdS→Prop}
noncomputable abbrev flD (R:List (List En)):PyData:=.list ((flO 0 R).map feD)
theorem rng1_n {n:Nat} (h:n ≤ 1000):rngOf1 [.int (n:Int)] = some ((List.range n).map fun i=>.int (i:Int)):=by
  have:=rng1_e (n:=n) (by omega)
  rw [rng_nat] at this
  exact this
theorem built_w {N:Nat} {R:List (List En)} (h:Rw N R) (hN:N ≤ 60) (q:Q (toldD R) F):wp (f__law_built [.dat (flD R),.dat (.int (R.length:Nat))] F) Q:=by
  have h1:=h.len
  have h2:=h.many
  have hl:(flO 0 R).length ≤ 60:=by rw [flO_len]; omega
  unfold f__law_built
  refine r_run.mpr ?_
  dsimp only [startE,List.map_cons,List.map_nil,List.length_cons,List.length_nil,List.replicate,List.cons_append,List.nil_append,Nat.reduceAdd,Nat.reduceSub]
  refine r_mSq.mpr (r_mSet.mpr (r_sLC.mpr (r_mRng1.mpr (r_sCons.mpr (r_sV.mpr (gD_e rfl (r_sNil.mpr (oB_e (rng1_n (by omega)) ⟨sz (by simp; omega),?_⟩))))))))
  refine lcm1 (x:=fun i:Nat=>.int (i:Int)) (f:=fun b=>btD ((R.getD b []).map (·.1))) _ _ (fun b hb F Q q=>?_) ⟨lt_len rfl,sq_nx ?_⟩
  · refine r_sN.mpr (r_sCons.mpr (r_sLC.mpr (r_mSeq.mpr (r_sW.mpr (gW_e rfl (oB_e e_seqL ⟨sz (by rw [List.length_map]; omega),?_⟩))))))
    refine lcf3 (x:=fun x:Fe=>.int (x.1:Int)) (y:=fun x=>cmD x.2.1) (z:=fun x=>.int x.2.2) (g:=fun x=>decide (x.1 = 0 + b)) (f:=fun x=>cmD x.2.1) _ _ _ _ _ (fun x _ F Q q=>?_) (fun x _ F Q q=>r_sV.mpr (gD_e rfl q)) (r_sNil.mpr (oB_e e_tupL ?_))
    · refine r_uB.mpr (r_s2.mpr (r_sW.mpr (gW_e rfl (r_sW.mpr (gW_e rfl (oB_e eqInt (oB_e rfl ?_)))))))
      have e:decide ((x.1:Int) = (b:Int)) = decide (x.1 = 0 + b):=by rw [decide_eq_decide]; omega
      rw [e]
      exact q
    · have e:((flO 0 R).filter fun x=>decide (x.1 = 0 + b)).map (fun x=>cmD x.2.1) = ((R.getD b []).map (·.1)).map cmD:=by
        rw [← flO_at R 0 b,List.map_map,List.map_map]
        rfl
      rw [e]
      exact q
  have e1:(List.range R.length).map (fun b=>btD ((R.getD b []).map (·.1))) = (wayR R).map btD:=by
    rw [List.map_map]
    exact map_range ([]:List En) (fun r:List En=>btD (r.map (·.1))) R
  rw [e1]
  refine r_mRt.mpr (r_sTup.mpr (r_sCons.mpr (r_sN.mpr (r_sCons.mpr (r_sW.mpr (gW_e rfl (r_sNil.mpr (oB_e e_tupL ?_))))))))
  refine r_sCons.mpr (r_sN.mpr (r_sCons.mpr (r_sLC.mpr (r_mSeq.mpr (r_sW.mpr (gW_e rfl (oB_e e_seqL ⟨sz (by rw [List.length_map]; omega),?_⟩)))))))
  refine lcf3 (x:=fun x:Fe=>.int (x.1:Int)) (y:=fun x=>cmD x.2.1) (z:=fun x=>.int x.2.2) (g:=fun x=>true) (f:=fun x=>.int x.2.2) _ _ _ _ _ (fun x _ F Q q=>r_uYes.mpr q) (fun x _ F Q q=>r_sV.mpr (gD_e rfl q)) (r_sNil.mpr (oB_e e_tupL (r_sNil.mpr ⟨le_size rfl,run_rt ?_⟩)))
  have e2:((flO 0 R).filter fun x=>true).map (fun x=>PyData.int x.2.2) = R.flatten.map fun e=>.int e.2:=by
    rw [filt_all fun _ _=>rfl,← flO_snd R 0,List.map_map]
    rfl
  rw [e2]
  exact q
theorem flat_w {way:List Bt} {N:Nat} {B:Int} (hw:Wz N B way) (hN:N ≤ 50) (q:Q (flD (rows0 way way.length)) F):wp (f__law_flat [.dat (.tuple (way.map btD))] F) Q:=by
  have h1:=hw.len
  have h2:=hw.many
  unfold f__law_flat
  refine r_run.mpr ?_
  dsimp only [startE,List.map_cons,List.map_nil,List.length_cons,List.length_nil,List.replicate,List.cons_append,List.nil_append,Nat.reduceAdd,Nat.reduceSub]
  refine r_mSq.mpr (r_mOwn.mpr (r_fLst.mpr (r_sNil.mpr ⟨sz (by decide),lt_len rfl,sq_nx (r_mSq.mpr ?_)⟩)))
  refine r_mFor.mpr (r_mRng1.mpr (r_sCons.mpr (r_sN.mpr (r_sCons.mpr (r_sW.mpr (gW_e rfl (r_sNil.mpr (oB_e e_lenT (r_sNil.mpr ?_)))))))))
  rw [List.length_map]
  refine oB_e (rng1_n (by omega)) ?_
  refine for_inv (fun m E F'=>F' = F ∧ ∃ o2 o3,E = [some (.dat (.tuple (way.map btD))),some (.own ((flO 0 (rows0 way m)).map feD)),o2,o3]) _ 0 _ F ⟨rfl,none,none,rfl⟩ ?_ ?_
  · rintro m d e E F1 ⟨rfl,o2,o3,rfl⟩
    rw [Nat.zero_add]
    obtain ⟨hm,rfl⟩:=rng_get (f:=fun i:Nat=>PyData.int (i:Int)) e
    have hb:=row0_len hw hm
    have hc:=rows0_lenB way m (by omega)
    have hcl:=cntW_le way m
    refine ⟨_,rfl,?_⟩
    have eat:ixD (.tuple (way.map btD)) (.int (m:Int)) = some (btD (btAt way m)):=by
      have e9:way.map btD = (List.range way.length).map fun m=>btD (btAt way m):=(map_range ([]:Bt) btD way).symm
      rw [e9]
      exact map_at (f:=fun m=>btD (btAt way m)) hm
    refine r_mFor.mpr (r_mSeq.mpr (r_s2.mpr (r_sW.mpr (gW_e rfl (r_sW.mpr (gW_e rfl (oB_e eat (oB_e e_seqT ?_))))))))
    refine for_inv (fun j E F'=>F' = F1 ∧ ∃ o3,E = [some (.dat (.tuple (way.map btD))),some (.own ((flO 0 (rows0 way m) ++ (List.range j).map fun i=>(m,enA way m i)).map feD)),some (.dat (.int (m:Int))),o3]) _ 0 _ F1 ⟨rfl,o3,by rw [List.range_zero,List.map_nil,List.append_nil]; rfl⟩ ?_ ?_
    · rintro j d e E F2 ⟨rfl,o3,rfl⟩
      rw [Nat.zero_add]
      have e9:(btAt way m).map cmD = (List.range (btAt way m).length).map fun i=>cmD ((btAt way m).getD i (0,0)):=(map_range ((0:Int),(0:Int)) cmD (btAt way m)).symm
      rw [e9] at e
      obtain ⟨hj,rfl⟩:=rng_get e
      refine ⟨_,rfl,?_⟩
      have el:(List.map feD (flO 0 (rows0 way m) ++ (List.range j).map fun i=>(m,enA way m i))).length = cntW way m + j:=by
        rw [List.length_map,List.length_append,flO_len,hc,List.length_map,List.length_range]
      refine app_w (ownOf_e rfl) (by rw [el]; omega) (r_sTup.mpr (r_sCons.mpr (r_sV.mpr (gD_e rfl (r_sCons.mpr (r_sV.mpr (gD_e rfl (r_sCons.mpr (r_sN.mpr (r_sCons.mpr (r_sW.mpr (gW_eo rfl (r_sNil.mpr (oB_e e_lenL (r_sNil.mpr ⟨le_size rfl,?_⟩)))))))))))))))
      have e7:(flO 0 (rows0 way m) ++ (List.range (j + 1)).map fun i=>(m,enA way m i)).map feD = (flO 0 (rows0 way m) ++ (List.range j).map fun i=>(m,enA way m i)).map feD ++ [feD (m,enA way m j)]:=by
        rw [List.range_succ,List.map_append (l₂:=[j]),← List.append_assoc,List.map_append (l₂:=List.map _ [j])]
        rfl
      exact ⟨_,rfl,rfl,_,by rw [e7,el]; rfl⟩
    · rintro E F2 ⟨rfl,o3,rfl⟩
      rw [Nat.zero_add,List.length_map]
      have e8:flO 0 (rows0 way (m + 1)) = flO 0 (rows0 way m) ++ (List.range (btAt way m).length).map fun i=>(m,enA way m i):=by
        rw [rows0_fl]
        unfold row0
        rw [List.map_map]
        rfl
      exact ⟨_,rfl,rfl,_,_,by rw [e8]⟩
  · rintro E F1 ⟨rfl,o2,o3,rfl⟩
    rw [Nat.zero_add,List.length_map,List.length_range]
    exact sq_nx (r_mRt.mpr (r_sW.mpr (gW_eo rfl (run_rt q))))
end
noncomputable def dueW (way:List Bt) (b p:Nat) (c:Int × Int):PyData:=if b < way.length then .tuple [.str "told",toldD (insR way b p c)] else .tuple [.str "beat",.int 0]
noncomputable def dueO (way:List Bt) (k:Nat):PyData:=if k < lens way then .tuple [.str "told",toldD (outR way k)] else .tuple [.str "comer",.int k]
noncomputable def dueL (way:List Bt) (k:Nat) (more:Int):PyData:=if k < lens way then .tuple [.str "told",toldD (lgR way k more way.length)] else .tuple [.str "comer",.int k]
section
variable {F:FdS} {Q:PyData→FdS→Prop} {way:List Bt} {N:Nat} {B:Int}
theorem eqS {x y:Str}:eqD false (.str x) (.str y) = some (.bool (decide (x = y))):=by
  show some (PyData.bool (if false = true then !decide (x = y) else decide (x = y))) = _
  rw [if_neg (by decide)]
theorem n1:decide (("without":Str) = "with") = false:=by decide +kernel
theorem n2:decide (("longer":Str) = "with") = false:=by decide +kernel
theorem n3:decide (("longer":Str) = "without") = false:=by decide +kernel
theorem y1 {x:Str}:decide (x = x) = true:=decide_eq_true rfl
theorem r_mTry {fi:Nat} {told:Str} {g:List DV→M PyData} {ms:DE→M (List DV)} {hd:Str→List PyData→DE→Option DE} {E:DE} {F:FdS} {Q:Out→FdS→Prop}
    (q:wp (ms E F) fun xs F1=>wp (g xs F1) fun d F2=>(∃ z E1,errOf d = some z ∧ hd z.1 z.2 E = some E1 ∧ Q (.nx E1) F2) ∨ (errOf d = none ∧ ∃ E1,bN fi (.tuple [.str told,d]) E = some E1 ∧ Q (.nx E1) F2)):wp (mTry fi told g ms hd E F) Q:=by
  unfold mTry
  rw [wp_bind]
  refine wp_mono q fun xs F1 h=>?_
  rw [wp_bind]
  refine wp_mono h fun d F2 h=>?_
  dsimp only
  rcases h with ⟨z,E1,e1,e2,h⟩ | ⟨e1,E1,e2,h⟩
  · rw [e1]; dsimp only; rw [e2]; exact wp_some.mpr h
  · rw [e1]; dsimp only; rw [e2]; exact wp_some.mpr h
noncomputable abbrev hdK:=hdC "NoBeat" "NoComer" 4 5 3 "odd" "beat" [.inl "comer",.inr "number"]
theorem hd_beat {a b c d:Option DV}:hdK "NoBeat" [] [a,b,c,d,none,none] = some [a,b,c,some (.dat (.tuple [.str "beat",.int 0])),none,some (.dat (.bool false))]:=by
  unfold hdK hdC
  rw [if_pos (show isHole [a,b,c,d,none,none] 4 = true from rfl)]
  show (some _).bind _ = _
  rw [Option.bind_some]
  show (some _).bind _ = _
  rw [Option.bind_some,if_pos rfl]
  rfl
theorem hd_comer {a b c d:Option DV} {i:Int}:hdK "NoComer" [.int i] [a,b,c,d,none,none] = some [a,b,c,some (.dat (.tuple [.str "comer",.int i])),none,some (.dat (.bool false))]:=by
  unfold hdK hdC
  rw [if_pos (show isHole [a,b,c,d,none,none] 4 = true from rfl)]
  show (some _).bind _ = _
  rw [Option.bind_some]
  show (some _).bind _ = _
  rw [Option.bind_some,if_neg (by decide +kernel),if_pos rfl]
  rfl
theorem toldW_w (hw:Wz N B way) (hN:N ≤ 50) {b p:Nat} {c:Int × Int} (q:Q (dueW way b p c) F):wp (f__law_told [.dat (.str "with"),.dat (.tuple (way.map btD)),.dat (.tuple [.int (b:Int),.int (p:Int),cmD c])] F) Q:=by
  unfold f__law_told
  refine r_run.mpr ?_
  dsimp only [startE,List.map_cons,List.map_nil,List.length_cons,List.length_nil,List.replicate,List.cons_append,List.nil_append,Nat.reduceAdd,Nat.reduceSub]
  refine r_mSq.mpr (r_mSet.mpr (r_sC.mpr ⟨lt_len rfl,sq_nx (r_mSq.mpr (r_mIf.mpr (r_uB.mpr (r_s2.mpr (r_sW.mpr (gW_e rfl (r_sC.mpr (oB_e eqS (oB_e rfl (cIf_te y1 ?_))))))))))⟩))
  refine r_mTry (r_vD.mpr (r_sV.mpr (gD_e rfl (r_vD.mpr (r_s2.mpr (r_sW.mpr (gW_e rfl (r_sC.mpr (oB_e rfl (r_vD.mpr (r_s2.mpr (r_sW.mpr (gW_e rfl (r_sC.mpr (oB_e rfl (r_vD.mpr (r_s2.mpr (r_sW.mpr (gW_e rfl (r_sC.mpr (oB_e rfl (r_vNil.mpr ?_))))))))))))))))))))))
  refine with_w hw hN (fun hb=>.inr ⟨rfl,_,rfl,sq_nx (r_mRt.mpr (r_sV.mpr (gD_e rfl (run_rt ?_))))⟩) fun hb=>.inl ⟨_,_,rfl,hd_beat,sq_nx (r_mRt.mpr (r_sV.mpr (gD_e rfl (run_rt ?_))))⟩
  · unfold dueW at q
    rw [if_pos hb] at q
    exact q
  · unfold dueW at q
    rw [if_neg (by omega)] at q
    exact q
theorem toldO_w (hw:Wz N B way) (hN:N ≤ 50) {k:Nat} {x:PyData} (q:Q (dueO way k) F):wp (f__law_told [.dat (.str "without"),.dat (.tuple (way.map btD)),.dat (.tuple [.int (k:Int),x])] F) Q:=by
  unfold f__law_told
  refine r_run.mpr ?_
  dsimp only [startE,List.map_cons,List.map_nil,List.length_cons,List.length_nil,List.replicate,List.cons_append,List.nil_append,Nat.reduceAdd,Nat.reduceSub]
  refine r_mSq.mpr (r_mSet.mpr (r_sC.mpr ⟨lt_len rfl,sq_nx (r_mSq.mpr (r_mIf.mpr (r_uB.mpr (r_s2.mpr (r_sW.mpr (gW_e rfl (r_sC.mpr (oB_e eqS (oB_e rfl (cIf_fe n1 ?_))))))))))⟩))
  refine r_mIf.mpr (r_uB.mpr (r_s2.mpr (r_sW.mpr (gW_e rfl (r_sC.mpr (oB_e eqS (oB_e rfl (cIf_te y1 ?_))))))))
  refine r_mTry (r_vD.mpr (r_sV.mpr (gD_e rfl (r_vD.mpr (r_s2.mpr (r_sW.mpr (gW_e rfl (r_sC.mpr (oB_e rfl (r_vNil.mpr ?_))))))))))
  refine without_w hw hN (fun hb=>.inr ⟨rfl,_,rfl,sq_nx (r_mRt.mpr (r_sV.mpr (gD_e rfl (run_rt ?_))))⟩) fun hb=>.inl ⟨_,_,rfl,hd_comer,sq_nx (r_mRt.mpr (r_sV.mpr (gD_e rfl (run_rt ?_))))⟩
  · unfold dueO at q
    rw [if_pos hb] at q
    exact q
  · unfold dueO at q
    rw [if_neg (by omega)] at q
    exact q
theorem toldL_w (hw:Wz N B way) (hN:N ≤ 50) {k:Nat} {more:Int} (q:Q (dueL way k more) F):wp (f__law_told [.dat (.str "longer"),.dat (.tuple (way.map btD)),.dat (.tuple [.int (k:Int),.int more])] F) Q:=by
  unfold f__law_told
  refine r_run.mpr ?_
  dsimp only [startE,List.map_cons,List.map_nil,List.length_cons,List.length_nil,List.replicate,List.cons_append,List.nil_append,Nat.reduceAdd,Nat.reduceSub]
  refine r_mSq.mpr (r_mSet.mpr (r_sC.mpr ⟨lt_len rfl,sq_nx (r_mSq.mpr (r_mIf.mpr (r_uB.mpr (r_s2.mpr (r_sW.mpr (gW_e rfl (r_sC.mpr (oB_e eqS (oB_e rfl (cIf_fe n2 ?_))))))))))⟩))
  refine r_mIf.mpr (r_uB.mpr (r_s2.mpr (r_sW.mpr (gW_e rfl (r_sC.mpr (oB_e eqS (oB_e rfl (cIf_fe n3 ?_))))))))
  refine r_mTry (r_vD.mpr (r_sV.mpr (gD_e rfl (r_vD.mpr (r_s2.mpr (r_sW.mpr (gW_e rfl (r_sC.mpr (oB_e rfl (r_vD.mpr (r_s2.mpr (r_sW.mpr (gW_e rfl (r_sC.mpr (oB_e rfl (r_vNil.mpr ?_))))))))))))))))
  refine longer_w hw hN (fun hb=>.inr ⟨rfl,_,rfl,sq_nx (r_mRt.mpr (r_sV.mpr (gD_e rfl (run_rt ?_))))⟩) fun hb=>.inl ⟨_,_,rfl,hd_comer,sq_nx (r_mRt.mpr (r_sV.mpr (gD_e rfl (run_rt ?_))))⟩
  · unfold dueL at q
    rw [if_pos hb] at q
    exact q
  · unfold dueL at q
    rw [if_neg (by omega)] at q
    exact q
end
section
variable {F:FdS} {Q:PyData→FdS→Prop} {way:List Bt} {N:Nat} {B:Int}
theorem rows0_at {b:Nat} (hb:b < way.length):(rows0 way way.length)[b]? = some (row0 way b):=by
  unfold rows0
  rw [List.getElem?_map,List.getElem?_range hb]
  rfl
theorem built_n {N n:Nat} {R:List (List En)} (h:Rw N R) (hN:N ≤ 60) (hn:R.length = n) (q:Q (toldD R) F):wp (f__law_built [.dat (flD R),.dat (.int (n:Nat))] F) Q:=by
  subst hn
  exact built_w h hN q
theorem minI {i j:Int}:minD [.int i,.int j] = some (.int (if j < i then j else i)):=rfl
theorem way_at {b:Nat} (hb:b < way.length):ixD (.tuple (way.map btD)) (.int (b:Int)) = some (btD (btAt way b)):=by
  have e9:way.map btD = (List.range way.length).map fun m=>btD (btAt way m):=(map_range ([]:Bt) btD way).symm
  rw [e9]
  exact map_at (f:=fun m=>btD (btAt way m)) hb
theorem dueW_w (hw:Wz N B way) (hN:N ≤ 50) {b p:Nat} {c:Int × Int} (q:Q (dueW way b p c) F):wp (f__law_due [.dat (.str "with"),.dat (.tuple (way.map btD)),.dat (.tuple [.int (b:Int),.int (p:Int),cmD c])] F) Q:=by
  have h1:=hw.len
  have h2:=hw.many
  have h3:=rows0_len way
  unfold f__law_due
  refine r_run.mpr ?_
  dsimp only [startE,List.map_cons,List.map_nil,List.length_cons,List.length_nil,List.replicate,List.cons_append,List.nil_append,Nat.reduceAdd,Nat.reduceSub]
  refine r_mSq.mpr (r_mSet.mpr (r_sCall.mpr (r_vD.mpr (r_sV.mpr (gD_e rfl (r_vNil.mpr (flat_w hw hN ⟨lt_len rfl,sq_nx ?_⟩)))))))
  refine r_mSq.mpr (r_mIf.mpr (r_uB.mpr (r_s2.mpr (r_sW.mpr (gW_e rfl (r_sC.mpr (oB_e eqS (oB_e rfl (cIf_te y1 ?_)))))))))
  refine r_mSq.mpr (r_mAsg.mpr (r_sV.mpr (gD_e rfl (oB_e rfl (sq_nx (r_mSq.mpr (r_mIf.mpr (r_uB.mpr (r_s2.mpr (r_sW.mpr (gW_e rfl (r_sN.mpr (r_sCons.mpr (r_sW.mpr (gW_e rfl (r_sNil.mpr (oB_e e_lenT (oB_e e_geI (oB_e rfl ?_)))))))))))))))))))
  rw [List.length_map]
  by_cases hb:b < way.length
  case neg =>
    rw [decide_eq_true (show ((way.length:Nat):Int) ≤ (b:Int) by omega)]
    refine cIf_te rfl (r_mRt.mpr (r_sC.mpr (sq_rt (sq_rt (run_rt ?_)))))
    unfold dueW at q
    rw [if_neg hb] at q
    exact q
  rw [decide_eq_false (show ¬ ((way.length:Nat):Int) ≤ (b:Int) by omega)]
  refine cIf_fe rfl (r_mNx.mpr (sq_nx (r_mSq.mpr (r_mSet.mpr (r_s2.mpr (r_sN.mpr (r_sCons.mpr (r_sLC.mpr (r_mSeq.mpr (r_sW.mpr (gW_e rfl (oB_e e_seqL ⟨sz (by rw [List.length_map,flO_len]; omega),?_⟩))))))))))))
  refine lcf1 (x:=feD) (f:=feD) (g:=fun x=>decide (x.1 < 0 + b)) _ _ _ (fun x _ F Q q=>?_) (fun x _ F Q q=>r_sV.mpr (gD_e rfl q)) (r_sNil.mpr (oB_e e_lenL ?_))
  · refine r_uB.mpr (r_s2.mpr (r_s2.mpr (r_sW.mpr (gW_e rfl (r_sC.mpr (oB_e rfl (r_sW.mpr (gW_e rfl (oB_e e_ltI (oB_e rfl ?_))))))))))
    have e:decide ((x.1:Int) < (b:Int)) = decide (x.1 < 0 + b):=by rw [decide_eq_decide]; omega
    rw [e]
    exact q
  rw [List.length_map,flO_below,rows0_take way (by omega)]
  refine r_sN.mpr (r_sCons.mpr (r_sW.mpr (gW_e rfl (r_sCons.mpr (r_sN.mpr (r_sCons.mpr (r_s2.mpr (r_sW.mpr (gW_e rfl (r_sW.mpr (gW_e rfl (oB_e (way_at hb) (r_sNil.mpr (oB_e e_lenT (r_sNil.mpr (oB_e minI (oB_e e_addI ⟨lt_len rfl,sq_nx ?_⟩)))))))))))))))))
  rw [List.length_map]
  obtain ⟨P,eP⟩:∃ P:Nat,P = (rows0 way b).flatten.length + min p (btAt way b).length:=⟨_,rfl⟩
  have eI:(((rows0 way b).flatten.length:Nat):Int) + (if (((btAt way b).length:Nat):Int) < (p:Int) then (((btAt way b).length:Nat):Int) else (p:Int)) = (P:Int):=by
    rw [eP]
    split <;> omega
  rw [eI]
  have hPl:(rows0 way b).flatten.length ≤ N:=by rw [rows0_lenB way b (by omega)]; have:=cntW_le way b; omega
  have hbl:=row0_len hw hb
  have hfl:((flO 0 (rows0 way way.length)).map feD).length = lens way:=by rw [List.length_map,flO_len,h3]
  have ec1:cutL ((flO 0 (rows0 way way.length)).map feD) none (some (P:Int)) = ((flO 0 (rows0 way way.length)).take P).map feD:=by rw [cut_to (by omega),List.map_take]; rfl
  have ec2:cutL ((flO 0 (rows0 way way.length)).map feD) (some (P:Int)) none = ((flO 0 (rows0 way way.length)).drop P).map feD:=by rw [cut_from (by omega),List.map_drop]; rfl
  have hl1:(((flO 0 (rows0 way way.length)).take P).map feD).length ≤ 50:=by rw [List.length_map,List.length_take,flO_len,h3]; omega
  have hl2:(((flO 0 (rows0 way way.length)).drop P).map feD).length ≤ 50:=by rw [List.length_map,List.length_drop,flO_len,h3]; omega
  refine r_mRt.mpr (r_sTup.mpr (r_sCons.mpr (r_sC.mpr (r_sCons.mpr (r_sCall.mpr (r_vD.mpr (r_s2.mpr (r_s2.mpr (r_cut.mpr (r_sW.mpr (gW_e rfl (r_oNo.mpr (r_oI.mpr (r_sV.mpr (gD_e rfl (oB_e rfl (oB_e e_cutL ?_)))))))))))))))))
  rw [ec1]
  refine r_sLst.mpr (r_sCons.mpr (r_sTup.mpr (r_sCons.mpr (r_sV.mpr (gD_e rfl (r_sCons.mpr (r_sV.mpr (gD_e rfl (r_sCons.mpr (r_s1.mpr (r_sC.mpr (oB_e rfl (r_sNil.mpr ⟨le_size rfl,r_sNil.mpr ⟨le_size rfl,oB_e (add_l (by show _ + 1 ≤ _; omega)) ?_⟩⟩)))))))))))))
  refine r_cut.mpr (r_sW.mpr (gW_e rfl (r_oI.mpr (r_sV.mpr (gD_e rfl (oB_e rfl (r_oNo.mpr (oB_e e_cutL ?_))))))))
  rw [ec2]
  refine oB_e (add_l (by rw [List.length_append]; show _ + 1 + _ ≤ _; omega)) (r_vD.mpr (r_sN.mpr (r_sCons.mpr (r_sW.mpr (gW_e rfl (r_sNil.mpr (oB_e e_lenT (r_vNil.mpr ?_))))))))
  have er:((flO 0 (rows0 way way.length)).take P).map feD ++ [PyData.tuple [.int (b:Int),cmD c,.int (-1)]] ++ ((flO 0 (rows0 way way.length)).drop P).map feD = (flO 0 (insR way b p c)).map feD:=by
    have:=flO_ins (rows0 way way.length) 0 b p (c,-1) (row0 way b) (rows0_at hb)
    rw [rows0_take way (by omega),show (row0 way b).length = (btAt way b).length by simp,← eP] at this
    rw [← this,List.map_append,List.map_append]
    rw [Nat.zero_add]
    rfl
  have el:(insR way b p c).length = way.length:=by rw [List.length_set,List.length_map,List.length_range]
  rw [er,List.length_map]
  refine built_n (rw_ins hw hb) (by omega) el (r_sNil.mpr ⟨le_size rfl,sq_rt (run_rt ?_)⟩)
  unfold dueW at q
  rw [if_pos hb] at q
  exact q
theorem due_tail {w:Str} (hn:decide (w = "with") = false) {k:Nat} {x:PyData} (hw:Wz N B way) (hN:N ≤ 50) (q2:lens way ≤ k→Q (.tuple [.str "comer",.int k]) F)
    (q1:k < lens way→wp ((mSq (mIf (uB (s2 (eqD false) (sW 0) (sC (.str "without")))) (mRt (sTup (sCons (sC (.str "told")) (sCons (sCall f__law_built (vD (sLC (mSeq (sW 3)) 1 [2] (bN 0) (uB (s2 (eqD true) (s2 ixD (sW 0) (sC (.int 2))) (s2 ixD (sW 1) (sC (.int 0))))) (sV 0)) (vD (sN lenD (sCons (sW 1) sNil)) vNil))) sNil)))) mNx)
    (mSq (mOwn 8 (fLst sNil))
    (mSq (mFor (mSeq (sV 3)) (bTup 3 (bCons (bN 9) (bCons (bN 6) (bCons (bN 10) bNil)))) (mApp 8 (sTup (sCons (sV 9) (sCons (sTup (sCons (s2 ixD (sW 6) (sC (.int 0))) (sCons (s2 addD (s2 ixD (sW 6) (sC (.int 1))) (s2 mulD' (s2 ixD (sW 2) (sC (.int 1))) (sN intD (sCons (s2 (eqD false) (sW 10) (s2 ixD (sW 2) (sC (.int 0)))) sNil)))) sNil))) (sCons (sV 10) sNil))))))
    (mPub 8 (mRt (sTup (sCons (sC (.str "told")) (sCons (sCall f__law_built (vD (sV 8) (vD (sN lenD (sCons (sW 1) sNil)) vNil))) sNil))))))))
      [some (.dat (.str w)),some (.dat (.tuple (way.map btD))),some (.dat (.tuple [.int (k:Int),x])),some (.dat (flD (rows0 way way.length))),none,none,none,none,none,none,none] F) (runK Q)) :
    wp (f__law_due [.dat (.str w),.dat (.tuple (way.map btD)),.dat (.tuple [.int (k:Int),x])] F) Q:=by
  unfold f__law_due
  refine r_run.mpr ?_
  dsimp only [startE,List.map_cons,List.map_nil,List.length_cons,List.length_nil,List.replicate,List.cons_append,List.nil_append,Nat.reduceAdd,Nat.reduceSub]
  refine r_mSq.mpr (r_mSet.mpr (r_sCall.mpr (r_vD.mpr (r_sV.mpr (gD_e rfl (r_vNil.mpr (flat_w hw hN ⟨lt_len rfl,sq_nx ?_⟩)))))))
  refine r_mSq.mpr (r_mIf.mpr (r_uB.mpr (r_s2.mpr (r_sW.mpr (gW_e rfl (r_sC.mpr (oB_e eqS (oB_e rfl (cIf_fe hn (r_mNx.mpr (sq_nx ?_)))))))))))
  refine r_mSq.mpr (r_mIf.mpr (r_uB.mpr (r_s2.mpr (r_s2.mpr (r_sW.mpr (gW_e rfl (r_sC.mpr (oB_e rfl (r_sN.mpr (r_sCons.mpr (r_sW.mpr (gW_e rfl (r_sNil.mpr (oB_e e_lenL (oB_e e_geI (oB_e rfl ?_))))))))))))))))
  rw [List.length_map,flO_len,rows0_len]
  by_cases hk:k < lens way
  case neg =>
    rw [decide_eq_true (show ((lens way:Nat):Int) ≤ (k:Int) by omega)]
    exact cIf_te rfl (r_mRt.mpr (r_sTup.mpr (r_sCons.mpr (r_sC.mpr (r_sCons.mpr (r_s2.mpr (r_sW.mpr (gW_e rfl (r_sC.mpr (oB_e rfl (r_sNil.mpr ⟨le_size rfl,sq_rt (run_rt (q2 (by omega)))⟩)))))))))))
  rw [decide_eq_false (show ¬ ((lens way:Nat):Int) ≤ (k:Int) by omega)]
  exact cIf_fe rfl (r_mNx.mpr (sq_nx (q1 hk)))
theorem dueO_w (hw:Wz N B way) (hN:N ≤ 50) {k:Nat} {x:PyData} (q:Q (dueO way k) F):wp (f__law_due [.dat (.str "without"),.dat (.tuple (way.map btD)),.dat (.tuple [.int (k:Int),x])] F) Q:=by
  have h2:=hw.many
  have h3:=rows0_len way
  refine due_tail n1 hw hN (fun hk=>?_) fun hk=>?_
  · unfold dueO at q
    rw [if_neg (by omega)] at q
    exact q
  refine r_mSq.mpr (r_mIf.mpr (r_uB.mpr (r_s2.mpr (r_sW.mpr (gW_e rfl (r_sC.mpr (oB_e eqS (oB_e rfl (cIf_te y1 ?_)))))))))
  refine r_mRt.mpr (r_sTup.mpr (r_sCons.mpr (r_sC.mpr (r_sCons.mpr (r_sCall.mpr (r_vD.mpr (r_sLC.mpr (r_mSeq.mpr (r_sW.mpr (gW_e rfl (oB_e e_seqL ⟨sz (by rw [List.length_map,flO_len]; omega),?_⟩)))))))))))
  refine lcf1 (x:=feD) (f:=feD) (g:=fun x=>!decide (x.2.2 = (k:Int))) _ _ _ (fun x _ F Q q=>?_) (fun x _ F Q q=>r_sV.mpr (gD_e rfl q)) (r_vD.mpr (r_sN.mpr (r_sCons.mpr (r_sW.mpr (gW_e rfl (r_sNil.mpr (oB_e e_lenT (r_vNil.mpr ?_))))))))
  · exact r_uB.mpr (r_s2.mpr (r_s2.mpr (r_sW.mpr (gW_e rfl (r_sC.mpr (oB_e rfl (r_s2.mpr (r_sW.mpr (gW_e rfl (r_sC.mpr (oB_e rfl (oB_e neInt (oB_e rfl q)))))))))))))
  have er:=flO_filter (fun e=>!decide (e.2 = (k:Int))) (rows0 way way.length) 0
  have el:(outR way k).length = way.length:=by rw [List.length_map,List.length_map,List.length_range]
  rw [er,List.length_map]
  refine built_n (R:=outR way k) ((rw0 hw).fil _) (by omega) el (r_sNil.mpr ⟨le_size rfl,sq_rt (run_rt ?_)⟩)
  unfold dueO at q
  rw [if_pos hk] at q
  exact q
theorem dueL_w (hw:Wz N B way) (hN:N ≤ 50) {k:Nat} {more:Int} (hm:0 ≤ more ∧ more ≤ 6) (q:Q (dueL way k more) F):wp (f__law_due [.dat (.str "longer"),.dat (.tuple (way.map btD)),.dat (.tuple [.int (k:Int),.int more])] F) Q:=by
  have h2:=hw.many
  have h3:=rows0_len way
  refine due_tail n2 hw hN (fun hk=>?_) fun hk=>?_
  · unfold dueL at q
    rw [if_neg (by omega)] at q
    exact q
  refine r_mSq.mpr (r_mIf.mpr (r_uB.mpr (r_s2.mpr (r_sW.mpr (gW_e rfl (r_sC.mpr (oB_e eqS (oB_e rfl (cIf_fe n3 (r_mNx.mpr (sq_nx ?_)))))))))))
  refine r_mSq.mpr (r_mOwn.mpr (r_fLst.mpr (r_sNil.mpr ⟨sz (by decide),lt_len rfl,sq_nx (r_mSq.mpr ?_)⟩)))
  refine r_mFor.mpr (r_mSeq.mpr (r_sV.mpr (gD_e rfl (oB_e e_seqL ?_))))
  unfold flD
  generalize eL:flO 0 (rows0 way way.length) = L
  have hL:L.length ≤ 50:=by rw [← eL,flO_len]; omega
  refine for_inv (fun j E F'=>F' = F ∧ ∃ o6 o9 o10,E = [some (.dat (.str "longer")),some (.dat (.tuple (way.map btD))),some (.dat (.tuple [.int (k:Int),.int more])),some (.dat (.list (L.map feD))),none,none,o6,none,some (.own ((L.take j).map fun x=>feD (x.1,lgE k more x.2))),o9,o10]) _ 0 _ F ⟨rfl,_,_,_,rfl⟩ ?_ ?_
  · rintro j d e E F1 ⟨rfl,o6,o9,o10,rfl⟩
    rw [Nat.zero_add]
    rw [List.getElem?_map] at e
    obtain ⟨x,ex,rfl⟩:=Option.map_eq_some_iff.mp e
    have hj:=(List.getElem?_eq_some_iff.mp ex).1
    refine ⟨_,rfl,?_⟩
    refine app_w (ownOf_e rfl) (by rw [List.length_map,List.length_take]; omega) (r_sTup.mpr (r_sCons.mpr (r_sV.mpr (gD_e rfl (r_sCons.mpr (r_sTup.mpr (r_sCons.mpr (r_s2.mpr (r_sW.mpr (gW_e rfl (r_sC.mpr (oB_e rfl ?_))))))))))))
    refine r_sCons.mpr (r_s2.mpr (r_s2.mpr (r_sW.mpr (gW_e rfl (r_sC.mpr (oB_e rfl (r_s2.mpr (r_s2.mpr (r_sW.mpr (gW_e rfl (r_sC.mpr (oB_e rfl (r_sN.mpr (r_sCons.mpr (r_s2.mpr (r_sW.mpr (gW_e rfl (r_s2.mpr (r_sW.mpr (gW_e rfl (r_sC.mpr (oB_e rfl (oB_e eqInt (r_sNil.mpr (oB_e e_intB ?_)))))))))))))))))))))))))
    refine oB_e (mul_i (.inr ⟨by have:=hm.1; have:=hm.2; omega,by split <;> decide⟩)) (oB_e e_addI (r_sNil.mpr ⟨le_size rfl,r_sCons.mpr (r_sV.mpr (gD_e rfl (r_sNil.mpr ⟨le_size rfl,?_⟩)))⟩))
    have e1:(L.take (j + 1)).map (fun x=>feD (x.1,lgE k more x.2)) = (L.take j).map (fun x=>feD (x.1,lgE k more x.2)) ++ [feD (x.1,lgE k more x.2)]:=by
      rw [List.take_add_one,ex,List.map_append]
      rfl
    have e2:x.2.1.2 + more * (if decide (x.2.2 = (k:Int)) = true then 1 else 0) = if x.2.2 = (k:Int) then x.2.1.2 + more else x.2.1.2:=by
      by_cases hz:x.2.2 = (k:Int)
      · rw [if_pos hz,decide_eq_true hz,if_pos rfl]; omega
      · rw [if_neg hz,decide_eq_false hz,if_neg (by decide)]; omega
    exact ⟨_,rfl,rfl,_,_,_,by rw [e1]; unfold lgE; rw [← e2]; rfl⟩
  · rintro E F1 ⟨rfl,o6,o9,o10,rfl⟩
    rw [Nat.zero_add,List.length_map,List.take_length]
    have er:L.map (fun x=>feD (x.1,lgE k more x.2)) = (flO 0 (lgR way k more way.length)).map feD:=by
      unfold lgR
      rw [← flO_map,eL,List.map_map]
      rfl
    rw [er]
    refine sq_nx (pubJ_w (ownOf_e rfl) (r_mRt.mpr (r_sTup.mpr (r_sCons.mpr (r_sC.mpr (r_sCons.mpr (r_sCall.mpr (r_vD.mpr (r_sV.mpr (gD_e rfl (r_vD.mpr (r_sN.mpr (r_sCons.mpr (r_sW.mpr (gW_e rfl (r_sNil.mpr (oB_e e_lenT (r_vNil.mpr ?_))))))))))))))))))
    have el:(lgR way k more way.length).length = way.length:=by rw [List.length_map,List.length_map,List.length_range]
    rw [List.length_map]
    refine built_n (R:=lgR way k more way.length) ((rw0 hw).map _) (by omega) el (r_sNil.mpr ⟨le_size rfl,run_rt ?_⟩)
    unfold dueL at q
    rw [if_pos hk] at q
    exact q
end
noncomputable def EnOk (B:Int) (e:En):Prop:=(0 ≤ e.1.1 ∧ e.1.1 ≤ 1 ∧ 0 ≤ e.1.2 ∧ e.1.2 ≤ B) ∧ -1 ≤ e.2 ∧ e.2 ≤ 1000
structure Rz (N:Nat) (B:Int) (rows:List (List En)):Prop where
  len:rows.length ≤ 14
  many:rows.flatten.length ≤ N
  ok:∀ e ∈ rows.flatten,EnOk B e
section
variable {way:List Bt} {N:Nat} {B:Int} {rows:List (List En)}
theorem Rz.wz (h:Rz N B rows):Wz N B (wayR rows):=by
  have e:(wayR rows).flatten = rows.flatten.map (·.1):=by rw [← List.map_flatten]
  refine ⟨by rw [List.length_map]; exact h.len,?_,fun b hb c hc=>?_⟩
  · rw [← flat_len,e,List.length_map]; exact h.many
  · have hm:c ∈ (wayR rows).flatten:=List.mem_flatten.mpr ⟨b,hb,hc⟩
    rw [e] at hm
    obtain ⟨x,hx,rfl⟩:=List.mem_map.mp hm
    exact (h.ok x hx).1
theorem rz0 (hw:Wz N B way) (hN:N ≤ 50):Rz N B (rows0 way way.length):=by
  refine ⟨(rw0 hw).len,(rw0 hw).many,fun e he=>?_⟩
  obtain ⟨r,hr,he⟩:=List.mem_flatten.mp he
  obtain ⟨m,hm,rfl⟩:=List.mem_map.mp hr
  obtain ⟨j,hj,rfl⟩:=List.mem_map.mp he
  have hm:=List.mem_range.mp hm
  have hj:=List.mem_range.mp hj
  have h1:=hw.many
  have h2:=cntW_le way (m + 1)
  rw [cntW_succ hm] at h2
  refine ⟨?_,by show -1 ≤ ((cntW way m + j:Nat):Int); omega,by show ((cntW way m + j:Nat):Int) ≤ 1000; omega⟩
  have hmem:(btAt way m).getD j (0,0) ∈ btAt way m:=by
    rw [List.getD_eq_getElem?_getD,List.getElem?_eq_getElem hj]
    exact List.getElem_mem hj
  exact btAt_mem (P:=fun c=>0 ≤ c.1 ∧ c.1 ≤ 1 ∧ 0 ≤ c.2 ∧ c.2 ≤ B) hw.ok m _ hmem
theorem Rz.fil (h:Rz N B rows) (p:En→Bool):Rz N B (rows.map (·.filter p)):=by
  have e:(rows.map (·.filter p)).flatten = rows.flatten.filter p:=by rw [List.filter_flatten]
  refine ⟨by rw [List.length_map]; exact h.len,?_,fun x hx=>?_⟩
  · rw [e]; exact Nat.le_trans (List.length_filter_le ..) h.many
  · rw [e] at hx; exact h.ok x (List.mem_filter.mp hx).1
theorem EnOk.mono {B':Int} {e:En} (h:EnOk B e) (hb:B ≤ B'):EnOk B' e:=⟨⟨h.1.1,h.1.2.1,h.1.2.2.1,by have:=h.1.2.2.2; omega⟩,h.2⟩
theorem Rz.mono {N':Nat} {B':Int} (h:Rz N B rows) (hn:N ≤ N') (hb:B ≤ B'):Rz N' B' rows:=⟨h.len,Nat.le_trans h.many hn,fun e he=>(h.ok e he).mono hb⟩
theorem rz_lg {k:Nat} {more:Int} (hm:0 ≤ more ∧ more ≤ 6) (h:Rz N B rows):Rz N (B + 6) (rows.map (·.map (lgE k more))):=by
  have e:(rows.map (·.map (lgE k more))).flatten = rows.flatten.map (lgE k more):=by rw [List.map_flatten]
  refine ⟨by rw [List.length_map]; exact h.len,?_,fun x hx=>?_⟩
  · rw [e,List.length_map]; exact h.many
  · rw [e] at hx
    obtain ⟨y,hy,rfl⟩:=List.mem_map.mp hx
    obtain ⟨⟨a1,a2,a3,a4⟩,a5⟩:=h.ok y hy
    refine ⟨⟨a1,a2,?_,?_⟩,a5⟩
    · show 0 ≤ if y.2 = (k:Int) then y.1.2 + more else y.1.2
      split <;> omega
    · show (if y.2 = (k:Int) then y.1.2 + more else y.1.2) ≤ B + 6
      split <;> omega
theorem rz_ins (hw:Wz N B way) (hN:N ≤ 50) {b p:Nat} (hb:b < way.length) {c:Int × Int} (hc:CmOk c) (hB:6 ≤ B):Rz (N + 1) B (insR way b p c):=by
  have h:=rz0 hw hN
  refine ⟨(rw_ins hw hb).len,(rw_ins hw hb).many,fun x hx=>?_⟩
  have hbl:b < (rows0 way way.length).length:=by simp; exact hb
  have e2:(rows0 way way.length)[b] = row0 way b:=by unfold rows0; rw [List.getElem_map,List.getElem_range]
  have e:=set_flat hbl (rows0 way way.length)[b]
  rw [List.set_getElem_self,e2] at e
  rw [set_flat hbl] at hx
  have ok:=h.ok
  rw [e] at ok
  rcases List.mem_append.mp hx with hx | hx
  · exact ok x (List.mem_append.mpr (.inl hx))
  · rcases List.mem_append.mp hx with hx | hx
    · rcases List.mem_append.mp hx with hx | hx
      · rcases List.mem_append.mp hx with hx | hx
        · exact ok x (List.mem_append.mpr (.inr (List.mem_append.mpr (.inl (List.mem_of_mem_take hx)))))
        · rw [List.mem_singleton.mp hx]
          obtain ⟨c1,c2,c3,c4⟩:=hc
          refine ⟨⟨c1,c2,?_,?_⟩,by show (-1:Int) ≤ -1; decide,by show (-1:Int) ≤ 1000; decide⟩
          · show 0 ≤ c.2; omega
          · show c.2 ≤ B; omega
      · exact ok x (List.mem_append.mpr (.inr (List.mem_append.mpr (.inl (List.mem_of_mem_drop hx)))))
    · exact ok x (List.mem_append.mpr (.inr (List.mem_append.mpr (.inr hx))))
theorem wz_gd (hw:Wz N B way) (hN:N ≤ 50) (hB:B ≤ 100):Gd 0 200 3 (.tuple (way.map btD)):=by
  refine way_gd (fun b hb c hc=>?_) hw.len (Nat.le_trans hw.many hN)
  obtain ⟨a1,a2,a3,a4⟩:=hw.ok b hb c hc
  have h1:c.1.natAbs ≤ 100:=by omega
  have h2:c.2.natAbs ≤ 100:=by omega
  exact ⟨Nat.lt_of_le_of_lt h1 (by decide),Nat.lt_of_le_of_lt h2 (by decide)⟩
theorem gd2 {a b:PyData} {n1 n2 k:Nat} (ha:Gd 0 n1 k a) (hb:Gd 0 n2 k b):Gd 0 (1 + n1 + n2) (k + 1) (.tuple [a,b]):=by
  refine Gd.tup (M:=n1 + n2) (fun d hd=>?_) ?_
  · rcases List.mem_cons.mp hd with rfl | hd
    · exact ha.mono (.inl rfl) (by omega) (Nat.le_refl _)
    · rw [List.mem_singleton.mp hd]; exact hb.mono (.inl rfl) (by omega) (Nat.le_refl _)
  · have:=ha.ct
    have:=hb.ct
    simp only [cntL]
    omega
theorem told_gd (h:Rz N B rows) (hN:N ≤ 50) (hB:B ≤ 100):Gd 0 300 4 (toldD rows):=by
  have hm:=h.many
  have h1:=wz_gd h.wz hN hB
  have h2:Gd 0 51 1 (.tuple (rows.flatten.map fun e=>.int e.2)):=by
    have key:∀ d ∈ rows.flatten.map fun e=>PyData.int e.2,Gd 0 1 0 d:=fun d hd=>by
      obtain ⟨e,he,rfl⟩:=List.mem_map.mp hd
      obtain ⟨_,h1,h2⟩:=h.ok e he
      exact gInt (by omega) (by omega)
    refine Gd.tup key ?_
    have:=cntL_mul (c:=1) fun d hd=>(key d hd).ct
    rw [List.length_map] at this
    omega
  exact (gd2 h1 (h2.mono (.inl rfl) (Nat.le_refl _) (by decide))).mono (.inl rfl) (by omega) (Nat.le_refl _)
theorem told_num (rows:List (List En)):numD (toldD rows):=by
  simp only [numD,numL,and_true]
  refine ⟨numL_iff.mpr fun d hd=>?_,numL_iff.mpr fun d hd=>?_⟩
  · obtain ⟨b,hb,rfl⟩:=List.mem_map.mp hd
    simp only [numD]
    refine numL_iff.mpr fun d hd=>?_
    obtain ⟨c,hc,rfl⟩:=List.mem_map.mp hd
    simp only [numD,numL,and_true]
  · obtain ⟨e,he,rfl⟩:=List.mem_map.mp hd
    trivial
noncomputable def Dds (way:List Bt) (w:Str) (sm du:PyData):Prop :=
  (∃ (b p:Nat) (c:Int × Int),w = "with" ∧ sm = .tuple [.int (b:Int),.int (p:Int),cmD c] ∧ du = dueW way b p c ∧ CmOk c ∧ b ≤ 10 ^ 30 ∧ p ≤ 10 ^ 30) ∨
  (∃ (k:Nat) (more:Int),sm = .tuple [.int (k:Int),.int more] ∧ (0 ≤ more ∧ more ≤ 6) ∧ k ≤ 10 ^ 30 ∧ ((w = "without" ∧ du = dueO way k) ∨ (w = "longer" ∧ du = dueL way k more)))
variable {w:Str} {sm du:PyData} {F:FdS} {Q:PyData→FdS→Prop}
theorem Dds.due (h:Dds way w sm du) (hw:Wz N B way) (hN:N ≤ 50) (q:Q du F):wp (f__law_due [.dat (.str w),.dat (.tuple (way.map btD)),.dat sm] F) Q:=by
  rcases h with ⟨b,p,c,rfl,rfl,rfl,_⟩ | ⟨k,more,rfl,hm,_,⟨rfl,rfl⟩ | ⟨rfl,rfl⟩⟩
  · exact dueW_w hw hN q
  · exact dueO_w hw hN q
  · exact dueL_w hw hN hm q
theorem Dds.told (h:Dds way w sm du) (hw:Wz N B way) (hN:N ≤ 50) (q:Q du F):wp (f__law_told [.dat (.str w),.dat (.tuple (way.map btD)),.dat sm] F) Q:=by
  rcases h with ⟨b,p,c,rfl,rfl,rfl,_⟩ | ⟨k,more,rfl,hm,_,⟨rfl,rfl⟩ | ⟨rfl,rfl⟩⟩
  · exact toldW_w hw hN q
  · exact toldO_w hw hN q
  · exact toldL_w hw hN q
theorem big30 {k:Nat} (h:k ≤ 10 ^ 30):Gd 0 1 0 (.int (k:Int)):=gd_int (by
  rw [Int.natAbs_natCast]
  exact Nat.lt_of_le_of_lt h (by decide))
theorem cm_gd9 {c:Int × Int} (h:CmOk c):Gd 0 3 1 (cmD c):=cm_gd h
theorem Dds.gd (h:Dds way w sm du):Gd 0 6 2 sm:=by
  rcases h with ⟨b,p,c,rfl,rfl,rfl,hc,hb,hp⟩ | ⟨k,more,rfl,hm,hk,_⟩
  · refine Gd.tup (M:=3) (fun d hd=>?_) ?_
    · rcases List.mem_cons.mp hd with rfl | hd
      · exact (big30 hb).mono (.inl rfl) (by omega) (by omega)
      · rcases List.mem_cons.mp hd with rfl | hd
        · exact (big30 hp).mono (.inl rfl) (by omega) (by omega)
        · rw [List.mem_singleton.mp hd]; exact cm_gd9 hc
    · simp [cntL,cnt]
  · exact (gd2 (big30 hk) (gInt (by omega) (by omega))).mono (.inl rfl) (by omega) (by omega)
theorem sGd {x:Str} (h:x.length ≤ 600) (ha:asc x):Gd 0 1 0 (.str x):=gd_str (by omega) ha
theorem g_told:Gd 0 1 0 (.str "told"):=sGd (by decide) (by unfold asc; decide)
theorem g_beat:Gd 0 1 0 (.str "beat"):=sGd (by decide) (by unfold asc; decide)
theorem g_comer:Gd 0 1 0 (.str "comer"):=sGd (by decide) (by unfold asc; decide)
theorem Dds.out (h:Dds way w sm du) (hw:Wz N B way) (hN:N ≤ 49) (h6:6 ≤ B) (hB:B ≤ 90):Gd 0 400 5 du ∧ ((∃ R,du = .tuple [.str "told",toldD R] ∧ Wz (N + 1) (B + 6) (wayR R)) ∨ ∃ (t:Str) (y:PyData),du = .tuple [.str t,y] ∧ decide (t = "told") = false):=by
  have key:∀ R,Rz (N + 1) (B + 6) R→du = .tuple [.str "told",toldD R]→Gd 0 400 5 du ∧ ((∃ R,du = .tuple [.str "told",toldD R] ∧ Wz (N + 1) (B + 6) (wayR R)) ∨ ∃ (t:Str) (y:PyData),du = .tuple [.str t,y] ∧ decide (t = "told") = false):=fun R hR e=>by
    refine ⟨?_,.inl ⟨R,e,hR.wz⟩⟩
    rw [e]
    exact (gd2 (g_told.mono (.inl rfl) (Nat.le_refl _) (by decide)) (told_gd hR (by omega) (by omega))).mono (.inl rfl) (by omega) (by omega)
  have h0:=rz0 hw (by omega)
  rcases h with ⟨b,p,c,rfl,rfl,e,hc,hb,hp⟩ | ⟨k,more,rfl,hm,hk,⟨rfl,e⟩ | ⟨rfl,e⟩⟩
  · unfold dueW at e
    by_cases hz:b < way.length
    · rw [if_pos hz] at e
      exact key _ ((rz_ins hw (by omega) hz hc h6).mono (Nat.le_refl _) (by omega)) e
    · rw [if_neg hz] at e
      rw [e]
      exact ⟨(gd2 g_beat (gInt (i:=0) (by decide) (by decide))).mono (.inl rfl) (by omega) (by omega),.inr ⟨_,_,rfl,by decide +kernel⟩⟩
  · unfold dueO at e
    by_cases hz:k < lens way
    · rw [if_pos hz] at e
      exact key _ ((h0.fil _).mono (by omega) (by omega)) e
    · rw [if_neg hz] at e
      rw [e]
      exact ⟨(gd2 g_comer (big30 hk)).mono (.inl rfl) (by omega) (by omega),.inr ⟨_,_,rfl,by decide +kernel⟩⟩
  · unfold dueL at e
    by_cases hz:k < lens way
    · rw [if_pos hz] at e
      exact key _ ((rz_lg hm h0).mono (by omega) (Int.le_refl _)) e
    · rw [if_neg hz] at e
      rw [e]
      exact ⟨(gd2 g_comer (big30 hk)).mono (.inl rfl) (by omega) (by omega),.inr ⟨_,_,rfl,by decide +kernel⟩⟩
theorem c30:∃ T:Nat,(1000000000000000000000000000000:Int) = (T:Int) ∧ T ≤ 10 ^ 30:=⟨1000000000000000000000000000000,rfl,by decide⟩
theorem deed_tr (hw:Wz N B way) (hN:N ≤ 50):Tr f__law_deed [.feed,.dat (.tuple (way.map btD))] 12 (fun d=>∃ w sm du,d = .tuple [.str w,sm] ∧ Dds way w sm du):=Tr.of fun F hF=>by
  have hl:=hw.len
  have hm:=hw.many
  have h3:=rows0_len way
  obtain ⟨T,eT,hT⟩:=c30
  unfold f__law_deed
  rw [eT]
  refine r_run.mpr ?_
  dsimp only [startE,List.map_cons,List.map_nil,List.length_cons,List.length_nil,List.replicate,List.cons_append,List.nil_append,Nat.reduceAdd,Nat.reduceSub]
  refine r_mSq.mpr (r_mSet.mpr (r_s2.mpr (r_sC.mpr (r_sCall.mpr (r_vF.mpr (gF_e rfl (r_vD.mpr (r_sC.mpr (r_vNil.mpr ?_)))))))))
  refine wp_draw (by decide) (by decide) (by omega) fun r F1 r0 r1 t1=>?_
  obtain ⟨wd,ewd,hwd⟩:∃ wd:Str,ixD (.list [.str "with",.str "with",.str "without",.str "longer"]) (.int r) = some (.str wd) ∧ (wd = "with" ∨ (decide (wd = "with") = false ∧ (wd = "without" ∨ wd = "longer"))):=by
    have:r = 0 ∨ r = 1 ∨ r = 2 ∨ r = 3:=by omega
    rcases this with rfl | rfl | rfl | rfl
    · exact ⟨_,rfl,.inl rfl⟩
    · exact ⟨_,rfl,.inl rfl⟩
    · exact ⟨_,rfl,.inr ⟨n1,.inl rfl⟩⟩
    · exact ⟨_,rfl,.inr ⟨n2,.inr rfl⟩⟩
  refine oB_e ewd ⟨lt_len rfl,sq_nx (r_mSq.mpr (r_mSet.mpr (r_s2.mpr (r_sCall.mpr (r_vF.mpr (gF_e rfl (r_vD.mpr (r_sC.mpr (r_vNil.mpr ?_)))))))))⟩
  refine wp_draw (by decide) (by decide) (by omega) fun r2 F2 r20 r21 t2=>r_sC.mpr (oB_e eqInt ⟨lt_len rfl,sq_nx (r_mSq.mpr (r_mIf.mpr (r_uB.mpr (r_s2.mpr (r_sW.mpr (gW_e rfl (r_sC.mpr (oB_e eqS (oB_e rfl ?_)))))))))⟩)
  generalize decide (r2 = 0) = far
  rcases hwd with rfl | ⟨hn,hwd⟩
  · refine cIf_te y1 (r_mSq.mpr (r_mSet.mpr (r_sIf.mpr (r_uT.mpr (r_sW.mpr (gW_e rfl (oB_e rfl ?_)))))))
    have key:∀ (b:Nat) (F3:FdS),b ≤ 10 ^ 30→F3.t ≤ F.t + 3→wp ((mSq (mSet 5 (s2 ixD (sLst (sCons (sCall drawS (vF 0 (vD (sC (.int 4)) vNil))) (sCons (sCall drawS (vF 0 (vD (sC (.int 6)) vNil))) (sCons (sC (.int (T:Int))) sNil)))) (sCall drawS (vF 0 (vD (sC (.int 3)) vNil)))))
      (mRt (sTup (sCons (sV 2) (sCons (sTup (sCons (sV 4) (sCons (sV 5) (sCons (sTup (sCons (sCall drawS (vF 0 (vD (sC (.int 2)) vNil))) (sCons (s2 addD (sC (.int 1)) (sCall drawS (vF 0 (vD (sC (.int 6)) vNil)))) sNil))) sNil)))) sNil)))))
      [some .feed,some (.dat (.tuple (way.map btD))),some (.dat (.str "with")),some (.dat (.bool far)),some (.dat (.int (b:Int))),none,none] F3)
      fun o F'=>∃ d,o = .rt d ∧ F'.t ≤ F.t + 12 ∧ ∃ w sm du,d = .tuple [.str w,sm] ∧ Dds way w sm du:=fun b F3 hb t3=>by
      refine r_mSq.mpr (r_mSet.mpr (r_s2.mpr (r_sLst.mpr (r_sCons.mpr (r_sCall.mpr (r_vF.mpr (gF_e rfl (r_vD.mpr (r_sC.mpr (r_vNil.mpr ?_))))))))))
      refine wp_draw (by decide) (by decide) (by omega) fun a1 F4 a10 a11 t4=>r_sCons.mpr (r_sCall.mpr (r_vF.mpr (gF_e rfl (r_vD.mpr (r_sC.mpr (r_vNil.mpr ?_))))))
      refine wp_draw (by decide) (by decide) (by omega) fun a2 F5 a20 a21 t5=>r_sCons.mpr (r_sC.mpr (r_sNil.mpr ⟨le_size rfl,r_sCall.mpr (r_vF.mpr (gF_e rfl (r_vD.mpr (r_sC.mpr (r_vNil.mpr ?_)))))⟩))
      refine wp_draw (by decide) (by decide) (by omega) fun a3 F6 a30 a31 t6=>?_
      obtain ⟨p,ep,hp⟩:∃ p:Nat,ixD (.list [.int a1,.int a2,.int (T:Int)]) (.int a3) = some (.int (p:Int)) ∧ p ≤ 10 ^ 30:=by
        have:a3 = 0 ∨ a3 = 1 ∨ a3 = 2:=by omega
        have big:(6:Nat) ≤ 10 ^ 30:=by decide
        rcases this with rfl | rfl | rfl
        · exact ⟨a1.toNat,by show some (PyData.int a1) = _; rw [Int.toNat_of_nonneg a10],by omega⟩
        · exact ⟨a2.toNat,by show some (PyData.int a2) = _; rw [Int.toNat_of_nonneg a20],by omega⟩
        · exact ⟨T,rfl,hT⟩
      refine oB_e ep ⟨lt_len rfl,sq_nx (r_mRt.mpr (r_sTup.mpr (r_sCons.mpr (r_sV.mpr (gD_e rfl (r_sCons.mpr (r_sTup.mpr (r_sCons.mpr (r_sV.mpr (gD_e rfl (r_sCons.mpr (r_sV.mpr (gD_e rfl (r_sCons.mpr (r_sTup.mpr (r_sCons.mpr (r_sCall.mpr (r_vF.mpr (gF_e rfl (r_vD.mpr (r_sC.mpr (r_vNil.mpr ?_))))))))))))))))))))))⟩
      refine wp_draw (by decide) (by decide) (by omega) fun c1 F7 c10 c11 t7=>r_sCons.mpr (r_s2.mpr (r_sC.mpr (r_sCall.mpr (r_vF.mpr (gF_e rfl (r_vD.mpr (r_sC.mpr (r_vNil.mpr ?_))))))))
      refine wp_draw (by decide) (by decide) (by omega) fun c2 F8 c20 c21 t8=>oB_e e_addI (r_sNil.mpr ⟨le_size rfl,r_sNil.mpr ⟨le_size rfl,r_sNil.mpr ⟨le_size rfl,?_⟩⟩⟩)
      exact ⟨_,rfl,by omega,_,_,_,rfl,.inl ⟨b,p,(c1,1 + c2),rfl,rfl,rfl,⟨c10,by show c1 ≤ 1; omega,by show 1 ≤ 1 + c2; omega,by show 1 + c2 ≤ 6; omega⟩,hb,hp⟩⟩
    cases far with
    | true =>
      refine cIf_te rfl (r_sC.mpr ⟨lt_len rfl,sq_nx (wp_mono (key T F2 hT (by omega)) ?_)⟩)
      rintro o F' ⟨d,rfl,h⟩
      exact sq_rt (run_rt h)
    | false =>
      refine cIf_fe rfl (r_sCall.mpr (r_vF.mpr (gF_e rfl (r_vD.mpr (r_s2.mpr (r_sN.mpr (r_sCons.mpr (r_sW.mpr (gW_e rfl (r_sNil.mpr (oB_e e_lenT (r_sC.mpr (oB_e e_addI (r_vNil.mpr ?_))))))))))))))
      rw [List.length_map]
      refine wp_draw (by omega) (by omega) (by omega) fun a F3 a0 a1 t3=>⟨lt_len rfl,sq_nx ?_⟩
      obtain ⟨b,rfl⟩:∃ b:Nat,a = (b:Int):=⟨a.toNat,by omega⟩
      have big:(100:Nat) ≤ 10 ^ 30:=by decide
      refine wp_mono (key b F3 (by omega) (by omega)) ?_
      rintro o F' ⟨d,rfl,h⟩
      exact sq_rt (run_rt h)
  · refine cIf_fe hn (r_mNx.mpr (sq_nx (r_mSq.mpr (r_mSet.mpr (r_sIf.mpr (r_uT.mpr (r_sW.mpr (gW_e rfl (oB_e rfl ?_)))))))))
    have key:∀ (k:Nat) (F3:FdS),k ≤ 10 ^ 30→F3.t ≤ F.t + 3→wp ((mRt (sTup (sCons (sV 2) (sCons (sTup (sCons (sV 6) (sCons (sCall drawS (vF 0 (vD (sC (.int 7)) vNil))) sNil))) sNil))))
      [some .feed,some (.dat (.tuple (way.map btD))),some (.dat (.str wd)),some (.dat (.bool far)),none,none,some (.dat (.int (k:Int)))] F3)
      (runK fun d F'=>F'.t ≤ F.t + 12 ∧ ∃ w sm du,d = .tuple [.str w,sm] ∧ Dds way w sm du):=fun k F3 hk t3=>by
      refine r_mRt.mpr (r_sTup.mpr (r_sCons.mpr (r_sV.mpr (gD_e rfl (r_sCons.mpr (r_sTup.mpr (r_sCons.mpr (r_sV.mpr (gD_e rfl (r_sCons.mpr (r_sCall.mpr (r_vF.mpr (gF_e rfl (r_vD.mpr (r_sC.mpr (r_vNil.mpr ?_))))))))))))))))
      refine wp_draw (by decide) (by decide) (by omega) fun m F4 m0 m1 t4=>r_sNil.mpr ⟨le_size rfl,r_sNil.mpr ⟨le_size rfl,run_rt ⟨by omega,?_⟩⟩⟩
      rcases hwd with rfl | rfl
      · exact ⟨_,_,_,rfl,.inr ⟨k,m,rfl,⟨m0,by omega⟩,hk,.inl ⟨rfl,rfl⟩⟩⟩
      · exact ⟨_,_,_,rfl,.inr ⟨k,m,rfl,⟨m0,by omega⟩,hk,.inr ⟨rfl,rfl⟩⟩⟩
    cases far with
    | true=>exact cIf_te rfl (r_sC.mpr ⟨lt_len rfl,sq_nx (key T F2 hT (by omega))⟩)
    | false =>
      refine cIf_fe rfl (r_sCall.mpr (r_vF.mpr (gF_e rfl (r_vD.mpr (r_s2.mpr (r_sN.mpr (r_sCons.mpr (r_sCall.mpr (r_vD.mpr (r_sV.mpr (gD_e rfl (r_vNil.mpr (flat_w hw hN (r_sNil.mpr (oB_e e_lenL (r_sC.mpr (oB_e e_addI (r_vNil.mpr ?_))))))))))))))))))
      rw [List.length_map,flO_len,h3]
      refine wp_draw (by omega) (by omega) (by omega) fun a F3 a0 a1 t3=>⟨lt_len rfl,sq_nx ?_⟩
      obtain ⟨b,rfl⟩:∃ b:Nat,a = (b:Int):=⟨a.toNat,by omega⟩
      have big:(100:Nat) ≤ 10 ^ 30:=by decide
      exact key b F3 (by omega) (by omega)
theorem eqSs {x:Str}:eqD false (.str x) (.str x) = some (.bool true):=by rw [eqS,y1]
theorem neSs {x:Str}:eqD true (.str x) (.str x) = some (.bool false):=by
  show some (PyData.bool (if true = true then !decide (x = x) else decide (x = x))) = _
  rw [if_pos rfl,y1]
  rfl
theorem right_w (hw:Wz N B way) (hN:N ≤ 50) (hB:B ≤ 100) (q:Q (.bool true) F):wp (f__law_front_right [.dat (.tuple (way.map btD))] F) Q:=by
  have hm:=hw.many
  have h3:=rows0_len way
  have g1:=(wz_gd hw hN hB).repr (by decide) (by decide) (by decide)
  have g2:=(told_gd ((rz0 hw hN).fil fun e=>decide (e.1.1 = 0)) hN hB).repr (by decide) (by decide) (by decide)
  unfold f__law_front_right
  refine r_run.mpr ?_
  dsimp only [startE,List.map_cons,List.map_nil,List.length_cons,List.length_nil,List.replicate,List.cons_append,List.nil_append,Nat.reduceAdd,Nat.reduceSub]
  refine r_mSq.mpr (r_mSet.mpr (r_sN.mpr (r_sCons.mpr (r_sW.mpr (gW_e rfl (r_sNil.mpr (oB_e (rep_e g1) ⟨lt_len rfl,sq_nx ?_⟩)))))))
  refine r_mSq.mpr (r_mSet.mpr (r_sN.mpr (r_sCons.mpr (r_sCall.mpr (r_vD.mpr (r_sLC.mpr (r_mSeq.mpr (r_sCall.mpr (r_vD.mpr (r_sV.mpr (gD_e rfl (r_vNil.mpr (flat_w hw hN (oB_e e_seqL ⟨sz (by rw [List.length_map,flO_len]; omega),?_⟩))))))))))))))
  refine lcf1 (x:=feD) (f:=feD) (g:=fun x=>decide (x.2.1.1 = 0)) _ _ _ (fun x _ F Q q=>?_) (fun x _ F Q q=>r_sV.mpr (gD_e rfl q)) (r_vD.mpr (r_sN.mpr (r_sCons.mpr (r_sW.mpr (gW_e rfl (r_sNil.mpr (oB_e e_lenT (r_vNil.mpr ?_))))))))
  · exact r_uB.mpr (r_s2.mpr (r_s2.mpr (r_s2.mpr (r_sW.mpr (gW_e rfl (r_sC.mpr (oB_e rfl (r_sC.mpr (oB_e rfl (r_sC.mpr (oB_e eqInt (oB_e rfl q))))))))))))
  have er:=flO_filter (fun e=>decide (e.1.1 = 0)) (rows0 way way.length) 0
  have el:(fronR way).length = way.length:=by rw [List.length_map,List.length_map,List.length_range]
  rw [er,List.length_map]
  refine built_n (R:=fronR way) ((rw0 hw).fil _) (by omega) el (r_sNil.mpr (oB_e (rep_e g2) ⟨lt_len rfl,sq_nx ?_⟩))
  refine r_mRt.mpr (r_sAnd.mpr (r_s2.mpr (r_sLC.mpr (r_mRng1.mpr (r_sCons.mpr (r_sC.mpr (r_sNil.mpr (oB_e (rng1_n (n:=2) (by decide)) ⟨sz (by decide),?_⟩))))))))
  refine lcm1 (x:=fun i:Nat=>.int (i:Int)) (f:=fun _=>.str (toldD (fronR way)).shown) _ _ (fun b hb F Q q=>?_) ?_
  · exact r_sN.mpr (r_sCons.mpr (r_sCall.mpr (r_vD.mpr (r_sV.mpr (gD_e rfl (r_vNil.mpr (front_w hw hN (r_sNil.mpr (oB_e (rep_e g2) q)))))))))
  refine r_sLst.mpr (r_sCons.mpr (r_sV.mpr (gD_e rfl (r_sCons.mpr (r_sV.mpr (gD_e rfl (r_sNil.mpr ⟨le_size rfl,oB_e (texts_same (told_num (fronR way)) 2) (oB_e rfl (cIf_te rfl ?_))⟩)))))))
  exact r_s2.mpr (r_sN.mpr (r_sCons.mpr (r_sW.mpr (gW_e rfl (r_sNil.mpr (oB_e (rep_e g1) (r_sW.mpr (gW_e rfl (oB_e eqSs (run_rt q))))))))))
end
theorem way_is:f__law_way = c_wayN nmB:=rfl
section
variable {F:FdS} {way:List Bt} {N:Nat} {B:Int}
noncomputable abbrev wD (way:List Bt):Option DV:=some (.dat (.tuple (way.map btD)))
theorem turn_w {a0 a2 a4 a5 a6 a7 a8 a9:Option DV} (hw:Wz N B way) (hN:N ≤ 49) (h6:6 ≤ B) (hB:B ≤ 90) (hF:F.t + 12 ≤ 199999) {Q:Out→FdS→Prop}
    (q:∀ (way':List Bt) (F':FdS) (b5 b6 b7 b8 b9:Option DV),Wz (N + 1) (B + 6) way'→F'.t ≤ F.t + 12→Q (.nx [a0,some .feed,a2,wD way',a4,b5,b6,b7,b8,b9]) F') :
    wp ((mSq m_law_1_1_0 (mSq m_law_1_1_1 (mSq m_law_1_1_2 (mSq m_law_1_1_3 (mSq m_law_1_1_4 m_law_1_1_5))))) [a0,some .feed,a2,wD way,a4,a5,a6,a7,a8,a9] F) Q:=by
  refine r_mSq.mpr ?_
  unfold m_law_1_1_0
  refine r_mAsg.mpr (r_sCall.mpr (r_vF.mpr (gF_e rfl (r_vD.mpr (r_sV.mpr (gD_e rfl (r_vNil.mpr ?_)))))))
  refine (deed_tr hw (by omega)).wp hF fun d F1 t1 hd=>?_
  obtain ⟨w,sm,du,rfl,hd⟩:=hd
  obtain ⟨gdu,hdu⟩:=hd.out hw hN h6 hB
  have g1:=(gd2 (wz_gd hw (by omega) (by omega)) (hd.gd.mono (.inl rfl) (Nat.le_refl _) (by decide))).repr (by decide) (by decide) (by decide)
  have g2:=gdu.repr (by decide) (by decide) (by decide)
  refine oB_e rfl (sq_nx (r_mSq.mpr ?_))
  unfold m_law_1_1_1
  refine r_mSet.mpr (r_sN.mpr (r_sCons.mpr (r_sTup.mpr (r_sCons.mpr (r_sV.mpr (gD_e rfl (r_sCons.mpr (r_sV.mpr (gD_e rfl (r_sNil.mpr ⟨le_size rfl,r_sNil.mpr (oB_e (rep_e g1) ⟨lt_len rfl,sq_nx (r_mSq.mpr ?_)⟩)⟩))))))))))
  unfold m_law_1_1_2
  refine r_mSet.mpr (r_sCall.mpr (r_vD.mpr (r_sV.mpr (gD_e rfl (r_vD.mpr (r_sV.mpr (gD_e rfl (r_vD.mpr (r_sV.mpr (gD_e rfl (r_vNil.mpr (hd.due hw (by omega) ⟨lt_len rfl,sq_nx (r_mSq.mpr ?_)⟩))))))))))))
  unfold m_law_1_1_3
  refine r_mFor.mpr (r_mRng1.mpr (r_sCons.mpr (r_sC.mpr (r_sNil.mpr (oB_e (rng1_n (n:=2) (by decide)) ?_)))))
  refine for_inv (fun m E F'=>F' = F1 ∧ ∃ o9,E = [a0,some .feed,a2,wD way,a4,some (.dat (.str w)),some (.dat sm),some (.dat (.str (PyData.tuple [.tuple (way.map btD),sm]).shown)),some (.dat du),o9]) _ 0 _ F1 ⟨rfl,_,rfl⟩ ?_ ?_
  · rintro m d e E F2 ⟨rfl,o9,rfl⟩
    refine ⟨_,rfl,?_⟩
    refine r_mIf.mpr (r_uOr.mpr (r_uB.mpr (r_s2.mpr (r_sN.mpr (r_sCons.mpr (r_sCall.mpr (r_vD.mpr (r_sV.mpr (gD_e rfl (r_vD.mpr (r_sV.mpr (gD_e rfl (r_vD.mpr (r_sV.mpr (gD_e rfl (r_vNil.mpr (hd.told hw (by omega) ?_)))))))))))))))))
    refine r_sNil.mpr (oB_e (rep_e g2) (r_sN.mpr (r_sCons.mpr (r_sW.mpr (gW_e rfl (r_sNil.mpr (oB_e (rep_e g2) (oB_e neSs (oB_e rfl (cIf_fe rfl ?_))))))))))
    exact r_uB.mpr (r_s2.mpr (r_sN.mpr (r_sCons.mpr (r_sTup.mpr (r_sCons.mpr (r_sV.mpr (gD_e rfl (r_sCons.mpr (r_sV.mpr (gD_e rfl (r_sNil.mpr ⟨le_size rfl,r_sNil.mpr (oB_e (rep_e g1) (r_sW.mpr (gW_e rfl (oB_e neSs (oB_e rfl (cIf_fe rfl (r_mNx.mpr ⟨_,rfl,rfl,_,rfl⟩)))))))⟩)))))))))))
  rintro E F2 ⟨rfl,o9,rfl⟩
  refine sq_nx (r_mSq.mpr ?_)
  unfold m_law_1_1_4
  refine r_mIf.mpr (r_uNot.mpr (r_uT.mpr (r_sCall.mpr (r_vD.mpr (r_sV.mpr (gD_e rfl (r_vNil.mpr (right_w hw (by omega) (by omega) (oB_e rfl (cIf_fe rfl (r_mNx.mpr (sq_nx ?_))))))))))))
  unfold m_law_1_1_5
  rcases hdu with ⟨R,rfl,hR⟩ | ⟨t,y,rfl,ht⟩
  · exact r_mIf.mpr (r_uB.mpr (r_s2.mpr (r_s2.mpr (r_sW.mpr (gW_e rfl (r_sC.mpr (oB_e rfl (r_sC.mpr (oB_e eqSs (oB_e rfl (cIf_te rfl (r_mSet.mpr (r_s2.mpr (r_s2.mpr (r_sW.mpr (gW_e rfl (r_sC.mpr (oB_e rfl (r_sC.mpr (oB_e rfl ⟨lt_len rfl,q _ _ _ _ _ _ _ hR t1⟩))))))))))))))))))))
  · have hw':Wz (N + 1) (B + 6) way:=⟨hw.len,by have:=hw.many; omega,fun b hb c hc=>by obtain ⟨c1,c2,c3,c4⟩:=hw.ok b hb c hc; exact ⟨c1,c2,c3,by omega⟩⟩
    exact r_mIf.mpr (r_uB.mpr (r_s2.mpr (r_s2.mpr (r_sW.mpr (gW_e rfl (r_sC.mpr (oB_e rfl (r_sC.mpr (oB_e eqS (oB_e rfl (cIf_fe ht (r_mNx.mpr (q _ _ _ _ _ _ _ hw' t1)))))))))))))
end
theorem fin (ns:List Int):∃ F',m_law ([none,some .feed] ++ List.replicate 8 none) (newF ns) = some (.rt (.bool true),F'):=by
  have key:wp (m_law ([none,some .feed] ++ List.replicate 8 none) (newF ns)) fun o _=>o = .rt (.bool true):=by
    have h0:(newF ns).t = 0:=rfl
    unfold m_law
    refine r_mSq.mpr ?_
    unfold m_law_1
    refine r_mFor.mpr (r_mRng1.mpr (r_sCons.mpr (r_sC.mpr (r_sNil.mpr (oB_e (rng1_n (n:=4) (by decide)) ?_)))))
    refine for_inv (fun m E F'=>F'.t ≤ 200 * m ∧ ∃ (a2 a3 a4 a5 a6 a7 a8 a9:Option DV),E = [none,some .feed,a2,a3,a4,a5,a6,a7,a8,a9]) _ 0 _ (newF ns) ⟨by omega,_,_,_,_,_,_,_,_,rfl⟩ ?_ ?_
    · rintro m d e E F1 ⟨ht,a2,a3,a4,a5,a6,a7,a8,a9,rfl⟩
      rw [Nat.zero_add] at *
      obtain ⟨hm,rfl⟩:=rng_get (f:=fun i:Nat=>PyData.int (i:Int)) e
      refine ⟨_,rfl,r_mSq.mpr ?_⟩
      unfold m_law_1_0
      rw [way_is]
      refine r_mSet.mpr (r_sCall.mpr (r_vF.mpr (gF_e rfl (r_vD.mpr (r_s2.mpr (r_sC.mpr (r_sCall.mpr (r_vF.mpr (gF_e rfl (r_vD.mpr (r_sC.mpr (r_vNil.mpr ?_))))))))))))
      refine wp_draw (by decide) (by decide) (by omega) fun r F2 r0 r1 t2=>?_
      obtain ⟨n,en,hn⟩:∃ n:Nat,ixD (.list [.int 3,.int 8,.int 14]) (.int r) = some (.int (n:Int)) ∧ n ≤ 14:=by
        have:r = 0 ∨ r = 1 ∨ r = 2:=by omega
        rcases this with rfl | rfl | rfl
        · exact ⟨3,rfl,by decide⟩
        · exact ⟨8,rfl,by decide⟩
        · exact ⟨14,rfl,by decide⟩
      refine oB_e en (r_vD.mpr (r_sC.mpr (r_vNil.mpr ?_)))
      refine (wayN_tr (nm:=nmB) rfl (n:=n) (w:=6) (by omega) (by decide) (by decide)).wp (by omega) fun d F3 t3 hd=>?_
      obtain ⟨way,rfl,hw⟩:=hd
      have hw0:Wz 40 6 way:=⟨by have:=hw.len; omega,hw.many,fun b hb c hc=>by obtain ⟨c1,c2,c3,c4⟩:=hw.ok b hb c hc; exact ⟨c1,c2,by omega,c4⟩⟩
      have hw00:Wz (40 + 0) (6 + 6 * ((0:Nat):Int)) way:=by rw [show (6:Int) + 6 * ((0:Nat):Int) = 6 by omega]; exact hw0
      refine ⟨lt_len rfl,sq_nx (r_mSq.mpr ?_)⟩
      unfold m_law_1_1
      refine r_mFor.mpr (r_mRng1.mpr (r_sCons.mpr (r_sC.mpr (r_sNil.mpr (oB_e (rng1_n (n:=2) (by decide)) ?_)))))
      refine for_inv (fun j E F'=>F'.t ≤ F3.t + 12 * j ∧ ∃ (way:List Bt) (a4 a5 a6 a7 a8 a9:Option DV),Wz (40 + j) (6 + 6 * j) way ∧ E = [none,some .feed,some (.dat (.int (m:Int))),wD way,a4,a5,a6,a7,a8,a9]) _ 0 _ F3 ⟨by omega,way,_,_,_,_,_,_,hw00,rfl⟩ ?_ ?_
      · rintro j d e E F4 ⟨ht4,way,a4,a5,a6,a7,a8,a9,hw,rfl⟩
        rw [Nat.zero_add] at *
        obtain ⟨hj,rfl⟩:=rng_get (f:=fun i:Nat=>PyData.int (i:Int)) e
        refine ⟨_,rfl,turn_w hw (by omega) (by omega) (by omega) (by omega) fun way' F' b5 b6 b7 b8 b9 hw' t'=>⟨_,rfl,by omega,way',_,_,_,_,_,_,?_,rfl⟩⟩
        have e1:40 + (j + 1) = 40 + j + 1:=by omega
        have e2:(6:Int) + 6 * ((j + 1:Nat):Int) = 6 + 6 * (j:Int) + 6:=by omega
        rw [e1,e2]
        exact hw'
      · rintro E F4 ⟨ht4,way,a4,a5,a6,a7,a8,a9,hw,rfl⟩
        rw [Nat.zero_add,List.length_map,List.length_range] at *
        refine sq_nx ?_
        unfold m_law_1_2
        exact r_mIf.mpr (r_uNot.mpr (r_uT.mpr (r_sCall.mpr (r_vD.mpr (r_sV.mpr (gD_e rfl (r_vNil.mpr (right_w hw (by omega) (by omega) (oB_e rfl (cIf_fe rfl (r_mNx.mpr ⟨_,rfl,by omega,_,_,_,_,_,_,_,_,rfl⟩)))))))))))
    · rintro E F1 ⟨ht,a2,a3,a4,a5,a6,a7,a8,a9,rfl⟩
      refine sq_nx ?_
      unfold m_law_2
      exact r_mRt.mpr (r_sC.mpr rfl)
  obtain ⟨o,F',e,h⟩:=key
  exact ⟨F',by rw [e,h]⟩
end K26
namespace K26
open PySem L2 L3
theorem all_mk {l:PySem.W.OpenLaw} {w:World} {K:PySem.W.Frag} {h:Heap} {mg:Str→Option Value} {fa fmany_in fnumbered ftold_way fwith_comer fcheck_comer fwithout flonger ffront_alone f_law_feed f_law_next f_law_way f_law_flat f_law_built f_law_told f_law_due f_law_deed f_law_front_right flaw:Addr} (X:K.In h) (G:h.Ns mainGlobals mg) (hfa:mg "law" = some (.ref fa))
    {odmany_in anmany_in odnumbered annumbered odtold_way antold_way odwith_comer anwith_comer odcheck_comer ancheck_comer odwithout anwithout odlonger anlonger odfront_alone anfront_alone od_law_feed an_law_feed od_law_next an_law_next od_law_way an_law_way od_law_flat an_law_flat od_law_built an_law_built od_law_told an_law_told od_law_due an_law_due od_law_deed an_law_deed od_law_front_right an_law_front_right odlaw anlaw:Option Addr} {slmany_in slnumbered sltold_way slwith_comer slcheck_comer slwithout sllonger slfront_alone sl_law_feed sl_law_next sl_law_way sl_law_flat sl_law_built sl_law_told sl_law_due sl_law_deed sl_law_front_right sllaw:Array (Option Value)} {ocmany_in kVmany_in dcmany_in pmmany_in cdmany_in ctmany_in ocnumbered kVnumbered dcnumbered pmnumbered cdnumbered ctnumbered octold_way kVtold_way dctold_way pmtold_way cdtold_way cttold_way ocwith_comer kVwith_comer dcwith_comer pmwith_comer cdwith_comer ctwith_comer occheck_comer kVcheck_comer dccheck_comer pmcheck_comer cdcheck_comer ctcheck_comer ocwithout kVwithout dcwithout pmwithout cdwithout ctwithout oclonger kVlonger dclonger pmlonger cdlonger ctlonger ocfront_alone kVfront_alone dcfront_alone pmfront_alone cdfront_alone ctfront_alone oc_law_feed kV_law_feed dc_law_feed pm_law_feed cd_law_feed ct_law_feed oc_law_next kV_law_next dc_law_next pm_law_next cd_law_next ct_law_next oc_law_way kV_law_way dc_law_way pm_law_way cd_law_way ct_law_way oc_law_flat kV_law_flat dc_law_flat pm_law_flat cd_law_flat ct_law_flat oc_law_built kV_law_built dc_law_built pm_law_built cd_law_built ct_law_built oc_law_told kV_law_told dc_law_told pm_law_told cd_law_told ct_law_told oc_law_due kV_law_due dc_law_due pm_law_due cd_law_due ct_law_due oc_law_deed kV_law_deed dc_law_deed pm_law_deed cd_law_deed ct_law_deed oc_law_front_right kV_law_front_right dc_law_front_right pm_law_front_right cd_law_front_right ct_law_front_right oclaw kVlaw dclaw pmlaw cdlaw ctlaw:Value}
    (amany_in:PySem.W.nsIn K mainGlobals "many_in" = some (some (.ref fmany_in))) (lmany_in:K.lookup fmany_in = some ⟨ocmany_in,odmany_in,.func (PySem.W.fnOf "many_in" "many_in" (defArgs s_many_in) (defBody s_many_in) (defScope s_many_in) .none kVmany_in dcmany_in pmmany_in anmany_in cdmany_in ctmany_in),slmany_in⟩) (cmany_in:PySem.W.codeIn K cdmany_in "many_in" = true) (kmany_in:PySem.W.keepIn K (.ref fmany_in) = true)
    (anumbered:PySem.W.nsIn K mainGlobals "numbered" = some (some (.ref fnumbered))) (lnumbered:K.lookup fnumbered = some ⟨ocnumbered,odnumbered,.func (PySem.W.fnOf "numbered" "numbered" (defArgs s_numbered) (defBody s_numbered) (defScope s_numbered) .none kVnumbered dcnumbered pmnumbered annumbered cdnumbered ctnumbered),slnumbered⟩) (cnumbered:PySem.W.codeIn K cdnumbered "numbered" = true) (knumbered:PySem.W.keepIn K (.ref fnumbered) = true)
    (atold_way:PySem.W.nsIn K mainGlobals "told_way" = some (some (.ref ftold_way))) (ltold_way:K.lookup ftold_way = some ⟨octold_way,odtold_way,.func (PySem.W.fnOf "told_way" "told_way" (defArgs s_told_way) (defBody s_told_way) (defScope s_told_way) .none kVtold_way dctold_way pmtold_way antold_way cdtold_way cttold_way),sltold_way⟩) (ctold_way:PySem.W.codeIn K cdtold_way "told_way" = true) (ktold_way:PySem.W.keepIn K (.ref ftold_way) = true)
    (awith_comer:PySem.W.nsIn K mainGlobals "with_comer" = some (some (.ref fwith_comer))) (lwith_comer:K.lookup fwith_comer = some ⟨ocwith_comer,odwith_comer,.func (PySem.W.fnOf "with_comer" "with_comer" (defArgs s_with_comer) (defBody s_with_comer) (defScope s_with_comer) .none kVwith_comer dcwith_comer pmwith_comer anwith_comer cdwith_comer ctwith_comer),slwith_comer⟩) (cwith_comer:PySem.W.codeIn K cdwith_comer "with_comer" = true) (kwith_comer:PySem.W.keepIn K (.ref fwith_comer) = true)
    (acheck_comer:PySem.W.nsIn K mainGlobals "check_comer" = some (some (.ref fcheck_comer))) (lcheck_comer:K.lookup fcheck_comer = some ⟨occheck_comer,odcheck_comer,.func (PySem.W.fnOf "check_comer" "check_comer" (defArgs s_check_comer) (defBody s_check_comer) (defScope s_check_comer) .none kVcheck_comer dccheck_comer pmcheck_comer ancheck_comer cdcheck_comer ctcheck_comer),slcheck_comer⟩) (ccheck_comer:PySem.W.codeIn K cdcheck_comer "check_comer" = true) (kcheck_comer:PySem.W.keepIn K (.ref fcheck_comer) = true)
    (awithout:PySem.W.nsIn K mainGlobals "without" = some (some (.ref fwithout))) (lwithout:K.lookup fwithout = some ⟨ocwithout,odwithout,.func (PySem.W.fnOf "without" "without" (defArgs s_without) (defBody s_without) (defScope s_without) .none kVwithout dcwithout pmwithout anwithout cdwithout ctwithout),slwithout⟩) (cwithout:PySem.W.codeIn K cdwithout "without" = true) (kwithout:PySem.W.keepIn K (.ref fwithout) = true)
    (alonger:PySem.W.nsIn K mainGlobals "longer" = some (some (.ref flonger))) (llonger:K.lookup flonger = some ⟨oclonger,odlonger,.func (PySem.W.fnOf "longer" "longer" (defArgs s_longer) (defBody s_longer) (defScope s_longer) .none kVlonger dclonger pmlonger anlonger cdlonger ctlonger),sllonger⟩) (clonger:PySem.W.codeIn K cdlonger "longer" = true) (klonger:PySem.W.keepIn K (.ref flonger) = true)
    (afront_alone:PySem.W.nsIn K mainGlobals "front_alone" = some (some (.ref ffront_alone))) (lfront_alone:K.lookup ffront_alone = some ⟨ocfront_alone,odfront_alone,.func (PySem.W.fnOf "front_alone" "front_alone" (defArgs s_front_alone) (defBody s_front_alone) (defScope s_front_alone) .none kVfront_alone dcfront_alone pmfront_alone anfront_alone cdfront_alone ctfront_alone),slfront_alone⟩) (cfront_alone:PySem.W.codeIn K cdfront_alone "front_alone" = true) (kfront_alone:PySem.W.keepIn K (.ref ffront_alone) = true)
    (a_law_feed:PySem.W.nsIn K mainGlobals "_law_feed" = some (some (.ref f_law_feed))) (l_law_feed:K.lookup f_law_feed = some ⟨oc_law_feed,od_law_feed,.func (PySem.W.fnOf "_law_feed" "_law_feed" (defArgs s__law_feed) (defBody s__law_feed) (defScope s__law_feed) .none kV_law_feed dc_law_feed pm_law_feed an_law_feed cd_law_feed ct_law_feed),sl_law_feed⟩) (c_law_feed:PySem.W.codeIn K cd_law_feed "_law_feed" = true) (k_law_feed:PySem.W.keepIn K (.ref f_law_feed) = true)
    (a_law_next:PySem.W.nsIn K mainGlobals "_law_next" = some (some (.ref f_law_next))) (l_law_next:K.lookup f_law_next = some ⟨oc_law_next,od_law_next,.func (PySem.W.fnOf "_law_next" "_law_next" (defArgs s__law_next) (defBody s__law_next) (defScope s__law_next) .none kV_law_next dc_law_next pm_law_next an_law_next cd_law_next ct_law_next),sl_law_next⟩) (c_law_next:PySem.W.codeIn K cd_law_next "_law_next" = true) (k_law_next:PySem.W.keepIn K (.ref f_law_next) = true)
    (a_law_way:PySem.W.nsIn K mainGlobals "_law_way" = some (some (.ref f_law_way))) (l_law_way:K.lookup f_law_way = some ⟨oc_law_way,od_law_way,.func (PySem.W.fnOf "_law_way" "_law_way" (defArgs s__law_way) (defBody s__law_way) (defScope s__law_way) .none kV_law_way dc_law_way pm_law_way an_law_way cd_law_way ct_law_way),sl_law_way⟩) (c_law_way:PySem.W.codeIn K cd_law_way "_law_way" = true) (k_law_way:PySem.W.keepIn K (.ref f_law_way) = true)
    (a_law_flat:PySem.W.nsIn K mainGlobals "_law_flat" = some (some (.ref f_law_flat))) (l_law_flat:K.lookup f_law_flat = some ⟨oc_law_flat,od_law_flat,.func (PySem.W.fnOf "_law_flat" "_law_flat" (defArgs s__law_flat) (defBody s__law_flat) (defScope s__law_flat) .none kV_law_flat dc_law_flat pm_law_flat an_law_flat cd_law_flat ct_law_flat),sl_law_flat⟩) (c_law_flat:PySem.W.codeIn K cd_law_flat "_law_flat" = true) (k_law_flat:PySem.W.keepIn K (.ref f_law_flat) = true)
    (a_law_built:PySem.W.nsIn K mainGlobals "_law_built" = some (some (.ref f_law_built))) (l_law_built:K.lookup f_law_built = some ⟨oc_law_built,od_law_built,.func (PySem.W.fnOf "_law_built" "_law_built" (defArgs s__law_built) (defBody s__law_built) (defScope s__law_built) .none kV_law_built dc_law_built pm_law_built an_law_built cd_law_built ct_law_built),sl_law_built⟩) (c_law_built:PySem.W.codeIn K cd_law_built "_law_built" = true) (k_law_built:PySem.W.keepIn K (.ref f_law_built) = true)
    (a_law_told:PySem.W.nsIn K mainGlobals "_law_told" = some (some (.ref f_law_told))) (l_law_told:K.lookup f_law_told = some ⟨oc_law_told,od_law_told,.func (PySem.W.fnOf "_law_told" "_law_told" (defArgs s__law_told) (defBody s__law_told) (defScope s__law_told) .none kV_law_told dc_law_told pm_law_told an_law_told cd_law_told ct_law_told),sl_law_told⟩) (c_law_told:PySem.W.codeIn K cd_law_told "_law_told" = true) (k_law_told:PySem.W.keepIn K (.ref f_law_told) = true)
    (a_law_due:PySem.W.nsIn K mainGlobals "_law_due" = some (some (.ref f_law_due))) (l_law_due:K.lookup f_law_due = some ⟨oc_law_due,od_law_due,.func (PySem.W.fnOf "_law_due" "_law_due" (defArgs s__law_due) (defBody s__law_due) (defScope s__law_due) .none kV_law_due dc_law_due pm_law_due an_law_due cd_law_due ct_law_due),sl_law_due⟩) (c_law_due:PySem.W.codeIn K cd_law_due "_law_due" = true) (k_law_due:PySem.W.keepIn K (.ref f_law_due) = true)
    (a_law_deed:PySem.W.nsIn K mainGlobals "_law_deed" = some (some (.ref f_law_deed))) (l_law_deed:K.lookup f_law_deed = some ⟨oc_law_deed,od_law_deed,.func (PySem.W.fnOf "_law_deed" "_law_deed" (defArgs s__law_deed) (defBody s__law_deed) (defScope s__law_deed) .none kV_law_deed dc_law_deed pm_law_deed an_law_deed cd_law_deed ct_law_deed),sl_law_deed⟩) (c_law_deed:PySem.W.codeIn K cd_law_deed "_law_deed" = true) (k_law_deed:PySem.W.keepIn K (.ref f_law_deed) = true)
    (a_law_front_right:PySem.W.nsIn K mainGlobals "_law_front_right" = some (some (.ref f_law_front_right))) (l_law_front_right:K.lookup f_law_front_right = some ⟨oc_law_front_right,od_law_front_right,.func (PySem.W.fnOf "_law_front_right" "_law_front_right" (defArgs s__law_front_right) (defBody s__law_front_right) (defScope s__law_front_right) .none kV_law_front_right dc_law_front_right pm_law_front_right an_law_front_right cd_law_front_right ct_law_front_right),sl_law_front_right⟩) (c_law_front_right:PySem.W.codeIn K cd_law_front_right "_law_front_right" = true) (k_law_front_right:PySem.W.keepIn K (.ref f_law_front_right) = true)
    (alaw:PySem.W.nsIn K mainGlobals "law" = some (some (.ref flaw))) (llaw:K.lookup flaw = some ⟨oclaw,odlaw,.func (PySem.W.fnOf "law" "law" (defArgs s_law) (defBody s_law) (defScope s_law) .none kVlaw dclaw pmlaw anlaw cdlaw ctlaw),sllaw⟩) (claw:PySem.W.codeIn K cdlaw "law" = true) (klaw:PySem.W.keepIn K (.ref flaw) = true)
    (zValueError:PySem.W.nsIn K mainGlobals "ValueError" = some none)
    (zenumerate:PySem.W.nsIn K mainGlobals "enumerate" = some none)
    (zint:PySem.W.nsIn K mainGlobals "int" = some none)
    (zisinstance:PySem.W.nsIn K mainGlobals "isinstance" = some none)
    (zlen:PySem.W.nsIn K mainGlobals "len" = some none)
    (zlist:PySem.W.nsIn K mainGlobals "list" = some none)
    (zmin:PySem.W.nsIn K mainGlobals "min" = some none)
    (zrange:PySem.W.nsIn K mainGlobals "range" = some none)
    (zrepr:PySem.W.nsIn K mainGlobals "repr" = some none)
    (zsum:PySem.W.nsIn K mainGlobals "sum" = some none)
    (ztuple:PySem.W.nsIn K mainGlobals "tuple" = some none)
    {ti_NEW} (gi_NEW:PySem.W.nsIn K mainGlobals "NEW" = some (some (Value.int (-1) ti_NEW)))
    {x_WaitError:Addr} (aE_WaitError:PySem.W.nsIn K mainGlobals "WaitError" = some (some (.ref x_WaitError)))
    {x_NoBeat:Addr} (aE_NoBeat:PySem.W.nsIn K mainGlobals "NoBeat" = some (some (.ref x_NoBeat)))
    {x_NoComer:Addr} (aE_NoComer:PySem.W.nsIn K mainGlobals "NoComer" = some (some (.ref x_NoComer)))
    {x_NoHouse:Addr} (aE_NoHouse:PySem.W.nsIn K mainGlobals "NoHouse" = some (some (.ref x_NoHouse)))
    {x_NoPaper:Addr} (aE_NoPaper:PySem.W.nsIn K mainGlobals "NoPaper" = some (some (.ref x_NoPaper)))
    {x_NoRest:Addr} (aE_NoRest:PySem.W.nsIn K mainGlobals "NoRest" = some (some (.ref x_NoRest)))
    {x_NoRow:Addr} (aE_NoRow:PySem.W.nsIn K mainGlobals "NoRow" = some (some (.ref x_NoRow)))
    {x_NoText:Addr} (aE_NoText:PySem.W.nsIn K mainGlobals "NoText" = some (some (.ref x_NoText)))
    {x_TooMany:Addr} (aE_TooMany:PySem.W.nsIn K mainGlobals "TooMany" = some (some (.ref x_TooMany)))
    {fi_NoBeat N_NoBeat:Addr} {nm_NoBeat q_NoBeat:Str} {bs_NoBeat:List Value} {hd_NoBeat sn_NoBeat sub_NoBeat ab_NoBeat col_NoBeat dd_NoBeat k0_NoBeat k1_NoBeat k2_NoBeat k3_NoBeat k5_NoBeat} {oci_NoBeat kVi_NoBeat dci_NoBeat pmi_NoBeat cdi_NoBeat cti_NoBeat:Value} {odi_NoBeat ani_NoBeat:Option Addr} {sli_NoBeat:Array (Option Value)}
    (obj_NoBeat:K.lookup x_NoBeat = some (PySem.excClassObj nm_NoBeat q_NoBeat x_NoBeat N_NoBeat bs_NoBeat (.ref x_WaitError :: L3.vMro) hd_NoBeat sn_NoBeat sub_NoBeat ab_NoBeat col_NoBeat dd_NoBeat k0_NoBeat k1_NoBeat k2_NoBeat k3_NoBeat k5_NoBeat "ValueError.__new__")) (tp_NoBeat:PySem.W.excIn K x_WaitError L3.vMro "ValueError.__new__" = true)
    (in_NoBeat:PySem.W.findIn K (.ref x_NoBeat) "__init__" = some (some (.ref fi_NoBeat))) (fn_NoBeat:PySem.W.typeIn K (.ref fi_NoBeat) = some (.type "function")) (ca_NoBeat:PySem.W.specialIn K (.ref x_NoBeat) "__call__" = some (some (.builtin "type.__call__"))) (ty_NoBeat:PySem.W.instIn K (.ref x_NoBeat) (.type "type") = some true) (kp_NoBeat:PySem.W.keepIn K (.ref x_NoBeat) = true) (di_NoBeat:PySem.W.hasDictIn K x_NoBeat = true) (sa_NoBeat:PySem.W.findIn K (.ref x_NoBeat) "__setattr__" = some (some (.builtin "object.__setattr__")))
    (li_NoBeat:K.lookup fi_NoBeat = some ⟨oci_NoBeat,odi_NoBeat,.func (PySem.W.fnOf "__init__" "NoBeat.__init__" (defArgs ini_NoBeat) (defBody ini_NoBeat) (defScope ini_NoBeat) .none kVi_NoBeat dci_NoBeat pmi_NoBeat ani_NoBeat cdi_NoBeat cti_NoBeat),sli_NoBeat⟩) (ci_NoBeat:PySem.W.codeIn K cdi_NoBeat "NoBeat.__init__" = true)
    (ga_NoBeat_:PySem.W.findIn K (.ref x_NoBeat) "__getattribute__" = some (some (.builtin "BaseException.__getattribute__"))) (gn_NoBeat:PySem.W.findIn K (.ref x_NoBeat) "__getattr__" = some none) (mb_NoBeat:PySem.W.mroIn K x_NoBeat (.type "BaseException") = some true) (mo_NoBeat:PySem.W.mroIn K x_NoBeat (.type "object") = some true) (cc_NoBeat:PySem.W.findIn K (.ref x_NoBeat) "__class__" = some (some (.builtin "object.__class__"))) (cg_NoBeat:PySem.W.specialIn K (.builtin "object.__class__") "__get__" = some (some (.builtin "getset_descriptor.__get__"))) (ct_NoBeat:PySem.W.takesIn K (.builtin "object.__class__") = some true)
    (sb_NoBeat:PySem.W.subIn K (.ref x_WaitError) (.type "BaseException") = some true) (ko_NoBeat:PySem.W.kitOne K (.ref x_NoBeat) (.ref x_WaitError) = some true) (ne_NoBeat:(Value.ref x_NoBeat == Value.ref x_WaitError) = false) (ve_NoBeat:PySem.W.kitOne K (.ref x_NoBeat) (.type "ValueError") = some true) (st_NoBeat:PySem.W.kitAny K (.ref x_NoBeat) [.ref x_NoComer,.ref x_NoHouse,.ref x_NoPaper,.ref x_NoRest,.ref x_NoRow,.ref x_NoText,.ref x_TooMany] = some false)
    {fi_NoComer N_NoComer:Addr} {nm_NoComer q_NoComer:Str} {bs_NoComer:List Value} {hd_NoComer sn_NoComer sub_NoComer ab_NoComer col_NoComer dd_NoComer k0_NoComer k1_NoComer k2_NoComer k3_NoComer k5_NoComer} {oci_NoComer kVi_NoComer dci_NoComer pmi_NoComer cdi_NoComer cti_NoComer:Value} {odi_NoComer ani_NoComer:Option Addr} {sli_NoComer:Array (Option Value)}
    (obj_NoComer:K.lookup x_NoComer = some (PySem.excClassObj nm_NoComer q_NoComer x_NoComer N_NoComer bs_NoComer (.ref x_WaitError :: L3.vMro) hd_NoComer sn_NoComer sub_NoComer ab_NoComer col_NoComer dd_NoComer k0_NoComer k1_NoComer k2_NoComer k3_NoComer k5_NoComer "ValueError.__new__")) (tp_NoComer:PySem.W.excIn K x_WaitError L3.vMro "ValueError.__new__" = true)
    (in_NoComer:PySem.W.findIn K (.ref x_NoComer) "__init__" = some (some (.ref fi_NoComer))) (fn_NoComer:PySem.W.typeIn K (.ref fi_NoComer) = some (.type "function")) (ca_NoComer:PySem.W.specialIn K (.ref x_NoComer) "__call__" = some (some (.builtin "type.__call__"))) (ty_NoComer:PySem.W.instIn K (.ref x_NoComer) (.type "type") = some true) (kp_NoComer:PySem.W.keepIn K (.ref x_NoComer) = true) (di_NoComer:PySem.W.hasDictIn K x_NoComer = true) (sa_NoComer:PySem.W.findIn K (.ref x_NoComer) "__setattr__" = some (some (.builtin "object.__setattr__")))
    (li_NoComer:K.lookup fi_NoComer = some ⟨oci_NoComer,odi_NoComer,.func (PySem.W.fnOf "__init__" "NoComer.__init__" (defArgs ini_NoComer) (defBody ini_NoComer) (defScope ini_NoComer) .none kVi_NoComer dci_NoComer pmi_NoComer ani_NoComer cdi_NoComer cti_NoComer),sli_NoComer⟩) (ci_NoComer:PySem.W.codeIn K cdi_NoComer "NoComer.__init__" = true)
    (ga_NoComer_:PySem.W.findIn K (.ref x_NoComer) "__getattribute__" = some (some (.builtin "BaseException.__getattribute__"))) (gn_NoComer:PySem.W.findIn K (.ref x_NoComer) "__getattr__" = some none) (mb_NoComer:PySem.W.mroIn K x_NoComer (.type "BaseException") = some true) (mo_NoComer:PySem.W.mroIn K x_NoComer (.type "object") = some true) (cc_NoComer:PySem.W.findIn K (.ref x_NoComer) "__class__" = some (some (.builtin "object.__class__"))) (cg_NoComer:PySem.W.specialIn K (.builtin "object.__class__") "__get__" = some (some (.builtin "getset_descriptor.__get__"))) (ct_NoComer:PySem.W.takesIn K (.builtin "object.__class__") = some true)
    (sb_NoComer:PySem.W.subIn K (.ref x_WaitError) (.type "BaseException") = some true) (ko_NoComer:PySem.W.kitOne K (.ref x_NoComer) (.ref x_WaitError) = some true) (ne_NoComer:(Value.ref x_NoComer == Value.ref x_WaitError) = false) (ve_NoComer:PySem.W.kitOne K (.ref x_NoComer) (.type "ValueError") = some true) (st_NoComer:PySem.W.kitAny K (.ref x_NoComer) [.ref x_NoBeat,.ref x_NoHouse,.ref x_NoPaper,.ref x_NoRest,.ref x_NoRow,.ref x_NoText,.ref x_TooMany] = some false)
    (na_NoComer_number:PySem.W.findIn K (.ref x_NoComer) "number" = some none)
    (hnd0:decide (((L3.tabsK ([]:List Str) K).map (·.2.2)).Nodup) = true)
   :∃ fd:FuncData,(∀ (s:Shared) (v:Value),BindsTo s fd ⟨[v],[]⟩ [("_law_script",v)]) ∧ ∀ base:Heap,K.In base→base.Ns mainGlobals mg→BMd base mg→(∀ t ∈ L3.tabsK ([]:List Str) K,PySem.W.CodeHd base t.2.1 t.2.2)→FnOk l.prog w K mg base CX0 6 fa fd ["_law_script"] (spLaw K):=by
  have hnd:(L3.tabP K).Nodup:=of_decide_eq_true hnd0
  have e:=hfa.symm.trans (PySem.W.mg_of X G alaw)
  cases e
  have na_NoBeat:∀ p ∈ L3.psT "NoBeat",PySem.W.findIn K (.ref x_NoBeat) p = some none:=by
    intro p hp
    have hp:p ∈ ([]:List Str):=hp
    cases hp
  have na_NoComer:∀ p ∈ L3.psT "NoComer",PySem.W.findIn K (.ref x_NoComer) p = some none:=by
    intro p hp
    have hp:p ∈ (["number"]:List Str):=hp
    simp only [List.mem_cons,List.not_mem_nil,or_false] at hp
    rcases hp with rfl
    · exact na_NoComer_number
  have T:Txt K mg:=⟨PySem.W.mg_none_of X G zValueError,PySem.W.mg_none_of X G zenumerate,PySem.W.mg_none_of X G zint,PySem.W.mg_none_of X G zisinstance,PySem.W.mg_none_of X G zlen,PySem.W.mg_none_of X G zlist,PySem.W.mg_none_of X G zmin,PySem.W.mg_none_of X G zrange,PySem.W.mg_none_of X G zrepr,PySem.W.mg_none_of X G zsum,PySem.W.mg_none_of X G ztuple,⟨_,PySem.W.mg_of X G gi_NEW⟩,⟨x_WaitError,x_NoBeat,fi_NoBeat,[x_NoComer,x_NoHouse,x_NoPaper,x_NoRest,x_NoRow,x_NoText,x_TooMany],PySem.W.mg_of X G aE_WaitError,⟨_,_,rfl,PySem.W.mg_of X G aE_NoComer,_,_,rfl,PySem.W.mg_of X G aE_NoHouse,_,_,rfl,PySem.W.mg_of X G aE_NoPaper,_,_,rfl,PySem.W.mg_of X G aE_NoRest,_,_,rfl,PySem.W.mg_of X G aE_NoRow,_,_,rfl,PySem.W.mg_of X G aE_NoText,_,_,rfl,PySem.W.mg_of X G aE_TooMany,rfl⟩,L3.ecls_mk obj_NoBeat tp_NoBeat in_NoBeat fn_NoBeat ca_NoBeat ty_NoBeat kp_NoBeat di_NoBeat sa_NoBeat,L3.eini_mk it_NoBeat li_NoBeat ci_NoBeat na_NoBeat,L3.efit_mk (PySem.W.mg_of X G aE_NoBeat) di_NoBeat ga_NoBeat_ gn_NoBeat mb_NoBeat mo_NoBeat cc_NoBeat cg_NoBeat ct_NoBeat sb_NoBeat ko_NoBeat ne_NoBeat ve_NoBeat st_NoBeat na_NoBeat⟩,⟨x_WaitError,x_NoComer,fi_NoComer,[x_NoBeat,x_NoHouse,x_NoPaper,x_NoRest,x_NoRow,x_NoText,x_TooMany],PySem.W.mg_of X G aE_WaitError,⟨_,_,rfl,PySem.W.mg_of X G aE_NoBeat,_,_,rfl,PySem.W.mg_of X G aE_NoHouse,_,_,rfl,PySem.W.mg_of X G aE_NoPaper,_,_,rfl,PySem.W.mg_of X G aE_NoRest,_,_,rfl,PySem.W.mg_of X G aE_NoRow,_,_,rfl,PySem.W.mg_of X G aE_NoText,_,_,rfl,PySem.W.mg_of X G aE_TooMany,rfl⟩,L3.ecls_mk obj_NoComer tp_NoComer in_NoComer fn_NoComer ca_NoComer ty_NoComer kp_NoComer di_NoComer sa_NoComer,L3.eini_mk it_NoComer li_NoComer ci_NoComer na_NoComer,L3.efit_mk (PySem.W.mg_of X G aE_NoComer) di_NoComer ga_NoComer_ gn_NoComer mb_NoComer mo_NoComer cc_NoComer cg_NoComer ct_NoComer sb_NoComer ko_NoComer ne_NoComer ve_NoComer st_NoComer na_NoComer⟩⟩
  have Fmany_in:=fun_mk (st:=s_many_in) lmany_in cmany_in kmany_in
  have bmany_in:=Fmany_in.binds (ps:=["way"]) fun _ _ _ _ _ _ us hl=>by
    obtain ⟨z0,rfl⟩:=L3.len_1 hl
    rfl
  have mmany_in:=PySem.W.mg_of X G amany_in
  have Fnumbered:=fun_mk (st:=s_numbered) lnumbered cnumbered knumbered
  have bnumbered:=Fnumbered.binds (ps:=["way"]) fun _ _ _ _ _ _ us hl=>by
    obtain ⟨z0,rfl⟩:=L3.len_1 hl
    rfl
  have mnumbered:=PySem.W.mg_of X G anumbered
  have Ftold_way:=fun_mk (st:=s_told_way) ltold_way ctold_way ktold_way
  have btold_way:=Ftold_way.binds (ps:=["rows"]) fun _ _ _ _ _ _ us hl=>by
    obtain ⟨z0,rfl⟩:=L3.len_1 hl
    rfl
  have mtold_way:=PySem.W.mg_of X G atold_way
  have Fwith_comer:=fun_mk (st:=s_with_comer) lwith_comer cwith_comer kwith_comer
  have bwith_comer:=Fwith_comer.binds (ps:=["way","beat","place","comer"]) fun _ _ _ _ _ _ us hl=>by
    obtain ⟨z0,z1,z2,z3,rfl⟩:=L3.len_4 hl
    rfl
  have mwith_comer:=PySem.W.mg_of X G awith_comer
  have Fcheck_comer:=fun_mk (st:=s_check_comer) lcheck_comer ccheck_comer kcheck_comer
  have bcheck_comer:=Fcheck_comer.binds (ps:=["way","number"]) fun _ _ _ _ _ _ us hl=>by
    obtain ⟨z0,z1,rfl⟩:=L3.len_2 hl
    rfl
  have mcheck_comer:=PySem.W.mg_of X G acheck_comer
  have Fwithout:=fun_mk (st:=s_without) lwithout cwithout kwithout
  have bwithout:=Fwithout.binds (ps:=["way","number"]) fun _ _ _ _ _ _ us hl=>by
    obtain ⟨z0,z1,rfl⟩:=L3.len_2 hl
    rfl
  have mwithout:=PySem.W.mg_of X G awithout
  have Flonger:=fun_mk (st:=s_longer) llonger clonger klonger
  have blonger:=Flonger.binds (ps:=["way","number","more"]) fun _ _ _ _ _ _ us hl=>by
    obtain ⟨z0,z1,z2,rfl⟩:=L3.len_3 hl
    rfl
  have mlonger:=PySem.W.mg_of X G alonger
  have Ffront_alone:=fun_mk (st:=s_front_alone) lfront_alone cfront_alone kfront_alone
  have bfront_alone:=Ffront_alone.binds (ps:=["way"]) fun _ _ _ _ _ _ us hl=>by
    obtain ⟨z0,rfl⟩:=L3.len_1 hl
    rfl
  have mfront_alone:=PySem.W.mg_of X G afront_alone
  have F_law_feed:=fun_mk (st:=s__law_feed) l_law_feed c_law_feed k_law_feed
  have b_law_feed:=F_law_feed.binds (ps:=["_law_script"]) fun _ _ _ _ _ _ us hl=>by
    obtain ⟨z0,rfl⟩:=L3.len_1 hl
    rfl
  have m_law_feed:=PySem.W.mg_of X G a_law_feed
  have F_law_next:=fun_mk (st:=s__law_next) l_law_next c_law_next k_law_next
  have b_law_next:=F_law_next.binds (ps:=["_law_feed_here","_law_many"]) fun _ _ _ _ _ _ us hl=>by
    obtain ⟨z0,z1,rfl⟩:=L3.len_2 hl
    rfl
  have m_law_next:=PySem.W.mg_of X G a_law_next
  have F_law_way:=fun_mk (st:=s__law_way) l_law_way c_law_way k_law_way
  have b_law_way:=F_law_way.binds (ps:=["_law_feed_here","_law_beats","_law_works"]) fun _ _ _ _ _ _ us hl=>by
    obtain ⟨z0,z1,z2,rfl⟩:=L3.len_3 hl
    rfl
  have m_law_way:=PySem.W.mg_of X G a_law_way
  have F_law_flat:=fun_mk (st:=s__law_flat) l_law_flat c_law_flat k_law_flat
  have b_law_flat:=F_law_flat.binds (ps:=["_law_way_here"]) fun _ _ _ _ _ _ us hl=>by
    obtain ⟨z0,rfl⟩:=L3.len_1 hl
    rfl
  have m_law_flat:=PySem.W.mg_of X G a_law_flat
  have F_law_built:=fun_mk (st:=s__law_built) l_law_built c_law_built k_law_built
  have b_law_built:=F_law_built.binds (ps:=["_law_rows","_law_many"]) fun _ _ _ _ _ _ us hl=>by
    obtain ⟨z0,z1,rfl⟩:=L3.len_2 hl
    rfl
  have m_law_built:=PySem.W.mg_of X G a_law_built
  have F_law_told:=fun_mk (st:=s__law_told) l_law_told c_law_told k_law_told
  have b_law_told:=F_law_told.binds (ps:=["_law_deed_here","_law_way_here","_law_some"]) fun _ _ _ _ _ _ us hl=>by
    obtain ⟨z0,z1,z2,rfl⟩:=L3.len_3 hl
    rfl
  have m_law_told:=PySem.W.mg_of X G a_law_told
  have F_law_due:=fun_mk (st:=s__law_due) l_law_due c_law_due k_law_due
  have b_law_due:=F_law_due.binds (ps:=["_law_deed_here","_law_way_here","_law_some"]) fun _ _ _ _ _ _ us hl=>by
    obtain ⟨z0,z1,z2,rfl⟩:=L3.len_3 hl
    rfl
  have m_law_due:=PySem.W.mg_of X G a_law_due
  have F_law_deed:=fun_mk (st:=s__law_deed) l_law_deed c_law_deed k_law_deed
  have b_law_deed:=F_law_deed.binds (ps:=["_law_feed_here","_law_way_here"]) fun _ _ _ _ _ _ us hl=>by
    obtain ⟨z0,z1,rfl⟩:=L3.len_2 hl
    rfl
  have m_law_deed:=PySem.W.mg_of X G a_law_deed
  have F_law_front_right:=fun_mk (st:=s__law_front_right) l_law_front_right c_law_front_right k_law_front_right
  have b_law_front_right:=F_law_front_right.binds (ps:=["_law_way_here"]) fun _ _ _ _ _ _ us hl=>by
    obtain ⟨z0,rfl⟩:=L3.len_1 hl
    rfl
  have m_law_front_right:=PySem.W.mg_of X G a_law_front_right
  have Flaw:=fun_mk (st:=s_law) llaw claw klaw
  have blaw:=Flaw.binds (ps:=["_law_script"]) fun _ _ _ _ _ _ us hl=>by
    obtain ⟨z0,rfl⟩:=L3.len_1 hl
    rfl
  have mlaw:=PySem.W.mg_of X G alaw
  refine ⟨PySem.W.fnOf "law" "law" (defArgs s_law) (defBody s_law) (defScope s_law) .none kVlaw dclaw pmlaw anlaw cdlaw ctlaw,fun s v=>.of_eq rfl,fun base _ _ BM hC=>?_⟩
  have C_many_in:Callee l.prog w K mg base "many_in" 1 ["way"] (spD K 1 f_many_in):=⟨_,_,ok_many_in Fmany_in T ,mmany_in,Fmany_in.kp,bmany_in⟩
  have CG_numbered:Callee l.prog w K mg base "numbered" 1 ["way"] (spG K 1 fG_numbered):=⟨_,_,okG_numbered Fnumbered T ,mnumbered,Fnumbered.kp,bnumbered⟩
  have C_numbered:Callee l.prog w K mg base "numbered" 1 ["way"] (spD K 1 f_numbered):=⟨_,_,ok_numbered Fnumbered T ,mnumbered,Fnumbered.kp,bnumbered⟩
  have C_told_way:Callee l.prog w K mg base "told_way" 1 ["rows"] (spD K 1 f_told_way):=⟨_,_,ok_told_way Ftold_way T ,mtold_way,Ftold_way.kp,btold_way⟩
  have C_with_comer:CalleeX l.prog w K mg base "with_comer" 3 ["way","beat","place","comer"] (spX K mg 4 f_with_comer):=⟨_,_,ok_with_comer Fwith_comer T CG_numbered C_told_way,mwith_comer,Fwith_comer.kp,bwith_comer⟩
  have C_check_comer:CalleeX l.prog w K mg base "check_comer" 3 ["way","number"] (spX K mg 2 f_check_comer):=⟨_,_,ok_check_comer Fcheck_comer T C_many_in,mcheck_comer,Fcheck_comer.kp,bcheck_comer⟩
  have C_without:CalleeX l.prog w K mg base "without" 4 ["way","number"] (spX K mg 2 f_without):=⟨_,_,ok_without Fwithout T C_check_comer C_told_way C_numbered,mwithout,Fwithout.kp,bwithout⟩
  have C_longer:CalleeX l.prog w K mg base "longer" 4 ["way","number","more"] (spX K mg 3 f_longer):=⟨_,_,ok_longer Flonger T C_check_comer C_numbered C_told_way,mlonger,Flonger.kp,blonger⟩
  have C_front_alone:Callee l.prog w K mg base "front_alone" 2 ["way"] (spD K 1 f_front_alone):=⟨_,_,ok_front_alone Ffront_alone T C_told_way C_numbered,mfront_alone,Ffront_alone.kp,bfront_alone⟩
  have C__law_feed:Callee l.prog w K mg base "_law_feed" 1 ["_law_script"] (spFeed K):=⟨_,_,ok__law_feed F_law_feed T,m_law_feed,F_law_feed.kp,b_law_feed⟩
  have C__law_next:Callee l.prog w K mg base "_law_next" 1 ["_law_feed_here","_law_many"] (spD K 2 drawS):=⟨_,_,ok__law_next F_law_next T ,m_law_next,F_law_next.kp,b_law_next⟩
  have C__law_way:Callee l.prog w K mg base "_law_way" 2 ["_law_feed_here","_law_beats","_law_works"] (spD K 3 f__law_way):=⟨_,_,ok__law_way F_law_way T C__law_next,m_law_way,F_law_way.kp,b_law_way⟩
  have C__law_flat:Callee l.prog w K mg base "_law_flat" 1 ["_law_way_here"] (spD K 1 f__law_flat):=⟨_,_,ok__law_flat F_law_flat T ,m_law_flat,F_law_flat.kp,b_law_flat⟩
  have C__law_built:Callee l.prog w K mg base "_law_built" 1 ["_law_rows","_law_many"] (spD K 2 f__law_built):=⟨_,_,ok__law_built F_law_built T ,m_law_built,F_law_built.kp,b_law_built⟩
  have C__law_told:Callee l.prog w K mg base "_law_told" 5 ["_law_deed_here","_law_way_here","_law_some"] (spD K 3 f__law_told):=⟨_,_,ok__law_told F_law_told T C_with_comer C_without C_longer,m_law_told,F_law_told.kp,b_law_told⟩
  have C__law_due:Callee l.prog w K mg base "_law_due" 2 ["_law_deed_here","_law_way_here","_law_some"] (spD K 3 f__law_due):=⟨_,_,ok__law_due F_law_due T C__law_flat C__law_built,m_law_due,F_law_due.kp,b_law_due⟩
  have C__law_deed:Callee l.prog w K mg base "_law_deed" 2 ["_law_feed_here","_law_way_here"] (spD K 2 f__law_deed):=⟨_,_,ok__law_deed F_law_deed T C__law_next C__law_flat,m_law_deed,F_law_deed.kp,b_law_deed⟩
  have C__law_front_right:Callee l.prog w K mg base "_law_front_right" 3 ["_law_way_here"] (spD K 1 f__law_front_right):=⟨_,_,ok__law_front_right F_law_front_right T C__law_built C__law_flat C_front_alone,m_law_front_right,F_law_front_right.kp,b_law_front_right⟩
  exact ok_law Flaw T C__law_feed C__law_way C__law_next C__law_deed C__law_due C__law_told C__law_front_right (fun ns _=>fin ns)
theorem walk {l:PySem.W.OpenLaw} {q:Program} {loose:List Str} {XP:(Str→Option Value)→Heap→Prop} {YP:World→Heap→Prop} {d:DefRec} {K:Params→PySem.W.Frag} (hn:l.most = some 63) (hdf:d.params.defaults = [])
    (hrec:(([]:List Str).all fun x=>((PyProof.Rows.recsOf q).find? fun e=>e.name == x).isSome) = true) (hnt:∀ w:World,PySem.W.noTabs (K w.params) = true)
    (hY:∀ (w:World) (h:Heap),YP w h→(K w.params).In h)
    (F:∀ (w:World) (mg:Str→Option Value) (fa:Addr) (h:Heap),(K w.params).In h→h.Ns mainGlobals mg→mg d.name = some (.ref fa) →
      ∃ fd:FuncData,(∀ (s:Shared) (u:Value),BindsTo s fd ⟨[u],[]⟩ [("_law_script",u)]) ∧ ∀ base:Heap,(K w.params).In base→base.Ns mainGlobals mg→BMd base mg→(∀ t ∈ L3.tabsK ([]:List Str) (K w.params),PySem.W.CodeHd base t.2.1 t.2.2)→FnOk l.prog w (K w.params) mg base CX0 6 fa fd ["_law_script"] (spLaw (K w.params))) :
    PySem.W.WalkO q loose XP YP l.row.toRowW d [] (fun f vs=>PySem.call f vs) :=
  L3.walk_ofT ([]:List Str) (n:=63) (k:=6) (x:="_law_script") (CX:=fun _=>CX0) (sp:=fun w=>spLaw (K w.params)) hn (by decide) hdf ⟨rfl,by decide,by decide,rfl⟩ hrec hnt hY F (fun _ _ a ns hl hS hT=>⟨a,ns,rfl,hS,hl,hT,fun _=>rfl⟩) fun _ _ _ _ _ z=>z
end K26
open PySem PySem.W PyProof.Rows
set_option maxRecDepth 100000 in
set_option maxHeartbeats 0 in
theorem PySem.Challenge.cw_hatchwaits_k26_ways_changed_holds : PySem.Challenge.rw_hatchwaits_k26_ways_changed.Holds := by
  w_on; o_law; k_head; (case hw=>w_witness2)
  k_fill
  refine K26.walk (l:=PySem.Challenge.rw_hatchwaits_k26_ways_changed) rfl rfl (by first | rfl | kernel_rfl) (by intro w; first | kernel_rfl | with_unfolding_all rfl) (fun w h Y=>PySem.W.kIn_of Y) ?F
  case F =>
    intro w mg fa h KX G hmg
    refine' K26.all_mk KX G hmg ?amany_in ?lmany_in ?cmany_in ?kmany_in ?anumbered ?lnumbered ?cnumbered ?knumbered ?atold_way ?ltold_way ?ctold_way ?ktold_way ?awith_comer ?lwith_comer ?cwith_comer ?kwith_comer ?acheck_comer ?lcheck_comer ?ccheck_comer ?kcheck_comer ?awithout ?lwithout ?cwithout ?kwithout ?alonger ?llonger ?clonger ?klonger ?afront_alone ?lfront_alone ?cfront_alone ?kfront_alone ?a_law_feed ?l_law_feed ?c_law_feed ?k_law_feed ?a_law_next ?l_law_next ?c_law_next ?k_law_next ?a_law_way ?l_law_way ?c_law_way ?k_law_way ?a_law_flat ?l_law_flat ?c_law_flat ?k_law_flat ?a_law_built ?l_law_built ?c_law_built ?k_law_built ?a_law_told ?l_law_told ?c_law_told ?k_law_told ?a_law_due ?l_law_due ?c_law_due ?k_law_due ?a_law_deed ?l_law_deed ?c_law_deed ?k_law_deed ?a_law_front_right ?l_law_front_right ?c_law_front_right ?k_law_front_right ?alaw ?llaw ?claw ?klaw ?zValueError ?zenumerate ?zint ?zisinstance ?zlen ?zlist ?zmin ?zrange ?zrepr ?zsum ?ztuple ?gi_NEW ?aE_WaitError ?aE_NoBeat ?aE_NoComer ?aE_NoHouse ?aE_NoPaper ?aE_NoRest ?aE_NoRow ?aE_NoText ?aE_TooMany ?obj_NoBeat ?tp_NoBeat ?in_NoBeat ?fn_NoBeat ?ca_NoBeat ?ty_NoBeat ?kp_NoBeat ?di_NoBeat ?sa_NoBeat ?li_NoBeat ?ci_NoBeat ?ga_NoBeat_ ?gn_NoBeat ?mb_NoBeat ?mo_NoBeat ?cc_NoBeat ?cg_NoBeat ?ct_NoBeat ?sb_NoBeat ?ko_NoBeat ?ne_NoBeat ?ve_NoBeat ?st_NoBeat ?obj_NoComer ?tp_NoComer ?in_NoComer ?fn_NoComer ?ca_NoComer ?ty_NoComer ?kp_NoComer ?di_NoComer ?sa_NoComer ?li_NoComer ?ci_NoComer ?ga_NoComer_ ?gn_NoComer ?mb_NoComer ?mo_NoComer ?cc_NoComer ?cg_NoComer ?ct_NoComer ?sb_NoComer ?ko_NoComer ?ne_NoComer ?ve_NoComer ?st_NoComer ?na_NoComer_number ?hnd0
    (case amany_in=>k_is)
    (case lmany_in=>k_is)
    (case cmany_in=>k_is)
    (case kmany_in=>k_is)
    (case anumbered=>k_is)
    (case lnumbered=>k_is)
    (case cnumbered=>k_is)
    (case knumbered=>k_is)
    (case atold_way=>k_is)
    (case ltold_way=>k_is)
    (case ctold_way=>k_is)
    (case ktold_way=>k_is)
    (case awith_comer=>k_is)
    (case lwith_comer=>k_is)
    (case cwith_comer=>k_is)
    (case kwith_comer=>k_is)
    (case acheck_comer=>k_is)
    (case lcheck_comer=>k_is)
    (case ccheck_comer=>k_is)
    (case kcheck_comer=>k_is)
    (case awithout=>k_is)
    (case lwithout=>k_is)
    (case cwithout=>k_is)
    (case kwithout=>k_is)
    (case alonger=>k_is)
    (case llonger=>k_is)
    (case clonger=>k_is)
    (case klonger=>k_is)
    (case afront_alone=>k_is)
    (case lfront_alone=>k_is)
    (case cfront_alone=>k_is)
    (case kfront_alone=>k_is)
    (case a_law_feed=>k_is)
    (case l_law_feed=>k_is)
    (case c_law_feed=>k_is)
    (case k_law_feed=>k_is)
    (case a_law_next=>k_is)
    (case l_law_next=>k_is)
    (case c_law_next=>k_is)
    (case k_law_next=>k_is)
    (case a_law_way=>k_is)
    (case l_law_way=>k_is)
    (case c_law_way=>k_is)
    (case k_law_way=>k_is)
    (case a_law_flat=>k_is)
    (case l_law_flat=>k_is)
    (case c_law_flat=>k_is)
    (case k_law_flat=>k_is)
    (case a_law_built=>k_is)
    (case l_law_built=>k_is)
    (case c_law_built=>k_is)
    (case k_law_built=>k_is)
    (case a_law_told=>k_is)
    (case l_law_told=>k_is)
    (case c_law_told=>k_is)
    (case k_law_told=>k_is)
    (case a_law_due=>k_is)
    (case l_law_due=>k_is)
    (case c_law_due=>k_is)
    (case k_law_due=>k_is)
    (case a_law_deed=>k_is)
    (case l_law_deed=>k_is)
    (case c_law_deed=>k_is)
    (case k_law_deed=>k_is)
    (case a_law_front_right=>k_is)
    (case l_law_front_right=>k_is)
    (case c_law_front_right=>k_is)
    (case k_law_front_right=>k_is)
    (case alaw=>k_is)
    (case llaw=>k_is)
    (case claw=>k_is)
    (case klaw=>k_is)
    (case zValueError=>k_is)
    (case zenumerate=>k_is)
    (case zint=>k_is)
    (case zisinstance=>k_is)
    (case zlen=>k_is)
    (case zlist=>k_is)
    (case zmin=>k_is)
    (case zrange=>k_is)
    (case zrepr=>k_is)
    (case zsum=>k_is)
    (case ztuple=>k_is)
    (case gi_NEW=>k_is)
    (case aE_WaitError=>k_is)
    (case aE_NoBeat=>k_is)
    (case aE_NoComer=>k_is)
    (case aE_NoHouse=>k_is)
    (case aE_NoPaper=>k_is)
    (case aE_NoRest=>k_is)
    (case aE_NoRow=>k_is)
    (case aE_NoText=>k_is)
    (case aE_TooMany=>k_is)
    (case obj_NoBeat=>k_is)
    (case tp_NoBeat=>k_exc)
    (case in_NoBeat=>k_is)
    (case fn_NoBeat=>k_is)
    (case ca_NoBeat=>k_is)
    (case ty_NoBeat=>k_is)
    (case kp_NoBeat=>k_is)
    (case di_NoBeat=>k_is)
    (case sa_NoBeat=>k_is)
    (case li_NoBeat=>k_is)
    (case ci_NoBeat=>k_is)
    (case ga_NoBeat_=>k_is)
    (case gn_NoBeat=>k_is)
    (case mb_NoBeat=>k_is)
    (case mo_NoBeat=>k_is)
    (case cc_NoBeat=>k_is)
    (case cg_NoBeat=>k_is)
    (case ct_NoBeat=>k_is)
    (case sb_NoBeat=>k_is)
    (case ko_NoBeat=>kit_is)
    (case ne_NoBeat=>first | rfl | decide)
    (case ve_NoBeat=>kit_is)
    (case st_NoBeat=>kit_is)
    (case obj_NoComer=>k_is)
    (case tp_NoComer=>k_exc)
    (case in_NoComer=>k_is)
    (case fn_NoComer=>k_is)
    (case ca_NoComer=>k_is)
    (case ty_NoComer=>k_is)
    (case kp_NoComer=>k_is)
    (case di_NoComer=>k_is)
    (case sa_NoComer=>k_is)
    (case li_NoComer=>k_is)
    (case ci_NoComer=>k_is)
    (case ga_NoComer_=>k_is)
    (case gn_NoComer=>k_is)
    (case mb_NoComer=>k_is)
    (case mo_NoComer=>k_is)
    (case cc_NoComer=>k_is)
    (case cg_NoComer=>k_is)
    (case ct_NoComer=>k_is)
    (case sb_NoComer=>k_is)
    (case ko_NoComer=>kit_is)
    (case ne_NoComer=>first | rfl | decide)
    (case ve_NoComer=>kit_is)
    (case st_NoComer=>kit_is)
    (case na_NoComer_number=>k_is)
    (case hnd0=>first | kernel_rfl | with_unfolding_all rfl)
