import PyProof.Rows.All
import Wide.All
import OpenK.AllK
import Wide.FinOn
import Lean
import PyProof.EqAt
import PyProof.EqKinds
import PyProof.TupleCall
import PyProof.Rows.EqDataRows
import PyProof.Rows.InDataRows
import PyProof.StrLawsRepr
import PyProof.AutoListH
import PySem.Challenge.RW_hatchwaits_k62_whole_steps_stay
def PySem.W.Fast.tw10676788961360498998:=0
def PySem.W.Fast.tw8583443677813532159:=0
def PySem.W.Fast.tw12061498167056813935:=0
def PySem.W.Fast.tw12347096318465305620:=0
def PySem.W.Fast.tw3033181392890280758:=0
def PySem.W.Fast.tw7383848312025154300:=0
def PySem.W.Fast.tw5984787901259790047:=0
def PySem.W.Fast.tw10932912152500107670:=0
def PySem.W.Fast.tw3648399384255998799:=0
def PySem.W.Fast.tw16770385123211778345:=0
def PySem.W.Fast.tw17683690769553836798:=0
def PySem.W.Fast.tw126614626145667031:=0
def PySem.W.Fast.tw10123728860078106614:=0
def PySem.W.Fast.tw6613421269813675636:=0
def PySem.W.Fast.tw4927772424369019351:=0
def PySem.W.Fast.tw4988566560826588774:=0
def PySem.W.Fast.tw14683695421158664615:=0
def PySem.W.Fast.tw10171712654649209586:=0
def PySem.W.Fast.tw14511021499937232029:=0
def PySem.W.Fast.tw7486551611779838314:=0
def PySem.W.Fast.tw3852531752842580848:=0
def PySem.W.Fast.tw11937402214158175113:=0
def PySem.W.Fast.tw12242156794136910950:=0
def PySem.W.Fast.tw11906571286116127109:=0
def PySem.W.Fast.tw7672141475482578960:=0
def PySem.W.Fast.tw15944356044987363305:=0
def PySem.W.Fast.tw16709975774620982414:=0
def PySem.W.Fast.tw63787685317597552:=0
def PySem.W.Fast.tw14434103235891770195:=0
def PySem.W.Fast.tw13752254459704236918:=0
def PySem.W.Fast.tw2527803007293814536:=0
def PySem.W.Fast.tw15470278501950328377:=0
def PySem.W.Fast.tw13445850358057549459:=0
def PySem.W.Fast.tw17820098154054371519:=0
def PySem.W.Fast.tw15149873717416318726:=0
def PySem.W.Fast.tw4948957266292558275:=0
def PySem.W.Fast.tw1722619342295871649:=0
def PySem.W.Fast.tw14675159654470199908:=0
def PySem.W.Fast.tw16786103486152009650:=0
def PySem.W.Fast.tw5473487230733306852:=0
def PySem.W.Fast.tw13202714288418305654:=0
def PySem.W.Fast.tw6965838215803654836:=0
def PySem.W.Fast.tw4580524947001465965:=0
def PySem.W.Fast.tw12884844409538674545:=0
def PySem.W.Fast.tw409558668584369845:=0
def PySem.W.Fast.tw3557205362326527391:=0
def PySem.W.Fast.tw13194776547281883848:=0
def PySem.W.Fast.tw8424456445479024089:=0
def PySem.W.Fast.tw10521537178794228014:=0
def PySem.W.Fast.tw9702040778650850164:=0
def PySem.W.Fast.tw439989600583588235:=0
def PySem.W.Fast.tw3742366932556231268:=0
def PySem.W.Fast.tw13061607270416309914:=0
def PySem.W.Fast.tw463407715126628600:=0
def PySem.W.Fast.tw8628108852491850610:=0
def PySem.W.Fast.tw6229074325010925745:=0
def PySem.W.Fast.tw18406420705542707308:=0
def PySem.W.Fast.tw7250317132830219893:=0
def PySem.W.Fast.tw11124908593024086912:=0
def PySem.W.Fast.tw12724735490934862464:=0
def PySem.W.Fast.tw7175932725677966188:=0
def PySem.W.Fast.tw5274358207665274924:=0
def PySem.W.Fast.tw7286665655087847402:=0
def PySem.W.Fast.tw16743085115958006660:=0
def PySem.W.Fast.tw9112304084548689440:=0
def PySem.W.Fast.tw15992810684534505089:=0
def PySem.W.Fast.tw323138348800634314:=0
def PySem.W.Fast.tw8143090913772238419:=0
def PySem.W.Fast.tw10369760578966503791:=0
def PySem.W.Fast.tw13950785816828037975:=0
def PySem.W.Fast.tw14638135571524451065:=0
def PySem.W.Fast.tw12813874844891939448:=0
def PySem.W.Fast.tw15406521739057930221:=0
def PySem.W.Fast.tw11905553931053022949:=0
def PySem.W.Fast.tw1614559096063028754:=0
def PySem.W.Fast.tw956748457272255496:=0
def PySem.W.Fast.tw13855964460566525686:=0
def PySem.W.Fast.tw5227488076844228922:=0
def PySem.W.Fast.tw3898272034376767283:=0
def PySem.W.Fast.tw3688596090758116874:=0
def PySem.W.Fast.tw5398336296127775835:=0
def PySem.W.Fast.tw9958813668005206684:=0
def PySem.W.Fast.tw15706358399144179594:=0
def PySem.W.Fast.tw12302078811992631128:=0
def PySem.W.Fast.tw4249768640220184242:=0
def PySem.W.Fast.tw14434427045103562913:=0
def PySem.W.Fast.tw8970769367859128012:=0
def PySem.W.Fast.tw11531739613006024786:=0
def PySem.W.Fast.tw8182872653410642583:=0
def PySem.W.Fast.tw3614755113547416555:=0
def PySem.W.Fast.tw6337780258423175018:=0
def PySem.W.Fast.tw233789480838578900:=0
def PySem.W.Fast.tw1388015723135511607:=0
def PySem.W.Fast.tw6612693020163664859:=0
def PySem.W.Fast.tw17676593391737892041:=0
def PySem.W.Fast.tw11689131416335598575:=0
def PySem.W.Fast.tw12054149105726240102:=0
def PySem.W.Fast.tw9758105271152328671:=0
def PySem.W.Fast.tw1076418452216467441:=0
def PySem.W.Fast.tw2543439266386105425:=0
def PySem.W.Fast.tw12421749646791874501:=0
def PySem.W.Fast.tw7952209936515791:=0
def PySem.W.Fast.tw15487985820327431829:=0
def PySem.W.Fast.tw5315135968810865711:=0
def PySem.W.Fast.tw18325355765315825628:=0
def PySem.W.Fast.tw1052702877865214729:=0
def PySem.W.Fast.tw14284896116303294085:=0
def PySem.W.Fast.tw5960736168401777237:=0
def PySem.W.Fast.tw15651746782304719145:=0
def PySem.W.Fast.tw9482530580214501461:=0
def PySem.W.Fast.tw67399220887596583:=0
def PySem.W.Fast.tw2231601098075742504:=0
def PySem.W.Fast.tw16539915738041295401:=0
def PySem.W.Fast.tw3883173658563417514:=0
def PySem.W.Fast.tw2002573705879418066:=0
def PySem.W.Fast.tw4444989589780729945:=0
def PySem.W.Fast.tw4600753909828727810:=0
def PySem.W.Fast.tw11318428178322153866:=0
def PySem.W.Fast.tw6022495279109352712:=0
def PySem.W.Fast.tw11125918982368715439:=0
def PySem.W.Fast.tw16957901803599136595:=0
def PySem.W.Fast.tw15844354520952958773:=0
def PySem.W.Fast.tw7448951560451568647:=0
def PySem.W.Fast.tw9005642308041486298:=0
def PySem.W.Fast.tw16876684451107360137:=0
def PySem.W.Fast.tw12306028057944835408:=0
def PySem.W.Fast.tw2084645711979064150:=0
def PySem.W.Fast.tw18176885040900880307:=0
def PySem.W.Fast.tw223618097890705745:=0
def PySem.W.Fast.tw7491354380301326891:=0
def PySem.W.Fast.tw11131510055293602923:=0
def PySem.W.Fast.tw7623322918299918456:=0
def PySem.W.Fast.tw6489300174104705069:=0
def PySem.W.Fast.tw8921670696909703137:=0
def PySem.W.Fast.tw9044637922410122916:=0
def PySem.W.Fast.tw4780365369157266371:=0
def PySem.W.Fast.tw3636471395223054928:=0
def PySem.W.Fast.tw8434658238257435253:=0
def PySem.W.Fast.tw10626008580834930875:=0
def PySem.W.Fast.tw9397423182382385188:=0
def PySem.W.Fast.tw17763361759339517841:=0
def PySem.W.Fast.tw17190223461599453691:=0
def PySem.W.Fast.tw12241742860000171331:=0
def PySem.W.Fast.tw2849708622281228833:=0
def PySem.W.Fast.tw8933727810720835895:=0
def PySem.W.Fast.tw6935394489903853550:=0
def PySem.W.Fast.tw8420259587914822983:=0
def PySem.W.Fast.tw13183722563728218148:=0
def PySem.W.Fast.tw1377084078831560749:=0
def PySem.W.Fast.tw1764777295087810125:=0
def PySem.W.Fast.tw1269041415049881916:=0
def PySem.W.Fast.tw8299984213597692880:=0
def PySem.W.Fast.tw8394041812839055054:=0
def PySem.W.Fast.tw17619761963547222552:=0
def PySem.W.Fast.tw15662686562514096068:=0
def PySem.W.Fast.tw11187476858647943243:=0
def PySem.W.Fast.tw18204115843653214020:=0
def PySem.W.Fast.tw2785367647320350754:=0
def PySem.W.Fast.tw1942352758480311275:=0
def PySem.W.Fast.tw10439399314005269335:=0
def PySem.W.Fast.tw11701086949877272435:=0
def PySem.W.Fast.tw12885336727910426742:=0
def PySem.W.Fast.tw13355205189791984136:=0
def PySem.W.Fast.tw5488959222371117784:=0
def PySem.W.Fast.tw1678017769293715805:=0
def PySem.W.Fast.tw1896533100655852863:=0
def PySem.W.Fast.tw9866974664588204649:=0
def PySem.W.Fast.tw17728964685553388914:=0
def PySem.W.Fast.tw16036463004481861438:=0
def PySem.W.Fast.tw5601709600459046058:=0
def PySem.W.Fast.tw14818024569597477167:=0
def PySem.W.Fast.tw13044436987718503482:=0
def PySem.W.Fast.tw16820947342522690421:=0
def PySem.W.Fast.tw9051294076929062037:=0
def PySem.W.Fast.tw13919802987467134162:=0
def PySem.W.Fast.tw3935866132724687604:=0
def PySem.W.Fast.tw5186421714017391277:=0
def PySem.W.Fast.tw7047334769227401663:=0
def PySem.W.Fast.tw10011693696150865158:=0
def PySem.W.Fast.tw11338945788206235123:=0
def PySem.W.Fast.tw6246254809770910504:=0
def PySem.W.Fast.tw9570677718381329500:=0
def PySem.W.Fast.tw1133462782587707855:=0
def PySem.W.Fast.tw6889326709441272171:=0
def PySem.W.Fast.tw15712404462351878080:=0
def PySem.W.Fast.tw4980782446885493313:=0
def PySem.W.Fast.tw8184712545755608241:=0
def PySem.W.Fast.tw12269434502616233900:=0
def PySem.W.Fast.tw9875936966839623840:=0
def PySem.W.Fast.tw17139609131117860084:=0
def PySem.W.Fast.tw14965715453953793452:=0
def PySem.W.Fast.tw18276625913000036347:=0
def PySem.W.Fast.tw9300641523248777123:=0
def PySem.W.Fast.tw18273832226864707626:=0
def PySem.W.Fast.tw17791114769188673321:=0
def PySem.W.Fast.tw17672416001330638057:=0
def PySem.W.Fast.tw1666553982280730618:=0
def PySem.W.Fast.tw15672941413093485530:=0
def PySem.W.Fast.tw17058803303359802162:=0
def PySem.W.Fast.tw6327121689852729574:=0
def PySem.W.Fast.tw8148029390994949707:=0
def PySem.W.Fast.tw13887033492800078676:=0
def PySem.W.Fast.tw6941772286959610408:=0
def PySem.W.Fast.tw1724340796339617757:=0
def PySem.W.Fast.tw2324762508443291074:=0
def PySem.W.Fast.tw13828390961518646930:=0
def PySem.W.Fast.tw6651024159545769872:=0
def PySem.W.Fast.tw7865807323847480404:=0
def PySem.W.Fast.tw12693552678589796329:=0
def PySem.W.Fast.tw17413685594511641086:=0
def PySem.W.Fast.tw3016730957419973659:=0
def PySem.W.Fast.tw7611435572367195712:=0
def PySem.W.Fast.tw17623609920870128350:=0
def PySem.W.Fast.tw16179238737738432035:=0
def PySem.W.Fast.tw8963888235367028888:=0
def PySem.W.Fast.tw7218957704035254901:=0
def PySem.W.Fast.tw11843257213170132945:=0
def PySem.W.Fast.tw8153428657839866747:=0
def PySem.W.Fast.tw7354619910968407862:=0
def PySem.W.Fast.tw1509988711893209903:=0
def PySem.W.Fast.tw15069219583883156944:=0
def PySem.W.Fast.tw6272176392078735157:=0
def PySem.W.Fast.tw14861273163721834158:=0
def PySem.W.Fast.tw14980552615248003511:=0
def PySem.W.Fast.tw2073020296744297967:=0
def PySem.W.Fast.tw11024410949157579881:=0
def PySem.W.Fast.tw12685260038961248964:=0
def PySem.W.Fast.tw15548804148082798015:=0
def PySem.W.Fast.tw8889432054396169647:=0
def PySem.W.Fast.tw5600860900208855043:=0
def PySem.W.Fast.tw15027643718263721464:=0
def PySem.W.Fast.tw1725666502450191816:=0
def PySem.W.Fast.tw3199398401889417994:=0
def PySem.W.Fast.tw12091697657381371529:=0
def PySem.W.Fast.tw17817944677210761064:=0
def PySem.W.Fast.tw7254539669826045271:=0
def PySem.W.Fast.tw11647869465809843928:=0
def PySem.W.Fast.tw6208462483820584331:=0
def PySem.W.Fast.tw14687142591073229872:=0
def PySem.W.Fast.tw17858720481939383289:=0
def PySem.W.Fast.tw13812876843001175906:=0
def PySem.W.Fast.tw18234454107214898792:=0
def PySem.W.Fast.tw8732890573731413237:=0
def PySem.W.Fast.tw16881899951740823751:=0
def PySem.W.Fast.tw18088722166032378241:=0
def PySem.W.Fast.tw173740651831433610:=0
def PySem.W.Fast.tw4373593195826105268:=0
def PySem.W.Fast.tw15324866531302670016:=0
def PySem.W.Fast.tw1545818356656015178:=0
def PySem.W.Fast.tw13591758948425679217:=0
def PySem.W.Fast.tw14941544747371696697:=0
def PySem.W.Fast.tw17674318897437540643:=0
def PySem.W.Fast.tw1225131604924184012:=0
def PySem.W.Fast.tw8759662012952339196:=0
def PySem.W.Fast.tw8331772265116257952:=0
def PySem.W.Fast.tw17659222101117227556:=0
def PySem.W.Fast.tw15970270463511936608:=0
def PySem.W.Fast.tw10764265092325766639:=0
def PySem.W.Fast.tw15171739576878732762:=0
set_option Elab.async false
set_option linter.all false
set_option maxRecDepth 100000
namespace L2
open PySem PySem.Spec PyProof.Rows
noncomputable abbrev Key:=Sum Int Str
noncomputable def keyIs:Key->Value->Bool
 | .inl k,v=>Value.isInt k v
 | .inr x,v=>Value.isStrOf x v
noncomputable def keyH (w:World):Key->Int
 | .inl k=>hashInt k
 | .inr x=>hashStr w x
theorem keyIs_shape:∀ {k:Key} {v:Value},keyIs k v=true->(∃ i t,k=Sum.inl i∧v=Value.int i t)∨(∃ x t,k=Sum.inr x∧v=Value.str x t)
 | .inl i,v,h=>by
  obtain ⟨t,e⟩:=Value.isInt_shape (k:=i) (v:=v) h
  exact .inl ⟨i,t,rfl,e⟩
 | .inr x,v,h=>by
  obtain ⟨t,e⟩:=Value.isStrOf_shape (x:=x) (v:=v) h
  exact .inr ⟨x,t,rfl,e⟩
theorem key_ll (a b:Int):decide ((Sum.inl a:Key)=Sum.inl b)=(a == b):=by
 by_cases e:a=b
 ·subst e;simp
 ·have h:¬ (Sum.inl a:Key)=Sum.inl b:=λq=>e (Sum.inl.inj q)
  rw [decide_eq_false h]
  exact (beq_eq_false_iff_ne.mpr e).symm
theorem key_rr (a b:Str):decide ((Sum.inr a:Key)=Sum.inr b)=decide (a=b):=by
 by_cases e:a=b
 ·subst e;simp
 ·have h:¬ (Sum.inr a:Key)=Sum.inr b:=λq=>e (Sum.inr.inj q)
  rw [decide_eq_false h,decide_eq_false e]
theorem key_lr (a:Int)(b:Str):decide ((Sum.inl a:Key)=Sum.inr b)=false:=decide_eq_false (λq=>nomatch q)
theorem key_rl (a:Str)(b:Int):decide ((Sum.inr a:Key)=Sum.inl b)=false:=decide_eq_false (λq=>nomatch q)
noncomputable def mixKind (prog:Program)(w:World):PySem.KeyKind prog w Key where
 is:=keyIs
 hash:=keyH w
 inj:=λv a b ha hb=>by
  rcases keyIs_shape ha with ⟨i,t,rfl,rfl⟩ | ⟨x,t,rfl,rfl⟩
  ·rcases keyIs_shape hb with ⟨j,u,rfl,e⟩ | ⟨y,u,rfl,e⟩
   ·injection e with e1 _;rw [e1]
   ·exact nomatch e
  ·rcases keyIs_shape hb with ⟨j,u,rfl,e⟩ | ⟨y,u,rfl,e⟩
   ·exact nomatch e
   ·injection e with e1 _;rw [e1]
 byValue:=λk v h=>by
  rcases keyIs_shape h with ⟨i,t,rfl,rfl⟩ | ⟨x,t,rfl,rfl⟩ <;> rfl
 pyHash:=λhv h=>by
  rcases keyIs_shape hv with ⟨i,t,rfl,rfl⟩ | ⟨x,t,rfl,rfl⟩
  ·exact wpAny_pyHash_int h
  ·exact wpAny_pyHash_str h
 eqBool:=λhu hv h=>by
  rcases keyIs_shape hu with ⟨i,t,rfl,rfl⟩ | ⟨x,t,rfl,rfl⟩
  ·rcases keyIs_shape hv with ⟨j,u,rfl,rfl⟩ | ⟨y,u,rfl,rfl⟩
   ·rw [key_ll] at h;exact wpAny_eqBool_int h
   ·rw [key_lr] at h;exact SeqAt.EqAt.int_str i t y u _ _ _ _ h
  ·rcases keyIs_shape hv with ⟨j,u,rfl,rfl⟩ | ⟨y,u,rfl,rfl⟩
   ·rw [key_rl] at h;exact SeqAt.EqAt.str_int x t j u _ _ _ _ h
   ·rw [key_rr] at h;exact wpAny_eqBool_str h
 «strs»:=λk x t v h=>by
  rcases keyIs_shape h with ⟨i,u,rfl,e⟩ | ⟨y,u,rfl,e⟩
  ·exact nomatch e
  ·injection e with e1 _
   subst e1
   cases v <;> rfl
end L2
namespace L2
open PySem PySem.Spec PyProof.Rows
inductive V where
 | non | bl (b:Bool) | int (i:Int) | str (x:Str) | byt (b:Array UInt8) | flt (b:UInt64) | ref (a:Addr) | ty (n:String)
 deriving DecidableEq
noncomputable def RelV:V->Value->Prop
 | .non,u=>u=Value.none
 | .bl b,u=>u=Value.bool b
 | .int i,u=>∃ t,u=Value.int i t
 | .str x,u=>∃ t,u=Value.str x t
 | .byt b,u=>∃ t,u=Value.bytes b t
 | .flt b,u=>∃ t,u=Value.float b t
 | .ref a,u=>u=Value.ref a
 | .ty n,u=>u=Value.type n
noncomputable abbrev Vals:List V->List Value->Prop:=Paired RelV
theorem Vals.length {xs:List V}{us:List Value}(r:Vals xs us):xs.length=us.length:=Paired.length r
theorem Vals.get:∀ {xs:List V} {us:List Value} {i:Nat} {x:V},Vals xs us->xs[i]? = some x->∃ u,us[i]? = some u∧RelV x u
 | _,_,_,_,.nil,e=>by simp at e
 | _,_,0,_,.cons r _,e=>by simp at e;subst e;exact ⟨_,rfl,r⟩
 | _,_,i+1,x,.cons _ t,e=>by
  obtain ⟨u,h1,h2⟩:=Vals.get (i:=i) (x:=x) t (by simpa using e)
  exact ⟨u,by simpa using h1,h2⟩
theorem Vals.set {x:V}{u:Value}(r:RelV x u):∀ {xs:List V} {us:List Value} (i:Nat),Vals xs us->Vals (xs.set i x) (us.set i u)
 | _,_,_,.nil=>.nil
 | _,_,0,.cons _ t=>.cons r t
 | _,_,i+1,.cons q t=>.cons q (Vals.set r i t)
theorem Vals.append:∀ {xs ys:List V} {us ws:List Value},Vals xs us->Vals ys ws->Vals (xs++ys) (us++ws)
 | _,_,_,_,.nil,s=>s
 | _,_,_,_,.cons r t,s=>.cons r (Vals.append t s)
theorem Vals.take:∀ {xs:List V} {us:List Value} (n:Nat),Vals xs us->Vals (xs.take n) (us.take n)
 | _,_,0,_=>.nil
 | _,_,_+1,.nil=>.nil
 | _,_,n+1,.cons r t=>.cons r (Vals.take n t)
theorem Vals.drop:∀ {xs:List V} {us:List Value} (n:Nat),Vals xs us->Vals (xs.drop n) (us.drop n)
 | _,_,0,r=>r
 | _,_,_+1,.nil=>.nil
 | _,_,n+1,.cons _ t=>Vals.drop n t
noncomputable def RelO:Option V->Option Value->Prop
 | some v,some u=>RelV v u
 | none,none=>True
 | _,_=>False
noncomputable def KV {κ:Type}:List (κ×V)->List (κ×Value)->Prop:=Paired λ(p:κ×V) (q:κ×Value)=>p.1=q.1∧RelV p.2 q.2
noncomputable def kV:Key->V
 | .inl i=>.int i
 | .inr x=>.str x
inductive HO where
 /-- a list -/
 | lst (xs:List V)
 /-- a tuple (never changes) -/
 | tup (xs:List V)
 /-- a dict whose keys are ints and texts;one whose keys are tuples of ints and texts (the empty one is both) -/
 | dK (kvs:List (Key×V)) | dT (kvs:List (List Key×V))
 /-- a set of ints: its members,its size -/
 | set (S:Int->Bool) (n:Nat)
 /-- an instance of the class at C,its dict at dx,its attributes -/
 | ins (C dx:Addr) (fs:List (Str×V))
 /-- the dict of the instance at x -/
 | own (x:Addr)
 /-- the dict of an exception -/
 | xd (fs:List (Str×V))
 /-- a bound method,f of x -/
 | met (f x:Addr)
 /-- a range object lo,lo+1,.. below hi -/
 | rng (lo hi:Int)
 /-- a thing that is known to the object (the script;a dict while a loop walks it): read,never written while it is so -/
 | frz (o:Obj) (u:HO)
 /-- a code object's table -/
 | tbl (ps:Array Value)
 /-- any other thing,by what is true of its one object (a def of one's own: SetO a S n:=HO.ext λh=>..) -/
 | ext (φ:Heap->Prop)
noncomputable abbrev Hp:=Addr->Option HO
noncomputable def upd (H:Hp)(a:Addr)(o:HO):Hp:=λb=>if b=a then some o else H b
theorem upd_same {H:Hp}{a:Addr}{o:HO}:upd H a o a=some o:=by unfold upd;rw [if_pos rfl]
theorem upd_ne {H:Hp}{a b:Addr}{o:HO}(h:b≠a):upd H a o b=H b:=by unfold upd;rw [if_neg h]
theorem ne_of_none {H:Hp}{a b:Addr}{o:HO}(h:H a=some o)(h':H b=none):a≠b:=by
 intro e;subst e;rw [h] at h';cases h'
section
variable (P:Program)(w:World)
noncomputable def ObjOk (H:Hp)(h:Heap)(a:Addr):HO->Prop
 | .lst xs=>xs.length≤sizeLine∧∃ (its:List Value) (n:Nat),Vals xs its∧h.get? a=some { cls:=.type "list",data:=.seq its.toArray n }
 | .tup xs=>xs.length≤sizeLine∧∃ its:List Value,Vals xs its∧IsTup h a its.toArray
 | .dK kvs=>kvs.length≤sizeLine∧(a == sysModules)=false∧∃ vs,KV kvs vs∧h.DictOf (mixKind P w) a vs
 | .dT kvs=>kvs.length≤sizeLine∧(a == sysModules)=false∧∃ xs:List (List Key×Addr×Value),
   Paired (λ(p:List Key×V) (q:List Key×Addr×Value)=>p.1=q.1∧H q.2.1=some (.tup (p.1.map kV))∧RelV p.2 q.2.2) kvs xs ∧
   ∃ o es ep,h.get? a=some o∧o.ExactDict∧o.data = .dict es ep∧es.toList=xs.map (entryOfKey (tupleKind (mixKind P w)))∧(xs.map (·.1)).Nodup
 | .set S n=>h.SetOf (intKind P w) a S n
 | .ins C dx fs=>H dx=some (.own a)∧fs.length≤1000∧dx≠a∧h.get? a=some (PySem.W.instObj C dx) ∧
   ∃ mA,h.Ns1 dx mA∧(∀ f,RelO (fs.lookup f) (mA f))∧PySem.Within mA (fs.map (·.1))
 | .own _=>∃ o,h.get? a=some o
 | .xd fs=>∃ mA,h.Ns1 a mA∧∀ f,RelO (fs.lookup f) (mA f)
 | .rng lo hi=>∃ t u v,h.get? a=some { cls:=.type "range",data:=.fields #[.int lo t,.int hi u,.int 1 v] }
 | .frz o u=>h.get? a=some o∧ObjOk H h a u
 | .tbl ps=>h.get? a=some { cls:=.none,data:=.fields ps }
 | .met f x=>h.get? a=some (PySem.W.methodObj (.ref f) (.ref x))
 | .ext φ=>φ h∧(∃ o,h.get? a=some o)∧∀ h1 h2:Heap,φ h1->(∀ o,h1.get? a=some o->h2.get? a=some o)->φ h2
noncomputable def HOk (H:Hp)(h:Heap):Prop:=∀ a o,H a=some o->ObjOk P w H h a o
end
section
variable {P:Program}{w:World}{H H':Hp}{h h':Heap}{a:Addr}{o:HO}
theorem ObjOk.lt (x:ObjOk P w H h a o):a<h.objs.size:=by
 cases o with
 | lst xs=>obtain ⟨_,_,_,_,e⟩:=x;exact Heap.lt_size e
 | tup xs=>obtain ⟨_,_,_,p⟩:=x;exact p.lt
 | dK kvs=>obtain ⟨_,_,_,_,o,_,_,e,_⟩:=x;exact Heap.lt_size e
 | dT kvs=>obtain ⟨_,_,_,_,o,_,_,e,_⟩:=x;exact Heap.lt_size e
 | set S n=>obtain ⟨o,_,_,_,e,_⟩:=x;exact Heap.lt_size e
 | ins C dx fs=>obtain ⟨_,_,_,e,_⟩:=x;exact Heap.lt_size e
 | own y=>obtain ⟨_,e⟩:=x;exact Heap.lt_size e
 | xd fs=>obtain ⟨_,⟨_,_,_,e,_⟩,_⟩:=x;exact Heap.lt_size e
 | rng lo hi=>obtain ⟨_,_,_,e⟩:=x;exact Heap.lt_size e
 | frz ob u=>obtain ⟨e,_⟩:=x;exact Heap.lt_size e
 | tbl ps=>exact Heap.lt_size (show h.get? a=some _ from x)
 | met f y=>exact Heap.lt_size (show h.get? a=some _ from x)
 | ext φ=>obtain ⟨_,⟨_,e⟩,_⟩:=x;exact Heap.lt_size e
theorem Paired.mapP {α β:Type}{F G:α->β->Prop}:∀ {l₁:List α} {l₂:List β},Paired F l₁ l₂->(∀ a b,F a b->G a b)->Paired G l₁ l₂
 | _,_,.nil,_=>.nil
 | _,_,.cons r t,f=>.cons (f _ _ r) (Paired.mapP t f)
theorem ObjOk.stay (x:ObjOk P w H h a o)(k:∀ b u,(b=a∨H b=some (.own a))->h.get? b=some u->h'.get? b=some u)
  (ho:∀ b,H b=some (.own a)->H' b=some (.own a)) (ht:∀ b xs,H b=some (.tup xs)->H' b=some (.tup xs)):ObjOk P w H' h' a o:=by
 induction o with
 | lst xs=>obtain ⟨z,its,n,r,e⟩:=x;exact ⟨z,its,n,r,k _ _ (.inl rfl) e⟩
 | tup xs=>obtain ⟨z,its,r,ob,e,c⟩:=x;exact ⟨z,its,r,ob,k _ _ (.inl rfl) e,c⟩
 | dK kvs=>obtain ⟨z,y,vs,r,ob,es,ep,e,c⟩:=x;exact ⟨z,y,vs,r,ob,es,ep,k _ _ (.inl rfl) e,c⟩
 | dT kvs =>
  obtain ⟨z,y,xs,r,ob,es,ep,e,c⟩:=x
  exact ⟨z,y,xs,Paired.mapP r λp q z=>⟨z.1,ht _ _ z.2.1,z.2.2⟩,ob,es,ep,k _ _ (.inl rfl) e,c⟩
 | set S n=>obtain ⟨ob,es,ep,t,e,c⟩:=x;exact ⟨ob,es,ep,t,k _ _ (.inl rfl) e,c⟩
 | ins C dx fs =>
  obtain ⟨d,z,ne,e,mA,⟨od,es,ep,e2,c⟩,r⟩:=x
  exact ⟨ho _ d,z,ne,k _ _ (.inl rfl) e,mA,⟨od,es,ep,k _ _ (.inr d) e2,c⟩,r⟩
 | own y=>obtain ⟨ob,e⟩:=x;exact ⟨ob,k _ _ (.inl rfl) e⟩
 | xd fs=>obtain ⟨mA,⟨od,es,ep,e,c⟩,r⟩:=x;exact ⟨mA,⟨od,es,ep,k _ _ (.inl rfl) e,c⟩,r⟩
 | rng lo hi=>obtain ⟨t,u,v,e⟩:=x;exact ⟨t,u,v,k _ _ (.inl rfl) e⟩
 | frz ob u ih=>obtain ⟨e,q⟩:=x;exact ⟨k _ _ (.inl rfl) e,ih q⟩
 | tbl ps =>
  have e:h.get? a=some { cls:=.none,data:=.fields ps }:=x
  show h'.get? a=some { cls:=.none,data:=.fields ps }
  exact k a _ (.inl rfl) e
 | met f y =>
  have e:h.get? a=some (PySem.W.methodObj (.ref f) (.ref y)):=x
  show h'.get? a=some (PySem.W.methodObj (.ref f) (.ref y))
  exact k a _ (.inl rfl) e
 | ext φ=>obtain ⟨p,⟨o,e⟩,st⟩:=x;exact ⟨st _ _ p λo q=>k _ _ (.inl rfl) q,⟨o,k _ _ (.inl rfl) e⟩,st⟩
theorem HOk.lt (x:HOk P w H h)(e:H a=some o):a<h.objs.size:=(x a o e).lt
theorem HOk.fresh (x:HOk P w H h)(e:h.objs.size≤a):H a=none:=by
 cases q:H a with
 | none=>rfl
 | some u=>exact absurd (Nat.lt_of_lt_of_le (x.lt q) e) (Nat.lt_irrefl _)
theorem HOk.kept (x:HOk P w H h)(k:∀ b u,h.get? b=some u->h'.get? b=some u):HOk P w H h':=λa o e =>
 (x a o e).stay (λb u _ q=>k b u q) (λ_ q=>q) λ_ _ q=>q
theorem HOk.laid (x:HOk P w H h)(k:∀ b u,h.get? b=some u->h'.get? b=some u)(hp:h.objs.size≤a)(new:ObjOk P w (upd H a o) h' a o):HOk P w (upd H a o) h':=λb u e=>by
 have hn:=x.fresh hp
 by_cases hb:b=a
 ·subst hb;rw [upd_same] at e;cases e;exact new
 ·rw [upd_ne hb] at e
  exact (x b u e).stay (λc v _ q=>k c v q) (λc q=>by rw [upd_ne (ne_of_none q hn)];exact q) λc xs q=>by rw [upd_ne (ne_of_none q hn)];exact q
end
noncomputable def Rd (H:Hp)(a:Addr)(u:HO):Prop:=H a=some u∨∃ o,H a=some (.frz o u)
theorem Rd.ok {P:Program}{w:World}{H:Hp}{h:Heap}{a:Addr}{u:HO}(r:Rd H a u)(x:HOk P w H h):ObjOk P w H h a u:=by
 rcases r with r | ⟨o,r⟩
 ·exact x a u r
 ·obtain ⟨_,q⟩:=x a _ r
  exact q
noncomputable def Mut:Option HO->Prop
 | some (.lst _)=>True
 | some (.dK _)=>True
 | some (.dT _)=>True
 | some (.set _ _)=>True
 | some (.ins _ _ _)=>True
 | some (.ext _)=>True
 | _=>False
section
variable {P:Program}{w:World}{H:Hp}{h h':Heap}{x e:Addr}{o':HO}
theorem HOk.write (ok:HOk P w H h)(mu:Mut (H x))(he:e=x∨H e=some (.own x))(k:∀ b u,b≠e->h.get? b=some u->h'.get? b=some u)(heo:∃ u,h'.get? e=some u)
  (new:ObjOk P w (upd H x o') h' x o'):HOk P w (upd H x o') h':=λb u q=>by
 have nown:∀ c y,H c=some (.own y)->c≠x:=λc y r z=>by subst z;rw [r] at mu;exact mu
 have ntup:∀ c xs,H c=some (.tup xs)->c≠x:=λc xs r z=>by subst z;rw [r] at mu;exact mu
 by_cases hb:b=x
 ·subst hb;rw [upd_same] at q;cases q;exact new
 ·rw [upd_ne hb] at q
  by_cases hbe:b=e
  ·have q':H b=some (.own x):=by
    rcases he with z | z
    ·exact absurd (hbe.trans z) hb
    ·rw [hbe];exact z
   rw [q] at q';cases q'
   obtain ⟨v,hv⟩:=heo
   exact ⟨v,by rw [hbe];exact hv⟩
  ·refine (ok b u q).stay (λc v hc r=>k c v ?_ r) (λc r=>by rw [upd_ne (nown c b r)];exact r) λc xs r=>by rw [upd_ne (ntup c xs r)];exact r
   rcases hc with rfl | hc
   ·exact hbe
   ·rintro rfl
    rcases he with z | z
    ·exact nown c b hc z
    ·rw [hc] at z;cases z;exact hb rfl
end
structure Un (fs ex:List Addr) (H H':Hp) (h h':Heap):Prop where
 keep:∀ b o,h.get? b=some o->H b=none->b ∉ fs->b ∉ ex->h'.get? b=some o
 slot:∀ b o,h.get? b=some o->H b=none->b∈fs->b ∉ ex->∃ sl,h'.get? b=some { o with slots:=sl }
 free:∀ b o,h.get? b=some o->H b=none->b ∉ ex->H' b=none
 there:∀ b o,h.get? b=some o->b ∉ ex->∃ o',h'.get? b=some o'
 tups:∀ b xs,H b=some (.tup xs)->H' b=some (.tup xs)
 frzs:∀ b o u,H b=some (.frz o u)->H' b=some (.frz o u)
 tbls:∀ b ps,H b=some (.tbl ps)->∃ more,H' b=some (.tbl (ps++more))
section
variable {fs fs' ex ex':List Addr}{H H1 H2:Hp}{h h1 h2 h':Heap}{a x e:Addr}{o:HO}
theorem Un.any (u:Un fs ex H H1 h h1){b:Addr}{ob:Obj}(q:h.get? b=some ob)(n:H b=none)(hx:b ∉ ex):∃ sl,h1.get? b=some { ob with slots:=sl }:=by
 by_cases hb:b∈fs
 ·exact u.slot b ob q n hb hx
 ·exact ⟨ob.slots,u.keep b ob q n hb hx⟩
theorem Un.kept (k:∀ b u,h.get? b=some u->h'.get? b=some u):Un fs ex H H h h' :=
 ⟨λb ob q _ _ _=>k b ob q,λb ob q _ _ _=>⟨ob.slots,k b ob q⟩,λ_ _ _ n _=>n,λb ob q _=>⟨ob,k b ob q⟩,λ_ _ q=>q,λ_ _ _ q=>q,λ_ ps q=>⟨#[],by rw [q];simp⟩⟩
theorem Un.refl:Un fs ex H H h h:=Un.kept λ_ _ q=>q
theorem Un.laid (k:∀ b u,h.get? b=some u->h'.get? b=some u)(hp:h.objs.size≤a)(hn:H a=none):Un fs ex H (upd H a o) h h' where
 keep:=λb u q _ _ _=>k b u q
 slot:=λb u q _ _ _=>⟨u.slots,k b u q⟩
 free:=λb u q n _=>by rw [upd_ne (Nat.ne_of_lt (Nat.lt_of_lt_of_le (Heap.lt_size q) hp))];exact n
 there:=λb u q _=>⟨u,k b u q⟩
 tups:=λb xs q=>by rw [upd_ne (ne_of_none q hn)];exact q
 frzs:=λb u xs q=>by rw [upd_ne (ne_of_none q hn)];exact q
 tbls:=λb ps q=>⟨#[],by rw [upd_ne (ne_of_none q hn),q];simp⟩
theorem Un.write (mu:Mut (H x))(he:e=x∨H e=some (.own x))(k:∀ b u,b≠e->h.get? b=some u->h'.get? b=some u)(heo:∃ u,h'.get? e=some u):Un fs ex H (upd H x o) h h':=by
 have hx:∀ b,H b=none->b≠x:=λb n z=>by subst z;rw [n] at mu;exact mu
 have hb:∀ b,H b=none->b≠e:=λb n z=>by
  subst z
  rcases he with r | r
  ·exact hx b n r
  ·rw [n] at r;cases r
 have hm:∀ b u,H b=some u->¬ Mut (some u)->b≠x:=λb u q nm z=>by subst z;rw [q] at mu;exact nm mu
 refine ⟨λb u q n _ _=>k b u (hb b n) q,λb u q n _ _=>⟨u.slots,k b u (hb b n) q⟩,λb u q n _=>by rw [upd_ne (hx b n)];exact n,λb u q _=>?_,
  λb xs q=>by rw [upd_ne (hm b _ q λz=>z)];exact q,λb u xs q=>by rw [upd_ne (hm b _ q λz=>z)];exact q,λb ps q=>⟨#[],by rw [upd_ne (hm b _ q λz=>z),q];simp⟩⟩
 by_cases hbe:b=e
 ·subst hbe;exact heo
 ·exact ⟨u,k b u hbe q⟩
end
noncomputable def trk (h:Heap)(H:Hp):List Addr:=(List.range h.objs.size).filter λa=>(H a).isSome
noncomputable def hidT (h:Heap)(H:Hp):Heap:=PySem.W.hideAll h (trk h H)
theorem hidT_size (h:Heap)(H:Hp):(hidT h H).objs.size=h.objs.size:=PySem.W.hideAll_size _ _
theorem hidT_get {h:Heap}{H:Hp}{b:Addr}{o:Obj}(e:h.get? b=some o)(n:H b=none):(hidT h H).get? b=some o :=
 PySem.W.hideAll_get _ e λhm=>by
  have q:(H b).isSome=true:=(List.mem_filter.mp hm).2
  rw [n] at q;simp at q
theorem of_hidT {h:Heap}{H:Hp}{b:Addr}{o:Obj}(e:(hidT h H).get? b=some o):h.get? b=some o∧H b=none:=by
 have e':h.get? b=some o:=PySem.W.of_hideAll (trk h H) e
 refine ⟨e',?_⟩
 cases q:H b with
 | none=>rfl
 | some x =>
  have hm:b∈trk h H:=List.mem_filter.mpr ⟨List.mem_range.mpr (Heap.lt_size e'),by simp [q]⟩
  have z:(hidT h H).get? b=none:=PySem.W.hideAll_none (trk h H) hm
  rw [z] at e;cases e
end L2
namespace L2
open PySem PySem.Spec PyProof.Rows
structure Mod (K:PySem.W.Frag) (mg:Str->Option Value) (base:Heap):Prop where
 kin:K.In base
 glob:base.Ns mainGlobals mg
 blt:∃ mb,base.Ns builtinsNs mb∧∀ x:Str,x ≠ "__name__"->mb x=bootBuiltins x
 nolimit:base.NoLimit
/-- the context: a def's body (or a comprehension's block) running. base: fixed through the whole law;s₀,H₀: the entry;outer: the frames whose slots others may change (a def's callers);stack: all frames that run;
   ex: iterators that were made ahead of the entry and are walked here (a comprehension's);fn: the names whose cells were made at the entry (a def: all;a comprehension's block: its own);calm: not within an except suite;pn: pins that every state bears;xe: what is wanted of an exception that leaves the code -/
structure Cx where
 prog:Program
 w:World
 K:PySem.W.Frag
 mg:Str->Option Value
 base:Heap
 A:Around
 N:List Str
 s₀:Shared
 H₀:Hp
 env:Env
 outer:List Env
 stack:List Env
 ex:List Addr
 fn:Str->Bool
 calm:Bool
 pn:List (Addr×Obj)
 xe:Value->Shared->Prop
noncomputable def frs (l:List Env):List Addr:=l.filterMap (·.frame)
noncomputable abbrev Cx.fs (X:Cx):List Addr:=frs X.outer
noncomputable def Vis (sc:Scope)(x:Str):Prop:=sc.names.lookup x=some .local∨sc.names.lookup x=some .cell∨sc.names.lookup x=some .free
noncomputable def Loc (sc:Scope)(x:Str):Prop:=sc.names.lookup x=some .local∨sc.names.lookup x=some .cell
noncomputable def Look (env:Env)(h:Heap)(m:Str->Option Value)(x:Str)(u:Value):Prop :=
 (env.kindOf x=some .local∧m x=some u)∨((env.kindOf x=some .cell∨env.kindOf x=some .free)∧∃ c,env.cells.lookup x=some c∧h.IsCell c (some u))
structure Cx.Ok (X:Cx):Prop where
 mod:Mod X.K X.mg X.base
 kind:X.env.scope.kind = .function
 glob:X.env.globals=mainGlobals
 blt:X.env.builtins=builtinsNs
 above:X.s₀.heap.objs.size≤X.env.locals
 inj:∀ x y c,X.env.cells.lookup x=some c->X.env.cells.lookup y=some c->x=y
 has:∀ x,(X.env.kindOf x=some .cell∨X.env.kindOf x=some .free)->∃ c,X.env.cells.lookup x=some c
 cab:∀ x c,X.fn x=true->X.env.cells.lookup x=some c->X.s₀.heap.objs.size≤c
 hd:X.calm=true->X.A.handled=none
 frames:X.A.frames=some X.stack
 stk:X.stack=X.outer∨(X.stack=X.env::X.outer∧X.env.frame=some X.env.locals)
 exf:∀ b∈X.ex,b≠X.env.locals∧∀ x c,X.env.cells.lookup x=some c->c≠b
 bs:∀ b o,X.base.get? b=some o->X.s₀.heap.get? b=some o∧X.H₀ b=none
 bsz:X.base.objs.size≤X.s₀.heap.objs.size
 noex:∀ b o,X.base.get? b=some o->b ∉ X.ex
 exfs:∀ b∈X.ex,b ∉ X.fs
 funs:X.s₀.heap.FunFrames X.base X.outer
 frf:∀ b∈X.fs,X.H₀ b=none
structure Inv (X:Cx) (pins:List (Addr×Obj)) (σ:List (Option V)) (H:Hp) (s:Shared):Prop where
 ok:X.Ok
 os:s.os=X.s₀.os
 bare:AllBare s.gens
 base:Un X.fs X.ex X.H₀ H X.s₀.heap s.heap
 loc:∃ m,s.heap.Ns X.env.locals m∧∀ (i:Nat) (x:Str) (v:V),X.N[i]? = some x->σ[i]? = some (some v)->Vis X.env.scope x->∃ u,RelV v u∧Look X.env s.heap m x u
 cell:∀ x c,X.env.cells.lookup x=some c->∃ v,s.heap.IsCell c v
 free:H X.env.locals=none
 freeC:∀ x c,X.env.cells.lookup x=some c->H c=none
 pin:∀ p∈X.pn++pins,s.heap.get? p.1=some p.2∧H p.1=none∧p.1≠X.env.locals∧p.1 ∉ X.fs∧∀ v,p.2.data ≠ .cell v
 hok:HOk X.prog X.w H s.heap
 len:σ.length=X.N.length
section
variable {X:Cx}{pins:List (Addr×Obj)}{σ:List (Option V)}{H H':Hp}{s:Shared}{h':Heap}
theorem Cx.Ok.nofr (ok:X.Ok){b:Addr}{o:Obj}(e:X.base.get? b=some o):b ∉ X.fs:=λhb=>by
 have:=(ok.funs.mem hb).1
 rw [e] at this;cases this
theorem Inv.bs (I:Inv X pins σ H s):∀ b o,X.base.get? b=some o->s.heap.get? b=some o∧H b=none:=λb o e =>
 ⟨I.base.keep b o (I.ok.bs b o e).1 (I.ok.bs b o e).2 (I.ok.nofr e) (I.ok.noex b o e),I.base.free b o (I.ok.bs b o e).1 (I.ok.bs b o e).2 (I.ok.noex b o e)⟩
theorem Inv.bk (I:Inv X pins σ H s):∀ b o,X.base.get? b=some o->s.heap.get? b=some o:=λb o e=>(I.bs b o e).1
theorem Inv.mod (I:Inv X pins σ H s):Mod X.K X.mg X.base:=I.ok.mod
theorem Inv.kIn (I:Inv X pins σ H s):X.K.In s.heap:=I.ok.mod.kin.keeps I.bk
theorem Inv.nolimit (I:Inv X pins σ H s):s.heap.NoLimit:=I.ok.mod.nolimit.keeps I.bk
theorem Inv.lt (I:Inv X pins σ H s):X.env.locals<s.heap.objs.size:=let ⟨_,hn,_⟩:=I.loc;hn.lt
theorem Inv.sz (I:Inv X pins σ H s):X.s₀.heap.objs.size≤s.heap.objs.size:=Nat.le_trans I.ok.above (Nat.le_of_lt I.lt)
theorem Inv.nofs (I:Inv X pins σ H s){a:Addr}(h:s.heap.objs.size≤a):a ∉ X.fs:=λhb=>by
 obtain ⟨_,o,ho,_⟩:=I.ok.funs.mem hb
 exact absurd (Nat.lt_of_lt_of_le (Heap.lt_size ho) (Nat.le_trans I.sz h)) (Nat.lt_irrefl _)
theorem Inv.cne (I:Inv X pins σ H s):∀ x c,X.env.cells.lookup x=some c->c≠X.env.locals:=λx c e z=>by
 obtain ⟨v,o,ho,hd⟩:=I.cell x c e
 obtain ⟨m,⟨o',es,ep,ho',hd',_⟩,_⟩:=I.loc
 rw [z,ho'] at ho;cases ho;rw [hd'] at hd;cases hd
theorem Inv.funs (I:Inv X pins σ H s):s.heap.FunFrames X.base X.outer:=by
 have all:∀ (l:List Env),(∀ b∈frs l,b∈X.fs)->X.s₀.heap.FunFrames X.base l->s.heap.FunFrames X.base l:=by
  intro l
  induction l with
  | nil=>intro _ _;trivial
  | cons env r ih =>
   intro hs hl
   obtain ⟨hk,⟨L,o,hf,hn,ho,hd⟩,hr⟩:=hl
   have hL:L∈X.fs:=hs L (by unfold frs;rw [List.filterMap_cons,hf];exact List.mem_cons_self)
   obtain ⟨sl,e⟩:=I.base.slot L o ho (I.ok.frf L hL) hL λz=>I.ok.exfs L z hL
   exact ⟨hk,⟨L,_,hf,hn,e,hd⟩,ih (λb hb=>hs b (by unfold frs;rw [List.filterMap_cons,hf];exact List.mem_cons_of_mem _ hb)) hr⟩
 exact all X.outer (λ_ hb=>hb) I.ok.funs
theorem Inv.stack (I:Inv X pins σ H s):s.heap.FunFrames X.base X.stack:=by
 rcases I.ok.stk with e | ⟨e,hf⟩
 ·rw [e];exact I.funs
 ·rw [e]
  obtain ⟨m,hn,_⟩:=I.loc
  refine .cons (by rw [I.ok.kind];decide) hf hn ?_ I.funs
  exact Heap.get?_none_of_le (Nat.le_trans I.ok.bsz I.ok.above)
theorem Inv.stkSub (I:Inv X pins σ H s):∀ b∈frs X.stack,b∈X.env.locals::X.fs:=λb hb=>by
 rcases I.ok.stk with e | ⟨e,hf⟩
 ·rw [e] at hb;exact List.mem_cons_of_mem _ hb
 ·rw [e] at hb
  unfold frs at hb
  rw [List.filterMap_cons,hf] at hb
  exact hb
theorem Inv.stkFree (I:Inv X pins σ H s):∀ b∈frs X.stack,H b=none:=λb hb=>by
 rcases List.mem_cons.mp (I.stkSub b hb) with e | hb
 ·rw [e];exact I.free
 ·obtain ⟨_,o,ho,_⟩:=I.ok.funs.mem hb
  exact I.base.free b o ho (I.ok.frf b hb) λz=>I.ok.exfs b z hb
theorem Inv.step {g':Array GenState}{t':Nat}{d':Drawn}{ch:List Addr}(I:Inv X pins σ H s)
  (hch:∀ b∈ch,(b∈X.ex∨X.s₀.heap.objs.size≤b)∧b≠X.env.locals∧(∀ x c,X.env.cells.lookup x=some c->c≠b)∧∀ p∈X.pn++pins,p.1≠b)
  (keep:∀ b o,b≠X.env.locals->b ∉ X.fs->b ∉ ch->s.heap.get? b=some o->H b=none->h'.get? b=some o)
  (slot:∀ b o,b≠X.env.locals->b∈X.fs->b ∉ ch->s.heap.get? b=some o->H b=none->∃ sl,h'.get? b=some { o with slots:=sl }) (free:∀ b o,b ∉ ch->s.heap.get? b=some o->H b=none->H' b=none)
  (there:∀ b o,b ∉ ch->s.heap.get? b=some o->∃ o',h'.get? b=some o')
  (tups:∀ b xs,H b=some (.tup xs)->H' b=some (.tup xs)) (frzs:∀ b o u,H b=some (.frz o u)->H' b=some (.frz o u)) (tbls:∀ b ps,H b=some (.tbl ps)->∃ more,H' b=some (.tbl (ps++more)))
  (ns:∀ m,s.heap.Ns X.env.locals m->h'.Ns X.env.locals m) (hok:HOk X.prog X.w H' h') (hg:AllBare g') :
  Inv X pins σ H' { s with heap:=h',gens:=g',drawn:=d',toks:=t' }:=by
 have neL:∀ b o,X.s₀.heap.get? b=some o->b≠X.env.locals:=λb o e=>Nat.ne_of_lt (Nat.lt_of_lt_of_le (Heap.lt_size e) I.ok.above)
 have neC:∀ b o,X.s₀.heap.get? b=some o->b ∉ X.ex->b ∉ ch:=λb o e hx hb=>by
  rcases (hch b hb).1 with z | z
  ·exact hx z
  ·exact absurd (Nat.lt_of_lt_of_le (Heap.lt_size e) z) (Nat.lt_irrefl _)
 have cellK:∀ x c,X.env.cells.lookup x=some c->∀ v,s.heap.IsCell c v->h'.IsCell c v:=λx c e v ⟨o,ho,hd⟩=>by
  have nch:c ∉ ch:=λz=>(hch c z).2.2.1 x c e rfl
  by_cases hc:c∈X.fs
  ·obtain ⟨sl,q⟩:=slot c o (I.cne x c e) hc nch ho (I.freeC x c e)
   exact ⟨_,q,hd⟩
  ·exact ⟨o,keep c o (I.cne x c e) hc nch ho (I.freeC x c e),hd⟩
 refine ⟨I.ok,I.os,hg,⟨λb o e n hb hx=>?_,λb o e n hb hx=>?_,λb o e n hx=>?_,λb o e hx=>?_,λb xs e=>tups b xs (I.base.tups b xs e),λb o xs e=>frzs b o xs (I.base.frzs b o xs e),λb ps e=>?_⟩,?_,λx c e=>?_,?_,λx c e=>?_,λp hp=>?_,hok,I.len⟩
 ·exact keep b o (neL b o e) hb (neC b o e hx) (I.base.keep b o e n hb hx) (I.base.free b o e n hx)
 ·obtain ⟨sl,e1⟩:=I.base.slot b o e n hb hx
  obtain ⟨sl',e2⟩:=slot b _ (neL b o e) hb (neC b o e hx) e1 (I.base.free b o e n hx)
  exact ⟨sl',e2⟩
 ·obtain ⟨o',e1⟩:=I.base.there b o e hx
  exact free b o' (neC b o e hx) e1 (I.base.free b o e n hx)
 ·obtain ⟨o',e1⟩:=I.base.there b o e hx
  exact there b o' (neC b o e hx) e1
 ·obtain ⟨m1,e1⟩:=I.base.tbls b ps e
  obtain ⟨m2,e2⟩:=tbls b _ e1
  exact ⟨m1++m2,by rw [e2,Array.append_assoc]⟩
 ·obtain ⟨m,hn,hl⟩:=I.loc
  refine ⟨m,ns m hn,λi x v e1 e2 e3=>?_⟩
  obtain ⟨u,r,l⟩:=hl i x v e1 e2 e3
  refine ⟨u,r,?_⟩
  rcases l with l | ⟨k,c,e,z⟩
  ·exact .inl l
  ·exact .inr ⟨k,c,e,cellK x c e _ z⟩
 ·obtain ⟨v,z⟩:=I.cell x c e
  exact ⟨v,cellK x c e v z⟩
 ·obtain ⟨m,⟨o,_,_,ho,_⟩,_⟩:=I.loc
  exact free _ o (λz=>(hch _ z).2.1 rfl) ho I.free
 ·obtain ⟨v,o,ho,hd⟩:=I.cell x c e
  exact free c o (λz=>(hch c z).2.2.1 x c e rfl) ho (I.freeC x c e)
 ·obtain ⟨e,n,ne,nf,d⟩:=I.pin p hp
  have nch:p.1 ∉ ch:=λz=>(hch p.1 z).2.2.2 p hp rfl
  exact ⟨keep p.1 p.2 ne nf nch e n,free p.1 p.2 nch e n,ne,nf,d⟩
theorem Inv.un {t':Nat}(I:Inv X pins σ H s)(u:Un X.fs [] H H' s.heap h')(hok:HOk X.prog X.w H' h'):Inv X pins σ H' { s with heap:=h',toks:=t' }:=by
 obtain ⟨m,⟨o,es,ep,ho,r⟩,_⟩:=id I.loc
 obtain ⟨sl,hL⟩:=u.any ho I.free (by simp)
 exact I.step (g':=s.gens) (d':=s.drawn) (ch:=[]) (λ_ z=>nomatch z) (λb o _ hb _ e n=>u.keep b o e n hb (by simp)) (λb o _ hb _ e n=>u.slot b o e n hb (by simp)) (λb o _ e n=>u.free b o e n (by simp)) (λb o _ e=>u.there b o e (by simp)) u.tups u.frzs u.tbls (λm' hm=>by
  obtain ⟨o',es',ep',ho',r'⟩:=hm
  rw [ho] at ho';cases ho'
  exact ⟨_,es',ep',hL,r'⟩) hok I.bare
theorem Inv.call {g':Array GenState}{t':Nat}{d':Drawn}{ch:List Addr}(I:Inv X pins σ H s)(u:Un (frs X.stack) ch H H' s.heap h')(hok:HOk X.prog X.w H' h')(hg:AllBare g')
  (hch:∀ b∈ch,(b∈X.ex∨X.s₀.heap.objs.size≤b)∧b≠X.env.locals∧(∀ x c,X.env.cells.lookup x=some c->c≠b)∧∀ p∈X.pn++pins,p.1≠b) :
  Inv X pins σ H' { s with heap:=h',gens:=g',drawn:=d',toks:=t' }:=by
 obtain ⟨m,⟨o,es,ep,ho,r⟩,_⟩:=id I.loc
 obtain ⟨sl,hL⟩:=u.any ho I.free λz=>(hch _ z).2.1 rfl
 exact I.step (ch:=ch) hch (λb o hL hb hc e n=>u.keep b o e n (λz=>(List.mem_cons.mp (I.stkSub b z)).elim hL hb) hc) (λb o _ _ hc e n=>u.any e n hc) (λb o hc e n=>u.free b o e n hc) (λb o hc e=>u.there b o e hc) u.tups u.frzs u.tbls (λm' hm=>by
  obtain ⟨o',es',ep',ho',r'⟩:=hm
  rw [ho] at ho';cases ho'
  exact ⟨_,es',ep',hL,r'⟩) hok hg
theorem Inv.turned {t':Nat}{it:Addr}(I:Inv X pins σ H s)(k:∀ b o,b≠it->s.heap.get? b=some o->h'.get? b=some o)(hn:H it=none)(hL:it≠X.env.locals)
  (h1:it∈X.ex∨X.s₀.heap.objs.size≤it) (h2:∀ x c,X.env.cells.lookup x=some c->c≠it) (h3:∀ p∈X.pn++pins,p.1≠it):Inv X pins σ H { s with heap:=h',toks:=t' }:=by
 have nit:∀ b u,H b=some u->b≠it:=λb u e z=>by rw [z,hn] at e;cases e
 refine I.step (g':=s.gens) (d':=s.drawn) (ch:=[it]) (λb hb=>?_) (λb o _ _ hc e _=>k b o (λz=>hc (by simp [z])) e) (λb o _ _ hc e _=>⟨o.slots,k b o (λz=>hc (by simp [z])) e⟩) (λ_ _ _ _ n=>n)
  (λb o hc e=>⟨o,k b o (λz=>hc (by simp [z])) e⟩) (λ_ _ e=>e) (λ_ _ _ e=>e) (λb ps e=>⟨#[],by rw [e];simp⟩) (λm hm=>?_) (λb u e=>?_) I.bare
 ·have e:b=it:=by simpa using hb
  subst e
  exact ⟨h1,hL,h2,h3⟩
 ·obtain ⟨o,es,ep,ho,r⟩:=hm
  exact ⟨o,es,ep,k _ o (Ne.symm hL) ho,r⟩
 ·refine (I.hok b u e).stay (λc v hc q=>k c v ?_ q) (λ_ q=>q) λ_ _ q=>q
  rcases hc with z | z
  ·rw [z];exact nit b u e
  ·exact nit c _ z
theorem Inv.tok (I:Inv X pins σ H s)(t:Nat):Inv X pins σ H { s with toks:=t }:=I.un (h':=s.heap) (t':=t) Un.refl I.hok
theorem Inv.kept {t':Nat}(I:Inv X pins σ H s)(k:∀ b u,s.heap.get? b=some u->h'.get? b=some u):Inv X pins σ H { s with heap:=h',toks:=t' }:=I.un (Un.kept k) (I.hok.kept k)
theorem Inv.laid {a:Addr}{o:HO}{t':Nat}(I:Inv X pins σ H s)(k:∀ b u,s.heap.get? b=some u->h'.get? b=some u)(hp:s.heap.objs.size≤a)(new:ObjOk X.prog X.w (upd H a o) h' a o) :
  Inv X pins σ (upd H a o) { s with heap:=h',toks:=t' }:=I.un (Un.laid k hp (I.hok.fresh hp)) (I.hok.laid k hp new)
theorem Inv.write {x e:Addr}{o:HO}{t':Nat}(I:Inv X pins σ H s)(mu:Mut (H x))(he:e=x∨H e=some (.own x))(k:∀ b u,b≠e->s.heap.get? b=some u->h'.get? b=some u)(heo:∃ u,h'.get? e=some u)
  (new:ObjOk X.prog X.w (upd H x o) h' x o):Inv X pins σ (upd H x o) { s with heap:=h',toks:=t' }:=I.un (Un.write mu he k heo) (I.hok.write mu he k heo new)
theorem Inv.pins_of {pins':List (Addr×Obj)}(I:Inv X pins σ H s)(h:∀ p∈pins',s.heap.get? p.1=some p.2∧H p.1=none∧p.1≠X.env.locals∧p.1 ∉ X.fs∧∀ v,p.2.data ≠ .cell v):Inv X pins' σ H s :=
 ⟨I.ok,I.os,I.bare,I.base,I.loc,I.cell,I.free,I.freeC,λp hp=>(List.mem_append.mp hp).elim (λz=>I.pin p (List.mem_append_left _ z)) (h p),I.hok,I.len⟩
theorem nodup_ix {N:List Str}(hN:N.Nodup){i j:Nat}{x:Str}(a:N[i]? = some x)(b:N[j]? = some x):i=j:=by
 obtain ⟨h1,e1⟩:=List.getElem?_eq_some_iff.mp a
 obtain ⟨h2,e2⟩:=List.getElem?_eq_some_iff.mp b
 exact (List.getElem_inj hN).mp (e1.trans e2.symm)
theorem store_ok2 {M:Model}{A:Around}{E:Value->Shared->Prop}{i:Nat}{x:Str}{v:V}{u:Value}{Q:Unit->Shared->Prop}(I:Inv X pins σ H s)(hN:X.N.Nodup)(hi:X.N[i]? = some x)(hx:Loc X.env.scope x)(r:RelV v u)
  (h:∀ s',Inv X pins (σ.set i (some v)) H s'->(∃ a,Heap.SameBut a s.heap s'.heap∧(a=X.env.locals∨X.env.cells.lookup x=some a))->Q () s') (hf:X.fn x=true∨X.env.scope.names.lookup x=some .local:=by first | exact .inl rfl | exact .inr rfl | assumption):wpAny M A (storeName X.env x u) Q E s:=by
 obtain ⟨m,hn,hl⟩:=id I.loc
 have hcls:(X.env.scope.kind == .class || (X.env.scope.kind == .module && X.env.locals != X.env.globals))=false:=by rw [I.ok.kind];rfl
 have hiσ:i < σ.length:=by rw [I.len];exact (List.getElem?_eq_some_iff.mp hi).1
 have cne:=I.cne
 have tracked:∀ {a:Addr} {h':Heap},(∃ o,s.heap.get? a=some o∧H a=none)->Heap.SameBut a s.heap h'->HOk X.prog X.w H h':=λ{a h'} ha hs b ob e=>by
  obtain ⟨_,_,hfree⟩:=ha
  refine (I.hok b ob e).stay (λc w' hc q=>(hs.2 c ?_).trans q) (λ_ q=>q) λ_ _ q=>q
  rintro rfl
  rcases hc with rfl | hc
  ·rw [hfree] at e;cases e
  ·rw [hfree] at hc;cases hc
 rcases hx with hk | hk
 ·refine wpAny_storeName_local hk hn (λh' hn' hs=>?_) hcls
  obtain ⟨oL,_,_,hoL,_⟩:=id hn
  refine h _ ⟨I.ok,I.os,I.bare,⟨λb o e n hb hx=>?_,λb o e n hb hx=>?_,I.base.free,λb o e hx=>?_,I.base.tups,I.base.frzs,I.base.tbls⟩,⟨_,hn',λj y v' e1 e2 e3=>?_⟩,λy c e=>?_,I.free,I.freeC,λp hp=>?_,tracked ⟨oL,hoL,I.free⟩ hs,by simpa using I.len⟩ ⟨_,hs,.inl rfl⟩
  ·exact (hs.2 b (Nat.ne_of_lt (Nat.lt_of_lt_of_le (Heap.lt_size e) I.ok.above))).trans (I.base.keep b o e n hb hx)
  ·obtain ⟨sl,e1⟩:=I.base.slot b o e n hb hx
   exact ⟨sl,(hs.2 b (Nat.ne_of_lt (Nat.lt_of_lt_of_le (Heap.lt_size e) I.ok.above))).trans e1⟩
  ·obtain ⟨o',e1⟩:=I.base.there b o e hx
   exact ⟨o',(hs.2 b (Nat.ne_of_lt (Nat.lt_of_lt_of_le (Heap.lt_size e) I.ok.above))).trans e1⟩
  ·by_cases hj:j=i
   ·subst hj
    rw [hi] at e1;cases e1
    rw [List.getElem?_set_self hiσ] at e2
    cases e2
    exact ⟨u,r,.inl ⟨hk,by simp⟩⟩
   ·rw [List.getElem?_set_ne (Ne.symm hj)] at e2
    obtain ⟨u',r',q⟩:=hl j y v' e1 e2 e3
    refine ⟨u',r',?_⟩
    rcases q with ⟨k,e⟩ | ⟨k,c,e,z⟩
    ·refine .inl ⟨k,?_⟩
     have:y≠x:=λe=>hj (nodup_ix hN e1 (e ▸ hi))
     simp [this,e]
    ·exact .inr ⟨k,c,e,z.sameBut hs (cne y c e)⟩
  ·obtain ⟨w',z⟩:=I.cell y c e
   exact ⟨w',z.sameBut hs (cne y c e)⟩
  ·obtain ⟨e,n,ne,nf,d⟩:=I.pin p hp
   exact ⟨(hs.2 p.1 ne).trans e,n,ne,nf,d⟩
 ·have hfn:X.fn x=true:=by
   rcases hf with z | z
   ·exact z
   ·rw [z] at hk;cases hk
  obtain ⟨c,hc⟩:=I.ok.has x (.inl hk)
  obtain ⟨w',z⟩:=I.cell x c hc
  refine wpAny_storeName_cell I.ok.kind hk hc z (λh' hc' hs=>?_)
  obtain ⟨oc,hoc,hocd⟩:=id z
  refine h { s with heap:=h' } ⟨I.ok,I.os,I.bare,⟨λb o e n hb hx=>?_,λb o e n hb hx=>?_,I.base.free,λb o e hx=>?_,I.base.tups,I.base.frzs,I.base.tbls⟩,⟨m,hn.sameBut hs (Ne.symm (cne x c hc)),λj y v' e1 e2 e3=>?_⟩,λy c' e=>?_,I.free,I.freeC,λp hp=>?_,tracked ⟨oc,hoc,I.freeC x c hc⟩ hs,by simpa using I.len⟩ ⟨c,hs,.inr hc⟩
  ·exact (hs.2 b (Nat.ne_of_lt (Nat.lt_of_lt_of_le (Heap.lt_size e) (I.ok.cab x c hfn hc)))).trans (I.base.keep b o e n hb hx)
  ·obtain ⟨sl,e1⟩:=I.base.slot b o e n hb hx
   exact ⟨sl,(hs.2 b (Nat.ne_of_lt (Nat.lt_of_lt_of_le (Heap.lt_size e) (I.ok.cab x c hfn hc)))).trans e1⟩
  ·obtain ⟨o',e1⟩:=I.base.there b o e hx
   exact ⟨o',(hs.2 b (Nat.ne_of_lt (Nat.lt_of_lt_of_le (Heap.lt_size e) (I.ok.cab x c hfn hc)))).trans e1⟩
  ·by_cases hj:j=i
   ·subst hj
    rw [hi] at e1;cases e1
    rw [List.getElem?_set_self hiσ] at e2
    cases e2
    exact ⟨u,r,.inr ⟨.inl hk,c,hc,hc'⟩⟩
   ·rw [List.getElem?_set_ne (Ne.symm hj)] at e2
    obtain ⟨u',r',q⟩:=hl j y v' e1 e2 e3
    refine ⟨u',r',?_⟩
    rcases q with q | ⟨k,c',e,z'⟩
    ·exact .inl q
    ·refine .inr ⟨k,c',e,z'.sameBut hs ?_⟩
     rintro rfl
     exact hj (nodup_ix hN e1 (I.ok.inj _ _ _ e hc ▸ hi))
  ·by_cases hcc:c' = c
   ·subst hcc;exact ⟨_,hc'⟩
   ·obtain ⟨w2,z2⟩:=I.cell y c' e
    exact ⟨w2,z2.sameBut hs hcc⟩
  ·obtain ⟨e,n,ne,nf,d⟩:=I.pin p hp
   refine ⟨(hs.2 p.1 ?_).trans e,n,ne,nf,d⟩
   intro q
   rw [q,hoc] at e
   have q':oc=p.2:=Option.some.inj e
   exact d w' (by rw [← q'];exact hocd)
theorem store_ok {M:Model}{A:Around}{E:Value->Shared->Prop}{i:Nat}{x:Str}{v:V}{u:Value}{Q:Unit->Shared->Prop}(I:Inv X pins σ H s)(hN:X.N.Nodup)(hi:X.N[i]? = some x)(hx:Loc X.env.scope x)(r:RelV v u)
  (h:∀ s',Inv X pins (σ.set i (some v)) H s'->Q () s') (hf:X.fn x=true∨X.env.scope.names.lookup x=some .local:=by first | exact .inl rfl | exact .inr rfl | assumption):wpAny M A (storeName X.env x u) Q E s :=
 store_ok2 I hN hi hx r (λs' I' _=>h s' I') hf
theorem Inv.call' {s':Shared}{ch:List Addr}(I:Inv X pins σ H s)(ho:s'.os=s.os)(u:Un (frs X.stack) ch H H' s.heap s'.heap)(hok:HOk X.prog X.w H' s'.heap)(hg:AllBare s'.gens)
  (hch:∀ b∈ch,(b∈X.ex∨X.s₀.heap.objs.size≤b)∧b≠X.env.locals∧(∀ x c,X.env.cells.lookup x=some c->c≠b)∧∀ p∈X.pn++pins,p.1≠b):Inv X pins σ H' s':=by
 obtain ⟨h',g',d',t',o'⟩:=s'
 have e:o' = s.os:=ho
 subst e
 exact I.call (g':=g') (t':=t') (d':=d') u hok hg hch
end
noncomputable abbrev XK:=Value->Option Addr->Hp->Prop
noncomputable abbrev St:=List (Option V)
noncomputable abbrev VK:=V->Hp->Prop
noncomputable abbrev TE:=St->Hp->VK->Prop
noncomputable abbrev TT:=St->Hp->(Bool->Hp->Prop)->Prop
noncomputable abbrev TA:=St->Hp->(List V->Hp->Prop)->Prop
structure Ends where
 nx:St->Hp->Prop
 rt:VK
 bk:St->Hp->Prop:=λ_ _=>False
 ct:St->Hp->Prop:=λ_ _=>False
noncomputable abbrev TS:=Ends->St->Hp->Prop
noncomputable def EP (X:Cx)(pins:List (Addr×Obj))(σ:St)(Q:VK)(u:Value)(s':Shared):Prop:=∃ v H',Inv X pins σ H' s' ∧ RelV v u∧Q v H'
noncomputable def TP (X:Cx)(pins:List (Addr×Obj))(σ:St)(Q:Bool->Hp->Prop)(b:Bool)(s':Shared):Prop:=∃ H',Inv X pins σ H' s' ∧ Q b H'
noncomputable def AP (X:Cx)(pins:List (Addr×Obj))(σ:St)(Q:List V->Hp->Prop)(us:List Value)(s':Shared):Prop:=∃ vs H',Inv X pins σ H' s' ∧ Vals vs us∧Q vs H'
noncomputable def SP (X:Cx)(pins:List (Addr×Obj))(D:Ends)(f:Flow)(s':Shared):Prop :=
 match f with
 | .next=>∃ σ' H',Inv X pins σ' H' s' ∧ D.nx σ' H'
 | .brk=>∃ σ' H',Inv X pins σ' H' s' ∧ D.bk σ' H'
 | .cont=>∃ σ' H',Inv X pins σ' H' s' ∧ D.ct σ' H'
 | .ret u=>∃ v σ' H',Inv X pins σ' H' s' ∧ RelV v u∧D.rt v H'
noncomputable def PE (X:Cx)(e:Expr)(t:TE):Prop :=
 ∀ (pins:List (Addr×Obj)) (s:Shared) (σ:St) (H:Hp) (Q:VK),Inv X pins σ H s->t σ H Q->wpAny (model X.prog X.w) X.A (eval e X.env) (EP X pins σ Q) X.xe s
noncomputable def PT (X:Cx)(e:Expr)(t:TT):Prop :=
 ∀ (pins:List (Addr×Obj)) (s:Shared) (σ:St) (H:Hp) (Q:Bool->Hp->Prop),Inv X pins σ H s->t σ H Q->wpAny (model X.prog X.w) X.A (isTrue e X.env (eval e X.env)) (TP X pins σ Q) X.xe s
noncomputable def PW (X:Cx)(e:Expr)(t:TT):Prop :=
 ∀ (whole:Sem Value) (pins:List (Addr×Obj)) (s:Shared) (σ:St) (H:Hp) (Q:Bool->Hp->Prop),Inv X pins σ H s->t σ H Q->wpAny (model X.prog X.w) X.A (isTrue e X.env whole) (TP X pins σ Q) X.xe s
theorem PW.pt {X:Cx}{e:Expr}{t:TT}(h:PW X e t):PT X e t:=h _
noncomputable def PA (X:Cx)(es:List Expr)(t:TA):Prop :=
 ∀ (pos:Pos) (pins:List (Addr×Obj)) (s:Shared) (σ:St) (H:Hp) (Q:List V->Hp->Prop),Inv X pins σ H s->t σ H Q->wpAny (model X.prog X.w) X.A (spliced (backTo pos (starEach es X.env))) (AP X pins σ Q) X.xe s
noncomputable def PS (X:Cx)(st:Stmt)(t:TS):Prop :=
 ∀ (pins:List (Addr×Obj)) (s:Shared) (σ:St) (H:Hp) (D:Ends),Inv X pins σ H s->t D σ H->wpAny (model X.prog X.w) X.A (exec st X.env) (SP X pins D) X.xe s
noncomputable def PSs (X:Cx)(st:List Stmt)(t:TS):Prop :=
 ∀ (pins:List (Addr×Obj)) (s:Shared) (σ:St) (H:Hp) (D:Ends),Inv X pins σ H s->t D σ H->wpAny (model X.prog X.w) X.A (execs st X.env) (SP X pins D) X.xe s
theorem thn {α:Type}{t:Sem α}{Q Q':α->Shared->Prop}{M:Model}{A:Around}{E:Value->Shared->Prop}{s:Shared}(h:wpAny M A t Q E s)(hQ:∀ a s,Q a s->Q' a s):wpAny M A t Q' E s:=wpAny_mono h hQ λ_ _ x=>x
end L2
namespace L2
open PySem PySem.Spec PyProof.Rows
section
variable {X:Cx}
noncomputable def tVar (i:Nat):TE:=λσ H Q=>∃ v,σ[i]? = some (some v)∧Q v H
noncomputable def tC (v:V):TE:=λ_ H Q=>Q v H
theorem pe_var {i:Nat}{x:Str}{pos:Pos}(hN:X.N[i]? = some x)(hv:Vis X.env.scope x)(hd:(x == ("__debug__":Str))=false:=by decide)(hcd:(x == ("__classdict__":Str))=false:=by decide):PE X (.Name x pos) (tVar i):=by
 intro pins s σ H Q I h
 obtain ⟨v,e,h⟩:=h
 obtain ⟨m,hn,hl⟩:=I.loc
 obtain ⟨u,r,l⟩:=hl i x v hN e hv
 have fin:EP X pins σ Q u s:=⟨v,H,I,r,h⟩
 rcases l with ⟨hk,hm⟩ | ⟨hk,c,hc,hcell⟩
 ·exact wpAny_Name (wpAny_loadName_local I.ok.kind hk hn hm fin) hd
 ·rcases hk with hk | hk
  ·exact wpAny_Name (wpAny_loadName_cell I.ok.kind hk hc hcell fin) hd
  ·exact wpAny_Name (wpAny_loadName_free I.ok.kind hk hc hcell fin hcd) hd
theorem pe_int {i j pos}:PE X (.Constant (.int i) j pos) (tC (.int i)):=λ_ _ _ H _ I h=>wpAny_Constant_int ⟨.int i,H,I.tok _,⟨_,rfl⟩,h⟩
theorem pe_bl {b j pos}:PE X (.Constant (.bool b) j pos) (tC (.bl b)):=λ_ _ _ H _ I h=>Constant_bool ⟨.bl b,H,I,rfl,h⟩
theorem pe_non {j pos}:PE X (.Constant .none j pos) (tC .non):=λ_ _ _ H _ I h=>Constant_none ⟨.non,H,I,rfl,h⟩
theorem pe_str {x j pos}:PE X (.Constant (.str x) j pos) (tC (.str x)):=λ_ _ _ H _ I h=>Calls.Constant_str ⟨.str x,H,I.tok _,⟨_,rfl⟩,h⟩
noncomputable def Gl (X:Cx)(x:Str):Prop:=X.env.kindOf x=some .globalImplicit
theorem ld_glob {E:Value->Shared->Prop}{pins:List (Addr×Obj)}{s:Shared}{σ:St}{H:Hp}{x:Str}{u:Value}{pos:Pos}{Q:Value->Shared->Prop}(I:Inv X pins σ H s)(hg:Gl X x)(hm:X.mg x=some u)(h:Q u s)
  (hd:(x == ("__debug__":Str))=false:=by decide):wpAny (model X.prog X.w) X.A (eval (.Name x pos) X.env) Q E s :=
 Calls.Name_function_global I.ok.kind hg (Calls.loadGlobal_global (by rw [I.ok.glob];exact I.mod.glob.keeps I.bk) hm h) hd
theorem ld_blt {E:Value->Shared->Prop}{pins:List (Addr×Obj)}{s:Shared}{σ:St}{H:Hp}{x:Str}{u:Value}{pos:Pos}{Q:Value->Shared->Prop}(I:Inv X pins σ H s)(hg:Gl X x)(hm:X.mg x=none)(hv:bootBuiltins x=some u)(h:Q u s)
  (hn:x ≠ "__name__":=by decide) (hd:(x == ("__debug__":Str))=false:=by decide):wpAny (model X.prog X.w) X.A (eval (.Name x pos) X.env) Q E s:=by
 obtain ⟨mb,h1,h2⟩:=I.mod.blt
 exact Calls.Name_function_global I.ok.kind hg (Calls.loadGlobal_builtin (by rw [I.ok.glob];exact I.mod.glob.keeps I.bk) hm (by rw [I.ok.blt];exact h1.keeps I.bk) ((h2 x hn).trans hv) h) hd
theorem pe_glob {x:Str}{v:V}{u:Value}{pos:Pos}(hg:Gl X x)(hm:X.mg x=some u)(r:RelV v u)(hd:(x == ("__debug__":Str))=false:=by decide):PE X (.Name x pos) (tC v) :=
 λ_ _ _ H _ I h=>ld_glob I hg hm ⟨v,H,I,r,h⟩ hd
theorem pe_bltn {x:Str}{v:V}{u:Value}{pos:Pos}(hg:Gl X x)(hm:X.mg x=none)(hv:bootBuiltins x=some u)(r:RelV v u)(hn:x ≠ "__name__":=by decide)(hd:(x == ("__debug__":Str))=false:=by decide):PE X (.Name x pos) (tC v) :=
 λ_ _ _ H _ I h=>ld_blt I hg hm hv ⟨v,H,I,r,h⟩ hn hd
variable {a b:Expr}{ta tb:TE}{pos:Pos}
variable {tA tB':TT}{rest:List Expr}
noncomputable def tAnd (t u:TT):TT:=λσ H Q=>t σ H λc H1=>if c=true then u σ H1 Q else Q false H1
noncomputable def tOr (t u:TT):TT:=λσ H Q=>t σ H λc H1=>if c=true then Q true H1 else u σ H1 Q
noncomputable def tNot (t:TT):TT:=λσ H Q=>t σ H λc H1=>Q (!c) H1
theorem pw_and1 (ha:PT X a tA):PW X (.BoolOp .And [a] pos) tA:=by
 intro wh pins s σ H Q I h
 refine isTrue_and (thn (ha pins s σ H Q I h) λc s1 e=>?_)
 cases c with
 | true=>exact isTrue_and_nil e
 | false=>exact e
theorem pw_or1 (ha:PT X a tA):PW X (.BoolOp .Or [a] pos) tA:=by
 intro wh pins s σ H Q I h
 refine isTrue_or (thn (ha pins s σ H Q I h) λc s1 e=>?_)
 cases c with
 | false=>exact isTrue_or_nil e
 | true=>exact e
theorem pw_and (ha:PT X a tA)(hb:PW X (.BoolOp .And (b::rest) pos) tB'):PW X (.BoolOp .And (a::b::rest) pos) (tAnd tA tB'):=by
 intro wh pins s σ H Q I h
 refine isTrue_and (thn (ha pins s σ H _ I h) λc s1 ⟨H1,I1,q1⟩=>?_)
 cases c with
 | true=>exact hb wh pins s1 σ H1 Q I1 q1
 | false=>exact ⟨H1,I1,q1⟩
theorem pw_or (ha:PT X a tA)(hb:PW X (.BoolOp .Or (b::rest) pos) tB'):PW X (.BoolOp .Or (a::b::rest) pos) (tOr tA tB'):=by
 intro wh pins s σ H Q I h
 refine isTrue_or (thn (ha pins s σ H _ I h) λc s1 ⟨H1,I1,q1⟩=>?_)
 cases c with
 | true=>exact ⟨H1,I1,q1⟩
 | false=>exact hb wh pins s1 σ H1 Q I1 q1
theorem pt_not (ha:PT X a tA):PT X (.UnaryOp .Not a pos) (tNot tA):=by
 intro pins s σ H Q I h
 exact isTrue_not (ha pins s σ H (λc H1=>Q (!c) H1) I h)
noncomputable def tAndV (ta tb:TE):TE:=λσ H Q=>ta σ H λx H1=>∃ c,x = .bl c∧if c=true then tb σ H1 Q else Q (.bl false) H1
noncomputable def tNotV (ta:TE):TE:=λσ H Q=>ta σ H λx H1=>∃ c,x = .bl c∧Q (.bl (!c)) H1
theorem pe_one {op}{t:TE}(h:PE X a t):PE X (.BoolOp op [a] pos) t:=λpins s σ H Q I hw=>BoolOp_one (h pins s σ H Q I hw)
theorem pe_and (ha:PE X a ta)(hb:PE X (.BoolOp .And (b::rest) pos) tb):PE X (.BoolOp .And (a::b::rest) pos) (tAndV ta tb):=by
 intro pins s σ H Q I h
 refine BoolOp_and (thn (ha pins s σ H _ I h) λv s1 ⟨x,H1,I1,r1,q1⟩=>?_)
 obtain ⟨c,rfl,q1⟩:=q1
 cases r1
 refine wpAny_truthy_bool ?_
 cases c with
 | true=>exact hb pins s1 σ H1 Q I1 q1
 | false=>exact ⟨.bl false,H1,I1,rfl,q1⟩
theorem pe_not (ha:PE X a ta):PE X (.UnaryOp .Not a pos) (tNotV ta):=by
 intro pins s σ H Q I h
 refine UnaryOp_ (thn (ha pins s σ H _ I h) λv s1 ⟨x,H1,I1,r1,q1⟩=>?_)
 obtain ⟨c,rfl,q1⟩:=q1
 cases r1
 exact not_of (wpAny_truthy_bool ⟨.bl (!c),H1,I1,rfl,q1⟩)
noncomputable def tIf (t:TT)(ta tb:TE):TE:=λσ H Q=>t σ H λc H1=>if c=true then ta σ H1 Q else tb σ H1 Q
theorem pe_ifExp {c:Expr}(hc:PT X c tA)(ha:PE X a ta)(hb:PE X b tb):PE X (.IfExp c a b pos) (tIf tA ta tb):=by
 intro pins s σ H Q I h
 refine wpAny_IfExp (thn (hc pins s σ H _ I h) λd s1 ⟨H1,I1,q1⟩=>?_)
 cases d with
 | true=>exact ha pins s1 σ H1 Q I1 q1
 | false=>exact hb pins s1 σ H1 Q I1 q1
end
end L2
namespace L2
open PySem PySem.Spec PyProof.Rows
noncomputable def SqL (K:PySem.W.Frag)(H:Hp)(a:Addr)(xs:List V):Prop :=
 Rd H a (.lst xs) ∨
  ∃ (o:Obj) (its:Array Value) (n:Nat),K.lookup a=some o∧o.cls = .type "list" ∧ o.dict=none∧o.data = .seq its n∧its.size≤sizeLine∧Vals xs its.toList
noncomputable def SqT (K:PySem.W.Frag)(H:Hp)(a:Addr)(xs:List V):Prop :=
 Rd H a (.tup xs) ∨
  ∃ (o:Obj) (its:Array Value) (n:Nat),K.lookup a=some o∧o.cls = .type "tuple" ∧ o.data = .seq its n∧its.size≤sizeLine∧Vals xs its.toList
noncomputable def absV:Value->Option V
 | .none=>some .non
 | .bool b=>some (.bl b)
 | .int i _=>some (.int i)
 | .str x _=>some (.str x)
 | .bytes b _=>some (.byt b)
 | .float b _=>some (.flt b)
 | .ref a=>some (.ref a)
 | .type n=>some (.ty n)
 | _=>none
theorem RelV.abs {x:V}{u:Value}(r:RelV x u):absV u=some x:=by
 cases x with
 | non=>cases r;rfl
 | bl _=>cases r;rfl
 | int _=>obtain ⟨t,rfl⟩:=r;rfl
 | str _=>obtain ⟨t,rfl⟩:=r;rfl
 | byt _=>obtain ⟨t,rfl⟩:=r;rfl
 | flt _=>obtain ⟨t,rfl⟩:=r;rfl
 | ref _=>cases r;rfl
 | ty _=>cases r;rfl
theorem RelV.inj {x y:V}{u:Value}(r:RelV x u)(q:RelV y u):x=y:=Option.some.inj (r.abs.symm.trans q.abs)
theorem Vals.inj:∀ {xs ys:List V} {us:List Value},Vals xs us->Vals ys us->xs=ys
 | _,_,_,.nil,.nil=>rfl
 | _,_,_,.cons r t,.cons r' t'=>by rw [r.inj r',Vals.inj t t']
section
variable {X:Cx}{pins:List (Addr×Obj)}{σ:St}{H:Hp}{s:Shared}{a:Addr}{xs ys:List V}
theorem SqL.of {K:PySem.W.Frag}(h:H a=some (.lst xs)):SqL K H a xs:=.inl (.inl h)
theorem SqT.of {K:PySem.W.Frag}(h:H a=some (.tup xs)):SqT K H a xs:=.inl (.inl h)
theorem Inv.list (I:Inv X pins σ H s)(h:SqL X.K H a xs):∃ its:List Value,Vals xs its∧PlainL s.heap a its.toArray∧xs.length≤sizeLine:=by
 rcases h with h | ⟨o,its,n,hk,hc,hd,hs,hz,r⟩
 ·obtain ⟨z,its,n,r,e⟩:=h.ok I.hok
  exact ⟨its,r,⟨_,n,e,rfl,rfl,rfl⟩,z⟩
 ·refine ⟨its.toList,r,⟨o,n,I.kIn a o hk,hc,hd,by simpa using hs⟩,?_⟩
  have e:=r.length
  simp only [Array.length_toList] at e
  omega
theorem Inv.tuple (I:Inv X pins σ H s)(h:SqT X.K H a xs):∃ its:List Value,Vals xs its∧IsTup s.heap a its.toArray∧xs.length≤sizeLine:=by
 rcases h with h | ⟨o,its,n,hk,hc,hs,hz,r⟩
 ·obtain ⟨z,its,r,p⟩:=h.ok I.hok
  exact ⟨its,r,p,z⟩
 ·refine ⟨its.toList,r,⟨o,I.kIn a o hk,hc,n,by simpa using hs⟩,?_⟩
  have e:=r.length
  simp only [Array.length_toList] at e
  omega
theorem Inv.list_inj (I:Inv X pins σ H s)(h:SqL X.K H a xs)(h':SqL X.K H a ys):xs=ys:=by
 obtain ⟨its,r,⟨o,n,e,_,_,d⟩,_⟩:=I.list h
 obtain ⟨its',r',⟨o',n',e',_,_,d'⟩,_⟩:=I.list h'
 rw [e] at e';cases e'
 rw [d] at d'
 injection d' with d1 _
 have:its=its':=by simpa using congrArg Array.toList d1
 subst this
 exact r.inj r'
theorem Inv.tuple_inj (I:Inv X pins σ H s)(h:SqT X.K H a xs)(h':SqT X.K H a ys):xs=ys:=by
 obtain ⟨its,r,⟨o,e,_,n,d⟩,_⟩:=I.tuple h
 obtain ⟨its',r',⟨o',e',_,n',d'⟩,_⟩:=I.tuple h'
 rw [e] at e';cases e'
 rw [d] at d'
 injection d' with d1 _
 have:its=its':=by simpa using congrArg Array.toList d1
 subst this
 exact r.inj r'
end
noncomputable abbrev Cx.wish (X:Cx)(E:Value->Shared->Prop):Cx:={ X with xe:=E }
noncomputable abbrev Cx.nox (X:Cx):Cx:=X.wish λ_ _=>False
theorem Cx.Ok.wish {X:Cx}(ok:X.Ok)(E:Value->Shared->Prop):(X.wish E).Ok :=
 ⟨ok.mod,ok.kind,ok.glob,ok.blt,ok.above,ok.inj,ok.has,ok.cab,ok.hd,ok.frames,ok.stk,ok.exf,ok.bs,ok.bsz,ok.noex,ok.exfs,ok.funs,ok.frf⟩
theorem Cx.Ok.unwish {X:Cx}{E:Value->Shared->Prop}(ok:(X.wish E).Ok):X.Ok :=
 ⟨ok.mod,ok.kind,ok.glob,ok.blt,ok.above,ok.inj,ok.has,ok.cab,ok.hd,ok.frames,ok.stk,ok.exf,ok.bs,ok.bsz,ok.noex,ok.exfs,ok.funs,ok.frf⟩
section
variable {X:Cx}{pins:List (Addr×Obj)}{σ:St}{H:Hp}{s:Shared}{E:Value->Shared->Prop}
theorem Inv.wish (I:Inv X pins σ H s)(E:Value->Shared->Prop):Inv (X.wish E) pins σ H s:=⟨I.ok.wish E,I.os,I.bare,I.base,I.loc,I.cell,I.free,I.freeC,I.pin,I.hok,I.len⟩
theorem Inv.unwish (I:Inv (X.wish E) pins σ H s):Inv X pins σ H s:=⟨I.ok.unwish,I.os,I.bare,I.base,I.loc,I.cell,I.free,I.freeC,I.pin,I.hok,I.len⟩
theorem SP.unwish {D:Ends}{f:Flow}{s':Shared}(h:SP (X.wish E) pins D f s'):SP X pins D f s':=by
 cases f with
 | next=>obtain ⟨σ',H',I,q⟩:=h;exact ⟨σ',H',I.unwish,q⟩
 | brk=>obtain ⟨σ',H',I,q⟩:=h;exact ⟨σ',H',I.unwish,q⟩
 | cont=>obtain ⟨σ',H',I,q⟩:=h;exact ⟨σ',H',I.unwish,q⟩
 | ret u=>obtain ⟨v,σ',H',I,r,q⟩:=h;exact ⟨v,σ',H',I.unwish,r,q⟩
theorem PT.nox {e:Expr}{t:TT}(h:PT X.nox e t):PT X e t:=λpins s σ H Q I hw =>
 wpAny_mono (h pins s σ H Q (I.wish _) hw) (λ_ _ ⟨H',I',q⟩=>⟨H',I'.unwish,q⟩) λ_ _ z=>False.elim z
theorem PSs.nox {st:List Stmt}{t:TS}(h:PSs X.nox st t):PSs X st t:=λpins s σ H D I hw =>
 wpAny_mono (h pins s σ H D (I.wish _) hw) (λ_ _ q=>q.unwish) λ_ _ z=>False.elim z
end
section
variable {X:Cx}{st:Stmt}{rest:List Stmt}{t u:TS}{e:Expr}{te:TE}{pos:Pos}
noncomputable def tNext:TS:=λD σ H=>D.nx σ H
noncomputable def tSeq (t u:TS):TS:=λD σ H=>t { D with nx:=u D } σ H
theorem pss_nil:PSs X [] tNext:=λ_ _ σ H _ I h=>wpAny_execs_nil ⟨σ,H,I,h⟩
theorem pss_cons (h1:PS X st t)(h2:PSs X rest u):PSs X (st::rest) (tSeq t u):=by
 intro pins s σ H D I h
 refine wpAny_execs_cons (thn (h1 pins s σ H { D with nx:=u D } I h) λf s1 q=>?_)
 cases f with
 | next =>
  obtain ⟨σ',H',I',q⟩:=q
  exact h2 pins s1 σ' H' D I' q
 | ret v=>exact q
 | brk=>exact q
 | cont=>exact q
theorem pss_one (h1:PS X st t):PSs X [st] t:=by
 intro pins s σ H D I h
 refine wpAny_execs_cons (thn (h1 pins s σ H D I h) λf s1 q=>?_)
 cases f with
 | next=>exact wpAny_execs_nil q
 | ret v=>exact q
 | brk=>exact q
 | cont=>exact q
theorem Inv.quiet {pins:List (Addr×Obj)}{σ:St}{H:Hp}{s:Shared}(I:Inv X pins σ H s):interactive X.env=false:=by simp [interactive,I.ok.kind]
noncomputable def tDrop (te:TE):TS:=λD σ H=>te σ H λ_ H1=>D.nx σ H1
theorem ps_expr (he:PE X e te)(hs:swapsWith e none pos.line X.env=pure false:=by rfl):PS X (.Expr e pos) (tDrop te):=by
 intro pins s σ H D I h
 exact wpAny_Expr_any (thn (he pins s σ H _ I h) λv s1 ⟨x,H1,I1,r1,q1⟩=>⟨σ,H1,I1,q1⟩) I.quiet hs
noncomputable def tRet (te:TE):TS:=λD σ H=>te σ H D.rt
theorem ps_ret (he:PE X e te):PS X (.Return (some e) pos) (tRet te):=by
 intro pins s σ H D I h
 exact wpAny_Return_some (thn (he pins s σ H _ I h) λv s1 ⟨x,H1,I1,r1,q1⟩=>⟨x,σ,H1,I1,r1,q1⟩)
noncomputable def tIfS (c:TT)(t u:TS):TS:=λD σ H=>c σ H λb H1=>if b=true then t D σ H1 else u D σ H1
theorem ps_if {c:Expr}{a b:List Stmt}{tc:TT}(hc:PT X c tc)(ha:PSs X a t)(hb:PSs X b u):PS X (.If c a b pos) (tIfS tc t u):=by
 intro pins s σ H D I h
 refine wpAny_If (thn (hc pins s σ H _ I h) λd s1 ⟨H1,I1,q1⟩=>?_)
 cases d with
 | true=>exact ha pins s1 σ H1 D I1 q1
 | false=>exact hb pins s1 σ H1 D I1 q1
end
noncomputable abbrev TG:=V->St->Hp->(St->Hp->Prop)->Prop
noncomputable abbrev TGs:=List V->St->Hp->(St->Hp->Prop)->Prop
noncomputable def PG (X:Cx)(target:Expr)(t:TG):Prop :=
 ∀ (pins:List (Addr×Obj)) (s:Shared) (σ:St) (H:Hp) (v:V) (u:Value) (Q:St->Hp->Prop),Inv X pins σ H s->RelV v u->t v σ H Q ->
  wpAny (model X.prog X.w) X.A (assign target X.env u) (λ_ s'=>∃ σ' H',Inv X pins σ' H' s' ∧ Q σ' H') X.xe s
noncomputable def PGs (X:Cx)(ts:List Expr)(t:TGs):Prop :=
 ∀ (pins:List (Addr×Obj)) (s:Shared) (σ:St) (H:Hp) (vs:List V) (us:List Value) (Q:St->Hp->Prop),Inv X pins σ H s->Vals vs us->t vs σ H Q ->
  wpAny (model X.prog X.w) X.A (assignInOrder ((assignEach ts X.env).map (·.2)) us) (λ_ s'=>∃ σ' H',Inv X pins σ' H' s' ∧ Q σ' H') X.xe s
noncomputable abbrev TSet:=V->V->V->Hp->(Hp->Prop)->Prop
noncomputable def PSet (X:Cx)(t:TSet):Prop :=
 ∀ (pins:List (Addr×Obj)) (s:Shared) (σ:St) (H:Hp) (o i v:V) (ov iv u:Value) (Q:Hp->Prop),Inv X pins σ H s->RelV o ov->RelV i iv->RelV v u->t o i v H Q ->
  wpAny (model X.prog X.w) X.A (setItem ov iv u) (λ_ s'=>∃ H',Inv X pins σ H' s' ∧ Q H') X.xe s
section
variable {X:Cx}{pos:Pos}
noncomputable def gName (i:Nat):TG:=λv σ H Q=>Q (σ.set i (some v)) H
theorem pg_name {i:Nat}{x:Str}(hN:X.N.Nodup)(hi:X.N[i]? = some x)(hx:Loc X.env.scope x)(hf:X.fn x=true∨X.env.scope.names.lookup x=some .local:=by first | exact .inl rfl | exact .inr rfl | assumption):PG X (.Name x pos) (gName i):=by
 intro pins s σ H v u Q I r h
 exact wpAny_assign_Name (store_ok I hN hi hx r (λs' I'=>⟨_,H,I',h⟩) hf)
noncomputable def gNil:TGs:=λvs σ H Q=>vs=[]∧Q σ H
noncomputable def gCons (t:TG)(u:TGs):TGs:=λvs σ H Q=>∃ v r,vs=v::r∧t v σ H λσ' H'=>u r σ' H' Q
theorem pgs_nil:PGs X [] gNil:=by
 intro pins s σ H vs us Q I r h
 obtain ⟨e,h⟩:=h
 subst e
 cases r
 exact assignInOrder_nil ⟨σ,H,I,h⟩
theorem pgs_cons {e:Expr}{es:List Expr}{t:TG}{u:TGs}(h1:PG X e t)(h2:PGs X es u)
  (hs:(assignEach (e::es) X.env).map (·.2)=assign e X.env::(assignEach es X.env).map (·.2):=by rfl):PGs X (e::es) (gCons t u):=by
 intro pins s σ H vs us Q I r h
 obtain ⟨v,vr,e1,h⟩:=h
 subst e1
 cases r with
 | cons r rr =>
  rw [hs]
  refine assignInOrder_cons (thn (h1 pins s σ H _ _ _ I r h) λ_ s1 ⟨σ1,H1,I1,q1⟩=>?_)
  exact h2 pins s1 σ1 H1 _ _ Q I1 rr q1
noncomputable def gTup (K:PySem.W.Frag)(n:Nat)(t:TGs):TG:=λv σ H Q=>∃ a xs,v = .ref a∧SqT K H a xs∧xs.length=n∧t xs σ H Q
theorem pg_tup {es:List Expr}{k:Nat}{t:TGs}{n:Nat}(hc:X.calm=true)(h:PGs X es t)
  (hn:(assignEach es X.env).length=n:=by rfl) (hst:(assignEach es X.env).findIdx? (·.1)=none:=by rfl):PG X (.Tuple es k pos) (gTup X.K n t):=by
 intro pins s σ H v u Q I r hw
 obtain ⟨a,xs,e1,hq,hl,hw⟩:=hw
 subst e1
 cases r
 obtain ⟨its,rv,ht,hz⟩:=I.tuple hq
 refine assign_Tuple_tuple (I.ok.hd hc) ht (by simp [hn,← hl,rv.length]) hst λh' hx=>?_
 have I1:Inv X pins σ H { s with heap:=h' }:=I.kept (t':=s.toks) λb o e=>hx b o (Nat.ne_of_lt (Heap.lt_size e)) e
 exact h pins _ σ H xs _ Q I1 (by simpa using rv) hw
noncomputable def gSub (to ti:TE)(t:TSet):TG:=λv σ H Q=>to σ H λo H1=>ti σ H1 λi H2=>t o i v H2 λH3=>Q σ H3
theorem pg_sub {o i:Expr}{to ti:TE}{t:TSet}(ho:PE X o to)(hi:PE X i ti)(hs:PSet X t)
  (ha:∀ v,assign (.Subscript o i pos) X.env v=(do
   let ov ← holding [v] (eval o X.env)
   let iv ← holding [v,ov] (eval i X.env)
   standAt pos
   holding [v,ov,iv] (setItem ov iv v)
   release [v,ov,iv] []):=by intro _;rfl):PG X (.Subscript o i pos) (gSub to ti t):=by
 intro pins s σ H v u Q I r h
 rw [ha]
 refine wpAny_bind (wpAny_holding (thn (ho pins s σ H _ I h) λov s1 ⟨x,H1,I1,r1,q1⟩=>?_))
 refine wpAny_bind (wpAny_holding (thn (hi pins s1 σ H1 _ I1 q1) λiv s2 ⟨y,H2,I2,r2,q2⟩=>?_))
 refine wpAny_bind (wpAny_standAt (wpAny_bind (wpAny_holding (thn (hs pins s2 σ H2 x y v ov iv u _ I2 r1 r2 r q2) λ_ s3 ⟨H3,I3,q3⟩=>?_))))
 exact wpAny_release ⟨σ,H3,I3,q3⟩
noncomputable def tAsg (te:TE)(g:TG):TS:=λD σ H=>te σ H λx H1=>g x σ H1 D.nx
theorem ps_asg {tg e:Expr}{te:TE}{g:TG}(he:PE X e te)(hg:PG X tg g)(hs:swapsWithSole [tg] e pos.line X.env=pure false:=by rfl)(hw:swappedStores [tg] e X.env=pure none:=by rfl)
  (h1:(assignEach [tg] X.env).map (·.2)=[assign tg X.env]:=by rfl):PS X (.Assign [tg] e pos) (tAsg te g):=by
 intro pins s σ H D I h
 refine wpAny_Assign_stores (thn (he pins s σ H _ I h) λv s1 ⟨x,H1,I1,r1,q1⟩=>?_) hs hw
 rw [h1]
 exact thn (hg pins s1 σ H1 x v _ I1 r1 q1) λ_ s2 q=>q
theorem ps_set {i:Nat}{x:Str}{e:Expr}{te:TE}{pos':Pos}(hN:X.N.Nodup)(hi:X.N[i]? = some x)(hx:Loc X.env.scope x)(he:PE X e te)(hs:swapsWith e (some (.Name x pos')) pos.line X.env=pure false:=by rfl)(hf:X.fn x=true∨X.env.scope.names.lookup x=some .local:=by first | exact .inl rfl | exact .inr rfl | assumption) :
  PS X (.Assign [.Name x pos'] e pos) (tAsg te (gName i)):=by
 intro pins s σ H D I h
 refine wpAny_Assign_Name (thn (he pins s σ H _ I h) λv s1 ⟨y,H1,I1,r1,q1⟩=>?_) hs
 exact store_ok I1 hN hi hx r1 (λs2 I2=>⟨_,H1,I2,q1⟩) hf
noncomputable def tPar (i j:Nat)(ta:TA):TS:=λD σ H=>ta σ H λvs H1=>∃ v w,vs=[v,w]∧D.nx ((σ.set i (some v)).set j (some w)) H1
theorem ps_par {i j:Nat}{x y:Str}{a b:Expr}{ta:TA}{px py pt:Pos}{kt k2 pt2}(hc:X.calm=true)(hN:X.N.Nodup)(hi:X.N[i]? = some x)(hj:X.N[j]? = some y)(hij:i≠j)
  (hx:X.env.scope.names.lookup x=some .local) (hy:X.env.scope.names.lookup y=some .local) (ha:PA X [a,b] ta)
  (hw:swappedStores [.Tuple [.Name x px,.Name y py] kt pt] (.Tuple [a,b] k2 pt2) X.env=pure (some [x,y]))
  (hs:swapsWithSole [.Tuple [.Name x px,.Name y py] kt pt] (.Tuple [a,b] k2 pt2) pos.line X.env=pure false:=by rfl) :
  PS X (.Assign [.Tuple [.Name x px,.Name y py] kt pt] (.Tuple [a,b] k2 pt2) pos) (tPar i j ta):=by
 intro pins s σ H D I h
 rw [exec_Assign_arm]
 refine wpAny_bind (wpAny_standAt ?_)
 rw [hs]
 refine wpAny_bind (wpAny_pure ?_)
 rw [if_neg (by decide)]
 refine wpAny_bind (Tuple_ (thn (ha _ pins s σ H _ I h) λus s1 ⟨vs,H1,I1,r1,q1⟩=>?_))
 obtain ⟨v,w,e1,q1⟩:=q1
 subst e1
 obtain ⟨u1,u2,rfl,rv,rw'⟩:∃ u1 u2,us=[u1,u2]∧RelV v u1∧RelV w u2:=by
  cases r1 with
  | cons p q =>
   cases q with
   | cons p' q' =>
    cases q'
    exact ⟨_,_,rfl,p,p'⟩
 refine wpAny_newObj_type ?_ (by show 2≤sizeLine;decide)
 have I2:Inv X pins σ H1 { s1 with heap:=s1.heap.push { cls:=.type "tuple",data:=.seq [u1,u2].toArray } }:=I1.kept (t':=s1.toks) λb o e=>Heap.get?_push_of_some _ e
 rw [hw]
 refine wpAny_bind (wpAny_pure ?_)
 show wpAny (model X.prog X.w) X.A (do rule "assign.swapped-stores";let items ← unpackItems (.ref s1.heap.objs.size) 2 none;assignInOrder [λv=>bindName X.env y v,λv=>bindName X.env x v] items.reverse;pure Flow.next) _ _ _
 refine wpAny_bind (wpAny_rule (wpAny_bind (unpackItems_tuple (items:=#[u1,u2]) (I.ok.hd hc) (IsTup.new s1.heap _) λh' hx'=>?_)))
 have I3:=I2.kept (h':=h') (t':=s1.toks) λb o e=>hx' b o (Nat.ne_of_lt (Heap.lt_size e)) e
 show wpAny _ _ (assignInOrder [λv=>bindName X.env y v,λv=>bindName X.env x v] [u2,u1] >>= λ_=>pure Flow.next) _ _ _
 refine wpAny_bind (assignInOrder_cons (wpAny_bindName (store_ok I3 hN hj (.inl hy) rw' (λs2 I4=>?_) (.inr hy))))
 refine assignInOrder_cons (wpAny_bindName (store_ok I4 hN hi (.inl hx) rv (λs3 I5=>assignInOrder_nil (wpAny_pure ?_)) (.inr hx)))
 rw [List.set_comm _ _ (Ne.symm hij)] at I5
 exact ⟨_,H1,I5,q1⟩
end
section
variable {X:Cx}{pos:Pos}
noncomputable def tWhile (c:TT)(tb:TS):TS:=λD σ H=>∃ W:Nat->St->Hp->Prop,(∃ m,W m σ H)∧∀ m σ H,W m σ H ->
 c σ H λb H1=>if b=true then ∃ N:St->Hp->Prop,(∀ σ' H',N σ' H'->∃ m',m' < m∧W m' σ' H')∧tb { D with nx:=N,ct:=N,bk:=D.nx } σ H1 else D.nx σ H1
theorem ps_while {c:Expr}{body:List Stmt}{tc:TT}{tb:TS}(hp:PassesOwn (model X.prog X.w) X.A X.env X.xe)(hc:PT X c tc)(hb:PSs X body tb):PS X (.While c body [] pos) (tWhile tc tb):=by
 intro pins s σ H D I h
 obtain ⟨W,⟨m0,w0⟩,turn⟩:=h
 refine wpAny_While (codeAny_whileLoop (λn s'=>∃ σ' H',Inv X pins σ' H' s' ∧ W n σ' H') ?_ m0 ⟨σ,H,I,w0⟩)
 rintro n s1 ⟨σ1,H1,I1,w1⟩
 refine wpAny_passesOwn hp (thn (hc pins s1 σ1 H1 _ I1 (turn n σ1 H1 w1)) λb s2 ⟨H2,I2,q2⟩=>?_)
 cases b with
 | true =>
  obtain ⟨N,hN,q2⟩:=q2
  rw [if_pos rfl]
  refine wpAny_passesOwn hp (thn (hb pins s2 σ1 H2 _ I2 q2) λf s3 q3=>?_)
  cases f with
  | next =>
   obtain ⟨σ3,H3,I3,n3⟩:=q3
   obtain ⟨m',hm,w3⟩:=hN σ3 H3 n3
   exact ⟨m',hm,σ3,H3,I3,w3⟩
  | cont =>
   obtain ⟨σ3,H3,I3,n3⟩:=q3
   obtain ⟨m',hm,w3⟩:=hN σ3 H3 n3
   exact ⟨m',hm,σ3,H3,I3,w3⟩
  | brk=>exact q3
  | ret v=>exact q3
 | false =>
  rw [if_neg Bool.false_ne_true]
  exact wpAny_execs_nil ⟨σ1,H2,I2,q2⟩
end
structure It where
 go:Nat->Hp->Prop
 yld:Nat->Hp->V->Hp->Prop
 stop:Nat->Hp->Prop
noncomputable def FpOk (X:Cx)(pins:List (Addr×Obj))(H:Hp)(b:Addr):Prop :=
 H b=none∧b≠X.env.locals∧b ∉ X.fs∧(b∈X.ex∨X.s₀.heap.objs.size≤b)∧(∀ x c,X.env.cells.lookup x=some c->c≠b)∧∀ p∈X.pn++pins,p.1≠b
theorem Inv.fpOk {X:Cx}{pins:List (Addr×Obj)}{σ:St}{H H':Hp}{s:Shared}{b:Addr}(I:Inv X pins σ H s)(hb:s.heap.objs.size≤b)(hn:H' b=none):FpOk X pins H' b:=by
 refine ⟨hn,Nat.ne_of_gt (Nat.lt_of_lt_of_le I.lt hb),I.nofs hb,.inr (Nat.le_trans I.sz hb),λx c e z=>?_,λp hp z=>?_⟩
 ·obtain ⟨v,q⟩:=I.cell x c e
  exact absurd (Nat.lt_of_lt_of_le q.lt (by rw [z];exact hb)) (Nat.lt_irrefl _)
 ·exact absurd (Nat.lt_of_lt_of_le (Heap.lt_size (I.pin p hp).1) (by rw [z];exact hb)) (Nat.lt_irrefl _)
structure Turn (P:Program) (w:World) (K:PySem.W.Frag) (tg:Expr) (J:It) (fp:List Addr) (it:Addr) (tn:Nat->Heap->Prop):Prop where
 mem:it∈fp
 obj:∀ i h,tn i h->∀ b∈fp,∃ o,h.get? b=some o∧∀ v,o.data ≠ .cell v
 keep:∀ i h h',tn i h->(∀ b∈fp,∀ o,h.get? b=some o->h'.get? b=some o)->tn i h'
 item:∀ (X:Cx),X.prog=P->X.w=w->X.K=K->X.calm=true->∀ (i:Nat) (pins:List (Addr×Obj)) (s:Shared) (σ:St) (H:Hp) (E:Value->Shared->Prop),Inv X pins σ H s->(∀ b∈fp,FpOk X pins H b)->tn i s.heap->J.go i H ->
  wpAny (model P w) X.A (pyNext (.ref it)) (λr s1=>∃ u,r=some u ∧
   wpAny (model P w) X.A (letOwnedTupleGo tg (.ref it) u) (λ_ s2=>∃ x H',Inv X pins σ H' s2∧RelV x u∧J.yld i H x H' ∧ tn (i+1) s2.heap∧∀ b∈fp,H' b=none) E s1) E s
 done:∀ (X:Cx),X.prog=P->X.w=w->X.K=K->X.calm=true->∀ (i:Nat) (pins:List (Addr×Obj)) (s:Shared) (σ:St) (H:Hp) (E:Value->Shared->Prop),Inv X pins σ H s->(∀ b∈fp,FpOk X pins H b)->tn i s.heap->J.stop i H ->
  wpAny (model P w) X.A (pyNext (.ref it)) (λr s1=>r=none∧Inv X pins σ H s1) E s
 self:∀ (A:Around) (i:Nat) (s:Shared) (Q:Value->Shared->Prop) (E:Value->Shared->Prop),tn i s.heap->Q (.ref it) s->wpAny (model P w) A (pyIter (.ref it)) Q E s
noncomputable abbrev TI:=St->Hp->(It->Hp->Prop)->Prop
noncomputable def PIE (X:Cx)(pins:List (Addr×Obj))(σ:St)(tg:Expr)(R:It->Hp->Prop)(itv:Value)(s2:Shared):Prop :=
 ∃ (it:Addr) (fp:List Addr) (tn:Nat->Heap->Prop) (J:It) (H':Hp),itv = .ref it∧Inv X pins σ H' s2∧Turn X.prog X.w X.K tg J fp it tn∧tn 0 s2.heap∧(∀ b∈fp,FpOk X pins H' b)∧R J H'
noncomputable def PI (X:Cx)(tg iter:Expr)(wi:TI):Prop :=
 ∀ (pins:List (Addr×Obj)) (s:Shared) (σ:St) (H:Hp) (R:It->Hp->Prop),Inv X pins σ H s->wi σ H R ->
  wpAny (model X.prog X.w) X.A (eval iter X.env) (λv s1=>wpAny (model X.prog X.w) X.A (pyIter v) (PIE X pins σ tg R) X.xe s1) X.xe s
theorem go_of {M:Model}{A:Around}{E:Value->Shared->Prop}{s:Shared}{tg:Expr}{it:Addr}{u:Value}{o:Obj}{n:String}{vs:Array Value}{Q:Unit->Shared->Prop}(ho:s.heap.get? it=some o)(hc:o.cls = .type n)(hd:o.data = .fields vs)
    (hn:["enumerate","zip","dict_itemiterator","dict_reverseitemiterator","odict_iterator","itertools.zip_longest","itertools.pairwise"].contains n=false) (hQ:Q () s):wpAny M A (letOwnedTupleGo tg (.ref it) u) Q E s:=by
  unfold letOwnedTupleGo
  cases tg <;> first
    | exact wpAny_pure hQ
    | (cases u <;> first
        | exact wpAny_pure hQ
        | (refine wpAny_bind (wpAny_load ho ?_)
           rw [hc,hd]
           show wpAny M A (if (["enumerate","zip","dict_itemiterator","dict_reverseitemiterator","odict_iterator","itertools.zip_longest","itertools.pairwise"].contains n && vs[0]? == some (rawInt _))=true then _ else _) Q E s
           rw [if_neg (by intro h;rw [hn,Bool.false_and] at h;cases h)]
           exact wpAny_pure hQ))
noncomputable def Itl (K:PySem.W.Frag)(a:Addr):It :=
 ⟨λi H=>∃ xs x,SqL K H a xs∧xs[i]? = some x,λi H x H'=>H' = H∧∀ xs,SqL K H a xs->xs[i]? = some x,λi H=>∃ xs,SqL K H a xs∧xs.length≤i⟩
noncomputable def Itt (K:PySem.W.Frag)(a:Addr):It :=
 ⟨λi H=>∃ xs x,SqT K H a xs∧xs[i]? = some x,λi H x H'=>H' = H∧∀ xs,SqT K H a xs->xs[i]? = some x,λi H=>∃ xs,SqT K H a xs∧xs.length≤i⟩
noncomputable def Itr (lo:Int)(n:Nat):It:=⟨λi _=>i<n,λi H x H'=>H' = H∧x = .int (lo+i),λi _=>n≤i⟩
theorem turn_list {P:Program}{w:World}{K:PySem.W.Frag}{tg:Expr}(a it:Addr):Turn P w K tg (Itl K a) [it] it (λi h=>h.IsListIter it a i) where
 mem:=by simp
 obj:=λi h st b hb=>by
  have e:b=it:=by simpa using hb
  subst e
  obtain ⟨o,e,c,d⟩:=st
  exact ⟨o,e,λv z=>by rw [d] at z;cases z⟩
 keep:=λi h h' st k=>st.at λo e=>k it (by simp) o e
 item:=by
  intro X hP hw hK hc i pins s σ H E I hf st hg
  subst hP hw hK
  obtain ⟨xs,x,hq,hx⟩:=hg
  obtain ⟨its,rv,p,hz⟩:=I.list hq
  obtain ⟨u,hu,ru⟩:=rv.get hx
  obtain ⟨f0,f1,f2,f3,f4,f5⟩:=hf it (by simp)
  refine wpAny_pyNext_list_item st p.isList (x:=u) (by simpa using hu) λh' st' sb=>?_
  have I1:Inv X pins σ H { s with heap:=h' }:=I.turned (t':=s.toks) (λb o hb e=>(sb.2 b hb).trans e) f0 f1 f3 f4 f5
  obtain ⟨o,e,c,d⟩:=id st'
  exact ⟨u,rfl,go_of (s:={ s with heap:=h' }) e c d (by decide) ⟨x,H,I1,ru,⟨rfl,λys hy=>by rw [I.list_inj hy hq];exact hx⟩,st',λb hb=>(hf b hb).1⟩⟩
 done:=by
  intro X hP hw hK hc i pins s σ H E I hf st hg
  subst hP hw hK
  obtain ⟨xs,hq,hx⟩:=hg
  obtain ⟨its,rv,p,hz⟩:=I.list hq
  obtain ⟨f0,f1,f2,f3,f4,f5⟩:=hf it (by simp)
  have hl:=rv.length
  exact wpAny_pyNext_list_end (I.ok.hd hc) st p.isList (by simp;omega) λh' eb=>⟨rfl,I.turned (t':=s.toks) (λb o hb e=>eb b o hb e) f0 f1 f3 f4 f5⟩
 self:=λ_ _ _ _ _ st h=>wpAny_pyIter_listiter st h
theorem turn_tuple {P:Program}{w:World}{K:PySem.W.Frag}{tg:Expr}(a it:Addr):Turn P w K tg (Itt K a) [it] it (λi h=>h.IsTupleIter it a i) where
 mem:=by simp
 obj:=λi h st b hb=>by
  have e:b=it:=by simpa using hb
  subst e
  obtain ⟨o,e,c,d⟩:=st
  exact ⟨o,e,λv z=>by rw [d] at z;cases z⟩
 keep:=λi h h' st k=>st.at λo e=>k it (by simp) o e
 item:=by
  intro X hP hw hK hc i pins s σ H E I hf st hg
  subst hP hw hK
  obtain ⟨xs,x,hq,hx⟩:=hg
  obtain ⟨its,rv,p,hz⟩:=I.tuple hq
  obtain ⟨u,hu,ru⟩:=rv.get hx
  obtain ⟨f0,f1,f2,f3,f4,f5⟩:=hf it (by simp)
  refine wpAny_pyNext_tuple_item st (show s.heap.IsTuple a its.toArray from p) (x:=u) (by simpa using hu) λh' st' sb=>?_
  have I1:Inv X pins σ H { s with heap:=h' }:=I.turned (t':=s.toks) (λb o hb e=>(sb.2 b hb).trans e) f0 f1 f3 f4 f5
  obtain ⟨o,e,c,d⟩:=id st'
  exact ⟨u,rfl,go_of (s:={ s with heap:=h' }) e c d (by decide) ⟨x,H,I1,ru,⟨rfl,λys hy=>by rw [I.tuple_inj hy hq];exact hx⟩,st',λb hb=>(hf b hb).1⟩⟩
 done:=by
  intro X hP hw hK hc i pins s σ H E I hf st hg
  subst hP hw hK
  obtain ⟨xs,hq,hx⟩:=hg
  obtain ⟨its,rv,p,hz⟩:=I.tuple hq
  obtain ⟨f0,f1,f2,f3,f4,f5⟩:=hf it (by simp)
  have hl:=rv.length
  exact wpAny_pyNext_tuple_end (I.ok.hd hc) st (show s.heap.IsTuple a its.toArray from p) (by simp;omega) λh' eb=>⟨rfl,I.turned (t':=s.toks) (λb o hb e=>eb b o hb e) f0 f1 f3 f4 f5⟩
 self:=λ_ _ _ _ _ st h=>wpAny_pyIter_tupleiter st h
theorem turn_range {P:Program}{w:World}{K:PySem.W.Frag}{tg:Expr}(it:Addr)(lo:Int)(n:Nat):Turn P w K tg (Itr lo n) [it] it (λi h=>IsRangeIter h it (lo+(i:Nat) * 1) ((n:Int) - (i:Nat)) 1) where
 mem:=by simp
 obj:=λi h st b hb=>by
  have e:b=it:=by simpa using hb
  subst e
  exact ⟨_,st,λv z=>by
   have z':Data.fields _=Data.cell v:=z
   cases z'⟩
 keep:=λi h h' st k=>k it (by simp) _ st
 item:=by
  intro X hP hw hK hc i pins s σ H E I hf st hg
  subst hP hw hK
  obtain ⟨f0,f1,f2,f3,f4,f5⟩:=hf it (by simp)
  have W:=Walks.range (prog:=X.prog) (w:=X.w) (I.ok.hd hc) it lo 1 n
  refine W.item i s _ _ hg st λv h' tk hv st' kk=>?_
  obtain ⟨t,rfl⟩:=hv
  have I1:Inv X pins σ H { s with heap:=h',toks:=tk }:=I.turned (λb o hb e=>kk b o (by simpa using hb) e) f0 f1 f3 f4 f5
  refine ⟨_,rfl,go_of (s:={ s with heap:=h',toks:=tk }) (n:="range_iterator") st' rfl rfl (by decide) ⟨.int (lo+i),H,I1,⟨t,?_⟩,⟨rfl,rfl⟩,st',λb hb=>(hf b hb).1⟩⟩
  rw [Int.mul_one]
 done:=by
  intro X hP hw hK hc i pins s σ H E I hf st hg
  subst hP hw hK
  obtain ⟨f0,f1,f2,f3,f4,f5⟩:=hf it (by simp)
  exact wpAny_pyNext_range_end (I.ok.hd hc) st (by have:n≤i:=hg;omega) λh' eb=>⟨rfl,I.turned (t':=s.toks) (λb o hb e=>eb b o hb e) f0 f1 f3 f4 f5⟩
 self:=λ_ _ _ _ _ st h=>wpAny_pyIter_rangeiter st h
end L2
namespace L2
open PySem PySem.Spec PyProof.Rows
section
variable {X:Cx}{tg:Expr}
theorem range_it {pins:List (Addr×Obj)}{σ:St}{H:Hp}{s:Shared}{R:It->Hp->Prop}{E:Value->Shared->Prop}{lo hi:Int}{t u v:Tok}{tk:Nat}(I:Inv X pins σ H s)(h1:-(2 ^ 62)≤lo)(h2:lo<2 ^ 62)(h3:-(2 ^ 62)≤hi)(h4:hi<2 ^ 62)
  (q:R (Itr lo (hi - lo).toNat) H):wpAny (model X.prog X.w) X.A (pyIter (.ref s.heap.objs.size)) (PIE X pins σ tg R) E { s with heap:=s.heap.push { cls:=.type "range",data:=.fields #[.int lo t,.int hi u,.int 1 v] },toks:=tk }:=by
 refine wpAny_pyIter_range (IsRange.new ..) (small_one h1 h2 h3 h4) ?_
 have I1:Inv X pins σ H { s with heap:=s.heap.push { cls:=.type "range",data:=.fields #[.int lo t,.int hi u,.int 1 v] },toks:=tk }:=I.kept λb o e=>Heap.get?_push_of_some _ e
 refine ⟨(s.heap.push { cls:=.type "range",data:=.fields #[.int lo t,.int hi u,.int 1 v] }).objs.size,[(s.heap.push { cls:=.type "range",data:=.fields #[.int lo t,.int hi u,.int 1 v] }).objs.size],_,_,H,rfl,
  I1.kept (t':=tk) λb o e=>Heap.get?_push_of_some _ e,turn_range _ lo (hi - lo).toNat,?_,λb hb=>?_,q⟩
 ·have e1:lo+((0:Nat):Int) * 1=lo:=by simp
  have e2:(((hi - lo).toNat:Nat):Int) - ((0:Nat):Int)=Builtin.Range.rangeSize lo hi 1:=by rw [rangeSize_one];split <;> omega
  show IsRangeIter _ _ (lo+((0:Nat):Int) * 1) ((((hi - lo).toNat:Nat):Int) - ((0:Nat):Int)) 1
  rw [e1,e2]
  exact Heap.get?_push_size _ rfl
 ·have e:b=(s.heap.push { cls:=.type "range",data:=.fields #[.int lo t,.int hi u,.int 1 v] }).objs.size:=by simpa using hb
  subst e
  exact I1.fpOk (Nat.le_refl _) (I1.hok.fresh (Nat.le_refl _))
noncomputable def iRng1 (ta:TA):TI:=λσ H R=>ta σ H λvs H1=>∃ j:Int,vs=[.int j] ∧ -(2 ^ 62)≤j∧j<2 ^ 62∧R (Itr 0 j.toNat) H1
noncomputable def iRng2 (ta:TA):TI:=λσ H R=>ta σ H λvs H1=>∃ i j:Int,vs=[.int i,.int j]∧(-(2 ^ 62)≤i∧i<2 ^ 62 ∧ -(2 ^ 62)≤j∧j<2 ^ 62)∧R (Itr i (j - i).toNat) H1
theorem pi_range1 {a:Expr}{ta:TA}{p pos:Pos}(hg:Gl X "range")(hm:X.mg "range" = none)(ha:PA X [a] ta)(hs:starEach [a] X.env=[(false,eval a X.env)]:=by rfl):PI X tg (.Call (.Name "range" p) [a] [] pos) (iRng1 ta):=by
 intro pins s σ H R I h
 refine Call_ (ld_blt I hg hm boot_range (PyProof.Rows.callWith_type1 (thn (ha pos pins s σ H _ I h) λus s1 ⟨vs,H1,I1,r1,q1⟩=>?_) hs rfl))
 obtain ⟨j,e,q1,q2,q⟩:=q1
 subst e
 cases r1 with
 | cons r rr =>
  cases rr
  obtain ⟨t,rfl⟩:=r
  exact call_range_1 (range_it I1 (by omega) (by omega) q1 q2 (by simpa using q))
theorem pi_range2 {a b:Expr}{ta:TA}{p pos:Pos}(hg:Gl X "range")(hm:X.mg "range" = none)(ha:PA X [a,b] ta)(hs:starEach [a,b] X.env=[(false,eval a X.env),(false,eval b X.env)]:=by rfl)(hs2:starEach [b] X.env=[(false,eval b X.env)]:=by rfl) :
  PI X tg (.Call (.Name "range" p) [a,b] [] pos) (iRng2 ta):=by
 intro pins s σ H R I h
 refine Call_ (ld_blt I hg hm boot_range (PyProof.Rows.callWith_type1 (thn (ha pos pins s σ H _ I h) λus s1 ⟨vs,H1,I1,r1,q1⟩=>?_) (by rw [hs,hs2]) (by rw [hs2];rfl)))
 obtain ⟨i,j,e,⟨q1,q2,q3,q4⟩,q⟩:=q1
 subst e
 cases r1 with
 | cons r rr =>
  cases rr with
  | cons r' rr =>
   cases rr
   obtain ⟨t,rfl⟩:=r
   obtain ⟨t',rfl⟩:=r'
   exact call_range_2 (range_it I1 q1 q2 q3 q4 q)
noncomputable def tFor (wi:TI)(g:TG)(tb:TS):TS:=λD σ H=>wi σ H λJ H1=>∃ W:Nat->Nat->St->Hp->Prop,(∃ m,W 0 m σ H1)∧∀ i m σ H,W i m σ H ->
 (J.stop i H∧D.nx σ H)∨(J.go i H∧∃ N:St->Hp->Prop,(∀ σ' H',N σ' H'->∃ m',m' < m∧W (i+1) m' σ' H')∧∀ x H',J.yld i H x H'->g x σ H' λσ2 H2=>tb { D with nx:=N,ct:=N,bk:=D.nx } σ2 H2)
noncomputable def pinsAt (fp:List Addr)(h:Heap):List (Addr×Obj):=fp.filterMap λb=>(h.get? b).map λo=>(b,o)
theorem mem_pinsAt {fp:List Addr}{h:Heap}{b:Addr}{o:Obj}(hb:b∈fp)(e:h.get? b=some o):(b,o)∈pinsAt fp h:=List.mem_filterMap.mpr ⟨b,hb,by rw [e];rfl⟩
theorem of_pinsAt {fp:List Addr}{h:Heap}{p:Addr×Obj}(hp:p∈pinsAt fp h):p.1∈fp∧h.get? p.1=some p.2:=by
 obtain ⟨b,hb,e⟩:=List.mem_filterMap.mp hp
 cases q:h.get? b with
 | none=>rw [q] at e;cases e
 | some o =>
  rw [q] at e
  have e':(b,o)=p:=Option.some.inj e
  subst e'
  exact ⟨hb,q⟩
theorem Inv.pinned {pins:List (Addr×Obj)}{σ:St}{H:Hp}{s:Shared}{fp:List Addr}(I:Inv X pins σ H s)(hf:∀ b∈fp,FpOk X pins H b)(ho:∀ b∈fp,∃ o,s.heap.get? b=some o∧∀ v,o.data ≠ .cell v):Inv X (pins++pinsAt fp s.heap) σ H s :=
 I.pins_of λp hp=>(List.mem_append.mp hp).elim (λz=>I.pin p (List.mem_append_right _ z)) λz=>by
  obtain ⟨hb,e⟩:=of_pinsAt z
  obtain ⟨f0,f1,f2,_⟩:=hf p.1 hb
  obtain ⟨o,e',d⟩:=ho p.1 hb
  rw [e] at e';cases e'
  exact ⟨e,f0,f1,f2,d⟩
theorem Inv.unpinned {pins pl:List (Addr×Obj)}{σ:St}{H:Hp}{s:Shared}(I:Inv X (pins++pl) σ H s):Inv X pins σ H s:=I.pins_of λp hp=>I.pin p (List.mem_append_right _ (List.mem_append_left _ hp))
theorem ps_for {iter:Expr}{body:List Stmt}{wi:TI}{g:TG}{tb:TS}{pos:Pos}(hp:PassesOwn (model X.prog X.w) X.A X.env X.xe)(hc:X.calm=true)(hi:PI X tg iter wi)(hg:PG X tg g)(hb:PSs X body tb)
  (hs:∀ x,foldedSetIterable iter X.env x=pure x:=by intro _;rfl):PS X (.For tg iter body [] pos) (tFor wi g tb):=by
 intro pins s σ H D I h
 refine wpAny_For (thn (hi pins s σ H _ I h) λv s1 h1=>thn h1 λitv s2 h2=>?_) hs
 obtain ⟨it,fp,tn,J,H2,e,I2,T,st2,f2,W,⟨m0,w0⟩,turn⟩:=h2
 subst e
 -- what stays true of the iterator's objects through the loop
 have stat:∀ {H':Hp},(∀ b∈fp,H' b=none)->∀ b∈fp,FpOk X pins H' b:=λhn b hb=>⟨hn b hb,(f2 b hb).2⟩
 refine codeAny_forLoop_any (λn s'=>∃ i σ' H',Inv X pins σ' H' s' ∧ tn i s'.heap∧(∀ b∈fp,H' b=none)∧W i n σ' H') ?_ m0 ⟨0,σ,H2,I2,st2,λb hb=>(f2 b hb).1,w0⟩
 rintro n s3 ⟨i,σ3,H3,I3,st3,fr3,w3⟩
 rcases turn i n σ3 H3 w3 with ⟨stop,qn⟩ | ⟨go,N,hN,step⟩
 ·refine wpAny_passesOwn hp (thn (T.done X rfl rfl rfl hc i pins s3 σ3 H3 X.xe I3 (stat fr3) st3 stop) λr s4 ⟨hr,I4⟩=>?_)
  subst hr
  exact wpAny_execs_nil ⟨σ3,H3,I4,qn⟩
 ·refine wpAny_passesOwn hp (thn (T.item X rfl rfl rfl hc i pins s3 σ3 H3 X.xe I3 (stat fr3) st3 go) λr s4 ⟨u,hr,h4⟩=>?_)
  subst hr
  refine wpAny_passesOwn hp (thn h4 λ_ s5 ⟨x,H5,I5,r5,y5,st5,fr5⟩=>?_)
  have I5':=I5.pinned (stat fr5) (T.obj _ _ st5)
  refine wpAny_passesOwn hp (thn (hg _ s5 σ3 H5 x u _ I5' r5 (step x H5 y5)) λ_ s6 ⟨σ6,H6,I6,q6⟩=>?_)
  refine wpAny_passesOwn hp (thn (hb _ s6 σ6 H6 _ I6 q6) λf s7 q7=>?_)
  have again:∀ {σ7:St} {H7:Hp},Inv X (pins++pinsAt fp s5.heap) σ7 H7 s7->N σ7 H7->∃ m,m<n∧∃ i σ' H',Inv X pins σ' H' s7∧tn i s7.heap∧(∀ b∈fp,H' b=none)∧W i m σ' H':=λ{σ7 H7} I7 n7=>by
   obtain ⟨m',hm,w7⟩:=hN σ7 H7 n7
   refine ⟨m',hm,i+1,σ7,H7,I7.unpinned,T.keep _ _ _ st5 λb hb o e=>(I7.pin (b,o) (List.mem_append_right _ (List.mem_append_right _ (mem_pinsAt hb e)))).1,λb hb=>?_,w7⟩
   obtain ⟨o,e,d⟩:=T.obj _ _ st5 b hb
   exact (I7.pin (b,o) (List.mem_append_right _ (List.mem_append_right _ (mem_pinsAt hb e)))).2.1
  cases f with
  | next=>obtain ⟨σ7,H7,I7,n7⟩:=q7;exact again I7 n7
  | cont=>obtain ⟨σ7,H7,I7,n7⟩:=q7;exact again I7 n7
  | brk=>obtain ⟨σ7,H7,I7,q7⟩:=q7;exact ⟨σ7,H7,I7.unpinned,q7⟩
  | ret v=>obtain ⟨x7,σ7,H7,I7,r7,q7⟩:=q7;exact ⟨x7,σ7,H7,I7.unpinned,r7,q7⟩
end
end L2
namespace L2
open PySem PySem.Spec PyProof.Rows
noncomputable abbrev R2:=V->V->Hp->VK->Prop
noncomputable def OpR (X:Cx)(f:Value->Value->Sem Value)(r:R2):Prop :=
 ∀ (pins:List (Addr×Obj)) (s:Shared) (σ:St) (H:Hp) (x y:V) (v u:Value) (Q:VK),Inv X pins σ H s->RelV x v->RelV y u->r x y H Q ->
  wpAny (model X.prog X.w) X.A (f v u) (EP X pins σ Q) X.xe s
noncomputable def UnR (X:Cx)(f:Value->Sem Value)(r:V->Hp->VK->Prop):Prop :=
 ∀ (pins:List (Addr×Obj)) (s:Shared) (σ:St) (H:Hp) (x:V) (v:Value) (Q:VK),Inv X pins σ H s->RelV x v->r x H Q ->
  wpAny (model X.prog X.w) X.A (f v) (EP X pins σ Q) X.xe s
noncomputable def CallR (X:Cx)(f:Value)(r:List V->Hp->VK->Prop):Prop :=
 ∀ (pins:List (Addr×Obj)) (s:Shared) (σ:St) (H:Hp) (xs:List V) (us:List Value) (Q:VK),Inv X pins σ H s->Vals xs us->r xs H Q ->
  wpAny (model X.prog X.w) X.A (call f us) (EP X pins σ Q) X.xe s
noncomputable def TruR (X:Cx)(r:V->Hp->(Bool->Hp->Prop)->Prop):Prop :=
 ∀ (pins:List (Addr×Obj)) (s:Shared) (σ:St) (H:Hp) (x:V) (v:Value) (Q:Bool->Hp->Prop),Inv X pins σ H s->RelV x v->r x H Q ->
  wpAny (model X.prog X.w) X.A (truthy v) (TP X pins σ Q) X.xe s
noncomputable def tOp (r:R2)(ta tb:TE):TE:=λσ H Q=>ta σ H λx H1=>tb σ H1 λy H2=>r x y H2 Q
noncomputable def tUn (r:V->Hp->VK->Prop)(ta:TE):TE:=λσ H Q=>ta σ H λx H1=>r x H1 Q
noncomputable def rI (C:Int->Int->Prop)(g:Int->Int->V):R2:=λx y H Q=>∃ i j,x = .int i∧y = .int j∧C i j∧Q (g i j) H
noncomputable def rI0 (g:Int->Int->V):R2:=λx y H Q=>∃ i j,x = .int i∧y = .int j∧Q (g i j) H
noncomputable def rU (g:Int->V):V->Hp->VK->Prop:=λx H Q=>∃ i,x = .int i∧Q (g i) H
section
variable {X:Cx}{a b c:Expr}{ta tb tc:TE}{pos:Pos}
theorem binT (ha:PE X a ta)(hb:PE X b tb){pins:List (Addr×Obj)}{s:Shared}{σ:St}{H:Hp}{R:V->V->Hp->Prop}(I:Inv X pins σ H s)
  (h:ta σ H λx H1=>tb σ H1 λy H2=>R x y H2) {Q:Value->Shared->Prop} {f:Value->Value->Sem Value}
  (hf:∀ v u s2 x y H2,Inv X pins σ H2 s2->RelV x v->RelV y u->R x y H2->wpAny (model X.prog X.w) X.A (f v u) Q X.xe s2) :
  wpAny (model X.prog X.w) X.A (eval a X.env) (λv s₁=>wpAny (model X.prog X.w) X.A (eval b X.env) (λu s₂=>wpAny (model X.prog X.w) X.A (f v u) Q X.xe s₂) X.xe s₁) X.xe s:=by
 refine thn (ha pins s σ H _ I h) λv s1 ⟨x,H1,I1,r1,q1⟩=>?_
 refine thn (hb pins s1 σ H1 _ I1 q1) λu s2 ⟨y,H2,I2,r2,q2⟩=>?_
 exact hf v u s2 x y H2 I2 r1 r2 q2
theorem pe_op {op:Operator}{r:R2}(ho:OpR X (binaryOp op) r)(ha:PE X a ta)(hb:PE X b tb):PE X (.BinOp a op b pos) (tOp r ta tb):=by
 intro pins s σ H Q I h
 exact wpAny_BinOp (binT ha hb I h λv u s2 x y H2 I2 rx ry q=>ho pins s2 σ H2 x y v u Q I2 rx ry q)
theorem pe_un {op:UnaryOp}{r:V->Hp->VK->Prop}(ho:UnR X (unaryOp op) r)(ha:PE X a ta):PE X (.UnaryOp op a pos) (tUn r ta):=by
 intro pins s σ H Q I h
 exact UnaryOp_ (thn (ha pins s σ H _ I h) λv s1 ⟨x,H1,I1,r1,q1⟩=>ho pins s1 σ H1 x v Q I1 r1 q1)
theorem opI {f:Value->Value->Sem Value}{C:Int->Int->Prop}{g:Int->Int->Int}
  (rule:∀ (i j:Int) (t u:Tok) (s:Shared) (Q:Value->Shared->Prop) (E:Value->Shared->Prop),C i j->Q (.int (g i j) s.toks) { s with toks:=s.toks+1 }->wpAny (model X.prog X.w) X.A (f (.int i t) (.int j u)) Q E s) :
  OpR X f (rI C λi j=>.int (g i j)):=by
 intro pins s σ H x y v u Q I rx ry h
 obtain ⟨i,j,rfl,rfl,hc,q⟩:=h
 obtain ⟨t,rfl⟩:=rx
 obtain ⟨t',rfl⟩:=ry
 exact rule i j t t' s _ _ hc ⟨.int (g i j),H,I.tok _,⟨_,rfl⟩,q⟩
theorem opI0 {f:Value->Value->Sem Value}{g:Int->Int->Int}
  (rule:∀ (i j:Int) (t u:Tok) (s:Shared) (Q:Value->Shared->Prop) (E:Value->Shared->Prop),Q (.int (g i j) s.toks) { s with toks:=s.toks+1 }->wpAny (model X.prog X.w) X.A (f (.int i t) (.int j u)) Q E s) :
  OpR X f (rI0 λi j=>.int (g i j)):=by
 intro pins s σ H x y v u Q I rx ry h
 obtain ⟨i,j,rfl,rfl,q⟩:=h
 obtain ⟨t,rfl⟩:=rx
 obtain ⟨t',rfl⟩:=ry
 exact rule i j t t' s _ _ ⟨.int (g i j),H,I.tok _,⟨_,rfl⟩,q⟩
theorem opB0 {f:Value->Value->Sem Value}{g:Int->Int->Bool}
  (rule:∀ (i j:Int) (t u:Tok) (s:Shared) (Q:Value->Shared->Prop) (E:Value->Shared->Prop),Q (.bool (g i j)) s->wpAny (model X.prog X.w) X.A (f (.int i t) (.int j u)) Q E s) :
  OpR X f (rI0 λi j=>.bl (g i j)):=by
 intro pins s σ H x y v u Q I rx ry h
 obtain ⟨i,j,rfl,rfl,q⟩:=h
 obtain ⟨t,rfl⟩:=rx
 obtain ⟨t',rfl⟩:=ry
 exact rule i j t t' s _ _ ⟨.bl (g i j),H,I,rfl,q⟩
noncomputable def CDiv (i j:Int):Prop:=0<j∧j<1073741824
noncomputable def CPow (i j:Int):Prop:=0≤j∧j≤1000000∧i.natAbs<2 ^ 64
noncomputable def CMul (i j:Int):Prop:=(-(2 ^ 64)<i∧i<2 ^ 64)∨(-(2 ^ 64)<j∧j<2 ^ 64)
theorem CMul.ok {i j:Int}(h:CMul i j):IntMulOk i j:=by
 rcases h with ⟨h1,h2⟩ | ⟨h1,h2⟩
 ·exact .of_left (intBits_le_64 h1 h2)
 ·exact .of_right (intBits_le_64 h1 h2)
theorem op_add:OpR X (binaryOp .Add) (rI0 λi j=>.int (i+j)):=opI0 λ_ _ _ _ _ _ _ q=>add_int q
theorem op_sub:OpR X (binaryOp .Sub) (rI0 λi j=>.int (i - j)):=opI0 λ_ _ _ _ _ _ _ q=>sub_int q
theorem op_mul:OpR X (binaryOp .Mult) (rI CMul λi j=>.int (i * j)):=opI λ_ _ _ _ _ _ _ hc q=>mul_int q hc.ok
theorem op_fdiv:OpR X (binaryOp .FloorDiv) (rI CDiv λi j=>.int (i / j)):=opI λi j _ _ _ _ _ hc q=>by
 have h1:(0:Int)<j:=hc.1
 have h2:j<1073741824:=hc.2
 exact floordiv_int (by omega) (by rw [Int.fdiv_eq_ediv_of_nonneg i (by omega)];exact q) (.inl (PyProof.noPylong_small (by omega)))
theorem op_mod:OpR X (binaryOp .Mod) (rI (λ_ j=>0<j) λi j=>.int (i % j)):=opI λi j _ _ _ _ _ hc q=>by
 have h1:(0:Int)<j:=hc
 exact mod_int' (by omega) (by rw [Int.fmod_eq_emod_of_nonneg i (by omega)];exact q)
theorem op_pow:OpR X (binaryOp .Pow) (rI CPow λi j=>.int (i ^ j.toNat)):=opI λ_ _ _ _ _ _ _ hc q=>pow_int_small hc.1 hc.2.1 hc.2.2 q
theorem unI {f:Value->Sem Value}{g:Int->Int}
  (rule:∀ (i:Int) (t:Tok) (s:Shared) (Q:Value->Shared->Prop) (E:Value->Shared->Prop),Q (.int (g i) s.toks) { s with toks:=s.toks+1 }->wpAny (model X.prog X.w) X.A (f (.int i t)) Q E s) :
  UnR X f (rU λi=>.int (g i)):=by
 intro pins s σ H x v Q I rx h
 obtain ⟨i,rfl,q⟩:=h
 obtain ⟨t,rfl⟩:=rx
 exact rule i t s _ _ ⟨.int (g i),H,I.tok _,⟨_,rfl⟩,q⟩
theorem un_neg:UnR X (unaryOp .USub) (rU λi=>.int (-i)):=unI λ_ _ _ _ _ q=>neg_int q
end
noncomputable def scal:V->V->Bool
 | .non,.non=>true | .non,.int _=>true | .int _,.non=>true | .non,.bl _=>true | .bl _,.non=>true | .non,.str _=>true | .str _,.non=>true
 | .int _,.int _=>true | .bl _,.bl _=>true | .str _,.str _=>true | .byt _,.byt _=>true
 | .int _,.str _=>true | .str _,.int _=>true | .bl _,.str _=>true | .str _,.bl _=>true
 | _,_=>false
noncomputable def rEq:R2:=λx y H Q=>scal x y=true∧Q (.bl (decide (x=y))) H
noncomputable def rNe:R2:=λx y H Q=>scal x y=true∧Q (.bl (!decide (x=y))) H
theorem dec_int {i j:Int}:decide (V.int i=V.int j)=(i == j):=by
 rw [Bool.eq_iff_iff]
 simp
theorem dec_bl {i j:Bool}:decide (V.bl i=V.bl j)=(i == j):=by
 rw [Bool.eq_iff_iff]
 simp
theorem dec_str {i j:Str}:decide (V.str i=V.str j)=(i == j):=by
 rw [Bool.eq_iff_iff]
 simp
theorem dec_byt {i j:Array UInt8}:decide (V.byt i=V.byt j)=(i.toList == j.toList):=by
 rw [Bool.eq_iff_iff]
 cases i
 cases j
 simp
section
variable {X:Cx}{a b c:Expr}{ta tb tc:TE}{pos:Pos}
theorem fin_bl {pins:List (Addr×Obj)}{σ:St}{H:Hp}{s:Shared}{Q:VK}{k k':Bool}(I:Inv X pins σ H s)(q:Q (.bl k) H)(e:k=k'):EP X pins σ Q (.bool k') s:=by
 subst e
 exact ⟨.bl k,H,I,rfl,q⟩
theorem op_eq:OpR X (compareOp .Eq) rEq:=by
 intro pins s σ H x y v u Q I rx ry h
 obtain ⟨hs,q⟩:=h
 cases x with
 | non =>
  cases rx
  cases y with
  | non=>cases ry;exact PySem.EqNone.eq_none_none (fin_bl I q (by simp))
  | bl j=>cases ry;exact PySem.EqNone.eq_none_bool (fin_bl I q (by simp))
  | int j=>obtain ⟨t',rfl⟩:=ry;exact PySem.EqNone.eq_none_int (fin_bl I q (by simp))
  | str j=>obtain ⟨t',rfl⟩:=ry;exact PySem.EqNone.eq_none_str (fin_bl I q (by simp))
  | _=>exact absurd (show false=true from hs) Bool.false_ne_true
 | bl i =>
  cases rx
  cases y with
  | non=>cases ry;exact PySem.EqNone.eq_bool_none (fin_bl I q (by simp))
  | bl j=>cases ry;exact eq_bool (fin_bl I q dec_bl)
  | str j=>obtain ⟨t',rfl⟩:=ry;exact PySem.EqMixed.eq_bool_str (fin_bl I q (by simp))
  | _=>exact absurd (show false=true from hs) Bool.false_ne_true
 | int i =>
  obtain ⟨t,rfl⟩:=rx
  cases y with
  | non=>cases ry;exact PySem.EqNone.eq_int_none (fin_bl I q (by simp))
  | int j=>obtain ⟨t',rfl⟩:=ry;exact eq_int (fin_bl I q dec_int)
  | str j=>obtain ⟨t',rfl⟩:=ry;exact PySem.EqMixed.eq_int_str (fin_bl I q (by simp))
  | _=>exact absurd (show false=true from hs) Bool.false_ne_true
 | str i =>
  obtain ⟨t,rfl⟩:=rx
  cases y with
  | non=>cases ry;exact PySem.EqNone.eq_str_none (fin_bl I q (by simp))
  | bl j=>cases ry;exact PySem.EqMixed.eq_str_bool (fin_bl I q (by simp))
  | int j=>obtain ⟨t',rfl⟩:=ry;exact PySem.EqMixed.eq_str_int (fin_bl I q (by simp))
  | str j=>obtain ⟨t',rfl⟩:=ry;exact eq_str (fin_bl I q dec_str)
  | _=>exact absurd (show false=true from hs) Bool.false_ne_true
 | byt i =>
  obtain ⟨t,rfl⟩:=rx
  cases y with
  | byt j=>obtain ⟨t',rfl⟩:=ry;exact PySem.W.eq_bytes (fin_bl I q dec_byt)
  | _=>exact absurd (show false=true from hs) Bool.false_ne_true
 | _=>cases y <;> exact absurd (show false=true from hs) Bool.false_ne_true
theorem op_ne:OpR X (compareOp .NotEq) rNe:=by
 intro pins s σ H x y v u Q I rx ry h
 obtain ⟨hs,q⟩:=h
 cases x with
 | non =>
  cases rx
  cases y with
  | non=>cases ry;exact PySem.EqNone.ne_none_none (fin_bl I q (by simp))
  | bl j=>cases ry;exact PySem.EqNone.ne_none_bool (fin_bl I q (by simp))
  | int j=>obtain ⟨t',rfl⟩:=ry;exact PySem.EqNone.ne_none_int (fin_bl I q (by simp))
  | str j=>obtain ⟨t',rfl⟩:=ry;exact PySem.EqNone.ne_none_str (fin_bl I q (by simp))
  | _=>exact absurd (show false=true from hs) Bool.false_ne_true
 | bl i =>
  cases rx
  cases y with
  | non=>cases ry;exact PySem.EqNone.ne_bool_none (fin_bl I q (by simp))
  | bl j=>cases ry;exact ne_bool (fin_bl I q (congrArg not dec_bl))
  | str j=>obtain ⟨t',rfl⟩:=ry;exact PySem.EqMixed.ne_bool_str (fin_bl I q (by simp))
  | _=>exact absurd (show false=true from hs) Bool.false_ne_true
 | int i =>
  obtain ⟨t,rfl⟩:=rx
  cases y with
  | non=>cases ry;exact PySem.EqNone.ne_int_none (fin_bl I q (by simp))
  | int j=>obtain ⟨t',rfl⟩:=ry;exact ne_int (fin_bl I q (congrArg not dec_int))
  | str j=>obtain ⟨t',rfl⟩:=ry;exact PySem.EqMixed.ne_int_str (fin_bl I q (by simp))
  | _=>exact absurd (show false=true from hs) Bool.false_ne_true
 | str i =>
  obtain ⟨t,rfl⟩:=rx
  cases y with
  | non=>cases ry;exact PySem.EqNone.ne_str_none (fin_bl I q (by simp))
  | bl j=>cases ry;exact PySem.EqMixed.ne_str_bool (fin_bl I q (by simp))
  | int j=>obtain ⟨t',rfl⟩:=ry;exact PySem.EqMixed.ne_str_int (fin_bl I q (by simp))
  | str j=>obtain ⟨t',rfl⟩:=ry;exact ne_str (fin_bl I q (congrArg not dec_str))
  | _=>exact absurd (show false=true from hs) Bool.false_ne_true
 | byt i =>
  obtain ⟨t,rfl⟩:=rx
  cases y with
  | byt j=>obtain ⟨t',rfl⟩:=ry;exact PySem.W.ne_bytes (fin_bl I q (congrArg not dec_byt))
  | _=>exact absurd (show false=true from hs) Bool.false_ne_true
 | _=>cases y <;> exact absurd (show false=true from hs) Bool.false_ne_true
theorem op_lt:OpR X (compareOp .Lt) (rI0 λi j=>.bl (decide (i<j))):=opB0 λ_ _ _ _ _ _ _ q=>lt_int q
theorem op_le:OpR X (compareOp .LtE) (rI0 λi j=>.bl (decide (i≤j))):=opB0 λ_ _ _ _ _ _ _ q=>le_int q
theorem op_gt:OpR X (compareOp .Gt) (rI0 λi j=>.bl (decide (j<i))):=opB0 λ_ _ _ _ _ _ _ q=>gt_int q
theorem op_ge:OpR X (compareOp .GtE) (rI0 λi j=>.bl (decide (j≤i))):=opB0 λ_ _ _ _ _ _ _ q=>ge_int q
theorem nomark (b:Expr){op:CmpOp}(h:op ≠ .In:=by decide)(h2:op ≠ .NotIn:=by decide):behindInMarks op b=false:=by
 have e1:(op == CmpOp.In)=false:=by cases op <;> first | rfl | exact absurd rfl h
 have e2:(op == CmpOp.NotIn)=false:=by cases op <;> first | rfl | exact absurd rfl h2
 cases b <;> simp [behindInMarks,e1,e2]
theorem pe_cmpR {op:CmpOp}{r:R2}(ho:OpR X (compareOp op) r)(ha:PE X a ta)(hb:PE X b tb)(hm:behindInMarks op b=false):PE X (.Compare a [op] [b] pos) (tOp r ta tb):=by
 intro pins s σ H Q I h
 exact wpAny_Compare1 (binT ha hb I h λv u s2 x y H2 I2 rx ry q=>ho pins s2 σ H2 x y v u Q I2 rx ry q) hm
noncomputable def tTest (t:TE):TT:=λσ H Q=>t σ H λx H'=>∃ k,x = .bl k∧Q k H'
theorem pt_cmpR {op:CmpOp}{r:R2}(ho:OpR X (compareOp op) r)(ha:PE X a ta)(hb:PE X b tb)(hm:behindInMarks op b=false):PT X (.Compare a [op] [b] pos) (tTest (tOp r ta tb)):=by
 intro pins s σ H Q I h
 refine wpAny_isTrue_Compare1 (thn (ha pins s σ H _ I h) λv s1 ⟨x,H1,I1,r1,q1⟩=>thn (hb pins s1 σ H1 _ I1 q1) λu s2 ⟨y,H2,I2,r2,q2⟩ =>
  thn (ho pins s2 σ H2 x y v u _ I2 r1 r2 q2) λc s3 ⟨z,H3,I3,r3,k,e,q3⟩=>?_) hm
 subst e
 cases r3
 exact wpAny_truthy_bool ⟨H3,I3,q3⟩
noncomputable def tChain (r r':R2)(ta tb tc:TE):TE:=λσ H Q=>ta σ H λx H1=>tb σ H1 λy H2=>r x y H2 λz H3=>∃ k,z = .bl k ∧
 (if k=true then tc σ H3 λw' H4=>r' y w' H4 Q else Q (.bl false) H3)
theorem pt_chain {op op':CmpOp}{r r':R2}(ho:OpR X (compareOp op) r)(ho':OpR X (compareOp op') r')(ha:PE X a ta)(hb:PE X b tb)(hc:PE X c tc)
  (hm:lastMarks [op,op'] [b,c]=false:=by with_unfolding_all rfl):PT X (.Compare a [op,op'] [b,c] pos) (tTest (tChain r r' ta tb tc)):=by
 intro pins s σ H Q I h
 refine isTrue_chain (thn (ha pins s σ H _ I h) λv s1 ⟨x,H1,I1,r1,q1⟩=>test_link (thn (hb pins s1 σ H1 _ I1 q1) λu s2 ⟨y,H2,I2,r2,q2⟩ =>
  thn (ho pins s2 σ H2 x y v u _ I2 r1 r2 q2) λd s3 ⟨z,H3,I3,r3,k,e,q3⟩=>?_)) hm
 subst e
 cases r3
 refine wpAny_truthy_bool ?_
 cases k with
 | false =>
  obtain ⟨k',e',q'⟩:=q3
  cases e'
  exact ite_ff ⟨H3,I3,q'⟩
 | true =>
  refine ite_tt (test_last (thn (hc pins s3 σ H3 _ I3 q3) λw' s4 ⟨z',H4,I4,r4,q4⟩=>thn (ho' pins s4 σ H4 y z' u w' _ I4 r2 r4 q4) λd' s5 ⟨z2,H5,I5,r5,k2,e2,q5⟩=>?_))
  subst e2
  cases r5
  exact wpAny_truthy_bool ⟨H5,I5,q5⟩
noncomputable def TruV (K:PySem.W.Frag)(x:V)(H:Hp)(k:Bool):Prop :=
 match x with
 | .non=>k=false
 | .bl b=>k=b
 | .int i=>k=(i != 0)
 | .str y=>y.length≤sizeLine∧k=((y.length:Int) != 0)
 | .byt y=>y.size≤sizeLine∧k=((y.size:Int) != 0)
 | .ref p=>(∃ xs,SqL K H p xs∧k = !xs.isEmpty)∨(∃ xs,SqT K H p xs∧k = !xs.isEmpty)∨∃ kvs,H p=some (.dK kvs)∧k = !kvs.isEmpty
 | _=>False
theorem isEmpty_kv {κ:Type}{kvs:List (κ×V)}{vs:List (κ×Value)}(r:KV kvs vs):(!vs.isEmpty) = !kvs.isEmpty:=by
 cases r <;> rfl
theorem isEmpty_of {xs:List V}{its:List Value}(r:Vals xs its):(!its.toArray.isEmpty) = !xs.isEmpty:=by
 cases r <;> simp
theorem line63:(sizeLine:Nat)<2 ^ 63:=by rw [sizeLine_eq];decide
theorem tru_ok:TruR X (λx H Q=>∃ k,TruV X.K x H k∧Q k H):=by
 intro pins s σ H x v Q I rx h
 obtain ⟨k,e,q⟩:=h
 have hl:=line63
 have hs:sizeLine=16777216:=sizeLine_eq
 cases x with
 | non =>
  cases rx
  have e':k=false:=e
  subst e'
  exact truthy_none ⟨H,I,q⟩
 | bl b =>
  cases rx
  have e':k=b:=e
  subst e'
  exact wpAny_truthy_bool ⟨H,I,q⟩
 | int i =>
  obtain ⟨t,rfl⟩:=rx
  have e':k=(i != 0):=e
  subst e'
  exact PySem.P.truthy_int ⟨H,I,q⟩
 | str y =>
  obtain ⟨t,rfl⟩:=rx
  obtain ⟨hy,e'⟩:y.length≤sizeLine∧k=((y.length:Int) != 0):=e
  subst e'
  exact PySem.P.truthy_str (by omega) ⟨H,I.tok _,q⟩
 | byt y =>
  obtain ⟨t,rfl⟩:=rx
  obtain ⟨hy,e'⟩:y.size≤sizeLine∧k=((y.size:Int) != 0):=e
  subst e'
  exact PySem.W.truthy_bytes (by omega) ⟨H,I.tok _,q⟩
 | ref p =>
  cases rx
  have e':(∃ xs,SqL X.K H p xs∧k = !xs.isEmpty)∨(∃ xs,SqT X.K H p xs∧k = !xs.isEmpty)∨∃ kvs,H p=some (.dK kvs)∧k = !kvs.isEmpty:=e
  rcases e' with ⟨xs,hx,e'⟩ | ⟨xs,hx,e'⟩ | ⟨kvs,hx,e'⟩
  ·subst e'
   obtain ⟨its,r,pl,hz⟩:=I.list hx
   have hlen:=r.length
   exact wpAny_truthy_list pl.isList (by simp only [List.size_toArray];omega) ⟨H,I.tok _,by rw [isEmpty_of r];exact q⟩
  ·subst e'
   obtain ⟨its,r,pl,hz⟩:=I.tuple hx
   have hlen:=r.length
   exact truthy_tuple pl (by simp only [List.size_toArray];omega) ⟨H,I.tok _,by rw [isEmpty_of r];exact q⟩
  ·subst e'
   obtain ⟨hz,hS,vs,r,m⟩:kvs.length≤sizeLine∧(p == sysModules)=false∧∃ vs,KV kvs vs∧s.heap.DictOf (mixKind X.prog X.w) p vs:=I.hok p _ hx
   have hlen:kvs.length=vs.length:=Paired.length r
   exact wpAny_truthy_dict hS m (by omega) ⟨H,I.tok _,by rw [isEmpty_kv r];exact q⟩
 | _=>exact (show False from e).elim
theorem pt_truth (ha:PE X a ta)(he:∀ whole,isTrue a X.env whole=(do let v ← whole;standAt a.pos;holding [v] (truthy v))) :
  PT X a (λσ H Q=>ta σ H λx H'=>∃ k,TruV X.K x H' k∧Q k H'):=by
 intro pins s σ H Q I h
 exact isTrue_plain (thn (ha pins s σ H _ I h) λv s1 ⟨x,H1,I1,r1,q1⟩=>tru_ok pins s1 σ H1 x v Q I1 r1 q1) (he _)
theorem op_add_str:OpR X (binaryOp .Add) (λx y H Q=>∃ i j,x = .str i∧y = .str j∧i.length+j.length≤sizeLine∧Q (.str (i++j)) H):=by
 intro pins s σ H x y v u Q I rx ry h
 obtain ⟨i,j,rfl,rfl,hz,q⟩:=h
 obtain ⟨t,rfl⟩:=rx
 obtain ⟨t',rfl⟩:=ry
 exact add_str (λt' tk=>⟨.str (i++j),H,I.tok _,⟨_,rfl⟩,q⟩) hz
theorem vals1 {x:V}{us:List Value}(r:Vals [x] us):∃ u,us=[u]∧RelV x u:=by
 cases r with
 | cons r1 r2=>cases r2;exact ⟨_,rfl,r1⟩
theorem vals2 {x y:V}{us:List Value}(r:Vals [x,y] us):∃ u w',us=[u,w']∧RelV x u∧RelV y w':=by
 cases r with
 | cons r1 r2 =>
  cases r2 with
  | cons r3 r4=>cases r4;exact ⟨_,_,rfl,r1,r3⟩
theorem call_abs:CallR X (.builtin "abs") (λxs H Q=>∃ i,xs=[.int i]∧Q (.int (if i<0 then -i else i)) H):=by
 intro pins s σ H xs us Q I r h
 obtain ⟨i,rfl,q⟩:=h
 obtain ⟨u,rfl,t,rfl⟩:=vals1 r
 exact call_abs_int λu tk=>⟨.int (if i<0 then -i else i),H,I.tok _,⟨_,rfl⟩,q⟩
theorem call_min2 (hc:X.calm=true):CallR X (.builtin "min") (λxs H Q=>∃ i j,xs=[.int i,.int j]∧Q (.int (if j<i then j else i)) H):=by
 intro pins s σ H xs us Q I r h
 obtain ⟨i,j,rfl,q⟩:=h
 obtain ⟨u,w',rfl,⟨t,rfl⟩,⟨t',rfl⟩⟩:=vals2 r
 refine min_two_ints (I.ok.hd hc) λh' tk k=>⟨_,H,I.kept k,?_,q⟩
 by_cases hj:j<i
 ·rw [if_pos hj,if_pos hj];exact ⟨_,rfl⟩
 ·rw [if_neg hj,if_neg hj];exact ⟨_,rfl⟩
end
end L2
namespace L2
open PySem PySem.Spec PyProof.Rows
structure ObjM (h:Heap) (x dx C:Addr) (mA:Str->Option Value):Prop where
 obj:h.get? x=some (PySem.W.instObj C dx)
 ns:h.Ns1 dx mA
 ne:dx≠x
theorem lookIn_ns {h:Heap}{dx:Addr}{mA:Str->Option Value}(n:h.Ns1 dx mA):∃ od,h.get? dx=some od∧∀ name,PySem.W.lookIn name od=some (mA name):=by
 obtain ⟨o,es,ep,ho,hd,hk,_,hm⟩:=n
 refine ⟨o,ho,λname=>?_⟩
 have e:=hm name
 unfold nsFind findBy at e
 rw [← Array.find?_toList] at e
 unfold PySem.W.lookIn
 rw [hd]
 dsimp only
 split
 ·rename_i y q
  rw [q] at e
  exact congrArg some e
 ·rename_i q
  rw [q] at e
  have a:es.toList.any (·.refKey)=false:=by
   rw [List.any_eq_false]
   intro y hy
   obtain ⟨z,t,hkey⟩:=hk y (Array.mem_toList_iff.mp hy)
   simp [DictEntry.refKey,hkey]
  have a':¬ es.toList.any (·.refKey)=true:=by rw [a];exact Bool.false_ne_true
  rw [if_neg a']
  exact congrArg some e
theorem ObjM.look {h:Heap}{x dx C:Addr}{mA:Str->Option Value}(I:ObjM h x dx C mA):∃ od,PySem.W.InstAt h x (PySem.W.instObj C dx) C (some od)∧∀ name,PySem.W.lookIn name od=some (mA name) :=
 let ⟨od,ho,hl⟩:=lookIn_ns I.ns
 ⟨od,⟨I.obj,rfl,rfl,ho⟩,hl⟩
section
variable {prog:Program}{w:World}{A:Around}{E:Value->Shared->Prop}{s:Shared}{K:PySem.W.Frag}{x dx C f:Addr}{mA:Str->Option Value}{name:Str}{v:Value}
end
section
variable {P:Program}{w:World}{H H':Hp}{h h':Heap}{a C dx:Addr}{fs fs':List (Str×V)}
theorem ins_get (hok:HOk P w H h)(e:H a=some (.ins C dx fs)):∃ mA,ObjM h a dx C mA∧(∀ f,RelO (fs.lookup f) (mA f))∧PySem.Within mA (fs.map (·.1))∧fs.length≤1000∧H dx=some (.own a):=by
 obtain ⟨d,z,ne,ob,mA,n,r,q⟩:=(show ObjOk P w H h a (.ins C dx fs) from hok a _ e)
 exact ⟨mA,⟨ob,n,ne⟩,r,q,z,d⟩
end
structure Cls (K:PySem.W.Frag) (C:Addr):Prop where
 pg:PySem.W.plainGet K C Str.empty=true
 hd:PySem.W.hasDictIn K C=true
 po:PySem.W.plainOver K C=true
 sa:PySem.W.findIn K (.ref C) "__setattr__" = some (some (.builtin "object.__setattr__"))
theorem Cls.get {K:PySem.W.Frag}{C:Addr}(c:Cls K C)(f:Str):PySem.W.plainGet K C f=true:=c.pg
section
variable {X:Cx}{pins:List (Addr×Obj)}{σ:St}{H:Hp}{s:Shared}{a C dx:Addr}{fs:List (Str×V)}{f:Str}{v:V}{A:Around}{E:Value->Shared->Prop}
theorem attr_of {prog:Program}{w:World}{env:Env}{e:Expr}{f:Str}{pos:Pos}{s:Shared}{Q:Value->Shared->Prop}(hb:attributeBase e f env (eval e env)=eval e env)
  (h:wpAny (model prog w) A (eval e env) (λo s₁=>wpAny (model prog w) A (getAttr o f true) Q E s₁) E s):wpAny (model prog w) A (eval (.Attribute e f pos) env) Q E s :=
 Attribute_any_ h (by rw [arm_eval_Attribute,hb])
end
section
variable {X:Cx}{o e value:Expr}{f:Str}{pos pos' tpos:Pos}{ta tv:TE}
end
section
variable {X:Cx}{pins:List (Addr×Obj)}{σ:St}{H:Hp}{s:Shared}{A:Around}{E:Value->Shared->Prop}{Q:Value->Shared->Prop}{c:Value}{b:Bool}
inductive TyOf (K:PySem.W.Frag) (H:Hp):V->Value->Prop where
 | non:TyOf K H .non (.type "NoneType")
 | bl (x:Bool):TyOf K H (.bl x) (.type "bool")
 | int (i:Int):TyOf K H (.int i) (.type "int")
 | str (x:Str):TyOf K H (.str x) (.type "str")
 | flt (x:UInt64):TyOf K H (.flt x) (.type "float")
 | lst {a:Addr} {xs:List V} (e:H a=some (.lst xs)):TyOf K H (.ref a) (.type "list")
 | frz {a:Addr} {o:Obj} {xs:List V} (e:H a=some (.frz o (.lst xs))):TyOf K H (.ref a) (.type "list")
 | tup {a:Addr} {xs:List V} (e:H a=some (.tup xs)):TyOf K H (.ref a) (.type "tuple")
 | dK {a:Addr} {kvs:List (Key×V)} (e:H a=some (.dK kvs)):TyOf K H (.ref a) (.type "dict")
 | dT {a:Addr} {kvs:List (List Key×V)} (e:H a=some (.dT kvs)):TyOf K H (.ref a) (.type "dict")
 | ins {a C dx:Addr} {fs:List (Str×V)} (e:H a=some (.ins C dx fs)) (cl:Cls K C) (ha:PySem.W.findIn K (.ref C) "__class__" = some (some (.builtin "object.__class__")))
   (hn:PySem.W.specialIn K (.builtin "object.__class__") "__get__" = some (some (.builtin "getset_descriptor.__get__"))) (htk:PySem.W.takesIn K (.builtin "object.__class__")=some true)
   (hm:PySem.W.mroIn K C (.type "object")=some true):TyOf K H (.ref a) (.ref C)
theorem isinst_ok {x:V}{u t:Value}(I:Inv X pins σ H s)(rx:RelV x u)(ty:TyOf X.K H x t)(e:PySem.W.kitOne X.K t c=some b)(h:∀ tk,Q (.bool b) { s with toks:=tk }) :
  wpAny (model X.prog X.w) A (call (.builtin "isinstance") [u,c]) Q E s:=by
 cases ty with
 | non=>cases (show u=Value.none from rx);exact PySem.W.kia_one PySem.W.kitx_none I.kIn True.intro e (λz=>nomatch z) h
 | bl y=>cases (show u=Value.bool y from rx);exact PySem.W.kia_one PySem.W.kitx_bool I.kIn True.intro e (λz=>nomatch z) h
 | int i=>obtain ⟨t,q⟩:=(show ∃ t,u=Value.int i t from rx);cases q;exact PySem.W.kia_one PySem.W.kitx_int I.kIn True.intro e (λz=>nomatch z) h
 | str y=>obtain ⟨t,q⟩:=(show ∃ t,u=Value.str y t from rx);cases q;exact PySem.W.kia_one PySem.W.kitx_str I.kIn True.intro e (λz=>nomatch z) h
 | flt y=>obtain ⟨t,q⟩:=(show ∃ t,u=Value.float y t from rx);cases q;exact PySem.W.kia_one PySem.W.kitx_float I.kIn True.intro e (λz=>nomatch z) h
 | @lst a xs ea =>
  cases (show u=Value.ref a from rx)
  obtain ⟨_,_,n,_,h1⟩:=(show ObjOk X.prog X.w H s.heap a (.lst xs) from I.hok a _ ea)
  exact PySem.W.kia_one PySem.W.kitx_list I.kIn ⟨_,h1,rfl⟩ e (λz=>nomatch z) h
 | @frz a ob xs ea =>
  cases (show u=Value.ref a from rx)
  obtain ⟨_,_,_,n,_,h1⟩:=(show ObjOk X.prog X.w H s.heap a (.frz ob (.lst xs)) from I.hok a _ ea)
  exact PySem.W.kia_one PySem.W.kitx_list I.kIn ⟨_,h1,rfl⟩ e (λz=>nomatch z) h
 | @tup a xs ea =>
  cases (show u=Value.ref a from rx)
  obtain ⟨_,_,_,p⟩:=(show ObjOk X.prog X.w H s.heap a (.tup xs) from I.hok a _ ea)
  obtain ⟨o,h1,h2,_⟩:=p
  exact PySem.W.kia_one PySem.W.kitx_tuple I.kIn ⟨o,h1,h2⟩ e (λz=>nomatch z) h
 | @dK a kvs ea =>
  cases (show u=Value.ref a from rx)
  obtain ⟨_,_,vs,_,p⟩:=(show ObjOk X.prog X.w H s.heap a (.dK kvs) from I.hok a _ ea)
  obtain ⟨o,es,ep,h1,h2,_⟩:=p
  exact PySem.W.kia_one PySem.W.kitx_dict I.kIn ⟨o,h1,h2.1⟩ e (λz=>nomatch z) h
 | @dT a kvs ea =>
  cases (show u=Value.ref a from rx)
  obtain ⟨_,_,xs,_,o,es,ep,h1,h2,_⟩:=(show ObjOk X.prog X.w H s.heap a (.dT kvs) from I.hok a _ ea)
  exact PySem.W.kia_one PySem.W.kitx_dict I.kIn ⟨o,h1,h2.1⟩ e (λz=>nomatch z) h
 | @ins a C dx fs ea cl ha hn htk hm =>
  cases (show u=Value.ref a from rx)
  obtain ⟨mA,O,_⟩:=ins_get I.hok ea
  obtain ⟨od,J,_⟩:=O.look
  exact PySem.W.kia_one (PySem.W.kitx_own (cl.get _) cl.hd ha hn htk hm) I.kIn J e (λz=>nomatch z) h
end
end L2
namespace L2
open PySem PySem.Spec PyProof.Rows
structure Room (k:Nat) (A:Around):Prop where
 hd:A.handled=none
 dp:A.depth+3 * k+5<recursionLimit
 un:A.units+16 * k+200<cLine
 gd:A.guards=some []
theorem Room.mono {j k:Nat}{A:Around}(r:Room k A)(h:j≤k):Room j A:=⟨r.hd,by have:=r.dp;omega,by have:=r.un;omega,r.gd⟩
theorem Room.deeper {k:Nat}{A:Around}(r:Room (k+1) A)(env:Env):Room k (A.deeper env) :=
 ⟨r.hd,by have:=r.dp;show A.depth+1+3 * k+5<_;omega,by have:=r.un;show A.units+3+16 * k+200<_;omega,r.gd⟩
theorem make_depth {A:Around}{C:Addr}{us:List Value}{kw:List (Str×Value)}:(A.under (.builtin "type.__call__" ⟨.ref C::us,kw⟩)).depth=A.depth+1:=by
 first | rfl | simp [Around.under,Code.weight,Code.isCreation,Code.isGuard,Code.isCaller,Code.frames,Code.isFrame,guardIds]
theorem make_units {A:Around}{C:Addr}{us:List Value}{kw:List (Str×Value)}:(A.under (.builtin "type.__call__" ⟨.ref C::us,kw⟩)).units=A.units+1:=by
 first | rfl | simp [Around.under,Code.cUnits,Code.frames,Code.isFrame]
theorem make_guards {A:Around}{C:Addr}{us:List Value}{kw:List (Str×Value)}(h:A.guards=some []):(A.under (.builtin "type.__call__" ⟨.ref C::us,kw⟩)).guards=some []:=by
 first | exact h | simp [Around.under,Code.guards,Code.isGuard,guardIds,h]
theorem Room.make {k:Nat}{A:Around}(r:Room (k+1) A)(C:Addr)(us:List Value)(kw:List (Str×Value)):Room k (A.under (.builtin "type.__call__" ⟨.ref C::us,kw⟩)) :=
 ⟨r.hd,by have:=r.dp;rw [make_depth];omega,by have:=r.un;rw [make_units];omega,make_guards r.gd⟩
theorem Room.depth {k:Nat}{A:Around}(r:Room k A):A.depth<recursionLimit:=by have:=r.dp;omega
theorem Room.units {k:Nat}{A:Around}(r:Room k A):A.units+64<cLine:=by have:=r.un;omega
noncomputable def tNil:TA:=λ_ H Q=>Q [] H
noncomputable def tCons (ta:TE)(tr:TA):TA:=λσ H Q=>ta σ H λx H1=>tr σ H1 λxs H2=>Q (x::xs) H2
section
variable {X:Cx}{e:Expr}{es:List Expr}{te:TE}{t:TA}{pos:Pos}
theorem pa_nil:PA X [] tNil:=λ_ _ _ _ H Q I h=>Calls.spliced_nil ⟨[],H,I,.nil,h⟩
theorem pa_cons (ha:PE X e te)(hr:PA X es t)(hs:starEach (e::es) X.env=(false,eval e X.env)::starEach es X.env:=by rfl):PA X (e::es) (tCons te t):=by
 intro pos pins s σ H Q I h
 rw [hs]
 show wpAny _ _ (spliced ((false,eval e X.env)::backTo pos (starEach es X.env))) _ _ s
 refine Calls.spliced_cons (thn (ha pins s σ H _ I h) λu s1 ⟨x,H1,I1,r1,q1⟩=>?_)
 exact thn (hr pos pins s1 σ H1 _ I1 q1) λus s2 ⟨xs,H2,I2,r2,q2⟩=>⟨x::xs,H2,I2,.cons r1 r2,q2⟩
noncomputable def tTup (t:TA):TE:=λσ H Q=>t σ H λxs H1=>xs.length≤sizeLine∧∀ p,H1 p=none->Q (.ref p) (upd H1 p (.tup xs))
noncomputable def tLst (t:TA):TE:=λσ H Q=>t σ H λxs H1=>xs.length≤sizeLine∧∀ p,H1 p=none->Q (.ref p) (upd H1 p (.lst xs))
theorem pe_tup {x1}(h:PA X es t):PE X (.Tuple es x1 pos) (tTup t):=by
 intro pins s σ H Q I hq
 refine wpAny_Tuple_spliced (thn (h pos pins s σ H _ I hq) λus s1 ⟨xs,H1,I1,r,z,q⟩=>⟨by rw [← r.length];exact z,?_⟩)
 have hf:H1 s1.heap.objs.size=none:=I1.hok.fresh (Nat.le_refl _)
 refine ⟨.ref s1.heap.objs.size,upd H1 s1.heap.objs.size (.tup xs),I1.laid (t':=s1.toks) (λb u e=>Heap.get?_push_of_some _ e) (Nat.le_refl _) ?_,rfl,q _ hf⟩
 exact ⟨z,us,r,⟨_,Heap.get?_push_size _ rfl,rfl,_,rfl⟩⟩
theorem pe_lst (h:PA X es t):PE X (.List es pos) (tLst t):=by
 intro pins s σ H Q I hq
 refine wpAny_List_spliced (thn (h pos pins s σ H _ I hq) λus s1 ⟨xs,H1,I1,r,z,q⟩=>⟨by rw [← r.length];exact z,?_⟩)
 have hf:H1 s1.heap.objs.size=none:=I1.hok.fresh (Nat.le_refl _)
 refine ⟨.ref s1.heap.objs.size,upd H1 s1.heap.objs.size (.lst xs),I1.laid (t':=s1.toks) (λb u e=>Heap.get?_push_of_some _ e) (Nat.le_refl _) ?_,rfl,q _ hf⟩
 exact ⟨z,us,0,r,Heap.get?_push_size _ rfl⟩
end
noncomputable abbrev Sp:=List V->Hp->VK->XK->Prop
noncomputable abbrev CXT:=List Env->Hp->Shared->XK->Value->Shared->Prop
structure Env0 (P:Program) (w:World) (K:PySem.W.Frag) (mg:Str->Option Value) (base:Heap) (A:Around) (outer:List Env) (s:Shared) (H:Hp):Prop where
 frames:A.frames=some outer
 mod:Mod K mg base
 bs:∀ b o,base.get? b=some o->s.heap.get? b=some o∧H b=none
 bsz:base.objs.size≤s.heap.objs.size
 funs:s.heap.FunFrames base outer
 frf:∀ b∈frs outer,H b=none
 hok:HOk P w H s.heap
 bare:AllBare s.gens
noncomputable def CE (outer:List Env)(P:Program)(w:World)(H:Hp)(s:Shared)(Q:VK)(u:Value)(s':Shared):Prop :=
 ∃ v H',s'.os=s.os∧AllBare s'.gens∧Un (frs outer) [] H H' s.heap s'.heap∧HOk P w H' s'.heap∧RelV v u∧Q v H'
noncomputable def CR (CX:CXT)(outer:List Env)(P:Program)(w:World)(H:Hp)(s:Shared)(Q:VK)(E:XK)(r:Result)(s':Shared):Prop :=
 match r with
 | .ok (.ret u)=>CE outer P w H s Q u s'
 | .ok _=>False
 | .error e=>CX outer H s E e s'
structure FnOk (P:Program) (w:World) (K:PySem.W.Frag) (mg:Str->Option Value) (base:Heap) (CX:CXT) (k:Nat) (f:Addr) (fd:FuncData) (ps:List Str) (sp:Sp):Prop where
 len:∀ vs H Q E,sp vs H Q E->vs.length=ps.length
 run:∀ (A:Around) (outer:List Env) (s:Shared) (H:Hp) (args:Args) (us:List Value) (vs:List V) (Q:VK) (E:XK),Room k A->Env0 P w K mg base A outer s H->BindsTo s fd args (ps.zip us)->Vals vs us->sp vs H Q E ->
  codeAny (model P w) A (.call (.ref f) args) (CR CX outer P w H s Q E) s
section
variable {X:Cx}{pins:List (Addr×Obj)}{σ:St}{H:Hp}{s s':Shared}
theorem Inv.env0 (I:Inv X pins σ H s):Env0 X.prog X.w X.K X.mg X.base X.A X.stack s H :=
 ⟨I.ok.frames,I.ok.mod,I.bs,Nat.le_trans I.ok.bsz I.sz,I.stack,I.stkFree,I.hok,I.bare⟩
theorem Inv.after {Q:VK}{u:Value}(I:Inv X pins σ H s)(h:CE X.stack X.prog X.w H s Q u s'):EP X pins σ Q u s':=by
 obtain ⟨v,H',os,bare,un,hok,r,q⟩:=h
 obtain ⟨hh,g,d,t,os'⟩:=s'
 obtain rfl:os' = s.os:=os
 exact ⟨v,H',I.call (h':=hh) (g':=g) (d':=d) (t':=t) (ch:=[]) un hok bare (λb z=>absurd z (by simp)),r,q⟩
end
noncomputable def tCall (sp:Sp)(dvs:List V)(E:XK)(t:TA):TE:=λσ H Q=>t σ H λvs H1=>sp (vs++dvs) H1 Q E
noncomputable def Binds (K:PySem.W.Frag)(fd:FuncData)(ps:List Str)(ds:List Value):Prop :=
 ∀ (s:Shared) (us:List Value),K.In s.heap->(us++ds).length=ps.length->BindsTo s fd ⟨us,[]⟩ (ps.zip (us++ds))
theorem Binds.all {K:PySem.W.Frag}{fd:FuncData}{ps:List Str}(h:∀ us:List Value,us.length=ps.length->bindArgs fd ⟨us,[]⟩=pure (ps.zip us)):Binds K fd ps []:=λs us _ hl=>by
 rw [List.append_nil] at hl ⊢
 exact .of_eq (h us hl)
noncomputable def Passes (CX:CXT)(X:Cx)(E:XK):Prop:=∀ (pins:List (Addr×Obj)) (σ:St) (H:Hp) (s:Shared) (e:Value) (s':Shared),Inv X pins σ H s->CX X.stack H s E e s'->X.xe e s'
section
variable {X:Cx}{CX:CXT}{k:Nat}{f C:Addr}{fd:FuncData}{ps:List Str}{sp:Sp}{dvs:List V}{ds:List Value}{E:XK}{x m:Str}{p pos apos:Pos}{e o:Expr}{es:List Expr}{ta:TE}{t:TA}
theorem run_fn {pins:List (Addr×Obj)}{σ:St}{H:Hp}{s:Shared}{Q:VK}{us:List Value}{vs:List V}(F:FnOk X.prog X.w X.K X.mg X.base CX k f fd ps sp)(hr:Room k X.A)(hb:Binds X.K fd ps ds)(hd:Vals dvs ds)(hx:Passes CX X E)
  (I:Inv X pins σ H s) (r:Vals vs us) (h:sp (vs++dvs) H Q E):wpAny (model X.prog X.w) X.A (call (.ref f) us) (EP X pins σ Q) X.xe s:=by
 have r2:Vals (vs++dvs) (us++ds):=r.append hd
 have hl:(us++ds).length=ps.length:=by rw [← r2.length];exact F.len _ _ _ _ h
 refine wpAny_call (codeAny_mono (F.run X.A X.stack s H ⟨us,[]⟩ (us++ds) (vs++dvs) Q E hr I.env0 (hb s us I.kIn hl) r2 h) λr s' hq=>?_)
 cases r with
 | error e=>exact hx pins σ H s e s' I hq
 | ok fl =>
  cases fl with
  | ret u=>exact I.after hq
  | next=>exact False.elim hq
  | brk=>exact False.elim hq
  | cont=>exact False.elim hq
theorem pe_call (F:FnOk X.prog X.w X.K X.mg X.base CX k f fd ps sp)(hr:Room k X.A)(hg:Gl X x)(hm:X.mg x=some (.ref f))(hk:PySem.W.keepIn X.K (.ref f)=true)(hb:Binds X.K fd ps ds)(hd:Vals dvs ds)(hx:Passes CX X E)
  (ha:PA X (e::es) t) (hdb:(x == ("__debug__":Str))=false:=by decide) (he:starEach (e::es) X.env=(false,eval e X.env)::starEach es X.env:=by rfl) (hpl:(backTo pos (starEach es X.env)).any (·.1)=false:=by rfl) :
  PE X (.Call (.Name x p) (e::es) [] pos) (tCall sp dvs E t):=by
 intro pins s σ H Q I h
 refine wpAny_Call_Name_kw (ld_glob I hg hm ?_ hdb)
 refine PySem.W.callWith_K (h₀:=X.base) I.ok.mod.kin hk (thn (ha pos pins s σ H _ I h) λus s1 ⟨vs,H1,I1,r,q⟩=>⟨I1.kIn,?_⟩) he hpl
 exact run_fn F hr hb hd hx I1 r q
end
section
variable {X:Cx}{CX:CXT}{k:Nat}{f C:Addr}{fd:FuncData}{ps ks:List Str}{sp:Sp}{E:XK}{x m:Str}{p pos apos kpos:Pos}{e o:Expr}{es:List Expr}{kws:List Keyword}{te ta:TE}{t tk:TA}{nm:Option Str}
variable {g:List Value->List Value->List Value}{gV:List V->List V->List V}
end
structure FnScope (N P:List Str) (sc:Scope):Prop where
 kind:sc.kind = .function
 co:sc.isCoroutine=false
 gen:sc.isGenerator=false
 nd:N.Nodup
 pre:N.take P.length=P
 par:∀ x∈P,sc.names.lookup x=some .local∨sc.names.lookup x=some .cell
 nofree:∀ y∈sc.names,y.2 ≠ .free
theorem bindL_out {kindOf:Str->Option NameKind}{x:Str}:∀ {binds:List (Str×Value)} {m:Str->Option Value},(∀ v,(x,v) ∉ binds)->bindL kindOf binds m x=m x
 | [],_,_=>rfl
 | (n,v)::r,m,h=>by
  unfold bindL
  rw [bindL_out λw hw=>h w (List.mem_cons_of_mem _ hw)]
  split
  ·have:x≠n:=by rintro rfl;exact h v List.mem_cons_self
   simp [this]
  ·rfl
theorem bindC_out {kindOf:Str->Option NameKind}{x:Str}:∀ {binds:List (Str×Value)} {m:Str->Option Value},(∀ v,(x,v) ∉ binds)->bindC kindOf binds m x=m x
 | [],_,_=>rfl
 | (n,v)::r,m,h=>by
  unfold bindC
  rw [bindC_out λw hw=>h w (List.mem_cons_of_mem _ hw)]
  split
  ·rfl
  ·have:x≠n:=by rintro rfl;exact h v List.mem_cons_self
   simp [this]
theorem bindL_get {kindOf:Str->Option NameKind}{x:Str}{v:Value}:∀ {P:List Str} {vs:List Value} {i:Nat} {m:Str->Option Value},P.Nodup->P[i]? = some x->vs[i]? = some v->kindOf x=some .local ->
  bindL kindOf (P.zip vs) m x=some v
 | [],_,_,_,_,h,_,_=>by simp at h
 | _::_,[],_,_,_,_,h,_=>by simp at h
 | p::P,w::vs,0,m,nd,h1,h2,hk=>by
  simp at h1 h2;subst h1;subst h2
  show bindL kindOf ((p,w)::P.zip vs) m p=_
  unfold bindL
  rw [bindL_out λv hv=>(List.nodup_cons.mp nd).1 (List.of_mem_zip hv).1,if_pos hk]
  simp
 | p::P,w::vs,i+1,m,nd,h1,h2,hk=>by
  show bindL kindOf ((p,w)::P.zip vs) m x=_
  unfold bindL
  exact bindL_get (i:=i) (List.nodup_cons.mp nd).2 (by simpa using h1) (by simpa using h2) hk
theorem bindC_get {kindOf:Str->Option NameKind}{x:Str}{v:Value}:∀ {P:List Str} {vs:List Value} {i:Nat} {m:Str->Option Value},P.Nodup->P[i]? = some x->vs[i]? = some v->kindOf x≠some .local ->
  bindC kindOf (P.zip vs) m x=some v
 | [],_,_,_,_,h,_,_=>by simp at h
 | _::_,[],_,_,_,_,h,_=>by simp at h
 | p::P,w::vs,0,m,nd,h1,h2,hk=>by
  simp at h1 h2;subst h1;subst h2
  show bindC kindOf ((p,w)::P.zip vs) m p=_
  unfold bindC
  rw [bindC_out λv hv=>(List.nodup_cons.mp nd).1 (List.of_mem_zip hv).1,if_neg hk]
  simp
 | p::P,w::vs,i+1,m,nd,h1,h2,hk=>by
  show bindC kindOf ((p,w)::P.zip vs) m x=_
  unfold bindC
  exact bindC_get (i:=i) (List.nodup_cons.mp nd).2 (by simpa using h1) (by simpa using h2) hk
noncomputable def start (N:List Str)(vs:List V):St:=vs.map some++List.replicate (N.length - vs.length) none
noncomputable def cxOf (CX:CXT)(P:Program)(w:World)(K:PySem.W.Frag)(mg:Str->Option Value)(base:Heap)(N:List Str)(qual:Str)(scope:Scope)(f:Addr)(cd:Value)(A:Around)(outer:List Env)(s:Shared)(H:Hp)(E:XK):Cx where
 prog:=P
 w:=w
 K:=K
 mg:=mg
 base:=base
 A:=A.deeper (envOfC qual scope s.heap.objs.size f cd)
 N:=N
 s₀:=s
 H₀:=H
 env:=envOfC qual scope s.heap.objs.size f cd
 outer:=outer
 stack:=envOfC qual scope s.heap.objs.size f cd::outer
 ex:=[]
 calm:=true
 fn:=λ_=>true
 pn:=[]
 xe:=λe s'=>wpAny (model P w) (A.deeper (envOfC qual scope s.heap.objs.size f cd)) (leaving (envOfC qual scope s.heap.objs.size f cd) e) (λ_ s''=>CX outer H s E e s'') (λe' s''=>CX outer H s E e' s'') s'
theorem cell_has {sc:Scope}{n:Nat}{x:Str}(h:sc.names.lookup x=some .cell):∃ c,(cellsFrom n sc.names []).lookup x=some c:=by
 have q:=PySem.W.cellsFrom_some sc.names n [] (.inl h)
 exact Option.isSome_iff_exists.mp q
theorem inv_start {CX:CXT}{P:Program}{w:World}{K:PySem.W.Frag}{mg:Str->Option Value}{base:Heap}{N ps:List Str}{qual:Str}{scope:Scope}{f:Addr}{cd:Value}{A:Around}{outer:List Env}{s s1:Shared}{H:Hp}{E:XK}{us:List Value}{vs:List V}
  (S:FnScope N ps scope) (hd:A.handled=none) (e0:Env0 P w K mg base A outer s H) (hl:vs.length=ps.length) (r:Vals vs us)
  (x:InCallC s s.heap.objs.size (bindL (envOfC qual scope s.heap.objs.size f cd).kindOf (ps.zip us) λ_=>none) (cellsFrom (s.heap.objs.size+1) scope.names []) (bindC (envOfC qual scope s.heap.objs.size f cd).kindOf (ps.zip us) λ_=>none) s1) :
  Inv (cxOf CX P w K mg base N qual scope f cd A outer s H E) [] (start N vs) H s1:=by
 have hpl:ps.length≤N.length:=by have:=congrArg List.length S.pre;rw [List.length_take] at this;omega
 obtain ⟨h1,tk,rfl,hk⟩:=x.done
 have noA:∀ b:Addr,b ∉ (cxOf CX P w K mg base N qual scope f cd A outer s H E).ex:=λb z=>absurd (show b∈([]:List Addr) from z) (by simp)
 refine ⟨⟨e0.mod,S.kind,rfl,rfl,Nat.le_refl _,λy z c h1 h2=>?_,λy hy=>?_,λy c _ h=>?_,λ_=>hd,Around.frames_deeper e0.frames,.inr ⟨rfl,rfl⟩,λb z=>absurd z (noA b),e0.bs,e0.bsz,λb _ _=>noA b,λb z=>absurd z (noA b),e0.funs,e0.frf⟩,
  rfl,e0.bare,Un.kept hk,⟨_,x.toInCall.ns,λi y v h1 h2 h3=>?_⟩,λy c h=>⟨_,x.cell y c h⟩,e0.hok.fresh (Nat.le_refl _),λy c h=>?_,λp hp=>absurd (show p∈([]:List (Addr×Obj)) from hp) (by simp),e0.hok.kept hk,?_⟩
 ·exact name_of_addr x.apart (PySem.mem_of_lookup h1) (PySem.mem_of_lookup h2)
 ·have hy:scope.names.lookup y=some .cell∨scope.names.lookup y=some .free:=hy
  rcases hy with hy | hy
  ·exact cell_has hy
  ·exact absurd rfl (S.nofree _ (PySem.mem_of_lookup hy))
 ·exact Nat.le_of_lt (x.above y c (PySem.mem_of_lookup h))
 ·have hi:i<vs.length:=by
   unfold start at h2
   by_cases hi:i<vs.length
   ·exact hi
   ·rw [List.getElem?_append_right (by simpa using hi)] at h2
    rw [List.getElem?_replicate] at h2
    split at h2 <;> cases h2
  have ha:vs[i]? = some v:=by
   unfold start at h2
   rw [List.getElem?_append_left (by simpa using hi),List.getElem?_map] at h2
   cases e:vs[i]? with
   | none=>rw [e] at h2;cases h2
   | some a=>rw [e] at h2;cases h2;rfl
  obtain ⟨u,hu,rv⟩:=r.get ha
  have hp:ps[i]? = some y:=by
   rw [← S.pre,List.getElem?_take_of_lt (by omega)];exact h1
  have ndP:ps.Nodup:=by rw [← S.pre];exact S.nd.sublist (List.take_sublist _ _)
  refine ⟨u,rv,?_⟩
  rcases S.par y (List.mem_of_getElem? hp) with k | k
  ·exact .inl ⟨k,bindL_get ndP hp hu k⟩
  ·obtain ⟨c,e⟩:=cell_has (n:=s.heap.objs.size+1) k
   refine .inr ⟨.inl k,c,e,?_⟩
   have q:=x.cell y c e
   rw [bindC_get ndP hp hu (by show scope.names.lookup y≠_;rw [k];decide)] at q
   exact q
 ·exact e0.hok.fresh (Nat.le_of_lt (x.above y c (PySem.mem_of_lookup h)))
 ·unfold start
  show _=N.length
  rw [List.length_append,List.length_map,List.length_replicate]
  omega
theorem fn_of {CX:CXT}{P:Program}{w:World}{K:PySem.W.Frag}{mg:Str->Option Value}{base:Heap}{k:Nat}{f:Addr}{name qual:Str}{params:Arguments}{body:List Stmt}{scope:Scope}{dV kV doc pm cdv ct oc:Value}{an od:Option Addr}
  {osl:Array (Option Value)} {N ps:List Str} {sp:Sp} (lk:K.lookup f=some ⟨oc,od,.func (PySem.W.fnOf name qual params body scope dV kV doc pm an cdv ct),osl⟩) (hcd:PySem.W.codeIn K cdv qual=true) (S:FnScope N ps scope)
  (len:∀ vs H Q E,sp vs H Q E->vs.length=ps.length)
  (hbody:∀ (A:Around) (outer:List Env) (s:Shared) (H:Hp) (vs:List V) (Q:VK) (E:XK),Room k (A.deeper (envOfC qual scope s.heap.objs.size f cdv))->sp vs H Q E ->
   ∃ t,PSs (cxOf CX P w K mg base N qual scope f cdv A outer s H E) body t∧t { nx:=λ_ H'=>Q .non H',rt:=Q } (start N vs) H) :
  FnOk P w K mg base CX (k+1) f (PySem.W.fnOf name qual params body scope dV kV doc pm an cdv ct) ps sp:=by
 refine ⟨len,λA outer s H args us vs Q E hr e0 hb r hsp=>?_⟩
 have hl:=len _ _ _ _ hsp
 have KX:K.In s.heap:=e0.mod.kin.keeps λb o e=>(e0.bs b o e).1
 have lim:s.heap.NoLimit:=e0.mod.nolimit.keeps λb o e=>(e0.bs b o e).1
 have hkind:∀ y∈ps.zip us,scope.names.lookup y.1=some .local∨(scope.names.lookup y.1=some .cell∧((cellsFrom (s.heap.objs.size+1) scope.names []).lookup y.1).isSome=true):=λ⟨n,v⟩ hy=>by
  rcases S.par n (List.of_mem_zip hy).1 with q | q
  ·exact .inl q
  ·exact .inr ⟨q,PySem.W.cellsFrom_some _ _ _ (.inl q)⟩
 refine codeAny_call_function hr.depth (KX _ _ lk) rfl S.co S.gen rfl (PySem.W.codeRec_of KX hcd) (hb _ _ _ _ ?_)
 refine wpAny_newFunctionEnv_cells S.kind hkind λenv he s1 x=>?_
 subst he
 refine ⟨lim.keeps x.toInCall.keep,codeAny_func ?_⟩
 obtain ⟨t,ht,hq⟩:=hbody A outer s H vs Q E (hr.deeper _) hsp
 have I:Inv (cxOf CX P w K mg base N qual scope f cdv A outer s H E) [] (start N vs) H s1:=inv_start S hr.hd e0 hl r x
 refine wpAny_mono (ht [] s1 (start N vs) H _ I hq) (λfl s' hs=>?_) λe s' hs=>hs
 have fin:∀ {σ':St} {H':Hp} {v:V} {u:Value},Inv (cxOf CX P w K mg base N qual scope f cdv A outer s H E) [] σ' H' s'->RelV v u->Q v H'->CE outer P w H s Q u s' :=
  λ{σ' H' v u} J rv q=>⟨v,H',J.os,J.bare,J.base,J.hok,rv,q⟩
 cases fl with
 | ret u =>
  obtain ⟨v,σ',H',J,rv,q⟩:=hs
  exact fin J rv q
 | next =>
  obtain ⟨σ',H',J,q⟩:=hs
  exact fin (v:=V.non) (u:=Value.none) J rfl q
 | brk =>
  obtain ⟨_,_,_,q⟩:=hs
  exact False.elim q
 | cont =>
  obtain ⟨_,_,_,q⟩:=hs
  exact False.elim q
end L2
namespace L2
open PySem PySem.Spec PyProof.Rows
section
variable {X:Cx}{x:Str}{p pos:Pos}{e:Expr}{es:List Expr}{t:TA}{id T:String}{r:List V->Hp->VK->Prop}
noncomputable def tCB (r:List V->Hp->VK->Prop)(t:TA):TE:=λσ H Q=>t σ H λvs H1=>r vs H1 Q
theorem pe_callB (hc:CallR X (.builtin id) r)(hg:Gl X x)(hm:X.mg x=none)(hv:bootBuiltins x=some (.builtin id))(ha:PA X (e::es) t)(hn:x ≠ "__name__":=by decide)(hdb:(x == ("__debug__":Str))=false:=by decide)
  (he:starEach (e::es) X.env=(false,eval e X.env)::starEach es X.env:=by rfl) (hpl:(backTo pos (starEach es X.env)).any (·.1)=false:=by rfl):PE X (.Call (.Name x p) (e::es) [] pos) (tCB r t):=by
 intro pins s σ H Q I h
 refine wpAny_Call_Name_kw (ld_blt I hg hm hv ?_ hn hdb)
 exact PyProof.Rows.callWith_builtin1 (thn (ha pos pins s σ H _ I h) λus s1 ⟨vs,H1,I1,r1,q1⟩=>hc pins s1 σ H1 vs us Q I1 r1 q1) he hpl
theorem pe_callTy (hc:CallR X (.type T) r)(hg:Gl X x)(hm:X.mg x=none)(hv:bootBuiltins x=some (.type T))(ha:PA X (e::es) t)(hn:x ≠ "__name__":=by decide)(hdb:(x == ("__debug__":Str))=false:=by decide)
  (he:starEach (e::es) X.env=(false,eval e X.env)::starEach es X.env:=by rfl) (hpl:(backTo pos (starEach es X.env)).any (·.1)=false:=by rfl):PE X (.Call (.Name x p) (e::es) [] pos) (tCB r t):=by
 intro pins s σ H Q I h
 refine wpAny_Call_Name_kw (ld_blt I hg hm hv ?_ hn hdb)
 exact PyProof.Rows.callWith_type1 (thn (ha pos pins s σ H _ I h) λus s1 ⟨vs,H1,I1,r1,q1⟩=>hc pins s1 σ H1 vs us Q I1 r1 q1) he hpl
end
end L2
namespace HT
open PySem PyProof.Rows
section
open PySem.SeqAt
open PySem.AutoSeq1 (wpAny_loadPart')
open PySem.MeetsSeq PySem.MeetsSeq2 PySem.MeetsSeq3
end
section
variable {prog:Program}{w:World}{A:Around}{E:Value->Shared->Prop}{s:Shared}
theorem cat_tup {t b:Addr}{vs ws:List Value}{Q:Value->Shared->Prop}(ht:IsTup s.heap t vs.toArray)(hb:IsTup s.heap b ws.toArray)(hv:vs≠[])
  (h1:ws=[]->Q (.ref t) s) (h2:ws≠[]->Q (.ref s.heap.objs.size) { s with heap:=s.heap.push { cls:=.type "tuple",data:=.seq (vs++ws).toArray } })
  (hsz:vs.length+ws.length≤sizeLine):wpAny (model prog w) A (binaryOp .Add (.ref t) (.ref b)) Q E s:=by
 obtain ⟨⟨cls,dd,data,sl⟩,ho,hc,n,hd⟩:=id ht
 obtain ⟨⟨cls2,dd2,data2,sl2⟩,ho2,hc2,n2,hd2⟩:=id hb
 simp only at hc hd hc2 hd2
 subst hc hd hc2 hd2
 have e:vs.toArray++ws.toArray=(vs++ws).toArray:=by simp
 by_cases hw:ws=[]
 ·exact concat_meets ⟨_,ho,rfl⟩ ⟨_,ho2,rfl⟩ noFill_tuple_add seq_tuple_add PySem.F.slot_tuple_add PySem.F.entry_tuple_add (PySem.F.args_tuple_add_2 _ _)
   (tuple_addW1 t b vs.toArray ws.toArray n n2 dd dd2 sl sl2 (by simpa using hv) (by simp [hw])) ⟨ho,ho2,h1 hw⟩
 ·refine concat_meets ⟨_,ho,rfl⟩ ⟨_,ho2,rfl⟩ noFill_tuple_add seq_tuple_add PySem.F.slot_tuple_add PySem.F.entry_tuple_add (PySem.F.args_tuple_add_2 _ _)
   (tuple_addW2 t b vs.toArray ws.toArray n n2 dd dd2 sl sl2 (by simpa using hv) (by simpa using hw) (by rw [List.size_toArray,List.size_toArray];exact hsz)) ⟨ho,ho2,?_⟩
  rw [e]
  exact h2 hw
noncomputable def sIx (n d:Nat):Option Int->Nat
 | none=>d
 | some v=>if v<0 then (v+(n:Int)).toNat else min v.toNat n
theorem sIx_none (n d:Nat):sIx n d none=d:=rfl
theorem sIx_nat (n d k:Nat):sIx n d (some (k:Int))=min k n:=by
 show (if (k:Int)<0 then ((k:Int)+(n:Int)).toNat else min (k:Int).toNat n)=min k n
 rw [if_neg (by omega),Int.toNat_natCast]
theorem sIx_le (n d:Nat)(hd:d≤n)(o:Option Int):sIx n d o≤n:=by
 cases o with
 | none=>exact hd
 | some v =>
  show (if v<0 then (v+(n:Int)).toNat else min v.toNat n)≤n
  by_cases hv:v<0
  ·rw [if_pos hv];omega
  ·rw [if_neg hv];exact Nat.min_le_right _ _
theorem clip_eq (v:Int)(n d:Nat):(if v<0 then max (v+(n:Int)) 0 else min v (n:Int))=((sIx n d (some v):Nat):Int):=by
 show (if v<0 then max (v+(n:Int)) 0 else min v (n:Int))=(((if v<0 then (v+(n:Int)).toNat else min v.toNat n):Nat):Int)
 by_cases hv:v<0
 ·simp only [if_pos hv];omega
 ·simp only [if_neg hv];omega
theorem adjust_gen (lo hi:Option Int)(n:Nat):Builtin.Slice.sliceAdjust lo hi 1 (n:Int)=(((sIx n 0 lo:Nat):Int),((sIx n n hi:Nat):Int)):=by
 have h1:¬ ((1:Int)<0):=by omega
 unfold Builtin.Slice.sliceAdjust
 simp only [h1,if_false]
 refine Prod.ext ?_ ?_
 ·cases lo with
  | none=>rfl
  | some v=>exact clip_eq v n 0
 ·cases hi with
  | none=>rfl
  | some v=>exact clip_eq v n n
theorem places_gen (i j:Nat):Builtin.Slice.slicePlaces (i:Int) (j:Int) 1=j - i:=by
 unfold Builtin.Slice.slicePlaces
 have h1:(1:Int) > 0:=by omega
 simp only [h1,if_true,Int.ediv_one]
 split <;> omega
theorem slicePart_ {v:Value}{o:Option Int}{Q:Option Int->Shared->Prop}(p:IsPart v o)(h:Q o s):wpAny (model prog w) A (Builtin.Slice.slicePartIndex v) Q E s:=by
 cases p with
 | none=>exact slicePart_none h
 | int i t=>exact slicePart_int h
theorem sliceApplied_gen {sl:Addr}{vl vu:Value}{lo hi:Option Int}{n:Nat}{Q:Int×Int×Nat->Shared->Prop}(hs:s.heap.IsSliceOf sl vl vu .none)(pl:IsPart vl lo)(pu:IsPart vu hi)
  (h:Q (((sIx n 0 lo:Nat):Int),1,sIx n n hi - sIx n 0 lo) s):wpAny (model prog w) A (Builtin.Slice.sliceApplied (.ref sl) (pure (n:Int))) Q E s:=by
 obtain ⟨os,hos,hcs,hds⟩:=id hs
 unfold Builtin.Slice.sliceApplied Builtin.Slice.sliceFields
 refine wpAny_bind (wpAny_bind (wpAny_field hos hds (x:=vl) rfl (wpAny_bind (wpAny_field hos hds (x:=vu) rfl (wpAny_bind (wpAny_field hos hds (x:=.none) rfl (wpAny_pure ?_)))))))
 refine wpAny_bind (slicePart_none ?_)
 show wpAny _ _ (if ((1:Int) == 0)=true then _ else _) _ _ s
 rw [if_neg (by decide)]
 refine wpAny_bind (slicePart_ pl (wpAny_bind (slicePart_ pu (wpAny_bind (wpAny_pure ?_)))))
 show wpAny _ _ (match Builtin.Slice.sliceAdjust lo hi 1 (n:Int) with | (lo,hi)=>pure (lo,(1:Int),Builtin.Slice.slicePlaces lo hi 1)) _ _ s
 rw [adjust_gen lo hi n]
 show wpAny _ _ (pure (((sIx n 0 lo:Nat):Int),(1:Int),Builtin.Slice.slicePlaces ((sIx n 0 lo:Nat):Int) ((sIx n n hi:Nat):Int) 1)) _ _ s
 rw [places_gen]
 exact wpAny_pure h
theorem pick_gen (xs:Array Value)(i k:Nat):((List.range k).filterMap λ(m:Nat)=>xs[((i:Int)+(m:Int) * 1).toNat]?).toArray=((xs.toList.drop i).take k).toArray:=by
 have e:(λ(m:Nat)=>xs[((i:Int)+(m:Int) * 1).toNat]?) = λm=>xs[i+m]?:=by
  funext m
  have:((i:Int)+(m:Int) * 1).toNat=i+m:=by omega
  rw [this]
 rw [e]
 have:=pick_run xs i k
 rw [List.filterMap_map] at this
 have e2:((λx=>xs[x]?) ∘ λx=>i+x) = λm=>xs[i+m]?:=rfl
 rw [e2] at this
 rw [this]
theorem getItem_tuple_cut {t sl:Addr}{items:Array Value}{vl vu:Value}{lo hi:Option Int}{Q:Value->Shared->Prop}(ht:IsTup s.heap t items)(hs:s.heap.IsSliceOf sl vl vu .none)(pl:IsPart vl lo)(pu:IsPart vu hi)
  (hw:¬ (sIx items.size 0 lo=0∧sIx items.size items.size hi=items.size))
  (h:Q (.ref s.heap.objs.size) { s with heap:=s.heap.push { cls:=.type "tuple",data:=.seq ((items.toList.drop (sIx items.size 0 lo)).take (sIx items.size items.size hi - sIx items.size 0 lo)).toArray } })
  (hsz:items.size≤sizeLine):wpAny (model prog w) A (getItem (.ref t) (.ref sl)) Q E s:=by
 have htake:sizeOk (.seq ((items.toList.drop (sIx items.size 0 lo)).take (sIx items.size items.size hi - sIx items.size 0 lo)).toArray):=by
  show ((items.toList.drop (sIx items.size 0 lo)).take (sIx items.size items.size hi - sIx items.size 0 lo)).toArray.size≤sizeLine
  rw [List.size_toArray,List.length_take,List.length_drop,Array.length_toList]
  omega
 have hj:sIx items.size items.size hi≤items.size:=sIx_le _ _ (Nat.le_refl _) hi
 obtain ⟨os,hos,hcs,hds⟩:=id hs
 have hTs:s.TypeIs (.ref sl) "slice":=⟨os,hos,hcs⟩
 unfold getItem
 try with_reducible refine wpAny_holding ?_
 first | refine wpAny_bind (wpAny_pure ?_) | skip
 refine wpAny_bind (wpAny_sequenceKey ht.typeIs (by decide) ?_)
 refine wpAny_bind (wpAny_callSpecial?_slot (name:=Str.ofString "__getitem__") ht.typeIs PyProof.Rows.slot_tuple_getitem
  (wpAny_call_entry PyProof.Rows.slot_tuple_getitem ht.typeIs entry_tuple_getitem ?_ (args_tuple_getitem _ _)))
 show wpAny _ _ (Builtin.Tuple.tupleItemsOf (.ref t) >>= _) _ _ s
 refine wpAny_bind (tupleItemsOf_ ht ?_)
 refine wpAny_bind (wpAny_typeOf hTs ?_)
 rw [if_pos (by decide)]
 refine wpAny_bind (sliceApplied_gen hs pl pu ?_)
 have hno:¬ ((((sIx items.size 0 lo:Nat):Int) == 0 && (1:Int) == 1 && (sIx items.size items.size hi - sIx items.size 0 lo) == items.size)=true):=by
  intro q
  rw [Bool.and_eq_true,Bool.and_eq_true] at q
  have q1:((sIx items.size 0 lo:Nat):Int)=0:=eq_of_beq q.1.1
  have q2:sIx items.size items.size hi - sIx items.size 0 lo=items.size:=eq_of_beq q.2
  exact hw ⟨by omega,by omega⟩
 show wpAny _ _ (if (((sIx items.size 0 lo:Nat):Int) == 0 && (1:Int) == 1 && (sIx items.size items.size hi - sIx items.size 0 lo) == items.size)=true then _ else _) _ _ s
 rw [if_neg hno,pick_gen]
 first
  | exact wpAny_bind (m:=Builtin.Tuple.tupleExact _) (wpAny_newObj_type (wpAny_pure ⟨_,rfl,wpAny_pure h⟩) htake)
  | exact wpAny_bind (m:=Builtin.Tuple.tupleExact _) (wpAny_newObj_type (wpAny_bind (wpAny_pure (wpAny_pure ⟨_,rfl,wpAny_pure h⟩))) htake)
  | exact wpAny_bind (wpAny_bind (m:=Builtin.Tuple.tupleExact _) (wpAny_newObj_type (wpAny_pure (wpAny_pure ⟨_,rfl,wpAny_pure h⟩)) htake))
  | exact wpAny_bind (wpAny_bind (m:=Builtin.Tuple.tupleExact _) (wpAny_newObj_type (wpAny_pure ⟨_,rfl,wpAny_pure h⟩) htake))
end
end HT
namespace L2
open PySem PySem.Spec PyProof.Rows
noncomputable abbrev TO:=St->Hp->(Option Int->Hp->Prop)->Prop
noncomputable def PO (X:Cx)(e:Option Expr)(t:TO):Prop :=
 ∀ (pins:List (Addr×Obj)) (s:Shared) (σ:St) (H:Hp) (Q:Option Int->Hp->Prop),Inv X pins σ H s->t σ H Q ->
  wpAny (model X.prog X.w) X.A (evalPart e X.env) (λu s'=>∃ o H',Inv X pins σ H' s' ∧ IsPart u o∧Q o H') X.xe s
noncomputable def tNoPart:TO:=λ_ H Q=>Q none H
noncomputable def tPart (t:TE):TO:=λσ H Q=>t σ H λx H1=>∃ i,x = .int i∧Q (some i) H1
theorem intsAre_of {ns:List Int}:∀ {us:List Value},Vals (ns.map V.int) us->IntsAre us ns:=by
 induction ns with
 | nil=>intro us r;rw [List.map_nil] at r;cases r;exact .nil
 | cons n ns ih =>
  intro us r
  rw [List.map_cons] at r
  cases r with
  | cons r1 r2 =>
   obtain ⟨t,e⟩:=r1
   subst e
   exact .cons n t (ih r2)
section
variable {X:Cx}{e:Expr}{te:TE}{lo hi:Option Expr}{tl th:TO}{pos p2:Pos}
theorem po_none:PO X none tNoPart:=by
 intro pins s σ H Q I h
 rw [evalPart_none]
 exact wpAny_pure ⟨none,H,I,.none,h⟩
theorem po_some (h:PE X e te):PO X (some e) (tPart te):=by
 intro pins s σ H Q I hw
 rw [evalPart_some]
 refine thn (h pins s σ H _ I hw) λu s1 ⟨x,H1,I1,r1,q1⟩=>?_
 obtain ⟨i,rfl,q⟩:=q1
 obtain ⟨t,rfl⟩:=r1
 exact ⟨some i,H1,I1,.int i t,q⟩
noncomputable def SlR (X:Cx)(r:V->Option Int->Option Int->Hp->VK->Prop):Prop :=
 ∀ (pins:List (Addr×Obj)) (s:Shared) (σ:St) (H:Hp) (x:V) (v vl vu:Value) (lo hi:Option Int) (sl:Addr) (Q:VK),Inv X pins σ H s->RelV x v->s.heap.IsSliceOf sl vl vu .none->IsPart vl lo->IsPart vu hi->r x lo hi H Q ->
  ∃ T id,typeLookup (.type T) "__getitem__" = pure (some (.builtin id))∧s.TypeIs v T∧wpAny (model X.prog X.w) X.A (getItem v (.ref sl)) (EP X pins σ Q) X.xe s
noncomputable def tSl (r:V->Option Int->Option Int->Hp->VK->Prop)(te:TE)(tl th:TO):TE:=λσ H Q=>te σ H λx H1=>tl σ H1 λl H2=>th σ H2 λu H3=>r x l u H3 Q
theorem pe_slice {r:V->Option Int->Option Int->Hp->VK->Prop}(hr:SlR X r)(he:PE X e te)(hl:PO X lo tl)(hu:PO X hi th):PE X (.Subscript e (.Slice lo hi none p2) pos) (tSl r te tl th):=by
 intro pins s σ H Q I h
 refine Subscript_ (thn (he pins s σ H _ I h) λv s1 ⟨x,H1,I1,r1,q1⟩=>?_)
 refine wpAny_Slice (thn (hl pins s1 σ H1 _ I1 q1) λvl s2 ⟨l,H2,I2,pl,q2⟩=>thn (hu pins s2 σ H2 _ I2 q2) λvu s3 ⟨u,H3,I3,pu,q3⟩=>?_)
 rw [evalPart_none]
 refine wpAny_pure ?_
 have I4:Inv X pins σ H3 { s3 with heap:=s3.heap.push { cls:=.type "slice",data:=.fields #[vl,vu,.none] } }:=I3.kept (t':=s3.toks) λb ob q=>Heap.get?_push_of_some _ q
 obtain ⟨T,id,hT,ht,hg⟩:=hr pins { s3 with heap:=s3.heap.push { cls:=.type "slice",data:=.fields #[vl,vu,.none] } } σ H3 x v vl vu l u s3.heap.objs.size Q I4 r1 (Heap.IsSliceOf.new ..) pl pu q3
 show wpAny (model X.prog X.w) X.A (subscriptTail e (.Slice lo hi none p2) v (.ref s3.heap.objs.size)) (EP X pins σ Q) X.xe { s3 with heap:=s3.heap.push { cls:=.type "slice",data:=.fields #[vl,vu,.none] } }
 exact tail_any (ops:=[.ref s3.heap.objs.size,v]) ht hT hg (by with_unfolding_all rfl)
noncomputable def cutV (xs:List V)(lo hi:Option Int):List V:=(xs.drop (HT.sIx xs.length 0 lo)).take (HT.sIx xs.length xs.length hi - HT.sIx xs.length 0 lo)
theorem cutV_length (xs:List V)(lo hi:Option Int):(cutV xs lo hi).length≤xs.length:=by
 unfold cutV
 rw [List.length_take,List.length_drop]
 omega
noncomputable def rSlT (K:PySem.W.Frag):V->Option Int->Option Int->Hp->VK->Prop:=λx lo hi H Q=>∃ a xs,x = .ref a∧SqT K H a xs ∧
 ¬ (HT.sIx xs.length 0 lo=0∧HT.sIx xs.length xs.length hi=xs.length)∧∀ p,H p=none->Q (.ref p) (upd H p (.tup (cutV xs lo hi)))
theorem sl_tup:SlR X (rSlT X.K):=by
 intro pins s σ H x v vl vu lo hi sl Q I rx hs pl pu h
 obtain ⟨a,xs,rfl,hx,hw,q⟩:=h
 cases rx
 obtain ⟨its,r,ht,hz⟩:=I.tuple hx
 have hlen:its.toArray.size=xs.length:=by rw [List.size_toArray];exact r.length.symm
 refine ⟨"tuple",_,PyProof.Rows.slot_tuple_getitem.lookup,ht.typeIs,?_⟩
 refine HT.getItem_tuple_cut ht hs pl pu (by rw [hlen];exact hw) ?_ (by rw [hlen];exact hz)
 rw [hlen]
 refine ⟨.ref s.heap.objs.size,_,I.laid (t':=s.toks) (o:=.tup (cutV xs lo hi)) (λb ob q=>Heap.get?_push_of_some _ q) (Nat.le_refl _) ?_,rfl,q _ (I.hok.fresh (Nat.le_refl _))⟩
 exact ⟨Nat.le_trans (cutV_length xs lo hi) hz,_,(r.drop (HT.sIx xs.length 0 lo)).take (HT.sIx xs.length xs.length hi - HT.sIx xs.length 0 lo),IsTup.new _ _⟩
noncomputable def rCatT (K:PySem.W.Frag):R2:=λx y H Q=>∃ a b xs ys,x = .ref a∧y = .ref b∧SqT K H a xs∧SqT K H b ys∧xs≠[]∧xs.length+ys.length≤sizeLine ∧
 (ys=[]->Q (.ref a) H)∧(ys≠[]->∀ p,H p=none->Q (.ref p) (upd H p (.tup (xs++ys))))
theorem Vals.nil_iff {xs:List V}{us:List Value}(r:Vals xs us):us=[]↔xs=[]:=by
 cases r with
 | nil=>simp
 | cons _ _=>simp
theorem op_catT:OpR X (binaryOp .Add) (rCatT X.K):=by
 intro pins s σ H x y v u Q I rx ry h
 obtain ⟨a,b,xs,ys,rfl,rfl,ha,hb,hx,hz,q1,q2⟩:=h
 cases rx
 cases ry
 obtain ⟨its,r1,p1,_⟩:=I.tuple ha
 obtain ⟨its2,r2,p2,_⟩:=I.tuple hb
 refine HT.cat_tup p1 p2 (λz=>hx (r1.nil_iff.mp z)) (λz=>⟨.ref a,H,I,rfl,q1 (r2.nil_iff.mp z)⟩) (λz=>?_) (by rw [← r1.length,← r2.length];exact hz)
 refine ⟨.ref s.heap.objs.size,_,I.laid (t':=s.toks) (o:=.tup (xs++ys)) (λb ob q=>Heap.get?_push_of_some _ q) (Nat.le_refl _) ?_,rfl,q2 (λw=>z (r2.nil_iff.mpr w)) _ (I.hok.fresh (Nat.le_refl _))⟩
 exact ⟨by rw [List.length_append];exact hz,_,r1.append r2,IsTup.new _ _⟩
end
end L2
namespace L2
open PySem PySem.Spec PyProof.Rows
noncomputable def ixN (n:Nat)(i:Int):Option Nat:=if 0≤i then (if i<n then some i.toNat else none) else if -(n:Int)≤i then some (i+n).toNat else none
noncomputable def atI {α:Type}(xs:List α)(i:Int):Option α:=(ixN xs.length i).bind λj=>xs[j]?
theorem ixN_seq {n:Nat}{i:Int}{j:Nat}(h:ixN n i=some j):seqIndex? i n=some j∧j<n ∧ -(n:Int)≤i∧i<n:=by
 unfold ixN at h
 by_cases h0:0≤i
 ·rw [if_pos h0] at h
  by_cases h1:i<n
  ·rw [if_pos h1] at h
   have e:i.toNat=j:=Option.some.inj h
   exact ⟨by rw [seqIndex_of h0 h1,e],by omega,by omega,h1⟩
  ·rw [if_neg h1] at h;cases h
 ·rw [if_neg h0] at h
  by_cases h1:-(n:Int)≤i
  ·rw [if_pos h1] at h
   have e:(i+n).toNat=j:=Option.some.inj h
   exact ⟨by rw [seqIndex_neg (by omega) h1,e],by omega,h1,by omega⟩
  ·rw [if_neg h1] at h;cases h
theorem atI_get {α:Type}{xs:List α}{i:Int}{v:α}(h:atI xs i=some v):∃ j,seqIndex? i xs.length=some j∧xs[j]? = some v∧j<xs.length ∧ -(xs.length:Int)≤i∧i<xs.length:=by
 unfold atI at h
 cases e:ixN xs.length i with
 | none=>rw [e] at h;cases h
 | some j =>
  rw [e] at h
  obtain ⟨h1,h2,h3,h4⟩:=ixN_seq e
  exact ⟨j,h1,h,h2,h3,h4⟩
theorem atI_nat {α:Type}{xs:List α}{j:Nat}{v:α}(h:xs[j]? = some v):atI xs (j:Int)=some v:=by
 have hj:j<xs.length:=(List.getElem?_eq_some_iff.mp h).1
 have e:ixN xs.length (j:Int)=some j:=by
  unfold ixN
  rw [if_pos (by omega),if_pos (by omega)];simp
 unfold atI;rw [e];exact h
noncomputable def PlainIx (b:Expr):Prop:=∀ o i,subscripted b false o i=operate [o,i] (getItem o i)
noncomputable def IxR (X:Cx)(r:R2):Prop :=
 ∀ (value slice:Expr) (pins:List (Addr×Obj)) (s:Shared) (σ:St) (H:Hp) (x y:V) (v u:Value) (Q:VK),Inv X pins σ H s->RelV x v->RelV y u->r x y H Q ->
  subscripted slice false v u=operate [v,u] (getItem v u)->wpAny (model X.prog X.w) X.A (subscriptTail value slice v u) (EP X pins σ Q) X.xe s
noncomputable def MtR (X:Cx)(id:String)(r:V->List V->Hp->VK->Prop):Prop :=
 ∀ (pins:List (Addr×Obj)) (s:Shared) (σ:St) (H:Hp) (x:V) (xs:List V) (v:Value) (us:List Value) (Q:VK),Inv X pins σ H s->RelV x v->Vals xs us->r x xs H Q ->
  wpAny (model X.prog X.w) X.A (call (.builtin id) (v::us)) (EP X pins σ Q) X.xe s
section
variable {X:Cx}{a b:Expr}{ta tb:TE}{pos:Pos}
theorem pe_ix {r:R2}(hr:IxR X r)(ha:PE X a ta)(hb:PE X b tb)(hs:PlainIx b):PE X (.Subscript a b pos) (tOp r ta tb):=by
 intro pins s σ H Q I h
 exact Subscript_ (binT ha hb I h λv u s2 x y H2 I2 rx ry q=>hr a b pins s2 σ H2 x y v u Q I2 rx ry q (hs _ _))
noncomputable def rIxL (K:PySem.W.Frag):R2:=λx y H Q=>∃ p xs i v,x = .ref p∧y = .int i∧SqL K H p xs∧atI xs i=some v∧Q v H
noncomputable def rIxT (K:PySem.W.Frag):R2:=λx y H Q=>∃ p xs i v,x = .ref p∧y = .int i∧SqT K H p xs∧atI xs i=some v∧Q v H
noncomputable def rIxS:R2:=λx y H Q=>∃ z i c,x = .str z∧y = .int i∧z.length≤sizeLine∧atI z.cps.toList i=some c∧Q (.str ⟨#[c]⟩) H
theorem ix_list:IxR X (rIxL X.K):=by
 intro value slice pins s σ H x y v u Q I rx ry h hs
 obtain ⟨p,xs,i,z,rfl,rfl,hq,he,q⟩:=h
 cases rx
 obtain ⟨t,rfl⟩:=ry
 obtain ⟨its,r,pl,hz⟩:=I.list hq
 obtain ⟨j,h1,h2,h3,h4,h5⟩:=atI_get he
 obtain ⟨w,ew,rw'⟩:=r.get h2
 have hl:=r.length
 have hn:=line63
 have fin:EP X pins σ Q w s:=⟨z,H,I,rw',q⟩
 by_cases h0:0≤i
 ·have hj:i.toNat=j:=by
   rw [seqIndex_of h0 h5] at h1
   exact Option.some.inj h1
  exact item_listR pl.isList h0 (by omega) (by rw [hj];simpa using ew) fin hs
 ·have hj:(i+(its.toArray.size:Int)).toNat=j:=by
   rw [seqIndex_neg (by omega) h4] at h1
   rw [List.size_toArray,← hl]
   exact Option.some.inj h1
  exact subscriptTail_builtinR (x:=w) pl.isList.typeIs slot_list_getitem.lookup
   (wpAny_getItem_list_neg (Q:=λr s'=>r=w∧EP X pins σ Q r s') pl.isList (by omega) (by rw [List.size_toArray] <;> omega) (by omega) (by rw [hj];simpa using ew) ⟨rfl,fin⟩) hs
theorem ix_tup:IxR X (rIxT X.K):=by
 intro value slice pins s σ H x y v u Q I rx ry h hs
 obtain ⟨p,xs,i,z,rfl,rfl,hq,he,q⟩:=h
 cases rx
 obtain ⟨t,rfl⟩:=ry
 obtain ⟨its,r,pl,hz⟩:=I.tuple hq
 obtain ⟨j,h1,h2,h3,h4,h5⟩:=atI_get he
 obtain ⟨w,ew,rw'⟩:=r.get h2
 have hl:=r.length
 have hn:=line63
 have fin:EP X pins σ Q w s:=⟨z,H,I,rw',q⟩
 exact subscriptTail_builtinR (x:=w) pl.typeIs slot_tuple_getitem.lookup
  (getItem_tuple (j:=j) (Q:=λr s'=>r=w∧EP X pins σ Q r s') pl (by omega) (by omega) (by rw [List.size_toArray,← hl];exact h1) (by simpa using ew) ⟨rfl,fin⟩) hs
theorem ix_str:IxR X rIxS:=by
 intro value slice pins s σ H x y v u Q I rx ry h hs
 obtain ⟨z,i,c,rfl,rfl,hz,he,q⟩:=h
 obtain ⟨t,rfl⟩:=rx
 obtain ⟨t',rfl⟩:=ry
 obtain ⟨j,h1,h2,h3,h4,h5⟩:=atI_get he
 have hl:z.cps.toList.length=z.length:=by simp [Str.length]
 rw [hl] at h1 h4 h5
 have hn:=line63
 exact tail_any (typeIs_str s z t) slot_str_getitem.lookup (getItem_str (c:=c) (by
  have e1:decide (i < -(2 ^ 63:Int))=false:=decide_eq_false (by omega)
  have e2:decide (i ≥ 2 ^ 63)=false:=decide_eq_false (by omega)
  rw [e1,e2,Bool.or_false]) (by rw [h1];simpa using h2) ⟨.str ⟨#[c]⟩,H,I.tok _,⟨_,rfl⟩,q⟩) hs
theorem mapSeq_set (its:List Value)(n j:Nat)(u:Value):Obj.mapSeq (·.setIfInBounds j u) { cls:=.type "list",data:=.seq its.toArray n }={ cls:=.type "list",data:=.seq (its.set j u).toArray n }:=by
 simp [Obj.mapSeq]
theorem Inv.lst {pins:List (Addr×Obj)}{σ:St}{H:Hp}{s:Shared}{p:Addr}{xs:List V}(I:Inv X pins σ H s)(h:H p=some (.lst xs)) :
  ∃ (its:List Value) (n:Nat),Vals xs its∧s.heap.get? p=some { cls:=.type "list",data:=.seq its.toArray n }∧xs.length≤sizeLine:=by
 obtain ⟨z,its,n,r,e⟩:=I.hok p _ h
 exact ⟨its,n,r,e,z⟩
theorem Inv.lstUpd {pins:List (Addr×Obj)}{σ:St}{H:Hp}{s:Shared}{p:Addr}{xs ys:List V}{its its':List Value}{n n':Nat}{f:Obj->Obj}(I:Inv X pins σ H s)(h:H p=some (.lst xs))
  (ho:s.heap.get? p=some { cls:=.type "list",data:=.seq its.toArray n }) (hf:f { cls:=.type "list",data:=.seq its.toArray n }={ cls:=.type "list",data:=.seq its'.toArray n' }) (r:Vals ys its') (hz:ys.length≤sizeLine) (t:Nat) :
  Inv X pins σ (upd H p (.lst ys)) { s with heap:=s.heap.update p f,toks:=t }:=by
 have e:(s.heap.update p f).get? p=some { cls:=.type "list",data:=.seq its'.toArray n' }:=by
  rw [Heap.get?_update_self f ho (by rw [hf] <;> rfl),hf]
 refine I.write (x:=p) (e:=p) (by rw [h];trivial) (.inl rfl) (λb u hb q=>(Heap.get?_update_other _ _ (Ne.symm hb)).trans q) ⟨_,e⟩ ?_
 exact ⟨hz,its',n',r,e⟩
noncomputable def rSetL:V->V->V->Hp->(Hp->Prop)->Prop:=λo i v H Q=>∃ p xs k j,o = .ref p∧i = .int k∧H p=some (.lst xs)∧ixN xs.length k=some j∧Q (upd H p (.lst (xs.set j v)))
theorem set_list:PSet X rSetL:=by
 intro pins s σ H o i v ov iv u Q I ro ri rv h
 obtain ⟨p,xs,k,j,rfl,rfl,hp,hj,q⟩:=h
 cases ro
 obtain ⟨t,rfl⟩:=ri
 obtain ⟨its,n,r,ho,hz⟩:=I.lst hp
 obtain ⟨h1,h2,h3,h4⟩:=ixN_seq hj
 have hl:=r.length
 have hn:=line63
 have I':Inv X pins σ (upd H p (.lst (xs.set j v))) { s with heap:=s.heap.update p (Obj.mapSeq (·.setIfInBounds j u)) } :=
  I.lstUpd hp ho (mapSeq_set its n j u) (r.set rv j) (by rw [List.length_set];exact hz) s.toks
 by_cases h0:0≤k
 ·have hk:k.toNat=j:=by
   rw [seqIndex_of h0 h4] at h1
   exact Option.some.inj h1
  exact PySem.W.ki_setAt ho h0 (by omega) (by rw [List.size_toArray,← hl];exact h4) (by rw [hk];exact ⟨_,I',q⟩)
 ·have hk:(k+(its.toArray.size:Int)).toNat=j:=by
   rw [seqIndex_neg (by omega) h3] at h1
   rw [List.size_toArray,← hl]
   exact Option.some.inj h1
  exact PySem.W.ki_setBack ho (by omega) (by rw [List.size_toArray,← hl];exact h3) (by omega) (by rw [hk];exact ⟨_,I',q⟩)
theorem slice_bounds (lo hi:Option Int)(n:Nat):(sliceBounds lo hi none n).1=((HT.sIx n 0 lo:Nat):Int)∧(sliceBounds lo hi none n).2.1=((HT.sIx n n hi:Nat):Int)∧(sliceBounds lo hi none n).2.2=1:=by
 refine ⟨?_,?_,rfl⟩
 ·cases lo with
  | none=>simp [sliceBounds,HT.sIx]
  | some i =>
   simp only [sliceBounds,HT.sIx,Option.getD_none,show (1:Int) > 0 by decide,if_true]
   by_cases h:i<0
   ·simp only [h,if_true] <;> omega
   ·simp only [h,if_false] <;> omega
 ·cases hi with
  | none=>simp [sliceBounds,HT.sIx]
  | some i =>
   simp only [sliceBounds,HT.sIx,Option.getD_none,show (1:Int) > 0 by decide,if_true]
   by_cases h:i<0
   ·simp only [h,if_true] <;> omega
   ·simp only [h,if_false] <;> omega
theorem slicePick_cut (its:List Value)(lo hi:Option Int):slicePick its.toArray lo hi none=((its.drop (HT.sIx its.length 0 lo)).take (HT.sIx its.length its.length hi - HT.sIx its.length 0 lo)).toArray:=by
 obtain ⟨h1,h2,h3⟩:=slice_bounds lo hi its.toArray.size
 unfold slicePick
 rw [h1,h2,h3]
 simp only [sliceRange_one,pick_run,List.size_toArray] <;> rfl
noncomputable def rSlL (K:PySem.W.Frag):V->Option Int->Option Int->Hp->VK->Prop:=λx lo hi H Q=>∃ a xs,x = .ref a∧SqL K H a xs∧∀ p,H p=none->Q (.ref p) (upd H p (.lst (cutV xs lo hi)))
theorem sl_list:SlR X (rSlL X.K):=by
 intro pins s σ H x v vl vu lo hi sl Q I rx hs pl pu h
 obtain ⟨a,xs,rfl,hx,q⟩:=h
 cases rx
 obtain ⟨its,r,ht,hz⟩:=I.list hx
 have hlen:=r.length
 refine ⟨"list",_,slot_list_getitem.lookup,ht.isList.typeIs,?_⟩
 refine wpAny_getItem_list_slice ht.isList hs pl pu .none (by simp) ?_ (by rw [List.size_toArray] <;> omega)
 rw [slicePick_cut,← hlen]
 refine ⟨.ref s.heap.objs.size,_,I.laid (t':=s.toks) (o:=.lst (cutV xs lo hi)) (λb ob q=>Heap.get?_push_of_some _ q) (Nat.le_refl _) ?_,rfl,q _ (I.hok.fresh (Nat.le_refl _))⟩
 exact ⟨Nat.le_trans (cutV_length xs lo hi) hz,_,0,(r.drop (HT.sIx xs.length 0 lo)).take (HT.sIx xs.length xs.length hi - HT.sIx xs.length 0 lo),Heap.get?_push_size _ rfl⟩
theorem call_len_seq:CallR X (.builtin "len") (λxs H Q=>∃ p ys,xs=[.ref p]∧(SqL X.K H p ys∨SqT X.K H p ys)∧Q (.int ys.length) H):=by
 intro pins s σ H xs us Q I r h
 obtain ⟨p,ys,rfl,hq,q⟩:=h
 obtain ⟨u,rfl,rx⟩:=vals1 r
 cases rx
 have hn:=line63
 rcases hq with hq | hq
 ·obtain ⟨its,r',pl,hz⟩:=I.list hq
  have hlen:=r'.length
  exact Calls.call_len_list pl.isList (by simp only [List.size_toArray] <;> omega) ⟨.int ys.length,H,I.tok _,⟨s.toks+1,by rw [List.size_toArray,hlen]⟩,q⟩
 ·obtain ⟨its,r',pl,hz⟩:=I.tuple hq
  have hlen:=r'.length
  exact len_tuple pl (by simp only [List.size_toArray] <;> omega) ⟨.int ys.length,H,I.tok _,⟨s.toks+1,by rw [List.size_toArray,hlen]⟩,q⟩
theorem call_len_str:CallR X (.builtin "len") (λxs H Q=>∃ z,xs=[.str z]∧z.length≤sizeLine∧Q (.int z.length) H):=by
 intro pins s σ H xs us Q I r h
 obtain ⟨z,rfl,hz,q⟩:=h
 obtain ⟨u,rfl,t,rfl⟩:=vals1 r
 have hn:=line63
 exact len_str (by omega) ⟨.int z.length,H,I.tok _,⟨_,rfl⟩,q⟩
theorem call_tuple_of:CallR X (.type "tuple") (λxs H Q=>∃ p ys,xs=[.ref p]∧((SqL X.K H p ys∧∀ l,H l=none->Q (.ref l) (upd H l (.tup ys)))∨(SqT X.K H p ys∧Q (.ref p) H))):=by
 intro pins s σ H xs us Q I r h
 obtain ⟨p,ys,rfl,h⟩:=h
 obtain ⟨u,rfl,rx⟩:=vals1 r
 cases rx
 rcases h with ⟨hq,q⟩ | ⟨hq,q⟩
 ·obtain ⟨its,r',pl,hz⟩:=I.list hq
  have hlen:=r'.length
  refine call_tuple_list pl.isList (λh' kp=>?_) (by simp only [List.size_toArray] <;> omega)
  have I1:Inv X pins σ H { s with heap:=h' }:=I.kept (t':=s.toks) kp
  have I2:Inv X pins σ (upd H h'.objs.size (.tup ys)) { s with heap:=h'.push { cls:=.type "tuple",data:=.seq its.toArray } } :=
   I1.laid (t':=s.toks) (λb o e=>Heap.get?_push_of_some _ e) (Nat.le_refl _) (show ObjOk X.prog X.w _ _ _ (.tup ys) from ⟨hz,its,r',IsTup.new _ _⟩)
  exact ⟨.ref h'.objs.size,_,I2,rfl,q _ (I1.hok.fresh (Nat.le_refl _))⟩
 ·obtain ⟨its,r',pl,hz⟩:=I.tuple hq
  exact call_tuple_same pl ⟨.ref p,H,I,rfl,q⟩
noncomputable def tyV (K:PySem.W.Frag)(T:String)(x:V)(H:Hp):Prop:=match x with
 | .str _=>T = "str"
 | .int _=>T = "int"
 | .ref p=>(T = "list" ∧ ∃ xs,SqL K H p xs)∨(T = "tuple" ∧ ∃ o,K.lookup p=some o∧o.cls = .type "tuple" ∧ o.dict=none) ∨
   (T = "dict" ∧ ((∃ kvs,H p=some (.dK kvs))∨∃ kvs,H p=some (.dT kvs)))∨(T = "set" ∧ ∃ S n,H p=some (.set S n))
 | _=>False
theorem tyV_is {pins:List (Addr×Obj)}{σ:St}{H:Hp}{s:Shared}{T:String}{x:V}{v:Value}(I:Inv X pins σ H s)(r:RelV x v)(ty:tyV X.K T x H) :
  s.TypeIs v T∧∀ a,v = .ref a->∃ ob,s.heap.get? a=some ob∧ob.dict=none:=by
 cases x with
 | str z =>
  obtain ⟨t,rfl⟩:=r
  cases (show T = "str" from ty)
  exact ⟨typeIs_str s z t,λ_ e=>nomatch e⟩
 | int i =>
  obtain ⟨t,rfl⟩:=r
  cases (show T = "int" from ty)
  exact ⟨typeIs_int s i t,λ_ e=>nomatch e⟩
 | ref p =>
  cases r
  rcases ty with ⟨rfl,xs,hq⟩ | ⟨rfl,o,hk,hc,hd⟩ | ⟨rfl,hk⟩ | ⟨rfl,S,n,hk⟩
  ·obtain ⟨its,_,pl,_⟩:=I.list hq
   refine ⟨pl.isList.typeIs,λa e=>?_⟩
   cases e
   obtain ⟨o,n,e,c,hd,_⟩:=pl
   exact ⟨o,e,hd⟩
  ·refine ⟨⟨o,I.kIn p o hk,hc⟩,λa e=>?_⟩
   cases e
   exact ⟨o,I.kIn _ o hk,hd⟩
  ·have z:∃ o,s.heap.get? p=some o∧o.ExactDict:=by
    rcases hk with ⟨kvs,hk⟩ | ⟨kvs,hk⟩
    ·obtain ⟨_,_,_,_,o,_,_,e,ex,_⟩:=I.hok p _ hk
     exact ⟨o,e,ex⟩
    ·obtain ⟨_,_,_,_,o,_,_,e,ex,_⟩:=I.hok p _ hk
     exact ⟨o,e,ex⟩
   obtain ⟨o,e,ex⟩:=z
   refine ⟨⟨o,e,ex.1⟩,λa e2=>?_⟩
   cases e2
   exact ⟨o,e,ex.2.1⟩
  ·obtain ⟨o,_,_,_,e,ex,_⟩:=I.hok p _ hk
   refine ⟨⟨o,e,ex.1⟩,λa e2=>?_⟩
   cases e2
   exact ⟨o,e,ex.2.1⟩
 | _=>exact False.elim ty
noncomputable def tBM (K:PySem.W.Frag)(T:String)(r:V->List V->Hp->VK->Prop)(to:TE)(t:TA):TE:=λσ H Q=>to σ H λx H1=>tyV K T x H1∧t σ H1 λxs H2=>r x xs H2 Q
variable {o e:Expr}{es:List Expr}{to:TE}{t:TA}{name:Str}{apos cpos:Pos}{T id:String}{r:V->List V->Hp->VK->Prop}
theorem pe_bm (pa:PlainAttrs T)(slot:Slot T name id)(hty:typeOf (.builtin id)=pure (.type "method_descriptor"))(hm:MtR X id r)(ho:PE X o to)(ha:PA X (e::es) t)
  (hbase:attributeBase o name X.env (eval o X.env)=eval o X.env:=by rfl)
  (hfew:((backTo cpos (starEach (e::es) X.env)).all (λx=>!x.1) && (backToKw cpos (keywordEach [] X.env)).all (λx=>x.1.isSome)
   && decide ((e::es).length+([]:List Keyword).length+(if ([]:List Keyword).isEmpty then 0 else 1)<30))=true:=by rfl)
  (hline:(apos.endLine == cpos.line)=true:=by rfl) (hs:starEach (e::es) X.env=(false,eval e X.env)::starEach es X.env:=by rfl) (hplain:(backTo cpos (starEach es X.env)).any (·.1)=false:=by rfl) :
  PE X (.Call (.Attribute o name apos) (e::es) [] cpos) (tBM X.K T r to t):=by
 intro pins s σ H Q I h
 refine wpAny_Call_method_late hbase hfew hline rfl (thn (ho pins s σ H _ I h) λv s1 ⟨x,H1,I1,r1,ty,q1⟩=>?_)
 obtain ⟨h1,h2⟩:=tyV_is I1 r1 ty
 refine ⟨T,id,pa,slot,hty,h1,h2,?_⟩
 have hA:=ha cpos pins s1 σ H1 _ I1 q1
 rw [hs] at hA ⊢
 refine Calls.callWith_builtin (by show (false || (backTo cpos (starEach es X.env)).any (·.1))=false;rw [hplain] <;> rfl) (Calls.evalArgs_plain ?_)
 exact thn hA λus s2 ⟨vs,H2,I2,r2,q2⟩=>hm pins s2 σ H2 x vs v us Q I2 r1 r2 q2
/- xs.append(e),list.index on a module's tuple .. are MtR facts of 06m -/
end
end L2
namespace L2
open PySem PySem.Spec PyProof.Rows
noncomputable def MtM (X:Cx)(id:String)(r:V->List V->Hp->VK->Prop):Prop :=
 ∀ (pins:List (Addr×Obj)) (s:Shared) (σ:St) (H:Hp) (x:V) (xs:List V) (v:Value) (us:List Value) (Q:VK),Inv X pins σ H s->RelV x v->Vals xs us->r x xs H Q ->
  wpAny (model X.prog X.w) X.A (call (.builtin id) (v::us)) (EP X pins σ Q) X.xe s
theorem Vals.one:∀ {x:V} {us:List Value},Vals [x] us->∃ u,us=[u]∧RelV x u
 | _,_,.cons r .nil=>⟨_,rfl,r⟩
theorem Vals.rep {xs:List V}{us:List Value}(h:Vals xs us):∀ k:Nat,Vals (List.replicate k xs).flatten (List.replicate k us).flatten
 | 0=>.nil
 | k+1=>by
  rw [List.replicate_succ,List.replicate_succ,List.flatten_cons,List.flatten_cons]
  exact Vals.append h (Vals.rep h k)
theorem foldl_rep (its:List Value):∀ (k:Nat) (acc:List Value),
  List.foldl (λx1 x2=>x1++x2) acc.toArray (List.replicate k its.toArray)=(acc++(List.replicate k its).flatten).toArray
 | 0,acc=>by simp
 | k+1,acc=>by
  have e:acc.toArray++its.toArray=(acc++its).toArray:=by simp
  have e2:(acc++its)++(List.replicate k its).flatten=acc++(List.replicate (k+1) its).flatten:=by
   rw [List.replicate_succ,List.flatten_cons,List.append_assoc]
  rw [← e2,← foldl_rep its k (acc++its),← e,List.replicate_succ,List.foldl_cons]
section
variable {X:Cx}{pins:List (Addr×Obj)}{σ:St}{H:Hp}{s:Shared}{l b:Addr}{xs ys zs:List V}
theorem Inv.lset {its its':List Value}{n:Nat}{f:Array Value->Array Value}{t':Nat}(I:Inv X pins σ H s)(hH:H l=some (.lst xs))
  (e:s.heap.get? l=some { cls:=.type "list",data:=.seq its.toArray n }) (hf:f its.toArray=its'.toArray) (hv:Vals ys its') (hz:ys.length≤sizeLine) :
  Inv X pins σ (upd H l (.lst ys)) { s with heap:=s.heap.update l (Obj.mapSeq f),toks:=t' }:=by
 have q:=PySem.IsL.update e f
 rw [hf] at q
 refine I.write (x:=l) (e:=l) (by rw [hH];exact trivial) (.inl rfl) (λb' u hb hu=>(Heap.get?_update_other s.heap (Obj.mapSeq f) (Ne.symm hb)).trans hu) ⟨_,q⟩ ?_
 exact ⟨hz,its',_,hv,q⟩
theorem Inv.lnew {its:List Value}{t':Nat}(I:Inv X pins σ H s)(hv:Vals ys its)(hz:ys.length≤sizeLine) :
  Inv X pins σ (upd H s.heap.objs.size (.lst ys)) { s with heap:=s.heap.push { cls:=.type "list",data:=.seq its.toArray },toks:=t' } :=
 I.laid (λ_ _ q=>Heap.get?_push_of_some _ q) (Nat.le_refl _) ⟨hz,its,0,hv,Heap.get?_push_size _ rfl⟩
theorem Inv.fresh (I:Inv X pins σ H s):H s.heap.objs.size=none:=I.hok.fresh (Nat.le_refl _)
theorem Inv.lstM (I:Inv X pins σ H s)(hH:H l=some (.lst xs)):xs.length≤sizeLine∧∃ (its:List Value) (n:Nat),Vals xs its∧xs.length=its.length∧s.heap.get? l=some { cls:=.type "list",data:=.seq its.toArray n }:=by
 obtain ⟨z,its,n,r,e⟩:=I.hok l _ hH
 exact ⟨z,its,n,r,r.length,e⟩
theorem notLongL {n:Nat}(h:n≤sizeLine):Builtin.List.listTooLong n=false:=by
 unfold Builtin.List.listTooLong
 exact decide_eq_false (by omega)
end
section
variable {X:Cx}
noncomputable def rAppend:V->List V->Hp->VK->Prop:=λx vs H Q=>∃ l xs y,x = .ref l∧vs=[y]∧H l=some (.lst xs)∧xs.length<sizeLine∧Q .non (upd H l (.lst (xs++[y])))
theorem mt_append:MtM X "list.append" rAppend:=by
 intro pins s σ H x vs v us Q I rx rv h
 obtain ⟨l,xs,y,rfl,rfl,hH,hz,q⟩:=h
 cases rx
 obtain ⟨u,rfl,ru⟩:=rv.one
 obtain ⟨z,its,n,r,hl,e⟩:=I.lstM hH
 refine call_meets F.slot_list_append ⟨_,e,rfl⟩ F.entry_list_append (F.args_list_append_2 _ _) (PySem.list_append l its.toArray n u (by rw [List.size_toArray];omega)) ⟨e,?_⟩
 refine ⟨.non,_,I.lset (its':=its++[u]) hH e (by simp) (r.append (.cons ru .nil)) ?_,rfl,q⟩
 rw [List.length_append,List.length_singleton]
 omega
noncomputable def rCat:R2:=λx y H Q=>∃ l b xs zs,x = .ref l∧y = .ref b∧H l=some (.lst xs)∧H b=some (.lst zs)∧xs.length+zs.length≤sizeLine∧∀ p,H p=none->Q (.ref p) (upd H p (.lst (xs++zs)))
theorem op_cat:OpR X (binaryOp .Add) rCat:=by
 intro pins s σ H x y v u Q I rx ry h
 obtain ⟨l,b,xs,zs,rfl,rfl,hH,hB,hz,q⟩:=h
 cases rx
 cases ry
 obtain ⟨z,its,n,r,hl,e⟩:=I.lstM hH
 obtain ⟨z2,its2,n2,r2,hl2,e2⟩:=I.lstM hB
 refine PySem.P.add_list e e2 ?_ (by rw [List.size_toArray,List.size_toArray];omega)
 have ea:its.toArray++its2.toArray=(its++its2).toArray:=by simp
 rw [ea]
 exact ⟨.ref _,_,I.lnew (t':=s.toks) (r.append r2) (by rw [List.length_append];omega),rfl,q _ I.fresh⟩
noncomputable def rRep:R2:=λx y H Q=>∃ l k xs,x = .ref l∧y = .int k∧H l=some (.lst xs) ∧ -(2 ^ 63)≤k∧k<2 ^ 63∧xs.length * k.toNat≤sizeLine ∧
 ∀ p,H p=none->Q (.ref p) (upd H p (.lst (List.replicate k.toNat xs).flatten))
theorem len_rep {α:Type}(xs:List α)(k:Nat):(List.replicate k xs).flatten.length=k * xs.length:=by
 induction k with
 | zero=>simp
 | succ k ih=>rw [List.replicate_succ,List.flatten_cons,List.length_append,ih,Nat.succ_mul,Nat.add_comm]
theorem op_rep:OpR X (binaryOp .Mult) rRep:=by
 intro pins s σ H x y v u Q I rx ry h
 obtain ⟨l,k,xs,rfl,rfl,hH,h1,h2,hz,q⟩:=h
 cases rx
 obtain ⟨t,rfl⟩:=ry
 obtain ⟨z,its,n,r,hl,e⟩:=I.lstM hH
 have hlen:its.toArray.size * k.toNat≤sizeLine:=by rw [List.size_toArray,← hl];exact hz
 have hcap:¬ its.toArray.size * k.toNat > (2 ^ 63 - 1) / 8:=by
  have:(sizeLine:Nat)≤(2 ^ 63 - 1) / 8:=by decide
  omega
 have hfit:¬ (!Builtin.List.listFitsIndex k)=true:=by
  rw [fitsIndex_both h1 h2]
  exact Bool.false_ne_true
 have hlong:¬ Builtin.List.listTooLong (its.toArray.size * k.toNat)=true:=by
  rw [notLongL hlen]
  exact Bool.false_ne_true
 have hnew:List.foldl (λx1 x2=>x1++x2) #[] (List.replicate (if its.toArray.isEmpty=true then 0 else k.toNat) its.toArray)=(List.replicate k.toNat its).flatten.toArray:=by
  have f0:∀ m:Nat,List.foldl (λx1 x2=>x1++x2) #[] (List.replicate m its.toArray)=(List.replicate m its).flatten.toArray:=λm=>by
   have:=foldl_rep its m []
   rw [List.nil_append] at this
   exact this
  rw [f0]
  cases its with
  | nil=>simp
  | cons a r'=>rw [if_neg (by simp)]
 refine wpAny_binaryOp_repeat_ref (T:="list") (U:="int") (by decide) ⟨_,e,rfl⟩ (λs'=>typeIs_int s' k t) noFill_list_mul F.fills_int_mul F.slot_int_rmul repeat_list F.slot_int_index.lookup
  (call_meets F.slot_int_rmul (typeIs_int s k t) F.entry_int_rmul (F.args_int_rmul_2 _ _) (int___rmul___int_list k t l its.toArray n)
   ⟨e,rfl,⟨_,e,rfl⟩,call_meets F.slot_list_mul ⟨_,e,rfl⟩ F.entry_list_mul (F.args_list_mul_2 _ _) (AutoListH.list___mul___list_int_3 l its.toArray n k t hfit hcap hlong) ⟨e,?_⟩⟩)
 rw [hnew]
 exact ⟨.ref _,_,I.lnew (t':=s.toks) (r.rep k.toNat) (by rw [len_rep,Nat.mul_comm];exact hz),rfl,q _ I.fresh⟩
end
section
variable {prog:Program}{w:World}{A:Around}{E:Value->Shared->Prop}{s:Shared}
end
section
variable {X:Cx}
end
end L2
namespace L2
open PySem PySem.Spec PyProof.Rows
section
variable {κ:Type}[DecidableEq κ]
end
section
variable {P:Program}{w:World}{H:Hp}{h:Heap}{a:Addr}
end
section
variable {X:Cx}{pins:List (Addr×Obj)}{σ:St}{H:Hp}{s:Shared}{a:Addr}{y v:V}{u r:Value}{o:Option V}{A:Around}{E:Value->Shared->Prop}
end
section
variable {X:Cx}{pins:List (Addr×Obj)}{σ:St}{H:Hp}{s:Shared}{a:Addr}{kvs:List (Key×V)}{k:Key}{u:Value}{A:Around}{E:Value->Shared->Prop}
end
section
variable {X:Cx}{o i e value:Expr}{pos pos' tpos:Pos}{td ty tv:TE}
end
section
variable {X:Cx}{pos:Pos}
end
section
variable {X:Cx}{pins:List (Addr×Obj)}{σ:St}{H:Hp}{s:Shared}{a:Addr}{y d:V}{u r:Value}{o:Option V}{A:Around}{E:Value->Shared->Prop}
end
section
variable {X:Cx}{o e f:Expr}{apos cpos:Pos}{td ty tx:TE}
end
section
variable {X:Cx}{pins:List (Addr×Obj)}{σ:St}{H:Hp}{s:Shared}{a:Addr}{kvs:List (Key×V)}{A:Around}{E:Value->Shared->Prop}
end
section
variable {X:Cx}{pins:List (Addr×Obj)}{σ:St}{H:Hp}{s:Shared}{a:Addr}{y:V}{u:Value}{A:Around}{E:Value->Shared->Prop}
end
end L2
namespace Att
open PySem PySem.W PySem.Calls PyProof.Rows
theorem ints_of_wellAll {P:Params}{h:Heap}:∀ (ns:List Int) (vs:List Value),WellAll P h vs (ns.map WData.int)->IntsAre vs ns:=by
 intro ns
 induction ns with
 | nil =>
  intro vs w
  rw [List.map_nil] at w
  cases w
  exact .nil
 | cons n ns ih =>
  intro vs w
  rw [List.map_cons] at w
  cases w with
  | cons a b =>
   cases a
   exact .cons _ _ (ih _ b)
theorem script_of {l:OpenLaw}{n:Nat}(hn:l.most=some n){P:Params}{h:Heap}{args:List WData}{vals:List Value}
  (hpre:l.row.toRowW.claim.pre args=true) (hwl:WellAll P h vals args) :
  ∃ a vs ns,vals=[Value.ref a]∧args=[WData.list (ns.map WData.int)]∧h.get? a=some { cls:=.type "list",data:=.seq vs.toArray }∧IntsAre vs ns∧ns.length≤n:=by
 have hsh:WShape.hasAll [] args [.list .int]=true:=(pre_splitW hpre).1
 have hc:l.pre.holds [] { args:=args }=true:=(pre_splitW hpre).2
 obtain ⟨d,r,rfl,h1,h2⟩:=hasAllW_cons hsh
 obtain rfl:=hasAllW_nil h2
 obtain ⟨xs,rfl,h3⟩:=hasW_list h1
 obtain ⟨ns,rfl⟩:=items_int h3
 have hlen:ns.length≤n:=by
  unfold OpenLaw.pre at hc
  have h4:(WTm.not (.lt (.lit (.int (n:Int))) (.len (.arg 0)))).holds [] { args:=[.list (ns.map .int)] }=true:=by
   have h4:=(holds_andW hc).1
   rw [hn] at h4
   exact h4
  have h5:=condW_of h4 (w_not (w_lt w_lit (w_len_list (w_arg rfl))))
  rw [List.length_map] at h5
  refine Nat.le_of_not_lt λq=>?_
  have q':(n:Int)<((ns.length:Nat):Int):=by omega
  first
   | (rw [decide_eq_true q'] at h5;exact absurd h5 (by decide))
   | (simp at h5;omega)
 cases hwl with
 | cons w1 w2 =>
  cases w2
  cases w1 with
  | list ho hall=>exact ⟨_,_,ns,rfl,rfl,ho,ints_of_wellAll ns _ hall,hlen⟩
theorem post_true (l:OpenLaw)(args:List WData):l.row.toRowW.claim.post args (.bool true) args=true :=
 postW_of (r:=l.row.toRowW) (X:=(true == true))
  (show WShape.has [] (.bool true) .bool=true by first | rfl | decide | simp [WShape.has,WShape.arms,WShape.armsAll])
  (show (WTm.eq .res (.lit (.bool true))).value [] { args:=args,res:=some (.bool true),after:=args }=some (.bool (true == true)) from w_eq_bool (w_res rfl) w_lit) rfl
theorem attach_call {l:OpenLaw}{n:Nat}{q:Program}{loose:List Str}{XP:(Str->Option Value)->Heap->Prop}{YP:World->Heap->Prop}{d:DefRec}
  (hn:l.most=some n) (hdf:d.params.defaults=[])
  (call:∀ (w:World) (s₀ s₁:Shared) (mg mb:Str->Option Value) (fa:Addr) (o:Obj) (pm cd doc:Value) (a:Addr) (vs:List Value) (ns:List Int),
   Ground q loose [] XP w s₀ mg mb s₁.heap->YP w s₁.heap ->
   s₁.heap.get? fa=some o->o.data = .func (docDef d.name d.params d.body d.scope pm cd doc)->s₁.heap.CodeRec cd d.name->mg d.name=some (.ref fa) ->
   s₁.heap.get? a=some { cls:=.type "list",data:=.seq vs.toArray }->IntsAre vs ns->ns.length≤n->s₁.gens = #[] ->
   codeAny (model l.prog w) callerA (.call (.ref fa) ⟨[.ref a],[]⟩) (λr s'=>r = .ok (.ret (.bool true))∧OldK s₁.heap s'.heap∧s'.os=s₁.os∧AllBare s'.gens) s₁) :
  WalkO q loose XP YP l.row.toRowW d [] (λf vs=>PySem.call f vs):=by
 intro w s₀ s₁ mg mb G Y fa o pm cd doc dV kV ho hd hcd hD hmg hg args vals as hpre hlay hrd hwl hlo
 obtain rfl:dV = .none:=Dflts.none hD hdf
 obtain rfl:kV = .none:=Dflts.noKw hD
 obtain ⟨a,vs,ns,rfl,rfl,hobj,hints,hlen⟩:=script_of hn hpre hwl
 refine enter_call (codeAny_mono (call w s₀ s₁ mg mb fa o pm cd doc a vs ns G Y ho (fd_plain hd) hcd hmg hobj hints hlen hg) λr s' hq=>?_)
 obtain ⟨rfl,h2,h3,h4⟩:=hq
 exact ⟨.inl ⟨.bool true,.bool true,[],rfl,λ_=>rfl,.bool true,post_true l _,λ_=>⟨List.Pairwise.nil,λ_ hm=>(nomatch hm)⟩⟩,h2,h3,h4⟩
section
variable {prog:Program}{w:World}{A:Around}{E:Value->Shared->Prop}{s:Shared}{K:Frag}
end
end Att
namespace L2
open PySem PySem.Spec PyProof.Rows
theorem vals_ints:∀ {vs:List Value} {ns:List Int},IntsAre vs ns->Vals (ns.map V.int) vs
 | _,_,.nil=>.nil
 | _,_,.cons n t h=>.cons ⟨t,rfl⟩ (vals_ints h)
end L2
namespace L2
open PySem PySem.Spec PyProof.Rows
end L2
/- THE LAST THEOREM (shape;LID,My.* are yours):
   My.Adr: a structure of the addresses that your layer names (classes,functions);My.Txt K t: a structure (Prop) of the equations over K;
   My.txt_mk:{K} {implicit addresses ..} (e1:nsIn K mainGlobals "law" = some (some (.ref f))) (e2:K.lookup f=some ⟨oc,od,.func (fnOf "law" "law" params body scope dV kV doc pm an cdv ct),sl⟩) (e3:codeIn K cdv "law" = true) ..:∃ t,My.Txt K t
set_option maxRecDepth 100000 in
set_option maxHeartbeats 0 in
theorem PySem.Challenge.cw_LID_holds:PySem.Challenge.rw_LID.Holds:=by
 w_on;o_law;k_head;(case hw=>w_witness2)
 k_fill
 refine L2.walk_of (l:=PySem.Challenge.rw_LID) (n:=63) (k:=40) (x:="script") (CX:=λw=>..) (sp:=λ_=>My.sp_law) rfl (by decide) rfl ⟨rfl,by decide,by decide⟩ (λw h Y=>PySem.W.kIn_of Y) ?F ?S ?C
 case F =>
  intro w mg fa h KX G hmg
  have T:∃ t,My.Txt (L2.KOf KX) t:=by
   dsimp only [L2.KOf]                          -- K must stand as «<heap const> w.params» for k_is
   refine' My.txt_mk ?e1 ?e2 ?e3 ..
   (case e1=>PySem.W.k_is)                    -- in the order: a name -> its address -> its object -> its parts
   (case e2=>PySem.W.k_is)
   ..
  obtain ⟨t,T⟩:=T
  have e0:=hmg.symm.trans (PySem.W.mg_of KX G T.law)
  cases e0                                       -- fa is the law's own address
  exact ⟨_,λs u=>.of_eq rfl,λbase kb nb=>My.law_fn T kb nb⟩     -- if «.of_eq rfl» comes too early: refine' ⟨_,?b,λbase kb nb=>My.law_fn T kb nb⟩;exact λs u=>.of_eq rfl
 case S=>exact λw H a ns hl hO hS=>..
 case C=>exact ..
(the tactic k_is has no namespace: write k_is) -/
namespace L2
open PySem PySem.Spec PyProof.Rows
noncomputable def defArgs (s:Stmt):Arguments:=match s with
 | .FunctionDef _ a _ _ _ _ _ _ _ _=>a
 | _=>{ posonlyargs:=[],args:=[],vararg:=none,kwonlyargs:=[],kw_defaults:=[],kwarg:=none,defaults:=[] }
noncomputable def defBody (s:Stmt):List Stmt:=match s with
 | .FunctionDef _ _ b _ _ _ _ _ _ _=>b
 | _=>[]
noncomputable def defScope (s:Stmt):Scope:=match s with
 | .FunctionDef _ _ _ _ _ _ sc _ _ _=>sc
 | _=>{ kind:=.function,names:=[],isGenerator:=false,isCoroutine:=false }
noncomputable abbrev CX0:CXT:=λ_ _ _ _ _ _=>False
noncomputable abbrev E0:XK:=λ_ _ _=>False
theorem pass0 {X:Cx}:Passes CX0 X E0:=λ_ _ _ _ _ _ _ h=>h.elim
structure Fun (K:PySem.W.Frag) (x qual:Str) (st:Stmt) (f:Addr) (fd:FuncData):Prop where
 ex:∃ (oc:Value) (od:Option Addr) (kV doc pm:Value) (an:Option Addr) (cdv ct:Value) (osl:Array (Option Value)),
  fd=PySem.W.fnOf x qual (defArgs st) (defBody st) (defScope st) .none kV doc pm an cdv ct∧K.lookup f=some ⟨oc,od,.func fd,osl⟩∧PySem.W.codeIn K cdv qual=true
 kp:PySem.W.keepIn K (.ref f)=true
section
variable {P:Program}{w:World}{K:PySem.W.Frag}{mg:Str->Option Value}{base:Heap}
theorem Fun.ok {x qual:Str}{st:Stmt}{f:Addr}{fd:FuncData}{N ps:List Str}{k:Nat}{sp:Sp}(F:Fun K x qual st f fd)(S:FnScope N ps (defScope st))(len:∀ vs H Q E,sp vs H Q E->vs.length=ps.length)
  (hbody:∀ (cdv:Value) (A:Around) (outer:List Env) (s:Shared) (H:Hp) (vs:List V) (Q:VK) (E:XK),Room k (A.deeper (envOfC qual (defScope st) s.heap.objs.size f cdv))->sp vs H Q E ->
   ∃ t,PSs (cxOf CX0 P w K mg base N qual (defScope st) f cdv A outer s H E).nox (defBody st) t∧t { nx:=λ_ H'=>Q .non H',rt:=Q } (start N vs) H):FnOk P w K mg base CX0 (k+1) f fd ps sp:=by
 obtain ⟨oc,od,kV,doc,pm,an,cdv,ct,osl,rfl,lk,hcd⟩:=F.ex
 refine fn_of lk hcd S len λA outer s H vs Q E hr hsp=>?_
 obtain ⟨t,h,q⟩:=hbody cdv A outer s H vs Q E hr hsp
 exact ⟨t,h.nox,q⟩
theorem Fun.binds {x qual:Str}{st:Stmt}{f:Addr}{fd:FuncData}{ps:List Str}(F:Fun K x qual st f fd)
  (h:∀ (kV doc pm:Value) (an:Option Addr) (cdv ct:Value) (us:List Value),us.length=ps.length->bindArgs (PySem.W.fnOf x qual (defArgs st) (defBody st) (defScope st) .none kV doc pm an cdv ct) ⟨us,[]⟩=pure (ps.zip us)):Binds K fd ps []:=by
 obtain ⟨oc,od,kV,doc,pm,an,cdv,ct,osl,rfl,lk,hcd⟩:=F.ex
 exact .all (h kV doc pm an cdv ct)
theorem fun_mk {x qual:Str}{st:Stmt}{f:Addr}{oc:Value}{od an:Option Addr}{osl:Array (Option Value)}{kV doc pm cdv ct:Value}(l:K.lookup f=some ⟨oc,od,.func (PySem.W.fnOf x qual (defArgs st) (defBody st) (defScope st) .none kV doc pm an cdv ct),osl⟩)
  (c:PySem.W.codeIn K cdv qual=true) (k:PySem.W.keepIn K (.ref f)=true):Fun K x qual st f (PySem.W.fnOf x qual (defArgs st) (defBody st) (defScope st) .none kV doc pm an cdv ct):=⟨⟨oc,od,kV,doc,pm,an,cdv,ct,osl,rfl,l,c⟩,k⟩
end
theorem small1000 {n:Nat}(h:n≤1000):n<sizeLine:=Nat.lt_of_le_of_lt h (by decide)
section
variable {X:Cx}
theorem pv (i:Nat){x:Str}{pos:Pos}(hN:X.N[i]? = some x:=by rfl)(hv:Vis X.env.scope x:=by first | exact Or.inl rfl | exact Or.inr (Or.inl rfl) | exact Or.inr (Or.inr rfl))(hd:(x == ("__debug__":Str))=false:=by decide)
  (hcd:(x == ("__classdict__":Str))=false:=by decide):PE X (.Name x pos) (tVar i):=pe_var hN hv hd hcd
end
theorem iteF {A B:Prop}(h:B):if false=true then A else B:=by
 rw [if_neg Bool.false_ne_true]
 exact h
theorem ite2 {c A B:Prop}[Decidable c](h1:c->A)(h2:¬ c->B):if c then A else B:=by
 by_cases h:c
 ·rw [if_pos h]
  exact h1 h
 ·rw [if_neg h]
  exact h2 h
noncomputable def Same (H H':Hp):Prop:=∀ b o,H b=some o->H' b=some o
theorem Same.refl (H:Hp):Same H H:=λ_ _ h=>h
section
variable {X:Cx}
end
section
variable {κ:Type}[DecidableEq κ]
end
end L2
set_option maxHeartbeats 4000000
namespace L2
open PySem PySem.Spec PyProof.Rows
noncomputable def closL (f:Str->Addr):List (Str×NameKind)->List (Str×Addr)->List (Str×Addr)
 | [],acc=>acc
 | (n,kd)::r,acc=>closL f r (if (kd == NameKind.free)=true then (n,f n)::acc else acc)
theorem closureFor_closL {scope:Scope}{env:Env}{f:Str->Addr}(h:∀ y∈scope.names,y.2 = .free->cellOf env y.1=pure (f y.1)) :
  closureFor scope env=pure (closL f scope.names []):=by
 have key:∀ (l:List (Str×NameKind)) (acc:List (Str×Addr)),(∀ y∈l,y.2 = .free->cellOf env y.1=pure (f y.1)) ->
   (forIn l acc (λ(x:Str×NameKind) (cs:List (Str×Addr))=>if (x.2 == NameKind.free)=true then (do let c ← cellOf env x.1;pure (ForInStep.yield ((x.1,c)::cs))) else pure (ForInStep.yield cs)):Sem (List (Str×Addr)))=pure (closL f l acc):=by
  intro l
  induction l with
  | nil=>intro acc _;rfl
  | cons y r ih =>
   intro acc hy
   obtain ⟨n,kd⟩:=y
   rw [List.forIn_cons]
   by_cases hk:(kd == NameKind.free)=true
   ·have e:kd = .free:=by simpa using hk
    have hc:=hy (n,kd) List.mem_cons_self e
    simp only [hk,if_true]
    dsimp only at hc
    rw [hc]
    show (forIn r ((n,f n)::acc) _:Sem _)=_
    rw [ih _ λz hz=>hy z (List.mem_cons_of_mem _ hz)]
    simp only [closL,hk,if_true]
   ·simp only [hk,if_false]
    show (forIn r acc _:Sem _)=_
    rw [ih _ λz hz=>hy z (List.mem_cons_of_mem _ hz)]
    simp only [closL,hk,if_false]
    rfl
 have:=key scope.names [] h
 unfold closureFor
 show (forIn scope.names [] _ >>= λr=>pure r)=_
 rw [show (forIn scope.names ([]:List (Str×Addr)) _:Sem _)=_ from this]
 rfl
theorem closL_lookup {f:Str->Addr}:∀ (l:List (Str×NameKind)) (acc:List (Str×Addr)) {x:Str} {c:Addr},(closL f l acc).lookup x=some c->((x,NameKind.free)∈l∧c=f x)∨acc.lookup x=some c
 | [],_,_,_,h=>.inr h
 | (n,kd)::r,acc,x,c,h=>by
  rw [closL] at h
  rcases closL_lookup r _ h with ⟨h1,h2⟩ | h1
  ·exact .inl ⟨List.mem_cons_of_mem _ h1,h2⟩
  ·by_cases hk:(kd == NameKind.free)=true
   ·rw [if_pos hk] at h1
    have e:kd = .free:=by simpa using hk
    subst e
    by_cases hx:x=n
    ·subst hx
     simp at h1
     exact .inl ⟨List.mem_cons_self,h1.symm⟩
    ·have hb:(x == n)=false:=beq_eq_false_iff_ne.mpr hx
     rw [List.lookup_cons,hb] at h1
     exact .inr h1
   ·rw [if_neg hk] at h1
    exact .inr h1
theorem closL_has {f:Str->Addr}:∀ (l:List (Str×NameKind)) (acc:List (Str×Addr)) {x:Str},((x,NameKind.free)∈l∨acc.lookup x=some (f x))->(closL f l acc).lookup x=some (f x)
 | [],_,_,h=>by
  rcases h with h | h
  ·exact absurd h (by simp)
  ·exact h
 | (n,kd)::r,acc,x,h=>by
  rw [closL]
  refine closL_has r _ ?_
  by_cases hk:(kd == NameKind.free)=true
  ·rw [if_pos hk]
   have e:kd = .free:=by simpa using hk
   subst e
   by_cases hx:x=n
   ·subst hx
    exact .inr (by simp)
   ·have hb:(x == n)=false:=beq_eq_false_iff_ne.mpr hx
    rcases h with h | h
    ·rcases List.mem_cons.mp h with z | z
     ·cases z;exact absurd rfl hx
     ·exact .inl z
    ·exact .inr (by rw [List.lookup_cons,hb];exact h)
  ·rw [if_neg hk]
   rcases h with h | h
   ·rcases List.mem_cons.mp h with z | z
    ·cases z;exact absurd rfl hk
    ·exact .inl z
   ·exact .inr h
theorem relabel_mem {scope:Scope}{env:Env}{x:Str}(hn:∀ y∈scope.names,y.2 ≠ .cell)(h:(relabel scope env).names.lookup x=some .cell∨(relabel scope env).names.lookup x=some .free):(x,NameKind.free)∈scope.names:=by
 have go:∀ kd,(relabel scope env).names.lookup x=some kd->kd = .cell∨kd = .free->(x,NameKind.free)∈scope.names:=by
  intro kd h hk
  have hm:=PySem.mem_of_lookup h
  unfold relabel at hm
  obtain ⟨⟨n,k0⟩,hy,e⟩:=List.mem_map.mp hm
  by_cases hc:(k0 == NameKind.free && env.scope.kind == .function && env.kindOf n == some .cell)=true
  ·simp only [hc,if_true] at e
   cases e
   have:k0 = .free:=by
    simp only [Bool.and_eq_true] at hc
    simpa using hc.1.1
   subst this
   exact hy
  ·simp only [hc,if_false] at e
   cases e
   rcases hk with r | r
   ·subst r;exact absurd rfl (hn _ hy)
   ·subst r;exact hy
 rcases h with h | h
 ·exact go _ h (.inl rfl)
 ·exact go _ h (.inr rfl)
theorem lookup_mapped {φ:Str×NameKind->Str×NameKind}(hφ:∀ n k,φ (n,k)=(n,k)∨(k = .free ∧ φ (n,k)=(n,.cell))):∀ {names:List (Str×NameKind)} {x:Str},names.lookup x=some .free->(names.map φ).lookup x=some .cell∨(names.map φ).lookup x=some .free
 | [],_,h=>by simp at h
 | (n,k)::r,x,h=>by
  have ih:=@lookup_mapped φ hφ r x
  rw [List.map_cons]
  cases hx:x == n with
  | true =>
   simp only [List.lookup_cons,hx] at h
   cases h
   rcases hφ n .free with e | ⟨_,e⟩
   ·rw [e,List.lookup_cons,hx];exact .inr rfl
   ·rw [e,List.lookup_cons,hx];exact .inl rfl
  | false =>
   simp only [List.lookup_cons,hx] at h
   rcases hφ n k with e | ⟨_,e⟩
   ·rw [e,List.lookup_cons,hx];exact ih h
   ·rw [e,List.lookup_cons,hx];exact ih h
theorem relabel_free {scope:Scope}{env:Env}{x:Str}(h:scope.names.lookup x=some .free):(relabel scope env).names.lookup x=some .cell∨(relabel scope env).names.lookup x=some .free:=by
 unfold relabel
 refine lookup_mapped (λn k=>?_) h
 by_cases hc:(k == NameKind.free && env.scope.kind == .function && env.kindOf n == some .cell)=true
 ·refine .inr ⟨?_,if_pos hc⟩
  simp only [Bool.and_eq_true] at hc
  simpa using hc.1.1
 ·exact .inl (if_neg hc)
section
variable {prog:Program}{w:World}{A:Around}{R:Result->Shared->Prop}{s:Shared}
theorem compLoop_any {elt target iter:Expr}{ifs:List Expr}{scope:Scope}{pos:Pos}{it acc:Value}{env:Env}(I:Nat->Shared->Prop)
  (turn:∀ n s,I n s->wpAny (model prog w) A (pyNext it) (λr s₁=>match r with
   | none=>R (.ok .next) s₁
   | some v=>wpAny (model prog w) A (letOwnedTupleGo target it v) (λ_ s₀=>wpAny (model prog w) A (assign target env v) (λ_ s₂ =>
     wpAny (model prog w) A (forIn ifs true λc r=>if r=true then do let ok ← isTrue c env (eval c env);pure (ForInStep.yield ok) else pure (ForInStep.yield r)) (λok s₃ =>
      if ok=true then wpAny (model prog w) A (eval elt env) (λx s₄ =>
       wpAny (model prog w) A (call (.builtin "list.append") [acc,x]) (λ_ s₅=>∃ m,m<n∧I m s₅) (λ_ _=>False) s₄) (λ_ _=>False) s₃
      else ∃ m,m<n∧I m s₃) (λ_ _=>False) s₂) (λ_ _=>False) s₀) (λ_ _=>False) s₁) (λ_ _=>False) s)
  (n:Nat) (h:I n s) :
  codeAny (model prog w) A (.compLoop (.ListComp elt [⟨target,iter,ifs,0⟩] scope pos) 0 it acc env) R s:=by
 refine codeAny_loop rfl I (λn s hI=>?_) n h
 show wpAny _ A ((compTurn (.ListComp elt [⟨target,iter,ifs,0⟩] scope pos) 0 it acc env).onRaise (λx=>do noteFrame x env;theTreesLotGoes x)) _ _ s
 refine wpAny_noted ?_
 rw [compTurn_list]
 refine wpAny_bind (wpAny_standAt (wpAny_bind (wpAny_mono (turn n s hI) (λr s₁ h₁=>?_) λ_ _ h'=>h'.elim)))
 cases r with
 | none=>exact wpAny_pure h₁
 | some v =>
  refine wpAny_bind (wpAny_mono h₁ (λ_ s₀ h₀=>?_) λ_ _ h'=>h'.elim)
  refine wpAny_bind (wpAny_mono h₀ (λ_ s₂ h₂=>wpAny_bind (wpAny_mono h₂ (λok s₃ h₃=>?_) λ_ _ h'=>h'.elim)) λ_ _ h'=>h'.elim)
  cases ok with
  | false=>exact wpAny_pure ⟨rfl,h₃⟩
  | true =>
   exact wpAny_bind (wpAny_bind (wpAny_mono h₃ (λx s₄ h₄=>wpAny_bind (wpAny_mono h₄ (λ_ s₅ h₅=>wpAny_pure (wpAny_pure ⟨rfl,h₅⟩)) λ_ _ h'=>h'.elim)) λ_ _ h'=>h'.elim))
end
noncomputable def capt (k:Nat)(cap:List Nat)(σ:St):St:=List.replicate k none++cap.map λj=>(σ[j]?).join
structure Caps (ON:List Str) (osc:Scope) (N:List Str) (k:Nat) (cap:List Nat) (scope:Scope):Prop where
 kind:scope.kind = .function
 nocell:∀ y∈scope.names,y.2 ≠ .cell
 loc:∀ y∈scope.names,y.2 = .local->scope.names.lookup y.1=some .local
 free:∀ y∈scope.names,y.2 = .free->osc.names.lookup y.1=some .cell∨osc.names.lookup y.1=some .free
 len:N.length=k+cap.length
 capx:(cap.map λj=>ON[j]?)=(N.drop k).map some
 capf:∀ x∈N.drop k,scope.names.lookup x=some .free
noncomputable def cxC (X:Cx)(N:List Str)(scope:Scope)(cl:List (Str×Addr))(C:Addr)(ex:List Addr)(pins:List (Addr×Obj))(s₀:Shared)(H₀:Hp):Cx where
 prog:=X.prog
 w:=X.w
 K:=X.K
 mg:=X.mg
 base:=X.base
 A:=X.A
 N:=N
 s₀:=s₀
 H₀:=H₀
 env:=compEnvC scope cl C X.env
 outer:=X.stack
 stack:=X.stack
 ex:=ex
 fn:=λ_=>false
 calm:=X.calm
 pn:=X.pn++pins
 xe:=λ_ _=>False
noncomputable def PTs (X:Cx)(ifs:List Expr)(t:TT):Prop :=
 ∀ (pins:List (Addr×Obj)) (s:Shared) (σ:St) (H:Hp) (Q:Bool->Hp->Prop),Inv X pins σ H s->t σ H Q ->
  wpAny (model X.prog X.w) X.A (forIn ifs true λc r=>if r=true then do let ok ← isTrue c X.env (eval c X.env);pure (ForInStep.yield ok) else pure (ForInStep.yield r)) (TP X pins σ Q) X.xe s
noncomputable def tNoT:TT:=λ_ H Q=>Q true H
theorem pts_nil {X:Cx}:PTs X [] tNoT:=λ_ _ _ H _ I h=>wpAny_tests_nil ⟨H,I,h⟩
theorem pts_one {X:Cx}{c:Expr}{t:TT}(h:PT X c t):PTs X [c] t:=λpins s σ H Q I q=>wpAny_tests_one (h pins s σ H Q I q)
noncomputable def tLC (wi:TI)(k:Nat)(cap:List Nat)(g:TG)(tt:TT)(te:TE):TE:=λσ H Q=>wi σ H λJ H1=>∀ D,H1 D=none ->
 ∃ W:Nat->Nat->St->List V->Hp->Prop,(∃ m,W 0 m (capt k cap σ) [] (upd H1 D (.lst [])))∧∀ i m σ' acc H',W i m σ' acc H' ->
  (J.stop i H' ∧ Q (.ref D) H') ∨
  (J.go i H' ∧ ∀ x H2,J.yld i H' x H2->g x σ' H2 λσ2 H3=>tt σ2 H3 λok H4=>if ok=true then te σ2 H4 λy H5=>H5 D=some (.lst acc)∧acc.length<sizeLine∧∃ m',m' < m∧W (i+1) m' σ2 (acc++[y]) (upd H5 D (.lst (acc++[y])))
   else H4 D=some (.lst acc)∧∃ m',m' < m∧W (i+1) m' σ2 acc H4)
theorem lc_block {X:Cx}{elt tg iter:Expr}{ifs:List Expr}{scope osc:Scope}{pos:Pos}{N:List Str}{k:Nat}{cap:List Nat}{g:TG}{tt:TT}{te:TE}{cl:List (Str×Addr)}
  {pins:List (Addr×Obj)} {σ:St} {H3:Hp} {s3:Shared} {D it:Addr} {fp:List Addr} {tn:Nat->Heap->Prop} {J:It} {Q:VK} {W:Nat->Nat->St->List V->Hp->Prop} {m0:Nat}
  (hc:X.calm=true) (hosc:X.env.scope=osc) (hcap:Caps X.N osc N k cap scope)
  (hcl:∀ {x:Str} {c:Addr},cl.lookup x=some c->X.env.cells.lookup x=some c) (hhas:∀ x,(x,NameKind.free)∈scope.names->∃ c,cl.lookup x=some c)
  (hg:∀ cl C ex pins s H,PG (cxC X N scope cl C ex pins s H) tg g)
  (ht:∀ cl C ex pins s H,PTs (cxC X N scope cl C ex pins s H) ifs tt)
  (he:∀ cl C ex pins s H,PE (cxC X N scope cl C ex pins s H) elt te)
  (I3:Inv X pins σ H3 s3) (hD:H3 D=some (.lst [])) (T:Turn X.prog X.w X.K tg J fp it tn) (st:tn 0 s3.heap) (f3:∀ b∈fp,FpOk X pins H3 b) (w0:W 0 m0 (capt k cap σ) [] H3)
  (turn:∀ i m σ' acc H',W i m σ' acc H'->(J.stop i H' ∧ Q (.ref D) H') ∨
   (J.go i H' ∧ ∀ x H2,J.yld i H' x H2->g x σ' H2 λσ2 H3=>tt σ2 H3 λok H4=>if ok=true then te σ2 H4 λy H5=>H5 D=some (.lst acc)∧acc.length<sizeLine∧∃ m',m' < m∧W (i+1) m' σ2 (acc++[y]) (upd H5 D (.lst (acc++[y])))
    else H4 D=some (.lst acc)∧∃ m',m' < m∧W (i+1) m' σ2 acc H4)) :
  wpAny (model X.prog X.w) X.A (newFunctionEnv scope X.env.globals cl [] X.env.qual none .none (some X.env)) (λcenv s₄ =>
   codeAny (model X.prog X.w) X.A (.compStart (.ListComp elt [⟨tg,iter,ifs,0⟩] scope pos) 0 (.ref it) (.ref D) { cenv with scope:=relabel scope X.env }) (compPost (model X.prog X.w) X.A X.xe none (EP X pins σ Q) (.ref D) cenv.locals) s₄) X.xe s3:=by
 refine wpAny_newFunctionEnv hcap.nocell (by intro y hy;simp at hy) (λh₁ hns₁ hsb₁=>?_) hcap.kind
 have old:∀ b o,s3.heap.get? b=some o->h₁.get? b=some o:=λb o e=>hsb₁.extBut b o (Nat.ne_of_lt (Heap.lt_size e)) (Heap.get?_push_of_some _ e)
 have neC:∀ b∈fp,b≠s3.heap.objs.size:=λb hb=>by
  obtain ⟨o,e,_⟩:=T.obj _ _ st b hb
  exact Nat.ne_of_lt (Heap.lt_size e)
 have nofs:∀ {b:Addr},b≠X.env.locals->b ∉ X.fs->b ∉ frs X.stack:=λ{b} h1 h2 z=>(List.mem_cons.mp (I3.stkSub b z)).elim h1 h2
 have IY:Inv (cxC X N scope cl s3.heap.objs.size fp pins s3 H3) [] (capt k cap σ) H3 { s3 with heap:=h₁,toks:=s3.toks+([]:List (Str×Value)).length }:=by
  refine ⟨⟨I3.ok.mod,hcap.kind,I3.ok.glob,I3.ok.blt,Nat.le_refl _,λx y c h1 h2=>I3.ok.inj x y c (hcl h1) (hcl h2),λx hx=>hhas x (relabel_mem hcap.nocell hx),λx c h=>absurd (show false=true from h) Bool.false_ne_true,I3.ok.hd,I3.ok.frames,.inl rfl,
   λb hb=>⟨neC b hb,λx c e=>(f3 b hb).2.2.2.2.1 x c (hcl e)⟩,I3.bs,Nat.le_trans I3.ok.bsz I3.sz,λb o e hb=>?_,λb hb=>nofs (f3 b hb).2.1 (f3 b hb).2.2.1,I3.stack,I3.stkFree⟩,
   rfl,I3.bare,Un.kept old,⟨_,hns₁,λi x v e1 e2 e3=>?_⟩,λx c e=>?_,I3.hok.fresh (Nat.le_refl _),λx c e=>I3.freeC x c (hcl e),λp hp=>?_,I3.hok.kept old,?_⟩
  ·rcases (f3 b hb).2.2.2.1 with z | z
   ·exact I3.ok.noex b o e z
   ·exact absurd (Nat.lt_of_lt_of_le (Heap.lt_size e) (Nat.le_trans I3.ok.bsz z)) (Nat.lt_irrefl _)
  ·by_cases hi:i<k
   ·unfold capt at e2
    rw [List.getElem?_append_left (by simpa using hi),List.getElem?_replicate,if_pos hi] at e2
    cases e2
   ·obtain ⟨d,rfl⟩:∃ d,i=k+d:=⟨i - k,by omega⟩
    unfold capt at e2
    rw [List.getElem?_append_right (by simp),List.length_replicate,Nat.add_sub_cancel_left,List.getElem?_map] at e2
    obtain ⟨j,hj,hv⟩:=Option.map_eq_some_iff.mp e2
    have hσ:σ[j]? = some (some v):=by
     cases q:σ[j]? with
     | none=>rw [q] at hv;cases hv
     | some o=>rw [q] at hv;exact congrArg some hv
    have e1':(N.drop k)[d]? = some x:=by rw [List.getElem?_drop];exact e1
    have hx:X.N[j]? = some x:=by
     have z:=congrArg (λl=>l[d]?) hcap.capx
     simp only [List.getElem?_map,hj,e1',Option.map_some] at z
     exact Option.some.inj z
    have hfr:=hcap.capf x (List.mem_of_getElem? e1')
    have hfm:=PySem.mem_of_lookup hfr
    have hok:=hcap.free _ hfm rfl
    rw [← hosc] at hok
    obtain ⟨m,hn,hl⟩:=I3.loc
    obtain ⟨u,r,l⟩:=hl j x v hx hσ (.inr hok)
    refine ⟨u,r,?_⟩
    rcases l with ⟨hk,_⟩ | ⟨hk,c,hc1,hc2⟩
    ·have hk:X.env.scope.names.lookup x=some .local:=hk
     rcases hok with z | z <;> (rw [hk] at z;cases z)
    ·obtain ⟨c',hc'⟩:=hhas x hfm
     have:c' = c:=Option.some.inj ((hcl hc').symm.trans hc1)
     subst this
     exact .inr ⟨relabel_free hfr,c',hc',hc2.keeps old⟩
  ·obtain ⟨v,z⟩:=I3.cell x c (hcl e)
   exact ⟨v,z.keeps old⟩
  ·have hp:p∈(X.pn++pins)++[]:=hp
   rw [List.append_nil] at hp
   obtain ⟨a1,a2,a3,a4,a5⟩:=I3.pin p hp
   exact ⟨old _ _ a1,a2,Nat.ne_of_lt (Heap.lt_size a1),nofs a3 a4,a5⟩
  ·show (capt k cap σ).length=N.length
   unfold capt
   rw [List.length_append,List.length_replicate,List.length_map,hcap.len]
 have stat:∀ {H':Hp},(∀ b∈fp,H' b=none)->∀ b∈fp,FpOk (cxC X N scope cl s3.heap.objs.size fp pins s3 H3) [] H' b:=λ{H'} hn b hb=>by
  obtain ⟨a0,a1,a2,a3,a4,a5⟩:=f3 b hb
  refine ⟨hn b hb,neC b hb,nofs a1 a2,.inl hb,λx c e=>a4 x c (hcl e),λp hp=>a5 p ?_⟩
  have hp:p∈(X.pn++pins)++[]:=hp
  rwa [List.append_nil] at hp
 have loop:codeAny (model X.prog X.w) X.A (.compLoop (.ListComp elt [⟨tg,iter,ifs,0⟩] scope pos) 0 (.ref it) (.ref D) (compEnvC scope cl s3.heap.objs.size X.env))
   (compPost (model X.prog X.w) X.A X.xe none (EP X pins σ Q) (.ref D) s3.heap.objs.size) { s3 with heap:=h₁,toks:=s3.toks+([]:List (Str×Value)).length }:=by
  refine compLoop_any (λn s'=>∃ i σ' acc H',Inv (cxC X N scope cl s3.heap.objs.size fp pins s3 H3) [] σ' H' s' ∧ tn i s'.heap∧(∀ b∈fp,H' b=none)∧H' D=some (.lst acc)∧W i n σ' acc H') ?_ m0
   ⟨0,_,[],H3,IY,T.keep _ _ _ st λb _ o e=>old b o e,λb hb=>(f3 b hb).1,hD,w0⟩
  rintro n s5 ⟨i,σ5,acc,H5,I5,st5,fr5,hD5,w5⟩
  rcases turn i n σ5 acc H5 w5 with ⟨stop,q⟩ | ⟨go,step⟩
  ·refine thn (T.done (cxC X N scope cl s3.heap.objs.size fp pins s3 H3) rfl rfl rfl hc i [] s5 σ5 H5 _ I5 (stat fr5) st5 stop) λr s6 ⟨hr,I6⟩=>?_
   subst hr
   obtain ⟨m,hn,_⟩:=id I6.loc
   refine ⟨m,hn,λh' hsb=>?_⟩
   have I7:Inv X pins σ H5 s6:=I3.call' I6.os I6.base I6.hok I6.bare λb hb=>by
    obtain ⟨a0,a1,a2,a3,a4,a5⟩:=f3 b hb
    exact ⟨a3,a1,a4,a5⟩
   obtain ⟨g0,g1,g2,g3,g4,g5⟩:=I3.fpOk (H':=H5) (b:=s3.heap.objs.size) (Nat.le_refl _) I6.free
   exact ⟨.ref D,H5,I7.turned (t':=s6.toks) (λb o hb e=>(hsb.2 b hb).trans e) g0 g1 g3 g4 g5,rfl,q⟩
  ·refine thn (T.item (cxC X N scope cl s3.heap.objs.size fp pins s3 H3) rfl rfl rfl hc i [] s5 σ5 H5 _ I5 (stat fr5) st5 go) λr s6 ⟨u,hr,h6⟩=>?_
   subst hr
   refine thn h6 λ_ s7 ⟨x,H7,I7,r7,y7,st7,fr7⟩=>?_
   have I7':=I7.pinned (stat fr7) (T.obj _ _ st7)
   have keepI:∀ {s':Shared} {σ':St} {H':Hp},Inv (cxC X N scope cl s3.heap.objs.size fp pins s3 H3) ([]++pinsAt fp s7.heap) σ' H' s'->tn (i+1) s'.heap∧∀ b∈fp,H' b=none:=λ{s' σ' H'} I'=>by
    refine ⟨T.keep _ _ _ st7 λb hb o e=>(I'.pin (b,o) (List.mem_append_right _ (List.mem_append_right _ (mem_pinsAt hb e)))).1,λb hb=>?_⟩
    obtain ⟨o,e,d⟩:=T.obj _ _ st7 b hb
    exact (I'.pin (b,o) (List.mem_append_right _ (List.mem_append_right _ (mem_pinsAt hb e)))).2.1
   refine thn (hg _ _ _ _ _ _ _ s7 σ5 H7 x u _ I7' r7 (step x H7 y7)) λ_ s8 ⟨σ8,H8,I8,q8⟩=>?_
   refine thn (ht _ _ _ _ _ _ _ s8 σ8 H8 _ I8 q8) λok s9 ⟨H9,I9,q9⟩=>?_
   cases ok with
   | false =>
    have q9:H9 D=some (.lst acc)∧∃ m',m' < n∧W (i+1) m' σ8 acc H9:=q9
    obtain ⟨hD9,m',hm,w9⟩:=q9
    obtain ⟨k1,k2⟩:=keepI I9
    exact ⟨m',hm,i+1,σ8,acc,H9,I9.unpinned,k1,k2,hD9,w9⟩
   | true =>
    refine thn (he _ _ _ _ _ _ _ s9 σ8 H9 _ I9 q9) λyv s10 ⟨y,H10,I10,r10,hD10,hz,m',hm,w10⟩=>?_
    refine thn (mt_append (X:=cxC X N scope cl s3.heap.objs.size fp pins s3 H3) _ s10 σ8 H10 (.ref D) [y] (.ref D) [yv] (λ_ H'=>H' = upd H10 D (.lst (acc++[y]))) I10 rfl (.cons r10 .nil) ⟨D,acc,y,rfl,rfl,hD10,hz,rfl⟩)
     λ_ s11 ⟨_,H11,I11,_,e11⟩=>?_
    subst e11
    obtain ⟨k1,k2⟩:=keepI I11
    exact ⟨m',hm,i+1,σ8,acc++[y],_,I11.unpinned,k1,k2,upd_same,w10⟩
 exact codeAny_compStart_list loop (T.self X.A 0 _ _ _ (T.keep _ _ _ st λb _ o e=>old b o e) loop)
theorem pe_lc {X:Cx}{elt tg iter:Expr}{ifs:List Expr}{scope osc:Scope}{pos:Pos}{N:List Str}{k:Nat}{cap:List Nat}{wi:TI}{g:TG}{tt:TT}{te:TE}
  (hc:X.calm=true) (hosc:X.env.scope=osc) (hcap:Caps X.N osc N k cap scope) (hi:PI X tg iter wi)
  (hg:∀ cl C ex pins s H,PG (cxC X N scope cl C ex pins s H) tg g)
  (ht:∀ cl C ex pins s H,PTs (cxC X N scope cl C ex pins s H) ifs tt)
  (he:∀ cl C ex pins s H,PE (cxC X N scope cl C ex pins s H) elt te)
  (hs:∀ x,foldedSetIterable iter X.env x=pure x:=by intro _;rfl) :
  PE X (.ListComp elt [⟨tg,iter,ifs,0⟩] scope pos) (tLC wi k cap g tt te):=by
 intro pins s σ H Q I h
 have hcell:∀ y∈scope.names,y.2 = .free->∃ c,X.env.cells.lookup y.1=some c:=λy hy hk=>I.ok.has y.1 (by
  show X.env.scope.names.lookup y.1=_∨X.env.scope.names.lookup y.1=_
  rw [hosc];exact hcap.free y hy hk)
 let f:Str->Addr:=λx=>(X.env.cells.lookup x).getD 0
 have hf:∀ y∈scope.names,y.2 = .free->X.env.cells.lookup y.1=some (f y.1):=λy hy hk=>by
  obtain ⟨c,e⟩:=hcell y hy hk
  show _=some ((X.env.cells.lookup y.1).getD 0)
  rw [e];rfl
 have hclos:closureFor scope X.env=pure (closL f scope.names []):=closureFor_closL λy hy hk=>by
  unfold cellOf
  rw [hf y hy hk]
 have hcl:∀ {x:Str} {c:Addr},(closL f scope.names []).lookup x=some c->X.env.cells.lookup x=some c:=λ{x c} e=>by
  rcases closL_lookup _ _ e with ⟨h1,h2⟩ | h1
  ·rw [h2];exact hf (x,.free) h1 rfl
  ·simp at h1
 have hhas:∀ x,(x,NameKind.free)∈scope.names->∃ c,(closL f scope.names []).lookup x=some c:=λx hx=>⟨_,closL_has _ _ (.inl hx)⟩
 generalize closL f scope.names []=cl at hclos hcl hhas
 rw [eval_ListComp]
 refine wpAny_comprehension_free (use:=none) (cl:=cl) rfl hs hclos hcap.kind hcap.loc ?_
 refine thn (hi pins s σ H _ I h) λv s1 h1=>thn h1 λitv s2 h2=>?_
 obtain ⟨it,fp,tn,J,H2,e,I2,T,st2,f2,q2⟩:=h2
 subst e
 obtain ⟨W,⟨m0,w0⟩,turn⟩:=q2 s2.heap.objs.size (I2.hok.fresh (Nat.le_refl _))
 refine wpAny_newObj_type ?_
 have I3:Inv X pins σ (upd H2 s2.heap.objs.size (.lst [])) { s2 with heap:=s2.heap.push { cls:=.type "list",data:=.seq ([]:List Value).toArray } }:=I2.lnew (ys:=[]) (its:=[]) (t':=s2.toks) .nil (Nat.zero_le _)
 have lt2:∀ b∈fp,b≠s2.heap.objs.size:=λb hb=>by
  obtain ⟨o,e,_⟩:=T.obj _ _ st2 b hb
  exact Nat.ne_of_lt (Heap.lt_size e)
 exact lc_block hc hosc hcap hcl hhas hg ht he I3 upd_same T (T.keep _ _ (s2.heap.push { cls:=.type "list",data:=.seq ([]:List Value).toArray }) st2 λb _ o e=>Heap.get?_push_of_some _ e) (λb hb=>⟨by rw [upd_ne (lt2 b hb)];exact (f2 b hb).1,(f2 b hb).2⟩) w0 turn
end L2
namespace L2
open PySem PySem.Spec PyProof.Rows
mutual
noncomputable def DatIs (K:PySem.W.Frag)(H:Hp):PyData->V->Prop
 | .none,v=>v = .non
 | .bool b,v=>v = .bl b
 | .int i,v=>v = .int i
 | .str x,v=>v = .str x
 | .tuple ds,v=>∃ a xs,v = .ref a∧SqT K H a xs∧DatsAre K H ds xs
 | .list ds,v=>∃ a xs,v = .ref a∧H a=some (.lst xs)∧DatsAre K H ds xs
 | .dict _,_=>False
noncomputable def DatsAre (K:PySem.W.Frag)(H:Hp):List PyData->List V->Prop
 | [],xs=>xs=[]
 | d::ds,xs=>∃ x r,xs=x::r∧DatIs K H d x∧DatsAre K H ds r
end
section
variable {X:Cx}{pins:List (Addr×Obj)}{σ:St}{H:Hp}{s:Shared}
mutual
theorem reads_of (I:Inv X pins σ H s):∀ (d:PyData) (v:V) (u:Value),DatIs X.K H d v->RelV v u->∃ as,Reads s.heap u d as
 | .none,v,u,h,r=>by
  simp only [DatIs] at h;subst h;cases (show u=Value.none from r);exact ⟨_,.none⟩
 | .bool b,v,u,h,r=>by
  simp only [DatIs] at h;subst h;cases (show u=Value.bool b from r);exact ⟨_,.bool b⟩
 | .int i,v,u,h,r=>by
  simp only [DatIs] at h;subst h;obtain ⟨t,rfl⟩:=(show ∃ t,u=Value.int i t from r);exact ⟨_,.int i t⟩
 | .str x,v,u,h,r=>by
  simp only [DatIs] at h;subst h;obtain ⟨t,rfl⟩:=(show ∃ t,u=Value.str x t from r);exact ⟨_,.str x t⟩
 | .tuple ds,v,u,h,r=>by
  simp only [DatIs] at h
  obtain ⟨a,xs,rfl,hq,hd⟩:=h
  cases (show u=Value.ref a from r)
  obtain ⟨its,rv,ht,_⟩:=I.tuple hq
  obtain ⟨o,h1,h2,n,h3⟩:=ht
  obtain ⟨as,ra⟩:=readsAll_of I ds xs its hd rv
  exact ⟨_,.tuple h1 h2 h3 ra⟩
 | .list ds,v,u,h,r=>by
  simp only [DatIs] at h
  obtain ⟨a,xs,rfl,hq,hd⟩:=h
  cases (show u=Value.ref a from r)
  obtain ⟨its,rv,ht,_⟩:=I.list (SqL.of hq)
  obtain ⟨o,h1,h2,n,h3⟩:=ht.isList
  obtain ⟨as,ra⟩:=readsAll_of I ds xs its hd rv
  exact ⟨_,.list h1 h2 h3 ra⟩
 | .dict kvs,v,u,h,r=>by
  simp only [DatIs] at h
theorem readsAll_of (I:Inv X pins σ H s):∀ (ds:List PyData) (xs:List V) (us:List Value),DatsAre X.K H ds xs->Vals xs us->∃ as,ReadsAll s.heap us ds as
 | [],xs,us,h,r=>by
  simp only [DatsAre] at h;subst h;cases r;exact ⟨_,.nil⟩
 | d::ds,xs,us,h,r=>by
  simp only [DatsAre] at h
  obtain ⟨x,rr,rfl,h1,h2⟩:=h
  cases r with
  | cons r1 r2 =>
   obtain ⟨as,ra⟩:=reads_of I d x _ h1 r1
   obtain ⟨bs,rb⟩:=readsAll_of I ds rr _ h2 r2
   exact ⟨_,.cons ra rb⟩
end
end
structure Shw (d:PyData) (dp n:Nat):Prop where
 sh:d.showable=true
 nd:d.hasDict=false
 de:d.depth≤dp
 ln:d.shown.length≤n
theorem Shw.int {i:Int}{k:Nat}(h:i.natAbs<2 ^ k)(hk:0<k)(hk2:k≤1900):Shw (.int i) 0 (k+20):=by
 have hlog:i.natAbs.log2<1920:=by
  by_cases h0:i.natAbs=0
  ·rw [h0];decide
  ·have:=(Nat.log2_lt h0).mpr h
   omega
 refine ⟨by simp only [PyData.showable,hlog,decide_true],by simp only [PyData.hasDict],by simp only [PyData.depth];omega,?_⟩
 have hl2:i.natAbs.log2<k:=by
  by_cases h0:i.natAbs=0
  ·rw [h0];exact hk
  ·exact (Nat.log2_lt h0).mpr h
 have e:=int_text_length_le hk hl2
 simp only [PyData.shown]
 rw [PySem.ofString_length]
 omega
section
variable {X:Cx}
noncomputable def rRepr (K:PySem.W.Frag):List V->Hp->VK->Prop:=λxs H Q=>∃ a d,xs=[.ref a]∧DatIs K H d (.ref a)∧Shw d 50 16000000∧Q (.str d.shown) H
theorem call_repr (hg:X.A.guards=some [])(hu:X.A.units+64<cLine):CallR X (.builtin "repr") (rRepr X.K):=by
 intro pins s σ H xs us Q I r h
 obtain ⟨a,d,rfl,hd,hs,q⟩:=h
 obtain ⟨u,rfl,ru⟩:=vals1 r
 cases ru
 obtain ⟨as,rd⟩:=reads_of I d (.ref a) (.ref a) hd rfl
 refine repr_of_reads' rd hs.sh (PyData.noDict_hsm hs.nd) hg (by have:=hs.de;omega) (λ_ _ e=>e) (λh' u tk hk=>⟨.str d.shown,H,I.kept hk,⟨u,rfl⟩,q⟩) (Nat.le_trans hs.ln (by rw [sizeLine_eq];decide))
end
end L2
namespace HT
open PySem PyProof.Rows
section
variable {prog:Program}{w:World}{A:Around}{E:Value->Shared->Prop}{s:Shared}
theorem getItem_tuple_whole {t sl:Addr}{items:Array Value}{vl vu:Value}{lo hi:Option Int}{Q:Value->Shared->Prop}(ht:IsTup s.heap t items)(hs:s.heap.IsSliceOf sl vl vu .none)(pl:IsPart vl lo)(pu:IsPart vu hi)
  (h0:sIx items.size 0 lo=0) (h1:sIx items.size items.size hi=items.size) (h:Q (.ref t) s):wpAny (model prog w) A (getItem (.ref t) (.ref sl)) Q E s:=by
 obtain ⟨os,hos,hcs,hds⟩:=id hs
 have hTs:s.TypeIs (.ref sl) "slice":=⟨os,hos,hcs⟩
 unfold getItem
 try with_reducible refine wpAny_holding ?_
 first | refine wpAny_bind (wpAny_pure ?_) | skip
 refine wpAny_bind (wpAny_sequenceKey ht.typeIs (by decide) ?_)
 refine wpAny_bind (wpAny_callSpecial?_slot (name:=Str.ofString "__getitem__") ht.typeIs PyProof.Rows.slot_tuple_getitem
  (wpAny_call_entry PyProof.Rows.slot_tuple_getitem ht.typeIs entry_tuple_getitem ?_ (args_tuple_getitem _ _)))
 show wpAny _ _ (Builtin.Tuple.tupleItemsOf (.ref t) >>= _) _ _ s
 refine wpAny_bind (tupleItemsOf_ ht ?_)
 refine wpAny_bind (wpAny_typeOf hTs ?_)
 rw [if_pos (by decide)]
 refine wpAny_bind (sliceApplied_gen hs pl pu ?_)
 have hyes:(((sIx items.size 0 lo:Nat):Int) == 0 && (1:Int) == 1 && (sIx items.size items.size hi - sIx items.size 0 lo) == items.size)=true:=by
  rw [h0,h1];simp
 show wpAny _ _ (if (((sIx items.size 0 lo:Nat):Int) == 0 && (1:Int) == 1 && (sIx items.size items.size hi - sIx items.size 0 lo) == items.size)=true then _ else _) _ _ s
 rw [if_pos hyes]
 unfold Builtin.Tuple.tupleIsExact
 refine wpAny_bind ?_
 refine wpAny_bind (wpAny_typeOf ht.typeIs (wpAny_pure ?_))
 rw [if_pos (by decide)]
 exact wpAny_bind (wpAny_rule (wpAny_pure ⟨_,rfl,wpAny_pure h⟩))
end
end HT
namespace L2
open PySem PySem.Spec PyProof.Rows
section
variable {X:Cx}
noncomputable def rSlT2 (K:PySem.W.Frag):V->Option Int->Option Int->Hp->VK->Prop:=λx lo hi H Q=>∃ a xs,x = .ref a∧SqT K H a xs∧((cutV xs lo hi=xs∧HT.sIx xs.length 0 lo=0∧HT.sIx xs.length xs.length hi=xs.length->Q (.ref a) H) ∧
 (¬ (HT.sIx xs.length 0 lo=0∧HT.sIx xs.length xs.length hi=xs.length)->∀ p,H p=none->Q (.ref p) (upd H p (.tup (cutV xs lo hi)))))
theorem sl_tup2:SlR X (rSlT2 X.K):=by
 intro pins s σ H x v vl vu lo hi sl Q I rx hs pl pu h
 obtain ⟨a,xs,rfl,hx,hw,hn⟩:=h
 by_cases hc:HT.sIx xs.length 0 lo=0∧HT.sIx xs.length xs.length hi=xs.length
 ·cases rx
  obtain ⟨its,r,ht,hz⟩:=I.tuple hx
  have hlen:its.toArray.size=xs.length:=by rw [List.size_toArray];exact r.length.symm
  have hq:=hw ⟨by unfold cutV;rw [hc.1,hc.2];simp,hc.1,hc.2⟩
  exact ⟨"tuple",_,PyProof.Rows.slot_tuple_getitem.lookup,ht.typeIs,HT.getItem_tuple_whole ht hs pl pu (by rw [hlen];exact hc.1) (by rw [hlen];exact hc.2) ⟨.ref a,H,I,rfl,hq⟩⟩
 ·exact sl_tup pins s σ H (.ref a) v vl vu lo hi sl Q I rx hs pl pu ⟨a,xs,rfl,hx,hc,hn hc⟩
theorem call_sum (hc:X.calm=true):CallR X (.builtin "sum") (λxs H Q=>∃ (a:Addr) (ns:List Int),xs=[.ref a]∧SqL X.K H a (ns.map V.int)∧Q (.int ns.sum) H):=by
 intro pins s σ H xs us Q I r h
 obtain ⟨a,ns,rfl,hq,q⟩:=h
 obtain ⟨u,rfl,ru⟩:=vals1 r
 cases ru
 obtain ⟨its,rv,p,hz⟩:=I.list hq
 have hi:=intsAre_of rv
 obtain ⟨zs,hzs⟩:=hi.allInts.items
 have hl:s.heap.IsList a (intItems zs):=hzs ▸ p.isList
 refine sum_intListG (I.ok.hd hc) hl λh' tk t' hk=>⟨.int ns.sum,H,I.kept hk,⟨t',?_⟩,q⟩
 have hn:=hi.numsOf
 have e:numsOf (intItems zs).toList=ns:=by rw [← hzs];exact hn
 rw [nums_intItems] at e
 rw [preSum_eq,List.take_of_length_le (by simp),e]
end
end L2
namespace L2
open PySem PySem.Spec PyProof.Rows
noncomputable def Callee (P:Program)(w:World)(K:PySem.W.Frag)(mg:Str->Option Value)(base:Heap)(x:Str)(k:Nat)(ps:List Str)(sp:Sp):Prop :=
 ∃ f fd,FnOk P w K mg base CX0 k f fd ps sp∧mg x=some (.ref f)∧PySem.W.keepIn K (.ref f)=true∧Binds K fd ps []
theorem pe_callee {X:Cx}{x:Str}{k:Nat}{ps:List Str}{sp:Sp}{p pos:Pos}{e:Expr}{es:List Expr}{t:TA}(C:Callee X.prog X.w X.K X.mg X.base x k ps sp)(hr:Room k X.A)(hg:Gl X x)(ha:PA X (e::es) t)
  (hdb:(x == ("__debug__":Str))=false:=by decide) (he:starEach (e::es) X.env=(false,eval e X.env)::starEach es X.env:=by rfl) (hpl:(backTo pos (starEach es X.env)).any (·.1)=false:=by rfl) :
  PE X (.Call (.Name x p) (e::es) [] pos) (tCall sp [] E0 t):=by
 obtain ⟨f,fd,G,m,kp,b⟩:=C
 exact pe_call G hr hg m kp b .nil pass0 ha hdb he hpl
noncomputable def KpE (D:Addr->Prop)(H H':Hp):Prop:=∀ b o,H b=some o->¬ D b->H' b=some o
theorem SqT.kp {K:PySem.W.Frag}{H H':Hp}{a:Addr}{xs:List V}{D:Addr->Prop}(h:SqT K H a xs)(k:KpE D H H')(hD:∀ b,D b->∃ kvs,H b=some (.dK kvs)):SqT K H' a xs:=by
 rcases h with (h | ⟨o,h⟩) | h
 ·refine .inl (.inl (k _ _ h λz=>?_))
  obtain ⟨kvs,e⟩:=hD _ z;rw [h] at e;cases e
 ·refine .inl (.inr ⟨o,k _ _ h λz=>?_⟩)
  obtain ⟨kvs,e⟩:=hD _ z;rw [h] at e;cases e
 ·exact .inr h
section
variable {K:PySem.W.Frag}{H H':Hp}{D:Addr->Prop}
mutual
theorem DatIs.kp (k:KpE D H H')(hD:∀ b,D b->∃ kvs,H b=some (.dK kvs)):∀ (d:PyData) (v:V),DatIs K H d v->DatIs K H' d v
 | .none,v,h=>by simpa only [DatIs] using h
 | .bool b,v,h=>by simpa only [DatIs] using h
 | .int i,v,h=>by simpa only [DatIs] using h
 | .str x,v,h=>by simpa only [DatIs] using h
 | .tuple ds,v,h=>by
  simp only [DatIs] at h ⊢
  obtain ⟨a,xs,e,hq,hd⟩:=h
  exact ⟨a,xs,e,hq.kp k hD,DatsAre.kp k hD ds xs hd⟩
 | .list ds,v,h=>by
  simp only [DatIs] at h ⊢
  obtain ⟨a,xs,e,hq,hd⟩:=h
  refine ⟨a,xs,e,k _ _ hq λz=>?_,DatsAre.kp k hD ds xs hd⟩
  obtain ⟨kvs,e⟩:=hD _ z;rw [hq] at e;cases e
 | .dict kvs,v,h=>by simp only [DatIs] at h
theorem DatsAre.kp (k:KpE D H H')(hD:∀ b,D b->∃ kvs,H b=some (.dK kvs)):∀ (ds:List PyData) (xs:List V),DatsAre K H ds xs->DatsAre K H' ds xs
 | [],xs,h=>by simpa only [DatsAre] using h
 | d::ds,xs,h=>by
  simp only [DatsAre] at h ⊢
  obtain ⟨x,r,e,h1,h2⟩:=h
  exact ⟨x,r,e,DatIs.kp k hD d x h1,DatsAre.kp k hD ds r h2⟩
end
end
theorem Same.kpE {H H':Hp}(s:Same H H'):KpE (λ_=>False) H H':=λb o h _=>s b o h
theorem DatIs.same {K:PySem.W.Frag}{H H':Hp}{d:PyData}{v:V}(h:DatIs K H d v)(s:Same H H'):DatIs K H' d v:=DatIs.kp s.kpE (λ_ z=>z.elim) d v h
theorem DatsAre.same {K:PySem.W.Frag}{H H':Hp}{ds:List PyData}{xs:List V}(h:DatsAre K H ds xs)(s:Same H H'):DatsAre K H' ds xs:=DatsAre.kp s.kpE (λ_ z=>z.elim) ds xs h
theorem SqT.same {K:PySem.W.Frag}{H H':Hp}{a:Addr}{xs:List V}(h:SqT K H a xs)(s:Same H H'):SqT K H' a xs:=h.kp s.kpE (λ_ z=>z.elim)
theorem Same.upd {H:Hp}{p:Addr}{o:HO}(hp:H p=none):Same H (upd H p o):=λb u e=>by rw [upd_ne (ne_of_none e hp)];exact e
section
variable {K:PySem.W.Frag}{H:Hp}
theorem DatsAre.length:∀ {ds:List PyData} {xs:List V},DatsAre K H ds xs->xs.length=ds.length
 | [],xs,h=>by simp only [DatsAre] at h;subst h;rfl
 | d::ds,xs,h=>by
  simp only [DatsAre] at h
  obtain ⟨x,r,rfl,h1,h2⟩:=h
  rw [List.length_cons,List.length_cons,h2.length]
theorem DatsAre.get:∀ {ds:List PyData} {xs:List V} {i:Nat} {x:V},DatsAre K H ds xs->xs[i]? = some x->∃ d,ds[i]? = some d∧DatIs K H d x
 | [],xs,i,x,h,e=>by simp only [DatsAre] at h;subst h;simp at e
 | d::ds,xs,i,x,h,e=>by
  simp only [DatsAre] at h
  obtain ⟨y,r,rfl,h1,h2⟩:=h
  cases i with
  | zero=>simp at e;subst e;exact ⟨d,rfl,h1⟩
  | succ i=>simpa using h2.get (i:=i) (by simpa using e)
theorem DatsAre.snoc:∀ {ds:List PyData} {xs:List V} {d:PyData} {x:V},DatsAre K H ds xs->DatIs K H d x->DatsAre K H (ds++[d]) (xs++[x])
 | [],xs,d,x,h,h'=>by simp only [DatsAre] at h;subst h;simp only [List.nil_append,DatsAre];exact ⟨x,[],rfl,h',rfl⟩
 | e::ds,xs,d,x,h,h'=>by
  simp only [DatsAre] at h
  obtain ⟨y,r,rfl,h1,h2⟩:=h
  simp only [List.cons_append,DatsAre]
  exact ⟨y,r++[x],rfl,h1,h2.snoc h'⟩
theorem DatsAre.append {ds':List PyData}{xs':List V}(h':DatsAre K H ds' xs'):∀ {ds:List PyData} {xs:List V},DatsAre K H ds xs->DatsAre K H (ds++ds') (xs++xs')
 | [],xs,h=>by simp only [DatsAre] at h;subst h;simpa using h'
 | e::ds,xs,h=>by
  simp only [DatsAre] at h
  obtain ⟨y,r,rfl,h1,h2⟩:=h
  simp only [List.cons_append,DatsAre]
  exact ⟨y,r++xs',rfl,h1,DatsAre.append h' h2⟩
theorem DatsAre.take:∀ {ds:List PyData} {xs:List V} (n:Nat),DatsAre K H ds xs->DatsAre K H (ds.take n) (xs.take n)
 | [],xs,n,h=>by simp only [DatsAre] at h;subst h;simp [DatsAre]
 | d::ds,xs,0,h=>by simp [DatsAre]
 | d::ds,xs,n+1,h=>by
  simp only [DatsAre] at h
  obtain ⟨y,r,rfl,h1,h2⟩:=h
  simp only [List.take_succ_cons,DatsAre]
  exact ⟨y,r.take n,rfl,h1,DatsAre.take n h2⟩
theorem DatIs.tup {ds:List PyData}{xs:List V}{a:Addr}(h:H a=some (.tup xs))(h2:DatsAre K H ds xs):DatIs K H (.tuple ds) (.ref a):=by
 simp only [DatIs];exact ⟨a,xs,rfl,SqT.of h,h2⟩
theorem DatIs.lst {ds:List PyData}{xs:List V}{a:Addr}(h:H a=some (.lst xs))(h2:DatsAre K H ds xs):DatIs K H (.list ds) (.ref a):=by
 simp only [DatIs];exact ⟨a,xs,rfl,h,h2⟩
theorem DatsAre.nil:DatsAre K H [] []:=by simp only [DatsAre]
theorem DatsAre.cons {d:PyData}{x:V}{ds:List PyData}{xs:List V}(h:DatIs K H d x)(h2:DatsAre K H ds xs):DatsAre K H (d::ds) (x::xs):=by
 simp only [DatsAre];exact ⟨x,xs,rfl,h,h2⟩
theorem DatIs.int {i:Int}:DatIs K H (.int i) (.int i):=by simp only [DatIs]
theorem DatIs.bl {b:Bool}:DatIs K H (.bool b) (.bl b):=by simp only [DatIs]
theorem DatIs.st {x:Str}:DatIs K H (.str x) (.str x):=by simp only [DatIs]
theorem DatIs.non:DatIs K H .none .non:=by simp only [DatIs]
theorem DatIs.ofTup {ds:List PyData}{v:V}(h:DatIs K H (.tuple ds) v):∃ a xs,v = .ref a∧SqT K H a xs∧DatsAre K H ds xs:=by simpa only [DatIs] using h
end
theorem lc_gen {J:It}{D:Addr}(n:Nat){g:TG}{tt:TT}{te:TE}{Q:Hp->Prop}{σ0:St}{H0:Hp}(Pv:Nat->St->List V->Hp->Prop)(h0:Pv 0 σ0 [] H0)
  (hgo:∀ i σ acc H,i<n->Pv i σ acc H->J.go i H) (hstop:∀ σ acc H,Pv n σ acc H->J.stop n H)
  (hs:∀ i σ acc H,i<n->Pv i σ acc H->∀ x H2,J.yld i H x H2->∀ R:St->List V->Hp->Prop,(∀ σ acc H,Pv (i+1) σ acc H->R σ acc H) ->
   g x σ H2 λσ2 H3=>tt σ2 H3 λok H4=>if ok=true then te σ2 H4 λy H5=>H5 D=some (.lst acc)∧acc.length<sizeLine∧R σ2 (acc++[y]) (upd H5 D (.lst (acc++[y]))) else H4 D=some (.lst acc)∧R σ2 acc H4)
  (hd:∀ σ acc H,Pv n σ acc H->Q H) :
  ∃ W:Nat->Nat->St->List V->Hp->Prop,(∃ m,W 0 m σ0 [] H0)∧∀ i m σ' acc H',W i m σ' acc H' ->
  (J.stop i H' ∧ Q H') ∨
  (J.go i H' ∧ ∀ x H2,J.yld i H' x H2->g x σ' H2 λσ2 H3=>tt σ2 H3 λok H4=>if ok=true then te σ2 H4 λy H5=>H5 D=some (.lst acc)∧acc.length<sizeLine∧∃ m',m' < m∧W (i+1) m' σ2 (acc++[y]) (upd H5 D (.lst (acc++[y])))
   else H4 D=some (.lst acc)∧∃ m',m' < m∧W (i+1) m' σ2 acc H4):=by
 refine ⟨λi m σ acc H=>m=n - i∧i≤n∧Pv i σ acc H,⟨n,by simp,Nat.zero_le _,h0⟩,?_⟩
 rintro i m σ acc H ⟨rfl,hi,p⟩
 by_cases hlt:i<n
 ·exact .inr ⟨hgo i σ acc H hlt p,λx H2 y=>hs i σ acc H hlt p x H2 y (λσ acc H=>∃ m',m' < n - i∧m' = n - (i+1)∧i+1≤n∧Pv (i+1) σ acc H) λσ acc H q=>⟨n - (i+1),by omega,rfl,hlt,q⟩⟩
 ·have e:i=n:=by omega
  subst e
  exact .inl ⟨hstop σ acc H p,hd σ acc H p⟩
end L2
namespace L2
open PySem PySem.Spec PyProof.Rows
section
variable {X:Cx}{K:PySem.W.Frag}
theorem pg_tupK {es:List Expr}{k:Nat}{t:TGs}{n:Nat}{pos:Pos}(hK:X.K=K)(hc:X.calm=true)(h:PGs X es t)
  (hn:(assignEach es X.env).length=n:=by rfl) (hst:(assignEach es X.env).findIdx? (·.1)=none:=by rfl):PG X (.Tuple es k pos) (gTup K n t):=by
 subst hK;exact pg_tup hc h hn hst
theorem ix_tupK (hK:X.K=K):IxR X (rIxT K):=by subst hK;exact ix_tup
theorem ix_listK (hK:X.K=K):IxR X (rIxL K):=by subst hK;exact ix_list
theorem call_len_seqK (hK:X.K=K):CallR X (.builtin "len") (λxs H Q=>∃ p ys,xs=[.ref p]∧(SqL K H p ys∨SqT K H p ys)∧Q (.int ys.length) H):=by subst hK;exact call_len_seq
theorem call_tuple_ofK (hK:X.K=K):CallR X (.type "tuple") (λxs H Q=>∃ p ys,xs=[.ref p]∧((SqL K H p ys∧∀ l,H l=none->Q (.ref l) (upd H l (.tup ys)))∨(SqT K H p ys∧Q (.ref p) H))):=by subst hK;exact call_tuple_of
theorem call_reprK (hK:X.K=K)(hg:X.A.guards=some [])(hu:X.A.units+64<cLine):CallR X (.builtin "repr") (rRepr K):=by subst hK;exact call_repr hg hu
theorem sl_tup2K (hK:X.K=K):SlR X (rSlT2 K):=by subst hK;exact sl_tup2
theorem pt_truthK {a:Expr}{ta:TE}(hK:X.K=K)(ha:PE X a ta)(he:∀ whole,isTrue a X.env whole=(do let v ← whole;standAt a.pos;holding [v] (truthy v))) :
  PT X a (λσ H Q=>ta σ H λx H'=>∃ k,TruV K x H' k∧Q k H'):=by subst hK;exact pt_truth ha he
end
end L2
namespace L2
open PySem PySem.Spec PyProof.Rows
section
variable {X:Cx}{K:PySem.W.Frag}
noncomputable def rCatA (K:PySem.W.Frag):R2:=λx y H Q=>∃ a b xs ys,x = .ref a∧y = .ref b∧SqT K H a xs∧SqT K H b ys∧xs.length+ys.length≤sizeLine ∧
 (xs=[]->Q (.ref b) H)∧(ys=[]->Q (.ref a) H)∧∀ p,H p=none->Q (.ref p) (upd H p (.tup (xs++ys)))
theorem op_catA (hK:X.K=K):OpR X (binaryOp .Add) (rCatA K):=by
 subst hK
 intro pins s σ H x y v u Q I rx ry h
 obtain ⟨a,b,xs,ys,rfl,rfl,ha,hb,hz,q0,q1,q2⟩:=h
 by_cases hx:xs=[]
 ·cases rx
  cases ry
  obtain ⟨its,r1,p1,_⟩:=I.tuple ha
  obtain ⟨its2,r2,p2,_⟩:=I.tuple hb
  subst hx
  cases r1
  obtain ⟨⟨cls,dd,data,sl⟩,ho,hc,n,hd⟩:=id p1
  obtain ⟨⟨cls2,dd2,data2,sl2⟩,ho2,hc2,n2,hd2⟩:=id p2
  simp only at hc hd hc2 hd2
  subst hc hd hc2 hd2
  exact concat_meets ⟨_,ho,rfl⟩ ⟨_,ho2,rfl⟩ noFill_tuple_add seq_tuple_add PySem.F.slot_tuple_add PySem.F.entry_tuple_add (PySem.F.args_tuple_add_2 _ _)
   (tuple_addW0 a b #[] its2.toArray n n2 dd dd2 sl sl2 rfl) ⟨ho,ho2,⟨.ref b,H,I,rfl,q0 rfl⟩⟩
 ·exact op_catT pins s σ H (.ref a) (.ref b) v u Q I rx ry ⟨a,b,xs,ys,rfl,rfl,ha,hb,hx,hz,q1,λ_=>q2⟩
end
end L2
namespace L2
open PySem PySem.Spec PyProof.Rows
end L2
namespace L2
open PySem PySem.Spec PyProof.Rows
section
variable {X:Cx}{K:PySem.W.Frag}
end
end L2
namespace L2
open PySem PySem.Spec PyProof.Rows
noncomputable def tyD:PyData->String
 | .none=>"NoneType"
 | .bool _=>"bool"
 | .int _=>"int"
 | .str _=>"str"
 | .list _=>"list"
 | .tuple _=>"tuple"
 | .dict _=>"dict"
noncomputable def isT (a T:String):Bool:=a == T || (a == "bool" && T == "int")
theorem kit_isT (K:PySem.W.Frag):∀ a∈["NoneType","bool","int","str","list","tuple"],∀ T∈["bool","int","str","list","tuple"],PySem.W.kitOne K (.type a) (.type T)=some (isT a T):=by
 intro a ha T hT
 simp only [List.mem_cons,List.not_mem_nil,or_false] at ha hT
 rcases ha with rfl | rfl | rfl | rfl | rfl | rfl <;> rcases hT with rfl | rfl | rfl | rfl | rfl <;> rfl
section
variable {X:Cx}{K:PySem.W.Frag}
theorem tyD_mem {K:PySem.W.Frag}{H:Hp}{d:PyData}{x:V}(h:DatIs K H d x):tyD d∈["NoneType","bool","int","str","list","tuple"]:=by
 cases d <;> simp [tyD]
 simp only [DatIs] at h
noncomputable def rIsin (K:PySem.W.Frag):List V->Hp->VK->Prop:=λxs H Q=>∃ (x:V) (T:String) (d:PyData),xs=[x,.ty T]∧DatIs K H d x∧T∈["bool","int","str","list","tuple"]∧Q (.bl (isT (tyD d) T)) H
theorem call_isin (hK:X.K=K):CallR X (.builtin "isinstance") (rIsin K):=by
 subst hK
 intro pins s σ H xs us Q I r h
 obtain ⟨x,T,d,rfl,hd,hT,q⟩:=h
 obtain ⟨u,w',rfl,ru,rw'⟩:=vals2 r
 cases (show w' = Value.type T from rw')
 have e:=kit_isT X.K (tyD d) (tyD_mem hd) T hT
 have fin:∀ tk,EP X pins σ Q (.bool (isT (tyD d) T)) { s with toks:=tk }:=λtk=>⟨.bl (isT (tyD d) T),H,I.tok tk,rfl,q⟩
 cases d with
 | none =>
  simp only [DatIs] at hd;subst hd
  exact isinst_ok I ru .non e fin
 | bool b =>
  simp only [DatIs] at hd;subst hd
  exact isinst_ok I ru (.bl b) e fin
 | int i =>
  simp only [DatIs] at hd;subst hd
  exact isinst_ok I ru (.int i) e fin
 | str z =>
  simp only [DatIs] at hd;subst hd
  exact isinst_ok I ru (.str z) e fin
 | tuple ds =>
  obtain ⟨a,xs,rfl,hq,hd'⟩:=hd.ofTup
  cases (show u=Value.ref a from ru)
  obtain ⟨its,rv,⟨o,h1,h2,n,h3⟩,_⟩:=I.tuple hq
  exact PySem.W.kia_one PySem.W.kitx_tuple I.kIn ⟨_,h1,h2⟩ e (λz=>nomatch z) fin
 | list ds =>
  simp only [DatIs] at hd
  obtain ⟨a,xs,rfl,hq,hd'⟩:=hd
  cases (show u=Value.ref a from ru)
  obtain ⟨its,rv,p,_⟩:=I.list (SqL.of hq)
  obtain ⟨o,h1,h2,n,h3⟩:=p.isList
  exact PySem.W.kia_one PySem.W.kitx_list I.kIn ⟨_,h1,h2⟩ e (λz=>nomatch z) fin
 | dict kvs=>simp only [DatIs] at hd
end
end L2
namespace L2
open PySem PySem.Spec PyProof.Rows
section
variable {X:Cx}{K:PySem.W.Frag}
end
end L2
namespace L2
open PySem PySem.Spec PyProof.Rows
section
variable {X:Cx}{K:PySem.W.Frag}
noncomputable def rMinT (K:PySem.W.Frag):List V->Hp->VK->Prop:=λxs H Q=>∃ (a:Addr) (ns:List Int),xs=[.ref a]∧SqT K H a (ns.map V.int)∧ns≠[]∧∀ m,m∈ns->(∀ n∈ns,m≤n)->Q (.int m) H
theorem call_minT (hK:X.K=K)(hc:X.calm=true):CallR X (.builtin "min") (rMinT K):=by
 subst hK
 intro pins s σ H xs us Q I r h
 obtain ⟨a,ns,rfl,hq,hne,q⟩:=h
 obtain ⟨u,rfl,ru⟩:=vals1 r
 cases ru
 obtain ⟨its,rv,p,hz⟩:=I.tuple hq
 have hlen:its.length=ns.length:=by rw [← rv.length,List.length_map]
 have hpos:0<ns.length:=List.length_pos_iff.mpr hne
 have p':s.heap.IsTuple a its.toArray:=p
 have hlt:a<s.heap.objs.size:=by obtain ⟨o,e,_⟩:=p;exact Heap.lt_size e
 have hval:∀ (i:Nat) (v:Value),its.toArray[i]? = some v->∃ t,v = .int (ns.getD i 0) t:=λi v hv=>by
  have hv:its[i]? = some v:=by simpa using hv
  obtain ⟨hi,_⟩:=List.getElem?_eq_some_iff.mp hv
  have hb:(ns.map V.int)[i]? = some (V.int (ns.getD i 0)):=by
   rw [List.getElem?_map,List.getElem?_eq_getElem (by omega)]
   simp [List.getD,List.getElem?_eq_getElem (show i<ns.length by omega)]
  obtain ⟨u,hu,ru⟩:=rv.get hb
  rw [hv] at hu
  cases hu
  exact ru
 refine call_min_walk (wpAny_pyIter_tuple p' ?_)
 have hne':a≠s.heap.objs.size:=Nat.ne_of_lt hlt
 refine ⟨_,_,_,_,_,_,_,rfl,Walks.tuple (A:=X.A.in1) (I.ok.hd hc) _ a hne' its.toArray,⟨⟨_,Heap.get?_push_size _ rfl,rfl,rfl⟩,?_⟩,?_,?_,CmpOf.ints_lt (λi=>ns.getD i 0) hval,λv h' tk hP hk=>?_⟩
 ·exact p'.at λo e=>Heap.get?_push_of_some _ e
 ·intro b hb
  rw [Heap.size_push]
  have:b=s.heap.objs.size∨b=a:=by simpa using hb
  rcases this with e | e
  ·rw [e];exact Nat.lt_succ_self _
  ·rw [e];exact Nat.lt_succ_of_lt hlt
 ·rw [List.size_toArray,hlen];exact hpos
 ·obtain ⟨h1,h2⟩:=argBest_lt (λi=>ns.getD i 0) (its.toArray.size - 1)
  obtain ⟨t,rfl⟩:=hval _ v hP
  have hsz:its.toArray.size=ns.length:=by rw [List.size_toArray,hlen]
  refine ⟨.int _,H,I.kept λb o e=>hk b o (by simp;exact Nat.ne_of_lt (Heap.lt_size e)) (Heap.get?_push_of_some _ e),⟨t,rfl⟩,q _ ?_ λn hn=>?_⟩
  ·exact getD_mem (by omega)
  ·obtain ⟨j,hj,rfl⟩:=mem_getD hn
   exact h2 j (by omega)
end
end L2
namespace L2
open PySem PyProof.Rows
section
variable {prog:Program}{w:World}{A:Around}{E:Value->Shared->Prop}{s:Shared}{a0:Array Keyed}{κ:Nat->Int}{kd:SortKind}
end
end L2
namespace L2
open PySem PySem.Spec PyProof.Rows PySem.W
noncomputable def cdO (c:Addr)(q:Str):HO:=.ext λh=>h.CodeRec (.ref c) q
noncomputable def TabOk (H:Hp)(P:Addr)(q:Str):Prop:=∃ ps,H P=some (.tbl ps)∧TriplesOk ps.toList∧∀ pos cv,codeAmong pos ps.toList=some cv->∃ c,cv = .ref c∧H c=some (cdO c q)
noncomputable def BMd (base:Heap)(mg:Str->Option Value):Prop:=∃ bm ob,mg "__builtins__" = some (.ref bm)∧bm≠builtinsNs∧base.get? bm=some ob∧ob.cls = .type "module" ∧ ob.dict=some builtinsNs∧ob.data = .plain
section
variable {X:Cx}{pins:List (Addr×Obj)}{σ:St}{H:Hp}{s:Shared}
end
end L2
namespace L2
open PySem PySem.Spec PyProof.Rows PySem.W
section
variable {X:Cx}{pins:List (Addr×Obj)}{σ:St}{H:Hp}{s:Shared}
end
end L2
namespace L2
open PySem PySem.Spec PyProof.Rows PySem.W
section
variable {X:Cx}{pins:List (Addr×Obj)}{σ:St}{H:Hp}{s:Shared}
end
end L2
namespace L2
open PySem PySem.Spec PyProof.Rows PySem.W
section
variable {X:Cx}{pins:List (Addr×Obj)}{σ:St}{H:Hp}{s:Shared}{Y:Around}{E:Value->Shared->Prop}{P:PySem.Fin->Shared->Prop}{a kS:Addr}{xs ks:List V}{its:List Value}{e1:Nat}
end
end L2
namespace L2
open PySem PySem.Spec PyProof.Rows PySem.W
section
variable {X:Cx}{pins:List (Addr×Obj)}{σ:St}{H:Hp}{s:Shared}{Y:Around}{E:Value->Shared->Prop}{P:PySem.Fin->Shared->Prop}{a:Addr}{xs ks:List V}{its:List Value}
end
end L2
namespace L2
open PySem PySem.Spec PyProof.Rows PySem.W
end L2
namespace L2
open PySem PySem.Spec PyProof.Rows PySem.W
section
variable {prog:Program}{w:World}{A:Around}{E:Value->Shared->Prop}{s:Shared}
end
section
variable {X:Cx}{K:PySem.W.Frag}
end
end L2
namespace L2
end L2
namespace L3
open PySem PySem.Spec PyProof.Rows L2
noncomputable abbrev St:=L2.St
noncomputable def hid (H:Hp)(B:List Addr):Hp:=λb=>if b∈B then none else H b
theorem hid_out {H:Hp}{B:List Addr}{b:Addr}(h:b ∉ B):hid H B b=H b:=by unfold hid;rw [if_neg h]
theorem hid_in {H:Hp}{B:List Addr}{b:Addr}(h:b∈B):hid H B b=none:=by unfold hid;rw [if_pos h]
theorem hid_same {H:Hp}{B:List Addr}:Same (hid H B) H:=λb o e=>by
 by_cases h:b∈B
 ·rw [hid_in h] at e;cases e
 ·rwa [hid_out h] at e
theorem hid_sub {H:Hp}{B B':List Addr}(s:∀ b∈B',b∈B):Same (hid H B) (hid H B'):=λb o e=>by
 by_cases h:b∈B
 ·rw [hid_in h] at e;cases e
 ·rw [hid_out h] at e;rw [hid_out λz=>h (s b z)];exact e
noncomputable def Kp (fp:List Addr)(H H':Hp):Prop:=∀ b o,H b=some o->b ∉ fp->H' b=some o
theorem Kp.refl {fp:List Addr}{H:Hp}:Kp fp H H:=λ_ _ e _=>e
theorem Kp.trans {fp:List Addr}{H H1 H2:Hp}(a:Kp fp H H1)(b:Kp fp H1 H2):Kp fp H H2:=λc o e n=>b c o (a c o e n) n
theorem Kp.same {fp:List Addr}{H H':Hp}(s:Same H H'):Kp fp H H':=λb o e _=>s b o e
theorem Kp.upd {fp:List Addr}{H:Hp}{p:Addr}{o:HO}(hp:H p=none):Kp fp H (upd H p o):=Kp.same (Same.upd hp)
theorem Kp.hid {fp B:List Addr}{H H':Hp}(k:Kp fp H H')(s:∀ b∈fp,b∈B):Same (hid H B) (hid H' B):=λb o e=>by
 by_cases h:b∈B
 ·rw [hid_in h] at e;cases e
 ·rw [hid_out h] at e ⊢;exact k b o e λz=>h (s b z)
theorem hid_upd {H:Hp}{B:List Addr}{a:Addr}{o:HO}(h:a∈B):hid (upd H a o) B=hid H B:=by
 funext b
 by_cases hb:b∈B
 ·rw [hid_in hb,hid_in hb]
 ·rw [hid_out hb,hid_out hb,upd_ne];intro e;subst e;exact hb h
noncomputable def DatSh (K:PySem.W.Frag)(fp B:List Addr)(H:Hp):PyData->V->Prop
 | .tuple ds,v=>∃ a xs,v = .ref a∧SqT K (hid H B) a xs∧DatsAre K (hid H B) ds xs
 | .list ds,v=>∃ a xs,v = .ref a∧hid H fp a=some (.lst xs)∧DatsAre K (hid H B) ds xs
 | .none,v=>v = .non
 | .bool b,v=>v = .bl b
 | .int i,v=>v = .int i
 | .str x,v=>v = .str x
 | .dict _,_=>False
section
variable {K:PySem.W.Frag}{fp B:List Addr}{H H':Hp}{d:PyData}{v:V}
theorem sh_of (h:DatIs K (hid H B) d v)(s:∀ b∈fp,b∈B):DatSh K fp B H d v:=by
 cases d with
 | tuple ds =>
  simp only [DatIs] at h
  obtain ⟨a,xs,e,hq,hd⟩:=h
  exact ⟨a,xs,e,hq,hd⟩
 | list ds =>
  simp only [DatIs] at h
  obtain ⟨a,xs,e,hq,hd⟩:=h
  exact ⟨a,xs,e,hid_sub s _ _ hq,hd⟩
 | _=>simpa only [DatIs,DatSh] using h
theorem DatSh.dat (h:DatSh K fp B H d v):DatIs K H d v:=by
 cases d with
 | tuple ds =>
  obtain ⟨a,xs,e,hq,hd⟩:=h
  simp only [DatIs]
  exact ⟨a,xs,e,hq.same hid_same,hd.same hid_same⟩
 | list ds =>
  obtain ⟨a,xs,e,hq,hd⟩:=h
  simp only [DatIs]
  exact ⟨a,xs,e,hid_same _ _ hq,hd.same hid_same⟩
 | _=>simpa only [DatIs,DatSh] using h
theorem DatSh.step (h:DatSh K fp B H d v)(k:Kp fp H H')(s:∀ b∈fp,b∈B):DatSh K fp B H' d v:=by
 have sm:=k.hid s
 have sf:=k.hid (B:=fp) λ_ z=>z
 cases d with
 | tuple ds =>
  obtain ⟨a,xs,e,hq,hd⟩:=h
  exact ⟨a,xs,e,hq.same sm,hd.same sm⟩
 | list ds =>
  obtain ⟨a,xs,e,hq,hd⟩:=h
  exact ⟨a,xs,e,sf _ _ hq,hd.same sm⟩
 | _=>exact h
theorem DatSh.tup {ds:List PyData}(h:DatSh K fp B H (.tuple ds) v):DatIs K (hid H B) (.tuple ds) v:=by
 obtain ⟨a,xs,e,hq,hd⟩:=h
 simp only [DatIs]
 exact ⟨a,xs,e,hq,hd⟩
noncomputable def BOk (H:Hp)(B:List Addr):Prop:=∀ b∈B,∃ o,H b=some o
theorem BOk.nin (h:BOk H B){p:Addr}(hp:H p=none):p ∉ B:=λz=>by
 obtain ⟨o,e⟩:=h p z;rw [hp] at e;cases e
theorem new_tup {p:Addr}{ds:List PyData}{xs:List V}(bk:BOk H B)(hp:H p=none)(h:DatsAre K (hid H B) ds xs):DatIs K (hid (upd H p (.tup xs)) B) (.tuple ds) (.ref p):=by
 have e:Same (hid H B) (hid (upd H p (.tup xs)) B):=(Kp.upd (fp:=[]) hp).hid (by simp)
 refine DatIs.tup ?_ (h.same e)
 rw [hid_out (bk.nin hp)];exact upd_same
theorem new_lst {p:Addr}{ds:List PyData}{xs:List V}(bk:BOk H B)(hp:H p=none)(h:DatsAre K (hid H B) ds xs):DatIs K (hid (upd H p (.lst xs)) B) (.list ds) (.ref p):=by
 have e:Same (hid H B) (hid (upd H p (.lst xs)) B):=(Kp.upd (fp:=[]) hp).hid (by simp)
 refine DatIs.lst ?_ (h.same e)
 rw [hid_out (bk.nin hp)];exact upd_same
end
noncomputable def NoT (o:HO):Prop:=(∀ ps,o ≠ .tbl ps)∧∀ φ,o ≠ .ext φ
class Feeds where
 S:Type
 At:Addr->Addr->Hp->S->Prop
 some1:∀ {d c H F},At d c H F->∃ o,H d=some o∧NoT o
 some2:∀ {d c H F},At d c H F->∃ o,H c=some o∧NoT o
 congr:∀ {d c H H' F},At d c H F->H' d=H d->H' c=H c->At d c H' F
 lam:List Str
noncomputable abbrev GF:=Option (Addr×Addr)
noncomputable def tabsK (l:List Str)(K:PySem.W.Frag):List (Str×Addr×Addr):=l.filterMap λx=>(PySem.W.tabIn K x).map λp=>(x,p)
noncomputable def lamQ (x:Str):Str:=x ++ ".<locals>." ++ "<lambda>"
noncomputable def TabsOk (ts:List (Str×Addr×Addr))(H:Hp):Prop:=∀ t∈ts,TabOk H t.2.2 (lamQ t.1)
theorem TabsOk.congr {ts:List (Str×Addr×Addr)}{H H':Hp}(h:TabsOk ts H)(e:∀ b,(b∈ts.map (·.2.2)∨∃ φ,H b=some (.ext φ))->H' b=H b):TabsOk ts H':=λt ht=>by
 obtain ⟨ps,h1,h2,h3⟩:=h t ht
 refine ⟨ps,(e _ (.inl (List.mem_map_of_mem ht))).trans h1,h2,λpos cv q=>?_⟩
 obtain ⟨c,r1,r2⟩:=h3 pos cv q
 exact ⟨c,r1,(e c (.inr ⟨_,r2⟩)).trans r2⟩
theorem TabsOk.but {ts:List (Str×Addr×Addr)}{H H':Hp}{d:Addr}{o0:HO}(h:TabsOk ts H)(hd:H d=some o0)(hn:NoT o0)(kp:∀ b o,H b=some o->b≠d->H' b=some o):TabsOk ts H':=h.congr λb hb=>by
 obtain ⟨o,e,hne⟩:∃ o,H b=some o∧b≠d:=by
  rcases hb with hb | ⟨φ,e⟩
  ·obtain ⟨t,ht,rfl⟩:=List.mem_map.mp hb
   obtain ⟨ps,e,_⟩:=h t ht
   exact ⟨_,e,λz=>by rw [z,hd] at e;exact hn.1 ps (Option.some.inj e)⟩
  ·exact ⟨_,e,λz=>by rw [z,hd] at e;exact hn.2 φ (Option.some.inj e)⟩
 rw [e];exact kp b o e hne
section
variable [Feeds]
noncomputable def tabP (K:PySem.W.Frag):List Addr:=(tabsK Feeds.lam K).map (·.2.2)
noncomputable def fpOf (K:PySem.W.Frag):GF->List Addr
 | none=>tabP K
 | some (d,c)=>d::c::tabP K
theorem fp_tab {K:PySem.W.Frag}{G:GF}{b:Addr}(h:b∈tabP K):b∈fpOf K G:=by
 cases G with
 | none=>exact h
 | some p=>exact List.mem_cons_of_mem _ (List.mem_cons_of_mem _ h)
noncomputable abbrev FS:=Feeds.S
noncomputable abbrev M (α:Type):=FS->Option (α×FS)
noncomputable def FdAt (G:GF)(H:Hp)(F:FS):Prop:=match G with
 | none=>True
 | some (d,c)=>Feeds.At d c H F
noncomputable def FAt (K:PySem.W.Frag)(G:GF)(H:Hp)(F:FS):Prop:=FdAt G H F∧TabsOk (tabsK Feeds.lam K) H
theorem FAt.bok {K:PySem.W.Frag}{G:GF}{H:Hp}{F:FS}(h:FAt K G H F):BOk H (fpOf K G):=λb hb=>by
 have tb:b∈tabP K->∃ o,H b=some o:=λz=>by
  obtain ⟨t,ht,rfl⟩:=List.mem_map.mp z
  obtain ⟨ps,h1,_⟩:=h.2 t ht
  exact ⟨_,h1⟩
 cases G with
 | none=>exact tb hb
 | some p =>
  obtain ⟨d,c⟩:=p
  simp only [fpOf,List.mem_cons] at hb
  rcases hb with rfl | rfl | hb
  ·obtain ⟨o,e,_⟩:=Feeds.some1 h.1;exact ⟨o,e⟩
  ·obtain ⟨o,e,_⟩:=Feeds.some2 h.1;exact ⟨o,e⟩
  ·exact tb hb
theorem FAt.congr {K:PySem.W.Frag}{G:GF}{H H':Hp}{F:FS}(h:FAt K G H F)(e:∀ b,(b∈fpOf K G∨∃ φ,H b=some (.ext φ))->H' b=H b):FAt K G H' F:=by
 refine ⟨?_,h.2.congr λb hb=>e b (hb.imp fp_tab id)⟩
 cases G with
 | none=>trivial
 | some p =>
  obtain ⟨d,c⟩:=p
  exact Feeds.congr h.1 (e d (.inl (by simp [fpOf]))) (e c (.inl (by simp [fpOf])))
theorem FAt.same {K:PySem.W.Frag}{G:GF}{H H':Hp}{F:FS}(h:FAt K G H F)(s:Same H H'):FAt K G H' F:=h.congr λb hb=>by
 rcases hb with hb | ⟨φ,e⟩
 ·obtain ⟨o,e⟩:=h.bok b hb
  rw [e];exact s b o e
 ·rw [e];exact s b _ e
inductive DV where
 | dat (d:PyData) | feed | own (ds:List PyData) | fn (x:Str)
noncomputable abbrev DE:=List (Option DV)
noncomputable def DVr (K:PySem.W.Frag)(G:GF)(B:List Addr)(H:Hp):DV->V->Prop
 | .dat d,v=>DatIs K (hid H B) d v
 | .feed,v=>∃ d c,G=some (d,c)∧v = .ref d
 | .fn x,v=>∃ a,v = .ref a∧PySem.W.nsIn K mainGlobals x=some (some (.ref a))
 | .own ds,v=>∃ a xs,v = .ref a∧a∈B∧a ∉ fpOf K G∧H a=some (.lst xs)∧DatsAre K (hid H B) ds xs
structure SitE (K:PySem.W.Frag) (G:GF) (B:List Addr) (E:DE) (F:FS) (σ:St) (H:Hp):Prop where
 fd:FAt K G H F
 fB:∀ b∈fpOf K G,b∈B
 bk:BOk H B
 ln:E.length = σ.length
 loc:∀ (i:Nat) (x:DV),E[i]? = some (some x)->∃ v,σ[i]? = some (some v)∧DVr K G B H x v
section
variable {K:PySem.W.Frag}{G:GF}{B:List Addr}{E:DE}{F F':FS}{σ:St}{H H':Hp}
theorem bok_step (bk:BOk H B)(k:Kp (fpOf K G) H H')(f:FAt K G H' F'):BOk H' B:=λb hb=>by
 by_cases h:b∈fpOf K G
 ·exact f.bok b h
 ·obtain ⟨o,e⟩:=bk b hb
  exact ⟨o,k b o e h⟩
theorem DVr.step {x:DV}{v:V}(h:DVr K G B H x v)(k:Kp (fpOf K G) H H')(fB:∀ b∈fpOf K G,b∈B):DVr K G B H' x v:=by
 cases x with
 | dat d=>exact DatIs.same (h:DatIs _ _ _ _) (k.hid fB)
 | feed=>exact h
 | fn _=>exact h
 | own ds =>
  obtain ⟨a,xs,e,hB,hf,ha,hd⟩:=h
  exact ⟨a,xs,e,hB,hf,k a _ ha hf,hd.same (k.hid fB)⟩
theorem SitE.step (I:SitE K G B E F σ H)(k:Kp (fpOf K G) H H')(f:FAt K G H' F'):SitE K G B E F' σ H' :=
 ⟨f,I.fB,bok_step I.bk k f,I.ln,λi x e=>by
  obtain ⟨v,h1,h2⟩:=I.loc i x e
  exact ⟨v,h1,h2.step k I.fB⟩⟩
end
end
end L3
namespace L3
open PySem PySem.Spec PyProof.Rows L2
section
variable [Feeds]
noncomputable def TEd (K:PySem.W.Frag)(te:TE)(m:DE->M PyData):Prop:=∀ (G:GF) (B:List Addr) (E:DE) (F:FS) (σ:St) (H:Hp) (Q:VK) (d:PyData) (F':FS),SitE K G B E F σ H->m E F=some (d,F') ->
 (∀ v H',Kp (fpOf K G) H H'->FAt K G H' F'->DatIs K (hid H' B) d v->Q v H')->te σ H Q
noncomputable def TEs (K:PySem.W.Frag)(te:TE)(m:DE->M PyData):Prop:=∀ (G:GF) (B:List Addr) (E:DE) (F:FS) (σ:St) (H:Hp) (Q:VK) (d:PyData) (F':FS),SitE K G B E F σ H->m E F=some (d,F') ->
 (∀ v H',Kp (fpOf K G) H H'->FAt K G H' F'->DatSh K (fpOf K G) B H' d v->Q v H')->te σ H Q
theorem TEd.sh {K:PySem.W.Frag}{te:TE}{m:DE->M PyData}(h:TEd K te m):TEs K te m:=λG B E F σ H Q d F' I e q=>h G B E F σ H Q d F' I e λv H' k f hd=>q v H' k f (sh_of hd I.fB)
noncomputable def TTd (K:PySem.W.Frag)(tt:TT)(m:DE->M Bool):Prop:=∀ (G:GF) (B:List Addr) (E:DE) (F:FS) (σ:St) (H:Hp) (Q:Bool->Hp->Prop) (b:Bool) (F':FS),SitE K G B E F σ H->m E F=some (b,F') ->
 (∀ H',Kp (fpOf K G) H H'->FAt K G H' F'->Q b H')->tt σ H Q
noncomputable def TAd (K:PySem.W.Frag)(ta:TA)(m:DE->M (List PyData)):Prop:=∀ (G:GF) (B:List Addr) (E:DE) (F:FS) (σ:St) (H:Hp) (Q:List V->Hp->Prop) (ds:List PyData) (F':FS),SitE K G B E F σ H->m E F=some (ds,F') ->
 (∀ vs H',Kp (fpOf K G) H H'->FAt K G H' F'->DatsAre K (hid H' B) ds vs->Q vs H')->ta σ H Q
noncomputable def DatShs (K:PySem.W.Frag)(fp B:List Addr)(H:Hp):List PyData->List V->Prop
 | [],vs=>vs=[]
 | d::ds,vs=>∃ v r,vs=v::r∧DatSh K fp B H d v∧DatShs K fp B H ds r
noncomputable def TAs (K:PySem.W.Frag)(ta:TA)(m:DE->M (List PyData)):Prop:=∀ (G:GF) (B:List Addr) (E:DE) (F:FS) (σ:St) (H:Hp) (Q:List V->Hp->Prop) (ds:List PyData) (F':FS),SitE K G B E F σ H->m E F=some (ds,F') ->
 (∀ vs H',Kp (fpOf K G) H H'->FAt K G H' F'->DatShs K (fpOf K G) B H' ds vs->Q vs H')->ta σ H Q
structure Ev (K:PySem.W.Frag) (X:Cx) (e:Expr) (te:TE) (m:DE->M PyData):Prop where
 pe:PE X e te
 ok:TEd K te m
structure Eb (K:PySem.W.Frag) (X:Cx) (e:Expr) (te:TE) (m:DE->M PyData):Prop where
 pe:PE X e te
 ok:TEs K te m
structure Et (K:PySem.W.Frag) (X:Cx) (e:Expr) (tt:TT) (m:DE->M Bool):Prop where
 pt:PT X e tt
 ok:TTd K tt m
structure Ew (K:PySem.W.Frag) (X:Cx) (e:Expr) (tt:TT) (m:DE->M Bool):Prop where
 pw:PW X e tt
 ok:TTd K tt m
structure Ea (K:PySem.W.Frag) (X:Cx) (es:List Expr) (ta:TA) (m:DE->M (List PyData)):Prop where
 pa:PA X es ta
 ok:TAd K ta m
structure Es (K:PySem.W.Frag) (X:Cx) (es:List Expr) (ta:TA) (m:DE->M (List PyData)):Prop where
 pa:PA X es ta
 ok:TAs K ta m
variable {K:PySem.W.Frag}{X:Cx}{a b c e:Expr}{es:List Expr}{ta tb tc te:TE}{ma mb mc m:DE->M PyData}{pos:Pos}
theorem Ev.bw (h:Ev K X e te m):Eb K X e te m:=⟨h.pe,h.ok.sh⟩
noncomputable def sC (d:PyData):DE->M PyData:=λ_ F=>some (d,F)
noncomputable def sV (i:Nat):DE->M PyData:=λE F=>match E[i]? with
 | some (some (.dat d))=>some (d,F)
 | _=>none
noncomputable def sW (i:Nat):DE->M PyData:=λE F=>match E[i]? with
 | some (some (.dat d))=>some (d,F)
 | some (some (.own ds))=>some (.list ds,F)
 | _=>none
theorem tc_d {d:PyData}{v:V}(h:∀ H,DatIs K H d v):TEd K (tC v) (sC d):=λG B E F σ H Q d' F' I e q=>by
 cases e
 exact q v H Kp.refl I.fd (h _)
theorem ev_int {i j}:Ev K X (.Constant (.int i) j pos) (tC (.int i)) (sC (.int i)):=⟨pe_int,tc_d λ_=>DatIs.int⟩
theorem ev_bl {x j}:Ev K X (.Constant (.bool x) j pos) (tC (.bl x)) (sC (.bool x)):=⟨pe_bl,tc_d λ_=>DatIs.bl⟩
theorem ev_non {j}:Ev K X (.Constant .none j pos) (tC .non) (sC .none):=⟨pe_non,tc_d λ_=>DatIs.non⟩
theorem ev_str {x j}:Ev K X (.Constant (.str x) j pos) (tC (.str x)) (sC (.str x)):=⟨pe_str,tc_d λ_=>DatIs.st⟩
theorem var_d (i:Nat):TEd K (tVar i) (sV i):=λG B E F σ H Q d F' I e q=>by
 unfold sV at e
 split at e
 ·rename_i x hx
  cases e
  obtain ⟨v,h1,h2⟩:=I.loc i _ hx
  exact ⟨v,h1,q v H Kp.refl I.fd h2⟩
 ·cases e
theorem var_s (i:Nat):TEs K (tVar i) (sW i):=λG B E F σ H Q d F' I e q=>by
 unfold sW at e
 split at e
 ·rename_i x hx
  cases e
  obtain ⟨v,h1,h2⟩:=I.loc i _ hx
  exact ⟨v,h1,q v H Kp.refl I.fd (sh_of h2 I.fB)⟩
 ·rename_i x hx
  cases e
  obtain ⟨v,h1,h2⟩:=I.loc i _ hx
  refine ⟨v,h1,q v H Kp.refl I.fd ?_⟩
  obtain ⟨p,xs,rfl,hB,hf,hp,hd⟩:=h2
  exact ⟨p,xs,rfl,by rw [hid_out hf];exact hp,hd⟩
 ·cases e
theorem ev_v (i:Nat){x:Str}(hN:X.N[i]? = some x:=by rfl)(hv:Vis X.env.scope x:=by first | exact Or.inl rfl | exact Or.inr (Or.inl rfl) | exact Or.inr (Or.inr rfl))(hd:(x == ("__debug__":Str))=false:=by decide)
  (hcd:(x == ("__classdict__":Str))=false:=by decide):Ev K X (.Name x pos) (tVar i) (sV i):=⟨pe_var hN hv hd hcd,var_d i⟩
theorem eb_v (i:Nat){x:Str}(hN:X.N[i]? = some x:=by rfl)(hv:Vis X.env.scope x:=by first | exact Or.inl rfl | exact Or.inr (Or.inl rfl) | exact Or.inr (Or.inr rfl))(hd:(x == ("__debug__":Str))=false:=by decide)
  (hcd:(x == ("__classdict__":Str))=false:=by decide):Eb K X (.Name x pos) (tVar i) (sW i):=⟨pe_var hN hv hd hcd,var_s i⟩
noncomputable def rD1 (K:PySem.W.Frag)(f:PyData->Option PyData):V->Hp->VK->Prop:=λx H Q=>∃ fp B d r,BOk H B∧DatSh K fp B H d x∧f d=some r∧∀ v H',Same H H'->DatIs K (hid H' B) r v->Q v H'
noncomputable def rD2 (K:PySem.W.Frag)(f:PyData->PyData->Option PyData):R2:=λx y H Q=>∃ fp B d e r,BOk H B∧DatSh K fp B H d x∧DatSh K fp B H e y∧f d e=some r∧∀ v H',Same H H'->DatIs K (hid H' B) r v->Q v H'
noncomputable def rDN (K:PySem.W.Frag)(f:List PyData->Option PyData):List V->Hp->VK->Prop:=λxs H Q=>∃ fp B ds r,BOk H B∧DatShs K fp B H ds xs∧f ds=some r∧∀ v H',Same H H'->DatIs K (hid H' B) r v->Q v H'
noncomputable def s1 (f:PyData->Option PyData)(a:DE->M PyData):DE->M PyData:=λE F=>(a E F).bind λp=>(f p.1).bind λz=>some (z,p.2)
noncomputable def s2 (f:PyData->PyData->Option PyData)(a b:DE->M PyData):DE->M PyData:=λE F=>(a E F).bind λp=>(b E p.2).bind λq=>(f p.1 q.1).bind λz=>some (z,q.2)
noncomputable def sN (f:List PyData->Option PyData)(a:DE->M (List PyData)):DE->M PyData:=λE F=>(a E F).bind λp=>(f p.1).bind λz=>some (z,p.2)
theorem op1_d {f:PyData->Option PyData}(ha:TEs K ta ma):TEd K (tUn (rD1 K f) ta) (s1 f ma):=λG B E F σ H Q d F' I e q=>by
 obtain ⟨⟨x,F1⟩,e1,e⟩:=Option.bind_eq_some_iff.mp e
 obtain ⟨z,e2,e⟩:=Option.bind_eq_some_iff.mp e
 cases e
 refine ha G B E F σ H _ x F1 I e1 λv H1 k1 f1 h1=>⟨fpOf K G,B,x,_,bok_step I.bk k1 f1,h1,e2,λw H2 s hw=>q w H2 (k1.trans (Kp.same s)) (f1.same s) hw⟩
theorem op2_d {f:PyData->PyData->Option PyData}(ha:TEs K ta ma)(hb:TEs K tb mb):TEd K (tOp (rD2 K f) ta tb) (s2 f ma mb):=λG B E F σ H Q d F' I e q=>by
 obtain ⟨⟨x,F1⟩,e1,e⟩:=Option.bind_eq_some_iff.mp e
 obtain ⟨⟨y,F2⟩,e2,e⟩:=Option.bind_eq_some_iff.mp e
 obtain ⟨z,e3,e⟩:=Option.bind_eq_some_iff.mp e
 cases e
 refine ha G B E F σ H _ x F1 I e1 λv H1 k1 f1 h1=>?_
 refine hb G B E F1 σ H1 _ y F2 (I.step k1 f1) e2 λw H2 k2 f2 h2=>⟨fpOf K G,B,x,y,_,bok_step I.bk (k1.trans k2) f2,h1.step k2 I.fB,h2,e3,λu H3 s hu=>q u H3 ((k1.trans k2).trans (Kp.same s)) (f2.same s) hu⟩
theorem opN_d {f:List PyData->Option PyData}{t:TA}{ms:DE->M (List PyData)}(ha:TAs K t ms):TEd K (tCB (rDN K f) t) (sN f ms):=λG B E F σ H Q d F' I e q=>by
 obtain ⟨⟨x,F1⟩,e1,e⟩:=Option.bind_eq_some_iff.mp e
 obtain ⟨z,e2,e⟩:=Option.bind_eq_some_iff.mp e
 cases e
 exact ha G B E F σ H _ x F1 I e1 λvs H1 k1 f1 h1=>⟨fpOf K G,B,x,_,bok_step I.bk k1 f1,h1,e2,λw H2 s hw=>q w H2 (k1.trans (Kp.same s)) (f1.same s) hw⟩
theorem ev_op {op:Operator}{f:PyData->PyData->Option PyData}(ho:OpR X (binaryOp op) (rD2 K f))(ha:Eb K X a ta ma)(hb:Eb K X b tb mb):Ev K X (.BinOp a op b pos) (tOp (rD2 K f) ta tb) (s2 f ma mb):=⟨pe_op ho ha.pe hb.pe,op2_d ha.ok hb.ok⟩
theorem ev_un {op:UnaryOp}{f:PyData->Option PyData}(ho:UnR X (unaryOp op) (rD1 K f))(ha:Eb K X a ta ma):Ev K X (.UnaryOp op a pos) (tUn (rD1 K f) ta) (s1 f ma):=⟨pe_un ho ha.pe,op1_d ha.ok⟩
theorem ev_cmp {op:CmpOp}{f:PyData->PyData->Option PyData}(ho:OpR X (compareOp op) (rD2 K f))(ha:Eb K X a ta ma)(hb:Eb K X b tb mb)(hm:behindInMarks op b=false:=by first | exact nomark _ | rfl):Ev K X (.Compare a [op] [b] pos) (tOp (rD2 K f) ta tb) (s2 f ma mb):=⟨pe_cmpR ho ha.pe hb.pe hm,op2_d ha.ok hb.ok⟩
theorem ev_ix {f:PyData->PyData->Option PyData}(hr:IxR X (rD2 K f))(ha:Eb K X a ta ma)(hb:Eb K X b tb mb)(hs:PlainIx b:=by intro _ _;rfl):Ev K X (.Subscript a b pos) (tOp (rD2 K f) ta tb) (s2 f ma mb):=⟨pe_ix hr ha.pe hb.pe hs,op2_d ha.ok hb.ok⟩
theorem ev_callB {f:List PyData->Option PyData}{id:String}{x:Str}{p:Pos}{t:TA}{ms:DE->M (List PyData)}(hc:CallR X (.builtin id) (rDN K f))(hm:X.mg x=none)(hv:bootBuiltins x=some (.builtin id))(ha:Es K X (e::es) t ms)(hg:Gl X x:=by rfl)(hn:x ≠ "__name__":=by decide)(hdb:(x == ("__debug__":Str))=false:=by decide)
  (he:starEach (e::es) X.env=(false,eval e X.env)::starEach es X.env:=by rfl) (hpl:(backTo pos (starEach es X.env)).any (·.1)=false:=by rfl):Ev K X (.Call (.Name x p) (e::es) [] pos) (tCB (rDN K f) t) (sN f ms):=⟨pe_callB hc hg hm hv ha.pa hn hdb he hpl,opN_d ha.ok⟩
theorem ev_callT {f:List PyData->Option PyData}{T:String}{x:Str}{p:Pos}{t:TA}{ms:DE->M (List PyData)}(hc:CallR X (.type T) (rDN K f))(hm:X.mg x=none)(hv:bootBuiltins x=some (.type T))(ha:Es K X (e::es) t ms)(hg:Gl X x:=by rfl)(hn:x ≠ "__name__":=by decide)(hdb:(x == ("__debug__":Str))=false:=by decide)
  (he:starEach (e::es) X.env=(false,eval e X.env)::starEach es X.env:=by rfl) (hpl:(backTo pos (starEach es X.env)).any (·.1)=false:=by rfl):Ev K X (.Call (.Name x p) (e::es) [] pos) (tCB (rDN K f) t) (sN f ms):=⟨pe_callTy hc hg hm hv ha.pa hn hdb he hpl,opN_d ha.ok⟩
noncomputable def sNil:DE->M (List PyData):=λ_ F=>some ([],F)
noncomputable def sCons (a:DE->M PyData)(r:DE->M (List PyData)):DE->M (List PyData):=λE F=>(a E F).bind λp=>(r E p.2).bind λq=>some (p.1::q.1,q.2)
theorem ea_nil:Ea K X [] tNil sNil:=⟨pa_nil,λG B E F σ H Q ds F' I e q=>by cases e;exact q [] H Kp.refl I.fd DatsAre.nil⟩
theorem ea_cons {t:TA}{ms:DE->M (List PyData)}(ha:Ev K X e te m)(hr:Ea K X es t ms)(hs:starEach (e::es) X.env=(false,eval e X.env)::starEach es X.env:=by rfl):Ea K X (e::es) (tCons te t) (sCons m ms) :=
 ⟨pa_cons ha.pe hr.pa hs,λG B E F σ H Q ds F' I e q=>by
  obtain ⟨⟨x,F1⟩,e1,e⟩:=Option.bind_eq_some_iff.mp e
  obtain ⟨⟨ys,F2⟩,e2,e⟩:=Option.bind_eq_some_iff.mp e
  cases e
  refine ha.ok G B E F σ H _ x F1 I e1 λv H1 k1 f1 h1=>?_
  refine hr.ok G B E F1 σ H1 _ ys F2 (I.step k1 f1) e2 λvs H2 k2 f2 h2=>q _ H2 (k1.trans k2) f2 (.cons (h1.same (k2.hid I.fB)) h2)⟩
theorem es_nil:Es K X [] tNil sNil:=⟨pa_nil,λG B E F σ H Q ds F' I e q=>by cases e;exact q [] H Kp.refl I.fd rfl⟩
theorem es_cons {t:TA}{ms:DE->M (List PyData)}(ha:Eb K X e te m)(hr:Es K X es t ms)(hs:starEach (e::es) X.env=(false,eval e X.env)::starEach es X.env:=by rfl):Es K X (e::es) (tCons te t) (sCons m ms) :=
 ⟨pa_cons ha.pe hr.pa hs,λG B E F σ H Q ds F' I e q=>by
  obtain ⟨⟨x,F1⟩,e1,e⟩:=Option.bind_eq_some_iff.mp e
  obtain ⟨⟨ys,F2⟩,e2,e⟩:=Option.bind_eq_some_iff.mp e
  cases e
  refine ha.ok G B E F σ H _ x F1 I e1 λv H1 k1 f1 h1=>?_
  refine hr.ok G B E F1 σ H1 _ ys F2 (I.step k1 f1) e2 λvs H2 k2 f2 h2=>q _ H2 (k1.trans k2) f2 ⟨v,vs,rfl,h1.step k2 I.fB,h2⟩⟩
noncomputable def sTup (a:DE->M (List PyData)):DE->M PyData:=λE F=>(a E F).bind λp=>if p.1.length≤sizeLine then some (.tuple p.1,p.2) else none
theorem ev_tup {k}{t:TA}{ms:DE->M (List PyData)}(h:Ea K X es t ms):Ev K X (.Tuple es k pos) (tTup t) (sTup ms):=⟨pe_tup h.pa,λG B E F σ H Q d F' I e q=>by
 obtain ⟨⟨x,F1⟩,e1,e⟩:=Option.bind_eq_some_iff.mp e
 split at e
 ·rename_i hl
  cases e
  refine h.ok G B E F σ H _ x F1 I e1 λvs H1 k1 f1 h1=>⟨by rw [h1.length];exact hl,λp hp=>q _ _ (k1.trans (Kp.upd hp)) (f1.same (Same.upd hp)) (new_tup (bok_step I.bk k1 f1) hp h1)⟩
 ·cases e⟩
noncomputable def boolOf:PyData->Option Bool
 | .bool b=>some b
 | _=>none
theorem boolOf_some {d:PyData}{b:Bool}(h:boolOf d=some b):d = .bool b:=by
 cases d <;> simp [boolOf] at h
 rw [h]
noncomputable def sAnd (a b:DE->M PyData):DE->M PyData:=λE F=>(a E F).bind λp=>(boolOf p.1).bind λc=>if c=true then b E p.2 else some (.bool false,p.2)
noncomputable def sNot (a:DE->M PyData):DE->M PyData:=λE F=>(a E F).bind λp=>(boolOf p.1).bind λc=>some (.bool (!c),p.2)
theorem ev_one {op}(h:Ev K X a te m):Ev K X (.BoolOp op [a] pos) te m:=⟨pe_one h.pe,h.ok⟩
theorem ev_and {rest:List Expr}(ha:Ev K X a ta ma)(hb:Ev K X (.BoolOp .And (b::rest) pos) tb mb):Ev K X (.BoolOp .And (a::b::rest) pos) (tAndV ta tb) (sAnd ma mb):=⟨pe_and ha.pe hb.pe,λG B E F σ H Q d F' I e q=>by
 obtain ⟨⟨x,F1⟩,e1,e⟩:=Option.bind_eq_some_iff.mp e
 obtain ⟨c,e2,e⟩:=Option.bind_eq_some_iff.mp e
 refine ha.ok G B E F σ H _ x F1 I e1 λv H1 k1 f1 h1=>?_
 have:=boolOf_some e2
 simp only at this
 subst this
 simp only [DatIs] at h1
 refine ⟨c,h1,?_⟩
 cases c with
 | true=>exact hb.ok G B E F1 σ H1 _ d F' (I.step k1 f1) e λw H2 k2 f2 h2=>q w H2 (k1.trans k2) f2 h2
 | false=>cases e;exact q _ H1 k1 f1 DatIs.bl⟩
theorem ev_not (ha:Ev K X a ta ma):Ev K X (.UnaryOp .Not a pos) (tNotV ta) (sNot ma):=⟨pe_not ha.pe,λG B E F σ H Q d F' I e q=>by
 obtain ⟨⟨x,F1⟩,e1,e⟩:=Option.bind_eq_some_iff.mp e
 obtain ⟨c,e2,e⟩:=Option.bind_eq_some_iff.mp e
 cases e
 refine ha.ok G B E F σ H _ x F1 I e1 λv H1 k1 f1 h1=>?_
 have:=boolOf_some e2
 simp only at this
 subst this
 simp only [DatIs] at h1
 exact ⟨_,h1,q _ H1 k1 f1 DatIs.bl⟩⟩
noncomputable def sIf (c:DE->M Bool)(a b:DE->M PyData):DE->M PyData:=λE F=>(c E F).bind λp=>if p.1=true then a E p.2 else b E p.2
theorem ev_if {tt:TT}{mt:DE->M Bool}(hc:Et K X c tt mt)(ha:Ev K X a ta ma)(hb:Ev K X b tb mb):Ev K X (.IfExp c a b pos) (tIf tt ta tb) (sIf mt ma mb):=⟨pe_ifExp hc.pt ha.pe hb.pe,λG B E F σ H Q d F' I e q=>by
 obtain ⟨⟨x,F1⟩,e1,e⟩:=Option.bind_eq_some_iff.mp e
 refine hc.ok G B E F σ H _ x F1 I e1 λH1 k1 f1=>?_
 cases x with
 | true=>exact ha.ok G B E F1 σ H1 _ d F' (I.step k1 f1) e λw H2 k2 f2 h2=>q w H2 (k1.trans k2) f2 h2
 | false=>exact hb.ok G B E F1 σ H1 _ d F' (I.step k1 f1) e λw H2 k2 f2 h2=>q w H2 (k1.trans k2) f2 h2⟩
variable {tA tB:TT}{na nb:DE->M Bool}
noncomputable def uB (a:DE->M PyData):DE->M Bool:=λE F=>(a E F).bind λp=>(boolOf p.1).bind λc=>some (c,p.2)
noncomputable def uOr (a b:DE->M Bool):DE->M Bool:=λE F=>(a E F).bind λp=>if p.1=true then some (true,p.2) else b E p.2
noncomputable def uNot (a:DE->M Bool):DE->M Bool:=λE F=>(a E F).bind λp=>some (!p.1,p.2)
theorem et_cmp {op:CmpOp}{f:PyData->PyData->Option PyData}(ho:OpR X (compareOp op) (rD2 K f))(ha:Eb K X a ta ma)(hb:Eb K X b tb mb)(hm:behindInMarks op b=false:=by first | exact nomark _ | rfl):Et K X (.Compare a [op] [b] pos) (tTest (tOp (rD2 K f) ta tb)) (uB (s2 f ma mb)) :=
 ⟨pt_cmpR ho ha.pe hb.pe hm,λG B E F σ H Q d F' I e q=>by
  obtain ⟨⟨x,F1⟩,e1,e⟩:=Option.bind_eq_some_iff.mp e
  obtain ⟨c,e2,e⟩:=Option.bind_eq_some_iff.mp e
  cases e
  refine op2_d ha.ok hb.ok G B E F σ H _ x F1 I e1 λv H1 k1 f1 h1=>?_
  have:=boolOf_some e2
  simp only at this
  subst this
  simp only [DatIs] at h1
  exact ⟨_,h1,q H1 k1 f1⟩⟩
theorem ew_or1 (ha:Et K X a tA na):Ew K X (.BoolOp .Or [a] pos) tA na:=⟨pw_or1 ha.pt,ha.ok⟩
theorem ew_or {rest:List Expr}(ha:Et K X a tA na)(hb:Ew K X (.BoolOp .Or (b::rest) pos) tB nb):Ew K X (.BoolOp .Or (a::b::rest) pos) (tOr tA tB) (uOr na nb):=⟨pw_or ha.pt hb.pw,λG B E F σ H Q d F' I e q=>by
 obtain ⟨⟨x,F1⟩,e1,e⟩:=Option.bind_eq_some_iff.mp e
 refine ha.ok G B E F σ H _ x F1 I e1 λH1 k1 f1=>?_
 cases x with
 | false=>exact hb.ok G B E F1 σ H1 _ d F' (I.step k1 f1) e λH2 k2 f2=>q H2 (k1.trans k2) f2
 | true=>cases e;exact q H1 k1 f1⟩
theorem Ew.t (h:Ew K X a tA na):Et K X a tA na:=⟨h.pw.pt,h.ok⟩
theorem et_not (ha:Et K X a tA na):Et K X (.UnaryOp .Not a pos) (tNot tA) (uNot na):=⟨pt_not ha.pt,λG B E F σ H Q d F' I e q=>by
 obtain ⟨⟨x,F1⟩,e1,e⟩:=Option.bind_eq_some_iff.mp e
 cases e
 exact ha.ok G B E F σ H _ x F1 I e1 λH1 k1 f1=>q H1 k1 f1⟩
noncomputable def truD:PyData->Option Bool
 | .none=>some false
 | .bool b=>some b
 | .int i=>some (i != 0)
 | .str x=>if x.length≤sizeLine then some ((x.length:Int) != 0) else none
 | .tuple ds=>some (!ds.isEmpty)
 | .list ds=>some (!ds.isEmpty)
 | .dict _=>none
noncomputable def uT (a:DE->M PyData):DE->M Bool:=λE F=>(a E F).bind λp=>(truD p.1).bind λc=>some (c,p.2)
theorem isEmpty_dats {H:Hp}{ds:List PyData}{xs:List V}(h:DatsAre K H ds xs):xs.isEmpty=ds.isEmpty:=by
 cases ds with
 | nil=>simp only [DatsAre] at h;subst h;rfl
 | cons d r=>simp only [DatsAre] at h;obtain ⟨x,r,rfl,_⟩:=h;rfl
theorem tru_of {fp B:List Addr}{H:Hp}{d:PyData}{v:V}{c:Bool}(h:DatSh K fp B H d v)(e:truD d=some c):TruV K v H c:=by
 cases d with
 | none=>cases h;cases e;rfl
 | bool b=>cases h;cases e;rfl
 | int i=>cases h;cases e;rfl
 | str x =>
  cases h
  simp only [truD] at e
  split at e
  ·rename_i hl;cases e;exact ⟨hl,rfl⟩
  ·cases e
 | tuple ds =>
  obtain ⟨p,xs,rfl,hq,hd⟩:=h
  cases e
  exact .inr (.inl ⟨xs,hq.same hid_same,by rw [isEmpty_dats hd]⟩)
 | list ds =>
  obtain ⟨p,xs,rfl,hq,hd⟩:=h
  cases e
  exact .inl ⟨xs,SqL.of (hid_same _ _ hq),by rw [isEmpty_dats hd]⟩
 | dict kvs=>exact (show False from h).elim
theorem et_val (ha:Eb K X a ta ma)(hK:X.K=K:=by rfl)(he:∀ whole,isTrue a X.env whole=(do let v ← whole;standAt a.pos;holding [v] (truthy v)):=by intro _;rfl) :
  Et K X a (λσ H Q=>ta σ H λx H'=>∃ k,TruV K x H' k∧Q k H') (uT ma):=⟨pt_truthK hK ha.pe he,λG B E F σ H Q d F' I e q=>by
 obtain ⟨⟨x,F1⟩,e1,e⟩:=Option.bind_eq_some_iff.mp e
 obtain ⟨c,e2,e⟩:=Option.bind_eq_some_iff.mp e
 cases e
 exact ha.ok G B E F σ H _ x F1 I e1 λv H1 k1 f1 h1=>⟨_,tru_of h1 e2,q H1 k1 f1⟩⟩
end
end L3
namespace L3
open PySem PySem.Spec PyProof.Rows L2
section
variable {K:PySem.W.Frag}{X:Cx}
theorem shs1 {fp B:List Addr}{H:Hp}{ds:List PyData}{d:PyData}{vs:List V}(h:DatShs K fp B H ds vs)(e:ds=[d]):∃ v,vs=[v]∧DatSh K fp B H d v:=by
 subst e
 obtain ⟨v,r,rfl,h1,h2⟩:=h
 cases h2
 exact ⟨v,rfl,h1⟩
theorem shs2 {fp B:List Addr}{H:Hp}{ds:List PyData}{d e:PyData}{vs:List V}(h:DatShs K fp B H ds vs)(eq:ds=[d,e]):∃ v w,vs=[v,w]∧DatSh K fp B H d v∧DatSh K fp B H e w:=by
 subst eq
 obtain ⟨v,r,rfl,h1,w,r2,rfl,h2,h3⟩:=h
 cases h3
 exact ⟨v,w,rfl,h1,h2⟩
noncomputable def i2 (C:Int->Int->Prop)[∀ i j,Decidable (C i j)](g:Int->Int->PyData):PyData->PyData->Option PyData
 | .int i,.int j=>if C i j then some (g i j) else none
 | _,_=>none
theorem i2_some {C:Int->Int->Prop}[∀ i j,Decidable (C i j)]{g:Int->Int->PyData}{d e r:PyData}(h:i2 C g d e=some r):∃ i j,d = .int i∧e = .int j∧C i j∧r=g i j:=by
 cases d <;> cases e <;> simp only [i2] at h <;> try cases h
 split at h
 ·rename_i hc;cases h;exact ⟨_,_,rfl,rfl,hc,rfl⟩
 ·cases h
theorem opI_d {f:Value->Value->Sem Value}{C:Int->Int->Prop}[∀ i j,Decidable (C i j)]{g:Int->Int->V}{gd:Int->Int->PyData}(ho:OpR X f (rI C g))(hg:∀ H i j,DatIs K H (gd i j) (g i j)):OpR X f (rD2 K (i2 C gd)):=by
 intro pins s σ H x y v u Q I rx ry h
 obtain ⟨fp,B,d,e,r,bk,h1,h2,hf,q⟩:=h
 obtain ⟨i,j,rfl,rfl,hc,rfl⟩:=i2_some hf
 cases h1
 cases h2
 exact ho pins s σ H _ _ v u Q I rx ry ⟨i,j,rfl,rfl,hc,q _ H (Same.refl H) (hg _ i j)⟩
theorem opI0_d {f:Value->Value->Sem Value}{g:Int->Int->V}{gd:Int->Int->PyData}(ho:OpR X f (rI0 g))(hg:∀ H i j,DatIs K H (gd i j) (g i j)):OpR X f (rD2 K (i2 (λ_ _=>True) gd)):=by
 intro pins s σ H x y v u Q I rx ry h
 obtain ⟨fp,B,d,e,r,bk,h1,h2,hf,q⟩:=h
 obtain ⟨i,j,rfl,rfl,hc,rfl⟩:=i2_some hf
 cases h1
 cases h2
 exact ho pins s σ H _ _ v u Q I rx ry ⟨i,j,rfl,rfl,q _ H (Same.refl H) (hg _ i j)⟩
noncomputable abbrev subD:=i2 (λ_ _=>True) λi j=>.int (i - j)
theorem od_sub:OpR X (binaryOp .Sub) (rD2 K subD):=opI0_d op_sub λ_ _ _=>DatIs.int
noncomputable instance:∀ i j,Decidable (CPow i j):=λi j=>inferInstanceAs (Decidable (_∧_∧_))
noncomputable instance:∀ i j,Decidable (CMul i j):=λi j=>inferInstanceAs (Decidable ((_∧_)∨(_∧_)))
noncomputable abbrev modD:=i2 (λ_ j=>0<j) λi j=>.int (i % j)
theorem od_mod:OpR X (binaryOp .Mod) (rD2 K modD):=opI_d op_mod λ_ _ _=>DatIs.int
noncomputable def CDivB (i j:Int):Prop:=j≠0∧j.natAbs<2 ^ 9000
noncomputable instance {i j:Int}:Decidable (CDivB i j):=inferInstanceAs (Decidable (_∧_))
@[irreducible] def bigN:Nat:=2 ^ 400000
theorem bigN_eq:bigN=2 ^ 400000:=by unfold bigN;rfl
theorem bigN_ge {n:Nat}(h:n≤400000):2 ^ n≤bigN:=by rw [bigN_eq];exact Nat.pow_le_pow_right (by decide) h
noncomputable def Big (i j:Int):Prop:=CMul i j∨(i.natAbs<bigN∧j.natAbs<bigN)
noncomputable instance {i j:Int}:Decidable (Big i j):=inferInstanceAs (Decidable (_∨_))
theorem bits_le {n:Nat}{i:Int}(h:i.natAbs<2 ^ n):Builtin.Int.intBits i≤n:=by
 unfold Builtin.Int.intBits
 split
 ·exact Nat.zero_le _
 ·rename_i h0
  have h0:i.natAbs≠0:=λz=>h0 (by simpa using z)
  exact (Nat.log2_lt h0).mpr h
theorem Big.ok {i j:Int}(h:Big i j):IntMulOk i j:=by
 rcases h with h | ⟨h1,h2⟩
 ·exact h.ok
 ·unfold IntMulOk
  have e:Builtin.Int.intTooBig ((Builtin.Int.intBits i:Int)+Builtin.Int.intBits j)=false:=by
   unfold Builtin.Int.intTooBig
   rw [bigN_eq] at h1 h2
   have a:=bits_le h1
   have b:=bits_le h2
   have c:(bitsLine:Nat)=134217728:=by decide
   refine decide_eq_false ?_
   rw [c]
   omega
  rw [e,Bool.and_false]
  exact Bool.false_ne_true
theorem op_mulB:OpR X (binaryOp .Mult) (rI Big λi j=>.int (i * j)):=opI λ_ _ _ _ _ _ _ hc q=>mul_int q hc.ok
theorem op_fdivB:OpR X (binaryOp .FloorDiv) (rI CDivB λi j=>.int (i.fdiv j)):=opI λi j _ _ _ _ _ hc q=>by
 have h0:j.natAbs≠0:=λz=>hc.1 (Int.natAbs_eq_zero.mp z)
 exact floordiv_int hc.1 q (.inl (PyProof.noPylong_of_log2 ((Nat.log2_lt h0).mpr hc.2)))
noncomputable abbrev fdivD:=i2 CDivB λi j=>.int (i.fdiv j)
theorem od_fdiv:OpR X (binaryOp .FloorDiv) (rD2 K fdivD):=opI_d op_fdivB λ_ _ _=>DatIs.int
noncomputable abbrev ltD:=i2 (λ_ _=>True) λi j=>.bool (decide (i<j))
noncomputable abbrev leD:=i2 (λ_ _=>True) λi j=>.bool (decide (i≤j))
noncomputable abbrev gtD:=i2 (λ_ _=>True) λi j=>.bool (decide (j<i))
noncomputable abbrev geD:=i2 (λ_ _=>True) λi j=>.bool (decide (j≤i))
theorem od_lt:OpR X (compareOp .Lt) (rD2 K ltD):=opI0_d op_lt λ_ _ _=>DatIs.bl
theorem od_le:OpR X (compareOp .LtE) (rD2 K leD):=opI0_d op_le λ_ _ _=>DatIs.bl
theorem od_gt:OpR X (compareOp .Gt) (rD2 K gtD):=opI0_d op_gt λ_ _ _=>DatIs.bl
theorem od_ge:OpR X (compareOp .GtE) (rD2 K geD):=opI0_d op_ge λ_ _ _=>DatIs.bl
noncomputable def addD:PyData->PyData->Option PyData
 | .int i,.int j=>some (.int (i+j))
 | .str x,.str y=>if x.length+y.length≤sizeLine then some (.str (x++y)) else none
 | .tuple xs,.tuple ys=>if xs.length+ys.length≤sizeLine then some (.tuple (xs++ys)) else none
 | .list xs,.list ys=>if xs.length+ys.length≤sizeLine then some (.list (xs++ys)) else none
 | _,_=>none
theorem DatsAre.nil_of {H:Hp}{ds:List PyData}{xs:List V}(h:DatsAre K H ds xs)(e:xs=[]):ds=[]:=by
 subst e;exact List.length_eq_zero_iff.mp (by rw [← h.length];rfl)
theorem od_add (hK:X.K=K):OpR X (binaryOp .Add) (rD2 K addD):=by
 intro pins s σ H x y v u Q I rx ry h
 obtain ⟨fp,B,d,e,r,bk,h1,h2,hf,q⟩:=h
 cases d <;> cases e <;> simp only [addD] at hf <;> try cases hf
 ·cases h1
  cases h2
  exact op_add pins s σ H _ _ v u Q I rx ry ⟨_,_,rfl,rfl,q _ H (Same.refl H) DatIs.int⟩
 ·cases h1
  cases h2
  split at hf
  ·rename_i hl
   cases hf
   exact op_add_str pins s σ H _ _ v u Q I rx ry ⟨_,_,rfl,rfl,hl,q _ H (Same.refl H) DatIs.st⟩
  ·cases hf
 ·obtain ⟨a,xs,rfl,ha,hd⟩:=h1
  obtain ⟨b,ys,rfl,hb,he⟩:=h2
  split at hf
  ·rename_i hl
   cases hf
   refine op_cat pins s σ H _ _ v u Q I rx ry ⟨a,b,xs,ys,rfl,rfl,hid_same _ _ ha,hid_same _ _ hb,by rw [hd.length,he.length];exact hl,λp hp=>q _ _ (Same.upd hp) (new_lst bk hp (DatsAre.append he hd))⟩
  ·cases hf
 ·obtain ⟨a,xs,rfl,ha,hd⟩:=h1
  obtain ⟨b,ys,rfl,hb,he⟩:=h2
  split at hf
  ·rename_i hl
   cases hf
   refine op_catA hK pins s σ H _ _ v u Q I rx ry ⟨a,b,xs,ys,rfl,rfl,ha.same hid_same,hb.same hid_same,by rw [hd.length,he.length];exact hl,λz=>q _ H (Same.refl H) ?_,λz=>q _ H (Same.refl H) ?_,λp hp=>q _ _ (Same.upd hp) (new_tup bk hp (DatsAre.append he hd))⟩
   ·cases DatsAre.nil_of hd z
    simp only [DatIs,List.nil_append]
    exact ⟨b,ys,rfl,hb,he⟩
   ·cases DatsAre.nil_of he z
    simp only [DatIs,List.append_nil]
    exact ⟨a,xs,rfl,ha,hd⟩
  ·cases hf
noncomputable def mulD:PyData->PyData->Option PyData
 | .int i,.int j=>if Big i j then some (.int (i * j)) else none
 | .list xs,.int k=>if -(2 ^ 63)≤k∧k<2 ^ 63∧xs.length * k.toNat≤sizeLine then some (.list (List.replicate k.toNat xs).flatten) else none
 | _,_=>none
theorem DatsAre.rep {H:Hp}{ds:List PyData}{xs:List V}(h:DatsAre K H ds xs):∀ n,DatsAre K H (List.replicate n ds).flatten (List.replicate n xs).flatten
 | 0=>DatsAre.nil
 | n+1=>by
  rw [List.replicate_succ,List.replicate_succ,List.flatten_cons,List.flatten_cons]
  exact DatsAre.append (DatsAre.rep h n) h
theorem od_mul:OpR X (binaryOp .Mult) (rD2 K mulD):=by
 intro pins s σ H x y v u Q I rx ry h
 obtain ⟨fp,B,d,e,r,bk,h1,h2,hf,q⟩:=h
 cases d <;> cases e <;> simp only [mulD] at hf <;> try cases hf
 ·cases h1
  cases h2
  split at hf
  ·rename_i hc
   cases hf
   exact op_mulB pins s σ H _ _ v u Q I rx ry ⟨_,_,rfl,rfl,hc,q _ H (Same.refl H) DatIs.int⟩
  ·cases hf
 ·obtain ⟨a,xs,rfl,ha,hd⟩:=h1
  cases h2
  split at hf
  ·rename_i hc
   cases hf
   exact op_rep pins s σ H _ _ v u Q I rx ry ⟨a,_,xs,rfl,rfl,hid_same _ _ ha,hc.1,hc.2.1,by rw [hd.length];exact hc.2.2,λp hp=>q _ _ (Same.upd hp) (new_lst bk hp (DatsAre.rep hd _))⟩
  ·cases hf
open PySem.SeqAt in
noncomputable def eqD (neg:Bool):PyData->PyData->Option PyData
 | .str x,.str y=>some (.bool (if neg then !decide (x=y) else decide (x=y)))
 | d,e=>if shaped d=true∧shaped e=true then some (.bool (if neg then !PyData.eqv d e else PyData.eqv d e)) else none
theorem od_eq (hK:X.K=K)(hu:X.A.units+64<cLine):OpR X (compareOp .Eq) (rD2 K (eqD false)):=by
 subst hK
 intro pins s σ H x y v u Q I rx ry h
 obtain ⟨fp,B,d,e,r,bk,h1,h2,hf,q⟩:=h
 unfold eqD at hf
 split at hf
 ·cases hf
  cases h1
  cases h2
  have z:=q _ H (Same.refl H) DatIs.bl
  rename_i a b
  have e:decide (V.str a=V.str b)=decide (a=b):=by simp
  exact op_eq pins s σ H _ _ v u Q I rx ry ⟨rfl,by rw [e];exact z⟩
 ·split at hf
  ·rename_i hs
   cases hf
   obtain ⟨as,ra⟩:=reads_of I _ x v h1.dat rx
   obtain ⟨bs,rb⟩:=reads_of I _ y u h2.dat ry
   exact eq_dataH ra rb hs.1 hs.2 hu ⟨.bl _,H,I,rfl,q _ H (Same.refl H) DatIs.bl⟩
  ·cases hf
theorem od_ne (hK:X.K=K)(hu:X.A.units+64<cLine):OpR X (compareOp .NotEq) (rD2 K (eqD true)):=by
 subst hK
 intro pins s σ H x y v u Q I rx ry h
 obtain ⟨fp,B,d,e,r,bk,h1,h2,hf,q⟩:=h
 unfold eqD at hf
 split at hf
 ·cases hf
  cases h1
  cases h2
  have z:=q _ H (Same.refl H) DatIs.bl
  rename_i a b
  have e:decide (V.str a=V.str b)=decide (a=b):=by simp
  exact op_ne pins s σ H _ _ v u Q I rx ry ⟨rfl,by rw [e];exact z⟩
 ·split at hf
  ·rename_i hs
   cases hf
   obtain ⟨as,ra⟩:=reads_of I _ x v h1.dat rx
   obtain ⟨bs,rb⟩:=reads_of I _ y u h2.dat ry
   exact ne_dataH ra rb hs.1 hs.2 hu ⟨.bl _,H,I,rfl,q _ H (Same.refl H) DatIs.bl⟩
  ·cases hf
end
end L3
namespace L3
open PySem PySem.Spec PyProof.Rows L2
section
variable {K:PySem.W.Frag}{X:Cx}
theorem DatsAre.at {H:Hp}{ds:List PyData}{xs:List V}{i:Int}{d:PyData}(h:DatsAre K H ds xs)(e:atI ds i=some d):∃ v,atI xs i=some v∧DatIs K H d v:=by
 unfold atI at e ⊢
 rw [h.length]
 cases q:ixN ds.length i with
 | none=>rw [q] at e;cases e
 | some j =>
  rw [q] at e
  have e:ds[j]? = some d:=e
  obtain ⟨hj,_⟩:=List.getElem?_eq_some_iff.mp e
  have hx:xs[j]? = some (xs[j]'(by rw [h.length];exact hj)):=by simp
  obtain ⟨d',h1,h2⟩:=h.get hx
  rw [e] at h1;cases h1
  exact ⟨_,hx,h2⟩
noncomputable def ixD:PyData->PyData->Option PyData
 | .list ds,.int i=>atI ds i
 | .tuple ds,.int i=>atI ds i
 | .str x,.int i=>if x.length≤sizeLine then (atI x.cps.toList i).map λc=>.str ⟨#[c]⟩ else none
 | _,_=>none
theorem id_ix (hK:X.K=K):IxR X (rD2 K ixD):=by
 intro value slice pins s σ H x y v u Q I rx ry h hs
 obtain ⟨fp,B,d,e,r,bk,h1,h2,hf,q⟩:=h
 cases d <;> cases e <;> simp only [ixD] at hf <;> try cases hf
 ·cases h1
  cases h2
  split at hf
  ·rename_i hl
   obtain ⟨c,e1,rfl⟩:=Option.map_eq_some_iff.mp hf
   exact ix_str value slice pins s σ H _ _ v u Q I rx ry ⟨_,_,c,rfl,rfl,hl,e1,q _ H (Same.refl H) DatIs.st⟩ hs
  ·cases hf
 ·obtain ⟨a,xs,rfl,ha,hd⟩:=h1
  cases h2
  obtain ⟨w,e1,e2⟩:=DatsAre.at hd hf
  exact ix_listK hK value slice pins s σ H _ _ v u Q I rx ry ⟨a,xs,_,w,rfl,rfl,SqL.of (hid_same _ _ ha),e1,q w H (Same.refl H) e2⟩ hs
 ·obtain ⟨a,xs,rfl,ha,hd⟩:=h1
  cases h2
  obtain ⟨w,e1,e2⟩:=DatsAre.at hd hf
  exact ix_tupK hK value slice pins s σ H _ _ v u Q I rx ry ⟨a,xs,_,w,rfl,rfl,ha.same hid_same,e1,q w H (Same.refl H) e2⟩ hs
noncomputable def cutL {α:Type}(xs:List α)(lo hi:Option Int):List α:=(xs.drop (HT.sIx xs.length 0 lo)).take (HT.sIx xs.length xs.length hi - HT.sIx xs.length 0 lo)
noncomputable def cutD (lo hi:Option Int):PyData->Option PyData
 | .list ds=>some (.list (cutL ds lo hi))
 | .tuple ds=>some (.tuple (cutL ds lo hi))
 | .str x=>if x.length≤sizeLine then some (.str (Txt.slice x lo hi)) else none
 | _=>none
theorem DatsAre.drop {H:Hp}:∀ {ds:List PyData} {xs:List V} (n:Nat),DatsAre K H ds xs->DatsAre K H (ds.drop n) (xs.drop n)
 | ds,xs,0,h=>h
 | [],xs,n+1,h=>by simp only [DatsAre] at h;subst h;simp [DatsAre]
 | d::ds,xs,n+1,h=>by
  simp only [DatsAre] at h
  obtain ⟨y,r,rfl,h1,h2⟩:=h
  simp only [List.drop_succ_cons]
  exact DatsAre.drop n h2
theorem DatsAre.cut {H:Hp}{ds:List PyData}{xs:List V}(h:DatsAre K H ds xs)(lo hi:Option Int):DatsAre K H (cutL ds lo hi) (cutV xs lo hi):=by
 unfold cutL cutV
 rw [h.length]
 exact DatsAre.take _ (DatsAre.drop _ h)
noncomputable def rSlD (K:PySem.W.Frag):V->Option Int->Option Int->Hp->VK->Prop:=λx lo hi H Q=>∃ fp B d r,BOk H B∧DatSh K fp B H d x∧cutD lo hi d=some r∧∀ v H',Same H H'->DatIs K (hid H' B) r v->Q v H'
theorem part_of {v:Value}{o:Option Int}(h:IsPart v o):∃ p:Option (Int×Tok),v=partValue p∧p.map (·.1)=o:=by
 cases h with
 | none=>exact ⟨none,rfl,rfl⟩
 | int i t=>exact ⟨some (i,t),rfl,rfl⟩
theorem sd_cut (hK:X.K=K):SlR X (rSlD K):=by
 intro pins s σ H x v vl vu lo hi sl Q I rx hs pl pu h
 obtain ⟨fp,B,d,r,bk,h1,hf,q⟩:=h
 cases d <;> simp only [cutD] at hf <;> try cases hf
 ·rename_i x0
  cases h1
  split at hf
  ·rename_i hl
   cases hf
   obtain ⟨t,rfl⟩:=rx
   obtain ⟨l,rfl,rfl⟩:=part_of pl
   obtain ⟨m,rfl,rfl⟩:=part_of pu
   refine ⟨"str",_,F.slot_str_getitem.lookup,typeIs_str _ _ _,getItem_meets (typeIs_str _ _ _) (by decide) F.slot_str_getitem F.entry_str_getitem (F.args_str_getitem_2 _ _) (meets_str_getitem_slice _ t sl l m none rfl) ⟨hs,?_⟩⟩
   have z:=q _ H (Same.refl H) DatIs.st
   unfold sliceMade
   unfold Txt.slice at z
   have e:slicePicked x0 l m none=Builtin.Str.strSliceIndices (l.map (·.1)) (m.map (·.1)) 1 x0.length:=rfl
   rw [e]
   simp only [Option.map_none,Option.getD_none]
   split
   ·rename_i hc
    rw [if_pos hc] at z
    exact ⟨.str x0,H,I,⟨t,rfl⟩,z⟩
   ·rename_i hc
    rw [if_neg hc] at z
    refine ⟨?_,⟨.str _,H,I.tok _,⟨_,rfl⟩,z⟩⟩
    have:=Txt.slice_le x0 (l.map (·.1)) (m.map (·.1))
    unfold Txt.slice at this
    rw [if_neg hc] at this
    exact Nat.le_trans this hl
  ·cases hf
 ·obtain ⟨a,xs,rfl,ha,hd⟩:=h1
  subst hK
  exact sl_list pins s σ H _ v vl vu lo hi sl Q I rx hs pl pu ⟨a,xs,rfl,SqL.of (hid_same _ _ ha),λp hp=>q _ _ (Same.upd hp) (new_lst bk hp (DatsAre.cut hd lo hi))⟩
 ·obtain ⟨a,xs,rfl,ha,hd⟩:=h1
  refine sl_tup2K hK pins s σ H _ v vl vu lo hi sl Q I rx hs pl pu ⟨a,xs,rfl,ha.same hid_same,λz=>q _ H (Same.refl H) ?_,λ_ p hp=>q _ _ (Same.upd hp) (new_tup bk hp (DatsAre.cut hd lo hi))⟩
  have:=DatsAre.cut hd lo hi
  rw [z.1] at this
  simp only [DatIs]
  exact ⟨a,xs,rfl,ha,this⟩
end
section
variable [Feeds]{K:PySem.W.Frag}{X:Cx}{e:Expr}{te:TE}{m:DE->M PyData}{pos p2:Pos}
noncomputable def TOd (K:PySem.W.Frag)(to:TO)(m:DE->M (Option Int)):Prop:=∀ (G:GF) (B:List Addr) (E:DE) (F:FS) (σ:St) (H:Hp) (Q:Option Int->Hp->Prop) (d:Option Int) (F':FS),SitE K G B E F σ H->m E F=some (d,F') ->
 (∀ H',Kp (fpOf K G) H H'->FAt K G H' F'->Q d H')->to σ H Q
structure Eo (K:PySem.W.Frag) (X:Cx) (e:Option Expr) (to:TO) (m:DE->M (Option Int)):Prop where
 po:PO X e to
 ok:TOd K to m
noncomputable def oNo:DE->M (Option Int):=λ_ F=>some (none,F)
noncomputable def intOf:PyData->Option Int
 | .int i=>some i
 | _=>none
theorem intOf_some {d:PyData}{i:Int}(h:intOf d=some i):d = .int i:=by
 cases d <;> simp [intOf] at h
 rw [h]
noncomputable def oI (a:DE->M PyData):DE->M (Option Int):=λE F=>(a E F).bind λp=>(intOf p.1).bind λi=>some (some i,p.2)
theorem eo_no:Eo K X none tNoPart oNo:=⟨po_none,λG B E F σ H Q d F' I e q=>by cases e;exact q H Kp.refl I.fd⟩
theorem eo_i (h:Ev K X e te m):Eo K X (some e) (tPart te) (oI m):=⟨po_some h.pe,λG B E F σ H Q d F' I e q=>by
 obtain ⟨⟨x,F1⟩,e1,e⟩:=Option.bind_eq_some_iff.mp e
 obtain ⟨i,e2,e⟩:=Option.bind_eq_some_iff.mp e
 cases e
 refine h.ok G B E F σ H _ x F1 I e1 λv H1 k1 f1 h1=>?_
 have:=intOf_some e2
 simp only at this
 subst this
 simp only [DatIs] at h1
 exact ⟨i,h1,q H1 k1 f1⟩⟩
noncomputable def sCut (a:DE->M PyData)(l u:DE->M (Option Int)):DE->M PyData:=λE F=>(a E F).bind λp=>(l E p.2).bind λx=>(u E x.2).bind λy=>(cutD x.1 y.1 p.1).bind λz=>some (z,y.2)
theorem ev_cut {lo hi:Option Expr}{tl th:TO}{ml mh:DE->M (Option Int)}(he:Eb K X e te m)(hl:Eo K X lo tl ml)(hh:Eo K X hi th mh)(hK:X.K=K:=by rfl):Ev K X (.Subscript e (.Slice lo hi none p2) pos) (tSl (rSlD K) te tl th) (sCut m ml mh) :=
 ⟨pe_slice (sd_cut hK) he.pe hl.po hh.po,λG B E F σ H Q d F' I e q=>by
  obtain ⟨⟨x,F1⟩,e1,e⟩:=Option.bind_eq_some_iff.mp e
  obtain ⟨⟨l,F2⟩,e2,e⟩:=Option.bind_eq_some_iff.mp e
  obtain ⟨⟨h,F3⟩,e3,e⟩:=Option.bind_eq_some_iff.mp e
  obtain ⟨z,e4,e⟩:=Option.bind_eq_some_iff.mp e
  cases e
  refine he.ok G B E F σ H _ x F1 I e1 λv H1 k1 f1 h1=>?_
  refine hl.ok G B E F1 σ H1 _ l F2 (I.step k1 f1) e2 λH2 k2 f2=>?_
  refine hh.ok G B E F2 σ H2 _ h F3 (I.step (k1.trans k2) f2) e3 λH3 k3 f3=>?_
  exact ⟨fpOf K G,B,x,_,bok_step I.bk ((k1.trans k2).trans k3) f3,h1.step (k2.trans k3) I.fB,e4,λu H4 s hu=>q u H4 (((k1.trans k2).trans k3).trans (Kp.same s)) (f3.same s) hu⟩⟩
end
section
variable {K:PySem.W.Frag}{X:Cx}
noncomputable def lenD:List PyData->Option PyData
 | [.list ds]=>some (.int ds.length)
 | [.tuple ds]=>some (.int ds.length)
 | [.str x]=>if x.length≤sizeLine then some (.int x.length) else none
 | _=>none
theorem cd_len (hK:X.K=K):CallR X (.builtin "len") (rDN K lenD):=by
 intro pins s σ H xs us Q I r h
 obtain ⟨fp,B,ds,z,bk,h1,hf,q⟩:=h
 unfold lenD at hf
 split at hf <;> try cases hf
 ·obtain ⟨v,rfl,a,xs,rfl,ha,hd⟩:=shs1 h1 rfl
  have:=q _ H (Same.refl H) DatIs.int
  rw [← hd.length] at this
  exact call_len_seqK hK pins s σ H _ us Q I r ⟨a,xs,rfl,.inl (SqL.of (hid_same _ _ ha)),this⟩
 ·obtain ⟨v,rfl,a,xs,rfl,ha,hd⟩:=shs1 h1 rfl
  have:=q _ H (Same.refl H) DatIs.int
  rw [← hd.length] at this
  exact call_len_seqK hK pins s σ H _ us Q I r ⟨a,xs,rfl,.inr (ha.same hid_same),this⟩
 ·rename_i x0
  obtain ⟨v,rfl,hv⟩:=shs1 h1 rfl
  have hv:v = .str x0:=hv
  subst hv
  split at hf
  ·rename_i hl
   cases hf
   exact call_len_str pins s σ H _ us Q I r ⟨_,rfl,hl,q _ H (Same.refl H) DatIs.int⟩
  ·cases hf
noncomputable def tupleD:List PyData->Option PyData
 | [.list ds]=>some (.tuple ds)
 | [.tuple ds]=>some (.tuple ds)
 | _=>none
theorem cd_tuple (hK:X.K=K):CallR X (.type "tuple") (rDN K tupleD):=by
 intro pins s σ H xs us Q I r h
 obtain ⟨fp,B,ds,z,bk,h1,hf,q⟩:=h
 unfold tupleD at hf
 split at hf <;> try cases hf
 ·obtain ⟨v,rfl,a,xs,rfl,ha,hd⟩:=shs1 h1 rfl
  exact call_tuple_ofK hK pins s σ H _ us Q I r ⟨a,xs,rfl,.inl ⟨SqL.of (hid_same _ _ ha),λl hl=>q _ _ (Same.upd hl) (new_tup bk hl hd)⟩⟩
 ·obtain ⟨v,rfl,hv⟩:=shs1 h1 rfl
  have hv':=hv.tup
  obtain ⟨a,xs,rfl,ha,hd⟩:=hv
  exact call_tuple_ofK hK pins s σ H _ us Q I r ⟨a,xs,rfl,.inr ⟨ha.same hid_same,q _ H (Same.refl H) hv'⟩⟩
noncomputable def intsOf:List PyData->Option (List Int)
 | []=>some []
 | .int i::r=>(intsOf r).map (i :: ·)
 | _=>none
theorem intsOf_some:∀ {ds:List PyData} {ns:List Int},intsOf ds=some ns->ds=ns.map .int
 | [],ns,h=>by cases h;rfl
 | d::r,ns,h=>by
  cases d <;> simp only [intsOf] at h <;> try cases h
  obtain ⟨m,e,rfl⟩:=Option.map_eq_some_iff.mp h
  rw [intsOf_some e];rfl
theorem ints_v {H:Hp}:∀ {ns:List Int} {xs:List V},DatsAre K H (ns.map .int) xs->xs=ns.map V.int
 | [],xs,h=>by simpa only [List.map_nil,DatsAre] using h
 | n::ns,xs,h=>by
  simp only [List.map_cons,DatsAre] at h
  obtain ⟨x,r,rfl,h1,h2⟩:=h
  simp only [DatIs] at h1
  rw [h1,ints_v h2];rfl
noncomputable def reprOk (d:PyData):Bool:=d.showable && !d.hasDict && decide (d.depth≤50) && decide (d.shown.length≤16000000)
end
end L3
namespace L3
open PySem PySem.Spec PyProof.Rows L2
section
variable {K:PySem.W.Frag}{X:Cx}
theorem reprOk_shw {d:PyData}(h:reprOk d=true):Shw d 50 16000000:=by
 unfold reprOk at h
 simp only [Bool.and_eq_true,decide_eq_true_eq,Bool.not_eq_true'] at h
 exact ⟨h.1.1.1,h.1.1.2,h.1.2,h.2⟩
noncomputable def reprD:List PyData->Option PyData
 | [d]=>if reprOk d=true then some (.str d.shown) else none
 | _=>none
theorem cd_repr (hK:X.K=K)(hg:X.A.guards=some [])(hu:X.A.units+64<cLine):CallR X (.builtin "repr") (rDN K reprD):=by
 intro pins s σ H xs us Q I r h
 obtain ⟨fp,B,ds,z,bk,h1,hf,q⟩:=h
 unfold reprD at hf
 split at hf <;> try cases hf
 rename_i d
 split at hf
 ·rename_i ho
  cases hf
  obtain ⟨v,rfl,hv⟩:=shs1 h1 rfl
  have sh:=reprOk_shw ho
  have qq:=q _ H (Same.refl H) DatIs.st
  cases d with
  | tuple ds =>
   have hd:=hv.dat
   obtain ⟨a,xs,rfl,ha,_⟩:=hv
   exact call_reprK hK hg hu pins s σ H _ us Q I r ⟨a,_,rfl,hd,sh,qq⟩
  | list ds =>
   have hd:=hv.dat
   obtain ⟨a,xs,rfl,ha,_⟩:=hv
   exact call_reprK hK hg hu pins s σ H _ us Q I r ⟨a,_,rfl,hd,sh,qq⟩
  | none =>
   cases (show v = .non from hv)
   obtain ⟨u,rfl,rfl⟩:=vals1 r
   exact PySem.P.repr_of_none ⟨.str _,H,I.tok _,⟨_,rfl⟩,by simpa only [PyData.shown] using qq⟩
  | bool b =>
   cases (show v = .bl b from hv)
   obtain ⟨u,rfl,rfl⟩:=vals1 r
   exact PySem.P.repr_of_bool ⟨.str _,H,I.tok _,⟨_,rfl⟩,by simpa only [PyData.shown] using qq⟩
  | int i =>
   cases (show v = .int i from hv)
   obtain ⟨u,rfl,t,rfl⟩:=vals1 r
   have hl:i.natAbs.log2<1920:=by have:=sh.sh;simpa only [PyData.showable,decide_eq_true_eq] using this
   exact PySem.P.repr_of_int hl ⟨.str _,H,I.tok _,⟨_,rfl⟩,by simpa only [PyData.shown] using qq⟩
  | str x =>
   cases (show v = .str x from hv)
   obtain ⟨u,rfl,t,rfl⟩:=vals1 r
   have hl:(reprText x).length≤sizeLine:=by have:=sh.ln;simp only [PyData.shown] at this;exact Nat.le_trans this (by rw [sizeLine_eq];decide)
   exact PySem.P.repr_of_str ⟨.str _,H,I.tok _,⟨_,rfl⟩,by simpa only [PyData.shown] using qq⟩ hl
  | dict b=>exact (show False from hv).elim
 ·cases hf
noncomputable def absD:List PyData->Option PyData
 | [.int i]=>some (.int (if i<0 then -i else i))
 | _=>none
theorem cd_abs:CallR X (.builtin "abs") (rDN K absD):=by
 intro pins s σ H xs us Q I r h
 obtain ⟨fp,B,ds,z,bk,h1,hf,q⟩:=h
 unfold absD at hf
 split at hf <;> try cases hf
 rename_i i
 obtain ⟨v,rfl,hv⟩:=shs1 h1 rfl
 cases (show v = .int i from hv)
 exact call_abs pins s σ H _ us Q I r ⟨i,rfl,q _ H (Same.refl H) DatIs.int⟩
noncomputable def minL:List Int->Int
 | []=>0
 | [a]=>a
 | a::b::r=>min a (minL (b::r))
theorem minL_mem:∀ {ns:List Int},ns≠[]->minL ns∈ns∧∀ n∈ns,minL ns≤n
 | [],h=>absurd rfl h
 | [a],_=>⟨by simp [minL],by simp [minL]⟩
 | a::b::r,_=>by
  obtain ⟨h1,h2⟩:=minL_mem (ns:=b::r) (by simp)
  rw [minL]
  constructor
  ·by_cases h:a≤minL (b::r)
   ·rw [Int.min_eq_left h];simp
   ·rw [Int.min_eq_right (by omega)];exact List.mem_cons_of_mem _ h1
  ·intro n hn
   rcases List.mem_cons.mp hn with rfl | hn
   ·exact Int.min_le_left _ _
   ·exact Int.le_trans (Int.min_le_right _ _) (h2 n hn)
noncomputable def minD:List PyData->Option PyData
 | [.tuple ds]=>(intsOf ds).bind λns=>if ns=[] then none else some (.int (minL ns))
 | [.int i,.int j]=>some (.int (if j<i then j else i))
 | _=>none
theorem cd_min (hK:X.K=K)(hc:X.calm=true):CallR X (.builtin "min") (rDN K minD):=by
 intro pins s σ H xs us Q I r h
 obtain ⟨fp,B,ds,z,bk,h1,hf,q⟩:=h
 unfold minD at hf
 split at hf <;> try cases hf
 ·obtain ⟨ns,e,hf⟩:=Option.bind_eq_some_iff.mp hf
  split at hf
  ·cases hf
  ·rename_i hne
   cases hf
   cases intsOf_some e
   obtain ⟨v,rfl,a,xs,rfl,ha,hd⟩:=shs1 h1 rfl
   cases ints_v hd
   refine call_minT hK hc pins s σ H _ us Q I r ⟨a,ns,rfl,ha.same hid_same,hne,λm hm hle=>?_⟩
   obtain ⟨m1,m2⟩:=minL_mem hne
   have:m=minL ns:=by have:=hle _ m1;have:=m2 _ hm;omega
   rw [this]
   exact q _ H (Same.refl H) DatIs.int
 ·rename_i i j
  obtain ⟨v,w,rfl,hv,hw⟩:=shs2 h1 rfl
  cases (show v = .int i from hv)
  cases (show w = .int j from hw)
  exact call_min2 hc pins s σ H _ us Q I r ⟨i,j,rfl,q _ H (Same.refl H) DatIs.int⟩
noncomputable def negD:PyData->Option PyData
 | .int i=>some (.int (-i))
 | _=>none
theorem ud_neg:UnR X (unaryOp .USub) (rD1 K negD):=by
 intro pins s σ H x v Q I rx h
 obtain ⟨fp,B,d,r,bk,h1,hf,q⟩:=h
 cases d <;> simp only [negD] at hf <;> try cases hf
 rename_i i
 cases (show x = .int i from h1)
 exact un_neg pins s σ H _ v Q I rx ⟨i,rfl,q _ H (Same.refl H) DatIs.int⟩
end
section
variable [Feeds]{K:PySem.W.Frag}{X:Cx}{e:Expr}{te:TE}{m:DE->M PyData}{pos p p2 p3:Pos}
noncomputable def isinD (T:String):PyData->Option PyData:=λd=>some (.bool (isT (tyD d) T))
noncomputable def tIsin (K:PySem.W.Frag)(T:String)(te:TE):TE:=tCB (rIsin K) (tCons te (tCons (tC (.ty T)) tNil))
theorem ev_isin (T:String){x:Str}(he:Eb K X e te m)(hT:T∈["bool","int","str","list","tuple"])(hm:X.mg "isinstance" = none)(hmx:X.mg x=none)(hv:bootBuiltins x=some (.type T))(hg:Gl X "isinstance":=by rfl)(hgx:Gl X x:=by rfl)(hK:X.K=K:=by rfl)(hn:x ≠ "__name__":=by decide)(hd:(x == ("__debug__":Str))=false:=by decide)
  (hs:starEach [e,.Name x p2] X.env=(false,eval e X.env)::starEach [.Name x p2] X.env:=by rfl) (hs2:starEach [.Name x p2] X.env=(false,eval (.Name x p2) X.env)::starEach [] X.env:=by rfl) (hpl:(backTo pos (starEach [.Name x p2] X.env)).any (·.1)=false:=by rfl) :
  Ev K X (.Call (.Name "isinstance" p) [e,.Name x p2] [] pos) (tIsin K T te) (s1 (isinD T) m) :=
 ⟨pe_callB (call_isin hK) hg hm PyProof.Rows.boot_isinstance (pa_cons he.pe (pa_cons (pe_bltn (v:=.ty T) hgx hmx hv rfl hn hd) pa_nil hs2) hs) (by decide) (by decide) hs hpl,λG B E F σ H Q d F' I e q=>by
  obtain ⟨⟨y,F1⟩,e1,e⟩:=Option.bind_eq_some_iff.mp e
  obtain ⟨z,e2,e⟩:=Option.bind_eq_some_iff.mp e
  cases e
  cases e2
  exact he.ok G B E F σ H _ y F1 I e1 λv H1 k1 f1 h1=>⟨v,T,y,rfl,h1.dat,hT,q _ H1 k1 f1 DatIs.bl⟩⟩
end
section
variable {K:PySem.W.Frag}{X:Cx}
end
end L3
namespace L3
open PySem PySem.Spec PyProof.Rows L2
section
variable [Feeds]{K:PySem.W.Frag}{X:Cx}{e:Expr}{te:TE}{m:DE->M PyData}{pos p p2 p3:Pos}
end
end L3
namespace L3
open PySem PySem.Spec L2
theorem noFill_tuple_mul:fillsNumberSlot (.type "tuple") "mul" = pure false :=
 fillsNumberSlot_seq (id:="tuple.__mul__") (r:=some (.builtin "tuple.__rmul__")) F.slot_tuple_mul.lookup (by decide +kernel) F.slot_tuple_rmul.lookup (by decide +kernel)
theorem repeat_tuple:seqRepeat? (.type "tuple")=pure (some (.builtin "tuple.__mul__")):=by
 unfold seqRepeat?
 rw [seqSlot_of (T:="tuple") (name:="__mul__") (id:="tuple.__mul__") F.slot_tuple_mul.lookup (by decide +kernel),seqSlot_of (T:="tuple") (name:="__rmul__") (id:="tuple.__rmul__") F.slot_tuple_rmul.lookup (by decide +kernel)]
 rfl
theorem int_rmul_tuple (a:Int)(t:Tok)(l:Addr)(items:Array Value)(n:Nat)(dd:Option Addr)(sl:Array (Option Value)) :
  Meets (Builtin.«int.__rmul__» ⟨[.int a t,.ref l],[]⟩) (λ_ R s=>s.heap.get? l=some { cls:=.type "tuple",dict:=dd,data:=.seq items n,slots:=sl }∧R (.ok (.ret Value.notImplemented)) s) :=
 .of_wp λprog w A R s h=>by obtain ⟨hp,g,d,tk,os⟩:=s;obtain ⟨hl,h⟩:=h;wp_walk;exact ⟨_,rfl,h⟩
theorem tuple_mul0 (l:Addr)(items:Array Value)(n:Nat)(dd:Option Addr)(sl:Array (Option Value))(k:Int)(u:Tok)(hc0:(decide (k < -(2 ^ 63)) || decide (k ≥ 2 ^ 63))=false)(hc1:(items.isEmpty || k == 1)=true) :
  Meets (Builtin.«tuple.__mul__» ⟨[.ref l,.int k u],[]⟩) (λ_ R s=>s.heap.get? l=some { cls:=.type "tuple",dict:=dd,data:=.seq items n,slots:=sl }∧R (.ok (.ret (.ref l))) s) :=
 .of_wp λprog w A R s h=>by
  obtain ⟨hp,g,d,tk,os⟩:=s;obtain ⟨hl,h⟩:=h
  have f1:=AutoSeq1.idx_int;have f2:=AutoSeq1.sub_tuple_tuple;have f3:=AutoSeq1.sub_list_list;have f4:=AutoSeq1.sub_tuple_list;have f5:=AutoSeq1.sub_list_tuple
  wp_walk
  refine wpAny_ite_false (by rw [hc0];rfl) ?_
  wp_walk
  exact ⟨_,rfl,h⟩
theorem tuple_mul1 (l:Addr)(items:Array Value)(n:Nat)(dd:Option Addr)(sl:Array (Option Value))(k:Int)(u:Tok)(hc0:(decide (k < -(2 ^ 63)) || decide (k ≥ 2 ^ 63))=false)(hc1:(items.isEmpty || k == 1)=false)(hc2:(decide (k≤0) || items.isEmpty)=true) :
  Meets (Builtin.«tuple.__mul__» ⟨[.ref l,.int k u],[]⟩) (λ_ R s=>s.heap.get? l=some { cls:=.type "tuple",dict:=dd,data:=.seq items n,slots:=sl }∧R (.ok (.ret (.ref s.heap.objs.size))) { s with heap:=s.heap.push { cls:=.type "tuple",data:=.seq #[] } }) :=
 .of_wp λprog w A R s h=>by
  obtain ⟨hp,g,d,tk,os⟩:=s;obtain ⟨hl,h⟩:=h
  have f1:=AutoSeq1.idx_int;have f2:=AutoSeq1.sub_tuple_tuple;have f3:=AutoSeq1.sub_list_list;have f4:=AutoSeq1.sub_tuple_list;have f5:=AutoSeq1.sub_list_tuple
  wp_walk
  refine wpAny_ite_false (by rw [hc0];rfl) ?_
  wp_walk
  exact ⟨_,rfl,h⟩
theorem tuple_mul2 (l:Addr)(items:Array Value)(n:Nat)(dd:Option Addr)(sl:Array (Option Value))(k:Int)(u:Tok)(hc0:(decide (k < -(2 ^ 63)) || decide (k ≥ 2 ^ 63))=false)(hc1:(items.isEmpty || k == 1)=false)(hc2:(decide (k≤0) || items.isEmpty)=false)(hc3:decide ((items.size:Int) * k > (2 ^ 63 - 1) / 8)=false)(hc4:Builtin.Tuple.tupleTooMany ((items.size:Int) * k)=false)
  (hsz:(List.foldl (λx1 x2=>x1++x2) #[] (List.replicate k.toNat items)).size≤sizeLine) :
  Meets (Builtin.«tuple.__mul__» ⟨[.ref l,.int k u],[]⟩) (λ_ R s=>s.heap.get? l=some { cls:=.type "tuple",dict:=dd,data:=.seq items n,slots:=sl }∧R (.ok (.ret (.ref s.heap.objs.size))) { s with heap:=s.heap.push { cls:=.type "tuple",data:=.seq (List.foldl (λx1 x2=>x1++x2) #[] (List.replicate k.toNat items)) } }) :=
 .of_wp λprog w A R s h=>by
  obtain ⟨hp,g,d,tk,os⟩:=s;obtain ⟨hl,h⟩:=h
  have f1:=AutoSeq1.idx_int;have f2:=AutoSeq1.sub_tuple_tuple;have f3:=AutoSeq1.sub_list_list;have f4:=AutoSeq1.sub_tuple_list;have f5:=AutoSeq1.sub_list_tuple
  wp_walk
  refine wpAny_ite_false (by rw [hc0];rfl) ?_
  wp_walk
  refine wpAny_ite_false hc3 ?_
  wp_walk
  exact ⟨_,rfl,h⟩
section
open PyProof.Rows
variable {K:PySem.W.Frag}{X:Cx}
noncomputable def mulD':PyData->PyData->Option PyData
 | .tuple xs,.int k=>if -(2 ^ 63)≤k∧k<2 ^ 63∧xs.length * k.toNat≤sizeLine then some (.tuple (List.replicate k.toNat xs).flatten) else none
 | d,e=>mulD d e
theorem op_repT (hK:X.K=K):OpR X (binaryOp .Mult) (λx y H Q=>∃ l k xs,x = .ref l∧y = .int k∧SqT K H l xs ∧ -(2 ^ 63)≤k∧k<2 ^ 63∧xs.length * k.toNat≤sizeLine ∧
  ((List.replicate k.toNat xs).flatten=xs->Q (.ref l) H)∧∀ p,H p=none->Q (.ref p) (upd H p (.tup (List.replicate k.toNat xs).flatten))):=by
 subst hK
 intro pins s σ H x y v u Q I rx ry h
 obtain ⟨l,k,xs,rfl,rfl,hq,h1,h2,hz,q0,q1⟩:=h
 cases rx
 obtain ⟨t,rfl⟩:=ry
 obtain ⟨its,r,p,hl⟩:=I.tuple hq
 have hlen:=r.length
 obtain ⟨⟨cls,dd,data,sl⟩,ho,hc,n,hd⟩:=id p
 simp only at hc hd
 subst hc hd
 have hc0:(decide (k < -(2 ^ 63)) || decide (k ≥ 2 ^ 63))=false:=by
  rw [decide_eq_false (by omega),decide_eq_false (by omega)];rfl
 have e1:s.TypeIs (.ref l) "tuple":=⟨_,ho,rfl⟩
 refine wpAny_binaryOp_repeat_ref (T:="tuple") (U:="int") (by decide) e1 (λs'=>typeIs_int s' k t) noFill_tuple_mul F.fills_int_mul F.slot_int_rmul repeat_tuple F.slot_int_index.lookup
  (call_meets F.slot_int_rmul (typeIs_int s k t) F.entry_int_rmul (F.args_int_rmul_2 _ _) (int_rmul_tuple k t l its.toArray n dd sl) ⟨ho,rfl,e1,?_⟩)
 by_cases c1:(its.toArray.isEmpty || k == 1)=true
 ·refine call_meets F.slot_tuple_mul e1 F.entry_tuple_mul (F.args_tuple_mul_2 _ _) (tuple_mul0 l its.toArray n dd sl k t hc0 c1) ⟨ho,⟨.ref l,H,I,rfl,q0 ?_⟩⟩
  simp only [Bool.or_eq_true,beq_iff_eq] at c1
  rcases c1 with c1 | c1
  ·have:xs=[]:=by
    cases r with
    | nil=>rfl
    | cons a b=>simp at c1
   subst this
   simp
  ·subst c1
   simp
 ·have c1:(its.toArray.isEmpty || k == 1)=false:=by simpa using c1
  by_cases c2:(decide (k≤0) || its.toArray.isEmpty)=true
  ·refine call_meets F.slot_tuple_mul e1 F.entry_tuple_mul (F.args_tuple_mul_2 _ _) (tuple_mul1 l its.toArray n dd sl k t hc0 c1 c2) ⟨ho,?_⟩
   have ez:(List.replicate k.toNat xs).flatten=[]:=by
    rw [Bool.or_eq_false_iff] at c1
    rw [c1.1,Bool.or_false] at c2
    have:k.toNat=0:=by have:=of_decide_eq_true c2;omega
    rw [this];rfl
   have z:=q1 _ I.fresh
   rw [ez] at z
   exact ⟨.ref _,_,I.laid (t':=s.toks) (o:=.tup []) (λb ob q=>Heap.get?_push_of_some _ q) (Nat.le_refl _) ⟨Nat.zero_le _,[],.nil,IsTup.new _ _⟩,rfl,z⟩
  ·have c2:(decide (k≤0) || its.toArray.isEmpty)=false:=by simpa using c2
   have hk0:0<k:=by
    rw [Bool.or_eq_false_iff] at c2
    have:=of_decide_eq_false c2.1
    omega
   have hm:(its.toArray.size:Int) * k≤sizeLine:=by
    obtain ⟨j,rfl⟩:∃ j:Nat,k=j:=⟨k.toNat,by omega⟩
    rw [List.size_toArray,← hlen]
    simp only [Int.toNat_natCast] at hz
    exact_mod_cast hz
   have hfold:List.foldl (λx1 x2=>x1++x2) #[] (List.replicate k.toNat its.toArray)=(List.replicate k.toNat its).flatten.toArray:=by
    have:=foldl_rep its k.toNat []
    rw [List.nil_append] at this
    exact this
   have hsl:(sizeLine:Int)≤(2 ^ 63 - 1) / 8:=by rw [sizeLine_eq];decide
   refine call_meets F.slot_tuple_mul e1 F.entry_tuple_mul (F.args_tuple_mul_2 _ _) (tuple_mul2 l its.toArray n dd sl k t hc0 c1 c2 (decide_eq_false (by omega)) (decide_eq_false (by omega)) ?_) ⟨ho,?_⟩
   ·rw [hfold,List.size_toArray,len_rep,← hlen,Nat.mul_comm];exact hz
   ·rw [hfold]
    exact ⟨.ref _,_,I.laid (t':=s.toks) (o:=.tup (List.replicate k.toNat xs).flatten) (λb ob q=>Heap.get?_push_of_some _ q) (Nat.le_refl _) ⟨by rw [len_rep,Nat.mul_comm];exact hz,_,r.rep k.toNat,IsTup.new _ _⟩,rfl,q1 _ I.fresh⟩
theorem od_mul' (hK:X.K=K):OpR X (binaryOp .Mult) (rD2 K mulD'):=by
 intro pins s σ H x y v u Q I rx ry h
 obtain ⟨fp,B,d,e,r,bk,h1,h2,hf,q⟩:=h
 unfold mulD' at hf
 split at hf
 ·rename_i ds k
  obtain ⟨a,xs,rfl,ha,hd⟩:=h1
  cases (show y = .int k from h2)
  split at hf
  ·rename_i hc
   cases hf
   refine op_repT hK pins s σ H _ _ v u Q I rx ry ⟨a,k,xs,rfl,rfl,ha.same hid_same,hc.1,hc.2.1,by rw [hd.length];exact hc.2.2,λe=>q _ H (Same.refl H) ?_,λp hp=>q _ _ (Same.upd hp) (new_tup bk hp (DatsAre.rep hd _))⟩
   have:=DatsAre.rep hd k.toNat
   rw [e] at this
   simp only [DatIs]
   exact ⟨a,xs,rfl,ha,this⟩
  ·cases hf
 ·exact od_mul pins s σ H x y v u Q I rx ry ⟨fp,B,d,e,r,bk,h1,h2,hf,q⟩
end
end L3
namespace L3
open PySem PySem.Spec PyProof.Rows L2
section
variable [Feeds]
noncomputable def IterOk (K:PySem.W.Frag)(P:Hp->List Addr->Prop)(J:It)(items:List PyData):Prop:=∀ H B,P H B ->
 (∀ i d,items[i]? = some d->J.go i H∧∀ x H2,J.yld i H x H2->Same H H2∧(BOk H B->DatIs K (hid H2 B) d x))∧J.stop items.length H
noncomputable def TId (K:PySem.W.Frag)(wi:TI)(mi:DE->M (List PyData)):Prop:=∀ (G:GF) (B:List Addr) (E:DE) (F:FS) (σ:St) (H:Hp) (R:It->Hp->Prop) (ds:List PyData) (F':FS),SitE K G B E F σ H->mi E F=some (ds,F') ->
 (∀ J H',Kp (fpOf K G) H H'->FAt K G H' F'->IterOk K (λH2 B2=>Same (hid H' B) (hid H2 B2)) J ds->R J H')->wi σ H R
noncomputable def TIs (K:PySem.W.Frag)(wi:TI)(mi:DE->M (List PyData)):Prop:=∀ (G:GF) (B:List Addr) (E:DE) (F:FS) (σ:St) (H:Hp) (R:It->Hp->Prop) (ds:List PyData) (F':FS),SitE K G B E F σ H->mi E F=some (ds,F') ->
 (∀ J H',Kp (fpOf K G) H H'->FAt K G H' F'->IterOk K (λH2 B2=>Kp (fpOf K G) H' H2∧Same (hid H' B) (hid H2 B2)) J ds->R J H')->wi σ H R
theorem TId.sh {K:PySem.W.Frag}{wi:TI}{mi:DE->M (List PyData)}(h:TId K wi mi):TIs K wi mi:=λG B E F σ H R ds F' I e q=>h G B E F σ H R ds F' I e λJ H' k f ok=>q J H' k f λH2 B2 kp=>ok H2 B2 kp.2
structure Ei (K:PySem.W.Frag) (X:Cx) (tg iter:Expr) (wi:TI) (mi:DE->M (List PyData)):Prop where
 pi:PI X tg iter wi
 ok:TId K wi mi
structure Eib (K:PySem.W.Frag) (X:Cx) (tg iter:Expr) (wi:TI) (mi:DE->M (List PyData)):Prop where
 pi:PI X tg iter wi
 ok:TIs K wi mi
variable {K:PySem.W.Frag}{X:Cx}{tg iter e:Expr}{te:TE}{m:DE->M PyData}{pos p:Pos}
theorem Ei.bw {wi:TI}{mi:DE->M (List PyData)}(h:Ei K X tg iter wi mi):Eib K X tg iter wi mi:=⟨h.pi,h.ok.sh⟩
noncomputable def iSeq (K:PySem.W.Frag)(tl:TE):TI:=λσ H R=>tl σ H λx H1=>∃ a,x = .ref a∧(((∃ xs,SqL K H1 a xs)∧R (Itl K a) H1)∨((∃ xs,SqT K H1 a xs)∧R (Itt K a) H1))
theorem pi_seq {l:Expr}{tl:TE}(hK:X.K=K)(hl:PE X l tl):PI X tg l (iSeq K tl):=by
 subst hK
 intro pins s σ H R I h
 refine thn (hl pins s σ H _ I h) λv s1 ⟨x,H1,I1,r1,q1⟩=>?_
 obtain ⟨a,e,q⟩:=q1
 subst e
 cases r1
 rcases q with ⟨⟨xs,hq⟩,q⟩ | ⟨⟨xs,hq⟩,q⟩
 ·obtain ⟨its,rv,p,hz⟩:=I1.list hq
  refine wpAny_pyIter_list p.isList ?_
  refine ⟨s1.heap.objs.size,[s1.heap.objs.size],_,_,H1,rfl,I1.kept (t':=s1.toks) λb o e=>Heap.get?_push_of_some _ e,turn_list a _,⟨_,Heap.get?_push_size _ rfl,rfl,rfl⟩,λb hb=>?_,q⟩
  have e:b=s1.heap.objs.size:=by simpa using hb
  subst e
  exact I1.fpOk (Nat.le_refl _) (I1.hok.fresh (Nat.le_refl _))
 ·obtain ⟨its,rv,p,hz⟩:=I1.tuple hq
  refine wpAny_pyIter_tuple (show s1.heap.IsTuple a its.toArray from p) ?_
  refine ⟨s1.heap.objs.size,[s1.heap.objs.size],_,_,H1,rfl,I1.kept (t':=s1.toks) λb o e=>Heap.get?_push_of_some _ e,turn_tuple a _,⟨_,Heap.get?_push_size _ rfl,rfl,rfl⟩,λb hb=>?_,q⟩
  have e:b=s1.heap.objs.size:=by simpa using hb
  subst e
  exact I1.fpOk (Nat.le_refl _) (I1.hok.fresh (Nat.le_refl _))
noncomputable def seqOf:PyData->Option (List PyData)
 | .list ds=>some ds
 | .tuple ds=>some ds
 | _=>none
noncomputable def mSeq (a:DE->M PyData):DE->M (List PyData):=λE F=>(a E F).bind λp=>(seqOf p.1).bind λds=>some (ds,p.2)
theorem DatsAre.item {H:Hp}{ds:List PyData}{xs:List V}{i:Nat}{d:PyData}(h:DatsAre K H ds xs)(e:ds[i]? = some d):∃ v,xs[i]? = some v∧DatIs K H d v:=by
 obtain ⟨hj,_⟩:=List.getElem?_eq_some_iff.mp e
 have hx:xs[i]? = some (xs[i]'(by rw [h.length];exact hj)):=by simp
 obtain ⟨d',h1,h2⟩:=h.get hx
 rw [e] at h1;cases h1
 exact ⟨_,hx,h2⟩
theorem it_list {P:Hp->List Addr->Prop}{a:Addr}{ds:List PyData}{xs:List V}(h:∀ H B,P H B->H a=some (.lst xs)∧DatsAre K (hid H B) ds xs):IterOk K P (Itl K a) ds:=λH B hp=>by
 obtain ⟨h1,h2⟩:=h H B hp
 refine ⟨λi d e=>?_,⟨xs,SqL.of h1,by rw [h2.length];exact Nat.le_refl _⟩⟩
 obtain ⟨v,e1,e2⟩:=DatsAre.item h2 e
 refine ⟨⟨xs,v,SqL.of h1,e1⟩,λx H2 y=>?_⟩
 obtain ⟨rfl,y⟩:=y
 have:=y xs (SqL.of h1)
 rw [e1] at this;cases this
 exact ⟨Same.refl _,λ_=>e2⟩
theorem it_tup {P:Hp->List Addr->Prop}{a:Addr}{ds:List PyData}{xs:List V}(h:∀ H B,P H B->SqT K H a xs∧DatsAre K (hid H B) ds xs):IterOk K P (Itt K a) ds:=λH B hp=>by
 obtain ⟨h1,h2⟩:=h H B hp
 refine ⟨λi d e=>?_,⟨xs,h1,by rw [h2.length];exact Nat.le_refl _⟩⟩
 obtain ⟨v,e1,e2⟩:=DatsAre.item h2 e
 refine ⟨⟨xs,v,h1,e1⟩,λx H2 y=>?_⟩
 obtain ⟨rfl,y⟩:=y
 have:=y xs h1
 rw [e1] at this;cases this
 exact ⟨Same.refl _,λ_=>e2⟩
theorem eib_seq (h:Eb K X e te m)(hK:X.K=K:=by rfl):Eib K X tg e (iSeq K te) (mSeq m):=⟨pi_seq hK h.pe,λG B E F σ H R ds F' I e q=>by
 obtain ⟨⟨y,F1⟩,e1,e⟩:=Option.bind_eq_some_iff.mp e
 obtain ⟨z,e2,e⟩:=Option.bind_eq_some_iff.mp e
 cases e
 refine h.ok G B E F σ H _ y F1 I e1 λv H1 k1 f1 h1=>?_
 cases y with
 | list ys =>
  cases e2
  obtain ⟨a,xs,rfl,ha,hd⟩:=h1
  refine ⟨a,rfl,.inl ⟨⟨xs,SqL.of (hid_same _ _ ha)⟩,q _ H1 k1 f1 (it_list λH2 B2 k=>⟨hid_same _ _ (k.1.hid (B:=fpOf K G) (λ_ z=>z) _ _ ha),hd.same k.2⟩)⟩⟩
 | tuple ys =>
  cases e2
  obtain ⟨a,xs,rfl,ha,hd⟩:=h1
  refine ⟨a,rfl,.inr ⟨⟨xs,ha.same hid_same⟩,q _ H1 k1 f1 (it_tup λH2 B2 k=>⟨(ha.same k.2).same hid_same,hd.same k.2⟩)⟩⟩
 | _=>cases e2⟩
noncomputable def rngL (lo:Int)(n:Nat):List PyData:=(List.range n).map λ(i:Nat)=>.int (lo+i)
theorem it_rng {P:Hp->List Addr->Prop}{lo:Int}{n:Nat}:IterOk K P (Itr lo n) (rngL lo n):=λH B _=>by
 refine ⟨λi d e=>?_,by show n≤_;simp [rngL]⟩
 unfold rngL at e
 rw [List.getElem?_map] at e
 obtain ⟨j,e1,rfl⟩:=Option.map_eq_some_iff.mp e
 obtain ⟨hj,e2⟩:=List.getElem?_eq_some_iff.mp e1
 simp at hj e2
 subst e2
 refine ⟨hj,λx H2 y=>?_⟩
 obtain ⟨rfl,rfl⟩:=y
 exact ⟨Same.refl _,λ_=>DatIs.int⟩
noncomputable def rngOf1:List PyData->Option (List PyData)
 | [.int j]=>if -(2 ^ 62)≤j∧j<2 ^ 62 then some (rngL 0 j.toNat) else none
 | _=>none
noncomputable def rngOf2:List PyData->Option (List PyData)
 | [.int i,.int j]=>if -(2 ^ 62)≤i∧i<2 ^ 62 ∧ -(2 ^ 62)≤j∧j<2 ^ 62 then some (rngL i (j - i).toNat) else none
 | _=>none
noncomputable def mRng1 (a:DE->M (List PyData)):DE->M (List PyData):=λE F=>(a E F).bind λp=>(rngOf1 p.1).bind λds=>some (ds,p.2)
noncomputable def mRng2 (a:DE->M (List PyData)):DE->M (List PyData):=λE F=>(a E F).bind λp=>(rngOf2 p.1).bind λds=>some (ds,p.2)
theorem ei_rng1 {a:Expr}{ta:TA}{ms:DE->M (List PyData)}(h:Ea K X [a] ta ms)(hm:X.mg "range" = none)(hg:Gl X "range":=by rfl)(hs:starEach [a] X.env=[(false,eval a X.env)]:=by rfl):Ei K X tg (.Call (.Name "range" p) [a] [] pos) (iRng1 ta) (mRng1 ms):=⟨pi_range1 hg hm h.pa hs,λG B E F σ H R ds F' I e q=>by
 obtain ⟨⟨ys,F1⟩,e1,e⟩:=Option.bind_eq_some_iff.mp e
 obtain ⟨z,e2,e⟩:=Option.bind_eq_some_iff.mp e
 cases e
 refine h.ok G B E F σ H _ ys F1 I e1 λvs H1 k1 f1 h1=>?_
 unfold rngOf1 at e2
 split at e2
 ·rename_i j hj
  split at e2
  ·rename_i hc
   cases e2
   have hj:ys=[.int j]:=hj
   subst hj
   simp only [DatsAre] at h1
   obtain ⟨x,r,rfl,h2,rfl⟩:=h1
   simp only [DatIs] at h2
   subst h2
   exact ⟨j,rfl,hc.1,hc.2,q _ H1 k1 f1 it_rng⟩
  ·cases e2
 ·cases e2⟩
theorem ei_rng2 {a b:Expr}{ta:TA}{ms:DE->M (List PyData)}(h:Ea K X [a,b] ta ms)(hm:X.mg "range" = none)(hg:Gl X "range":=by rfl)(hs:starEach [a,b] X.env=[(false,eval a X.env),(false,eval b X.env)]:=by rfl)(hs2:starEach [b] X.env=[(false,eval b X.env)]:=by rfl):Ei K X tg (.Call (.Name "range" p) [a,b] [] pos) (iRng2 ta) (mRng2 ms):=⟨pi_range2 hg hm h.pa hs hs2,λG B E F σ H R ds F' I e q=>by
 obtain ⟨⟨ys,F1⟩,e1,e⟩:=Option.bind_eq_some_iff.mp e
 obtain ⟨z,e2,e⟩:=Option.bind_eq_some_iff.mp e
 cases e
 refine h.ok G B E F σ H _ ys F1 I e1 λvs H1 k1 f1 h1=>?_
 unfold rngOf2 at e2
 split at e2
 ·rename_i i j hj
  split at e2
  ·rename_i hc
   cases e2
   have hj:ys=[.int i,.int j]:=hj
   subst hj
   simp only [DatsAre] at h1
   obtain ⟨x,r,rfl,h2,y,r2,rfl,h3,rfl⟩:=h1
   simp only [DatIs] at h2 h3
   subst h2 h3
   exact ⟨i,j,rfl,hc,q _ H1 k1 f1 it_rng⟩
  ·cases e2
 ·cases e2⟩
noncomputable def TGd (K:PySem.W.Frag)(g:TG)(bd:PyData->DE->Option DE):Prop:=∀ (G:GF) (B:List Addr) (E:DE) (F:FS) (σ:St) (H:Hp) (x:V) (d:PyData) (E':DE) (Q:St->Hp->Prop),SitE K G B E F σ H->DatIs K (hid H B) d x->bd d E=some E' ->
 (∀ σ',SitE K G B E' F σ' H->(∀ i:Nat,(∀ y,E'[i]? ≠ some (some (.dat y)))->E'[i]? = E[i]? ∧ σ'[i]? = σ[i]?)->Q σ' H)->g x σ H Q
noncomputable def TGsd (K:PySem.W.Frag)(g:TGs)(bd:List PyData->DE->Option DE):Prop:=∀ (G:GF) (B:List Addr) (E:DE) (F:FS) (σ:St) (H:Hp) (xs:List V) (ds:List PyData) (E':DE) (Q:St->Hp->Prop),SitE K G B E F σ H->DatsAre K (hid H B) ds xs->bd ds E=some E' ->
 (∀ σ',SitE K G B E' F σ' H->(∀ i:Nat,(∀ y,E'[i]? ≠ some (some (.dat y)))->E'[i]? = E[i]? ∧ σ'[i]? = σ[i]?)->Q σ' H)->g xs σ H Q
structure Eg (K:PySem.W.Frag) (X:Cx) (tg:Expr) (g:TG) (bd:PyData->DE->Option DE):Prop where
 pg:PG X tg g
 ok:TGd K g bd
structure Egs (K:PySem.W.Frag) (X:Cx) (tgs:List Expr) (g:TGs) (bd:List PyData->DE->Option DE):Prop where
 pg:PGs X tgs g
 ok:TGsd K g bd
noncomputable def bN (i:Nat):PyData->DE->Option DE:=λd E=>if i<E.length then some (E.set i (some (.dat d))) else none
theorem SitE.set {G:GF}{B:List Addr}{E:DE}{F:FS}{σ:St}{H:Hp}{i:Nat}{d:PyData}{v:V}(I:SitE K G B E F σ H)(h:DatIs K (hid H B) d v)(hi:i<E.length):SitE K G B (E.set i (some (.dat d))) F (σ.set i (some v)) H:=by
 refine ⟨I.fd,I.fB,I.bk,by rw [List.length_set,List.length_set];exact I.ln,λj x e=>?_⟩
 have hs:i < σ.length:=by rw [← I.ln];exact hi
 by_cases hj:i=j
 ·subst hj
  rw [List.getElem?_set_self hi] at e
  cases e
  exact ⟨v,by rw [List.getElem?_set_self hs],h⟩
 ·rw [List.getElem?_set_ne hj] at e
  rw [List.getElem?_set_ne hj]
  exact I.loc j x e
theorem eg_n {i:Nat}{x:Str}(hN:X.N.Nodup)(hi:X.N[i]? = some x:=by rfl)(hx:Loc X.env.scope x:=by first | exact Or.inl rfl | exact Or.inr rfl)(hf:X.fn x=true∨X.env.scope.names.lookup x=some .local:=by first | exact .inl rfl | exact .inr rfl | assumption):Eg K X (.Name x pos) (gName i) (bN i):=⟨pg_name hN hi hx hf,λG B E F σ H x d E' Q I h e q=>by
 unfold bN at e
 split at e
 ·rename_i hl
  cases e
  refine q _ (I.set h hl) λj hj=>?_
  by_cases hij:i=j
  ·subst hij
   exact absurd (List.getElem?_set_self hl) (hj d)
  ·rw [List.getElem?_set_ne hij,List.getElem?_set_ne hij]
   exact ⟨rfl,rfl⟩
 ·cases e⟩
noncomputable def bNil:List PyData->DE->Option DE:=λds E=>if ds.isEmpty then some E else none
noncomputable def bCons (a:PyData->DE->Option DE)(r:List PyData->DE->Option DE):List PyData->DE->Option DE
 | d::ds,E=>(a d E).bind λE1=>r ds E1
 | [],_=>none
theorem egs_nil:Egs K X [] gNil bNil:=⟨pgs_nil,λG B E F σ H xs ds E' Q I h e q=>by
 cases ds with
 | nil=>cases e;simp only [DatsAre] at h;exact ⟨h,q σ I λ_ _=>⟨rfl,rfl⟩⟩
 | cons d r=>cases e⟩
theorem egs_cons {es:List Expr}{t:TG}{u:TGs}{ba:PyData->DE->Option DE}{br:List PyData->DE->Option DE}(h1:Eg K X e t ba)(h2:Egs K X es u br)
  (hs:(assignEach (e::es) X.env).map (·.2)=assign e X.env::(assignEach es X.env).map (·.2):=by rfl):Egs K X (e::es) (gCons t u) (bCons ba br):=⟨pgs_cons h1.pg h2.pg hs,λG B E F σ H xs ds E' Q I h e q=>by
 cases ds with
 | nil=>cases e
 | cons d r =>
  obtain ⟨E1,e1,e⟩:=Option.bind_eq_some_iff.mp e
  simp only [DatsAre] at h
  obtain ⟨x,rr,rfl,hx,hr⟩:=h
  refine ⟨x,rr,rfl,h1.ok G B E F σ H x d E1 _ I hx e1 λσ1 I1 k1=>?_⟩
  refine h2.ok G B E1 F σ1 H rr r E' _ I1 hr e λσ2 I2 k2=>q σ2 I2 λi hi=>?_
  obtain ⟨a1,a2⟩:=k2 i hi
  obtain ⟨b1,b2⟩:=k1 i (λy z=>hi y (a1.trans z))
  exact ⟨a1.trans b1,a2.trans b2⟩⟩
noncomputable def bTup (n:Nat)(r:List PyData->DE->Option DE):PyData->DE->Option DE
 | .tuple ds,E=>if ds.length=n then r ds E else none
 | _,_=>none
theorem eg_tup {es:List Expr}{k:Nat}{t:TGs}{n:Nat}{br:List PyData->DE->Option DE}(hc:X.calm=true)(h:Egs K X es t br)(hK:X.K=K:=by rfl)
  (hn:(assignEach es X.env).length=n:=by rfl) (hst:(assignEach es X.env).findIdx? (·.1)=none:=by rfl):Eg K X (.Tuple es k pos) (gTup K n t) (bTup n br):=⟨pg_tupK hK hc h.pg hn hst,λG B E F σ H x d E' Q I hd e q=>by
 cases d <;> simp only [bTup] at e <;> try cases e
 split at e
 ·rename_i hl
  simp only [DatIs] at hd
  obtain ⟨a,xs,rfl,ha,hx⟩:=hd
  exact ⟨a,xs,rfl,ha.same hid_same,by rw [hx.length];exact hl,h.ok G B E F σ H xs _ E' Q I hx e q⟩
 ·cases e⟩
noncomputable def capE (k:Nat)(cap:List Nat)(E:DE):DE:=List.replicate k none++cap.map λj=>(E[j]?).join
theorem SitE.cap {G:GF}{B:List Addr}{E:DE}{F:FS}{σ:St}{H:Hp}(I:SitE K G B E F σ H)(k:Nat)(cap:List Nat):SitE K G B (capE k cap E) F (capt k cap σ) H:=by
 refine ⟨I.fd,I.fB,I.bk,by simp [capE,capt],λi x e=>?_⟩
 unfold capE at e
 by_cases hi:i<k
 ·rw [List.getElem?_append_left (by simpa using hi),List.getElem?_replicate,if_pos hi] at e
  cases e
 ·rw [List.getElem?_append_right (by simpa using hi),List.length_replicate,List.getElem?_map] at e
  obtain ⟨j,hj,hv⟩:=Option.map_eq_some_iff.mp e
  have hE:E[j]? = some (some x):=by
   cases q:E[j]? with
   | none=>rw [q] at hv;cases hv
   | some o=>rw [q] at hv;exact congrArg some hv
  obtain ⟨v,h1,h2⟩:=I.loc j x hE
  refine ⟨v,?_,h2⟩
  unfold capt
  rw [List.getElem?_append_right (by simpa using hi),List.length_replicate,List.getElem?_map,hj,Option.map_some,h1]
  rfl
theorem SitE.more {G:GF}{B:List Addr}{E:DE}{F:FS}{σ:St}{H:Hp}{D:Addr}{o:HO}(I:SitE K G B E F σ H)(hD:H D=none):SitE K G (D::B) E F σ (upd H D o):=by
 have hn:D ∉ B:=I.bk.nin hD
 have e1:hid (upd H D o) (D::B)=hid H B:=by
  funext b
  by_cases hb:b=D
  ·subst hb;rw [hid_in List.mem_cons_self,hid_out hn,hD]
  ·by_cases hB:b∈B
   ·rw [hid_in hB,hid_in (List.mem_cons_of_mem _ hB)]
   ·rw [hid_out hB,hid_out (by simp [hb,hB]),upd_ne hb]
 refine ⟨I.fd.same (Same.upd hD),λb hb=>List.mem_cons_of_mem _ (I.fB b hb),λb hb=>?_,I.ln,λi x e=>?_⟩
 ·rcases List.mem_cons.mp hb with rfl | hb
  ·exact ⟨o,upd_same⟩
  ·obtain ⟨u,e⟩:=I.bk b hb
   exact ⟨u,by rw [upd_ne (ne_of_none e hD)];exact e⟩
 ·obtain ⟨v,h1,h2⟩:=I.loc i x e
  refine ⟨v,h1,?_⟩
  cases x with
  | dat d=>show DatIs K (hid (upd H D o) (D::B)) d v;rw [e1];exact h2
  | feed=>exact h2
  | fn _=>exact h2
  | own ds =>
   obtain ⟨a,xs,ea,hB,hf,ha,hd⟩:=h2
   exact ⟨a,xs,ea,List.mem_cons_of_mem _ hB,hf,by rw [upd_ne (ne_of_none ha hD)];exact ha,by rw [e1];exact hd⟩
theorem SitE.wr {G:GF}{B:List Addr}{E:DE}{F:FS}{σ:St}{H:Hp}{D:Addr}{o:HO}(I:SitE K G (D::B) E F σ H)(hf:D ∉ fpOf K G)(hown:∀ (i:Nat) (ds:List PyData),E[i]? = some (some (DV.own ds))->σ[i]? ≠ some (some (V.ref D))){acc:List V}(hD:H D=some (.lst acc)):SitE K G (D::B) E F σ (upd H D o):=by
 have e1:hid (upd H D o) (D::B)=hid H (D::B):=hid_upd List.mem_cons_self
 refine ⟨I.fd.congr λb hb=>upd_ne (λe=>hb.elim (λhb=>hf (e ▸ hb)) λ⟨φ,q⟩=>by rw [e,hD] at q;cases q),I.fB,λb hb=>?_,I.ln,λi x e=>?_⟩
 ·by_cases h:b=D
  ·subst h;exact ⟨o,upd_same⟩
  ·rw [upd_ne h];exact I.bk b hb
 ·obtain ⟨v,h1,h2⟩:=I.loc i x e
  refine ⟨v,h1,?_⟩
  cases x with
  | dat d=>show DatIs K (hid (upd H D o) (D::B)) d v;rw [e1];exact h2
  | feed=>exact h2
  | fn _=>exact h2
  | own ds =>
   obtain ⟨a,xs,rfl,hB,hfa,ha,hd⟩:=h2
   have hne:a≠D:=λz=>hown i ds e (by rw [← z];exact h1)
   exact ⟨a,xs,rfl,hB,hfa,by rw [upd_ne hne];exact ha,by rw [e1];exact hd⟩
structure Ets (K:PySem.W.Frag) (X:Cx) (ifs:List Expr) (tt:TT) (m:DE->M Bool):Prop where
 pts:PTs X ifs tt
 ok:TTd K tt m
noncomputable def uYes:DE->M Bool:=λ_ F=>some (true,F)
theorem ets_nil:Ets K X [] tNoT uYes:=⟨pts_nil,λG B E F σ H Q b F' I e q=>by cases e;exact q H Kp.refl I.fd⟩
theorem ets_one {c:Expr}{tt:TT}{mt:DE->M Bool}(h:Et K X c tt mt):Ets K X [c] tt mt:=⟨pts_one h.pt,h.ok⟩
noncomputable def lcGo (bd:PyData->DE->Option DE)(mt:DE->M Bool)(me:DE->M PyData):List PyData->DE->M (List PyData)
 | [],_,F=>some ([],F)
 | d::r,E,F=>(bd d E).bind λE1=>(mt E1 F).bind λp=>if p.1=true then (me E1 p.2).bind λy=>(lcGo bd mt me r E1 y.2).bind λz=>some (y.1::z.1,z.2) else lcGo bd mt me r E1 p.2
noncomputable def sLC (mi:DE->M (List PyData))(k:Nat)(cap:List Nat)(bd:PyData->DE->Option DE)(mt:DE->M Bool)(me:DE->M PyData):DE->M PyData:=λE F =>
 (mi E F).bind λp=>if p.1.length≤sizeLine then (lcGo bd mt me p.1 (capE k cap E) p.2).bind λz=>some (.list z.1,z.2) else none
noncomputable def LcInv (K:PySem.W.Frag)(G:GF)(B:List Addr)(D:Addr)(H1:Hp)(bd:PyData->DE->Option DE)(mt:DE->M Bool)(me:DE->M PyData)(items whole:List PyData)(Fz:FS)(i:Nat)(σ:St)(acc:List V)(H:Hp):Prop :=
 ∃ E F done rest,SitE K G (D::B) E F σ H∧H D=some (.lst acc)∧Kp (fpOf K G) H1 H∧(∀ (j:Nat) (ds:List PyData),E[j]? = some (some (DV.own ds))->σ[j]? ≠ some (some (V.ref D)))∧DatsAre K (hid H (D::B)) done acc∧lcGo bd mt me (items.drop i) E F=some (rest,Fz)∧whole=done++rest∧done.length≤i
theorem lc_d {wi:TI}{mi:DE->M (List PyData)}{k:Nat}{cap:List Nat}{g:TG}{bd:PyData->DE->Option DE}{tt:TT}{mt:DE->M Bool}{me:DE->M PyData}(hi:TIs K wi mi)(hg:TGd K g bd)(ht:TTd K tt mt)(he:TEd K te me) :
  TEd K (tLC wi k cap g tt te) (sLC mi k cap bd mt me):=λG B E F σ H Q d F' I e q=>by
 obtain ⟨⟨items,F1⟩,e1,e⟩:=Option.bind_eq_some_iff.mp e
 split at e
 ·rename_i hsz
  obtain ⟨⟨whole,F2⟩,e2,e⟩:=Option.bind_eq_some_iff.mp e
  cases e
  refine hi G B E F σ H _ items F1 I e1 λJ H1 k1 f1 ok D hD=>?_
  have I1:SitE K G B E F1 σ H1:=I.step k1 f1
  have hBD:D ∉ B:=I1.bk.nin hD
  have hfD:D ∉ fpOf K G:=λz=>hBD (I.fB D z)
  have hsz:items.length≤sizeLine:=hsz
  have stab:∀ {H':Hp},Kp (fpOf K G) H1 H'->Kp (fpOf K G) H1 H' ∧ Same (hid H1 B) (hid H' (D::B)):=λ{H'} k=>⟨k,λb o eb=>by
   by_cases hb:b∈B
   ·rw [hid_in hb] at eb;cases eb
   ·rw [hid_out hb] at eb
    rw [hid_out (by
     intro z
     rcases List.mem_cons.mp z with rfl | z
     ·rw [hD] at eb;cases eb
     ·exact hb z)]
    exact k b o eb λz=>hb (I.fB b z)⟩
  refine lc_gen items.length (LcInv K G B D H1 bd mt me items whole F2) ?_ ?_ ?_ ?_ ?_
  ·refine ⟨capE k cap E,F1,[],whole,(I1.cap k cap).more hD,upd_same,Kp.upd hD,λj ds ej z=>?_,DatsAre.nil,e2,rfl,Nat.le_refl _⟩
   obtain ⟨v,v1,a,xs,rfl,_,_,ha,_⟩:=(I1.cap k cap).loc j _ ej
   rw [v1] at z
   cases z
   rw [hD] at ha;cases ha
  ·rintro i σ' acc H' hlt ⟨E',F3,done,rest,I2,hD2,k2,ow,hd2,e3,ew,hdi⟩
   exact ((ok H' (D::B) (stab k2)).1 i items[i] (by simp [hlt])).1
  ·rintro σ' acc H' ⟨E',F3,done,rest,I2,hD2,k2,ow,hd2,e3,ew,hdi⟩
   exact (ok H' (D::B) (stab k2)).2
  ·rintro i σ' acc H' hlt ⟨E',F3,done,rest,I2,hD2,k2,ow,hd2,e3,ew,hdi⟩ x H2 y R hR
   obtain ⟨s2,hx⟩:=((ok H' (D::B) (stab k2)).1 i items[i] (by simp [hlt])).2 x H2 y
   have hx':=hx I2.bk
   rw [List.drop_eq_getElem_cons hlt,lcGo] at e3
   obtain ⟨E4,e4,e3⟩:=Option.bind_eq_some_iff.mp e3
   obtain ⟨⟨b,F5⟩,e5,e3⟩:=Option.bind_eq_some_iff.mp e3
   have I3:SitE K G (D::B) E' F3 σ' H2:=I2.step (Kp.same s2) (I2.fd.same s2)
   refine hg G (D::B) E' F3 σ' H2 x items[i] E4 _ I3 hx' e4 λσ4 I4 fr=>?_
   have ow4:∀ (j:Nat) (ds:List PyData),E4[j]? = some (some (DV.own ds))->σ4[j]? ≠ some (some (V.ref D)):=λj ds ej=>by
    obtain ⟨a1,a2⟩:=fr j λy z=>by rw [ej] at z;cases z
    rw [a2];exact ow j ds (a1 ▸ ej)
   refine ht G (D::B) E4 F3 σ4 H2 _ b F5 I4 e5 λH5 k5 f5=>?_
   have kall:Kp (fpOf K G) H1 H5:=(k2.trans (Kp.same s2)).trans k5
   have I5:SitE K G (D::B) E4 F5 σ4 H5:=I4.step k5 f5
   have hD5:H5 D=some (.lst acc):=k5 D _ (s2 D _ hD2) hfD
   have hd5:DatsAre K (hid H5 (D::B)) done acc:=(hd2.same ((Kp.same s2).hid (fp:=[]) (by simp))).same (k5.hid I4.fB)
   cases b with
   | false =>
    exact ⟨hD5,hR _ _ _ ⟨E4,F5,done,rest,I5,hD5,kall,ow4,hd5,e3,ew,by omega⟩⟩
   | true =>
    obtain ⟨⟨yd,F6⟩,e6,e3⟩:=Option.bind_eq_some_iff.mp e3
    obtain ⟨⟨zs,F7⟩,e7,e3⟩:=Option.bind_eq_some_iff.mp e3
    cases e3
    refine he G (D::B) E4 F5 σ4 H5 _ yd F6 I5 e6 λv H6 k6 f6 h6=>?_
    have hD6:H6 D=some (.lst acc):=k6 D _ hD5 hfD
    have I6:SitE K G (D::B) E4 F6 σ4 H6:=I5.step k6 f6
    have hd6:=hd5.same (k6.hid I5.fB)
    have hlen:acc.length<sizeLine:=by rw [hd2.length];omega
    refine ⟨hD6,hlen,hR _ _ _ ⟨E4,F6,done++[yd],zs,I6.wr hfD ow4 hD6,upd_same,λb o eb nb=>?_,ow4,?_,e7,by rw [ew];simp,by simp;omega⟩⟩
    ·have:=k6 b o (kall b o eb nb) nb
     rw [upd_ne];exact this
     intro z;subst z;rw [hD] at eb;cases eb
    ·rw [hid_upd List.mem_cons_self]
     exact hd6.snoc h6
  ·rintro σ' acc H' ⟨E',F3,done,rest,I2,hD2,k2,ow,hd2,e3,ew,hdi⟩
   rw [List.drop_length,lcGo] at e3
   cases e3
   rw [List.append_nil] at ew
   subst ew
   refine q _ H' (k1.trans k2) I2.fd ?_
   refine DatIs.lst (by rw [hid_out hBD];exact hD2) (hd2.same (hid_sub λb hb=>List.mem_cons_of_mem _ hb))
 ·cases e
theorem ev_lc {elt:Expr}{ifs:List Expr}{scope osc:Scope}{N:List Str}{k:Nat}{cap:List Nat}{wi:TI}{g:TG}{tt:TT}{mi:DE->M (List PyData)}{bd:PyData->DE->Option DE}{mt:DE->M Bool}{me:DE->M PyData}
  (hc:X.calm=true) (hosc:X.env.scope=osc) (hcap:Caps X.N osc N k cap scope) (hi:Eib K X tg iter wi mi)
  (hg:∀ cl C ex pins s H,Eg K (cxC X N scope cl C ex pins s H) tg g bd)
  (ht:∀ cl C ex pins s H,Ets K (cxC X N scope cl C ex pins s H) ifs tt mt)
  (he:∀ cl C ex pins s H,Ev K (cxC X N scope cl C ex pins s H) elt te me)
  (hs:∀ x,foldedSetIterable iter X.env x=pure x:=by intro _;rfl) :
  Ev K X (.ListComp elt [⟨tg,iter,ifs,0⟩] scope pos) (tLC wi k cap g tt te) (sLC mi k cap bd mt me) :=
 ⟨pe_lc hc hosc hcap hi.pi (λcl C ex pins s H=>(hg cl C ex pins s H).pg) (λcl C ex pins s H=>(ht cl C ex pins s H).pts) (λcl C ex pins s H=>(he cl C ex pins s H).pe) hs,
  lc_d hi.ok (hg [] 0 [] [] X.s₀ X.H₀).ok (ht [] 0 [] [] X.s₀ X.H₀).ok (he [] 0 [] [] X.s₀ X.H₀).ok⟩
end
end L3
namespace L3
open PySem PySem.Spec PyProof.Rows L2
section
variable [Feeds]
inductive Out where
 | nx (E:DE) | rt (d:PyData) | bk (E:DE) | ct (E:DE)
structure Sit (K:PySem.W.Frag) (G:GF) (B0:List Addr) (H0:Hp) (E:DE) (F:FS) (σ:St) (H:Hp):Prop where
 ex:∃ B,(∀ b∈B0,b∈B)∧(∀ b∈B,b∈B0∨H0 b=none)∧SitE K G B E F σ H
 fB:∀ b∈fpOf K G,b∈B0
 kp:Kp (fpOf K G) H0 H
 own:∀ (i:Nat) (ds:List PyData) (a:Addr),E[i]? = some (some (DV.own ds))->σ[i]? = some (some (V.ref a))->H0 a=none∧a ∉ B0
 inj:∀ (i j:Nat) (ds es:List PyData) (a:Addr),E[i]? = some (some (DV.own ds))->E[j]? = some (some (DV.own es))->σ[i]? = some (some (V.ref a))->σ[j]? = some (some (V.ref a))->i=j
noncomputable def OutOk (K:PySem.W.Frag)(G:GF)(B0:List Addr)(H0:Hp)(F:FS)(D:Ends):Out->Prop
 | .nx E=>∀ σ H,Sit K G B0 H0 E F σ H->D.nx σ H
 | .bk E=>∀ σ H,Sit K G B0 H0 E F σ H->D.bk σ H
 | .ct E=>∀ σ H,Sit K G B0 H0 E F σ H->D.ct σ H
 | .rt d=>∀ v H,Kp (fpOf K G) H0 H->FAt K G H F->DatIs K (hid H B0) d v->D.rt v H
noncomputable def TSd (K:PySem.W.Frag)(ts:TS)(m:DE->M Out):Prop:=∀ (G:GF) (B0:List Addr) (H0:Hp) (E:DE) (F:FS) (σ:St) (H:Hp) (D:Ends) (r:Out) (F':FS),Sit K G B0 H0 E F σ H->m E F=some (r,F')->OutOk K G B0 H0 F' D r->ts D σ H
structure Ss (K:PySem.W.Frag) (X:Cx) (st:Stmt) (ts:TS) (m:DE->M Out):Prop where
 ps:PS X st ts
 ok:TSd K ts m
structure Sss (K:PySem.W.Frag) (X:Cx) (sts:List Stmt) (ts:TS) (m:DE->M Out):Prop where
 ps:PSs X sts ts
 ok:TSd K ts m
variable {K:PySem.W.Frag}{X:Cx}{a b c e tg iter:Expr}{es:List Expr}{st:Stmt}{sts rest:List Stmt}{ta tb te:TE}{ma mb m:DE->M PyData}{t u:TS}{mt mu:DE->M Out}{pos pos' p p2:Pos}
theorem Sit.step {G:GF}{B0:List Addr}{H0:Hp}{E:DE}{F F':FS}{σ:St}{H H':Hp}(S:Sit K G B0 H0 E F σ H)(k:Kp (fpOf K G) H H')(f:FAt K G H' F'):Sit K G B0 H0 E F' σ H':=by
 obtain ⟨B,s,sn,I⟩:=S.ex
 exact ⟨⟨B,s,sn,I.step k f⟩,S.fB,S.kp.trans k,S.own,S.inj⟩
noncomputable def mNx:DE->M Out:=λE F=>some (.nx E,F)
noncomputable def mSq (a b:DE->M Out):DE->M Out:=λE F=>(a E F).bind λp=>match p.1 with
 | .nx E1=>b E1 p.2
 | o=>some (o,p.2)
theorem ss_nil:Sss K X [] tNext mNx:=⟨pss_nil,λG B0 H0 E F σ H D r F' S e q=>by cases e;exact q σ H S⟩
theorem ss_cons (h1:Ss K X st t mt)(h2:Sss K X rest u mu):Sss K X (st::rest) (tSeq t u) (mSq mt mu):=⟨pss_cons h1.ps h2.ps,λG B0 H0 E F σ H D r F' S e q=>by
 obtain ⟨⟨o,F1⟩,e1,e⟩:=Option.bind_eq_some_iff.mp e
 refine h1.ok G B0 H0 E F σ H _ o F1 S e1 ?_
 cases o with
 | nx E1=>exact λσ' H' S'=>h2.ok G B0 H0 E1 F1 σ' H' D r F' S' e q
 | rt d=>cases e;exact q
 | bk E1=>cases e;exact q
 | ct E1=>cases e;exact q⟩
theorem ss_one (h1:Ss K X st t mt):Sss K X [st] t mt:=⟨pss_one h1.ps,h1.ok⟩
noncomputable def mRt (a:DE->M PyData):DE->M Out:=λE F=>(a E F).bind λp=>some (.rt p.1,p.2)
theorem st_ret (h:Ev K X e te m):Ss K X (.Return (some e) pos) (tRet te) (mRt m):=⟨ps_ret h.pe,λG B0 H0 E F σ H D r F' S e q=>by
 obtain ⟨⟨d,F1⟩,e1,e⟩:=Option.bind_eq_some_iff.mp e
 cases e
 obtain ⟨B,s,sn,I⟩:=S.ex
 exact h.ok G B E F σ H _ d F1 I e1 λv H1 k1 f1 h1=>q v H1 (S.kp.trans k1) f1 (h1.same (hid_sub s))⟩
noncomputable def mSet (i:Nat)(a:DE->M PyData):DE->M Out:=λE F=>(a E F).bind λp=>(bN i p.1 E).bind λE1=>some (.nx E1,p.2)
theorem Sit.bind {G:GF}{B0 B:List Addr}{H0:Hp}{E E':DE}{F F':FS}{σ σ':St}{H:Hp}(S:Sit K G B0 H0 E F σ H)(s:∀ b∈B0,b∈B)(sn:∀ b∈B,b∈B0∨H0 b=none)(I:SitE K G B E' F' σ' H)(fr:∀ i:Nat,(∀ y,E'[i]? ≠ some (some (.dat y)))->E'[i]? = E[i]? ∧ σ'[i]? = σ[i]?):Sit K G B0 H0 E' F' σ' H:=by
 refine ⟨⟨B,s,sn,I⟩,S.fB,S.kp,λi ds a ei si=>?_,λi j ds es a ei ej si sj=>?_⟩
 ·obtain ⟨a1,a2⟩:=fr i λy z=>by rw [ei] at z;cases z
  exact S.own i ds a (a1 ▸ ei) (a2 ▸ si)
 ·obtain ⟨a1,a2⟩:=fr i λy z=>by rw [ei] at z;cases z
  obtain ⟨b1,b2⟩:=fr j λy z=>by rw [ej] at z;cases z
  exact S.inj i j ds es a (a1 ▸ ei) (b1 ▸ ej) (a2 ▸ si) (b2 ▸ sj)
theorem asg_d {g:TG}{bd:PyData->DE->Option DE}(he:TEd K te m)(hg:TGd K g bd):TSd K (tAsg te g) (λE F=>(m E F).bind λp=>(bd p.1 E).bind λE1=>some (.nx E1,p.2)):=λG B0 H0 E F σ H D r F' S e q=>by
 obtain ⟨⟨d,F1⟩,e1,e⟩:=Option.bind_eq_some_iff.mp e
 obtain ⟨E1,e2,e⟩:=Option.bind_eq_some_iff.mp e
 cases e
 obtain ⟨B,s,sn,I⟩:=S.ex
 refine he G B E F σ H _ d F1 I e1 λv H1 k1 f1 h1=>?_
 have S1:=S.step k1 f1
 exact hg G B E F1 σ H1 v d E1 _ (I.step k1 f1) h1 e2 λσ' I' fr=>q σ' H1 (S1.bind s sn I' fr)
theorem name_d (i:Nat):TGd K (gName i) (bN i):=λG B E F σ H x d E' Q I h e q=>by
 unfold bN at e
 split at e
 ·rename_i hl
  cases e
  refine q _ (I.set h hl) λj hj=>?_
  by_cases hij:i=j
  ·subst hij
   exact absurd (List.getElem?_set_self hl) (hj d)
  ·rw [List.getElem?_set_ne hij,List.getElem?_set_ne hij]
   exact ⟨rfl,rfl⟩
 ·cases e
theorem st_set (i:Nat){x:Str}(hN:X.N.Nodup)(he:Ev K X e te m)(hi:X.N[i]? = some x:=by rfl)(hx:Loc X.env.scope x:=by first | exact Or.inl rfl | exact Or.inr rfl)(hs:swapsWith e (some (.Name x pos')) pos.line X.env=pure false:=by rfl)(hf:X.fn x=true∨X.env.scope.names.lookup x=some .local:=by first | exact .inl rfl | exact .inr rfl | assumption) :
  Ss K X (.Assign [.Name x pos'] e pos) (tAsg te (gName i)) (mSet i m):=⟨ps_set hN hi hx he.pe hs hf,asg_d he.ok (name_d i)⟩
noncomputable def mAsg (bd:PyData->DE->Option DE)(a:DE->M PyData):DE->M Out:=λE F=>(a E F).bind λp=>(bd p.1 E).bind λE1=>some (.nx E1,p.2)
theorem st_asg {g:TG}{bd:PyData->DE->Option DE}(he:Ev K X e te m)(hg:Eg K X tg g bd)(hs:swapsWithSole [tg] e pos.line X.env=pure false:=by rfl)(hw:swappedStores [tg] e X.env=pure none:=by rfl)
  (h1:(assignEach [tg] X.env).map (·.2)=[assign tg X.env]:=by rfl):Ss K X (.Assign [tg] e pos) (tAsg te g) (mAsg bd m):=⟨ps_asg he.pe hg.pg hs hw h1,asg_d he.ok hg.ok⟩
noncomputable def mIf (c:DE->M Bool)(a b:DE->M Out):DE->M Out:=λE F=>(c E F).bind λp=>if p.1=true then a E p.2 else b E p.2
theorem st_if {x y:List Stmt}{tt:TT}{mc:DE->M Bool}(hc:Et K X c tt mc)(ha:Sss K X x t mt)(hb:Sss K X y u mu):Ss K X (.If c x y pos) (tIfS tt t u) (mIf mc mt mu):=⟨ps_if hc.pt ha.ps hb.ps,λG B0 H0 E F σ H D r F' S e q=>by
 obtain ⟨⟨d,F1⟩,e1,e⟩:=Option.bind_eq_some_iff.mp e
 obtain ⟨B,s,sn,I⟩:=S.ex
 refine hc.ok G B E F σ H _ d F1 I e1 λH1 k1 f1=>?_
 cases d with
 | true=>exact ha.ok G B0 H0 E F1 σ H1 D r F' (S.step k1 f1) e q
 | false=>exact hb.ok G B0 H0 E F1 σ H1 D r F' (S.step k1 f1) e q⟩
noncomputable def mPar (i j:Nat)(a:DE->M (List PyData)):DE->M Out:=λE F=>(a E F).bind λp=>match p.1 with
 | [x,y]=>(bN i x E).bind λE1=>(bN j y E1).bind λE2=>some (.nx E2,p.2)
 | _=>none
theorem st_par (i j:Nat){x y:Str}{tl:TA}{ms:DE->M (List PyData)}{px py pt:Pos}{kt k2 pt2}(hc:X.calm=true)(hN:X.N.Nodup)(ha:Ea K X [a,b] tl ms)(hi:X.N[i]? = some x:=by rfl)(hj:X.N[j]? = some y:=by rfl)(hij:i≠j:=by decide)
  (hx:X.env.scope.names.lookup x=some .local:=by rfl) (hy:X.env.scope.names.lookup y=some .local:=by rfl)
  (hw:swappedStores [.Tuple [.Name x px,.Name y py] kt pt] (.Tuple [a,b] k2 pt2) X.env=pure (some [x,y]):=by rfl)
  (hs:swapsWithSole [.Tuple [.Name x px,.Name y py] kt pt] (.Tuple [a,b] k2 pt2) pos.line X.env=pure false:=by rfl) :
  Ss K X (.Assign [.Tuple [.Name x px,.Name y py] kt pt] (.Tuple [a,b] k2 pt2) pos) (tPar i j tl) (mPar i j ms):=⟨ps_par hc hN hi hj hij hx hy ha.pa hw hs,λG B0 H0 E F σ H D r F' S e q=>by
 obtain ⟨⟨ds,F1⟩,e1,e⟩:=Option.bind_eq_some_iff.mp e
 obtain ⟨B,s,sn,I⟩:=S.ex
 refine ha.ok G B E F σ H _ ds F1 I e1 λvs H1 k1 f1 h1=>?_
 dsimp only at e
 split at e
 ·obtain ⟨E1,e2,e⟩:=Option.bind_eq_some_iff.mp e
  obtain ⟨E2,e3,e⟩:=Option.bind_eq_some_iff.mp e
  cases e
  simp only [DatsAre] at h1
  obtain ⟨v,r1,rfl,hv,w,r2,rfl,hw,rfl⟩:=h1
  have S1:=S.step k1 f1
  refine ⟨v,w,rfl,?_⟩
  refine name_d i G B E _ σ H1 v _ E1 (λσ' H'=>D.nx (σ'.set j (some w)) H') (I.step k1 f1) hv e2 λσ' I' fr=>?_
  have S2:=S1.bind s sn I' fr
  exact name_d j G B E1 _ σ' H1 w _ E2 D.nx I' hw e3 λσ2 I2 fr2=>q σ2 H1 (S2.bind s sn I2 fr2)
 ·cases e⟩
end
end L3
namespace L3
open PySem PySem.Spec PyProof.Rows L2
section
variable [Feeds]{K:PySem.W.Frag}{X:Cx}{a b c e tg iter:Expr}{es:List Expr}{st:Stmt}{sts rest:List Stmt}{ta tb te:TE}{ma mb m:DE->M PyData}{t u:TS}{mt mu:DE->M Out}{pos pos' p p2:Pos}
noncomputable def cutH (H:Hp)(B B0:List Addr):Hp:=hid H (B.filter λb=>decide (b ∉ B0))
theorem cutH_none {H:Hp}{B B0:List Addr}{b:Addr}(h1:b∈B)(h2:b ∉ B0):cutH H B B0 b=none:=hid_in (List.mem_filter.mpr ⟨h1,by simpa using h2⟩)
theorem cutH_some {H:Hp}{B B0:List Addr}{b:Addr}(h:b ∉ B∨b∈B0):cutH H B B0 b=H b:=hid_out λz=>by
 obtain ⟨z1,z2⟩:=List.mem_filter.mp z
 rcases h with h | h
 ·exact h z1
 ·simp at z2;exact z2 h
section
variable {G:GF}{B0 B:List Addr}{H0:Hp}{E E2:DE}{F F2:FS}{σ σ2:St}{H H2:Hp}
theorem Sit.base (S:Sit K G B0 H0 E F σ H)(s:∀ b∈B0,b∈B)(sn:∀ b∈B,b∈B0∨H0 b=none)(I:SitE K G B E F σ H):Sit K G B0 (cutH H B B0) E F σ H:=by
 refine ⟨⟨B,s,λb hb=>?_,I⟩,S.fB,Kp.same hid_same,λi ds a ei si=>?_,S.inj⟩
 ·by_cases h:b∈B0
  ·exact .inl h
  ·exact .inr (cutH_none hb h)
 ·obtain ⟨v,v1,a',xs,rfl,hB,_⟩:=I.loc i _ ei
  rw [v1] at si;cases si
  exact ⟨cutH_none hB (S.own i ds _ ei v1).2,(S.own i ds _ ei v1).2⟩
theorem cut_kp (S:Sit K G B0 H0 E F σ H)(sn:∀ b∈B,b∈B0∨H0 b=none)(k:Kp (fpOf K G) (cutH H B B0) H2):Kp (fpOf K G) H0 H2:=λb o e n=>by
 refine k b o ?_ n
 rw [cutH_some]
 ·exact S.kp b o e n
 ·by_cases hb:b∈B
  ·rcases sn b hb with h | h
   ·exact .inr h
   ·rw [h] at e;cases e
  ·exact .inl hb
theorem Sit.unbase (S:Sit K G B0 H0 E F σ H)(sn:∀ b∈B,b∈B0∨H0 b=none)(S2:Sit K G B0 (cutH H B B0) E2 F2 σ2 H2):Sit K G B0 H0 E2 F2 σ2 H2:=by
 have no:∀ b,cutH H B B0 b=none->b∈B0∨H0 b=none:=λb e=>by
  by_cases hb:b∈B
  ·exact sn b hb
  ·rw [cutH_some (.inl hb)] at e
   by_cases hf:b∈fpOf K G
   ·exact .inl (S.fB b hf)
   ·cases q:H0 b with
    | none=>exact .inr rfl
    | some o=>rw [S.kp b o q hf] at e;cases e
 obtain ⟨B2,s2,sn2,I2⟩:=S2.ex
 refine ⟨⟨B2,s2,λb hb=>?_,I2⟩,S.fB,cut_kp S sn S2.kp,λi ds a ei si=>?_,S2.inj⟩
 ·rcases sn2 b hb with h | h
  ·exact .inl h
  ·exact no b h
 ·obtain ⟨h1,h2⟩:=S2.own i ds a ei si
  exact ⟨(no a h1).resolve_left h2,h2⟩
end
noncomputable def forGo (bd:PyData->DE->Option DE)(body:DE->M Out):List PyData->DE->M Out
 | [],E,F=>some (.nx E,F)
 | d::r,E,F=>(bd d E).bind λE1=>(body E1 F).bind λp=>match p.1 with
  | .nx E2=>forGo bd body r E2 p.2
  | .ct E2=>forGo bd body r E2 p.2
  | .bk E2=>some (.nx E2,p.2)
  | .rt d=>some (.rt d,p.2)
noncomputable def mFor (mi:DE->M (List PyData))(bd:PyData->DE->Option DE)(body:DE->M Out):DE->M Out:=λE F=>(mi E F).bind λp=>forGo bd body p.1 E p.2
theorem for_d {wi:TI}{g:TG}{tb:TS}{mi:DE->M (List PyData)}{bd:PyData->DE->Option DE}{mb:DE->M Out}(hi:TId K wi mi)(hg:TGd K g bd)(hb:TSd K tb mb):TSd K (tFor wi g tb) (mFor mi bd mb):=λG B0 H0 E F σ H D r F' S e q=>by
 obtain ⟨⟨items,F1⟩,e1,e⟩:=Option.bind_eq_some_iff.mp e
 obtain ⟨B,s,sn,I⟩:=S.ex
 refine hi G B E F σ H _ items F1 I e1 λJ H1 k1 f1 ok=>?_
 have S1:=S.step k1 f1
 have I1:=I.step k1 f1
 have S1':=S1.base s sn I1
 have qn:∀ {E2:DE} {F2:FS},r = .nx E2->F' = F2->∀ σ2 H2,Sit K G B0 (cutH H1 B B0) E2 F2 σ2 H2->D.nx σ2 H2:=λ{E2 F2} er ef σ2 H2 S2=>by
  subst er ef
  exact q σ2 H2 (S1.unbase sn S2)
 have stab:∀ {E2:DE} {F2:FS} {σ2:St} {H2:Hp} {B2:List Addr},Sit K G B0 (cutH H1 B B0) E2 F2 σ2 H2->(∀ b∈B2,b∈B0∨cutH H1 B B0 b=none)->Same (hid H1 B) (hid H2 B2):=λ{E2 F2 σ2 H2 B2} S2 sn2 b o eb=>by
  by_cases hB:b∈B
  ·rw [hid_in hB] at eb;cases eb
  ·rw [hid_out hB] at eb
   have ec:cutH H1 B B0 b=some o:=by rw [cutH_some (.inl hB)];exact eb
   rw [hid_out λz=>(sn2 b z).elim (λh=>hB (s b h)) λh=>by rw [h] at ec;cases ec]
   exact S2.kp b o ec λz=>hB (s b (S.fB b z))
 refine ⟨λi m σ H=>m=items.length - i∧i≤items.length∧∃ E F,Sit K G B0 (cutH H1 B B0) E F σ H∧forGo bd mb (items.drop i) E F=some (r,F'),⟨items.length,by simp,Nat.zero_le _,E,F1,S1',e⟩,?_⟩
 rintro i mm σ2 H2 ⟨rfl,hi2,E2,F2,S2,e2⟩
 obtain ⟨B2,s2,sn2,I2⟩:=S2.ex
 have st2:=stab S2 sn2
 by_cases hlt:i<items.length
 ·refine .inr ⟨((ok H2 B2 st2).1 i items[i] (by simp [hlt])).1,λσ' H'=>i+1≤items.length∧∃ E F,Sit K G B0 (cutH H1 B B0) E F σ' H' ∧ forGo bd mb (items.drop (i+1)) E F=some (r,F'),λσ' H' ⟨h1,h2⟩=>⟨items.length - (i+1),by omega,rfl,h1,h2⟩,λx H3 y=>?_⟩
  obtain ⟨s3,hx⟩:=((ok H2 B2 st2).1 i items[i] (by simp [hlt])).2 x H3 y
  have hx:=hx I2.bk
  rw [List.drop_eq_getElem_cons hlt,forGo] at e2
  obtain ⟨E4,e4,e2⟩:=Option.bind_eq_some_iff.mp e2
  obtain ⟨⟨o,F5⟩,e5,e2⟩:=Option.bind_eq_some_iff.mp e2
  have S3:=S2.step (Kp.same s3) (I2.fd.same s3)
  have I3:SitE K G B2 E2 F2 σ2 H3:=I2.step (Kp.same s3) (I2.fd.same s3)
  refine hg G B2 E2 F2 σ2 H3 x items[i] E4 _ I3 hx e4 λσ4 I4 fr=>?_
  refine hb G B0 (cutH H1 B B0) E4 F2 σ4 H3 _ o F5 (S3.bind s2 sn2 I4 fr) e5 ?_
  cases o with
  | nx E6=>exact λσ6 H6 S6=>⟨hlt,E6,F5,S6,e2⟩
  | ct E6=>exact λσ6 H6 S6=>⟨hlt,E6,F5,S6,e2⟩
  | bk E6=>cases e2;exact λσ6 H6 S6=>qn rfl rfl σ6 H6 S6
  | rt d=>cases e2;exact λv H6 k6 f6 h6=>q v H6 (cut_kp S1 sn k6) f6 h6
 ·have ei:i=items.length:=by omega
  subst ei
  rw [List.drop_length,forGo] at e2
  cases e2
  exact .inl ⟨(ok H2 B2 st2).2,qn rfl rfl σ2 H2 S2⟩
theorem st_for {body:List Stmt}{wi:TI}{g:TG}{tb:TS}{mi:DE->M (List PyData)}{bd:PyData->DE->Option DE}{mb:DE->M Out}(hc:X.calm=true)(hi:Ei K X tg iter wi mi)(hg:Eg K X tg g bd)(hb:Sss K X body tb mb)(hp:PassesOwn (model X.prog X.w) X.A X.env X.xe:=by exact PassesOwn.never)
  (hs:∀ x,foldedSetIterable iter X.env x=pure x:=by intro _;rfl):Ss K X (.For tg iter body [] pos) (tFor wi g tb) (mFor mi bd mb):=⟨ps_for hp hc hi.pi hg.pg hb.ps hs,for_d hi.ok hg.ok hb.ok⟩
noncomputable def TFd (K:PySem.W.Frag)(te:TE)(m:DE->M (List PyData)):Prop:=∀ (G:GF) (B:List Addr) (E:DE) (F:FS) (σ:St) (H:Hp) (Q:VK) (ds:List PyData) (F':FS),SitE K G B E F σ H->m E F=some (ds,F') ->
 (∀ a vs H',H a=none->H' a=some (.lst vs)->Kp (fpOf K G) H H'->FAt K G H' F'->DatsAre K (hid H' (a::B)) ds vs->Q (.ref a) H')->te σ H Q
structure Ef (K:PySem.W.Frag) (X:Cx) (e:Expr) (te:TE) (m:DE->M (List PyData)):Prop where
 pe:PE X e te
 ok:TFd K te m
theorem Kp.none {fp:List Addr}{H H':Hp}{b:Addr}(k:Kp fp H H')(h:H' b=none)(n:b ∉ fp):H b=none:=by
 cases q:H b with
 | none=>rfl
 | some o=>rw [k b o q n] at h;cases h
theorem hid_more {H:Hp}{B:List Addr}{p:Addr}{o:HO}(hp:H p=none):Same (hid H B) (hid (upd H p o) (p::B)):=λb u e=>by
 by_cases hb:b∈B
 ·rw [hid_in hb] at e;cases e
 ·rw [hid_out hb] at e
  have hne:=ne_of_none e hp
  rw [hid_out (by simp [hne,hb]),upd_ne hne];exact e
noncomputable def fLst (a:DE->M (List PyData)):DE->M (List PyData):=λE F=>(a E F).bind λp=>if p.1.length≤sizeLine then some (p.1,p.2) else none
theorem ef_lst {t:TA}{ms:DE->M (List PyData)}(h:Ea K X es t ms):Ef K X (.List es pos) (tLst t) (fLst ms):=⟨pe_lst h.pa,λG B E F σ H Q d F' I e q=>by
 obtain ⟨⟨x,F1⟩,e1,e⟩:=Option.bind_eq_some_iff.mp e
 split at e
 ·rename_i hl
  cases e
  refine h.ok G B E F σ H _ x F1 I e1 λvs H1 k1 f1 h1=>⟨by rw [h1.length];exact hl,λp hp=>?_⟩
  have hnf:p ∉ fpOf K G:=λz=>(bok_step I.bk k1 f1).nin hp (I.fB p z)
  exact q p vs _ (k1.none hp hnf) upd_same (k1.trans (Kp.upd hp)) (f1.same (Same.upd hp)) (h1.same (hid_more hp))
 ·cases e⟩
noncomputable def fCat (a b:DE->M PyData):DE->M (List PyData):=λE F=>(a E F).bind λp=>(b E p.2).bind λq=>match p.1,q.1 with
 | .list xs,.list ys=>if xs.length+ys.length≤sizeLine then some (xs++ys,q.2) else none
 | _,_=>none
theorem ef_cat (ha:Eb K X a ta ma)(hb:Eb K X b tb mb):Ef K X (.BinOp a .Add b pos) (tOp rCat ta tb) (fCat ma mb):=⟨pe_op op_cat ha.pe hb.pe,λG B E F σ H Q d F' I e q=>by
 obtain ⟨⟨x,F1⟩,e1,e⟩:=Option.bind_eq_some_iff.mp e
 obtain ⟨⟨y,F2⟩,e2,e⟩:=Option.bind_eq_some_iff.mp e
 refine ha.ok G B E F σ H _ x F1 I e1 λv H1 k1 f1 h1=>?_
 refine hb.ok G B E F1 σ H1 _ y F2 (I.step k1 f1) e2 λw H2 k2 f2 h2=>?_
 have h1:=h1.step k2 I.fB
 dsimp only at e
 split at e
 ·rename_i xs ys
  split at e
  ·rename_i hl
   cases e
   obtain ⟨a1,vs1,rfl,ha1,hd1⟩:=h1
   obtain ⟨a2,vs2,rfl,ha2,hd2⟩:=h2
   refine ⟨a1,a2,vs1,vs2,rfl,rfl,hid_same _ _ ha1,hid_same _ _ ha2,by rw [hd1.length,hd2.length];exact hl,λp hp=>?_⟩
   have hnf:p ∉ fpOf K G:=λz=>(bok_step I.bk (k1.trans k2) f2).nin hp (I.fB p z)
   exact q p _ _ ((k1.trans k2).none hp hnf) upd_same ((k1.trans k2).trans (Kp.upd hp)) (f2.same (Same.upd hp)) (DatsAre.append (hd2.same (hid_more hp)) (hd1.same (hid_more hp)))
  ·cases e
 ·cases e⟩
noncomputable def mOwn (i:Nat)(a:DE->M (List PyData)):DE->M Out:=λE F=>(a E F).bind λp=>if i<E.length then some (.nx (E.set i (some (.own p.1))),p.2) else none
theorem own_d {i:Nat}{mf:DE->M (List PyData)}(he:TFd K te mf):TSd K (tAsg te (gName i)) (mOwn i mf):=λG B0 H0 E F σ H D r F' S e q=>by
 obtain ⟨⟨ds,F1⟩,e1,e⟩:=Option.bind_eq_some_iff.mp e
 split at e
 ·rename_i hl
  cases e
  obtain ⟨B,s,sn,I⟩:=S.ex
  refine he G B E F σ H _ ds _ I e1 λa vs H1 hn ha k1 f1 h1=>?_
  have I1:=I.step k1 f1
  have hsl:i < σ.length:=by rw [← I.ln];exact hl
  have haB:a ∉ B:=I.bk.nin hn
  have haf:a ∉ fpOf K G:=λz=>haB (I.fB a z)
  have h0:H0 a=none:=S.kp.none hn haf
  have sm:Same (hid H B) (hid H1 (a::B)):=λb o eb=>by
   by_cases hb:b∈B
   ·rw [hid_in hb] at eb;cases eb
   ·rw [hid_out hb] at eb
    have hne:=ne_of_none eb hn
    rw [hid_out (by simp [hne,hb])]
    exact k1 b o eb λz=>hb (I.fB b z)
  refine q _ H1 ⟨⟨a::B,λb hb=>List.mem_cons_of_mem _ (s b hb),λb hb=>?_,⟨f1,λb hb=>List.mem_cons_of_mem _ (I.fB b hb),λb hb=>?_,by rw [List.length_set,List.length_set];exact I.ln,λj x ej=>?_⟩⟩,S.fB,S.kp.trans k1,λj es a' ej sj=>?_,λj k es es' a' ej ek sj sk=>?_⟩
  ·rcases List.mem_cons.mp hb with rfl | hb
   ·exact .inr h0
   ·exact sn b hb
  ·rcases List.mem_cons.mp hb with rfl | hb
   ·exact ⟨_,ha⟩
   ·exact I1.bk b hb
  ·by_cases hj:i=j
   ·subst hj
    rw [List.getElem?_set_self hl] at ej
    cases ej
    exact ⟨.ref a,by rw [List.getElem?_set_self hsl],a,vs,rfl,List.mem_cons_self,haf,ha,h1⟩
   ·rw [List.getElem?_set_ne hj] at ej
    obtain ⟨v,v1,v2⟩:=I.loc j x ej
    refine ⟨v,by rw [List.getElem?_set_ne hj];exact v1,?_⟩
    cases x with
    | dat d=>exact DatIs.same (show DatIs K (hid H B) d v from v2) sm
    | feed=>exact v2
    | fn _=>exact v2
    | own es =>
     obtain ⟨a',xs',rfl,hB',hf',ha',hd'⟩:=v2
     exact ⟨a',xs',rfl,List.mem_cons_of_mem _ hB',hf',k1 _ _ ha' hf',hd'.same sm⟩
  ·by_cases hj:i=j
   ·subst hj
    rw [List.getElem?_set_self hsl] at sj
    cases sj
    exact ⟨h0,λz=>haB (s a z)⟩
   ·rw [List.getElem?_set_ne hj] at ej sj
    exact S.own j es a' ej sj
  ·have other:∀ (j:Nat) (es:List PyData),i≠j->E[j]? = some (some (DV.own es))->σ[j]? ≠ some (some (V.ref a)):=λj es _ ej z=>by
    obtain ⟨v,v1,a',xs',rfl,hB',_⟩:=I.loc j _ ej
    rw [v1] at z;cases z
    exact haB hB'
   by_cases hj:i=j
   ·by_cases hk:i=k
    ·exact hj.symm.trans hk
    ·subst hj
     rw [List.getElem?_set_self hsl] at sj
     cases sj
     rw [List.getElem?_set_ne hk] at ek sk
     exact absurd sk (other k es' hk ek)
   ·rw [List.getElem?_set_ne hj] at ej sj
    by_cases hk:i=k
    ·subst hk
     rw [List.getElem?_set_self hsl] at sk
     cases sk
     exact absurd sj (other j es hj ej)
    ·rw [List.getElem?_set_ne hk] at ek sk
     exact S.inj j k es es' a' ej ek sj sk
 ·cases e
theorem st_own (i:Nat){x:Str}{mf:DE->M (List PyData)}(hN:X.N.Nodup)(he:Ef K X e te mf)(hi:X.N[i]? = some x:=by rfl)(hx:Loc X.env.scope x:=by first | exact Or.inl rfl | exact Or.inr rfl)(hs:swapsWith e (some (.Name x pos')) pos.line X.env=pure false:=by rfl)(hf:X.fn x=true∨X.env.scope.names.lookup x=some .local:=by first | exact .inl rfl | exact .inr rfl | assumption) :
  Ss K X (.Assign [.Name x pos'] e pos) (tAsg te (gName i)) (mOwn i mf):=⟨ps_set hN hi hx he.pe hs hf,own_d he.ok⟩
end
end L3
namespace L3
open PySem PySem.Spec PyProof.Rows L2
section
variable [Feeds]{K:PySem.W.Frag}{X:Cx}{a b c e tg iter:Expr}{es:List Expr}{st:Stmt}{sts rest:List Stmt}{ta tb te:TE}{ma mb m:DE->M PyData}{t u:TS}{mt mu:DE->M Out}{pos pos' p p2:Pos}
section
variable {G:GF}{B0 B:List Addr}{H0:Hp}{E:DE}{F:FS}{σ:St}{H:Hp}
theorem Sit.write {i:Nat}{ds ds':List PyData}{x:Addr}{vs':List V}(S:Sit K G B0 H0 E F σ H)(s:∀ b∈B0,b∈B)(sn:∀ b∈B,b∈B0∨H0 b=none)(I:SitE K G B E F σ H)(ei:E[i]? = some (some (DV.own ds)))(si:σ[i]? = some (some (V.ref x)))
  (hd:DatsAre K (hid H B) ds' vs'):Sit K G B0 H0 (E.set i (some (.own ds'))) F σ (upd H x (.lst vs')):=by
 have hl:i<E.length:=(List.getElem?_eq_some_iff.mp ei).1
 obtain ⟨v,v1,x',xs,rfl,hB,hf,hx,_⟩:=I.loc i _ ei
 rw [si] at v1;cases v1
 have e1:hid (upd H x (.lst vs')) B=hid H B:=hid_upd hB
 obtain ⟨n1,n2⟩:=S.own i ds x ei si
 refine ⟨⟨B,s,sn,⟨I.fd.congr λb hb=>upd_ne (λz=>hb.elim (λhb=>hf (z ▸ hb)) λ⟨φ,q⟩=>by rw [z,hx] at q;cases q),I.fB,λb hb=>?_,by rw [List.length_set];exact I.ln,λj y ej=>?_⟩⟩,S.fB,λb o eb nb=>?_,λj es a' ej sj=>?_,λj k es es' a' ej ek sj sk=>?_⟩
 ·by_cases h:b=x
  ·subst h;exact ⟨_,upd_same⟩
  ·rw [upd_ne h];exact I.bk b hb
 ·by_cases hj:i=j
  ·subst hj
   rw [List.getElem?_set_self hl] at ej
   cases ej
   exact ⟨.ref x,si,x,vs',rfl,hB,hf,upd_same,by rw [e1];exact hd⟩
  ·rw [List.getElem?_set_ne hj] at ej
   obtain ⟨w,w1,w2⟩:=I.loc j y ej
   refine ⟨w,w1,?_⟩
   cases y with
   | dat d=>show DatIs K (hid (upd H x (.lst vs')) B) d w;rw [e1];exact w2
   | feed=>exact w2
   | fn _=>exact w2
   | own es =>
    obtain ⟨a',xs',rfl,hB',hf',ha',hd'⟩:=w2
    have hne:a' ≠ x:=λz=>hj (S.inj i j ds es x ei ej si (z ▸ w1))
    exact ⟨a',xs',rfl,hB',hf',by rw [upd_ne hne];exact ha',by rw [e1];exact hd'⟩
 ·rw [upd_ne]
  ·exact S.kp b o eb nb
  ·intro z;subst z;rw [n1] at eb;cases eb
 ·by_cases hj:i=j
  ·subst hj
   exact S.own i ds a' ei sj
  ·rw [List.getElem?_set_ne hj] at ej
   exact S.own j es a' ej sj
 ·have back:∀ (j:Nat) (es:List PyData),(E.set i (some (.own ds')))[j]? = some (some (DV.own es))->∃ es,E[j]? = some (some (DV.own es)):=λj es ej=>by
   by_cases hj:i=j
   ·subst hj;exact ⟨ds,ei⟩
   ·rw [List.getElem?_set_ne hj] at ej;exact ⟨es,ej⟩
  obtain ⟨f1,ej'⟩:=back j es ej
  obtain ⟨f2,ek'⟩:=back k es' ek
  exact S.inj j k f1 f2 a' ej' ek' sj sk
end
noncomputable def ownOf (E:DE)(i:Nat):Option (List PyData):=match E[i]? with
 | some (some (.own ds))=>some ds
 | _=>none
theorem ownOf_some {E:DE}{i:Nat}{ds:List PyData}(h:ownOf E i=some ds):E[i]? = some (some (DV.own ds)):=by
 unfold ownOf at h
 split at h
 ·rename_i q;cases h;exact q
 ·cases h
noncomputable def mPut (i:Nat)(v k:DE->M PyData):DE->M Out:=λE F=>(v E F).bind λp=>(k E p.2).bind λq=>(intOf q.1).bind λn=>(ownOf E i).bind λds=>(ixN ds.length n).bind λj=>some (.nx (E.set i (some (.own (ds.set j p.1)))),q.2)
theorem DatsAre.set {H:Hp}:∀ {ds:List PyData} {xs:List V} {d:PyData} {v:V} (j:Nat),DatsAre K H ds xs->DatIs K H d v->DatsAre K H (ds.set j d) (xs.set j v)
 | [],xs,d,v,j,h,h'=>by simp only [DatsAre] at h;subst h;simp [DatsAre]
 | e::ds,xs,d,v,0,h,h'=>by
  simp only [DatsAre] at h
  obtain ⟨y,r,rfl,h1,h2⟩:=h
  simp only [List.set_cons_zero,DatsAre]
  exact ⟨v,r,rfl,h',h2⟩
 | e::ds,xs,d,v,j+1,h,h'=>by
  simp only [DatsAre] at h
  obtain ⟨y,r,rfl,h1,h2⟩:=h
  simp only [List.set_cons_succ,DatsAre]
  exact ⟨y,r.set j v,rfl,h1,DatsAre.set j h2 h'⟩
theorem st_put (i:Nat){x:Str}{px:Pos}(hv:Ev K X e te m)(hk:Ev K X b tb mb)(hN:X.N[i]? = some x:=by rfl)(hvis:Vis X.env.scope x:=by first | exact Or.inl rfl | exact Or.inr (Or.inl rfl) | exact Or.inr (Or.inr rfl))(hd:(x == ("__debug__":Str))=false:=by decide)(hcd:(x == ("__classdict__":Str))=false:=by decide)
  (ha:∀ v,assign (.Subscript (.Name x px) b p) X.env v=(do
   let ov ← holding [v] (eval (.Name x px) X.env)
   let iv ← holding [v,ov] (eval b X.env)
   standAt p
   holding [v,ov,iv] (setItem ov iv v)
   release [v,ov,iv] []):=by intro _;rfl)
  (hs:swapsWithSole [.Subscript (.Name x px) b p] e pos.line X.env=pure false:=by rfl) (hw:swappedStores [.Subscript (.Name x px) b p] e X.env=pure none:=by rfl)
  (h1:(assignEach [.Subscript (.Name x px) b p] X.env).map (·.2)=[assign (.Subscript (.Name x px) b p) X.env]:=by rfl) :
  Ss K X (.Assign [.Subscript (.Name x px) b p] e pos) (tAsg te (gSub (tVar i) tb rSetL)) (mPut i m mb) :=
 ⟨ps_asg hv.pe (pg_sub (pe_var hN hvis hd hcd) hk.pe set_list ha) hs hw h1,λG B0 H0 E F σ H D r F' S e q=>by
  obtain ⟨⟨d,F1⟩,e1,e⟩:=Option.bind_eq_some_iff.mp e
  obtain ⟨⟨n,F2⟩,e2,e⟩:=Option.bind_eq_some_iff.mp e
  obtain ⟨k,e3,e⟩:=Option.bind_eq_some_iff.mp e
  obtain ⟨ds,e4,e⟩:=Option.bind_eq_some_iff.mp e
  obtain ⟨j,e5,e⟩:=Option.bind_eq_some_iff.mp e
  cases e
  obtain ⟨B,s,sn,I⟩:=S.ex
  have eo:=ownOf_some e4
  refine hv.ok G B E F σ H _ d F1 I e1 λv H1 k1 f1 h1=>?_
  have I1:=I.step k1 f1
  obtain ⟨w,w1,a,xs,rfl,hB,hf,hx,hdx⟩:=I1.loc i _ eo
  refine ⟨_,w1,hk.ok G B E F1 σ H1 _ n _ I1 e2 λu H2 k2 f2 h2=>?_⟩
  have:=intOf_some e3
  simp only at this
  subst this
  simp only [DatIs] at h2
  subst h2
  have I2:=I1.step k2 f2
  have S2:=S.step (k1.trans k2) f2
  have hd2:=hdx.same (k2.hid I.fB)
  refine ⟨a,xs,k,j,rfl,rfl,k2 a _ hx hf,by rw [hd2.length];exact e5,q σ _ (S2.write s sn I2 eo w1 (DatsAre.set j hd2 (h1.same (k2.hid I.fB))))⟩⟩
noncomputable def mApp (i:Nat)(v:DE->M PyData):DE->M Out:=λE F=>(v E F).bind λp=>(ownOf E i).bind λds=>if ds.length<sizeLine then some (.nx (E.set i (some (.own (ds++[p.1])))),p.2) else none
theorem app_d {i:Nat}(hv:TEd K te m):TSd K (tDrop (tBM K "list" rAppend (tVar i) (tCons te tNil))) (mApp i m):=λG B0 H0 E F σ H D r F' S e q=>by
 obtain ⟨⟨d,F1⟩,e1,e⟩:=Option.bind_eq_some_iff.mp e
 obtain ⟨ds,e4,e⟩:=Option.bind_eq_some_iff.mp e
 split at e
 ·rename_i hl
  cases e
  obtain ⟨B,s,sn,I⟩:=S.ex
  have eo:=ownOf_some e4
  obtain ⟨w,w1,a,xs,rfl,hB,hf,hx,hdx⟩:=I.loc i _ eo
  refine ⟨_,w1,.inl ⟨rfl,xs,SqL.of hx⟩,hv G B E F σ H _ d _ I e1 λu H2 k2 f2 h2=>?_⟩
  have hd2:=hdx.same (k2.hid I.fB)
  exact ⟨a,xs,u,rfl,rfl,k2 a _ hx hf,by rw [hdx.length];exact hl,q σ _ ((S.step k2 f2).write s sn (I.step k2 f2) eo w1 (hd2.snoc h2))⟩
 ·cases e
noncomputable def ArgR (K:PySem.W.Frag)(G:GF)(B:List Addr)(H:Hp):List DV->List V->Prop
 | [],vs=>vs=[]
 | x::xs,vs=>∃ v r,vs=v::r∧(∀ ds,x ≠ .own ds)∧DVr K G B H x v∧ArgR K G B H xs r
noncomputable def spD (K:PySem.W.Frag)(n:Nat)(f:List DV->M PyData):Sp:=λvs H Q _=>∃ G B F args d F',vs.length=n∧(∀ b∈fpOf K G,b∈B)∧BOk H B∧FAt K G H F∧ArgR K G B H args vs∧f args F=some (d,F') ∧
 ∀ v H',Kp (fpOf K G) H H'->FAt K G H' F'->DatIs K (hid H' B) d v->Q v H'
noncomputable def startE (N:List Str)(args:List DV):DE:=args.map some++List.replicate (N.length - args.length) none
noncomputable def runD (N:List Str)(m:DE->M Out):List DV->M PyData:=λargs F=>(m (startE N args) F).bind λp=>match p.1 with
 | .rt d=>some (d,p.2)
 | .nx _=>some (.none,p.2)
 | _=>none
theorem ArgR.length {G:GF}{B:List Addr}{H:Hp}:∀ {args:List DV} {vs:List V},ArgR K G B H args vs->vs.length=args.length
 | [],vs,h=>by cases h;rfl
 | x::xs,vs,⟨v,r,e,_,_,h⟩=>by subst e;rw [List.length_cons,List.length_cons,h.length]
theorem ArgR.get {G:GF}{B:List Addr}{H:Hp}:∀ {args:List DV} {vs:List V} {i:Nat} {x:DV},ArgR K G B H args vs->args[i]? = some x->∃ v,vs[i]? = some v∧(∀ ds,x ≠ .own ds)∧DVr K G B H x v
 | [],vs,i,x,h,e=>by simp at e
 | y::xs,vs,i,x,⟨v,r,e1,h1,h2,h3⟩,e=>by
  subst e1
  cases i with
  | zero=>simp at e;subst e;exact ⟨v,rfl,h1,h2⟩
  | succ i=>simpa using h3.get (i:=i) (by simpa using e)
theorem start_get {N:List Str}{args:List DV}{i:Nat}{x:DV}(h:(startE N args)[i]? = some (some x)):args[i]? = some x:=by
 unfold startE at h
 by_cases hi:i<args.length
 ·rw [List.getElem?_append_left (by simpa using hi),List.getElem?_map] at h
  obtain ⟨y,e1,e2⟩:=Option.map_eq_some_iff.mp h
  cases e2;exact e1
 ·rw [List.getElem?_append_right (by simpa using hi),List.getElem?_replicate] at h
  split at h <;> simp at h
theorem sit_start {G:GF}{B:List Addr}{F:FS}{H:Hp}{N:List Str}{args:List DV}{vs:List V}(fB:∀ b∈fpOf K G,b∈B)(bk:BOk H B)(f:FAt K G H F)(h:ArgR K G B H args vs):Sit K G B H (startE N args) F (L2.start N vs) H:=by
 have noown:∀ (i:Nat) (ds:List PyData),(startE N args)[i]? ≠ some (some (DV.own ds)):=λi ds e=>by
  obtain ⟨v,_,n,_⟩:=h.get (start_get e)
  exact n ds rfl
 refine ⟨⟨B,λ_ z=>z,λb hb=>.inl hb,⟨f,fB,bk,by simp [startE,L2.start,h.length],λi x e=>?_⟩⟩,fB,Kp.refl,λi ds a e _=>absurd e (noown i ds),λi j ds es a e _ _ _=>absurd e (noown i ds)⟩
 obtain ⟨v,v1,_,v2⟩:=h.get (start_get e)
 refine ⟨v,?_,v2⟩
 have hi:i<vs.length:=(List.getElem?_eq_some_iff.mp v1).1
 unfold L2.start
 rw [List.getElem?_append_left (by simpa using hi),List.getElem?_map,v1]
 rfl
variable {P:Program}{w:World}{mg:Str->Option Value}{base:Heap}
theorem def_ok {x qual:Str}{f:Addr}{fd:FuncData}{N ps:List Str}{k:Nat}{m:DE->M Out}(Fn:Fun K x qual st f fd)(S:FnScope N ps (defScope st))
  (hbody:∀ (cdv:Value) (A:Around) (outer:List Env) (s:Shared) (H:Hp) (E:XK),Room k (A.deeper (envOfC qual (defScope st) s.heap.objs.size f cdv)) ->
   ∃ ts,Sss K (cxOf CX0 P w K mg base N qual (defScope st) f cdv A outer s H E).nox (defBody st) ts m):FnOk P w K mg base CX0 (k+1) f fd ps (spD K ps.length (runD N m)):=by
 refine Fn.ok S (λvs H Q E h=>?_) (λcdv A outer s H vs Q E hr h=>?_)
 ·obtain ⟨G,B,F,args,d,F',hl,_⟩:=h
  exact hl
 ·obtain ⟨G,B,F,args,d,F',hl,fB,bk,fa,ha,hm,q⟩:=h
  obtain ⟨ts,hts⟩:=hbody cdv A outer s H E hr
  refine ⟨ts,hts.ps,?_⟩
  obtain ⟨⟨o,F1⟩,e1,e⟩:=Option.bind_eq_some_iff.mp hm
  refine hts.ok G B H (startE N args) F (L2.start N vs) H _ o F1 (sit_start fB bk fa ha) e1 ?_
  cases o with
  | rt d'=>cases e;exact λv H' k1 f1 h1=>q v H' k1 f1 h1
  | nx E'=>cases e;exact λσ' H' S'=>q _ H' S'.kp (by obtain ⟨B,_,_,I⟩:=S'.ex;exact I.fd) DatIs.non
  | bk E'=>cases e
  | ct E'=>cases e
noncomputable def TVd (K:PySem.W.Frag)(ta:TA)(m:DE->M (List DV)):Prop:=∀ (G:GF) (B:List Addr) (E:DE) (F:FS) (σ:St) (H:Hp) (Q:List V->Hp->Prop) (ds:List DV) (F':FS),SitE K G B E F σ H->m E F=some (ds,F') ->
 (∀ vs H',Kp (fpOf K G) H H'->FAt K G H' F'->ArgR K G B H' ds vs->Q vs H')->ta σ H Q
structure Evs (K:PySem.W.Frag) (X:Cx) (es:List Expr) (ta:TA) (m:DE->M (List DV)):Prop where
 pa:PA X es ta
 ok:TVd K ta m
noncomputable def vNil:DE->M (List DV):=λ_ F=>some ([],F)
noncomputable def vD (a:DE->M PyData)(r:DE->M (List DV)):DE->M (List DV):=λE F=>(a E F).bind λp=>(r E p.2).bind λq=>some (.dat p.1::q.1,q.2)
noncomputable def vF (i:Nat)(r:DE->M (List DV)):DE->M (List DV):=λE F=>match E[i]? with
 | some (some .feed)=>(r E F).bind λq=>some (.feed::q.1,q.2)
 | _=>none
theorem av_nil:Evs K X [] tNil vNil:=⟨pa_nil,λG B E F σ H Q ds F' I e q=>by cases e;exact q [] H Kp.refl I.fd rfl⟩
theorem av_d {tl:TA}{ms:DE->M (List DV)}(ha:Ev K X e te m)(hr:Evs K X es tl ms)(hs:starEach (e::es) X.env=(false,eval e X.env)::starEach es X.env:=by rfl):Evs K X (e::es) (tCons te tl) (vD m ms) :=
 ⟨pa_cons ha.pe hr.pa hs,λG B E F σ H Q ds F' I e q=>by
  obtain ⟨⟨x,F1⟩,e1,e⟩:=Option.bind_eq_some_iff.mp e
  obtain ⟨⟨ys,F2⟩,e2,e⟩:=Option.bind_eq_some_iff.mp e
  cases e
  refine ha.ok G B E F σ H _ x F1 I e1 λv H1 k1 f1 h1=>?_
  refine hr.ok G B E F1 σ H1 _ ys _ (I.step k1 f1) e2 λvs H2 k2 f2 h2=>q _ H2 (k1.trans k2) f2 ⟨v,vs,rfl,(λ_ z=>by cases z),h1.same (k2.hid I.fB),h2⟩⟩
theorem av_f (i:Nat){x:Str}{tl:TA}{ms:DE->M (List DV)}(hr:Evs K X es tl ms)(hN:X.N[i]? = some x:=by rfl)(hv:Vis X.env.scope x:=by first | exact Or.inl rfl | exact Or.inr (Or.inl rfl) | exact Or.inr (Or.inr rfl))(hd:(x == ("__debug__":Str))=false:=by decide)
  (hcd:(x == ("__classdict__":Str))=false:=by decide) (hs:starEach (.Name x p::es) X.env=(false,eval (.Name x p) X.env)::starEach es X.env:=by rfl):Evs K X (.Name x p::es) (tCons (tVar i) tl) (vF i ms) :=
 ⟨pa_cons (pe_var hN hv hd hcd) hr.pa hs,λG B E F σ H Q ds F' I e q=>by
  unfold vF at e
  split at e
  ·rename_i hx
   obtain ⟨⟨ys,F2⟩,e2,e⟩:=Option.bind_eq_some_iff.mp e
   cases e
   obtain ⟨v,v1,v2⟩:=I.loc i _ hx
   refine ⟨v,v1,hr.ok G B E F σ H _ ys _ I e2 λvs H2 k2 f2 h2=>q _ H2 k2 f2 ⟨v,vs,rfl,(λ_ z=>by cases z),v2.step k2 I.fB,h2⟩⟩
  ·cases e⟩
noncomputable def sCall (f:List DV->M PyData)(ms:DE->M (List DV)):DE->M PyData:=λE F=>(ms E F).bind λp=>f p.1 p.2
theorem call_d {n:Nat}{f:List DV->M PyData}{ta:TA}{ms:DE->M (List DV)}(h:TVd K ta ms)(hn:∀ E F args F',ms E F=some (args,F')->args.length=n):TEd K (tCall (spD K n f) [] E0 ta) (sCall f ms):=λG B E F σ H Q d F' I e q=>by
 obtain ⟨⟨args,F1⟩,e1,e⟩:=Option.bind_eq_some_iff.mp e
 refine h G B E F σ H _ args F1 I e1 λvs H1 k1 f1 h1=>?_
 rw [List.append_nil]
 exact ⟨G,B,F1,args,d,F',by rw [h1.length];exact hn _ _ _ _ e1,I.fB,bok_step I.bk k1 f1,f1,h1,e,λv H2 k2 f2 h2=>q v H2 (k1.trans k2) f2 h2⟩
theorem ln_nil:∀ E F args F',vNil E F=some (args,F')->args.length=0:=λE F args F' e=>by cases e;rfl
theorem ln_d {n:Nat}{ms:DE->M (List DV)}(h:∀ E F args F',ms E F=some (args,F')->args.length=n):∀ E F args F',vD m ms E F=some (args,F')->args.length=n+1:=λE F args F' e=>by
 obtain ⟨⟨x,F1⟩,e1,e⟩:=Option.bind_eq_some_iff.mp e
 obtain ⟨⟨ys,F2⟩,e2,e⟩:=Option.bind_eq_some_iff.mp e
 cases e
 rw [List.length_cons,h _ _ _ _ e2]
theorem ln_f {n i:Nat}{ms:DE->M (List DV)}(h:∀ E F args F',ms E F=some (args,F')->args.length=n):∀ E F args F',vF i ms E F=some (args,F')->args.length=n+1:=λE F args F' e=>by
 unfold vF at e
 split at e
 ·obtain ⟨⟨ys,F2⟩,e2,e⟩:=Option.bind_eq_some_iff.mp e
  cases e
  rw [List.length_cons,h _ _ _ _ e2]
 ·cases e
theorem ev_call {x:Str}{k n:Nat}{ps:List Str}{f:List DV->M PyData}{tl:TA}{ms:DE->M (List DV)}(C:Callee X.prog X.w X.K X.mg X.base x k ps (spD K n f))(hr:Room k X.A)(ha:Evs K X (e::es) tl ms)(hn:∀ E F args F',ms E F=some (args,F')->args.length=n)(hg:Gl X x:=by rfl)
  (hdb:(x == ("__debug__":Str))=false:=by decide) (he:starEach (e::es) X.env=(false,eval e X.env)::starEach es X.env:=by rfl) (hpl:(backTo pos (starEach es X.env)).any (·.1)=false:=by rfl) :
  Ev K X (.Call (.Name x p) (e::es) [] pos) (tCall (spD K n f) [] E0 tl) (sCall f ms):=⟨pe_callee C hr hg ha.pa hdb he hpl,call_d ha.ok hn⟩
end
end L3
namespace L3
open PySem PySem.Spec PyProof.Rows L2
section
variable {H:Hp}{d c:Addr}{a l t:Int}
end
structure FdS where
 ns:List Int
 a:Int
 l:Int
 t:Int
class Fam where
 At:Addr->Addr->Hp->FdS->Prop
 some1:∀ {d c H F},At d c H F->∃ o,H d=some o∧NoT o
 some2:∀ {d c H F},At d c H F->∃ o,H c=some o∧NoT o
 congr:∀ {d c H H' F},At d c H F->H' d=H d->H' c=H c->At d c H' F
 lam:List Str
 drawF:Int->FdS->Option (Int×FdS)
 draw_some:∀ {m:Int} {F:FdS},0<m->m<1073741824->F.t<199999->∃ r F',drawF m F=some (r,F')∧0≤r∧r<m∧F'.t=F.t+1
noncomputable instance fdI [Fam]:Feeds where
 S:=FdS
 At:=Fam.At
 some1:=Fam.some1
 some2:=Fam.some2
 congr:=Fam.congr
 lam:=Fam.lam
noncomputable def FdS.cell (F:FdS):Int:=if F.ns=[] then 11 else (F.ns[(F.a % (F.ns.length:Int)).toNat]?).getD 0
noncomputable def drawS [Fam]:List DV->M PyData
 | [.feed,.dat (.int m)]=>λF=>(Fam.drawF m F).bind λp=>some (.int p.1,p.2)
 | _=>λ_=>none
theorem mod_lt {x m:Int}(h:0<m):0≤x % m∧x % m<m:=⟨Int.emod_nonneg _ (by omega),Int.emod_lt_of_pos _ h⟩
theorem cell_at {F:FdS}(h0:¬ F.ns=[]):atI (F.ns.map V.int) (F.a % ((F.ns.map V.int).length:Int))=some (.int F.cell):=by
 have hp:0<F.ns.length:=List.length_pos_iff.mpr h0
 rw [List.length_map]
 obtain ⟨q1,q2⟩:=mod_lt (x:=F.a) (m:=(F.ns.length:Int)) (by omega)
 obtain ⟨j,hj⟩:∃ j:Nat,F.a % (F.ns.length:Int)=j:=⟨(F.a % (F.ns.length:Int)).toNat,by omega⟩
 have hjl:j<F.ns.length:=by omega
 unfold FdS.cell
 rw [if_neg h0,hj]
 refine atI_nat ?_
 rw [List.getElem?_map]
 simp [hjl]
noncomputable def FdS.cellL (F:FdS):Int:=if F.ns=[] then 0 else (F.ns[(F.a % (F.ns.length:Int)).toNat]?).getD 0
noncomputable def FdS.fst (F:FdS):Int:=(F.cellL % 1000003+47 * F.a * F.a+31 * F.a+907) * 40009 % 999961
noncomputable def FdS.mixL (F:FdS):Int:=((F.fst * F.fst+38317 * F.a+101) % 2097143) * 48271 % 2147483629 / 7
noncomputable def drawL (m:Int)(F:FdS):Option (Int×FdS):=if 0<m∧m<1073741824∧F.t<199999 then
  some (if 0<F.l then (F.l % m,⟨F.ns,F.a,F.l / m,F.t+1⟩)
   else if 10 ^ 18≤F.cellL∧F.a<F.ns.length then (F.cellL % m,⟨F.ns,F.a+1,F.cellL / m,F.t+1⟩)
   else (F.mixL % m,⟨F.ns,F.a+1,F.l,F.t+1⟩))
 else none
theorem drawL_some {m:Int}{F:FdS}(h0:0<m)(h1:m<1073741824)(h2:F.t<199999):∃ r F',drawL m F=some (r,F')∧0≤r∧r<m∧F'.t=F.t+1:=by
 have b:∀ x:Int,0≤x % m∧x % m<m:=λx=>⟨Int.emod_nonneg _ (by omega),Int.emod_lt_of_pos _ h0⟩
 unfold drawL
 rw [if_pos ⟨h0,h1,h2⟩]
 by_cases hl:0<F.l
 ·rw [if_pos hl];exact ⟨_,_,rfl,(b _).1,(b _).2,rfl⟩
 ·rw [if_neg hl]
  by_cases hc:10 ^ 18≤F.cellL∧F.a<F.ns.length
  ·rw [if_pos hc];exact ⟨_,_,rfl,(b _).1,(b _).2,rfl⟩
  ·rw [if_neg hc];exact ⟨_,_,rfl,(b _).1,(b _).2,rfl⟩
theorem cellL_at {F:FdS}(h0:¬ F.ns=[]):atI (F.ns.map V.int) (F.a % ((F.ns.map V.int).length:Int))=some (.int F.cellL):=by
 have e:F.cellL=F.cell:=by unfold FdS.cellL FdS.cell;rw [if_neg h0,if_neg h0]
 rw [e]
 exact cell_at h0
@[reducible] noncomputable def famL (l:List Str):Fam where
 At:=λd c H F=>H d=some (.lst [.ref c,.int F.a,.int F.l])∧H c=some (.lst (F.ns.map V.int))∧F.ns.length≤63∧0≤F.a∧F.a≤F.t∧d≠c
 some1:=λh=>⟨_,h.1,⟨λ_ z=>(by cases z),λ_ z=>(by cases z)⟩⟩
 some2:=λh=>⟨_,h.2.1,⟨λ_ z=>(by cases z),λ_ z=>(by cases z)⟩⟩
 lam:=l
 congr:=λh e1 e2=>⟨e1.trans h.1,e2.trans h.2.1,h.2.2⟩
 drawF:=drawL
 draw_some:=drawL_some
noncomputable def newF (ns:List Int):FdS:=⟨ns,0,0,0⟩
end L3
namespace L3
open PySem PySem.Spec PyProof.Rows L2
noncomputable def cC:Const->Option PyData
 | .int i=>some (.int i)
 | .bool b=>some (.bool b)
 | .none=>some .none
 | .str x=>some (.str x)
 | _=>none
noncomputable def cI:Expr->Option Int
 | .Constant c _ _=>match c with
  | .int i=>some i
  | _=>none
 | _=>none
noncomputable def cU:UnaryOp->Bool
 | .USub=>true
 | _=>false
noncomputable def cP:Operator->Bool
 | .Pow=>true
 | _=>false
mutual
noncomputable def constD:Expr->Option PyData
 | .Constant c _ _=>cC c
 | .UnaryOp o e _=>if cU o=true then (cI e).map λi=>.int (-i) else none
 | .BinOp a o b _=>if cP o=true then (cI a).bind λi=>(cI b).bind λj=>if CPow i j then some (.int (i ^ j.toNat)) else none else none
 | .Tuple es _ _=>(constDs es).bind λds=>if ds.length≤10000 then some (.tuple ds) else none
 | .List es _=>(constDs es).bind λds=>if ds.length≤10000 then some (.list ds) else none
 | _=>none
noncomputable def constDs:List Expr->Option (List PyData)
 | []=>some []
 | e::es=>(constD e).bind λd=>(constDs es).bind λds=>some (d::ds)
end
mutual
noncomputable def constT:PyData->TE
 | .int i=>tC (.int i)
 | .bool b=>tC (.bl b)
 | .none=>tC .non
 | .str x=>tC (.str x)
 | .tuple ds=>tTup (constTs ds)
 | .list ds=>tLst (constTs ds)
 | .dict _=>λ_ _ _=>False
noncomputable def constTs:List PyData->TA
 | []=>tNil
 | d::ds=>tCons (constT d) (constTs ds)
end
theorem cI_some {e:Expr}{i:Int}(h:cI e=some i):∃ k p,e = .Constant (.int i) k p:=by
 unfold cI at h
 split at h
 ·split at h
  ·cases h;exact ⟨_,_,rfl⟩
  ·cases h
 ·cases h
theorem star_const {e:Expr}{es:List Expr}{env:Env}{d:PyData}(h:constD e=some d):starEach (e::es) env=(false,eval e env)::starEach es env:=by
 unfold constD at h
 split at h
 ·rfl
 ·rfl
 ·rfl
 ·rfl
 ·rfl
 ·cases h
section
variable [Feeds]{K:PySem.W.Frag}{X:Cx}
theorem const_all:∀ n:Nat,(∀ (e:Expr) (d:PyData),sizeOf e<n->constD e=some d->Ev K X e (constT d) (sC d))∧(∀ (es:List Expr) (ds:List PyData),sizeOf es<n->constDs es=some ds->Ea K X es (constTs ds) (λ_ F=>some (ds,F))):=by
 intro n
 induction n with
 | zero=>exact ⟨λ_ _ h=>absurd h (Nat.not_lt_zero _),λ_ _ h=>absurd h (Nat.not_lt_zero _)⟩
 | succ n ih =>
  refine ⟨λe d hn h=>?_,λes ds hn h=>?_⟩
  ·unfold constD at h
   split at h
   ·unfold cC at h
    split at h
    ·cases h;simp only [constT];exact ev_int
    ·cases h;simp only [constT];exact ev_bl
    ·cases h;simp only [constT];exact ev_non
    ·cases h;simp only [constT];exact ev_str
    ·cases h
   ·rename_i o e1 p1
    split at h
    ·rename_i ho
     obtain ⟨i,e2,h2⟩:=Option.map_eq_some_iff.mp h
     clear h
     obtain ⟨k,p,rfl⟩:=cI_some e2
     have:o = .USub:=by cases o <;> first | rfl | (exact absurd ho (by decide))
     subst this h2
     simp only [constT]
     have hp:PE X (.UnaryOp .USub (.Constant (.int i) k p) p1) (tUn (rU λi=>.int (-i)) (tC (.int i))):=pe_un un_neg pe_int
     exact ⟨λpins s σ H Q I h=>hp pins s σ H Q I ⟨i,rfl,h⟩,λG B E F σ H Q d F' I e q=>by cases e;exact q _ H Kp.refl I.fd DatIs.int⟩
    ·cases h
   ·rename_i a o b p1
    split at h
    ·rename_i ho
     obtain ⟨i,e2,h2⟩:=Option.bind_eq_some_iff.mp h
     clear h
     obtain ⟨j,e3,h⟩:=Option.bind_eq_some_iff.mp h2
     clear h2
     obtain ⟨k,p,rfl⟩:=cI_some e2
     obtain ⟨k',p',rfl⟩:=cI_some e3
     have:o = .Pow:=by cases o <;> first | rfl | (exact absurd ho (by decide))
     subst this
     split at h
     ·rename_i hc
      cases h
      simp only [constT]
      have hp:PE X (.BinOp (.Constant (.int i) k p) .Pow (.Constant (.int j) k' p') p1) (tOp (rI CPow λi j=>.int (i ^ j.toNat)) (tC (.int i)) (tC (.int j))):=pe_op op_pow pe_int pe_int
      exact ⟨λpins s σ H Q I h=>hp pins s σ H Q I ⟨i,j,rfl,rfl,hc,h⟩,λG B E F σ H Q d F' I e q=>by cases e;exact q _ H Kp.refl I.fd DatIs.int⟩
     ·cases h
    ·cases h
   ·rename_i es k p
    obtain ⟨ds,e1,h⟩:=Option.bind_eq_some_iff.mp h
    split at h
    ·rename_i hl
     cases h;simp only [constT]
     have hh:=ih.2 es ds (by simp at hn;omega) e1
     exact ⟨pe_tup hh.pa,λG B E F σ H Q d F' I e q=>by
      cases e
      refine hh.ok G B E F σ H _ ds _ I rfl λvs H1 k1 f1 h1=>⟨?_,λp hp=>q _ _ (k1.trans (Kp.upd hp)) (f1.same (Same.upd hp)) (new_tup (bok_step I.bk k1 f1) hp h1)⟩
      rw [h1.length]
      exact Nat.le_trans hl (by rw [sizeLine_eq];decide)⟩
    ·cases h
   ·rename_i es p
    obtain ⟨ds,e1,h⟩:=Option.bind_eq_some_iff.mp h
    split at h
    ·rename_i hl
     cases h;simp only [constT]
     have hh:=ih.2 es ds (by simp at hn;omega) e1
     exact ⟨pe_lst hh.pa,λG B E F σ H Q d F' I e q=>by
      cases e
      refine hh.ok G B E F σ H _ ds _ I rfl λvs H1 k1 f1 h1=>⟨?_,λp hp=>q _ _ (k1.trans (Kp.upd hp)) (f1.same (Same.upd hp)) (new_lst (bok_step I.bk k1 f1) hp h1)⟩
      rw [h1.length]
      exact Nat.le_trans hl (by rw [sizeLine_eq];decide)⟩
    ·cases h
   ·cases h
  ·cases es with
   | nil=>simp only [constDs] at h;cases h;simp only [constTs];exact ea_nil
   | cons e es =>
    simp only [constDs] at h
    obtain ⟨d,e1,h⟩:=Option.bind_eq_some_iff.mp h
    obtain ⟨ds',e2,h⟩:=Option.bind_eq_some_iff.mp h
    cases h
    simp only [constTs]
    exact ea_cons (ih.1 e d (by simp at hn;omega) e1) (ih.2 es ds' (by simp at hn;omega) e2) (star_const e1)
theorem const_ev (e:Expr)(d:PyData)(h:constD e=some d):Ev K X e (constT d) (sC d):=(const_all (sizeOf e+1)).1 e d (Nat.lt_succ_self _) h
theorem ev_k (d:PyData){e:Expr}(h:constD e=some d):Ev K X e (constT d) (sC d):=const_ev e d h
end
end L3
namespace L3
open PySem
theorem bt_len:bootBuiltins "len" = some (.builtin "len"):=by decide +kernel
theorem bt_sum:bootBuiltins "sum" = some (.builtin "sum"):=by decide +kernel
theorem bt_min:bootBuiltins "min" = some (.builtin "min"):=by decide +kernel
theorem bt_abs:bootBuiltins "abs" = some (.builtin "abs"):=by decide +kernel
theorem bt_repr:bootBuiltins "repr" = some (.builtin "repr"):=by decide +kernel
theorem bt_max:bootBuiltins "max" = some (.builtin "max"):=by decide +kernel
theorem bt_tuple:bootBuiltins "tuple" = some (.type "tuple"):=by decide +kernel
theorem bt_list:bootBuiltins "list" = some (.type "list"):=by decide +kernel
theorem bt_int:bootBuiltins "int" = some (.type "int"):=by decide +kernel
theorem bt_bool:bootBuiltins "bool" = some (.type "bool"):=by decide +kernel
end L3
namespace L3
open PySem PySem.Spec PyProof.Rows L2
section
variable [Feeds]{K:PySem.W.Frag}{X:Cx}{a b c e tg iter:Expr}{es:List Expr}{ta tb tc te:TE}{ma mb mc m:DE->M PyData}{pos pos' p p2:Pos}
noncomputable def sCh (f g:PyData->PyData->Option PyData)(a b c:DE->M PyData):DE->M PyData:=λE F=>(a E F).bind λp=>(b E p.2).bind λq=>(f p.1 q.1).bind λz=>(boolOf z).bind λt=>if t then (c E q.2).bind λr=>(g q.1 r.1).bind λy=>some (y,r.2) else some (.bool false,q.2)
theorem chain_d {f g:PyData->PyData->Option PyData}(ha:TEs K ta ma)(hb:TEs K tb mb)(hc:TEs K tc mc):TEd K (tChain (rD2 K f) (rD2 K g) ta tb tc) (sCh f g ma mb mc):=λG B E F σ H Q d F' I e q=>by
 obtain ⟨⟨x,F1⟩,e1,e⟩:=Option.bind_eq_some_iff.mp e
 obtain ⟨⟨y,F2⟩,e2,e⟩:=Option.bind_eq_some_iff.mp e
 obtain ⟨z,e3,e⟩:=Option.bind_eq_some_iff.mp e
 obtain ⟨t,e4,eL⟩:=Option.bind_eq_some_iff.mp e
 refine ha G B E F σ H _ x F1 I e1 λv H1 k1 f1 h1=>?_
 refine hb G B E F1 σ H1 _ y F2 (I.step k1 f1) e2 λw H2 k2 f2 h2=>⟨fpOf K G,B,x,y,_,bok_step I.bk (k1.trans k2) f2,h1.step k2 I.fB,h2,e3,λu H3 s hu=>?_⟩
 have:=boolOf_some e4
 subst this
 simp only [DatIs] at hu
 refine ⟨t,hu,?_⟩
 have k3:=(k1.trans k2).trans (Kp.same s)
 cases t with
 | false =>
  rw [if_neg (by decide)] at eL ⊢
  cases eL
  exact q _ H3 k3 (f2.same s) DatIs.bl
 | true =>
  rw [if_pos rfl] at eL ⊢
  obtain ⟨⟨r,F3⟩,e5,eM⟩:=Option.bind_eq_some_iff.mp eL
  obtain ⟨z2,e6,eN⟩:=Option.bind_eq_some_iff.mp eM
  cases eN
  refine hc G B E F2 σ H3 _ r F3 (I.step k3 (f2.same s)) e5 λw' H4 k4 f4 h4=>⟨fpOf K G,B,y,r,_,bok_step I.bk (k3.trans k4) f4,(h2.step (Kp.same s) I.fB).step k4 I.fB,h4,e6,λu5 H5 s5 hu5=>q u5 H5 ((k3.trans k4).trans (Kp.same s5)) (f4.same s5) hu5⟩
theorem et_chain {op op':CmpOp}{f g:PyData->PyData->Option PyData}(ho:OpR X (compareOp op) (rD2 K f))(ho':OpR X (compareOp op') (rD2 K g))(ha:Eb K X a ta ma)(hb:Eb K X b tb mb)(hc:Eb K X c tc mc)
  (hm:lastMarks [op,op'] [b,c]=false:=by with_unfolding_all rfl):Et K X (.Compare a [op,op'] [b,c] pos) (tTest (tChain (rD2 K f) (rD2 K g) ta tb tc)) (uB (sCh f g ma mb mc)) :=
 ⟨pt_chain ho ho' ha.pe hb.pe hc.pe hm,λG B E F σ H Q d F' I e q=>by
  obtain ⟨⟨x,F1⟩,e1,e⟩:=Option.bind_eq_some_iff.mp e
  obtain ⟨t,e2,e⟩:=Option.bind_eq_some_iff.mp e
  cases e
  refine chain_d ha.ok hb.ok hc.ok G B E F σ H _ x F1 I e1 λv H1 k1 f1 h1=>?_
  have:=boolOf_some e2
  simp only at this
  subst this
  simp only [DatIs] at h1
  exact ⟨_,h1,q H1 k1 f1⟩⟩
theorem st_app (i:Nat){x:Str}{px ap cp:Pos}(hK:X.K=K)(hv:Ev K X e te m)(hN:X.N[i]? = some x:=by rfl)(hvis:Vis X.env.scope x:=by first | exact Or.inl rfl | exact Or.inr (Or.inl rfl) | exact Or.inr (Or.inr rfl))(hd:(x == ("__debug__":Str))=false:=by decide)(hcd:(x == ("__classdict__":Str))=false:=by decide)
  (hbase:attributeBase (.Name x px) "append" X.env (eval (.Name x px) X.env)=eval (.Name x px) X.env:=by rfl)
  (hfew:((backTo cp (starEach [e] X.env)).all (λx=>!x.1) && (backToKw cp (keywordEach [] X.env)).all (λx=>x.1.isSome)
   && decide ([e].length+([]:List Keyword).length+(if ([]:List Keyword).isEmpty then 0 else 1)<30))=true:=by rfl)
  (hline:(ap.endLine == cp.line)=true:=by rfl) (hst:starEach [e] X.env=(false,eval e X.env)::starEach [] X.env:=by rfl) (hplain:(backTo cp (starEach [] X.env)).any (·.1)=false:=by rfl)
  (hs:swapsWith (.Call (.Attribute (.Name x px) "append" ap) [e] [] cp) none pos.line X.env=pure false:=by rfl) :
  Ss K X (.Expr (.Call (.Attribute (.Name x px) "append" ap) [e] [] cp) pos) (tDrop (tBM K "list" rAppend (tVar i) (tCons te tNil))) (mApp i m):=by
 subst hK
 exact ⟨ps_expr (pe_bm PySem.F.plainAttrs_list PySem.F.slot_list_append PySem.F.type_list_append mt_append (pe_var hN hvis hd hcd) (pa_cons hv.pe pa_nil hst) hbase hfew hline hst hplain) hs,app_d hv.ok⟩
end
end L3
namespace L3
open PySem PySem.Spec PyProof.Rows L2
section
variable [Feeds]{K:PySem.W.Frag}{X:Cx}{a b c e tg iter:Expr}{es:List Expr}{ta tb tc te:TE}{ma mb mc m:DE->M PyData}{pos pos' p p2:Pos}{P:Program}{w:World}{mg:Str->Option Value}{base:Heap}
noncomputable def GD (K:PySem.W.Frag)(mg:Str->Option Value)(x:Str)(d:PyData):Prop:=∃ a,mg x=some (.ref a)∧∀ H,DatIs K H d (.ref a)
theorem ev_g {x:Str}{d:PyData}(h:GD K X.mg x d)(hg:Gl X x:=by rfl)(hd:(x == ("__debug__":Str))=false:=by decide):Ev K X (.Name x p) (tC (.ref h.choose)) (sC d) :=
 ⟨pe_glob hg h.choose_spec.1 rfl hd,λG B E F σ H Q d F' I e q=>by
  cases e
  exact q _ H Kp.refl I.fd (h.choose_spec.2 _)⟩
end
end L3
namespace L3
open PySem PySem.Spec PyProof.Rows L2
section
variable {prog:Program}{w:World}{A:Around}{E:Value->Shared->Prop}{s:Shared}
theorem nextOf_tuple_item {it l:Addr}{i:Nat}{items}{x:Value}{Q:Value->Shared->Prop}(hit:s.heap.IsTupleIter it l i)
  (hl:s.heap.IsTuple l items) (hx:items[i]? = some x)
  (hQ:∀ h',h'.IsTupleIter it l (i+1)->Heap.SameBut it s.heap h'->Q x { s with heap:=h' }) :
  wpAny (model prog w) A (Builtin.SmallTypes.nextOf (.ref it)) Q E s:=by
 obtain ⟨o,ho,hc,hd⟩:=id hit
 obtain ⟨ol,hol,_,nl,hdl⟩:=hl
 unfold Builtin.SmallTypes.nextOf
 refine wpAny_bind (wpAny_callSpecial?_slot (name:=Str.ofString "__next__") hit.typeIs PySem.F.slot_tuple_iterator_next
  (wpAny_call_entry PySem.F.slot_tuple_iterator_next hit.typeIs PySem.F.entry_tuple_iterator_next ?_ (PySem.F.args_tuple_iterator_next_1 _)))
 show wpAny _ _ (field (.ref it) 0 >>= _) _ _ s
 refine wpAny_bind (wpAny_field ho hd (x:=.ref l) rfl ?_)
 show wpAny _ _ (if (Value.ref l == Value.none)=true then _ else _) _ _ s
 rw [if_neg (show ¬ ((Value.ref l == Value.none)=true) from Bool.false_ne_true)]
 show wpAny _ _ (field (.ref it) 1 >>= _) _ _ s
 refine wpAny_bind (wpAny_field ho hd (x:=.int i 0) rfl ?_)
 show wpAny _ _ (seqItems? (.ref l) >>= _) _ _ s
 refine wpAny_bind (wpAny_seqItems hol hdl ?_)
 simp only [Int.toNat_natCast,hx]
 refine wpAny_bind (wpAny_setField ho hd (by simp) (wpAny_pure ⟨x,rfl,wpAny_pure (hQ _ ?_ (Heap.SameBut.update ..))⟩))
 exact ⟨_,Heap.get?_update_self _ ho (Obj.isFreed_of_fields (Obj.data_mapFields hd _)),(Obj.cls_mapFields ..).trans hc,by
  rw [Obj.data_mapFields hd];simp [rawInt]⟩
theorem nextOf_tuple_end {it l:Addr}{i:Nat}{items}{Q:Value->Shared->Prop}(hh:A.handled=none)
  (hit:s.heap.IsTupleIter it l i) (hl:s.heap.IsTuple l items) (hx:items[i]? = none)
  (hE:∀ h' e,Heap.ExtBut it s.heap h'->(∃ o,h'.get? e=some o∧o.cls = .type "StopIteration")->E (.ref e) { s with heap:=h' }) :
  wpAny (model prog w) A (Builtin.SmallTypes.nextOf (.ref it)) Q E s:=by
 obtain ⟨o,ho,hc,hd⟩:=id hit
 obtain ⟨ol,hol,_,nl,hdl⟩:=hl
 unfold Builtin.SmallTypes.nextOf
 refine wpAny_bind (wpAny_callSpecial?_slot (name:=Str.ofString "__next__") hit.typeIs PySem.F.slot_tuple_iterator_next
  (wpAny_call_entry PySem.F.slot_tuple_iterator_next hit.typeIs PySem.F.entry_tuple_iterator_next ?_ (PySem.F.args_tuple_iterator_next_1 _)))
 show wpAny _ _ (field (.ref it) 0 >>= _) _ _ s
 refine wpAny_bind (wpAny_field ho hd (x:=.ref l) rfl ?_)
 show wpAny _ _ (if (Value.ref l == Value.none)=true then _ else _) _ _ s
 rw [if_neg (show ¬ ((Value.ref l == Value.none)=true) from Bool.false_ne_true)]
 show wpAny _ _ (field (.ref it) 1 >>= _) _ _ s
 refine wpAny_bind (wpAny_field ho hd (x:=.int i 0) rfl ?_)
 show wpAny _ _ (seqItems? (.ref l) >>= _) _ _ s
 refine wpAny_bind (wpAny_seqItems hol hdl ?_)
 simp only [Int.toNat_natCast,hx]
 refine wpAny_bind (wpAny_rule (wpAny_bind (wpAny_setField ho hd (by simp) ?_)))
 show wpAny _ _ (newExc (.type "StopIteration") [] >>= _) _ _ _
 refine wpAny_bind ?_
 simp only [newExc,newTuple]
 refine wpAny_bind (wpAny_newObj_type ?_ (by size_fits))
 refine wpAny_bind (m:=firstArgMember _ _) (wpAny_of_eq (a:=Value.none) (by first | rfl | (simp only [firstArgMember];rfl)) ?_)
 refine wpAny_newObj_type ?_ (by size_fits)
 simp only [raiseNew]
 refine wpAny_bind (wpAny_handled ?_)
 first | rw [show A.in1.handled=none from hh] | rw [hh]
 refine wpAny_bind (wpAny_pure (wpAny_throw ?_))
 exact hE _ _ (((Heap.SameBut.update ..).extBut.push _).push _) ⟨_,Heap.get?_push_size _ rfl,rfl⟩
end
noncomputable def ItSt (b:Bool)(h:Heap)(it l:Addr)(i:Nat):Prop:=if b then h.IsListIter it l i else h.IsTupleIter it l i
noncomputable def SqSt (b:Bool)(h:Heap)(l:Addr)(items:Array Value):Prop:=if b then h.IsList l items else h.IsTuple l items
theorem ItSt.at {b:Bool}{h h':Heap}{it l:Addr}{i:Nat}(x:ItSt b h it l i)(k:∀ o,h.get? it=some o->h'.get? it=some o):ItSt b h' it l i:=by
 cases b
 ·exact Heap.IsTupleIter.at (show h.IsTupleIter it l i from x) k
 ·exact Heap.IsListIter.at (show h.IsListIter it l i from x) k
theorem SqSt.at {b:Bool}{h h':Heap}{l:Addr}{items:Array Value}(x:SqSt b h l items)(k:∀ o,h.get? l=some o->h'.get? l=some o):SqSt b h' l items:=by
 cases b
 ·obtain ⟨o,ho,r⟩:=(show h.IsTuple l items from x)
  exact ⟨o,k o ho,r⟩
 ·exact Heap.IsList.at (show h.IsList l items from x) k
theorem ItSt.obj {b:Bool}{h:Heap}{it l:Addr}{i:Nat}(x:ItSt b h it l i):∃ o,h.get? it=some o∧∀ v,o.data ≠ .cell v:=by
 cases b
 ·obtain ⟨o,e,c,d⟩:=(show h.IsTupleIter it l i from x)
  exact ⟨o,e,λv z=>by rw [d] at z;cases z⟩
 ·obtain ⟨o,e,c,d⟩:=(show h.IsListIter it l i from x)
  exact ⟨o,e,λv z=>by rw [d] at z;cases z⟩
theorem drawsSeq {prog:Program}{w:World}{A:Around}(b:Bool)(hh:A.handled=none)(it l:Addr)(hne:l≠it)(items:Array Value) :
  Draws prog w A it [it,l] items.size (λi v=>items[i]? = some v) (λi h=>ItSt b h it l i∧SqSt b h l items) where
 live:=λ_ _ st=>let ⟨o,ho,_⟩:=st.1.obj;⟨o,ho⟩
 frame:=λ_ _ _ st hk=>⟨st.1.at λo e=>hk it (by simp) o e,st.2.at λo e=>hk l (by simp) o e⟩
 item:=λi s Q E hi st hQ=>by
  cases b
  ·refine nextOf_tuple_item (show s.heap.IsTupleIter it l i from st.1) (show s.heap.IsTuple l items from st.2) (x:=items[i]) (by simp [hi]) λh' hit' hs'=>?_
   exact hQ _ h' s.toks (by simp [hi]) ⟨hit',st.2.at λo e=>hs'.extBut l o hne e⟩ hs'
  ·refine wpAny_nextOf_list_item (show s.heap.IsListIter it l i from st.1) (show s.heap.IsList l items from st.2) (x:=items[i]) (by simp [hi]) λh' hit' hs'=>?_
   exact hQ _ h' s.toks (by simp [hi]) ⟨hit',st.2.at λo e=>hs'.extBut l o hne e⟩ hs'
 done:=λs Q E st hE=>by
  cases b
  ·exact nextOf_tuple_end hh (show s.heap.IsTupleIter it l items.size from st.1) (show s.heap.IsTuple l items from st.2) (by simp) hE
  ·exact wpAny_nextOf_list_end hh (show s.heap.IsListIter it l items.size from st.1) (show s.heap.IsList l items from st.2) (by simp) hE
open AutoSeq1 (wpAny_loadPart') in
theorem meets_enumerate_newT (l:Addr)(items:Array Value)(n:Nat)(dct:Option Addr)(sl:Array (Option Value)) :
  Meets (Builtin.«enumerate.__new__» ⟨[.type "enumerate",.ref l],[]⟩) (λ_ R s=>s.heap.get? l=some { cls:=.type "tuple",dict:=dct,data:=.seq items n,slots:=sl } ∧
   R (.ok (.ret (.ref (s.heap.push { cls:=.type "tuple_iterator",data:=.fields #[.ref l,.int 0 0] }).objs.size)))
    { s with heap:=(s.heap.push { cls:=.type "tuple_iterator",data:=.fields #[.ref l,.int 0 0] }).push { cls:=.type "enumerate",data:=.fields #[.none,.bool false,.ref s.heap.objs.size,rawInt 0,.none,.none] } }) :=
 .of_wp λprog w A R s h=>by
  obtain ⟨hp,g,d,tk,os⟩:=s;obtain ⟨hl,h⟩:=h
  have hsub:=sub_enumerate
  have hL:Heap.IsTuple (Shared.heap ⟨hp,g,d,tk,os⟩) l items:=⟨_,hl,rfl,n,rfl⟩
  wp_walk using wpAny_loadPart' hl
  refine wpAny_stack_any λst=>wpAny_pure ?_
  split
  ·rename_i c _ _ _ _ _
   cases (c == Value.type "enumerate")
   ·wp_walk using wpAny_loadPart' hl,wpAny_pyIter_tuple hL
    exact ⟨_,rfl,h⟩
   ·wp_walk using wpAny_loadPart' hl,wpAny_pyIter_tuple hL
    exact ⟨_,rfl,h⟩
  ·wp_walk using wpAny_loadPart' hl,wpAny_pyIter_tuple hL
   exact ⟨_,rfl,h⟩
section
variable {prog:Program}{w:World}{A:Around}{E:Value->Shared->Prop}{s:Shared}
theorem call_enumerate_tuple {l:Addr}{items:Array Value}{Q:Value->Shared->Prop}(hL:s.heap.IsTuple l items)
  (h:∀ h',IsEnum h' (s.heap.objs.size+1) s.heap.objs.size 0 .none->h'.IsTupleIter s.heap.objs.size l 0->h'.objs.size=s.heap.objs.size+2 ->
   (∀ b o,s.heap.get? b=some o->h'.get? b=some o)->Q (.ref (s.heap.objs.size+1)) { s with heap:=h' }) :
  wpAny (model prog w) A (call (.type "enumerate") [.ref l]) Q E s:=by
 obtain ⟨⟨c,dct,dt,sl⟩,hl,hc,n,hd⟩:=hL
 replace hc:c = .type "tuple":=hc
 replace hd:dt = .seq items n:=hd
 subst hc hd
 refine callType_new PySem.F.called_enumerate (by decide) (PySem.F.typeCall_enumerate_1 _) (PySem.F.newCall_enumerate_1 _) (λobj=>PySem.F.args_object_init_2 obj _) PySem.F.entry_enumerate_new
  (meets_enumerate_newT l items n dct sl) ⟨hl,?_⟩
 have hz:(s.heap.push { cls:=.type "tuple_iterator",data:=.fields #[.ref l,.int 0 0] }).objs.size=s.heap.objs.size+1:=Heap.size_push ..
 show _∧_
 rw [hz]
 have he:IsEnum ((s.heap.push { cls:=.type "tuple_iterator",data:=.fields #[.ref l,.int 0 0] }).push
   { cls:=.type "enumerate",data:=.fields #[.none,.bool false,.ref s.heap.objs.size,rawInt 0,.none,.none] }) (s.heap.objs.size+1) s.heap.objs.size 0 .none:=by
  have:=Heap.get?_push_size (s.heap.push { cls:=.type "tuple_iterator",data:=.fields #[.ref l,.int 0 0] })
   (o:={ cls:=.type "enumerate",data:=.fields #[.none,.bool false,.ref s.heap.objs.size,rawInt 0,.none,.none] }) rfl
  rw [hz] at this;exact this
 refine ⟨⟨_,he,rfl⟩,h _ he ⟨_,Heap.get?_push_of_some _ (Heap.get?_push_size _ rfl),rfl,rfl⟩ (by rw [Heap.size_push,hz]) λb o x=>Heap.get?_push_of_some _ (Heap.get?_push_of_some _ x)⟩
theorem call_enum {b:Bool}{l:Addr}{items:Array Value}{Q:Value->Shared->Prop}(hL:SqSt b s.heap l items)
  (h:∀ h',IsEnum h' (s.heap.objs.size+1) s.heap.objs.size 0 .none->ItSt b h' s.heap.objs.size l 0->h'.objs.size=s.heap.objs.size+2 ->
   (∀ b o,s.heap.get? b=some o->h'.get? b=some o)->Q (.ref (s.heap.objs.size+1)) { s with heap:=h' }) :
  wpAny (model prog w) A (call (.type "enumerate") [.ref l]) Q E s:=by
 cases b
 ·exact call_enumerate_tuple (show s.heap.IsTuple l items from hL) h
 ·exact call_enumerate_list (show s.heap.IsList l items from hL) h
end
noncomputable def SqA (b:Bool)(K:PySem.W.Frag)(H:Hp)(a:Addr)(xs:List V):Prop:=if b then SqL K H a xs else SqT K H a xs
noncomputable def Ite (b:Bool)(K:PySem.W.Frag)(a:Addr):It :=
 ⟨λi H=>∃ xs x,SqA b K H a xs∧xs[i]? = some x,λi H v H'=>∃ t x,v = .ref t∧H t=none∧H' = upd H t (.tup [.int i,x])∧∀ xs,SqA b K H a xs->xs[i]? = some x,λi H=>∃ xs,SqA b K H a xs∧xs.length=i⟩
theorem SqA.get {b:Bool}{X:Cx}{pins:List (Addr×Obj)}{σ:St}{H:Hp}{s:Shared}{a:Addr}{xs:List V}(I:Inv X pins σ H s)(h:SqA b X.K H a xs):∃ its:List Value,Vals xs its∧SqSt b s.heap a its.toArray:=by
 cases b
 ·obtain ⟨its,rv,p,_⟩:=I.tuple (show SqT X.K H a xs from h)
  exact ⟨its,rv,p⟩
 ·obtain ⟨its,rv,p,_⟩:=I.list (show SqL X.K H a xs from h)
  exact ⟨its,rv,p.isList⟩
theorem SqA.inj {b:Bool}{X:Cx}{pins:List (Addr×Obj)}{σ:St}{H:Hp}{s:Shared}{a:Addr}{xs ys:List V}(I:Inv X pins σ H s)(h:SqA b X.K H a xs)(h':SqA b X.K H a ys):ys=xs:=by
 cases b
 ·exact I.tuple_inj (show SqT X.K H a ys from h') (show SqT X.K H a xs from h)
 ·exact I.list_inj (show SqL X.K H a ys from h') (show SqL X.K H a xs from h)
end L3
namespace L3
open PySem PySem.Spec PyProof.Rows L2
theorem push_old {h:Heap}{c:Addr}{o o':Obj}(hl:c<h.objs.size)(e:(h.push o).get? c=some o'):h.get? c=some o':=by
 obtain ⟨e1,e2⟩:=Heap.get?_some_iff.mp e
 refine Heap.get?_some_iff.mpr ⟨?_,e2⟩
 have:=Nat.ne_of_lt hl
 cases h;simpa [Heap.push,Array.getElem?_push,this] using e1
theorem inv_turned {X:Cx}{pins:List (Addr×Obj)}{σ:St}{H:Hp}{s:Shared}{h':Heap}{t':Nat}{fp:List Addr}(I:Inv X pins σ H s)(hf:∀ b∈fp,FpOk X pins H b)(k:∀ b o,b ∉ fp->s.heap.get? b=some o->h'.get? b=some o):Inv X pins σ H { s with heap:=h',toks:=t' }:=by
 have nit:∀ b u,H b=some u->b ∉ fp:=λb u e z=>by rw [(hf b z).1] at e;cases e
 refine I.step (g':=s.gens) (d':=s.drawn) (ch:=fp) (λb hb=>?_) (λb o _ _ hc e _=>k b o hc e) (λb o _ _ hc e _=>⟨o.slots,k b o hc e⟩) (λ_ _ _ _ n=>n)
  (λb o hc e=>⟨o,k b o hc e⟩) (λ_ _ e=>e) (λ_ _ _ e=>e) (λb ps e=>⟨#[],by rw [e];simp⟩) (λm hm=>?_) (λb u e=>?_) I.bare
 ·obtain ⟨_,f1,f2,f3,f4,f5⟩:=hf b hb
  exact ⟨f3,f1,f4,f5⟩
 ·obtain ⟨o,es,ep,ho,r⟩:=hm
  exact ⟨o,es,ep,k _ o (λz=>(hf _ z).2.1 rfl) ho,r⟩
 ·refine (I.hok b u e).stay (λc v hc q=>k c v ?_ q) (λ_ q=>q) λ_ _ q=>q
  rcases hc with z | z
  ·rw [z];exact nit b u e
  ·exact nit c _ z
theorem turn_enum {P:Program}{w:World}{K:PySem.W.Frag}{es:List Expr}{k:Nat}{pos:Pos}(b:Bool)(a e it:Addr):Turn P w K (.Tuple es k pos) (Ite b K a) [e,it] e (λi h=>(e≠it∧a≠e∧a≠it)∧(∃ old,IsEnum h e it i old)∧ItSt b h it a i) where
 mem:=by simp
 obj:=λi h st c hb=>by
  obtain ⟨_,⟨old,he⟩,hit⟩:=st
  rcases List.mem_cons.mp hb with rfl | hb
  ·exact ⟨_,he,λv z=>by cases (show Data.fields _=Data.cell v from z)⟩
  ·rw [List.mem_singleton.mp hb];exact hit.obj
 keep:=λi h h' st kk=>by
  obtain ⟨n,⟨old,he⟩,hit⟩:=st
  exact ⟨n,⟨old,kk e (by simp) _ he⟩,hit.at λo z=>kk it (by simp) o z⟩
 item:=by
  intro X hP hw hK hc i pins s σ H E I hf st hg
  subst hP hw hK
  obtain ⟨⟨n1,n2,n3⟩,⟨old,he⟩,hit⟩:=st
  obtain ⟨xs,x,hq,hx⟩:=hg
  obtain ⟨its,rv,p⟩:=SqA.get I hq
  obtain ⟨u,hu,ru⟩:=rv.get hx
  have hlt:i<its.toArray.size:=by
   have:=(List.getElem?_eq_some_iff.mp hu).1
   simpa using this
  have hel:e<s.heap.objs.size:=Heap.lt_size he
  have hil:it<s.heap.objs.size:=by obtain ⟨o,z,_⟩:=hit.obj;exact Heap.lt_size z
  refine wpAny_pyNext_enum_itemD (drawsSeq b (A:=X.A.in1) (I.ok.hd hc) it a n3 its.toArray) he ⟨hit,p⟩ hlt n1 (by simp [n1,Ne.symm n2]) λy h' tk hy ho hst' ht hz hk=>?_
  have hyu:y=u:=by
   have hy:its.toArray[i]? = some y:=hy
   rw [List.getElem?_toArray,hu] at hy
   exact (Option.some.inj hy).symm
  subst hyu
  refine ⟨_,rfl,wpAny_letOwnedTupleGo_enum ho λh2 he2 hs2=>?_⟩
  have hs2:Heap.SameBut e h' h2:=hs2
  have hf0:H s.heap.objs.size=none:=I.hok.fresh (Nat.le_refl _)
  have I1:Inv X pins σ (upd H s.heap.objs.size (.tup [.int i,x])) { s with heap:=s.heap.push { cls:=.type "tuple",data:=.seq #[.int i tk,y] },toks:=tk }:=by
   refine I.laid (t':=tk) (λb u e=>Heap.get?_push_of_some _ e) (Nat.le_refl _) ?_
   exact ⟨Nat.le_trans (show 2≤10000 by decide) (by rw [sizeLine_eq];decide),[.int i tk,y],.cons ⟨tk,rfl⟩ (.cons ru .nil),⟨_,Heap.get?_push_size _ rfl,rfl,_,rfl⟩⟩
  have hfp:∀ c∈[e,it],FpOk X pins (upd H s.heap.objs.size (.tup [.int i,x])) c:=λc hcm=>by
   obtain ⟨f0,f⟩:=hf c hcm
   have hne:c≠s.heap.objs.size:=by
    rcases List.mem_cons.mp hcm with rfl | hcm
    ·exact Nat.ne_of_lt hel
    ·rw [List.mem_singleton.mp hcm];exact Nat.ne_of_lt hil
   exact ⟨by rw [upd_ne hne];exact f0,f⟩
  have hT2:h2.get? s.heap.objs.size=some { cls:=.type "tuple",data:=.seq #[.int i tk,y] }:=hs2.extBut _ _ (Nat.ne_of_gt hel) ht
  have I2:Inv X pins σ (upd H s.heap.objs.size (.tup [.int i,x])) { s with heap:=h2,toks:=tk+1 }:=by
   refine inv_turned (s:={ s with heap:=s.heap.push { cls:=.type "tuple",data:=.seq #[.int i tk,y] },toks:=tk }) I1 hfp λc o hcn ec=>?_
   have c1:c≠e:=λz=>hcn (by simp [z])
   have c2:c≠it:=λz=>hcn (by simp [z])
   by_cases hcT:c=s.heap.objs.size
   ·subst hcT
    have:(s.heap.push { cls:=.type "tuple",data:=.seq #[.int i tk,y] }).get? s.heap.objs.size=some o:=ec
    rw [Heap.get?_push_size _ rfl] at this
    rw [hT2];exact this
   ·have hlc:c<s.heap.objs.size:=by
     have h1:c<(s.heap.push { cls:=.type "tuple",data:=.seq #[.int i tk,y] }).objs.size:=Heap.lt_size ec
     rw [Heap.size_push] at h1
     exact Nat.lt_of_le_of_ne (Nat.le_of_lt_succ h1) hcT
    have ec':s.heap.get? c=some o:=by
     have ec:(s.heap.push { cls:=.type "tuple",data:=.seq #[.int i tk,y] }).get? c=some o:=ec
     exact push_old hlc ec
    exact hs2.extBut c o c1 (hk c o c1 c2 ec')
  refine ⟨.ref s.heap.objs.size,upd H s.heap.objs.size (.tup [.int i,x]),I2,rfl,⟨_,x,rfl,hf0,rfl,λys hy=>by rw [SqA.inj I hq hy];exact hx⟩,⟨⟨n1,n2,n3⟩,⟨y,by simpa using he2⟩,hst'.1.at λo z=>hs2.extBut it o (Ne.symm n1) z⟩,λc hcm=>(hfp c hcm).1⟩
 done:=by
  intro X hP hw hK hc i pins s σ H E I hf st hg
  subst hP hw hK
  obtain ⟨⟨n1,n2,n3⟩,⟨old,he⟩,hit⟩:=st
  obtain ⟨xs,hq,hx⟩:=hg
  obtain ⟨its,rv,p⟩:=SqA.get I hq
  have hl:its.toArray.size=i:=by rw [List.size_toArray,← rv.length];exact hx
  refine wpAny_pyNext_enum_endD (drawsSeq b (A:=X.A.in1) (I.ok.hd hc) it a n3 its.toArray) he (by rw [hl];exact ⟨hit,p⟩) λh' eb=>⟨rfl,inv_turned (t':=s.toks) I hf λc o hc ec=>eb c o (λz=>hc (by simp [z])) ec⟩
 self:=λ_ _ _ _ _ st h=>by
  obtain ⟨_,⟨old,he⟩,_⟩:=st
  exact wpAny_pyIter_enum he h
section
variable [Feeds]{K:PySem.W.Frag}{X:Cx}{tg iter e:Expr}{te:TE}{m:DE->M PyData}{pos p tp:Pos}{es:List Expr}{tk:Nat}
noncomputable def enumL:Nat->List PyData->List PyData
 | _,[]=>[]
 | k,d::r=>.tuple [.int k,d]::enumL (k+1) r
theorem enumL_len:∀ {ds:List PyData} {k:Nat},(enumL k ds).length=ds.length
 | [],k=>rfl
 | d::r,k=>by rw [enumL,List.length_cons,List.length_cons,enumL_len]
theorem enumL_get:∀ {ds:List PyData} {k i:Nat} {z:PyData},(enumL k ds)[i]? = some z->∃ d,ds[i]? = some d∧z = .tuple [.int ((k+i:Nat)),d]
 | [],k,i,z,h=>by simp [enumL] at h
 | d::r,k,0,z,h=>by simp [enumL] at h;exact ⟨d,by simp,by simp [h]⟩
 | d::r,k,i+1,z,h=>by
  rw [enumL,List.getElem?_cons_succ] at h
  obtain ⟨d',h1,h2⟩:=enumL_get h
  refine ⟨d',by simpa using h1,?_⟩
  rw [h2,show k+1+i=k+(i+1) by omega]
noncomputable def mEnum (a:DE->M PyData):DE->M (List PyData):=λE F=>(a E F).bind λp=>(seqOf p.1).bind λds=>some (enumL 0 ds,p.2)
noncomputable def iEnum (K:PySem.W.Frag)(tl:TA):TI:=λσ H R=>tl σ H λxs H1=>∃ a,xs=[.ref a]∧∃ b ys,SqA b K H1 a ys∧R (Ite b K a) H1
theorem pi_enum {l:Expr}{tl:TA}(hK:X.K=K)(hg:Gl X "enumerate")(hm:X.mg "enumerate" = none)(ha:PA X [l] tl)(hs:starEach [l] X.env=[(false,eval l X.env)]:=by rfl):PI X (.Tuple es tk tp) (.Call (.Name "enumerate" p) [l] [] pos) (iEnum K tl):=by
 subst hK
 intro pins s σ H R I h
 refine Call_ (ld_blt I hg hm boot_enumerate (PyProof.Rows.callWith_type1 (thn (ha pos pins s σ H _ I h) λus s1 ⟨vs,H1,I1,r1,q1⟩=>?_) hs rfl))
 obtain ⟨a,e,b,ys,hq,q⟩:=q1
 subst e
 cases r1 with
 | cons r rr =>
  cases rr
  cases r
  obtain ⟨its,rv,p⟩:=SqA.get I1 hq
  refine call_enum p λh' he hit hz hk=>?_
  have I2:Inv X pins σ H1 { s1 with heap:=h' }:=I1.kept (t':=s1.toks) hk
  have hal:a<s1.heap.objs.size:=by
   cases b
   ·obtain ⟨o,z,_⟩:=(show s1.heap.IsTuple a its.toArray from p);exact Heap.lt_size z
   ·obtain ⟨o,z,_⟩:=(show s1.heap.IsList a its.toArray from p);exact Heap.lt_size z
  refine wpAny_pyIter_enum he ⟨s1.heap.objs.size+1,[s1.heap.objs.size+1,s1.heap.objs.size],_,_,H1,rfl,I2,turn_enum b a _ _,⟨⟨Nat.succ_ne_self _,Nat.ne_of_lt (Nat.lt_succ_of_lt hal),Nat.ne_of_lt hal⟩,⟨_,he⟩,hit⟩,λc hc=>?_,q⟩
  have hle:s1.heap.objs.size≤c:=by
   rcases List.mem_cons.mp hc with rfl | hc
   ·exact Nat.le_succ _
   ·rw [List.mem_singleton.mp hc];exact Nat.le_refl _
  exact I1.fpOk hle (I1.hok.fresh hle)
theorem it_enum {P:Hp->List Addr->Prop}{b:Bool}{a:Addr}{ds:List PyData}{xs:List V}(h:∀ H B,P H B->SqA b K H a xs∧DatsAre K (hid H B) ds xs):IterOk K P (Ite b K a) (enumL 0 ds):=λH B hp=>by
 obtain ⟨h1,h2⟩:=h H B hp
 refine ⟨λi d e=>?_,⟨xs,h1,by rw [enumL_len,h2.length]⟩⟩
 obtain ⟨d',hd',rfl⟩:=enumL_get e
 obtain ⟨v,e1,e2⟩:=DatsAre.item h2 hd'
 refine ⟨⟨xs,v,h1,e1⟩,λx H2 y=>?_⟩
 obtain ⟨t,x',rfl,ht,rfl,y⟩:=y
 have:=y xs h1
 rw [e1] at this;cases this
 refine ⟨Same.upd ht,λbk=>?_⟩
 rw [Nat.zero_add]
 exact new_tup bk ht ⟨_,_,rfl,DatIs.int,_,_,rfl,e2,rfl⟩
theorem ei_enum (h:Ev K X e te m)(hm:X.mg "enumerate" = none)(hK:X.K=K:=by rfl)(hg:Gl X "enumerate":=by rfl)(hs:starEach [e] X.env=[(false,eval e X.env)]:=by rfl):Ei K X (.Tuple es tk tp) (.Call (.Name "enumerate" p) [e] [] pos) (iEnum K (tCons te tNil)) (mEnum m):=⟨pi_enum hK hg hm (pa_cons h.pe pa_nil hs) hs,λG B E F σ H R ds F' I e q=>by
 obtain ⟨⟨y,F1⟩,e1,e⟩:=Option.bind_eq_some_iff.mp e
 obtain ⟨z,e2,e⟩:=Option.bind_eq_some_iff.mp e
 cases e
 refine h.ok G B E F σ H _ y F1 I e1 λv H1 k1 f1 h1=>?_
 cases y with
 | list ys =>
  cases e2
  simp only [DatIs] at h1
  obtain ⟨a,xs,rfl,ha,hd⟩:=h1
  exact ⟨a,rfl,true,xs,SqL.of (hid_same _ _ ha),q _ H1 k1 f1 (it_enum λH2 B2 s=>⟨SqL.of (hid_same _ _ (s _ _ ha)),hd.same s⟩)⟩
 | tuple ys =>
  cases e2
  simp only [DatIs] at h1
  obtain ⟨a,xs,rfl,ha,hd⟩:=h1
  exact ⟨a,rfl,false,xs,ha.same hid_same,q _ H1 k1 f1 (it_enum λH2 B2 s=>⟨(ha.same s).same hid_same,hd.same s⟩)⟩
 | _=>cases e2⟩
theorem eib_enum (h:Eb K X e te m)(hm:X.mg "enumerate" = none)(hK:X.K=K:=by rfl)(hg:Gl X "enumerate":=by rfl)(hs:starEach [e] X.env=[(false,eval e X.env)]:=by rfl):Eib K X (.Tuple es tk tp) (.Call (.Name "enumerate" p) [e] [] pos) (iEnum K (tCons te tNil)) (mEnum m):=⟨pi_enum hK hg hm (pa_cons h.pe pa_nil hs) hs,λG B E F σ H R ds F' I e q=>by
 obtain ⟨⟨y,F1⟩,e1,e⟩:=Option.bind_eq_some_iff.mp e
 obtain ⟨z,e2,e⟩:=Option.bind_eq_some_iff.mp e
 cases e
 refine h.ok G B E F σ H _ y F1 I e1 λv H1 k1 f1 h1=>?_
 cases y with
 | list ys =>
  cases e2
  obtain ⟨a,xs,rfl,ha,hd⟩:=h1
  exact ⟨a,rfl,true,xs,SqL.of (hid_same _ _ ha),q _ H1 k1 f1 (it_enum λH2 B2 k=>⟨SqL.of (hid_same _ _ (k.1.hid (B:=fpOf K G) (λ_ z=>z) _ _ ha)),hd.same k.2⟩)⟩
 | tuple ys =>
  cases e2
  obtain ⟨a,xs,rfl,ha,hd⟩:=h1
  exact ⟨a,rfl,false,xs,ha.same hid_same,q _ H1 k1 f1 (it_enum λH2 B2 k=>⟨(ha.same k.2).same hid_same,hd.same k.2⟩)⟩
 | _=>cases e2⟩
end
end L3
namespace L3
open PySem PySem.Spec PyProof.Rows L2
section
variable [Feeds]{K:PySem.W.Frag}{X:Cx}{a b c e tg iter:Expr}{es:List Expr}{ta tb tc te:TE}{ma mb mc m:DE->M PyData}{pos pos' p p2:Pos}{t u:TS}{mt mu:DE->M Out}
noncomputable def whGo (c:DE->M Bool)(b:DE->M Out):Nat->DE->M Out
 | 0,_,_=>none
 | n+1,E,F=>(c E F).bind λp=>if p.1=true then (b E p.2).bind λq=>match q.1 with
  | .nx E2=>whGo c b n E2 q.2
  | .ct E2=>whGo c b n E2 q.2
  | .bk E2=>some (.nx E2,q.2)
  | .rt d=>some (.rt d,q.2)
  else some (.nx E,p.2)
theorem whGo_mono {c:DE->M Bool}{b:DE->M Out}:∀ {n m:Nat} {E:DE} {F:FS} {r:Out×FS},n≤m->whGo c b n E F=some r->whGo c b m E F=some r
 | 0,m,E,F,r,_,h=>by cases h
 | n+1,0,E,F,r,hl,h=>absurd hl (by omega)
 | n+1,m+1,E,F,r,hl,h=>by
  rw [whGo] at h ⊢
  obtain ⟨⟨x,F1⟩,e1,h⟩:=Option.bind_eq_some_iff.mp h
  rw [e1,Option.bind_some]
  dsimp only at h ⊢
  cases x with
  | false=>exact h
  | true =>
   rw [if_pos rfl] at h ⊢
   obtain ⟨⟨o,F2⟩,e2,h⟩:=Option.bind_eq_some_iff.mp h
   rw [e2,Option.bind_some]
   cases o with
   | nx E2=>exact whGo_mono (n:=n) (m:=m) (by omega) h
   | ct E2=>exact whGo_mono (n:=n) (m:=m) (by omega) h
   | bk E2=>exact h
   | rt d=>exact h
open Classical in
noncomputable def mWh (c:DE->M Bool)(b:DE->M Out):DE->M Out:=λE F=>if h:∃ n r,whGo c b n E F=some r then some (Classical.choose (Classical.choose_spec h)) else none
theorem mWh_of {c:DE->M Bool}{b:DE->M Out}{n:Nat}{E:DE}{F:FS}{r:Out×FS}(h:whGo c b n E F=some r):mWh c b E F=some r:=by
 unfold mWh
 have hx:∃ n r,whGo c b n E F=some r:=⟨n,r,h⟩
 rw [dif_pos hx]
 have h2:=Classical.choose_spec (Classical.choose_spec hx)
 have a1:=whGo_mono (Nat.le_max_left n (Classical.choose hx)) h
 have a2:=whGo_mono (Nat.le_max_right n (Classical.choose hx)) h2
 rw [a1] at a2
 exact a2.symm
theorem mWh_to {c:DE->M Bool}{b:DE->M Out}{E:DE}{F:FS}{r:Out×FS}(h:mWh c b E F=some r):∃ n,whGo c b n E F=some r:=by
 unfold mWh at h
 split at h
 ·rename_i hx
  cases h
  exact ⟨_,Classical.choose_spec (Classical.choose_spec hx)⟩
 ·cases h
theorem while_d {tt:TT}{tb:TS}{mc:DE->M Bool}{mb:DE->M Out}(hc:TTd K tt mc)(hb:TSd K tb mb):TSd K (tWhile tt tb) (mWh mc mb):=λG B0 H0 E F σ H D r F' S e q=>by
 obtain ⟨n,e⟩:=mWh_to e
 refine ⟨λm σ H=>∃ E F,Sit K G B0 H0 E F σ H∧whGo mc mb m E F=some (r,F'),⟨n,E,F,S,e⟩,?_⟩
 rintro m σ2 H2 ⟨E2,F2,S2,e2⟩
 cases m with
 | zero=>cases e2
 | succ m =>
  rw [whGo] at e2
  obtain ⟨⟨x,F3⟩,e3,e2⟩:=Option.bind_eq_some_iff.mp e2
  obtain ⟨B,s,sn,I⟩:=S2.ex
  refine hc G B E2 F2 σ2 H2 _ x F3 I e3 λH3 k3 f3=>?_
  have S3:=S2.step k3 f3
  cases x with
  | false =>
   rw [if_neg Bool.false_ne_true]
   cases e2
   exact q σ2 H3 S3
  | true =>
   rw [if_pos rfl]
   rw [if_pos rfl] at e2
   obtain ⟨⟨o,F4⟩,e4,e2⟩:=Option.bind_eq_some_iff.mp e2
   refine ⟨λσ' H'=>∃ E F,Sit K G B0 H0 E F σ' H' ∧ whGo mc mb m E F=some (r,F'),λσ' H' h=>⟨m,Nat.lt_succ_self _,h⟩,?_⟩
   refine hb G B0 H0 E2 F3 σ2 H3 _ o F4 S3 e4 ?_
   cases o with
   | nx E6=>exact λσ6 H6 S6=>⟨E6,F4,S6,e2⟩
   | ct E6=>exact λσ6 H6 S6=>⟨E6,F4,S6,e2⟩
   | bk E6=>cases e2;exact λσ6 H6 S6=>q σ6 H6 S6
   | rt d=>cases e2;exact λv H6 k6 f6 h6=>q v H6 k6 f6 h6
theorem st_while {body:List Stmt}{tt:TT}{tb:TS}{mc:DE->M Bool}{mb:DE->M Out}(hc:Et K X c tt mc)(hb:Sss K X body tb mb)(hp:PassesOwn (model X.prog X.w) X.A X.env X.xe:=by exact PassesOwn.never):Ss K X (.While c body [] pos) (tWhile tt tb) (mWh mc mb) :=
 ⟨ps_while hp hc.pt hb.ps,while_d hc.ok hb.ok⟩
end
end L3
namespace L3
open PySem PySem.Spec PyProof.Rows L2
section
variable [Feeds]{K:PySem.W.Frag}{X:Cx}{a b c e tg iter:Expr}{es:List Expr}{ta tb tc te:TE}{ma mb mc m:DE->M PyData}{pos pos' p p2:Pos}
end
end L3
namespace L3
open PySem PySem.Spec PyProof.Rows L2
section
variable {X:Cx}
end
section
variable [Feeds]{K:PySem.W.Frag}{X:Cx}{a b c e tg iter:Expr}{es:List Expr}{ta tb tc te:TE}{ma mb mc m:DE->M PyData}{pos pos' p p2 pos2:Pos}
end
end L3
namespace L3
open PySem PySem.Spec PyProof.Rows L2
noncomputable abbrev IsEnumG (h:Heap)(e it:Addr)(i:Int)(T:Addr)(f:Bool)(old:Value):Prop :=
 h.get? e=some { cls:=.type "enumerate",dict:=none,data:=.fields #[rawInt T,.bool f,.ref it,rawInt i,.none,old],slots:=#[] }
section
variable {prog:Program}{w:World}{A:Around}{E:Value->Shared->Prop}{s:Shared}
theorem alive {a:Addr}{o:Obj}{Q:Option Obj->Shared->Prop}(ho:s.heap.get? a=some o)(h:Q (some o) s):wpAny (model prog w) A (loadIfAlive a) Q E s:=by
 have h':Q (s.heap.get? a) s:=by rw [ho];exact h
 exact λ_ _ _=>h'
theorem enum_next_out {e it T0:Addr}{oT:Obj}{fp:List Addr}{n i:Nat}{f:Bool}{P:Nat->Value->Prop}{St:Nat->Heap->Prop}{old:Value}{Q:Value->Shared->Prop}
  (D:Draws prog w A it fp n P St) (he:IsEnumG s.heap e it i T0 f old) (hT0:s.heap.get? T0=some oT) (hTe:T0≠e) (hTi:T0≠it) (hst:St i s.heap) (hlt:i<n) (hne:e≠it) (hef:e ∉ fp)
  (hQ:∀ x h' tk,P i x->IsEnumG h' e it ((i:Int)+1) T0 true old->St (i+1) h' ->
   h'.get? s.heap.objs.size=some { cls:=.type "tuple",data:=.seq #[.int i tk,x] }->h'.objs.size=s.heap.objs.size+1 ->
   (∀ b o,b≠e->b≠it->s.heap.get? b=some o->h'.get? b=some o)->Q (.ref s.heap.objs.size) { s with heap:=h',toks:=tk+1 }) :
  wpAny (model prog w) A (Builtin.«enumerate.__next__» ⟨[.ref e],[]⟩) (λfin s'=>∃ v,fin = .done (.ret v)∧Q v s') E s:=by
 obtain ⟨hp,g,d,tk₀,os⟩:=s
 show wpAny _ _ (field (.ref e) 2 >>= _) _ _ _
 refine wpAny_bind (wpAny_field he rfl (x:=.ref it) rfl ?_)
 refine wpAny_bind (D.item i _ _ _ hlt hst λx h₁ tk hPx hit₁ hs₁=>?_)
 replace hs₁:Heap.SameBut it hp h₁:=hs₁
 have he₁:IsEnumG h₁ e it i T0 f old:=(hs₁.2 e hne).trans he
 show wpAny _ _ (field (.ref e) 3 >>= _) _ _ ⟨h₁,g,d,tk,os⟩
 refine wpAny_bind (wpAny_field he₁ rfl (x:=rawInt i) rfl ?_)
 show wpAny _ _ (field (.ref e) 4 >>= _) _ _ ⟨h₁,g,d,tk,os⟩
 refine wpAny_bind (wpAny_field he₁ rfl (x:=.none) rfl ?_)
 show wpAny _ _ (mkInt i >>= _) _ _ ⟨h₁,g,d,tk,os⟩
 refine wpAny_bind (wpAny_mkInt ?_)
 show wpAny _ _ (setField (.ref e) 3 (rawInt ((i:Int)+1)) >>= _) _ _ ⟨h₁,g,d,tk+1,os⟩
 refine wpAny_bind (wpAny_setField_rec he₁ (by simp) λh₂ he₂ hs₂=>?_)
 replace hs₂:Heap.SameBut e h₁ h₂:=hs₂
 replace he₂:IsEnumG h₂ e it ((i:Int)+1) T0 f old:=he₂
 show wpAny _ _ (setField (.ref e) 4 .none >>= _) _ _ ⟨h₂,g,d,tk+1,os⟩
 refine wpAny_bind (wpAny_setField_rec he₂ (by simp) λh₃ he₃ hs₃=>?_)
 replace hs₃:Heap.SameBut e h₂ h₃:=hs₃
 replace he₃:IsEnumG h₃ e it ((i:Int)+1) T0 f old:=he₃
 show wpAny _ _ (newTuple [.int i tk,x] >>= _) _ _ ⟨h₃,g,d,tk+1,os⟩
 refine wpAny_bind (wpAny_newTuple ?_)
 have he₄:IsEnumG (h₃.push { cls:=.type "tuple",data:=.seq #[.int i tk,x] }) e it ((i:Int)+1) T0 f old:=Heap.get?_push_of_some _ he₃
 generalize hh₄:h₃.push { cls:=.type "tuple",data:=.seq #[.int i tk,x] }=h₄ at he₄
 have hsz:h₃.objs.size=hp.objs.size:=by rw [hs₃.1,hs₂.1,hs₁.1]
 have hel:e<hp.objs.size:=Heap.lt_size he
 have ht₄:h₄.get? hp.objs.size=some { cls:=.type "tuple",data:=.seq #[.int i tk,x] }:=by rw [← hh₄,← hsz];exact Heap.get?_push_size _ rfl
 have hz₄:h₄.objs.size=hp.objs.size+1:=by rw [← hh₄,Heap.size_push,hsz]
 have hk₄:∀ b o,b≠e->b≠it->hp.get? b=some o->h₄.get? b=some o:=λb o hbe hbi hb=>by
  rw [← hh₄];exact Heap.get?_push_of_some _ (hs₃.extBut b o hbe (hs₂.extBut b o hbe (hs₁.extBut b o hbi hb)))
 have hit₄:St (i+1) h₄:=D.frame _ _ _ hit₁ λb hb o y=>by
  have hbe:b≠e:=λq=>hef (q ▸ hb)
  rw [← hh₄];exact Heap.get?_push_of_some _ (hs₃.extBut b o hbe (hs₂.extBut b o hbe y))
 have hT₄:h₄.get? T0=some oT:=hk₄ T0 oT hTe hTi hT0
 show wpAny _ _ (Builtin.SmallTypes.ownedTupleIsFree (.ref e) >>= _) _ _ ⟨h₄,g,d,tk+1,os⟩
 rw [hsz]
 clear hh₄ he₃ hs₃ he₂ hs₂ he₁ hs₁ hit₁ hsz h₃ h₂ h₁
 refine wpAny_bind ?_
 ·unfold Builtin.SmallTypes.ownedTupleIsFree
  refine wpAny_bind (wpAny_field he₄ rfl (x:=rawInt T0) rfl ?_)
  show wpAny _ _ (loadIfAlive ((T0:Int).toNat) >>= _) _ _ _
  rw [Int.toNat_natCast]
  refine wpAny_bind (alive (s:=⟨h₄,g,d,tk+1,os⟩) hT₄ ?_)
  show wpAny _ _ (field (.ref e) 1 >>= _) _ _ ⟨h₄,g,d,tk+1,os⟩
  refine wpAny_bind (wpAny_field he₄ rfl (x:=.bool f) rfl ?_)
  cases f with
  | true =>
   show wpAny _ _ (pure false) _ _ _
   refine wpAny_pure ?_
   exact wpAny_pure ⟨_,rfl,hQ x h₄ tk hPx he₄ hit₄ ht₄ hz₄ hk₄⟩
  | false =>
   show wpAny _ _ (setField (.ref e) 1 (.bool true) >>= λ_=>pure false) _ _ ⟨h₄,g,d,tk+1,os⟩
   refine wpAny_bind (wpAny_setField_rec he₄ (by simp) λh₅ he₅ hs₅=>?_)
   replace hs₅:Heap.SameBut e h₄ h₅:=hs₅
   replace he₅:IsEnumG h₅ e it ((i:Int)+1) T0 true old:=he₅
   refine wpAny_pure ?_
   refine wpAny_pure ⟨_,rfl,hQ x h₅ tk hPx he₅ ?_ ?_ ?_ ?_⟩
   ·exact D.frame _ _ _ hit₄ λb hb o y=>hs₅.extBut b o (λq=>hef (q ▸ hb)) y
   ·exact hs₅.extBut _ _ (Nat.ne_of_gt hel) ht₄
   ·rw [hs₅.1,hz₄]
   ·exact λb o hbe hbi hb=>hs₅.extBut b o hbe (hk₄ b o hbe hbi hb)
noncomputable def EnSt (h:Heap)(e it:Addr)(i:Nat):Prop:=(∃ old,IsEnum h e it i old)∨∃ T o f old,IsEnumG h e it i T f old∧(h.get? T=some o∧o.cls = .type "tuple")∧T≠e∧T≠it
theorem EnSt.at {h h':Heap}{e it:Addr}{i:Nat}(x:EnSt h e it i)(k:∀ b o,(b=e∨o.cls = .type "tuple")->h.get? b=some o->h'.get? b=some o):EnSt h' e it i:=by
 rcases x with ⟨old,he⟩ | ⟨T,o,f,old,he,⟨hT,hc⟩,h1,h2⟩
 ·exact .inl ⟨old,k e _ (.inl rfl) he⟩
 ·exact .inr ⟨T,o,f,old,k e _ (.inl rfl) he,⟨k T o (.inr hc) hT,hc⟩,h1,h2⟩
theorem enst_item {e it l:Addr}{b:Bool}{items:Array Value}{i:Nat}{Q:Option Value->Shared->Prop}(hh:A.handled=none)(hs:EnSt s.heap e it i)(hit:ItSt b s.heap it l i)(hl:SqSt b s.heap l items)(hlt:i<items.size)(hne:e≠it)(hle:l≠e)(hli:l≠it)
  (hQ:∀ x h' tk,items[i]? = some x->EnSt h' e it (i+1)->ItSt b h' it l (i+1) ->
   h'.get? s.heap.objs.size=some { cls:=.type "tuple",data:=.seq #[.int i tk,x] }->h'.objs.size=s.heap.objs.size+1 ->
   (∀ b o,b≠e->b≠it->s.heap.get? b=some o->h'.get? b=some o)->Q (some (.ref s.heap.objs.size)) { s with heap:=h',toks:=tk+1 }) :
  wpAny (model prog w) A (pyNext (.ref e)) Q E s:=by
 have hil:it<s.heap.objs.size:=by obtain ⟨o,z,_⟩:=hit.obj;exact Heap.lt_size z
 rcases hs with ⟨old,he⟩ | ⟨T,o,f,old,he,⟨hT,hcl⟩,h1,h2⟩
 ·have hel:e<s.heap.objs.size:=Heap.lt_size he
  refine wpAny_pyNext_enum_itemD (drawsSeq b (A:=A.in1) hh it l hli items) he ⟨hit,hl⟩ hlt hne (by simp [hne,Ne.symm hle]) λx h' tk hx ho hst ht hz hk=>?_
  exact hQ x h' tk hx (.inr ⟨_,_,false,x,by simpa using ho,⟨ht,rfl⟩,Nat.ne_of_gt hel,Nat.ne_of_gt hil⟩) hst.1 ht hz hk
 ·have hTy:s.TypeIs (.ref e) "enumerate":=⟨_,he,rfl⟩
  unfold pyNext
  refine wpAny_bind (wpAny_attempt (wpAny_callSpecial?_slot (name:=Str.ofString "__next__") hTy PySem.F.slot_enumerate_next
   (wpAny_call_entry PySem.F.slot_enumerate_next hTy PySem.F.entry_enumerate_next
    (enum_next_out (drawsSeq b (A:=A.in1) hh it l hli items) he hT h1 h2 ⟨hit,hl⟩ hlt hne (by simp [hne,Ne.symm hle]) λx h' tk hx ho hst ht hz hk=>wpAny_pure ?_) (PySem.F.args_enumerate_next_1 _))))
  exact hQ x h' tk hx (.inr ⟨T,o,true,old,by simpa using ho,⟨hk T o h1 h2 hT,hcl⟩,h1,h2⟩) hst.1 ht hz hk
theorem enst_end {e it l:Addr}{b:Bool}{items:Array Value}{Q:Option Value->Shared->Prop}(hh:A.handled=none)(hs:EnSt s.heap e it items.size)(hit:ItSt b s.heap it l items.size)(hl:SqSt b s.heap l items)(hli:l≠it)
  (hQ:∀ h',Heap.ExtBut it s.heap h'->Q none { s with heap:=h' }):wpAny (model prog w) A (pyNext (.ref e)) Q E s:=by
 have hT:s.TypeIs (.ref e) "enumerate":=by
  rcases hs with ⟨old,he⟩ | ⟨T,o,f,old,he,_⟩
  ·exact ⟨_,he,rfl⟩
  ·exact ⟨_,he,rfl⟩
 unfold pyNext
 refine wpAny_bind (wpAny_attempt (wpAny_callSpecial?_slot (name:=Str.ofString "__next__") hT PySem.F.slot_enumerate_next
  (wpAny_call_entry PySem.F.slot_enumerate_next hT PySem.F.entry_enumerate_next ?_ (PySem.F.args_enumerate_next_1 _))))
 have D:=drawsSeq (prog:=prog) (w:=w) b (A:=A.in1) hh it l hli items
 show wpAny _ _ (field (.ref e) 2 >>= _) _ _ _
 have fin:wpAny (model prog w) A.in1 (Builtin.SmallTypes.nextOf (.ref it)) (λ_ _=>False) (λx s'=>∃ h',Heap.ExtBut it s.heap h' ∧ s' = { s with heap:=h' }∧∃ e,x = .ref e∧∃ o,h'.get? e=some o∧o.cls = .type "StopIteration") s :=
  D.done _ _ _ ⟨hit,hl⟩ λh' x he' hx'=>⟨h',he',rfl,x,rfl,hx'⟩
 rcases hs with ⟨old,he⟩ | ⟨T,o,f,old,he,_⟩
 ·refine wpAny_bind (wpAny_field he rfl (x:=.ref it) rfl ?_)
  refine wpAny_bind (D.done _ _ _ ⟨hit,hl⟩ λh' x he' hx'=>?_)
  obtain ⟨o,ho,hc⟩:=hx'
  refine wpAny_bind (wpAny_isInstance (T:="StopIteration") (b:=true) ⟨o,ho,hc⟩ isSubtype_stop ?_)
  exact wpAny_pure (hQ _ he')
 ·refine wpAny_bind (wpAny_field he rfl (x:=.ref it) rfl ?_)
  refine wpAny_bind (D.done _ _ _ ⟨hit,hl⟩ λh' x he' hx'=>?_)
  obtain ⟨o,ho,hc⟩:=hx'
  refine wpAny_bind (wpAny_isInstance (T:="StopIteration") (b:=true) ⟨o,ho,hc⟩ isSubtype_stop ?_)
  exact wpAny_pure (hQ _ he')
structure Tups (h:Heap) (S e it:Addr) (items acc:Array Value) (i:Nat):Prop where
 sz:acc.size=i
 at_:∀ (j:Nat) v,acc[j]? = some v->∃ T tk x,v = .ref T∧items[j]? = some x∧h.get? T=some { cls:=.type "tuple",data:=.seq #[.int j tk,x] }∧S<T∧T≠e∧T≠it
theorem Tups.keep {h h':Heap}{S e it:Addr}{items acc:Array Value}{i:Nat}(x:Tups h S e it items acc i)(k:∀ b o,b≠S->b≠e->b≠it->h.get? b=some o->h'.get? b=some o):Tups h' S e it items acc i :=
 ⟨x.sz,λj v hv=>by
  obtain ⟨T,tk,y,h1,h2,h3,h4,h5,h6⟩:=x.at_ j v hv
  exact ⟨T,tk,y,h1,h2,k T _ (Nat.ne_of_gt h4) h5 h6 h3,h4,h5,h6⟩⟩
theorem en_loop {e it l S:Addr}{b:Bool}{items:Array Value}{R:Result->Shared->Prop}(hh:A.handled=none)(hn:items.size≤sizeLine)(hne:e≠it)(hle:l≠e)(hli:l≠it)(hSe:S≠e)(hSi:S≠it)(hSl:S≠l)(res:Value) :
  ∀ (k i:Nat) (s:Shared) (acc:Array Value) (c:Nat),items.size - i=k->i≤items.size->EnSt s.heap e it i->ItSt b s.heap it l i->SqSt b s.heap l items->s.heap.get? S=some { cls:=.type "list",dict:=none,data:=.seq acc c,slots:=#[] }->Tups s.heap S e it items acc i ->
  (∀ h' tk acc' c',(∀ b o,b≠S->b≠e->b≠it->s.heap.get? b=some o->h'.get? b=some o)->h'.get? S=some { cls:=.type "list",dict:=none,data:=.seq acc' c',slots:=#[] }->Tups h' S e it items acc' items.size->R (.ok (.ret res)) { s with heap:=h',toks:=tk }) ->
  codeAny (model prog w) A (.builtin "list.extend.loop" ⟨[.ref S,.ref e,res],[]⟩) R s:=by
 intro k
 induction k with
 | zero =>
  intro i s acc c hk hi hst hit hl hS ht hR
  have hin:i=items.size:=by omega
  subst hin
  refine codeAny_builtin F.entry_extend_loop ?_
  rw [Around.under_plainId F.plain_extend_loop _]
  show wpAny _ A.in1 (pyNext (.ref e) >>= _) _ _ s
  refine wpAny_bind (enst_end hh hst hit hl hli λh' eb=>?_)
  exact wpAny_pure (hR h' s.toks acc c (λb o _ _ h3 z=>eb b o h3 z) (eb S _ hSi hS) (ht.keep λb o _ _ h3 z=>eb b o h3 z))
 | succ k ih =>
  intro i s acc c hk hi hst hit hl hS ht hR
  have hlt:i<items.size:=by omega
  have hSlt:S<s.heap.objs.size:=Heap.lt_size hS
  have hel:e<s.heap.objs.size:=by
   rcases hst with ⟨old,he⟩ | ⟨T,o,f,old,he,_⟩
   ·exact Heap.lt_size he
   ·exact Heap.lt_size he
  have hil:it<s.heap.objs.size:=by obtain ⟨o,z,_⟩:=hit.obj;exact Heap.lt_size z
  refine codeAny_builtin F.entry_extend_loop ?_
  rw [Around.under_plainId F.plain_extend_loop _]
  show wpAny _ A.in1 (pyNext (.ref e) >>= _) _ _ s
  refine wpAny_bind (enst_item hh hst hit hl hlt hne hle hli λx h' tk hx hst' hit' hT hz hkp=>?_)
  have hS':=hkp S _ hSe hSi hS
  show wpAny _ A.in1 (updateSeq S (·.push (.ref s.heap.objs.size)) >>= _) _ _ _
  refine wpAny_bind ?_
  have oth:∀ b,b≠S->(h'.update S (Obj.mapSeq (·.push (Value.ref s.heap.objs.size)))).get? b=h'.get? b:=λb hb=>Heap.get?_update_other _ _ (Ne.symm hb)
  have hTS:s.heap.objs.size≠S:=Nat.ne_of_gt hSlt
  refine wpAny_updateSeq hS' rfl (wpAny_pure ⟨plainId_quiet F.plain_extend_loop _,ih (i+1) _ (acc.push (.ref s.heap.objs.size)) _ (by omega) hlt ?_ ?_ ?_ (Heap.get?_update_self _ hS' rfl) ⟨by rw [Array.size_push,ht.sz],λj v hv=>?_⟩ λh'' tk' acc' c' hk'' hS'' ht''=>?_⟩)
   (by rw [ht.sz];omega) (by show (acc.push _).size≤sizeLine+1;rw [Array.size_push,ht.sz];omega)
  ·refine hst'.at λb o hb z=>?_
   rcases hb with rfl | hc
   ·exact (oth _ (Ne.symm hSe)).trans z
   ·refine (oth b λq=>?_).trans z
    subst q
    rw [hS'] at z;cases z;simp at hc
  ·exact hit'.at λo z=>(oth it (Ne.symm hSi)).trans z
  ·exact (hl.at λo z=>hkp l o hle hli z).at λo z=>(oth l (Ne.symm hSl)).trans z
  ·rw [Array.getElem?_push] at hv
   split at hv
   ·rename_i ej
    cases hv
    rw [ht.sz] at ej
    subst ej
    exact ⟨_,tk,x,rfl,hx,(oth _ hTS).trans hT,hSlt,Nat.ne_of_gt hel,Nat.ne_of_gt hil⟩
   ·obtain ⟨T,tk2,y,h1,h2,h3,h4,h5,h6⟩:=ht.at_ j v hv
    exact ⟨T,tk2,y,h1,h2,(oth T (Nat.ne_of_gt h4)).trans (hkp T _ h5 h6 h3),h4,h5,h6⟩
  ·exact hR h'' tk' acc' c' (λb o h1 h2 h3 z=>hk'' b o h1 h2 h3 ((oth b h1).trans (hkp b o h2 h3 z))) hS'' ht''
theorem lk_len:typeLookup (.type "enumerate") "__len__" = pure none:=by rw [typeLookup_type,builtinLookup_eq_fast];kernel_rfl
theorem lk_hint:typeLookup (.type "enumerate") "__length_hint__" = pure none:=by rw [typeLookup_type,builtinLookup_eq_fast];kernel_rfl
theorem hint_enum {e:Addr}{Q:Bool->Shared->Prop}(hT:s.TypeIs (.ref e) "enumerate")(h:Q true s):wpAny (model prog w) A (Builtin.List.listLengthHint (.ref e)) Q E s:=by
 unfold Builtin.List.listLengthHint
 refine wpAny_bind (wpAny_specialOf hT lk_len ?_)
 wp_delta
 refine wpAny_ite_split (λhab=>absurd hab (by decide)) (λ_=>?_)
 refine wpAny_ite_split (λhab=>absurd hab (by decide)) (λ_=>?_)
 refine wpAny_bind (wpAny_specialOf hT lk_hint ?_)
 exact wpAny_pure h
theorem en_extend {R:Result->Shared->Prop}{e it l S:Addr}{b:Bool}{items:Array Value}(hh:A.handled=none)(hn:items.size≤sizeLine)(he:IsEnum s.heap e it 0 .none)(hit:ItSt b s.heap it l 0)(hl:SqSt b s.heap l items)(hne:e≠it)(hle:l≠e)(hli:l≠it)(hSe:S≠e)(hSi:S≠it)(hSl:S≠l)(res:Value)(c₀:Nat)(hS:s.heap.get? S=some { cls:=.type "list",data:=.seq #[] c₀ })
  (hR:∀ h' tk acc' c',(∀ b o,b≠S->b≠e->b≠it->s.heap.get? b=some o->h'.get? b=some o)->h'.get? S=some { cls:=.type "list",dict:=none,data:=.seq acc' c',slots:=#[] }->Tups h' S e it items acc' items.size->R (.ok (.ret res)) { s with heap:=h',toks:=tk }) :
  wpAny (model prog w) A.in1 (Builtin.List.listExtendWith (.ref S) (.ref e) res)
   (λfin s'=>match fin with | .done f=>R (.ok f) s' | .again c'=>c'.quiet=true∧codeAny (model prog w) A c' R s') (λe s'=>R (.error e) s') s:=by
 have hT:s.TypeIs (.ref e) "enumerate":=⟨_,he,rfl⟩
 unfold Builtin.List.listExtendWith
 refine wpAny_bind (wpAny_typeOf (T:="enumerate") hT ?_)
 have h1:Builtin.List.listSameRef (.ref S) (.ref e)=false:=by simp [Builtin.List.listSameRef,hSe]
 have h2:(Value.type "enumerate" == Value.type "list")=false:=by decide
 have h3:(Value.type "enumerate" == Value.type "tuple")=false:=by decide
 simp only [h1,h2,h3,Bool.or_false,Bool.false_eq_true,if_false]
 refine wpAny_bind (wpAny_pyIter_enum he ?_)
 refine wpAny_bind (wpAny_holding (hint_enum hT ?_))
 refine wpAny_ite_split (λ_=>?_) (λhab=>absurd (by simp) hab)
 refine wpAny_bind (wpAny_rule ?_)
 refine wpAny_bind ?_
 show wpAny _ _ (updateSeq S (·.push .none) >>= λ_=>updateSeq S (·.pop)) _ _ _
 refine wpAny_bind (wpAny_updateSeq hS rfl ?_)
 have hS₂:=Heap.get?_update_self (Obj.mapSeq (·.push Value.none)) hS rfl
 refine wpAny_updateSeq (hz:=by seq_fits) hS₂ rfl ?_
 have hS₃:=Heap.get?_update_self (Obj.mapSeq (·.pop)) hS₂ rfl
 have oth:∀ b o,b≠S->s.heap.get? b=some o->((s.heap.update S (Obj.mapSeq (·.push Value.none))).update S (Obj.mapSeq (·.pop))).get? b=some o:=λb o hb z=>(Heap.get?_update_other _ _ (Ne.symm hb)).trans ((Heap.get?_update_other _ _ (Ne.symm hb)).trans z)
 refine wpAny_pure ⟨plainId_quiet F.plain_extend_loop _,?_⟩
 refine en_loop hh hn hne hle hli hSe hSi hSl res items.size 0 _ #[] _ (by omega) (Nat.zero_le _) (.inl ⟨_,oth e _ (Ne.symm hSe) he⟩) (hit.at λo z=>oth it o (Ne.symm hSi) z) (hl.at λo z=>oth l o (Ne.symm hSl) z) hS₃ ⟨rfl,λj v hv=>by simp at hv⟩ λh' tk acc' c' hk hS' ht=>?_
 exact hR h' tk acc' c' (λb o h1 h2 h3 z=>hk b o h1 h2 h3 (oth b o h1 z)) hS' ht
theorem en_init {R:Result->Shared->Prop}{e it l S:Addr}{b:Bool}{items:Array Value}(hh:A.handled=none)(hn:items.size≤sizeLine)(he:IsEnum s.heap e it 0 .none)(hit:ItSt b s.heap it l 0)(hl:SqSt b s.heap l items)(hne:e≠it)(hle:l≠e)(hli:l≠it)(hSe:S≠e)(hSi:S≠it)(hSl:S≠l)(hS:s.heap.get? S=some { cls:=.type "list",data:=.seq #[] })
  (hR:∀ h' tk acc' c',(∀ b o,b≠S->b≠e->b≠it->s.heap.get? b=some o->h'.get? b=some o)->h'.get? S=some { cls:=.type "list",dict:=none,data:=.seq acc' c',slots:=#[] }->Tups h' S e it items acc' items.size->R (.ok (.ret .none)) { s with heap:=h',toks:=tk }) :
  wpAny (model prog w) A.in1 (Builtin.«list.__init__» ⟨[.ref S,.ref e],[]⟩)
   (λfin s'=>match fin with | .done f=>R (.ok f) s' | .again c'=>c'.quiet=true∧codeAny (model prog w) A c' R s') (λe s'=>R (.error e) s') s:=by
 show wpAny _ _ (do let old ← Builtin.List.listItems (.ref S);Builtin.List.listUpdate (.ref S) (λ_=>#[]);letGo old.toList.reverse;Builtin.List.listExtendWith (.ref S) (.ref e) .none) _ _ s
 refine wpAny_bind ?_
 unfold Builtin.List.listItems
 refine wpAny_bind (wpAny_seqItems hS rfl (wpAny_pure ?_))
 show wpAny _ _ (updateSeq S (λ_=>#[]) >>= λ_=>letGo (#[]:Array Value).toList.reverse >>= λ_=>Builtin.List.listExtendWith (.ref S) (.ref e) .none) _ _ s
 refine wpAny_bind (wpAny_updateSeq hS rfl ?_)
 have hS₂:=Heap.get?_update_self (Obj.mapSeq (λ_=>(#[]:Array Value))) hS rfl
 have oth:∀ b o,b≠S->s.heap.get? b=some o->(s.heap.update S (Obj.mapSeq (λ_=>(#[]:Array Value)))).get? b=some o :=
  λb o hb e=>(Heap.get?_update_other _ _ (Ne.symm hb)).trans e
 refine wpAny_bind (wpAny_letGo ?_)
 refine en_extend hh hn (oth e _ (Ne.symm hSe) he) (hit.at λo z=>oth it o (Ne.symm hSi) z) (hl.at λo z=>oth l o (Ne.symm hSl) z) hne hle hli hSe hSi hSl .none _ hS₂ λh' tk acc' c' hk hS' hacc=>?_
 exact hR h' tk acc' c' (λb o h1 h2 h3 e=>hk b o h1 h2 h3 (oth b o h1 e)) hS' hacc
theorem call_list_enum {Q:Value->Shared->Prop}{e it l:Addr}{b:Bool}{items:Array Value}(hh:A.handled=none)(hn:items.size≤sizeLine)(he:IsEnum s.heap e it 0 .none)(hit:ItSt b s.heap it l 0)(hl:SqSt b s.heap l items)(hne:e≠it)(hle:l≠e)(hli:l≠it)
  (hQ:∀ h' tk acc' c',(∀ b o,b≠e->b≠it->s.heap.get? b=some o->h'.get? b=some o) ->
   h'.get? s.heap.objs.size=some { cls:=.type "list",dict:=none,data:=.seq acc' c',slots:=#[] }->Tups h' s.heap.objs.size e it items acc' items.size->Q (.ref s.heap.objs.size) { s with heap:=h',toks:=tk }) :
  wpAny (model prog w) A (call (.type "list") [.ref e]) Q E s:=by
 have lt:∀ {a o},s.heap.get? a=some o->s.heap.objs.size≠a:=λz=>Nat.ne_of_gt (Heap.lt_size z)
 have hll:s.heap.objs.size≠l:=by
  cases b
  ·obtain ⟨o,z,_⟩:=(show s.heap.IsTuple l items from hl);exact lt z
  ·obtain ⟨o,z,_⟩:=(show s.heap.IsList l items from hl);exact lt z
 have hil:s.heap.objs.size≠it:=by obtain ⟨o,z,_⟩:=hit.obj;exact lt z
 refine callType_codes (Q₁:=λobj s₁=>obj = .ref s.heap.objs.size∧s₁={ s with heap:=s.heap.push { cls:=.type "list",data:=.seq #[] } }) F.called_list (F.typeCall_list_1 _) F.entry_list_init
  (code_list_new _ ⟨rfl,rfl⟩) λobj s₁ h₁=>?_
 obtain ⟨rfl,rfl⟩:=h₁
 have hS:(s.heap.push { cls:=.type "list",data:=.seq #[] }).get? s.heap.objs.size=some { cls:=.type "list",data:=.seq #[] }:=Heap.get?_push_size _ rfl
 refine ⟨⟨_,hS,rfl⟩,F.args_list_init_2 _ _,en_init (A:=A.in1) hh hn (Heap.get?_push_of_some _ he) (hit.at λo z=>Heap.get?_push_of_some _ z) (hl.at λo z=>Heap.get?_push_of_some _ z) hne hle hli (lt he) hil hll hS λh' tk acc' c' hk hS' hacc=>?_⟩
 exact ⟨rfl,hQ h' tk acc' c' (λb o h1 h2 e=>hk b o (Ne.symm (lt e)) h1 h2 (Heap.get?_push_of_some _ e)) hS' hacc⟩
end
section
variable {X:Cx}{K:PySem.W.Frag}{p p2 pos pos2:Pos}
noncomputable def phE (n0 e it a:Nat):Heap->Prop:=λh=>IsEnum h e it 0 .none∧n0≤e∧n0≤it∧e≠it∧a≠e∧a≠it
noncomputable def phI (b:Bool)(it a:Addr):Heap->Prop:=λh=>ItSt b h it a 0
noncomputable def tEn (n0:Nat)(K:PySem.W.Frag)(tl:TA):TE:=λσ H Q=>tl σ H λxs H1=>∃ a,xs=[.ref a]∧∃ b ys,SqA b K H1 a ys∧∀ it e,H1 it=none->H1 e=none->it≠e->Q (.ref e) (upd (upd H1 it (.ext (phI b it a))) e (.ext (phE n0 e it a)))
theorem pe_enum {l:Expr}{tl:TA}(hK:X.K=K)(hg:Gl X "enumerate")(hm:X.mg "enumerate" = none)(ha:PA X [l] tl)(hs:starEach [l] X.env=[(false,eval l X.env)]:=by rfl):PE X (.Call (.Name "enumerate" p) [l] [] pos) (tEn X.s₀.heap.objs.size K tl):=by
 subst hK
 intro pins s σ H R I h
 refine Call_ (ld_blt I hg hm boot_enumerate (PyProof.Rows.callWith_type1 (thn (ha pos pins s σ H _ I h) λus s1 ⟨vs,H1,I1,r1,q1⟩=>?_) hs rfl))
 obtain ⟨a,e,b,ys,hq,q⟩:=q1
 subst e
 cases r1 with
 | cons r rr =>
  cases rr
  cases r
  obtain ⟨its,rv,p⟩:=SqA.get I1 hq
  refine call_enum p λh' he hit hz hk=>?_
  have hal:a<s1.heap.objs.size:=by
   cases b
   ·obtain ⟨o,z,_⟩:=(show s1.heap.IsTuple a its.toArray from p);exact Heap.lt_size z
   ·obtain ⟨o,z,_⟩:=(show s1.heap.IsList a its.toArray from p);exact Heap.lt_size z
  have n0:H1 s1.heap.objs.size=none:=I1.hok.fresh (Nat.le_refl _)
  have n1:H1 (s1.heap.objs.size+1)=none:=I1.hok.fresh (Nat.le_succ _)
  refine ⟨.ref (s1.heap.objs.size+1),_,?_,rfl,q s1.heap.objs.size (s1.heap.objs.size+1) n0 n1 (Nat.ne_of_lt (Nat.lt_succ_self _))⟩
  have hne:s1.heap.objs.size+1≠s1.heap.objs.size:=Nat.succ_ne_self _
  have sm:∀ c o,H1 c=some o->upd (upd H1 s1.heap.objs.size (.ext (phI b s1.heap.objs.size a))) (s1.heap.objs.size+1) (.ext (phE X.s₀.heap.objs.size (s1.heap.objs.size+1) s1.heap.objs.size a)) c=some o:=λc o z=>by
   rw [upd_ne (ne_of_none z n1),upd_ne (ne_of_none z n0)];exact z
  refine I1.un (t':=s1.toks) ⟨λb u q _ _ _=>hk b u q,λb u q _ _ _=>⟨u.slots,hk b u q⟩,λb u q n _=>?_,λb u q _=>⟨u,hk b u q⟩,λb xs q=>sm _ _ q,λb u xs q=>sm _ _ q,λb ps q=>⟨#[],by rw [sm _ _ q];simp⟩⟩ λc u ec=>?_
  ·have hb:=Heap.lt_size q
   rw [upd_ne (Nat.ne_of_lt (Nat.lt_succ_of_lt hb)),upd_ne (Nat.ne_of_lt hb)];exact n
  ·by_cases c1:c=s1.heap.objs.size+1
   ·subst c1
    rw [upd_same] at ec;cases ec
    refine ⟨⟨he,Nat.le_succ_of_le I1.sz,I1.sz,hne,Nat.ne_of_lt (Nat.lt_succ_of_lt hal),Nat.ne_of_lt hal⟩,⟨_,he⟩,λh1 h2 z k=>⟨k _ z.1,z.2⟩⟩
   ·rw [upd_ne c1] at ec
    by_cases c2:c=s1.heap.objs.size
    ·subst c2
     rw [upd_same] at ec;cases ec
     exact ⟨hit,let ⟨o,z,_⟩:=hit.obj;⟨o,z⟩,λh1 h2 z k=>ItSt.at (show ItSt b h1 _ a 0 from z) k⟩
    ·rw [upd_ne c2] at ec
     exact (I1.hok c u ec).stay (λd v _ z=>hk d v z) (λd z=>sm d _ z) λd xs z=>sm d _ z
noncomputable def enH (H:Hp)(S e it:Addr)(acc:Array Value)(ts:List Addr)(ys:List V):Hp:=λb =>
 open Classical in
 if b=e∨b=it then none else if b=S then some (.lst (ts.map V.ref)) else if h:∃ j:Nat,ts[j]? = some b then some (.tup [.int (h.choose:Nat),ys.getD h.choose .non]) else H b
noncomputable def rLEn (n0:Nat)(K:PySem.W.Frag):List V->Hp->VK->Prop:=λxs H Q=>∃ e it a b ys,xs=[.ref e]∧H e=some (.ext (phE n0 e it a))∧H it=some (.ext (phI b it a))∧SqA b K H a ys∧ys.length≤1000 ∧
 ∀ H' l (ts:List Addr),H l=none->ts.length=ys.length->(∀ (j:Nat) t,ts[j]? = some t->H t=none∧∃ y,ys[j]? = some y∧H' t=some (.tup [.int (j:Nat),y]))->H' l=some (.lst (ts.map V.ref)) ->
  (∀ c o,c≠e->c≠it->H c=some o->H' c=some o)->Q (.ref l) H'
theorem vals_len {xs:List V}{us:List Value}(h:Vals xs us):us.length=xs.length:=by
 induction h with
 | nil=>rfl
 | cons _ _ ih=>simp [ih]
theorem vals_refs:∀ ts:List Addr,Vals (ts.map V.ref) (ts.map Value.ref)
 | []=>.nil
 | _::r=>.cons rfl (vals_refs r)
theorem call_list_en (hK:X.K=K)(hc:X.calm=true):CallR X (.type "list") (rLEn X.s₀.heap.objs.size K):=by
 subst hK
 intro pins s σ H xs us Q I r h
 obtain ⟨e,it,a,b,ys,rfl,he,hi,hq,hz,q⟩:=h
 obtain ⟨u,rfl,ru⟩:=vals1 r
 cases ru
 obtain ⟨⟨pe,p1,p2,n1,n2,n3⟩,_,_⟩:=I.hok e _ he
 obtain ⟨pi,_,_⟩:=I.hok it _ hi
 obtain ⟨its,rv,pq⟩:=SqA.get I hq
 have hlen:its.length=ys.length:=vals_len rv
 refine call_list_enum (I.ok.hd hc) (by rw [List.size_toArray,hlen];exact Nat.le_of_lt (small1000 hz)) pe pi pq n1 n2 n3 λh' tk acc c' hk hS ht=>?_
 obtain ⟨ts,hts,hacc⟩:∃ ts:List Addr,acc.toList=ts.map Value.ref∧ts.length=ys.length:=by
  have all:∀ l:List Value,(∀ v∈l,∃ T,v = .ref T)->∃ ts:List Addr,l=ts.map Value.ref:=by
   intro l
   induction l with
   | nil=>intro _;exact ⟨[],rfl⟩
   | cons v r ih =>
    intro hv
    obtain ⟨T,rfl⟩:=hv v (by simp)
    obtain ⟨ts,rfl⟩:=ih λw hw=>hv w (by simp [hw])
    exact ⟨T::ts,rfl⟩
  obtain ⟨ts,e1⟩:=all acc.toList λv hv=>by
   obtain ⟨j,hj⟩:=List.getElem?_of_mem hv
   obtain ⟨T,_,_,rfl,_⟩:=ht.at_ j v (by rw [← Array.getElem?_toList];exact hj)
   exact ⟨T,rfl⟩
  refine ⟨ts,e1,?_⟩
  have:acc.toList.length=ts.length:=by rw [e1,List.length_map]
  rw [← this,Array.length_toList,ht.sz,List.size_toArray,hlen]
 have at_:∀ (j:Nat) T,ts[j]? = some T->∃ tk x y,its[j]? = some x∧ys[j]? = some y∧RelV y x∧h'.get? T=some { cls:=.type "tuple",data:=.seq #[.int j tk,x] }∧s.heap.objs.size<T∧T≠e∧T≠it:=λj T hj=>by
  obtain ⟨T',tk,x,e1,e2,e3,e4,e5,e6⟩:=ht.at_ j (.ref T) (by rw [← Array.getElem?_toList,hts,List.getElem?_map,hj];rfl)
  cases e1
  have e2:its[j]? = some x:=by simpa using e2
  have hjl:j<ys.length:=by rw [← hlen];exact (List.getElem?_eq_some_iff.mp e2).1
  obtain ⟨u,hu,ru⟩:=rv.get (List.getElem?_eq_getElem hjl)
  rw [e2] at hu;cases hu
  exact ⟨tk,x,_,e2,List.getElem?_eq_getElem hjl,ru,e3,e4,e5,e6⟩
 have uni:∀ (i j:Nat) T,ts[i]? = some T->ts[j]? = some T->i=j:=λi j T hi hj=>by
  obtain ⟨_,_,_,_,_,_,z1,_⟩:=at_ i T hi
  obtain ⟨_,_,_,_,_,_,z2,_⟩:=at_ j T hj
  rw [z1] at z2
  simp at z2
  omega
 have nS:H s.heap.objs.size=none:=I.hok.fresh (Nat.le_refl _)
 have hel:e<s.heap.objs.size:=I.hok.lt he
 have hil:it<s.heap.objs.size:=I.hok.lt hi
 have low:∀ c,c<s.heap.objs.size->c≠e->c≠it->enH H s.heap.objs.size e it acc ts ys c=H c:=λc hc h1 h2=>by
  have hn:¬ ∃ j:Nat,ts[j]? = some c:=λ⟨j,hj⟩=>by
   obtain ⟨_,_,_,_,_,_,_,z,_⟩:=at_ j c hj
   exact absurd (Nat.lt_trans hc z) (Nat.lt_irrefl _)
  unfold enH
  rw [if_neg (by simp [h1,h2]),if_neg (Nat.ne_of_lt hc),dif_neg hn]
 have hold:∀ c o,c≠e->c≠it->H c=some o->enH H s.heap.objs.size e it acc ts ys c=some o:=λc o h1 h2 z=>by rw [low c (I.hok.lt z) h1 h2];exact z
 have topv:∀ (j:Nat) T,ts[j]? = some T->∃ y,ys[j]? = some y∧enH H s.heap.objs.size e it acc ts ys T=some (.tup [.int (j:Nat),y]):=λj T hj=>by
  obtain ⟨_,_,y,_,hy,_,_,z,z1,z2⟩:=at_ j T hj
  refine ⟨y,hy,?_⟩
  have ex:∃ j:Nat,ts[j]? = some T:=⟨j,hj⟩
  unfold enH
  rw [if_neg (by simp [z1,z2]),if_neg (Nat.ne_of_gt z),dif_pos ex]
  have:ex.choose=j:=uni _ _ T ex.choose_spec hj
  rw [this]
  simp [hy]
 have eS:enH H s.heap.objs.size e it acc ts ys s.heap.objs.size=some (.lst (ts.map V.ref)):=by
  unfold enH
  rw [if_neg (by simp [Nat.ne_of_gt hel,Nat.ne_of_gt hil]),if_pos rfl]
 have ntr:∀ c,H c=none->c≠e∧c≠it:=λc z=>⟨λw=>(by rw [w,he] at z;cases z),λw=>(by rw [w,hi] at z;cases z)⟩
 have npl:∀ c o,H c=some o->(∀ φ,o ≠ .ext φ)->c≠e∧c≠it:=λc o z w=>⟨λx=>(by rw [x,he] at z;cases z;exact w _ rfl),λx=>(by rw [x,hi] at z;cases z;exact w _ rfl)⟩
 have cin:∀ c,c ∉ [e,it]->c≠e∧c≠it:=λc z=>⟨λw=>z (by simp [w]),λw=>z (by simp [w])⟩
 have I1:Inv X pins σ (enH H s.heap.objs.size e it acc ts ys) { s with heap:=h',toks:=tk }:=by
  refine I.step (g':=s.gens) (d':=s.drawn) (ch:=[e,it]) (λc hc=>?_) (λc o _ _ hc z _=>hk c o (cin c hc).1 (cin c hc).2 z) (λc o _ _ hc z _=>⟨o.slots,hk c o (cin c hc).1 (cin c hc).2 z⟩)
   (λc o hc z n=>by rw [low c (Heap.lt_size z) (cin c hc).1 (cin c hc).2];exact n) (λc o hc z=>⟨o,hk c o (cin c hc).1 (cin c hc).2 z⟩)
   (λc xs z=>let w:=npl c _ z (λ_ y=>by cases y);hold c _ w.1 w.2 z) (λc o u z=>let w:=npl c _ z (λ_ y=>by cases y);hold c _ w.1 w.2 z)
   (λc ps z=>let w:=npl c _ z (λ_ y=>by cases y);⟨#[],by rw [hold c _ w.1 w.2 z];simp⟩) (λm hm=>?_) (λc u ec=>?_) I.bare
  ·have hs:∃ φ,H c=some (.ext φ):=by
    rcases List.mem_cons.mp hc with rfl | hc
    ·exact ⟨_,he⟩
    ·rw [List.mem_singleton.mp hc];exact ⟨_,hi⟩
   obtain ⟨φ,hs⟩:=hs
   refine ⟨.inr ?_,λz=>?_,λx d z w=>?_,λpp hp w=>?_⟩
   ·rcases List.mem_cons.mp hc with rfl | hc
    ·exact p1
    ·rw [List.mem_singleton.mp hc];exact p2
   ·rw [z,I.free] at hs;cases hs
   ·rw [← w,I.freeC x d z] at hs;cases hs
   ·rw [← w,(I.pin pp hp).2.1] at hs;cases hs
  ·obtain ⟨o,es,ep,ho,r⟩:=hm
   have w:=ntr _ I.free
   exact ⟨o,es,ep,hk _ o w.1 w.2 ho,r⟩
  ·by_cases c0:c=e∨c=it
   ·unfold enH at ec;rw [if_pos c0] at ec;cases ec
   have c1:c≠e:=λz=>c0 (.inl z)
   have c2:c≠it:=λz=>c0 (.inr z)
   by_cases c3:c=s.heap.objs.size
   ·subst c3
    rw [eS] at ec;cases ec
    refine ⟨by rw [List.length_map,hacc];exact Nat.le_of_lt (small1000 hz),acc.toList,c',?_,by rw [hS]⟩
    rw [hts]
    exact vals_refs ts
   ·by_cases ex:∃ j:Nat,ts[j]? = some c
    ·obtain ⟨j,hj⟩:=ex
     obtain ⟨y,hy,e2⟩:=topv j c hj
     obtain ⟨tk,x,y',hx,hy',ry,z,_⟩:=at_ j c hj
     rw [hy] at hy';cases hy'
     rw [e2] at ec;cases ec
     exact ⟨Nat.le_trans (show 2≤10000 by decide) (by rw [sizeLine_eq];decide),[.int j tk,x],.cons ⟨tk,rfl⟩ (.cons ry .nil),⟨_,z,rfl,_,rfl⟩⟩
    ·have ec':H c=some u:=by
      unfold enH at ec
      rwa [if_neg c0,if_neg c3,dif_neg ex] at ec
     refine (I.hok c u ec').stay (λd v hd z=>?_) (λd z=>let w:=npl d _ z (λ_ y=>by cases y);hold d _ w.1 w.2 z) λd xs z=>let w:=npl d _ z (λ_ y=>by cases y);hold d _ w.1 w.2 z
     rcases hd with rfl | hd
     ·exact hk _ v c1 c2 z
     ·have w:=npl d _ hd (λ_ y=>by cases y)
      exact hk d v w.1 w.2 z
 refine ⟨.ref s.heap.objs.size,_,I1,rfl,q _ _ ts nS hacc (λj T hj=>?_) eS hold⟩
 obtain ⟨y,hy,e2⟩:=topv j T hj
 obtain ⟨_,_,_,_,_,_,_,z,_⟩:=at_ j T hj
 exact ⟨I.hok.fresh (Nat.le_of_lt z),y,hy,e2⟩
end
section
variable {prog:Program}{w:World}{A:Around}{E:Value->Shared->Prop}{s:Shared}
theorem sum_intTuple {l:Addr}{xs:Array (Int×Tok)}{Q:Value->Shared->Prop}(hh:A.handled=none)(hl:s.heap.IsTuple l (intItems xs))
  (h:∀ h' tk t',(∀ b o,s.heap.get? b=some o->h'.get? b=some o)->Q (.int (preSum (numAt xs) xs.size) t') { s with heap:=h',toks:=tk }) :
  wpAny (model prog w) A (call (.builtin "sum") [.ref l]) Q E s:=by
 have hlt:l<s.heap.objs.size:=by obtain ⟨_,e,_⟩:=hl;exact Heap.lt_size e
 refine call_sum_walkG (wpAny_pyIter_tuple hl ?_)
 refine ⟨s.heap.objs.size,[s.heap.objs.size,l],[s.heap.objs.size],_,_,_,numAt xs,rfl,Walks.tuple (A:=A.in1) hh _ l (Nat.ne_of_lt hlt) (intItems xs),⟨⟨_,Heap.get?_push_size _ rfl,rfl,rfl⟩,hl.push _⟩,λb hb=>?_,(λ_ _=>intItems_at),λh' tk t' hk=>?_⟩
 ·show b<(s.heap.push _).objs.size
  rw [Heap.size_push]
  rcases List.mem_cons.mp hb with rfl | hb
  ·exact Nat.lt_succ_self _
  ·rw [List.mem_singleton.mp hb];exact Nat.lt_succ_of_lt hlt
 ·have:=h h' tk t' λb o e=>hk b o (λhm=>by rw [List.mem_singleton.mp hm] at e;exact absurd (Heap.lt_size e) (Nat.lt_irrefl _)) (Heap.get?_push_of_some _ e)
  simpa [intItems] using this
end
section
variable {X:Cx}{K:PySem.W.Frag}{p p2 pos pos2:Pos}
theorem call_sumT (hc:X.calm=true):CallR X (.builtin "sum") (λxs H Q=>∃ (a:Addr) (ns:List Int),xs=[.ref a]∧SqT X.K H a (ns.map V.int)∧Q (.int ns.sum) H):=by
 intro pins s σ H xs us Q I r h
 obtain ⟨a,ns,rfl,hq,q⟩:=h
 obtain ⟨u,rfl,ru⟩:=vals1 r
 cases ru
 obtain ⟨its,rv,p,hz⟩:=I.tuple hq
 have hi:=intsAre_of rv
 obtain ⟨zs,hzs⟩:=hi.allInts.items
 have hl:s.heap.IsTuple a (intItems zs):=hzs ▸ p
 refine sum_intTuple (I.ok.hd hc) hl λh' tk t' hk=>⟨.int ns.sum,H,I.kept hk,⟨t',?_⟩,q⟩
 have hn:=hi.numsOf
 have e:numsOf (intItems zs).toList=ns:=by rw [← hzs];exact hn
 rw [nums_intItems] at e
 rw [preSum_eq,List.take_of_length_le (by simp),e]
noncomputable def sumD':List PyData->Option PyData
 | [.list ds]=>(intsOf ds).map λns=>.int ns.sum
 | [.tuple ds]=>(intsOf ds).map λns=>.int ns.sum
 | _=>none
theorem cd_sum' (hK:X.K=K)(hc:X.calm=true):CallR X (.builtin "sum") (rDN K sumD'):=by
 subst hK
 intro pins s σ H xs us Q I r h
 obtain ⟨fp,B,ds,z,bk,h1,hf,q⟩:=h
 unfold sumD' at hf
 split at hf <;> try cases hf
 ·obtain ⟨ns,e,rfl⟩:=Option.map_eq_some_iff.mp hf
  cases intsOf_some e
  obtain ⟨v,rfl,a,xs,rfl,ha,hd⟩:=shs1 h1 rfl
  cases ints_v hd
  exact call_sum hc pins s σ H _ us Q I r ⟨a,ns,rfl,SqL.of (hid_same _ _ ha),q _ H (Same.refl H) DatIs.int⟩
 ·obtain ⟨ns,e,rfl⟩:=Option.map_eq_some_iff.mp hf
  cases intsOf_some e
  obtain ⟨v,rfl,a,xs,rfl,ha,hd⟩:=shs1 h1 rfl
  cases ints_v hd
  exact call_sumT hc pins s σ H _ us Q I r ⟨a,ns,rfl,ha.same hid_same,q _ H (Same.refl H) DatIs.int⟩
theorem en_dats {H':Hp}:∀ (ys:List PyData) (xs:List V) (ts:List Addr) (k:Nat),ts.length=xs.length->DatsAre K H' ys xs->(∀ (j:Nat) t,ts[j]? = some t->∃ y,xs[j]? = some y∧H' t=some (.tup [.int ((k+j:Nat)),y]))->DatsAre K H' (enumL k ys) (ts.map V.ref)
 | [],xs,ts,k,hl,h,_=>by
  simp only [DatsAre] at h
  subst h
  cases ts with
  | nil=>exact DatsAre.nil
  | cons t r=>simp at hl
 | y::ys,xs,ts,k,hl,h,ha=>by
  simp only [DatsAre] at h
  obtain ⟨x,r,rfl,h1,h2⟩:=h
  cases ts with
  | nil=>simp at hl
  | cons t ts =>
   obtain ⟨z,e1,e2⟩:=ha 0 t rfl
   cases e1
   refine ⟨_,_,rfl,DatIs.tup e2 ⟨_,_,rfl,DatIs.int,_,_,rfl,h1,rfl⟩,en_dats ys r ts (k+1) (by simpa using hl) h2 λj u hu=>?_⟩
   obtain ⟨z,e1,e2⟩:=ha (j+1) u (by simpa using hu)
   exact ⟨z,by simpa using e1,by rw [show k+1+j=k+(j+1) by omega];exact e2⟩
variable [Feeds]
noncomputable def sLEn (m:DE->M PyData):DE->M PyData:=λE F=>(m E F).bind λp=>(seqOf p.1).bind λds=>if ds.length≤1000 then some (.list (enumL 0 ds),p.2) else none
theorem len_d {B:List Addr}{H1:Hp}{a:Addr}{b:Bool}{xs:List V}{ys:List PyData}{Q:VK}{n0:Nat}{fp:List Addr}(hq:SqA b K H1 a xs)(hd:DatsAre K (hid H1 B) ys xs)(hz:ys.length≤1000)(bk:BOk H1 B)
  (q:∀ H' l,Same H1 H'->DatIs K (hid H' B) (.list (enumL 0 ys)) (.ref l)->Q (.ref l) H'):∀ it e,H1 it=none->H1 e=none->it≠e->rLEn n0 K [.ref e] (upd (upd H1 it (.ext (phI b it a))) e (.ext (phE n0 e it a))) Q:=by
 intro it e n1 n2 hne
 have sm2:Same H1 (upd (upd H1 it (.ext (phI b it a))) e (.ext (phE n0 e it a))):=λc o z=>by
  rw [upd_ne (ne_of_none z n2),upd_ne (ne_of_none z n1)];exact z
 refine ⟨e,it,a,b,xs,rfl,upd_same,by rw [upd_ne hne];exact upd_same,?_,by rw [hd.length];exact hz,λH' l ts hl hlen hat hl' hk=>?_⟩
 ·cases b
  ·exact SqT.same (show SqT K H1 a xs from hq) sm2
  ·rcases (show SqL K H1 a xs from hq) with (z | ⟨o,z⟩) | z
   ·exact .inl (.inl (sm2 _ _ z))
   ·exact .inl (.inr ⟨o,sm2 _ _ z⟩)
   ·exact .inr z
 ·have nn:∀ c,upd (upd H1 it (.ext (phI b it a))) e (.ext (phE n0 e it a)) c=none->H1 c=none:=λc z=>by
   cases w:H1 c with
   | none=>rfl
   | some o=>rw [sm2 c o w] at z;cases z
  have sm:Same H1 H':=λc o z=>hk c o (ne_of_none z n2) (ne_of_none z n1) (sm2 c o z)
  refine q H' l sm (DatIs.lst (by rw [hid_out (bk.nin (nn l hl))];exact hl') (en_dats ys xs ts 0 hlen (hd.same ((Kp.same (fp:=[]) sm).hid (by simp))) λj t hj=>?_))
  obtain ⟨h1,y,h2,h3⟩:=hat j t hj
  exact ⟨y,h2,by rw [hid_out (bk.nin (nn t h1)),Nat.zero_add];exact h3⟩
theorem ev_lenum {e:Expr}{te:TE}{m:DE->M PyData}(h:Ev K X e te m)(hc:X.calm=true)(hm:X.mg "enumerate" = none)(hml:X.mg "list" = none)(hbt:bootBuiltins "list" = some (.type "list"))(hK:X.K=K:=by rfl)(hg:Gl X "enumerate":=by rfl)(hgl:Gl X "list":=by rfl)(hs:starEach [e] X.env=[(false,eval e X.env)]:=by rfl)
  (he:starEach [.Call (.Name "enumerate" p2) [e] [] pos2] X.env=(false,eval (.Call (.Name "enumerate" p2) [e] [] pos2) X.env)::starEach [] X.env:=by rfl) (hpl:(backTo pos (starEach [] X.env)).any (·.1)=false:=by rfl) :
  Ev K X (.Call (.Name "list" p) [.Call (.Name "enumerate" p2) [e] [] pos2] [] pos) (tCB (rLEn X.s₀.heap.objs.size K) (tCons (tEn X.s₀.heap.objs.size K (tCons te tNil)) tNil)) (sLEn m) :=
 ⟨pe_callTy (call_list_en hK hc) hgl hml hbt (pa_cons (pe_enum hK hg hm (pa_cons h.pe pa_nil hs) hs) pa_nil he) (by decide) (by decide) he hpl,λG B E F σ H Q d F' I e q=>by
  obtain ⟨⟨y,F1⟩,e1,e⟩:=Option.bind_eq_some_iff.mp e
  obtain ⟨z,e2,e⟩:=Option.bind_eq_some_iff.mp e
  split at e
  ·rename_i hz
   cases e
   refine h.ok G B E F σ H _ y F1 I e1 λv H1 k1 f1 h1=>?_
   have bk1:=bok_step I.bk k1 f1
   cases y with
   | list ys =>
    cases e2
    simp only [DatIs] at h1
    obtain ⟨a,xs,rfl,ha,hd⟩:=h1
    exact ⟨a,rfl,true,xs,SqL.of (hid_same _ _ ha),len_d (fp:=[]) (SqL.of (hid_same _ _ ha)) hd hz bk1 λH' l sm hh=>q _ _ (k1.trans (Kp.same sm)) (f1.same sm) hh⟩
   | tuple ys =>
    cases e2
    simp only [DatIs] at h1
    obtain ⟨a,xs,rfl,ha,hd⟩:=h1
    exact ⟨a,rfl,false,xs,ha.same hid_same,len_d (fp:=[]) (ha.same hid_same) hd hz bk1 λH' l sm hh=>q _ _ (k1.trans (Kp.same sm)) (f1.same sm) hh⟩
   | _=>cases e2
  ·cases e⟩
end
end L3
namespace L3
open PySem PySem.Spec PyProof.Rows L2
section
variable {X:Cx}{K:PySem.W.Frag}
noncomputable def maxL:List Int->Int
 | []=>0
 | [x]=>x
 | x::y::r=>max x (maxL (y::r))
theorem maxL_ge:∀ {ns:List Int} {n:Int},n∈ns->n≤maxL ns
 | [],n,h=>by cases h
 | [x],n,h=>by simp at h;subst h;exact Int.le_refl _
 | x::y::r,n,h=>by
  rw [maxL]
  rcases List.mem_cons.mp h with rfl | h
  ·omega
  ·have:=maxL_ge (ns:=y::r) h;omega
theorem maxL_mem:∀ {ns:List Int},ns≠[]->maxL ns∈ns
 | [],h=>absurd rfl h
 | [x],_=>by simp [maxL]
 | x::y::r,_=>by
  have:=maxL_mem (ns:=y::r) (by simp)
  rw [maxL]
  rcases Int.le_total x (maxL (y::r)) with z | z
  ·rw [Int.max_eq_right z];exact List.mem_cons_of_mem _ this
  ·rw [Int.max_eq_left z];exact List.mem_cons_self
noncomputable def rMaxL (K:PySem.W.Frag):List V->Hp->VK->Prop:=λxs H Q=>∃ (a:Addr) (ns:List Int),xs=[.ref a]∧SqL K H a (ns.map V.int)∧ns≠[]∧Q (.int (maxL ns)) H
theorem call_maxL (hK:X.K=K)(hc:X.calm=true):CallR X (.builtin "max") (rMaxL K):=by
 subst hK
 intro pins s σ H xs us Q I r h
 obtain ⟨a,ns,rfl,hq,hne,q⟩:=h
 obtain ⟨u,rfl,ru⟩:=vals1 r
 cases ru
 obtain ⟨its,rv,p,hz⟩:=I.list hq
 have hlen:its.length=ns.length:=by rw [← rv.length,List.length_map]
 have hpos:0<ns.length:=List.length_pos_iff.mpr hne
 have hi:=intsAre_of rv
 obtain ⟨zs,hzs⟩:=hi.allInts.items
 have hl:s.heap.IsList a (intItems zs):=hzs ▸ p.isList
 have hsz:zs.size=ns.length:=by
  have:(intItems zs).size=its.length:=by rw [← hzs];simp
  rw [← hlen,← this];simp [intItems]
 have hval:∀ (i:Nat) (v:Value),its.toArray[i]? = some v->∃ t,v = .int (ns.getD i 0) t:=λi v hv=>by
  have hv:its[i]? = some v:=by simpa using hv
  obtain ⟨hi,_⟩:=List.getElem?_eq_some_iff.mp hv
  have hb:(ns.map V.int)[i]? = some (V.int (ns.getD i 0)):=by
   rw [List.getElem?_map,List.getElem?_eq_getElem (by omega)]
   simp [List.getD,List.getElem?_eq_getElem (show i<ns.length by omega)]
  obtain ⟨u,hu,ru⟩:=rv.get hb
  rw [hv] at hu
  cases hu
  exact ru
 have hnum:∀ i,i<ns.length->numAt zs i=ns.getD i 0:=λi hi=>by
  have hi2:i<its.length:=by omega
  obtain ⟨t,e⟩:=hval i its[i] (by simp [hi2])
  have e2:(intItems zs)[i]? = some its[i]:=by rw [← hzs];simp [hi2]
  have:=intItems_at e2
  obtain ⟨t2,e3⟩:=this
  rw [e] at e3
  injection e3 with e4 _
  exact e4.symm
 refine max_intList (I.ok.hd hc) hl (by omega) λv h' tk hv hk=>?_
 obtain ⟨h1,h2⟩:=argBest_gt (numAt zs) (zs.size - 1)
 obtain ⟨t,e⟩:=intItems_at hv
 subst e
 generalize argBest (λi j=>decide (numAt zs i > numAt zs j)) (zs.size - 1)=j at *
 have hj:j<ns.length:=by omega
 have em:numAt zs j=maxL ns:=by
  rw [hnum j hj]
  refine Int.le_antisymm (maxL_ge (getD_mem hj)) ?_
  obtain ⟨i,hi,e⟩:=mem_getD (maxL_mem hne)
  have:=h2 i (by omega)
  rw [hnum i hi,hnum j hj] at this
  rw [← e]
  exact this
 rw [em]
 exact ⟨.int (maxL ns),H,I.kept hk,⟨t,rfl⟩,q⟩
noncomputable def maxD:List PyData->Option PyData
 | [.list ds]=>(intsOf ds).bind λns=>if ns=[] then none else some (.int (maxL ns))
 | _=>none
theorem cd_max (hK:X.K=K)(hc:X.calm=true):CallR X (.builtin "max") (rDN K maxD):=by
 intro pins s σ H xs us Q I r h
 obtain ⟨fp,B,ds,z,bk,h1,hf,q⟩:=h
 unfold maxD at hf
 split at hf <;> try cases hf
 obtain ⟨ns,e,hf⟩:=Option.bind_eq_some_iff.mp hf
 split at hf
 ·cases hf
 ·rename_i hne
  cases hf
  cases intsOf_some e
  obtain ⟨v,rfl,a,xs,rfl,ha,hd⟩:=shs1 h1 rfl
  cases ints_v hd
  exact call_maxL hK hc pins s σ H _ us Q I r ⟨a,ns,rfl,SqL.of (hid_same _ _ ha),hne,q _ H (Same.refl H) DatIs.int⟩
variable {mg:Str->Option Value}
noncomputable def intsV:List Value->Option (List Int)
 | []=>some []
 | .int x _::r=>(intsV r).map (x :: ·)
 | _=>none
theorem intsV_vals:∀ {us:List Value} {ss:List Int},intsV us=some ss->Vals (ss.map V.int) us∧∀ H,DatsAre K H (ss.map .int) (ss.map V.int)
 | [],ss,h=>by cases h;exact ⟨.nil,λH=>DatsAre.nil⟩
 | u::r,ss,h=>by
  cases u with
  | int x t =>
   obtain ⟨ss',e1,rfl⟩:=Option.map_eq_some_iff.mp (show (intsV r).map (x :: ·)=some ss from h)
   obtain ⟨h1,h2⟩:=intsV_vals e1
   exact ⟨.cons ⟨t,rfl⟩ h1,λH=>⟨_,_,rfl,DatIs.int,h2 H⟩⟩
  | _=>cases h
theorem gd_mkI {h:Heap}{x:Str}{t:Addr}{its:Array Value}{n:Nat}{dd:Option Addr}{sl:Array (Option Value)}{ss:List Int}(X:K.In h)(G:h.Ns mainGlobals mg)(hn:PySem.W.nsIn K mainGlobals x=some (some (.ref t)))(hl:K.lookup t=some ⟨.type "tuple",dd,.seq its n,sl⟩)(hs:intsV its.toList=some ss)(hz:ss.length≤1000):GD K mg x (.tuple (ss.map .int)):=by
 obtain ⟨h1,h2⟩:=intsV_vals (K:=K) hs
 refine ⟨t,PySem.W.mg_of X G hn,λH=>⟨t,ss.map V.int,rfl,.inr ⟨_,its,n,hl,rfl,rfl,?_,h1⟩,h2 H⟩⟩
 have:=h1.length
 rw [List.length_map] at this
 have e:its.size=ss.length:=by rw [this];simp
 rw [e]
 exact Nat.le_trans hz (by rw [sizeLine_eq];decide)
end
section
variable [Feeds]{X:Cx}{K:PySem.W.Frag}
end
end L3
namespace L3
open PySem PySem.Spec PyProof.Rows L2
section
variable {X:Cx}
end
section
variable [Feeds]{X:Cx}{K:PySem.W.Frag}{e:Expr}{te:TE}{m:DE->M PyData}{pos pos':Pos}
noncomputable def mVoid:DE->M Out:=λ_ _=>none
theorem st_void {st:Stmt}:Ss K X st (λ_ _ _=>False) mVoid:=⟨λ_ _ _ _ _ _ h=>h.elim,λ_ _ _ _ _ _ _ _ _ _ _ e=>by cases e⟩
end
end L3
namespace L3
open PySem PySem.Spec PyProof.Rows L2
section
variable {prog:Program}{w:World}{A:Around}{E:Value->Shared->Prop}{s:Shared}
end
section
variable [Feeds]{K:PySem.W.Frag}{X:Cx}{pos:Pos}
end
end L3
namespace L3
open PySem PySem.Spec PyProof.Rows L2
section
variable [Feeds]{X:Cx}{K:PySem.W.Frag}{e:Expr}{te:TE}{m:DE->M PyData}{pos:Pos}
noncomputable def mDo (m:DE->M PyData):DE->M Out:=λE F=>(m E F).bind λp=>some (.nx E,p.2)
theorem do_d (h:TEd K te m):TSd K (tDrop te) (mDo m):=λG B0 H0 E F σ H D r F' S e q=>by
 obtain ⟨⟨d,F1⟩,e1,e⟩:=Option.bind_eq_some_iff.mp e
 cases e
 obtain ⟨B,s,sn,I⟩:=S.ex
 exact h G B E F σ H _ d F1 I e1 λv H1 k1 f1 h1=>q σ H1 (S.step k1 f1)
theorem st_do (h:Ev K X e te m)(hs:swapsWith e none pos.line X.env=pure false:=by rfl):Ss K X (.Expr e pos) (tDrop te) (mDo m):=⟨ps_expr h.pe hs,do_d h.ok⟩
end
end L3
namespace L3
open PySem PySem.Spec PyProof.Rows L2
section
variable [Feeds]{X:Cx}{K:PySem.W.Frag}{e:Expr}{te:TE}{m:DE->M PyData}{pos p2:Pos}
noncomputable def fCut (a:DE->M PyData)(l u:DE->M (Option Int)):DE->M (List PyData):=λE F=>(a E F).bind λp=>(l E p.2).bind λx=>(u E x.2).bind λy=>match p.1 with
 | .list ds=>some (cutL ds x.1 y.1,y.2)
 | _=>none
theorem ef_cut {lo hi:Option Expr}{tl th:TO}{ml mh:DE->M (Option Int)}(he:Eb K X e te m)(hl:Eo K X lo tl ml)(hh:Eo K X hi th mh)(hK:X.K=K:=by rfl):Ef K X (.Subscript e (.Slice lo hi none p2) pos) (tSl (rSlL X.K) te tl th) (fCut m ml mh) :=
 ⟨pe_slice sl_list he.pe hl.po hh.po,λG B E F σ H Q d F' I e q=>by
  obtain ⟨⟨x,F1⟩,e1,e⟩:=Option.bind_eq_some_iff.mp e
  obtain ⟨⟨l,F2⟩,e2,e⟩:=Option.bind_eq_some_iff.mp e
  obtain ⟨⟨h,F3⟩,e3,e⟩:=Option.bind_eq_some_iff.mp e
  refine he.ok G B E F σ H _ x F1 I e1 λv H1 k1 f1 h1=>?_
  refine hl.ok G B E F1 σ H1 _ l F2 (I.step k1 f1) e2 λH2 k2 f2=>?_
  refine hh.ok G B E F2 σ H2 _ h F3 (I.step (k1.trans k2) f2) e3 λH3 k3 f3=>?_
  have h1:=h1.step (k2.trans k3) I.fB
  have k:=(k1.trans k2).trans k3
  dsimp only at e
  split at e
  ·cases e
   obtain ⟨a,xs,rfl,ha,hd⟩:=h1
   refine ⟨a,xs,rfl,SqL.of (hid_same _ _ ha),λp hp=>?_⟩
   have hnf:p ∉ fpOf K G:=λz=>(bok_step I.bk k f3).nin hp (I.fB p z)
   exact q p _ _ (k.none hp hnf) upd_same (k.trans (Kp.upd hp)) (f3.same (Same.upd hp)) ((DatsAre.cut hd l h).same (hid_more hp))
  ·cases e⟩
end
end L3
namespace L3
open PySem PySem.Spec PyProof.Rows L2
theorem len_1 {us:List Value}(h:us.length=1):∃ a,us=[a]:=List.length_eq_one_iff.mp h
theorem len_s {us:List Value}{n:Nat}(h:us.length=n+1):∃ a r,us=a::r∧r.length=n:=by
 cases us with
 | nil=>cases h
 | cons a r=>exact ⟨a,r,rfl,Nat.succ.inj h⟩
theorem len_2 {us:List Value}(h:us.length=2):∃ a b,us=[a,b]:=by
 obtain ⟨a,r,rfl,h2⟩:=len_s h
 obtain ⟨b,rfl⟩:=len_1 h2
 exact ⟨a,b,rfl⟩
mutual
noncomputable def noL:PyData->Bool
 | .tuple ds=>noLs ds
 | .list _=>false
 | .dict _=>false
 | _=>true
noncomputable def noLs:List PyData->Bool
 | []=>true
 | d::ds=>noL d && noLs ds
end
noncomputable def wo (B A:List Addr):List Addr:=B.filter λb=>decide (b ∉ A)
theorem mem_wo {B A:List Addr}{b:Addr}:b∈wo B A↔b∈B∧b ∉ A:=by unfold wo;rw [List.mem_filter];simp
section
variable {K:PySem.W.Frag}{H:Hp}{B A:List Addr}
theorem back_at (hA:∀ a∈A,∃ xs,H a=some (.lst xs)){a:Addr}{u:HO}(h:hid H (wo B A) a=some u)(hu:∀ xs,u ≠ .lst xs):hid H B a=some u:=by
 by_cases hw:a∈wo B A
 ·rw [hid_in hw] at h;cases h
 ·rw [hid_out hw] at h
  rw [hid_out λhb=>?_]
  ·exact h
  ·have:a∈A:=by
    rcases Classical.em (a∈A) with z | z
    ·exact z
    ·exact absurd (mem_wo.mpr ⟨hb,z⟩) hw
   obtain ⟨xs,e⟩:=hA a this
   rw [e] at h;cases h
   exact hu xs rfl
mutual
theorem DatIs.back (hA:∀ a∈A,∃ xs,H a=some (.lst xs)):∀ (d:PyData) (v:V),noL d=true->DatIs K (hid H (wo B A)) d v->DatIs K (hid H B) d v
 | .none,v,_,h=>by simpa only [DatIs] using h
 | .bool b,v,_,h=>by simpa only [DatIs] using h
 | .int i,v,_,h=>by simpa only [DatIs] using h
 | .str x,v,_,h=>by simpa only [DatIs] using h
 | .tuple ds,v,hn,h=>by
  simp only [DatIs] at h ⊢
  obtain ⟨a,xs,e,hq,hd⟩:=h
  refine ⟨a,xs,e,?_,DatsAre.back hA ds xs (by simpa only [noL] using hn) hd⟩
  rcases hq with (hq | ⟨o,hq⟩) | hq
  ·exact .inl (.inl (back_at hA hq λ_ z=>nomatch z))
  ·exact .inl (.inr ⟨o,back_at hA hq λ_ z=>nomatch z⟩)
  ·exact .inr hq
 | .list ds,v,hn,h=>by simp [noL] at hn
 | .dict kvs,v,hn,h=>by simp [noL] at hn
theorem DatsAre.back (hA:∀ a∈A,∃ xs,H a=some (.lst xs)):∀ (ds:List PyData) (xs:List V),noLs ds=true->DatsAre K (hid H (wo B A)) ds xs->DatsAre K (hid H B) ds xs
 | [],xs,_,h=>by simpa only [DatsAre] using h
 | d::ds,xs,hn,h=>by
  simp only [noLs,Bool.and_eq_true] at hn
  simp only [DatsAre] at h ⊢
  obtain ⟨v,r,e,h1,h2⟩:=h
  exact ⟨v,r,e,DatIs.back hA d v hn.1 h1,DatsAre.back hA ds r hn.2 h2⟩
end
end
section
variable [Feeds]
noncomputable def TVo (K:PySem.W.Frag)(ta:TA)(m:DE->M (List DV)):Prop:=∀ (G:GF) (B:List Addr) (E:DE) (F:FS) (σ:St) (H:Hp) (Q:List V->Hp->Prop) (ds:List DV) (F':FS),SitE K G B E F σ H->m E F=some (ds,F') ->
 (∀ vs H' A,Kp (fpOf K G) H H'->FAt K G H' F'->(∀ a∈A,a ∉ fpOf K G∧∃ xs,H' a=some (.lst xs))->ArgR K G (wo B A) H' ds vs->Q vs H')->ta σ H Q
structure Evo (K:PySem.W.Frag) (X:Cx) (es:List Expr) (ta:TA) (m:DE->M (List DV)):Prop where
 pa:PA X es ta
 ok:TVo K ta m
variable {K:PySem.W.Frag}{X:Cx}{e:Expr}{es:List Expr}{te:TE}{m:DE->M PyData}{tl:TA}{ms:DE->M (List DV)}{pos p:Pos}
noncomputable def vO (i:Nat)(r:DE->M (List DV)):DE->M (List DV):=λE F=>match E[i]? with
 | some (some (.own ds))=>(r E F).bind λq=>some (.dat (.list ds)::q.1,q.2)
 | _=>none
theorem ArgR.less {G:GF}{B B':List Addr}{H:Hp}(less:∀ b∈B',b∈B):∀ {zs:List DV} {us:List V},ArgR K G B H zs us->ArgR K G B' H zs us
 | [],us,h=>h
 | z::zs,us,⟨v,r,e,n1,n2,n3⟩=>⟨v,r,e,n1,by
   cases z with
   | dat d=>exact DatIs.same (n2:DatIs _ _ _ _) (hid_sub less)
   | feed=>exact n2
   | fn _=>exact n2
   | own ds=>exact absurd rfl (n1 ds),ArgR.less less n3⟩
theorem avo_nil:Evo K X [] tNil vNil:=⟨pa_nil,λG B E F σ H Q ds F' I e q=>by cases e;exact q [] H [] Kp.refl I.fd (by simp) rfl⟩
theorem avo_d (ha:Ev K X e te m)(hr:Evo K X es tl ms)(hs:starEach (e::es) X.env=(false,eval e X.env)::starEach es X.env:=by rfl):Evo K X (e::es) (tCons te tl) (vD m ms) :=
 ⟨pa_cons ha.pe hr.pa hs,λG B E F σ H Q ds F' I e q=>by
  obtain ⟨⟨x,F1⟩,e1,e⟩:=Option.bind_eq_some_iff.mp e
  obtain ⟨⟨ys,F2⟩,e2,e⟩:=Option.bind_eq_some_iff.mp e
  cases e
  refine ha.ok G B E F σ H _ x F1 I e1 λv H1 k1 f1 h1=>?_
  refine hr.ok G B E F1 σ H1 _ ys _ (I.step k1 f1) e2 λvs H2 A k2 f2 hA h2=>q _ H2 A (k1.trans k2) f2 hA ⟨v,vs,rfl,(λ_ z=>by cases z),?_,h2⟩
  exact DatIs.same (h1.same (k2.hid I.fB)) (hid_sub λb hb=>(mem_wo.mp hb).1)⟩
theorem avo_o (i:Nat){x:Str}(hr:Evo K X es tl ms)(hN:X.N[i]? = some x:=by rfl)(hv:Vis X.env.scope x:=by first | exact Or.inl rfl | exact Or.inr (Or.inl rfl) | exact Or.inr (Or.inr rfl))(hd:(x == ("__debug__":Str))=false:=by decide)
  (hcd:(x == ("__classdict__":Str))=false:=by decide) (hs:starEach (.Name x p::es) X.env=(false,eval (.Name x p) X.env)::starEach es X.env:=by rfl):Evo K X (.Name x p::es) (tCons (tVar i) tl) (vO i ms) :=
 ⟨pa_cons (pe_var hN hv hd hcd) hr.pa hs,λG B E F σ H Q ds F' I e q=>by
  unfold vO at e
  split at e
  ·rename_i ys hx
   obtain ⟨⟨zs,F2⟩,e2,e⟩:=Option.bind_eq_some_iff.mp e
   cases e
   obtain ⟨v,v1,a,xs,rfl,aB,af,ha,hdt⟩:=I.loc i _ hx
   refine ⟨.ref a,v1,hr.ok G B E F σ H _ zs _ I e2 λvs H2 A k2 f2 hA h2=>q _ H2 (a::A) k2 f2 (λb hb=>?_) ⟨.ref a,vs,rfl,(λ_ z=>by cases z),?_,?_⟩⟩
   ·rcases List.mem_cons.mp hb with rfl | hb
    ·exact ⟨af,xs,k2 _ _ ha af⟩
    ·exact hA b hb
   ·show DatIs K (hid H2 (wo B (a::A))) (.list ys) (.ref a)
    refine DatIs.lst ?_ ((hdt.same (k2.hid I.fB)).same (hid_sub λb hb=>(mem_wo.mp hb).1))
    rw [hid_out λz=>(mem_wo.mp z).2 List.mem_cons_self]
    exact k2 _ _ ha af
   ·exact ArgR.less (λb hb=>mem_wo.mpr ⟨(mem_wo.mp hb).1,λz=>(mem_wo.mp hb).2 (List.mem_cons_of_mem _ z)⟩) h2
  ·cases e⟩
noncomputable def sCallO (f:List DV->M PyData)(ms:DE->M (List DV)):DE->M PyData:=λE F=>(ms E F).bind λp=>(f p.1 p.2).bind λq=>if noL q.1=true then some q else none
theorem callO_d {n:Nat}{f:List DV->M PyData}{ta:TA}(h:TVo K ta ms)(hn:∀ E F args F',ms E F=some (args,F')->args.length=n):TEd K (tCall (spD K n f) [] E0 ta) (sCallO f ms):=λG B E F σ H Q d F' I e q=>by
 obtain ⟨⟨args,F1⟩,e1,e⟩:=Option.bind_eq_some_iff.mp e
 obtain ⟨⟨d1,F2⟩,e2,e⟩:=Option.bind_eq_some_iff.mp e
 split at e
 ·rename_i hnl
  obtain ⟨rfl,rfl⟩:d1=d∧F2=F':=by cases e;exact ⟨rfl,rfl⟩
  refine h G B E F σ H _ args F1 I e1 λvs H1 A k1 f1 hA h1=>?_
  rw [List.append_nil]
  have bk:=bok_step I.bk k1 f1
  refine ⟨G,wo B A,F1,args,d1,F2,by rw [h1.length];exact hn _ _ _ _ e1,λb hb=>mem_wo.mpr ⟨I.fB b hb,λz=>(hA b z).1 hb⟩,λb hb=>bk b (mem_wo.mp hb).1,f1,h1,e2,λv H2 k2 f2 h2=>q v H2 (k1.trans k2) f2 (DatIs.back (A:=A) (λa ha=>?_) d1 v hnl h2)⟩
  obtain ⟨af,xs,hx⟩:=hA a ha
  exact ⟨xs,k2 _ _ hx af⟩
 ·cases e
theorem ln_o {n i:Nat}{ms:DE->M (List DV)}(h:∀ E F args F',ms E F=some (args,F')->args.length=n):∀ E F args F',vO i ms E F=some (args,F')->args.length=n+1:=λE F args F' e=>by
 unfold vO at e
 split at e
 ·obtain ⟨⟨ys,F2⟩,e2,e⟩:=Option.bind_eq_some_iff.mp e
  cases e
  rw [List.length_cons,h _ _ _ _ e2]
 ·cases e
theorem ev_callO {x:Str}{k n:Nat}{ps:List Str}{f:List DV->M PyData}(C:Callee X.prog X.w X.K X.mg X.base x k ps (spD K n f))(hr:Room k X.A)(ha:Evo K X (e::es) tl ms)(hn:∀ E F args F',ms E F=some (args,F')->args.length=n)(hg:Gl X x:=by rfl)
  (hdb:(x == ("__debug__":Str))=false:=by decide) (he:starEach (e::es) X.env=(false,eval e X.env)::starEach es X.env:=by rfl) (hpl:(backTo pos (starEach es X.env)).any (·.1)=false:=by rfl) :
  Ev K X (.Call (.Name x p) (e::es) [] pos) (tCall (spD K n f) [] E0 tl) (sCallO f ms):=⟨pe_callee C hr hg ha.pa hdb he hpl,callO_d ha.ok hn⟩
end
end L3
namespace L3
open PySem PySem.Spec PyProof.Rows L2
section
variable [Feeds]{K:PySem.W.Frag}{X:Cx}
end
end L3
namespace L3
open PySem PySem.Spec PyProof.Rows L2
section
variable [Feeds]{K:PySem.W.Frag}{X:Cx}
end
end L3
namespace L2
open PySem PySem.Spec PyProof.Rows
section
variable {P:Program}{w:World}{K:PySem.W.Frag}{mg:Str->Option Value}{base:Heap}
end
end L2
namespace L3
open PySem PySem.Spec PyProof.Rows L2
section
variable [Feeds]{P:Program}{w:World}{K:PySem.W.Frag}{mg:Str->Option Value}{base:Heap}
end
end L3
namespace L3
open PySem PySem.Spec PyProof.Rows L2
noncomputable abbrev TabL:=List (Str×Addr×Addr)
noncomputable def TabsAt (ts:TabL)(h:Heap):Prop:=∀ t∈ts,PySem.W.CodeHd h t.2.1 t.2.2∧h.get? t.2.2=some (PySem.W.tabObj #[])
theorem law_callT {P:Program}{w:World}{K:PySem.W.Frag}{mg mb:Str->Option Value}{CX:CXT}{k:Nat}{fa a:Addr}{fd:FuncData}{x:Str}{sp:Sp}{s₁:Shared}{vs:List Value}{ns:List Int}{ts:TabL}
  (KX:K.In s₁.heap) (hns:s₁.heap.Ns mainGlobals mg) (hb:s₁.heap.Ns builtinsNs mb) (hbb:∀ x:Str,x ≠ "__name__"->mb x=bootBuiltins x) (hlim:s₁.heap.NoLimit) (hg:s₁.gens = #[])
  (ha:s₁.heap.get? a=some { cls:=.type "list",data:=.seq vs.toArray }) (hi:IntsAre vs ns) (hl:ns.length≤sizeLine) (hr:Room k callerA)
  (hT:TabsAt ts s₁.heap) (hnt:PySem.W.noTabs K=true) (BM:BMd s₁.heap mg)
  (F:∀ base:Heap,K.In base->base.Ns mainGlobals mg->BMd base mg->(∀ t∈ts,PySem.W.CodeHd base t.2.1 t.2.2)->FnOk P w K mg base CX k fa fd [x] sp) (hbind:∀ (s:Shared) (u:Value),BindsTo s fd ⟨[u],[]⟩ [(x,u)])
  (hsp:∀ H:Hp,SqL K H a (ns.map V.int)->TabsOk ts H->sp [.ref a] H (λv _=>v = .bl true) λ_ _ _=>False)
  (hCX:∀ H e s',CX [] H s₁ (λ_ _ _=>False) e s'->False) :
  codeAny (model P w) callerA (.call (.ref fa) ⟨[.ref a],[]⟩) (λr s'=>r = .ok (.ret (.bool true))∧OldK s₁.heap s'.heap∧s'.os=s₁.os∧AllBare s'.gens) s₁:=by
 have rv:=vals_ints hi
 have lenV:=hi.length
 have aP:∀ t∈ts,t.2.2≠a:=λt ht e=>by
  have:=(hT t ht).2
  rw [e,ha] at this;cases this
 have core:∀ H:Hp,(∀ b,H b=none∨(b=a∧H b=some (.frz { cls:=.type "list",data:=.seq vs.toArray } (.lst (ns.map V.int))))∨(b∈ts.map (·.2.2)∧H b=some (.tbl #[])))->(∀ t∈ts,H t.2.2=some (.tbl #[]))->SqL K H a (ns.map V.int)->(H a≠none->K.lookup a=none) ->
   codeAny (model P w) callerA (.call (.ref fa) ⟨[.ref a],[]⟩) (λr s'=>r = .ok (.ret (.bool true))∧OldK s₁.heap s'.heap∧s'.os=s₁.os∧AllBare s'.gens) s₁:=by
  intro H hO hTH hS hK
  have tabO:∀ {b:Addr},b∈ts.map (·.2.2)->s₁.heap.get? b=some (PySem.W.tabObj #[]):=λ{b} hb=>by
   obtain ⟨t,ht,rfl⟩:=List.mem_map.mp hb
   exact (hT t ht).2
  have hok:HOk P w H s₁.heap:=λb u e=>by
   rcases hO b with z | ⟨rfl,z⟩ | ⟨hb,z⟩
   ·rw [z] at e;cases e
   ·rw [z] at e;cases e
    exact ⟨ha,by rw [List.length_map];exact hl,vs,_,rv,ha⟩
   ·rw [z] at e;cases e
    exact tabO hb
  have base_of:∀ {b:Addr} {o:Obj},s₁.heap.get? b=some o->H b=none->(hidT s₁.heap H).get? b=some o:=λe n=>hidT_get e n
  have other:∀ {b:Addr} {o:Obj},s₁.heap.get? b=some o->o≠{ cls:=.type "list",data:=.seq vs.toArray }->o≠PySem.W.tabObj #[]->H b=none:=λ{b o} e h1 h2=>by
   rcases hO b with z | ⟨rfl,z⟩ | ⟨hb,z⟩
   ·exact z
   ·rw [ha] at e;exact absurd (Option.some.inj e).symm h1
   ·rw [tabO hb] at e;exact absurd (Option.some.inj e).symm h2
  have nsK:∀ {b:Addr} {m:Str->Option Value},s₁.heap.Ns b m->(hidT s₁.heap H).Ns b m:=λ{b m} ⟨o,es,ep,e,d,r⟩=>⟨o,es,ep,base_of e (other e (λz=>by rw [z] at d;cases d) λz=>by rw [z] at d;cases d),d,r⟩
  have hKb:K.In (hidT s₁.heap H):=λb o e=>base_of (KX b o e) (by
   rcases hO b with z | ⟨rfl,z⟩ | ⟨hb,z⟩
   ·exact z
   ·rw [hK (by rw [z];simp)] at e;cases e
   ·have e2:=KX b o e
    rw [tabO hb] at e2
    cases e2
    have h2:=List.all_eq_true.mp hnt _ (PySem.W.mem_of_lookupK e)
    exact absurd (show false=true from h2) Bool.false_ne_true)
  have hM:Mod K mg (hidT s₁.heap H):=⟨hKb,nsK hns,⟨mb,nsK hb,hbb⟩,let ⟨mc,h1,h2⟩:=hlim;⟨mc,nsK h1,h2⟩⟩
  have hBM:BMd (hidT s₁.heap H) mg:=by
   obtain ⟨bm,ob,b1,b2,b3,b4,b5,b6⟩:=BM
   exact ⟨bm,ob,b1,b2,base_of b3 (other b3 (λz=>by rw [z] at b4;have b4:Value.type "list" = Value.type "module":=b4;exact absurd b4 (by decide)) λz=>by rw [z] at b4;have b4:Value.none=Value.type "module":=b4;exact absurd b4 (by decide)),b4,b5,b6⟩
  have hCd:∀ t∈ts,PySem.W.CodeHd (hidT s₁.heap H) t.2.1 t.2.2:=λt ht=>by
   obtain ⟨o,vs',file,tf,flags,tg,inF,text,tt,e1,r1,r2⟩:=(hT t ht).1
   exact ⟨o,vs',file,tf,flags,tg,inF,text,tt,base_of e1 (other e1 (λz=>by rw [z] at r1;have r1:Value.type "list" = Value.type "code":=r1;exact absurd r1 (by decide)) λz=>by rw [z] at r1;have r1:Value.none=Value.type "code":=r1;exact absurd r1 (by decide)),r1,r2⟩
  have e0:Env0 P w K mg (hidT s₁.heap H) callerA [] s₁ H:=⟨rfl,hM,λb o e=>of_hidT e,Nat.le_of_eq (hidT_size _ _),trivial,λb hb=>absurd (show b∈([]:List Addr) from hb) (by simp),hok,.of_eq hg⟩
  have hTO:TabsOk ts H:=λt ht=>⟨#[],hTH t ht,trivial,λpos cv e=>by cases e⟩
  refine codeAny_mono ((F _ hKb (nsK hns) hBM hCd).run callerA [] s₁ H ⟨[.ref a],[]⟩ [.ref a] [.ref a] _ _ hr e0 (hbind s₁ (.ref a)) (.cons rfl .nil) (hsp H hS hTO)) λr s' h=>?_
  cases r with
  | error e=>exact (hCX H e s' h).elim
  | ok fl =>
   cases fl with
   | next=>exact False.elim h
   | brk=>exact False.elim h
   | cont=>exact False.elim h
   | ret u =>
    obtain ⟨v,H',os,bare,un,hok',r',q⟩:=h
    have q':v = .bl true:=q
    subst q'
    obtain rfl:u=Value.bool true:=r'
    have kept:∀ b o,s₁.heap.get? b=some o->H b=none->s'.heap.get? b=some o:=λb o e q=>un.keep b o e q (by intro z;exact absurd (show b∈([]:List Addr) from z) (by simp)) (by simp)
    have scr:∀ b o,s₁.heap.get? b=some o->b=a->H b=some (.frz { cls:=.type "list",data:=.seq vs.toArray } (.lst (ns.map V.int)))->s'.heap.get? b=some o:=λb o e hb z=>by
     have z2:=un.frzs b _ _ z
     obtain ⟨e1,_⟩:=hok b _ z
     obtain ⟨e2,_⟩:=hok' b _ z2
     rw [e] at e1;cases e1
     exact e2
    have tab:∀ b,H b=some (.tbl #[])->∃ more,s'.heap.get? b=some (PySem.W.tabObj more):=λb z=>by
     obtain ⟨more,z2⟩:=un.tbls b _ z
     exact ⟨_,hok' b _ z2⟩
    refine ⟨rfl,⟨λb o e=>?_,λb o e=>?_⟩,os,bare⟩
    ·rcases hO b with z | ⟨hb,z⟩ | ⟨hb,z⟩
     ·exact .inl (kept b o e z)
     ·exact .inl (scr b o e hb z)
     ·obtain ⟨more,e2⟩:=tab b z
      have e3:=tabO hb
      rw [e] at e3;cases e3
      obtain ⟨t,ht,rfl⟩:=List.mem_map.mp hb
      refine .inr (.inl ⟨((hT t ht).1.tab (hT t ht).2).isCodeTable,rfl,#[],more,rfl,by rw [Array.empty_append];exact e2⟩)
    ·rcases hO b with z | ⟨hb,z⟩ | ⟨hb,z⟩
     ·exact ⟨o,kept b o e z⟩
     ·exact ⟨o,scr b o e hb z⟩
     ·obtain ⟨more,e2⟩:=tab b z
      exact ⟨_,e2⟩
 cases hk:K.lookup a with
 | some o =>
  have e:=KX a o hk
  rw [ha] at e
  cases e
  have haT:a ∉ ts.map (·.2.2):=λz=>by
   obtain ⟨t,ht,e⟩:=List.mem_map.mp z
   exact aP t ht e
  refine core (λb=>if b∈ts.map (·.2.2) then some (.tbl #[]) else none) (λb=>?_) (λt ht=>if_pos (List.mem_map_of_mem ht)) (.inr ⟨_,vs.toArray,_,hk,rfl,rfl,rfl,by rw [List.size_toArray,lenV];exact hl,by simpa using rv⟩) λz=>absurd (if_neg haT) z
  by_cases hb:b∈ts.map (·.2.2)
  ·exact .inr (.inr ⟨hb,if_pos hb⟩)
  ·exact .inl (if_neg hb)
 | none =>
  refine core (λb=>if b=a then some (.frz { cls:=.type "list",data:=.seq vs.toArray } (.lst (ns.map V.int))) else if b∈ts.map (·.2.2) then some (.tbl #[]) else none) (λb=>?_) (λt ht=>?_) (.inl (.inr ⟨{ cls:=.type "list",data:=.seq vs.toArray },if_pos rfl⟩)) λ_=>hk
  ·by_cases hb:b=a
   ·exact .inr (.inl ⟨hb,if_pos hb⟩)
   ·by_cases hb2:b∈ts.map (·.2.2)
    ·exact .inr (.inr ⟨hb2,by rw [if_neg hb,if_pos hb2]⟩)
    ·exact .inl (by rw [if_neg hb,if_neg hb2])
  ·rw [if_neg (aP t ht)]
   exact if_pos (List.mem_map_of_mem (f:=λt:Str×Addr×Addr=>t.2.2) ht)
theorem walk_ofT {l:PySem.W.OpenLaw}{n k:Nat}{q:Program}{loose:List Str}{XP:(Str->Option Value)->Heap->Prop}{YP:World->Heap->Prop}{d:DefRec}{K:Params->PySem.W.Frag}{CX:World->CXT}{sp:World->Sp}{x:Str}(lam:List Str)
  (hn:l.most=some n) (hn2:n≤sizeLine) (hdf:d.params.defaults=[]) (hr:Room k callerA)
  (hrec:(lam.all λx=>((recsOf q).find? λe=>e.name == x).isSome)=true) (hnt:∀ w:World,PySem.W.noTabs (K w.params)=true)
  (hY:∀ (w:World) (h:Heap),YP w h->(K w.params).In h)
  (F:∀ (w:World) (mg:Str->Option Value) (fa:Addr) (h:Heap),(K w.params).In h->h.Ns mainGlobals mg->mg d.name=some (.ref fa) ->
   ∃ fd:FuncData,(∀ (s:Shared) (u:Value),BindsTo s fd ⟨[u],[]⟩ [(x,u)]) ∧
    ∀ base:Heap,(K w.params).In base->base.Ns mainGlobals mg->BMd base mg->(∀ t∈tabsK lam (K w.params),PySem.W.CodeHd base t.2.1 t.2.2)->FnOk l.prog w (K w.params) mg base (CX w) k fa fd [x] (sp w))
  (hsp:∀ (w:World) (H:Hp) (a:Addr) (ns:List Int),ns.length≤n->SqL (K w.params) H a (ns.map V.int)->TabsOk (tabsK lam (K w.params)) H->sp w [.ref a] H (λv _=>v = .bl true) λ_ _ _=>False)
  (hCX:∀ (w:World) (H:Hp) (s:Shared) (e:Value) (s':Shared),CX w [] H s (λ_ _ _=>False) e s'->False) :
  PySem.W.WalkO q loose XP YP l.row.toRowW d [] (λf vs=>PySem.call f vs):=by
 refine Att.attach_call hn hdf λw s₀ s₁ mg mb fa o pm cd doc a vs ns G Y ho hd hcd hmg hobj hints hlen hg=>?_
 have KX:=hY w _ Y
 obtain ⟨fd,hb,hF⟩:=F w mg fa _ KX G.T.g hmg
 refine law_callT (ts:=tabsK lam (K w.params)) KX G.T.g G.T.b G.T.builtins G.T.nolimit hg hobj hints (Nat.le_trans hlen hn2) hr (λt ht=>?_) (hnt w) G.T.bmain hF hb (λH hS hT=>hsp w H a ns hlen hS hT) λH e s'=>hCX w H s₁ e s'
 obtain ⟨x,hx,e⟩:=List.mem_filterMap.mp ht
 obtain ⟨⟨c,P⟩,e1,e2⟩:=Option.map_eq_some_iff.mp e
 cases e2
 obtain ⟨dr,hdr⟩:=Option.isSome_iff_exists.mp (List.all_eq_true.mp hrec x hx)
 exact PySem.W.tab_of G.T KX hdr e1
end L3
namespace L3
open PySem PySem.Spec PyProof.Rows L2
section
variable [Feeds]{K:PySem.W.Frag}{X:Cx}{e a b c:Expr}{te:TE}{pos:Pos}
section
variable {G:GF}{B B0:List Addr}{E:DE}{F F1:FS}{σ:St}{H H1 H0:Hp}{dv:DV}{v:V}{i:Nat}
end
end
end L3
namespace L3
open PySem PySem.Spec PyProof.Rows L2
section
variable {K:PySem.W.Frag}{X0:Cx}{tg iter:Expr}{te:TE}{pos:Pos}
end
section
variable {K:PySem.W.Frag}{X:Cx}[Feeds]
end
end L3
namespace L3
open PySem PySem.Spec PyProof.Rows L2
end L3
namespace L3
open PySem PySem.Spec PyProof.Rows L2
section
variable {K:PySem.W.Frag}{X:Cx}[Feeds]
end
end L3
namespace L3
open PySem PySem.Spec PyProof.Rows L2
section
variable {M:Lang}{A:Around}{E:Value->Shared->Prop}{s:Shared}
end
section
variable {prog:Program}{w:World}{A:Around}{E:Value->Shared->Prop}{s:Shared}
end
section
variable {K:PySem.W.Frag}{X:Cx}[Feeds]
variable {e:Expr}{te:TE}{m:DE->M PyData}{pos:Pos}
variable {a b:Expr}
end
end L3
namespace L3
open PySem PySem.W PySem.Spec PyProof.Rows L2
abbrev vMro:List Value:=[.type "ValueError",.type "Exception",.type "BaseException",.type "object"]
structure ECls (K:Frag) (Wt C f:Addr):Prop where
 obj:∃ nm q N bs hdct sn sub ab col dd k0 k1 k2 k3 k5,K.lookup C=some (excClassObj nm q C N bs (.ref Wt::vMro) hdct sn sub ab col dd k0 k1 k2 k3 k5 "ValueError.__new__")
 top:∃ c0 dd cd sl,K.lookup Wt=some { cls:=c0,dict:=dd,data:=.cls cd,slots:=sl }∧nsOkIn K cd.ns=true∧nsIn K cd.ns "__init__" = some none
 init:findIn K (.ref C) "__init__" = some (some (.ref f))
 fn:typeIn K (.ref f)=some (.type "function")
 call:specialIn K (.ref C) "__call__" = some (some (.builtin "type.__call__"))
 typ:instIn K (.ref C) (.type "type")=some true
 kp:keepIn K (.ref C)=true
 dict:(clsIn K C).any (·.hasDict)=true
 sa:findIn K (.ref C) "__setattr__" = some (some (.builtin "object.__setattr__"))
noncomputable abbrev excObj (C t:Addr)(dx:Option Addr):Obj:={ cls:=.ref C,dict:=dx,data:=.fields #[.ref t,.none,.none,.none,.bool false,.none] }
section
variable {prog:Program}{w:World}{A:Around}{E:Value->Shared->Prop}{R:Result->Shared->Prop}{K:Frag}{Wt C f:Addr}{h:Heap}{g:Array GenState}{d:Drawn}{t:Nat}{os:OsState}
theorem ECls.tail (c:ECls K Wt C f)(X:K.In h):OwnTail h vMro (.ref Wt::vMro):=by
 obtain ⟨c0,dd,cd,sl,l,n1,n2⟩:=c.top
 exact .own (X _ _ l) (.of_isNs (isNs_of_in X n1)) (nsMap_none_of_in X n1 n2) .base
theorem exc_call {rest:List Value}(c:ECls K Wt C f)(X:K.In h)(hz:rest.length≤sizeLine)
  (hq:codeAny (model prog w) (A.under (.builtin "type.__call__" ⟨.ref C::rest,[]⟩)) (.call (.ref f) ⟨.ref (h.objs.size+1)::rest,[]⟩) (InitBack (h.objs.size+1) R)
   ⟨(h.push { cls:=.type "tuple",data:=.seq rest.toArray }).push (excObj C h.objs.size none),g,d,t,os⟩) :
  codeAny (model prog w) A (.call (.ref C) ⟨rest,[]⟩) R ⟨h,g,d,t,os⟩:=by
 obtain ⟨nm,q,N,bs,hdct,sn,sub,ab,col,dd,k0,k1,k2,k3,k5,lk⟩:=c.obj
 have hC:=X _ _ lk
 have T:=c.tail X
 have call:=looks_specialIn (M:=model prog w) X c.call
 have typ:=looks_instIn (M:=model prog w) X c.typ
 have hi:=looks_findIn (M:=model prog w) X c.init
 have FB:=PySem.F.excBase_ValueError
 refine codeAny_of_tree ?_
 show wpAny _ _ (callAny (.ref C) _) _ _ _
 refine nd_load hC ?_
 show wpAny _ _ (callAny.viaDunder (.ref C) _) _ _ _
 unfold callAny.viaDunder
 refine wpAny_bind (call.at ?_)
 dsimp only
 rw [tc_bind]
 refine wpAny_bind (wpAny_pure (wpAny_bind (wpAny_pure ?_)))
 refine wpAny_pure (a:=Fin.again (.call (.builtin "type.__call__") ⟨.ref C::rest,[]⟩)) ⟨rfl,?_⟩
 refine codeAny_call_builtin_at (Code.quiet_builtin _ (by decide +kernel)) entry_typeCall (check_slot tc_kind tc_split typ (tc_args _ _ _) ?_)
 unfold Builtin.«type.__call__»
 have hm:Looks (model prog w) h (mroOf (.ref C)) (.ref C :: .ref Wt::vMro):=((Looks.ld (part:=none) hC).andThen .now).andThen .now
 have made:Looks (model prog w) h (Bind.madeBy (.ref C)) (some "ValueError.__new__"):=λA Q E s k q=>by
  obtain ⟨hh,gg,dd',tt,oo⟩:=s
  exact wpAny_madeBy_exc (k _ _ hC) q
 repeat (first | simp only [List.isEmpty_cons,Bool.false_eq_true,if_false] | with_reducible refine wpAny_call ?_ | lk)
 refine codeAny_call_builtin_code (Code.quiet_builtin _ FB.quiet) (wpAny_check_new_subT FB T hC ?_)
 refine codeAny_exc_new_subT FB T hC ?_ hz
 generalize hh:(h.push { cls:=.type "tuple",data:=.seq rest.toArray }).push (excObj C h.objs.size none)=h1 at hq ⊢
 have up:∀ b o,h.get? b=some o->h1.get? b=some o:=λb o z=>by rw [← hh];exact Heap.get?_push_of_some _ (Heap.get?_push_of_some _ z)
 have here:h1.get? (h.objs.size+1)=some (excObj C h.objs.size none):=by rw [← hh];heap_get
 have X1:K.In h1:=X.keeps up
 have ty:Looks (model prog w) h1 (typeOf (.ref (h.objs.size+1))) (.ref C):=(Looks.ld here).andThen .now
 have mr:mroIn K C (.ref C)=some true:=by unfold mroIn clsIn;rw [lk];simp
 have own:=looks_mroIn (M:=model prog w) X1 mr
 have ini:=looks_findIn (M:=model prog w) X1 c.init
 have bnd:=bind_fn (M:=model prog w) X1 (.ref (h.objs.size+1)) c.fn
 show wpAny _ _ _ _ _ _
 unfold isInstance callSpecial? specialOf
 repeat (first | with_reducible refine wpAny_call ?_ | lk)
 refine codeAny_mono hq λr s2 z=>?_
 rcases r with e | (v | _ | _ | _) <;> first | exact z | exact z.elim | skip
 obtain ⟨rfl,z⟩:=z
 exact wpAny_pure (wpAny_pure z)
end
end L3
namespace L3
open PySem PySem.W PySem.Spec PyProof.Rows L2
open Builtin Builtin.ObjectAttr
section
variable {prog:Program}{w:World}{A:Around}{E:Value->Shared->Prop}{R:Result->Shared->Prop}{K:Frag}{Wt C f e:Addr}{h:Heap}{g:Array GenState}{d:Drawn}{t:Nat}{os:OsState}{mA:Str->Option Value}{name:Str}{v:Value}
theorem ECls.cls (c:ECls K Wt C f):∃ cd,clsIn K C=some cd∧cd.mro = .ref C :: .ref Wt::vMro∧cd.hasDict=true:=by
 obtain ⟨nm,q,N,bs,hdct,sn,sub,ab,col,dd,k0,k1,k2,k3,k5,lk⟩:=c.obj
 obtain ⟨cd,e1,e2⟩:=any_some c.dict
 refine ⟨cd,e1,?_,e2⟩
 unfold clsIn at e1
 rw [lk] at e1
 cases e1
 rfl
noncomputable def Left (h h':Heap)(e:Addr):Prop :=
 (∀ b o,b≠e->(∀ o0 dx,h.get? e=some o0->o0.dict=some dx->b≠dx)->h.get? b=some o->h'.get? b=some o) ∧
 ∀ o0,h.get? e=some o0->∃ o1 dx,h'.get? e=some o1∧o1.cls=o0.cls∧o1.data=o0.data∧o1.slots=o0.slots∧o1.dict=some dx∧(o0.dict=some dx∨(o0.dict=none∧dx=h.objs.size))
theorem exc_put {tk:Tok}{ns:List Str}(c:ECls K Wt C f)(X:K.In h)(na:findIn K (.ref C) name=some none)(I:h.Inst e C mA)(hw:Within mA ns)(hl:ns.length≤1000)
  (hq:∀ h' tk',h'.Inst e C (λy=>if y=name then some v else mA y)->Left h h' e->R (.ok (.ret .none)) ⟨h',g,d,tk',os⟩) :
  codeAny (model prog w) A (.call (.builtin "object.__setattr__") ⟨[.ref e,.str name tk,v],[]⟩) R ⟨h,g,d,t,os⟩:=by
 have SO:=PySem.F.store_object
 have SV:=PySem.F.store_ValueError
 obtain ⟨cd,hc,hmro,hdict⟩:=c.cls
 obtain ⟨⟨cl,dct,dat,sls⟩,hx,hcl,hnc,hd⟩:=I
 dsimp only at hcl hnc hd
 subst hcl
 have ty:Looks (model prog w) h (typeOf (.ref e)) (.ref C):=(Looks.ld hx).andThen .now
 have mr:mroIn K C (.type "object")=some true:=by unfold mroIn;rw [hc,Option.bind_some,hmro];rfl
 have sub:Looks (model prog w) h (isInstance (.ref e) (.type "object")) true:=ty.andThen (looks_mroIn X mr)
 have hm:Looks (model prog w) h (mroOf (.ref C)) cd.mro:=(looks_clsIn X hc).andThen .now
 have lkn:=looks_findIn (M:=model prog w) X na
 refine codeAny_call_builtin SO.slot.plain SO.entry (@check_slot (model prog w) _ _ ⟨h,g,d,t,os⟩ "object.__setattr__" "object" "__setattr__" (.ref e) [.str name tk,v] [] _ SO.kind SO.split sub (SO.args (.ref e) (.str name tk) v) ?_)
 rw [osa_eq,refuse_eq]
 refine wpAny_bind (wpAny_bind (ty.here (wpAny_bind (hm.here ?_))))
 rw [hmro,refuseLoop_ref,refuseLoop_ref,SV.passes]
 refine wpAny_pure (wpAny_bind (ty.here (wpAny_bind (lkn.here (wpAny_bind (wpAny_pure ?_))))))
 show wpAny _ _ (storeInOwnDict (.ref e) (.ref C) (.str name tk) name v false) _ _ _
 have cdl:=looks_clsIn (M:=model prog w) X hc
 unfold storeInOwnDict ownDictForStores instanceDict
 refine wpAny_bind (wpAny_pure (wpAny_bind (wpAny_bind (wpAny_loadPart hx (wpAny_bind (cdl.here ?_))))))
 rw [hdict]
 simp only [Bool.not_true,Bool.false_eq_true,if_false]
 rcases hd with ⟨rfl,hmA⟩ | ⟨dx,rfl,hne,hns⟩
 ·dsimp only
  rw [if_neg (by simp [typeHasDict])]
  have hlt:e<h.objs.size:=Heap.lt_size hx
  have hes:e≠h.objs.size:=Nat.ne_of_lt hlt
  refine wpAny_bind (wpAny_alloc' (wpAny_bind (wpAny_update' (Heap.get?_push_of_some _ hx) (wpAny_pure ?_))))
  generalize hh1:(h.push { cls:=.type "dict",data:=.dict #[] }).update e (λo=>{ cls:=o.cls,dict:=some h.objs.size,data:=o.data,slots:=o.slots })=h1
  have gd:h1.get? h.objs.size=some { cls:=.type "dict",data:=.dict #[] }:=by rw [← hh1];exact (Heap.get?_update_ne _ _ _ _ hes.symm).trans (Heap.get?_push_at rfl rfl)
  have ge:h1.get? e=some { cls:=.ref C,dict:=some h.objs.size,data:=dat,slots:=sls }:=by
   rw [← hh1]
   refine Heap.get?_update_self _ (Heap.get?_push_of_some _ hx) ?_
   have fr:=(Heap.get?_some_iff.mp hx).2
   cases dat <;> first | rfl | exact fr
  have up1:∀ b o,b≠e->h.get? b=some o->h1.get? b=some o:=λb o hb z=>by rw [← hh1];exact (Heap.get?_update_ne _ _ _ _ hb).trans (Heap.get?_push_of_some _ z)
  have e0:h1.Ns h.objs.size (λ_=>none):=⟨_,#[],_,gd,rfl,λz hz=>absurd hz (by simp),λ_=>rfl⟩
  show wpAny _ _ (storeInDict h.objs.size (.str name tk) name v) _ _ _
  unfold storeInDict newKeyGuard
  refine wpAny_bind (wpAny_pure (wpAny_bind (wpAny_nsSet1 (Heap.Ns1.of_empty e0) λh2 n2 s2=>?_)))
  obtain ⟨oD,esD,epD,hoD,hdD,hcD⟩:=n2.count (Within.cons name v Within.nil)
  refine wpAny_bind (wpAny_lookBehind hoD (by rw [hdD];exact pastItsLine_dict (Nat.le_trans hcD (by simp [sizeLine_eq]))) ?_)
  refine wpAny_pure (hq h2 _ ⟨_,(s2.2 e hes).trans ge,rfl,hnc,.inr ⟨h.objs.size,rfl,hes.symm,?_⟩⟩ ⟨λb o hb _ z=>(s2.2 b (Nat.ne_of_lt (Heap.lt_size z))).trans (up1 b o hb z),λo0 z=>?_⟩)
  ·have ef:(λy=>if y=name then some v else mA y) = λy=>if y=name then some v else (none:Option Value):=by
    funext y;rw [hmA y]
   rw [ef];exact n2
  ·rw [hx] at z;cases z
   exact ⟨_,_,(s2.2 e hes).trans ge,rfl,rfl,rfl,rfl,.inr ⟨rfl,rfl⟩⟩
 ·refine wpAny_pure ?_
  show wpAny _ _ (storeInDict dx (.str name tk) name v) _ _ _
  unfold storeInDict newKeyGuard
  refine wpAny_bind (wpAny_pure (wpAny_bind (wpAny_nsSet1 hns λh2 n2 s2=>?_)))
  obtain ⟨oD,esD,epD,hoD,hdD,hcD⟩:=n2.count (Within.cons name v hw)
  refine wpAny_bind (wpAny_lookBehind hoD (by rw [hdD];exact pastItsLine_dict (Nat.le_trans hcD (by rw [List.length_cons,sizeLine_eq];omega))) ?_)
  refine wpAny_pure (hq h2 _ ⟨_,(s2.2 e hne.symm).trans hx,rfl,hnc,.inr ⟨dx,rfl,hne,n2⟩⟩ ⟨λb o hb hbd z=>(s2.2 b (hbd _ dx hx rfl)).trans z,λo0 z=>⟨o0,dx,(s2.2 e hne.symm).trans z,rfl,rfl,rfl,by rw [hx] at z;cases z;rfl,.inl (by rw [hx] at z;cases z;rfl)⟩⟩)
end
end L3
namespace L3
open PySem PySem.W PySem.Spec PyProof.Rows L2
open Builtin Builtin.ObjectAttr
section
variable {prog:Program}{w:World}{A:Around}{E:Value->Shared->Prop}{R:Result->Shared->Prop}{K:Frag}{Wt C f e:Addr}{h:Heap}{g:Array GenState}{d:Drawn}{t:Nat}{os:OsState}{mA:Str->Option Value}{name:Str}{v:Value}
theorem exc_setattr {ns:List Str}{Q:Unit->Shared->Prop}(c:ECls K Wt C f)(X:K.In h)(na:findIn K (.ref C) name=some none)(I:h.Inst e C mA)(hw:Within mA ns)(hl:ns.length≤1000)
  (hq:∀ h' tk',h'.Inst e C (λy=>if y=name then some v else mA y)->Left h h' e->Q () ⟨h',g,d,tk',os⟩) :
  wpAny (model prog w) A (setAttr (.ref e) name v) Q E ⟨h,g,d,t,os⟩:=by
 have SO:=PySem.F.store_object
 obtain ⟨⟨cl,dct,dat,sls⟩,hx,hcl,hnc,hd⟩:=id I
 dsimp only at hcl hnc hd
 subst hcl
 have ty:Looks (model prog w) h (typeOf (.ref e)) (.ref C):=(Looks.ld hx).andThen .now
 have sa:=looks_findIn (M:=model prog w) X c.sa
 have bnd:=SO.slot.bind (.ref e)
 unfold setAttr callSpecial? specialOf
 refine wpAny_bind (wpAny_mkText ?_)
 refine wpAny_bind (wpAny_bind (wpAny_bind (ty.here (sa.here (wpAny_holding ?_)))))
 rw [bnd]
 refine wpAny_bind (wpAny_pure (wpAny_bind (wpAny_call ?_)))
 refine exc_put c X na I hw hl λh' tk' I' L=>?_
 exact wpAny_pure (wpAny_pure (hq h' tk' I' L))
end
end L3
namespace L3
open PySem PySem.W PySem.Spec PyProof.Rows L2
inductive InitBody:List Str->List Stmt->Prop
 | nil:InitBody [] []
 | cons {p:Str} {ps:List Str} {b:List Stmt} {x y z pos:Pos}:InitBody ps b->InitBody (p::ps) (.Assign [.Attribute (.Name "self" x) p y] (.Name p z) pos::b)
noncomputable def setsM (m:Str->Option Value):List Str->(Str->Option Value)->Str->Option Value
 | [],M=>M
 | p::ps,M=>setsM m ps λy=>if y=p then m p else M y
structure ISt (hb:Heap) (L e C t:Addr) (m mA:Str->Option Value) (ns:List Str) (h:Heap):Prop where
 keep:∀ b o,hb.get? b=some o->b≠e->h.get? b=some o
 fr:h.Ns L m
 obj:∃ dct,h.get? e=some (excObj C t dct)∧((dct=none∧∀ n,mA n=none)∨∃ dx,dct=some dx∧dx≠e∧dx≠L∧hb.objs.size≤dx∧h.Ns1 dx mA)
 wi:Within mA ns
 sz:hb.objs.size≤h.objs.size
section
variable {prog:Program}{w:World}{A:Around}{E:Value->Shared->Prop}{K:Frag}{Wt C f e L t0:Addr}{hb:Heap}{g:Array GenState}{d:Drawn}{os:OsState}{m mA:Str->Option Value}{env:Env}
theorem ISt.inst {ns:List Str}{h:Heap}(I:ISt hb L e C t0 m mA ns h):h.Inst e C mA:=by
 obtain ⟨dct,ge,z⟩:=I.obj
 refine ⟨_,ge,rfl,λc q=>(nomatch q),?_⟩
 rcases z with z | ⟨dx,rfl,n1,_,_,n⟩
 ·exact .inl z
 ·exact .inr ⟨dx,rfl,n1,n⟩
theorem ISt.put {ns:List Str}{h h':Heap}{name:Str}{v:Value}(I:ISt hb L e C t0 m mA ns h)(he:e<hb.objs.size)(hL:hb.objs.size≤L)(J:h'.Inst e C (λy=>if y=name then some v else mA y))(lf:Left h h' e) :
  ISt hb L e C t0 m (λy=>if y=name then some v else mA y) (name::ns) h':=by
 obtain ⟨dct,ge,z⟩:=I.obj
 obtain ⟨o1,dx,g1,c1,d1,s1,e1,e2⟩:=lf.2 _ ge
 have hLs:L<h.objs.size:=I.fr.lt
 have hes:e<h.objs.size:=Heap.lt_size ge
 have dxs:dx≠e∧dx≠L∧hb.objs.size≤dx:=by
  rcases e2 with q | ⟨q,rfl⟩
  ·rcases z with ⟨z,_⟩ | ⟨dy,z,a1,a2,a3,_⟩
   ·rw [z] at q;cases q
   ·rw [z] at q;cases q;exact ⟨a1,a2,a3⟩
  ·exact ⟨Nat.ne_of_gt hes,Nat.ne_of_gt hLs,I.sz⟩
 have old:∀ o0 dy,h.get? e=some o0->o0.dict=some dy->dy≠L∧hb.objs.size≤dy:=λo0 dy q1 q2=>by
  rw [ge] at q1;cases q1
  rcases z with ⟨z,_⟩ | ⟨dz,z,a1,a2,a3,_⟩
  ·rw [z] at q2;cases q2
  ·rw [z] at q2;cases q2;exact ⟨a2,a3⟩
 have n1:h'.Ns1 dx (λy=>if y=name then some v else mA y):=by
  obtain ⟨o,q1,_,_,q2⟩:=J
  rw [g1] at q1;cases q1
  rcases q2 with ⟨q2,_⟩ | ⟨dy,q2,_,q3⟩
  ·rw [e1] at q2;cases q2
  ·rw [e1] at q2;cases q2;exact q3
 refine ⟨λb o q1 q2=>lf.1 b o q2 (λo0 dy r1 r2=>Nat.ne_of_lt (Nat.lt_of_lt_of_le (Heap.lt_size q1) (old o0 dy r1 r2).2)) (I.keep b o q1 q2),?_,⟨some dx,?_,.inr ⟨dx,rfl,dxs.1,dxs.2.1,dxs.2.2,n1⟩⟩,Within.cons name v I.wi,?_⟩
 ·obtain ⟨o,es,ep,q,r⟩:=I.fr
  exact ⟨o,es,ep,lf.1 L o (Nat.ne_of_gt (Nat.lt_of_lt_of_le he hL)) (λo0 dy r1 r2=>(old o0 dy r1 r2).1.symm) q,r⟩
 ·obtain ⟨c,dd,da,sl⟩:=o1
  dsimp only at c1 d1 s1 e1
  subst c1 d1 s1 e1
  exact g1
 ·have:L<h'.objs.size:=by
   obtain ⟨o,es,ep,q,r⟩:=I.fr
   exact Heap.lt_size (lf.1 L o (Nat.ne_of_gt (Nat.lt_of_lt_of_le he hL)) (λo0 dy r1 r2=>(old o0 dy r1 r2).1.symm) q)
  exact Nat.le_of_lt (Nat.lt_of_le_of_lt hL this)
theorem init_run (c:ECls K Wt C f)(X:K.In hb)(he:e<hb.objs.size)(hKe:K.lookup e=none)(hL:hb.objs.size≤L)(hk:env.scope.kind = .function)(hl:env.locals=L)(hself:m "self" = some (.ref e)∧env.kindOf "self" = some .local){Q:Flow->Shared->Prop} :
  ∀ (ps:List Str) (body:List Stmt) (mA:Str->Option Value) (ns:List Str) (h:Heap) (tk:Nat),InitBody ps body->ISt hb L e C t0 m mA ns h->ns.length+ps.length≤1000 ->
  (∀ p∈ps,findIn K (.ref C) p=some none∧(p == ("__debug__":Str))=false∧env.kindOf p=some .local∧∃ v,m p=some v) ->
  (∀ h' tk' ns',ISt hb L e C t0 m (setsM m ps mA) ns' h'->Q .next ⟨h',g,d,tk',os⟩)->wpAny (model prog w) A (execs body env) Q E ⟨h,g,d,tk,os⟩
 | [],_,mA,ns,h,tk,.nil,I,_,_,q=>wpAny_execs_nil (q h tk ns I)
 | p::ps,_,mA,ns,h,tk,.cons B,I,hz,hp,q=>by
  obtain ⟨na,nd,kp,v,hv⟩:=hp p List.mem_cons_self
  rw [List.length_cons] at hz
  have XK:K.In h:=λb o z=>I.keep b o (X b o z) λy=>by rw [y,hKe] at z;cases z
  have fr:h.Ns env.locals m:=by rw [hl];exact I.fr
  refine wpAny_execs_cons (plainObj_wpAny_Assign_Attribute (wpAny_Name (wpAny_loadName_local hk kp fr hv (wpAny_Name (wpAny_loadName_local hk hself.2 fr hself.1 ?_))) nd))
  refine exc_setattr c XK na I.inst I.wi (by omega) λh' tk' J lf=>?_
  refine init_run c X he hKe hL hk hl hself ps _ _ (p::ns) h' tk' B (I.put he hL J lf) (by rw [List.length_cons];omega) (λx hx=>hp x (List.mem_cons_of_mem _ hx)) λh2 tk2 ns2 I2=>q h2 tk2 ns2 ?_
  rw [setsM]
  rw [hv]
  exact I2
end
end L3
namespace L3
open PySem PySem.W PySem.Spec PyProof.Rows L2
structure EIni (K:Frag) (C f:Addr) (ps:List Str):Prop where
 fn:∃ (qual:Str) (params:Arguments) (body:List Stmt) (scope:Scope) (oc:Value) (od:Option Addr) (kV doc pm:Value) (an:Option Addr) (cdv ct:Value) (osl:Array (Option Value)),
  K.lookup f=some ⟨oc,od,.func (fnOf "__init__" qual params body scope .none kV doc pm an cdv ct),osl⟩∧codeIn K cdv qual=true∧FnScope (("self":Str)::ps) (("self":Str)::ps) scope∧(∀ p∈("self":Str)::ps,scope.names.lookup p=some .local)∧InitBody ps body ∧
  ∀ us:List Value,us.length=ps.length+1->bindArgs (fnOf "__init__" qual params body scope .none kV doc pm an cdv ct) ⟨us,[]⟩=pure ((("self":Str)::ps).zip us)
 na:∀ p∈ps,findIn K (.ref C) p=some none∧(p == ("__debug__":Str))=false
 few:ps.length≤100
structure EMade (h h':Heap) (e C:Addr) (mF:Str->Option Value):Prop where
 keeps:∀ b o,h.get? b=some o->h'.get? b=some o
 new:h.objs.size≤e
 obj:∃ t dct,h'.get? e=some (excObj C t dct)∧((dct=none∧∀ n,mF n=none)∨∃ dx,dct=some dx∧dx≠e∧h.objs.size≤dx∧h'.Ns1 dx mF)
noncomputable def fMap:List Str->List Value->Str->Option Value
 | p::ps,v::vs,y=>if y=p then some v else fMap ps vs y
 | _,_,_=>none
theorem setsM_at (m:Str->Option Value):∀ (ps:List Str) (M:Str->Option Value) (y:Str),setsM m ps M y=if y∈ps then m y else M y
 | [],M,y=>by simp [setsM]
 | p::ps,M,y=>by
  rw [setsM,setsM_at m ps]
  by_cases h:y∈ps
  ·simp [h]
  ·by_cases h2:y=p
   ·subst h2;simp [h]
   ·simp [h,h2]
theorem fMap_get:∀ {ps:List Str} {vs:List Value} {i:Nat} {p:Str} {v:Value},ps.Nodup->ps[i]? = some p->vs[i]? = some v->fMap ps vs p=some v
 | [],_,_,_,_,_,h,_=>by simp at h
 | _::_,[],_,_,_,_,_,h=>by simp at h
 | q::ps,w::vs,0,p,v,nd,h1,h2=>by
  cases h1;cases h2;simp [fMap]
 | q::ps,w::vs,i+1,p,v,nd,h1,h2=>by
  have nd':=List.nodup_cons.mp nd
  have h1:ps[i]? = some p:=h1
  have h2:vs[i]? = some v:=h2
  have hne:p≠q:=λz=>nd'.1 (by rw [← z];exact List.mem_of_getElem? h1)
  rw [fMap,if_neg hne]
  exact fMap_get nd'.2 h1 h2
theorem fMap_out:∀ {ps:List Str} {vs:List Value} {y:Str},y ∉ ps->fMap ps vs y=none
 | [],_,_,_=>by simp [fMap]
 | _::_,[],_,_=>by simp [fMap]
 | q::ps,w::vs,y,h=>by
  rw [fMap,if_neg (λz=>h (by simp [z]))]
  exact fMap_out λz=>h (List.mem_cons_of_mem _ z)
section
variable {prog:Program}{w:World}{A:Around}{E:Value->Shared->Prop}{K:Frag}{Wt C f:Addr}{ps:List Str}{h:Heap}{g:Array GenState}{d:Drawn}{tk:Nat}{os:OsState}
theorem exc_made {us:List Value}{Q:Value->Shared->Prop}(c:ECls K Wt C f)(i:EIni K C f ps)(X:K.In h)(lim:h.NoLimit)(hr:Room 2 A)(hl:us.length=ps.length)
  (hq:∀ h' tk' e,EMade h h' e C (fMap ps us)->Q (.ref e) ⟨h',g,d,tk',os⟩):wpAny (model prog w) A (call (.ref C) us) Q E ⟨h,g,d,tk,os⟩:=by
 have few:=i.few
 refine wpAny_call (exc_call c X (by rw [sizeLine_eq];omega) ?_)
 obtain ⟨qual,params,body,scope,oc,od,kV,doc,pm,an,cdv,ct,osl,lk,hcd,S,loc,IB,bd⟩:=i.fn
 generalize hh:(h.push { cls:=.type "tuple",data:=.seq us.toArray }).push (excObj C h.objs.size none)=hb
 have up:∀ b o,h.get? b=some o->hb.get? b=some o:=λb o z=>by rw [← hh];exact Heap.get?_push_of_some _ (Heap.get?_push_of_some _ z)
 have here:hb.get? (h.objs.size+1)=some (excObj C h.objs.size none):=by rw [← hh];heap_get
 have hsz:hb.objs.size=h.objs.size+2:=by rw [← hh,Heap.size_push,Heap.size_push]
 have X1:K.In hb:=X.keeps up
 have hKe:K.lookup (h.objs.size+1)=none:=by
  cases q:K.lookup (h.objs.size+1) with
  | none=>rfl
  | some o=>exact absurd (Heap.lt_size (X _ _ q)) (Nat.not_lt.mpr (Nat.le_succ _))
 have hlu:(Value.ref (h.objs.size+1)::us).length=ps.length+1:=by simp [hl]
 have hr1:Room 1 (A.under (.builtin "type.__call__" ⟨.ref C::us,[]⟩)):=hr.make C us []
 refine codeAny_call_function hr1.depth (X1 _ _ lk) rfl S.co S.gen rfl (codeRec_of X1 hcd) (BindsTo.of_eq (bd _ hlu) _ _ _ _ ?_)
 refine wpAny_newFunctionEnv_cells S.kind (λy hy=>.inl (loc y.1 (List.of_mem_zip hy).1)) λenv he s1 x=>?_
 subst he
 refine ⟨lim.keeps λb o z=>x.toInCall.keep b o (up b o z),codeAny_func ?_⟩
 obtain ⟨h1,tk1,rfl,hk1⟩:=x.done
 have fr:=x.toInCall.ns
 have nd:=List.nodup_cons.mp S.nd
 have kd:∀ p∈("self":Str)::ps,(envOfC qual scope hb.objs.size f cdv).kindOf p=some .local:=λp hp=>loc p hp
 have bg:∀ {i:Nat} {p:Str} {v:Value},(("self":Str)::ps)[i]? = some p->(Value.ref (h.objs.size+1)::us)[i]? = some v->bindL (envOfC qual scope hb.objs.size f cdv).kindOf ((("self":Str)::ps).zip (Value.ref (h.objs.size+1)::us)) (λ_=>none) p=some v :=
  λh1 h2=>bindL_get S.nd h1 h2 (kd _ (List.mem_of_getElem? h1))
 have at_:∀ p∈ps,∃ v,fMap ps us p=some v∧bindL (envOfC qual scope hb.objs.size f cdv).kindOf ((("self":Str)::ps).zip (Value.ref (h.objs.size+1)::us)) (λ_=>none) p=some v:=λp hp=>by
  obtain ⟨j,hj,e⟩:=List.mem_iff_getElem.mp hp
  have e1:ps[j]? = some p:=by rw [List.getElem?_eq_getElem hj,e]
  have e2:us[j]? = some (us[j]'(by omega)):=List.getElem?_eq_getElem _
  exact ⟨_,fMap_get nd.2 e1 e2,bg (i:=j+1) e1 e2⟩
 have hk2:∀ b o,hb.get? b=some o->h1.get? b=some o:=hk1
 refine init_run (hb:=hb) (L:=hb.objs.size) (t0:=h.objs.size) (C:=C) (e:=h.objs.size+1) (f:=f) c X1 (by rw [hsz];exact Nat.lt_succ_self _) hKe (Nat.le_refl _) S.kind rfl ⟨bg (i:=0) rfl rfl,kd _ List.mem_cons_self⟩ ps body (λ_=>none) [] h1 tk1 IB
  ⟨λb o z _=>hk2 b o z,fr,⟨none,hk2 _ _ here,.inl ⟨rfl,λ_=>rfl⟩⟩,Within.nil,Nat.le_of_lt fr.lt⟩ (by rw [List.length_nil,Nat.zero_add];exact Nat.le_trans few (by decide)) (λp hp=>⟨(i.na p hp).1,(i.na p hp).2,kd p (List.mem_cons_of_mem _ hp),let ⟨v,_,z⟩:=at_ p hp;⟨v,z⟩⟩) λh' tk' ns' I'=>?_
 refine ⟨rfl,hq h' tk' _ ⟨λb o z=>I'.keep b o (up b o z) (Nat.ne_of_lt (Nat.lt_succ_of_lt (Heap.lt_size z))),Nat.le_succ _,?_⟩⟩
 have em:setsM (bindL (envOfC qual scope hb.objs.size f cdv).kindOf ((("self":Str)::ps).zip (Value.ref (h.objs.size+1)::us)) (λ_=>none)) ps (λ_=>none)=fMap ps us:=by
  funext y
  rw [setsM_at]
  by_cases hy:y∈ps
  ·obtain ⟨v,z1,z2⟩:=at_ y hy
   rw [if_pos hy,z1,z2]
  ·rw [if_neg hy,fMap_out hy]
 obtain ⟨dct,ge,z⟩:=I'.obj
 rw [em] at z
 refine ⟨_,dct,ge,?_⟩
 rcases z with z | ⟨dx,z1,z2,_,z4,z5⟩
 ·exact .inl z
 ·exact .inr ⟨dx,z1,z2,Nat.le_trans (by rw [hsz];exact Nat.le_add_right _ 2) z4,z5⟩
end
end L3
namespace L3
open PySem PySem.W PySem.Spec PyProof.Rows L2
section
variable {M:Model}{A:Around}{E:Value->Shared->Prop}{K:Frag}{Wt C f:Addr}{s:Shared}{env:Env}
theorem exc_throw {x:Sem Value}{Q:Flow->Shared->Prop}(c:ECls K Wt C f)(hh:A.handled=none)
  (h:wpAny M A x (λv s1=>∃ e t dct,v = .ref e∧K.In s1.heap∧s1.heap.get? e=some (excObj C t dct)∧E (.ref e) s1) E s) :
  wpAny M A (raiseStmt env (some x) none) Q E s:=by
 unfold raiseStmt
 refine wpAny_bind (wpAny_mono h (λv s1 h1=>?_) λ_ _ z=>z)
 obtain ⟨e,t,dct,rfl,X,ge,q⟩:=h1
 obtain ⟨nm,qn,N,bs,hdct,sn,sub,ab,col,dd,k0,k1,k2,k3,k5,lk⟩:=c.obj
 have hC:=X _ _ lk
 have has:(Value.ref C :: .ref Wt::vMro).contains (.type "BaseException")=true:=rfl
 obtain ⟨hp,g,d,tk,os⟩:=s1
 repeat (first | with_reducible refine wpAny_loadPart_at ge ?_ | with_reducible refine wpAny_loadPart_at hC ?_ | (with_reducible refine wpAny_isSubtype_exc hC ?_;rw [has]) | wp_step)
 exact wpAny_raiseNew_none hh q
end
section
variable {X:Cx}{K:Frag}{Wt C f:Addr}{ps:List Str}{x:Str}{p cp pos:Pos}{a:Expr}{es:List Expr}{t:TA}
noncomputable def tRaise (W:List V->Hp->Prop)(ps:List Str)(t:TA):TS:=λ_ σ H=>t σ H λvs H1=>vs.length=ps.length∧W vs H1
noncomputable def Asks (X:Cx)(C:Addr)(ps:List Str)(W:List V->Hp->Prop):Prop:=∀ (pins:List (Addr×Obj)) (σ:St) (H:Hp) (s:Shared) (e:Addr) (h':Heap) (tk:Nat) (us:List Value) (vs:List V),
 Inv X pins σ H s->Vals vs us->EMade s.heap h' e C (fMap ps us)->W vs H->X.xe (.ref e) { s with heap:=h',toks:=tk }
theorem ps_raise {W:List V->Hp->Prop}(c:ECls X.K Wt C f)(i:EIni X.K C f ps)(hr:Room 2 X.A)(hg:Gl X x)(hm:X.mg x=some (.ref C))(hA:Asks X C ps W)(ha:PA X (a::es) t)
  (hdb:(x == ("__debug__":Str))=false:=by decide) (he:starEach (a::es) X.env=(false,eval a X.env)::starEach es X.env:=by rfl) (hpl:(backTo cp (starEach es X.env)).any (·.1)=false:=by rfl) :
  PS X (.Raise (some (.Call (.Name x p) (a::es) [] cp)) none pos) (tRaise W ps t):=by
 intro pins s σ H D I h
 rw [arm_exec_Raise]
 refine wpAny_bind (wpAny_standAt (exc_throw (K:=X.K) c hr.hd ?_))
 refine wpAny_bind (wpAny_mono ?_ (λv s2 q=>wpAny_bind (wpAny_standAt (wpAny_pure q))) λ_ _ z=>z)
 refine wpAny_Call_Name_kw (ld_glob I hg hm ?_ hdb)
 refine PySem.W.callWith_K (h₀:=X.base) I.ok.mod.kin c.kp (thn (ha cp pins s σ H _ I h) λus s1 ⟨vs,H1,I1,r,q⟩=>⟨I1.kIn,?_⟩) he hpl
 obtain ⟨hp,g,d,tk,os⟩:=s1
 refine exc_made c i I1.kIn I1.nolimit hr (by show us.length=_;rw [← r.length];exact q.1) λh' tk' e M=>?_
 obtain ⟨t0,dct,ge,z⟩:=M.obj
 exact ⟨e,t0,dct,rfl,I1.kIn.keeps M.keeps,ge,hA pins σ H1 _ e h' tk' us vs I1 r M q.2⟩
end
end L3
namespace L3
open PySem PySem.W PySem.Spec PyProof.Rows L2
noncomputable def Err (h:Heap)(e C:Addr)(dct:Option Addr)(tb:Value):Prop:=∃ vs,h.get? e=some { cls:=.ref C,dict:=dct,data:=.fields vs }∧vs[1]? = some tb
noncomputable def Tbk (h:Heap)(T:Addr)(fl:Value):Prop:=∃ o ts,h.get? T=some o∧o.data = .fields ts∧ts[3]? = some fl
structure Turned (fr S:List Addr) (h h':Heap):Prop where
 keep:∀ b o,b ∉ fr->b ∉ S->h.get? b=some o->h'.get? b=some o
 slot:∀ b o,b ∉ S->h.get? b=some o->∃ sl,h'.get? b=some { o with slots:=sl }
 size:h.objs.size≤h'.objs.size
theorem Turned.trans {fr S S':List Addr}{h h1 h2:Heap}(a:Turned fr S h h1)(b:Turned fr S' h1 h2):Turned fr (S++S') h h2 where
 keep:=λc o n1 n2 z=>b.keep c o n1 (λq=>n2 (List.mem_append_right _ q)) (a.keep c o n1 (λq=>n2 (List.mem_append_left _ q)) z)
 slot:=λc o n z=>by
  obtain ⟨sl,z1⟩:=a.slot c o (λq=>n (List.mem_append_left _ q)) z
  obtain ⟨sl',z2⟩:=b.slot c _ (λq=>n (List.mem_append_right _ q)) z1
  exact ⟨sl',z2⟩
 size:=Nat.le_trans a.size b.size
theorem turned_upd {fr:List Addr}{h:Heap}{a:Addr}{g:Obj->Obj}:Turned fr [a] h (h.update a g) where
 keep:=λb o _ n z=>(Heap.get?_update_ne _ _ _ _ (by simpa using n)).trans z
 slot:=λb o n z=>⟨o.slots,(Heap.get?_update_ne _ _ _ _ (by simpa using n)).trans z⟩
 size:=Nat.le_of_eq (Heap.size_update _ _ _).symm
section
variable {M:Model}{A:Around}{E:Value->Shared->Prop}{s:Shared}{base:Heap}{env:Env}{outer:List Env}{L e C T:Addr}{dct:Option Addr}{tb:Value}
theorem new_entry {hadNext:Bool}{head:Value}{Q:Unit->Shared->Prop}(hfr:A.frames=some (env::outer))(hl:s.heap.FunFrames base (env::outer))(hf:env.frame=some L)(he:Err s.heap e C dct tb)
  (q:∀ h' T,s.heap.objs.size≤T->Err h' e C dct (.ref T)->Tbk h' T (rawInt L)->Turned (frs (env::outer)) [e] s.heap h'->Q () { s with heap:=h' }) :
  wpAny M A (do let a ← frameOf env;let pl ← entryPlaceOf L hadNext;let b ← EntryCells.newEntry head a .none (rawInt L) .none pl;setField (.ref e) 1 b) Q E s:=by
 obtain ⟨vs,ge,g1⟩:=he
 have hsz:1<vs.size:=(Array.getElem?_eq_some_iff.mp g1).1
 have hne:e ∉ frs (env::outer):=λz=>by
  obtain ⟨_,o,ho,nf⟩:=hl.mem z
  rw [ge] at ho;cases ho
  exact nf vs rfl
 refine wpAny_bind (wpAny_frameOf_fun hfr hl hf λh1 ⟨z1,z2,z3⟩=>wpAny_bind (wpAny_entryPlaceOf λpl hpl=>?_))
 unfold EntryCells.newEntry newFields
 refine wpAny_bind (wpAny_newObj_type ?_ (hpl.sizeOk5 _ _ _ _ _))
 have ge1:h1.get? e=some { cls:=.ref C,dict:=dct,data:=.fields vs }:=(z2 e hne).trans ge
 generalize hts:([head,Value.ref L,Value.none,rawInt L,Value.none]++(if pl.isEmpty then List.replicate 6 Value.none else pl)).toArray=ts
 have t3:ts[3]? = some (rawInt L):=by rw [← hts];first | (simp;done) | (rcases hpl with rfl | ⟨_,_,_,_,_,_,_,rfl⟩ <;> simp)
 generalize hO:({ cls:=Value.type "traceback",dict:=none,data:=Data.fields ts }:Obj)=O
 have ge2:(h1.push O).get? e=some { cls:=.ref C,dict:=dct,data:=.fields vs }:=Heap.get?_push_of_some O ge1
 refine wpAny_setField ge2 rfl hsz ?_
 have hTe:h1.objs.size≠e:=Nat.ne_of_gt (Heap.lt_size ge1)
 have sz1:h1.objs.size=s.heap.objs.size:=z1
 refine q _ h1.objs.size (Nat.le_of_eq sz1.symm) ⟨vs.setIfInBounds 1 (.ref h1.objs.size),?_,by simp [hsz]⟩ ⟨O,ts,?_,by rw [← hO],t3⟩ ⟨λb o n1 n2 z=>?_,λb o n z=>?_,?_⟩
 ·exact Heap.get?_update_self (Obj.mapFields (·.setIfInBounds 1 (Value.ref h1.objs.size))) ge2 rfl
 ·refine (Heap.get?_update_ne _ _ _ _ hTe).trans (Heap.get?_push_size h1 ?_)
  rw [← hO];rfl
 ·have hb:b≠e:=by simpa using n2
  exact (Heap.get?_update_ne _ _ _ _ hb).trans (Heap.get?_push_of_some O ((z2 b n1).trans z))
 ·have hb:b≠e:=by simpa using n
  obtain ⟨sl,y⟩:=z3 b o z
  exact ⟨sl,(Heap.get?_update_ne _ _ _ _ hb).trans (Heap.get?_push_of_some O y)⟩
 ·rw [Heap.size_update,Heap.size_push,sz1];exact Nat.le_succ _
theorem note_first {Q:Unit->Shared->Prop}(hfr:A.frames=some (env::outer))(hl:s.heap.FunFrames base (env::outer))(hf:env.frame=some L)(he:Err s.heap e C dct .none)
  (q:∀ h' T,s.heap.objs.size≤T->Err h' e C dct (.ref T)->Tbk h' T (rawInt L)->Turned (frs (env::outer)) [e] s.heap h'->Q () { s with heap:=h' }):wpAny M A (noteFrame (.ref e) env) Q E s:=by
 obtain ⟨vs,ge,g1⟩:=id he
 unfold noteFrame
 simp only [hf]
 refine wpAny_bind (wpAny_field ge rfl g1 ?_)
 rw [if_neg (show ¬ ((Value.none != Value.none)=true) by decide)]
 exact new_entry hfr hl hf he q
theorem note_next {Q:Unit->Shared->Prop}(hfr:A.frames=some (env::outer))(hl:s.heap.FunFrames base (env::outer))(hf:env.frame=some L)(he:Err s.heap e C dct (.ref T))(ht:Tbk s.heap T .none)(hTe:T≠e)
  (q:∀ h' T',s.heap.objs.size≤T'->Err h' e C dct (.ref T')->Tbk h' T' (rawInt L)->Turned (frs (env::outer)) [T,e] s.heap h'->Q () { s with heap:=h' }):wpAny M A (noteFrame (.ref e) env) Q E s:=by
 obtain ⟨vs,ge,g1⟩:=id he
 obtain ⟨oT,ts,gt,dt,t3⟩:=ht
 unfold noteFrame
 simp only [hf]
 refine wpAny_bind (wpAny_field ge rfl g1 ?_)
 rw [if_pos (show (Value.ref T != Value.none)=true by simp)]
 refine wpAny_bind (wpAny_field gt dt t3 ?_)
 rw [if_neg (show ¬ ((Value.none == rawInt L)=true) by simp [rawInt])]
 refine wpAny_bind (wpAny_setField gt dt (Array.getElem?_eq_some_iff.mp t3).1 ?_)
 have tu:Turned (frs (env::outer)) [T] s.heap (s.heap.update T (Obj.mapFields (·.setIfInBounds 3 Value.none))):=turned_upd
 refine new_entry (s:={ s with heap:=s.heap.update T (Obj.mapFields (·.setIfInBounds 3 Value.none)) }) hfr (hl.of_keeps λb o z nf=>?_) hf ⟨vs,(Heap.get?_update_ne _ _ _ _ hTe.symm).trans ge,g1⟩ λh' T' z1 z2 z3 z4=>q h' T' (Nat.le_trans tu.size z1) z2 z3 (tu.trans z4)
 refine ⟨o,(Heap.get?_update_ne _ _ _ _ λy=>?_).trans z,rfl⟩
 rw [y,gt] at z;cases z
 exact nf ts dt
theorem flight_off {fl:Value}{Q:Unit->Shared->Prop}(he:Err s.heap e C dct (.ref T))(ht:Tbk s.heap T fl)(hTe:T≠e)
  (q:∀ h',Err h' e C dct (.ref T)->Tbk h' T .none->Turned [] [T] s.heap h'->Q () { s with heap:=h' }):wpAny M A (setFlight (.ref e) none) Q E s:=by
 obtain ⟨vs,ge,g1⟩:=he
 obtain ⟨oT,ts,gt,dt,t3⟩:=ht
 have h3:=(Array.getElem?_eq_some_iff.mp t3).1
 unfold setFlight
 refine wpAny_bind (wpAny_field ge rfl g1 ?_)
 rw [if_pos (show (Value.ref T != Value.none)=true by simp)]
 refine wpAny_setField gt dt h3 (q _ ⟨vs,(Heap.get?_update_ne _ _ _ _ hTe.symm).trans ge,g1⟩ ⟨_,ts.setIfInBounds 3 .none,Heap.get?_update_self _ gt (Obj.isFreed_of_fields (Obj.data_mapFields dt _)),Obj.data_mapFields dt _,by simp [h3]⟩ turned_upd)
end
end L3
namespace L3
open PySem PySem.W PySem.Spec PyProof.Rows L2
section
variable {M:Model}{A:Around}{E:Value->Shared->Prop}{s:Shared}{base:Heap}{env:Env}{outer:List Env}{L e C T:Addr}{dct:Option Addr}
theorem Turned.off {fr S:List Addr}{h h1 h2:Heap}(a:Turned fr S h h1)(b:Turned [] [T] h1 h2)(hT:h.objs.size≤T):Turned fr S h h2 where
 keep:=λc o n1 n2 z=>b.keep c o (by simp) (by simpa using Nat.ne_of_lt (Nat.lt_of_lt_of_le (Heap.lt_size z) hT)) (a.keep c o n1 n2 z)
 slot:=λc o n z=>by
  obtain ⟨sl,z1⟩:=a.slot c o n z
  exact ⟨sl,b.keep c _ (by simp) (by simpa using Nat.ne_of_lt (Nat.lt_of_lt_of_le (Heap.lt_size z) hT)) z1⟩
 size:=Nat.le_trans a.size b.size
noncomputable def Aloft (h:Heap)(e C:Addr)(dct:Option Addr)(S:List Addr):Prop:=(Err h e C dct .none∧S=[e])∨∃ T,Err h e C dct (.ref T)∧Tbk h T .none∧T≠e∧S=[T,e]
theorem Aloft.lt {h:Heap}{S:List Addr}(a:Aloft h e C dct S):e<h.objs.size:=by
 rcases a with ⟨⟨vs,g,_⟩,_⟩ | ⟨T,⟨vs,g,_⟩,_⟩ <;> exact Heap.lt_size g
theorem leave_any {S:List Addr}{Q:Unit->Shared->Prop}(hfr:A.frames=some (env::outer))(hl:s.heap.FunFrames base (env::outer))(hf:env.frame=some L)(ha:Aloft s.heap e C dct S)
  (q:∀ h' T,s.heap.objs.size≤T->T≠e->Err h' e C dct (.ref T)->Tbk h' T .none->Turned (frs (env::outer)) S s.heap h'->Q () { s with heap:=h' }):wpAny M A (leaving env (.ref e)) Q E s:=by
 have hlt:=ha.lt
 unfold leaving
 rcases ha with ⟨he,rfl⟩ | ⟨T,he,ht,hTe,rfl⟩
 ·refine wpAny_bind (note_first hfr hl hf he λh1 T z1 z2 z3 z4=>?_)
  have hne:T≠e:=Nat.ne_of_gt (Nat.lt_of_lt_of_le hlt z1)
  exact flight_off (s:={ s with heap:=h1 }) z2 z3 hne λh2 y1 y2 y3=>q h2 T z1 hne y1 y2 (z4.off y3 z1)
 ·refine wpAny_bind (note_next hfr hl hf he ht hTe λh1 T' z1 z2 z3 z4=>?_)
  have hne:T' ≠ e:=Nat.ne_of_gt (Nat.lt_of_lt_of_le hlt z1)
  exact flight_off (s:={ s with heap:=h1 }) z2 z3 hne λh2 y1 y2 y3=>q h2 T' z1 hne y1 y2 (z4.off y3 z1)
end
theorem hok_turned {P:Program}{w:World}{H:Hp}{h h':Heap}{fr S:List Addr}(ok:HOk P w H h)(t:Turned fr S h h')(n1:∀ b∈fr,H b=none)(n2:∀ b∈S,H b=none):HOk P w H h':=λb u z=>by
 refine (ok b u z).stay (λc v hc q=>t.keep c v (λy=>?_) (λy=>?_) q) (λ_ q=>q) λ_ _ q=>q
 ·rcases hc with rfl | hc
  ·rw [n1 _ y] at z;cases z
  ·rw [n1 _ y] at hc;cases hc
 ·rcases hc with rfl | hc
  ·rw [n2 _ y] at z;cases z
  ·rw [n2 _ y] at hc;cases hc
noncomputable def Flds (lo:Nat)(dct:Option Addr)(mF:Str->Option Value)(S:List Addr)(H:Hp)(h:Heap):Prop :=
 (dct=none∧∀ n,mF n=none)∨∃ dx,dct=some dx∧dx ∉ S∧lo≤dx∧H dx=none∧h.Ns1 dx mF
noncomputable def Fly (lo:Nat)(e C:Addr)(mF:Str->Option Value)(H:Hp)(h:Heap):Prop :=
 ∃ dct T,Err h e C dct (.ref T)∧Tbk h T .none∧T≠e∧lo≤e∧lo≤T∧H e=none∧H T=none∧Flds lo dct mF [T,e] H h
noncomputable def CXe (P:Program)(w:World):CXT:=λouter H s E ev s'=>∃ (e:Addr) (H':Hp) (C:Addr) (ps:List Str) (us:List Value) (vs:List V),ev = .ref e∧s'.os=s.os∧AllBare s'.gens∧Un (frs outer) [] H H' s.heap s'.heap∧HOk P w H' s'.heap ∧
 Vals vs us∧Fly s.heap.objs.size e C (fMap ps us) H' s'.heap∧E (.ref C) (some e) (upd H' e (.xd (ps.zip vs)))
structure Goes (X:Cx) (E:XK):Prop where
 stk:X.stack=X.env::X.outer
 fr:X.env.frame=some X.env.locals
 ex:X.ex=[]
 xe:∀ e s',wpAny (model X.prog X.w) X.A (leaving X.env e) (λ_ s''=>CXe X.prog X.w X.outer X.H₀ X.s₀ E e s'') (λe' s''=>CXe X.prog X.w X.outer X.H₀ X.s₀ E e' s'') s'->X.xe e s'
theorem goes_of {P:Program}{w:World}{K:Frag}{mg:Str->Option Value}{base:Heap}{N:List Str}{qual:Str}{scope:Scope}{f:Addr}{cd:Value}{A:Around}{outer:List Env}{s:Shared}{H:Hp}{E:XK} :
  Goes (cxOf (CXe P w) P w K mg base N qual scope f cd A outer s H E) E:=⟨rfl,rfl,rfl,λ_ _ h=>h⟩
section
variable {X:Cx}{E:XK}{pins:List (Addr×Obj)}{σ:St}{H:Hp}{s:Shared}
theorem out_of (G:Goes X E)(I:Inv X pins σ H s){e C:Addr}{dct:Option Addr}{S:List Addr}{ps:List Str}{us:List Value}{vs:List V}(ha:Aloft s.heap e C dct S)(hS:∀ b∈S,X.s₀.heap.objs.size≤b∧H b=none∧b ∉ frs X.stack)
  (hF:Flds X.s₀.heap.objs.size dct (fMap ps us) S H s.heap) (hd:∀ dx,dct=some dx->dx ∉ frs X.stack) (r:Vals vs us) (q:E (.ref C) (some e) (upd H e (.xd (ps.zip vs)))):X.xe (.ref e) s:=by
 refine G.xe _ _ ?_
 have hfr:=I.ok.frames
 have hl:=I.stack
 have hfree:=I.stkFree
 rw [G.stk] at hfr hl hfree hd hS
 have heS:e∈S:=by rcases ha with ⟨_,rfl⟩ | ⟨T,_,_,_,rfl⟩ <;> simp
 have ha':=ha
 refine leave_any (base:=X.base) hfr hl G.fr ha λh' T z1 z2 z3 z4 z5=>?_
 have out:∀ b o,X.s₀.heap.get? b=some o->b ∉ S:=λb o y z=>absurd (Heap.lt_size y) (Nat.not_lt.mpr (hS b z).1)
 have nL:∀ b o,X.s₀.heap.get? b=some o->b ∉ X.fs->b ∉ frs (X.env::X.outer):=λb o y n z=>by
  unfold frs at z
  rw [List.filterMap_cons,G.fr] at z
  rcases List.mem_cons.mp z with rfl | z
  ·exact absurd (Heap.lt_size y) (Nat.not_lt.mpr I.ok.above)
  ·exact n z
 have bs:=I.base
 rw [G.ex] at bs
 refine ⟨e,H,C,ps,us,vs,rfl,I.os,I.bare,⟨λb o y n hb _=>z5.keep b o (nL b o y hb) (out b o y) (bs.keep b o y n hb (by simp)),λb o y n hb _=>?_,λb o y n _=>bs.free b o y n (by simp),λb o y _=>?_,bs.tups,bs.frzs,bs.tbls⟩,hok_turned I.hok z5 hfree λb hb=>(hS b hb).2.1,r,
  ⟨dct,T,z3,z4,z2,(hS e heS).1,Nat.le_trans I.sz z1,(hS e heS).2.1,I.hok.fresh z1,?_⟩,q⟩
 ·obtain ⟨sl,y1⟩:=bs.slot b o y n hb (by simp)
  obtain ⟨sl2,y2⟩:=z5.slot b _ (out b o y) y1
  exact ⟨sl2,y2⟩
 ·obtain ⟨o',y1⟩:=bs.there b o y (by simp)
  obtain ⟨sl,y2⟩:=z5.slot b _ (out b o y) y1
  exact ⟨_,y2⟩
 ·rcases hF with hF | ⟨dx,rfl,n1,n2,n3,n4⟩
  ·exact .inl hF
  ·have hdl:dx<s.heap.objs.size:=n4.ns.lt
   refine .inr ⟨dx,rfl,λz=>?_,n2,n3,n4.at λo y=>z5.keep dx o (hd dx rfl) n1 y⟩
   simp only [List.mem_cons,List.not_mem_nil,or_false] at z
   rcases z with z | z
   ·exact absurd hdl (by rw [z];exact Nat.not_lt.mpr z1)
   ·exact n1 (by rw [z];exact heS)
theorem asks_of (G:Goes X E){C:Addr}{ps:List Str}:Asks X C ps λvs H=>∀ e,H e=none->E (.ref C) (some e) (upd H e (.xd (ps.zip vs))):=λpins σ H s e h' tk us vs I r M w=>by
 obtain ⟨t,dct,ge,z⟩:=M.obj
 have I':Inv X pins σ H { s with heap:=h',toks:=tk }:=I.kept M.keeps
 have fre:∀ b,s.heap.objs.size≤b->b ∉ frs X.stack:=λb hb hm=>by
  obtain ⟨_,o,ho,_⟩:=I.stack.mem hm
  exact absurd (Heap.lt_size ho) (Nat.not_lt.mpr hb)
 refine out_of G I' (C:=C) (dct:=dct) (S:=[e]) (ps:=ps) (us:=us) (vs:=vs) (.inl ⟨⟨_,ge,rfl⟩,rfl⟩) (λb hb=>?_) ?_ (λdx hdx=>?_) r (w e (I.hok.fresh M.new))
 ·rw [List.mem_singleton.mp hb]
  exact ⟨Nat.le_trans I.sz M.new,I.hok.fresh M.new,fre e M.new⟩
 ·rcases z with z | ⟨dx,z1,z2,z3,z4⟩
  ·exact .inl z
  ·exact .inr ⟨dx,z1,by simpa using z2,Nat.le_trans I.sz z3,I.hok.fresh z3,z4⟩
 ·rcases z with z | ⟨dy,z1,z2,z3,z4⟩
  ·rw [z.1] at hdx;cases hdx
  ·rw [z1] at hdx;cases hdx;exact fre _ z3
theorem passes_of (G:Goes X E):Passes (CXe X.prog X.w) X E:=λpins σ H s ev s' I z=>by
 obtain ⟨e,H',C,ps,us,vs,rfl,os,bare,un,hok,r,⟨dct,T,y1,y2,y3,y4,y5,y6,y7,y8⟩,q⟩:=z
 have I':Inv X pins σ H' s':=I.call' (ch:=[]) os un hok bare λb hb=>absurd hb (by simp)
 have fre:∀ b,s.heap.objs.size≤b->b ∉ frs X.stack:=λb hb hm=>by
  obtain ⟨_,o,ho,_⟩:=I.stack.mem hm
  exact absurd (Heap.lt_size ho) (Nat.not_lt.mpr hb)
 refine out_of G I' (C:=C) (dct:=dct) (S:=[T,e]) (ps:=ps) (us:=us) (vs:=vs) (.inr ⟨T,y1,y2,y3,rfl⟩) (λb hb=>?_) ?_ (λdx hdx=>?_) r q
 ·simp only [List.mem_cons,List.not_mem_nil,or_false] at hb
  rcases hb with rfl | rfl
  ·exact ⟨Nat.le_trans I.sz y5,y7,fre _ y5⟩
  ·exact ⟨Nat.le_trans I.sz y4,y6,fre _ y4⟩
 ·rcases y8 with y8 | ⟨dx,z1,z2,z3,z4,z5⟩
  ·exact .inl y8
  ·exact .inr ⟨dx,z1,z2,Nat.le_trans I.sz z3,z4,z5⟩
 ·rcases y8 with y8 | ⟨dy,z1,z2,z3,z4,z5⟩
  ·rw [y8.1] at hdx;cases hdx
  ·rw [z1] at hdx;cases hdx;exact fre _ z3
end
end L3
namespace L3
open PySem PySem.W PySem.Spec PyProof.Rows L2
open Builtin Builtin.ObjectAttr
structure ECat (K:Frag) (C:Addr):Prop where
 ga:findIn K (.ref C) "__getattribute__" = some (some (.builtin "BaseException.__getattribute__"))
 gn:findIn K (.ref C) "__getattr__" = some none
 mb:mroIn K C (.type "BaseException")=some true
 mo:mroIn K C (.type "object")=some true
 ca:findIn K (.ref C) "__class__" = some (some (.builtin "object.__class__"))
 cg:specialIn K (.builtin "object.__class__") "__get__" = some (some (.builtin "getset_descriptor.__get__"))
 ct:takesIn K (.builtin "object.__class__")=some true
section
variable {prog:Program}{w:World}{A:Around}{E:Value->Shared->Prop}{K:Frag}{C e:Addr}{oe:Obj}{od:Option Obj}{s:Shared}{name:Str}{tk:Tok}
theorem exc_gaCall {r:Found}{R:Result->Shared->Prop}(c:ECat K C)(X:K.In s.heap)(I:InstAt s.heap e oe C od)(hf:findObj K C od name=some r)(hr:r ≠ .missing)
  (h:∀ A',wpAny (model prog w) A' (match r with | .value v=>ret v | .bind g a=>bindTo g a (.ref e) (.ref C) | .missing=>ret .none) (λfin s'=>match fin with | .done z=>R (.ok z) s' | _=>False) (λx s'=>R (.error x) s') s) :
  codeAny (model prog w) A (.call (.builtin "BaseException.__getattribute__") ⟨[.ref e,.str name tk],[]⟩) R s:=by
 obtain ⟨hp,g,d,t,os⟩:=s
 have FB:=PySem.F.attrBase_ValueError
 have ty:=I.type (M:=model prog w)
 have L1:=looks_find (M:=model prog w) X I hf
 have L2:=looks_mroIn (M:=model prog w) X c.mb
 refine codeAny_call_builtin FB.ga.plain PySem.F.entry_bexc_ga ?_
 have hk:builtinKind "BaseException.__getattribute__" = some .slot:=by decide +kernel
 have hsp:splitId "BaseException.__getattribute__" = some ("BaseException","__getattribute__"):=by decide +kernel
 have ha:=PySem.F.args_bexc_ga (.ref e) (.str name tk)
 have inst:Looks (model prog w) hp (isInstance (.ref e) (.type "BaseException")) true:=ty.andThen L2
 simp only [checkBuiltinCall,hk,hsp]
 refine wpAny_bind (inst.at ?_)
 simp only [Bool.not_true,Bool.false_eq_true,if_false]
 unfold argsOk at ha
 generalize Manifest.signature? "BaseException.__getattribute__" = sg at ha ⊢
 suffices hgo:wpAny (model prog w) A.in1 (Builtin.«object.__getattribute__» { pos:=[Value.ref e,Value.str name tk] }) (λfin s'=>match fin with | .done f=>R (.ok f) s' | .again c'=>c'.quiet=true∧codeAny (model prog w) A c' R s') (λe s'=>R (.error e) s') ⟨hp,g,d,t,os⟩ by
  cases sg with
  | none=>exact wpAny_pure hgo
  | some sig =>
   have ha':Bind.checkArgs "BaseException.__getattribute__" sig { pos:=[Value.ref e,Value.str name tk] }=pure ():=ha
   show wpAny _ _ (Bind.checkArgs "BaseException.__getattribute__" sig { pos:=[Value.ref e,Value.str name tk] }) _ _ _
   rw [ha']
   exact wpAny_pure hgo
 unfold Builtin.«object.__getattribute__»
 refine wpAny_bind (wpAny_pure (wpAny_bind (wpAny_pure (wpAny_bind (ty.at (wpAny_bind (L1.at ?_)))))))
 have hz:=h A.in1
 cases r with
 | value v =>
  refine wpAny_mono hz (λfin s' z=>?_) λ_ _ z=>z
  cases fin <;> first | exact z | exact z.elim
 | bind g a =>
  refine wpAny_mono hz (λfin s' z=>?_) λ_ _ z=>z
  cases fin <;> first | exact z | exact z.elim
 | missing=>exact absurd rfl hr
theorem exc_by {r:Found}{fill expr:Bool}{Q:Value->Shared->Prop}(c:ECat K C)(X:K.In s.heap)(I:InstAt s.heap e oe C od)(hf:findObj K C od name=some r)(hr:r ≠ .missing)
  (h:∀ A',wpAny (model prog w) A' (match r with | .value v=>ret v | .bind g a=>bindTo g a (.ref e) (.ref C) | .missing=>ret .none) (λfin s'=>match fin with | .done (.ret z)=>handedIn z=true∧Q z s' | _=>False) (λ_ _=>False) s) :
  wpAny (model prog w) A (getAttrBy (.ref e) (.str name tk) fill expr) Q E s:=by
 obtain ⟨hp,g,d,t,os⟩:=s
 have FB:=PySem.F.attrBase_ValueError
 have ty:=I.type (M:=model prog w)
 have L1:=looks_findIn (M:=model prog w) X c.ga
 have L2:=looks_findIn (M:=model prog w) X c.gn
 have f3:=FB.ga.bind (.ref e)
 unfold getAttrBy
 refine wpAny_holding (wpAny_bind (ty.at (wpAny_bind (L1.at ?_))))
 show wpAny _ _ (getAttrByItsOwn _ _ _ _ _ _) _ _ _
 unfold getAttrByItsOwn hookBefore callGetattribute
 refine wpAny_bind (L2.at (wpAny_bind (wpAny_attempt (wpAny_holding ?_))))
 rw [if_neg (show ¬ ((expr && onTheHeap (Value.builtin "BaseException.__getattribute__"))=true) by cases expr <;> decide)]
 unfold boundAndCalled
 rw [f3]
 refine wpAny_bind (wpAny_pure (wpAny_call ?_))
 refine exc_gaCall (s:=⟨hp,g,d,t,os⟩) c X I hf hr λA'=>wpAny_mono (h A') (λfin s' z=>?_) λ_ _ z=>z.elim
 cases fin with
 | again _=>exact z.elim
 | done f =>
  cases f with
  | ret z1 =>
   show wpAny _ _ (handedOut z1) _ _ _
   rw [handedOut_of z.1]
   exact wpAny_pure z.2
  | _=>exact z.elim
theorem exc_field {v:Value}{expr:Bool}{Q:Value->Shared->Prop}(c:ECat K C)(X:K.In s.heap)(I:InstAt s.heap e oe C od)(hf:findObj K C od name=some (.value v))(hv:handedIn v=true)(h:∀ tk,Q v { s with toks:=tk }) :
  wpAny (model prog w) A (getAttr (.ref e) name expr) Q E s:=by
 unfold getAttr
 refine wpAny_bind (wpAny_mkText ?_)
 exact exc_by (s:={ s with toks:=s.toks+1 }) c X I hf (by simp) λA'=>wpAny_pure ⟨hv,h _⟩
end
end L3
namespace L3
open PySem PySem.W PySem.Spec PyProof.Rows L2
structure Has (X:Cx) (e C:Addr) (fs:List (Str×V)):Prop where
 ob:∃ oe od,(e,oe)∈X.pn∧oe.cls = .ref C∧notCls oe=true ∧
  ((oe.dict=none∧od=none∧∀ n,fs.lookup n=none)∨∃ dx o,oe.dict=some dx∧od=some o∧(dx,o)∈X.pn∧∀ n v,fs.lookup n=some v->∃ u,RelV v u∧lookIn n o=some (some u))
 cat:ECat X.K C
 hd:hasDictIn X.K C=true
theorem inv_pin {X:Cx}{pins:List (Addr×Obj)}{σ:St}{H:Hp}{s:Shared}(I:Inv X pins σ H s){p:Addr×Obj}(h:p∈X.pn):s.heap.get? p.1=some p.2:=(I.pin p (List.mem_append_left _ h)).1
theorem handed_v {v:V}{u:Value}(r:RelV v u):handedIn u=true:=by
 cases v <;> first | (cases (show u=_ from r);rfl) | (obtain ⟨t,z⟩:=r;rw [z];rfl)
section
variable {X:Cx}{e C:Addr}{fs:List (Str×V)}{pins:List (Addr×Obj)}{σ:St}{H:Hp}{s:Shared}
theorem Has.inst (h:Has X e C fs)(I:Inv X pins σ H s):∃ oe od,InstAt s.heap e oe C od∧∀ n v,fs.lookup n=some v->findIn X.K (.ref C) n=some none->∃ u,RelV v u∧findObj X.K C od n=some (.value u):=by
 obtain ⟨oe,od,m1,m2,m3,m4⟩:=h.ob
 refine ⟨oe,od,⟨inv_pin I m1,m2,m3,?_⟩,λn v z na=>?_⟩
 ·rcases m4 with ⟨z1,z2,_⟩ | ⟨dx,o,z1,z2,z3,_⟩
  ·rw [z1,z2];trivial
  ·rw [z1,z2];exact inv_pin I z3
 ·rcases m4 with ⟨_,_,z3⟩ | ⟨dx,o,z1,z2,z3,z4⟩
  ·rw [z3] at z;cases z
  ·obtain ⟨u,ru,lu⟩:=z4 n v z
   rw [z2]
   exact ⟨u,ru,findObj_own h.hd na rfl lu⟩
noncomputable def tErr (K:Frag)(C:Addr)(fs:List (Str×V))(e:Addr)(i:Nat)(f:Str):TE:=λσ H Q=>σ[i]? = some (some (.ref e))∧findIn K (.ref C) f=some none∧∃ v,fs.lookup f=some v∧Q v H
theorem pe_err {i:Nat}{x f:Str}{px pos:Pos}(h:Has X e C fs)(hN:X.N[i]? = some x)(hv:Vis X.env.scope x)(hb:attributeBase (.Name x px) f X.env (eval (.Name x px) X.env)=eval (.Name x px) X.env:=by rfl)
  (hd:(x == ("__debug__":Str))=false:=by decide) (hcd:(x == ("__classdict__":Str))=false:=by decide):PE X (.Attribute (.Name x px) f pos) (tErr X.K C fs e i f):=by
 intro pins s σ H Q I hh
 obtain ⟨h1,na,v,h2,q⟩:=hh
 refine attr_of hb (thn (pe_var (pos:=px) hN hv hd hcd pins s σ H (λy H'=>y = .ref e∧H' = H) I ⟨_,h1,rfl,rfl⟩) λu s1 ⟨y,H1,I1,ry,ey,eH⟩=>?_)
 subst ey eH
 cases (show u=Value.ref e from ry)
 obtain ⟨oe,od,J,hf⟩:=h.inst I1
 obtain ⟨u',ru,fo⟩:=hf f v h2 na
 exact exc_field h.cat I1.kIn J fo (handed_v ru) λtk=>⟨v,H1,I1.tok tk,ru,q⟩
end
end L3
namespace L3
open PySem PySem.W PySem.Spec PyProof.Rows L2
section
variable {X:Cx}{pins:List (Addr×Obj)}{σ:St}{H:Hp}{s:Shared}
theorem inv_aside {S:List Addr}{h':Heap}(I:Inv X pins σ H s)(t:Turned (frs X.stack) S s.heap h')
  (hS:∀ b∈S,H b=none∧(b∈X.ex∨X.s₀.heap.objs.size≤b)∧b≠X.env.locals∧(∀ x c,X.env.cells.lookup x=some c->c≠b)∧∀ p∈X.pn++pins,p.1≠b):Inv X pins σ H { s with heap:=h' } :=
 I.call' (ch:=S) rfl ⟨λb o z n hb hx=>t.keep b o hb hx z,λb o z n hb hx=>t.slot b o hx z,λ_ _ _ n _=>n,λb o z hx=>(let ⟨sl,q⟩:=t.slot b o hx z;⟨_,q⟩),λ_ _ z=>z,λ_ _ _ z=>z,λb ps z=>⟨#[],by simp [z]⟩⟩
  (hok_turned I.hok t I.stkFree λb hb=>(hS b hb).1) I.bare λb hb=>(hS b hb).2
noncomputable abbrev inTry (X:Cx)(pn:List (Addr×Obj))(xe:Value->Shared->Prop):Cx:={ X with pn:=pn,xe:=xe }
noncomputable abbrev inSuite (X:Cx)(e:Addr)(pn:List (Addr×Obj))(xe:Value->Shared->Prop):Cx:={ X with A:=X.A.mark (some (.ref e)),calm:=false,pn:=pn,xe:=xe }
theorem ok_try {pn:List (Addr×Obj)}{xe:Value->Shared->Prop}(k:X.Ok):(inTry X pn xe).Ok:=⟨k.mod,k.kind,k.glob,k.blt,k.above,k.inj,k.has,k.cab,k.hd,k.frames,k.stk,k.exf,k.bs,k.bsz,k.noex,k.exfs,k.funs,k.frf⟩
theorem ok_suite {e:Addr}{pn:List (Addr×Obj)}{xe:Value->Shared->Prop}(k:X.Ok):(inSuite X e pn xe).Ok:=⟨k.mod,k.kind,k.glob,k.blt,k.above,k.inj,k.has,k.cab,(λz=>nomatch z),k.frames,k.stk,k.exf,k.bs,k.bsz,k.noex,k.exfs,k.funs,k.frf⟩
theorem inv_try {pn pins':List (Addr×Obj)}{xe:Value->Shared->Prop}(I:Inv X pins σ H s)(hp:∀ p∈pn++pins',s.heap.get? p.1=some p.2∧H p.1=none∧p.1≠X.env.locals∧p.1 ∉ X.fs∧∀ v,p.2.data ≠ .cell v):Inv (inTry X pn xe) pins' σ H s :=
 ⟨ok_try I.ok,I.os,I.bare,I.base,I.loc,I.cell,I.free,I.freeC,hp,I.hok,I.len⟩
theorem inv_untry {pn pins':List (Addr×Obj)}{xe:Value->Shared->Prop}(k:X.Ok)(I:Inv (inTry X pn xe) pins' σ H s)(hp:∀ p∈X.pn++pins,p∈pn):Inv X pins σ H s :=
 ⟨k,I.os,I.bare,I.base,I.loc,I.cell,I.free,I.freeC,λp z=>I.pin p (List.mem_append_left _ (hp p z)),I.hok,I.len⟩
theorem inv_suite {e:Addr}{pn pins':List (Addr×Obj)}{xe:Value->Shared->Prop}(I:Inv X pins σ H s)(hp:∀ p∈pn++pins',s.heap.get? p.1=some p.2∧H p.1=none∧p.1≠X.env.locals∧p.1 ∉ X.fs∧∀ v,p.2.data ≠ .cell v):Inv (inSuite X e pn xe) pins' σ H s :=
 ⟨ok_suite I.ok,I.os,I.bare,I.base,I.loc,I.cell,I.free,I.freeC,hp,I.hok,I.len⟩
theorem inv_unsuite {e:Addr}{pn pins':List (Addr×Obj)}{xe:Value->Shared->Prop}(k:X.Ok)(I:Inv (inSuite X e pn xe) pins' σ H s)(hp:∀ p∈X.pn++pins,p∈pn):Inv X pins σ H s :=
 ⟨k,I.os,I.bare,I.base,I.loc,I.cell,I.free,I.freeC,λp z=>I.pin p (List.mem_append_left _ (hp p z)),I.hok,I.len⟩
theorem name_goes {M:Model}{A:Around}{E:Value->Shared->Prop}{x:Str}{i:Nat}{pos:Pos}{Q:Unit->Shared->Prop}(I:Inv X pins σ H s)(hN:X.N.Nodup)(hi:X.N[i]? = some x)(hx:X.env.scope.names.lookup x=some .local)
  (h:∀ s',Inv X pins (σ.set i none) H s'->Q () s'):wpAny M A (do bindName X.env x .none;unbindBehindTheSuite X.env x pos) Q E s:=by
 obtain ⟨m,hn,hl⟩:=id I.loc
 have hcls:(X.env.scope.kind == .class || (X.env.scope.kind == .module && X.env.locals != X.env.globals))=false:=by rw [I.ok.kind];rfl
 refine wpAny_nameGoes_keeps hx hn hcls λh' v hn' same=>h _ ?_
 have bel:∀ b o,X.s₀.heap.get? b=some o->b≠X.env.locals:=λb o z=>Nat.ne_of_lt (Nat.lt_of_lt_of_le (Heap.lt_size z) I.ok.above)
 obtain ⟨oL,_,_,hoL,_⟩:=id hn
 refine ⟨I.ok,I.os,I.bare,⟨λb o z n hb hx=>(same.2 b (bel b o z)).trans (I.base.keep b o z n hb hx),λb o z n hb hx=>?_,I.base.free,λb o z hx=>?_,I.base.tups,I.base.frzs,I.base.tbls⟩,
  ⟨_,hn',λj y v' e1 e2 e3=>?_⟩,λy c z=>?_,I.free,I.freeC,λp hp=>?_,λb ob z=>?_,by simpa using I.len⟩
 ·obtain ⟨sl,q⟩:=I.base.slot b o z n hb hx
  exact ⟨sl,(same.2 b (bel b o z)).trans q⟩
 ·obtain ⟨o',q⟩:=I.base.there b o z hx
  exact ⟨o',(same.2 b (bel b o z)).trans q⟩
 ·by_cases hj:j=i
  ·subst hj
   have hlt:j < σ.length:=by rw [I.len];exact (List.getElem?_eq_some_iff.mp hi).1
   rw [List.getElem?_set_self hlt] at e2
   cases e2
  ·rw [List.getElem?_set_ne (Ne.symm hj)] at e2
   obtain ⟨u',r',q⟩:=hl j y v' e1 e2 e3
   refine ⟨u',r',?_⟩
   rcases q with ⟨k,q⟩ | ⟨k,c,q,z⟩
   ·have hy:y≠x:=λz=>hj (nodup_ix hN e1 (z ▸ hi))
    exact .inl ⟨k,by simp [hy,q]⟩
   ·exact .inr ⟨k,c,q,z.sameBut same (I.cne y c q)⟩
 ·obtain ⟨w',q⟩:=I.cell y c z
  exact ⟨w',q.sameBut same (I.cne y c z)⟩
 ·obtain ⟨q,n,ne,nf,dd⟩:=I.pin p hp
  exact ⟨(same.2 p.1 ne).trans q,n,ne,nf,dd⟩
 ·refine (I.hok b ob z).stay (λc w' hc q=>(same.2 c ?_).trans q) (λ_ q=>q) λ_ _ q=>q
  rintro rfl
  rcases hc with rfl | hc
  ·rw [I.free] at z;cases z
  ·rw [I.free] at hc;cases hc
theorem zip_at:∀ {ps:List Str} {vs:List V} {us:List Value} {n:Str} {v:V},Vals vs us->(ps.zip vs).lookup n=some v->∃ u,RelV v u∧fMap ps us n=some u
 | [],_,_,_,_,_,h=>by simp at h
 | _::_,[],_,_,_,_,h=>by simp at h
 | p::ps,w::vs,_,n,v,.cons r t,h=>by
  rw [List.zip_cons_cons,List.lookup_cons] at h
  by_cases hn:n=p
  ·subst hn
   rw [show (n == n)=true from beq_self_eq_true n] at h
   cases h
   exact ⟨_,r,by simp [fMap]⟩
  ·rw [show (n == p)=false from beq_eq_false_iff_ne.mpr hn] at h
   obtain ⟨u,ru,lu⟩:=zip_at (ps:=ps) t h
   exact ⟨u,ru,by rw [fMap,if_neg hn];exact lu⟩
variable {x wt:Str}{i:Nat}{b₀:Stmt}{suite:List Stmt}{pw hpos:Pos}{Wt:Addr}{tsu:Addr->Addr->List (Str×V)->TS}{ok:Addr->Prop}
theorem caught {E:XK}{D:Ends}{ev:Value}{s':Shared}(hstk:X.stack=X.env::X.outer)(hfr:X.env.frame=some X.env.locals)(hN:X.N.Nodup)(hi:X.N[i]? = some x)(hx:X.env.scope.names.lookup x=some .local)
  (hg:Gl X wt) (hW:X.mg wt=some (.ref Wt)) (hwd:(wt == ("__debug__":Str))=false) (hok:∀ C,ok C->ECat X.K C∧hasDictIn X.K C=true∧exmOne X.K (.ref C) (.ref Wt)=some true)
  (hsuite:∀ e C fs pn xe,ok C->Has (inSuite X e pn xe) e C fs->PSs (inSuite X e pn xe) (b₀::suite) (tsu e C fs))
  (hE:∀ C e fs H',E (.ref C) (some e) (upd H' e (.xd fs))->H' e=none->ok C∧tsu e C fs { nx:=λσ' H'=>D.nx (σ'.set i none) H',rt:=λ_ _=>False } (σ.set i (some (.ref e))) H')
  (I:Inv X pins σ H s) (z:CXe X.prog X.w X.stack H s E ev s') :
  wpAny (model X.prog X.w) X.A (noteFrame ev X.env) (λ_ s2=>wpAny (model X.prog X.w) X.A (setFlight ev none) (λ_ s3=>wpAny (model X.prog X.w) X.A (handleBy ev X.env [.ExceptHandler (some (.Name wt pw)) (some x) (b₀::suite) hpos]) (SP X pins D) X.xe s3) X.xe s2) X.xe s':=by
 obtain ⟨e,H',C,ps,us,vs,rfl,os,bare,un,hok',r,⟨dct,T,y1,y2,y3,y4,y5,y6,y7,y8⟩,q⟩:=z
 have I':Inv X pins σ H' s':=I.call' (ch:=[]) os un hok' bare λb hb=>absurd hb (by simp)
 obtain ⟨okC,ts⟩:=hE C e _ H' q y6
 obtain ⟨cat,hdC,hm⟩:=hok C okC
 have hl:=I'.stack
 have hfs:=I'.ok.frames
 rw [hstk] at hl hfs
 have apart:∀ b,s.heap.objs.size≤b->(b∈X.ex∨X.s₀.heap.objs.size≤b)∧b≠X.env.locals∧(∀ x c,X.env.cells.lookup x=some c->c≠b)∧∀ p∈X.pn++pins,p.1≠b:=λb hb =>
  ⟨.inr (Nat.le_trans I.sz hb),Nat.ne_of_gt (Nat.lt_of_lt_of_le I.lt hb),λy c hc=>by obtain ⟨v,o,ho,_⟩:=I.cell y c hc;exact Nat.ne_of_lt (Nat.lt_of_lt_of_le (Heap.lt_size ho) hb),λp hp=>Nat.ne_of_lt (Nat.lt_of_lt_of_le (Heap.lt_size (I.pin p hp).1) hb)⟩
 have big:s.heap.objs.size≤s'.heap.objs.size:=Nat.le_trans y4 (Nat.le_of_lt (by obtain ⟨_,g,_⟩:=y1;exact Heap.lt_size g))
 refine note_next (base:=X.base) hfs hl hfr y1 y2 y3 λh1 T1 z1 z2 z3 z4=>?_
 rw [← hstk] at z4
 have hT1:T1≠e:=Nat.ne_of_gt (Nat.lt_of_lt_of_le (by obtain ⟨_,g,_⟩:=y1;exact Heap.lt_size g) z1)
 have I1:Inv X pins σ H' { s' with heap:=h1 }:=inv_aside I' z4 λb hb=>by
  simp only [List.mem_cons,List.not_mem_nil,or_false] at hb
  rcases hb with rfl | rfl
  ·exact ⟨y7,apart _ y5⟩
  ·exact ⟨y6,apart _ y4⟩
 have nT1:H' T1=none:=I'.hok.fresh z1
 have side:∀ {ha hb:Heap},Inv X pins σ H' { s' with heap:=ha }->Turned [] [T1] ha hb->Inv X pins σ H' { s' with heap:=hb }:=λ{ha hb} Ia tu=>inv_aside (s:={ s' with heap:=ha }) Ia ⟨λb o _ n2 zz=>tu.keep b o (by simp) n2 zz,tu.slot,tu.size⟩ λb hb=>by
  rw [List.mem_singleton.mp hb]
  exact ⟨nT1,apart _ (Nat.le_trans big z1)⟩
 refine flight_off (s:={ s' with heap:=h1 }) z2 z3 hT1 λh2 w1 w2 w3=>?_
 have I2:=side I1 w3
 refine wpAny_handleBy_cons (codeAny_handlers_test ?_) (by intro q;cases q)
 have J2:Inv (inSuite X e [] λ_ _=>False) [] σ H' { s' with heap:=h2 }:=inv_suite I2 (by simp)
 refine ld_glob J2 hg hW ?_ hwd
 have LT:Looks (model X.prog X.w) h2 (typeOf (.ref e)) (.ref C):=by obtain ⟨_,g,_⟩:=w1;exact (Looks.ld g).andThen .now
 refine (exm_one (M:=model X.prog X.w) (h:=h2) I2.kIn LT hm).at ?_
 refine codeAny_handlers_suite_as (flight_off (s:={ s' with heap:=h2 }) w1 w2 hT1 λh3 v1 v2 v3=>?_)
 have I3:=side I2 v3
 obtain ⟨fv,ge,g1⟩:=v1
 have pinned:∀ p∈X.pn++pins,h3.get? p.1=some p.2∧H' p.1=none∧p.1≠X.env.locals∧p.1 ∉ X.fs∧∀ v,p.2.data ≠ .cell v:=I3.pin
 have pinE:h3.get? e=some { cls:=.ref C,dict:=dct,data:=.fields fv }∧H' e=none∧e≠X.env.locals∧e ∉ X.fs∧∀ v,(Data.fields fv) ≠ .cell v:=⟨ge,y6,(apart e y4).2.1,I.nofs y4,λ_ z=>nomatch z⟩
 have go:∀ pn,(∀ p∈X.pn++pins,p∈pn)->(∀ p∈pn++[],h3.get? p.1=some p.2∧H' p.1=none∧p.1≠X.env.locals∧p.1 ∉ X.fs∧∀ v,p.2.data ≠ .cell v)->Has (inSuite X e pn λ_ _=>False) e C (ps.zip vs) ->
   wpAny (model X.prog X.w) (X.A.mark (some (.ref e))) (storeName X.env x (.ref e)) (λ_ s₂=>wpAny (model X.prog X.w) (X.A.mark (some (.ref e))) (execs (b₀::suite) X.env) (λf s₃=>wpAny (model X.prog X.w) X.A (do bindName X.env x .none;unbindBehindTheSuite X.env x hpos) (λ_ s₄=>SP X pins D f s₄) X.xe s₃) (λ_ _=>False) s₂) (λ_ _=>False) { s' with heap:=h3 }:=λpn hpn hpp has=>by
  have I4:Inv (inSuite X e pn λ_ _=>False) [] σ H' { s' with heap:=h3 }:=inv_suite I3 hpp
  refine store_ok (X:=inSuite X e pn λ_ _=>False) (v:=.ref e) I4 hN hi (.inl hx) rfl (λs4 I5=>?_) (.inr hx)
  refine wpAny_mono (hsuite e C _ pn (λ_ _=>False) okC has [] s4 _ H' _ I5 ts) (λf s5 h5=>?_) λ_ _ z=>z
  cases f with
  | next =>
   obtain ⟨σ',H2,I6,q2⟩:=h5
   exact name_goes (X:=X) (inv_unsuite I'.ok I6 hpn) hN hi hx λs6 I7=>⟨_,H2,I7,q2⟩
  | ret v=>obtain ⟨_,_,_,_,_,h5⟩:=h5;exact h5.elim
  | brk=>obtain ⟨_,_,_,h5⟩:=h5;exact h5.elim
  | cont=>obtain ⟨_,_,_,h5⟩:=h5;exact h5.elim
 suffices hs:∃ pn,(∀ p∈X.pn++pins,p∈pn)∧(∀ p∈pn++[],h3.get? p.1=some p.2∧H' p.1=none∧p.1≠X.env.locals∧p.1 ∉ X.fs∧∀ v,p.2.data ≠ .cell v)∧Has (inSuite X e pn λ_ _=>False) e C (ps.zip vs) by
  obtain ⟨pn,a,b,c⟩:=hs
  exact wpAny_mono (go pn a b c) (λ_ _ z=>wpAny_mono z (λ_ _ z=>z) λ_ _ z=>z.elim) λ_ _ z=>z.elim
 rcases y8 with ⟨rfl,y8⟩ | ⟨dx,rfl,n1,n2,n3,n4⟩
 ·refine ⟨(e,{ cls:=.ref C,dict:=none,data:=.fields fv })::(X.pn++pins),(λp hp=>List.mem_cons_of_mem _ hp),(λp hp=>?_),⟨⟨_,none,List.mem_cons_self,rfl,rfl,.inl ⟨rfl,rfl,λn=>?_⟩⟩,cat,hdC⟩⟩
  ·rw [List.append_nil] at hp
   rcases List.mem_cons.mp hp with rfl | hp
   ·exact pinE
   ·exact pinned p hp
  ·cases q3:(ps.zip vs).lookup n with
   | none=>rfl
   | some v =>
    obtain ⟨u,_,z⟩:=zip_at r q3
    rw [y8] at z;cases z
 ·obtain ⟨od,god,lod⟩:=lookIn_ns n4
  have hdl:dx<s'.heap.objs.size:=n4.ns.lt
  have nT:dx≠T1:=Nat.ne_of_lt (Nat.lt_of_lt_of_le hdl z1)
  have nfr:dx ∉ frs X.stack:=λhm=>by
   obtain ⟨_,o,ho,_⟩:=I.stack.mem hm
   exact absurd (Heap.lt_size ho) (Nat.not_lt.mpr n2)
  have g3:h3.get? dx=some od:=v3.keep dx od (by simp) (by simpa using nT) (w3.keep dx od (by simp) (by simpa using nT) (z4.keep dx od nfr n1 god))
  have dod:∀ v,od.data ≠ .cell v:=λv z=>by
   obtain ⟨o',es,ep,g',d',_⟩:=n4
   rw [god] at g';cases g';rw [d'] at z;cases z
  refine ⟨(e,{ cls:=.ref C,dict:=some dx,data:=.fields fv })::(dx,od)::(X.pn++pins),(λp hp=>List.mem_cons_of_mem _ (List.mem_cons_of_mem _ hp)),(λp hp=>?_),⟨⟨_,some od,List.mem_cons_self,rfl,rfl,.inr ⟨dx,od,rfl,rfl,List.mem_cons_of_mem _ List.mem_cons_self,λn v z=>?_⟩⟩,cat,hdC⟩⟩
  ·rw [List.append_nil] at hp
   rcases List.mem_cons.mp hp with rfl | hp
   ·exact pinE
   ·rcases List.mem_cons.mp hp with rfl | hp
    ·exact ⟨g3,n3,(apart dx n2).2.1,I.nofs n2,dod⟩
    ·exact pinned p hp
  ·obtain ⟨u,ru,zu⟩:=zip_at r z
   exact ⟨u,ru,by rw [lod,zu]⟩
end
end L3
namespace L3
open PySem PySem.W PySem.Spec PyProof.Rows L2
noncomputable def errD (nm:Str)(fs:List PyData):PyData:=.dict [(.str nm,.tuple fs)]
noncomputable def errOf:PyData->Option (Str×List PyData)
 | .dict [(.str nm,.tuple fs)]=>some (nm,fs)
 | _=>none
theorem errOf_some {d:PyData}{nm:Str}{fs:List PyData}(h:errOf d=some (nm,fs)):d=errD nm fs:=by
 unfold errOf at h
 split at h
 ·cases h;rfl
 ·cases h
theorem errOf_D {nm:Str}{fs:List PyData}:errOf (errD nm fs)=some (nm,fs):=rfl
noncomputable def psT (nm:Str):List Str:=if nm = "NoPaper" then ["word","number"] else if nm = "NoRest" then ["word"] else if nm = "TooMany" then ["word"] else if nm = "NoHouse" then ["word"] else []
noncomputable def WE (mg:Str->Option Value)(E:XK):Str->List V->Hp->Prop:=λnm vs H=>∀ C,mg nm=some (.ref C)->∀ e,H e=none->E (.ref C) (some e) (upd H e (.xd ((psT nm).zip vs)))
section
variable [Feeds]
noncomputable def OutOkX (K:Frag)(W:Str->List V->Hp->Prop)(G:GF)(B0:List Addr)(H0:Hp)(F:FS)(D:Ends):Out->Prop
 | .rt d=>OutOk K G B0 H0 F D (.rt d)∧∀ nm fs,errOf d=some (nm,fs)->∀ vs H,Kp (fpOf K G) H0 H->FAt K G H F->DatsAre K (hid H B0) fs vs->W nm vs H
 | o=>OutOk K G B0 H0 F D o
noncomputable def TSdX (K:Frag)(W:Str->List V->Hp->Prop)(ts:TS)(m:DE->M Out):Prop:=∀ (G:GF) (B0:List Addr) (H0:Hp) (E:DE) (F:FS) (σ:St) (H:Hp) (D:Ends) (r:Out) (F':FS),Sit K G B0 H0 E F σ H->m E F=some (r,F')->OutOkX K W G B0 H0 F' D r->ts D σ H
structure SsX (K:Frag) (W:Str->List V->Hp->Prop) (X:Cx) (st:Stmt) (ts:TS) (m:DE->M Out):Prop where
 ps:PS X st ts
 ok:TSdX K W ts m
structure SssX (K:Frag) (W:Str->List V->Hp->Prop) (X:Cx) (sts:List Stmt) (ts:TS) (m:DE->M Out):Prop where
 ps:PSs X sts ts
 ok:TSdX K W ts m
variable {K:Frag}{W:Str->List V->Hp->Prop}{X:Cx}{st:Stmt}{sts rest:List Stmt}{t u:TS}{mt mu:DE->M Out}{pos p:Pos}{c a:Expr}{es:List Expr}
theorem outOk_of {G:GF}{B0:List Addr}{H0:Hp}{F:FS}{D:Ends}{o:Out}(h:OutOkX K W G B0 H0 F D o):OutOk K G B0 H0 F D o:=by
 cases o <;> first | exact h | exact h.1
theorem tsx_of (h:TSd K t mt):TSdX K W t mt:=λG B0 H0 E F σ H D r F' S e q=>h G B0 H0 E F σ H D r F' S e (outOk_of q)
theorem PS.nox {st:Stmt}{t:TS}(h:PS X.nox st t):PS X st t:=λpins s σ H D I hw=>by
 refine wpAny_mono (h pins s σ H D (I.wish _) hw) (λf s' z=>?_) λ_ _ z=>z.elim
 cases f with
 | next=>obtain ⟨σ',H',I',q⟩:=z;exact ⟨σ',H',Inv.unwish I',q⟩
 | brk=>obtain ⟨σ',H',I',q⟩:=z;exact ⟨σ',H',Inv.unwish I',q⟩
 | cont=>obtain ⟨σ',H',I',q⟩:=z;exact ⟨σ',H',Inv.unwish I',q⟩
 | ret v=>obtain ⟨x,H',σ',I',r,q⟩:=z;exact ⟨x,H',σ',Inv.unwish I',r,q⟩
theorem sx_of (h:Ss K X.nox st t mt):SsX K W X st t mt:=⟨PS.nox h.ps,tsx_of h.ok⟩
theorem sxs_of (h:Sss K X.nox sts t mt):SssX K W X sts t mt:=⟨h.ps.nox,tsx_of h.ok⟩
theorem sxs_cons (h1:SsX K W X st t mt)(h2:SssX K W X rest u mu):SssX K W X (st::rest) (tSeq t u) (mSq mt mu):=⟨pss_cons h1.ps h2.ps,λG B0 H0 E F σ H D r F' S e q=>by
 obtain ⟨⟨o,F1⟩,e1,e⟩:=Option.bind_eq_some_iff.mp e
 refine h1.ok G B0 H0 E F σ H _ o F1 S e1 ?_
 cases o with
 | nx E1=>exact λσ' H' S'=>h2.ok G B0 H0 E1 F1 σ' H' D r F' S' e q
 | rt d=>cases e;exact q
 | bk E1=>cases e;exact q
 | ct E1=>cases e;exact q⟩
theorem sxs_one (h1:SsX K W X st t mt):SssX K W X [st] t mt:=⟨pss_one h1.ps,h1.ok⟩
theorem sx_if {x y:List Stmt}{tt:TT}{mc:DE->M Bool}(hc:Et K X.nox c tt mc)(ha:SssX K W X x t mt)(hb:SssX K W X y u mu):SsX K W X (.If c x y pos) (tIfS tt t u) (mIf mc mt mu):=⟨ps_if hc.pt.nox ha.ps hb.ps,λG B0 H0 E F σ H D r F' S e q=>by
 obtain ⟨⟨b,F1⟩,e1,e⟩:=Option.bind_eq_some_iff.mp e
 obtain ⟨B,s,sn,I⟩:=S.ex
 refine hc.ok G B E F σ H _ b F1 I e1 λH1 k1 f1=>?_
 cases b with
 | true=>exact ha.ok G B0 H0 E F1 σ H1 D r F' (S.step k1 f1) e q
 | false=>exact hb.ok G B0 H0 E F1 σ H1 D r F' (S.step k1 f1) e q⟩
noncomputable def mRaise (nm:Str)(ms:DE->M (List PyData)):DE->M Out:=λE F=>(ms E F).bind λp=>if p.1.length=(psT nm).length then some (.rt (errD nm p.1),p.2) else none
theorem PA.nox {t:TA}(h:PA X.nox es t):PA X es t:=λcp pins s σ H Q I hw=>by
 refine wpAny_mono (h cp pins s σ H Q (I.wish _) hw) (λvs s' z=>?_) λ_ _ z=>z.elim
 obtain ⟨xs,H',I',r,q⟩:=z
 exact ⟨xs,H',Inv.unwish I',r,q⟩
theorem sx_raise (nm:Str){E:XK}{Wt C f:Addr}{cp:Pos}{ta:TA}{ms:DE->M (List PyData)}(G:Goes X E)(cl:ECls X.K Wt C f)(ini:EIni X.K C f (psT nm))(hr:Room 2 X.A)(hm:X.mg nm=some (.ref C))(ha:Ea K X.nox (a::es) ta ms)(hg:Gl X nm:=by rfl)
  (hdb:(nm == ("__debug__":Str))=false:=by decide) (he:starEach (a::es) X.env=(false,eval a X.env)::starEach es X.env:=by rfl) (hpl:(backTo cp (starEach es X.env)).any (·.1)=false:=by rfl) :
  SsX K (WE X.mg E) X (.Raise (some (.Call (.Name nm p) (a::es) [] cp)) none pos) (tRaise (λvs H=>∀ e,H e=none->E (.ref C) (some e) (upd H e (.xd ((psT nm).zip vs)))) (psT nm) ta) (mRaise nm ms) :=
 ⟨ps_raise cl ini hr hg hm (asks_of G) (PA.nox ha.pa) hdb he hpl,λG B0 H0 E F σ H D r F' S e q=>by
  obtain ⟨⟨ds,F1⟩,e1,e⟩:=Option.bind_eq_some_iff.mp e
  obtain ⟨B,s,sn,I⟩:=S.ex
  split at e
  ·rename_i hl
   cases e
   refine ha.ok G B E F σ H _ ds F1 I e1 λvs H1 k1 f1 h1=>⟨?_,?_⟩
   ·rw [h1.length];exact hl
   ·exact q.2 nm ds errOf_D vs H1 (S.kp.trans k1) f1 (h1.same (hid_sub s)) C hm
  ·cases e⟩
end
end L3
namespace L3
open PySem PySem.W PySem.Spec PyProof.Rows L2
section
variable [Feeds]
noncomputable def spX (K:Frag)(mg:Str->Option Value)(n:Nat)(f:List DV->M PyData):Sp:=λvs H Q E=>∃ G B F args d F',vs.length=n∧(∀ b∈fpOf K G,b∈B)∧BOk H B∧FAt K G H F∧ArgR K G B H args vs∧f args F=some (d,F') ∧
 (∀ v H',Kp (fpOf K G) H H'->FAt K G H' F'->DatIs K (hid H' B) d v->Q v H') ∧
 ∀ nm fs,errOf d=some (nm,fs)->∀ vs H',Kp (fpOf K G) H H'->FAt K G H' F'->DatsAre K (hid H' B) fs vs->WE mg E nm vs H'
noncomputable def CalleeX (P:Program)(w:World)(K:Frag)(mg:Str->Option Value)(base:Heap)(x:Str)(k:Nat)(ps:List Str)(sp:Sp):Prop :=
 ∃ f fd,FnOk P w K mg base (CXe P w) k f fd ps sp∧mg x=some (.ref f)∧keepIn K (.ref f)=true∧Binds K fd ps []
variable {K:Frag}{X:Cx}{st:Stmt}{P:Program}{w:World}{mg:Str->Option Value}{base:Heap}
theorem defx_ok {x qual:Str}{f:Addr}{fd:FuncData}{N ps:List Str}{k:Nat}{m:DE->M Out}(Fn:Fun K x qual st f fd)(S:FnScope N ps (defScope st))
  (hbody:∀ (cdv:Value) (A:Around) (outer:List Env) (s:Shared) (H:Hp) (E:XK),Room k (A.deeper (envOfC qual (defScope st) s.heap.objs.size f cdv)) ->
   ∃ ts,SssX K (WE mg E) (cxOf (CXe P w) P w K mg base N qual (defScope st) f cdv A outer s H E) (defBody st) ts m):FnOk P w K mg base (CXe P w) (k+1) f fd ps (spX K mg ps.length (runD N m)):=by
 obtain ⟨oc,od,kV,doc,pm,an,cdv,ct,osl,rfl,lk,hcd⟩:=Fn.ex
 refine fn_of lk hcd S (λvs H Q E h=>?_) λA outer s H vs Q E hr h=>?_
 ·obtain ⟨G,B,F,args,d,F',hl,_⟩:=h
  exact hl
 ·obtain ⟨G,B,F,args,d,F',hl,fB,bk,fa,ha,hm,q,qe⟩:=h
  obtain ⟨ts,hts⟩:=hbody cdv A outer s H E hr
  refine ⟨ts,hts.ps,?_⟩
  obtain ⟨⟨o,F1⟩,e1,e⟩:=Option.bind_eq_some_iff.mp hm
  refine hts.ok G B H (startE N args) F (L2.start N vs) H _ o F1 (sit_start fB bk fa ha) e1 ?_
  cases o with
  | rt d'=>cases e;exact ⟨λv H' k1 f1 h1=>q v H' k1 f1 h1,λnm fs ee vs H' k1 f1 h1=>qe nm fs ee vs H' k1 f1 h1⟩
  | nx E'=>cases e;exact λσ' H' S'=>q _ H' S'.kp (by obtain ⟨B,_,_,I⟩:=S'.ex;exact I.fd) DatIs.non
  | bk E'=>cases e
  | ct E'=>cases e
variable {x:Str}{k n:Nat}{ps:List Str}{p pos:Pos}{e:Expr}{es:List Expr}{tl:TA}{f:List DV->M PyData}{ms:DE->M (List DV)}
noncomputable def tAt (σ0:St)(t:TE):TE:=λσ H Q=>σ = σ0∧t σ H Q
theorem pe_callX {sp:Sp}{E:XK}{σ0:St}(C:CalleeX X.prog X.w X.K X.mg X.base x k ps sp)(hr:Room k X.A)(hg:Gl X x)(hx:∀ pins H s ev s',Inv X pins σ0 H s->CXe X.prog X.w X.stack H s E ev s'->X.xe ev s')(ha:PA X (e::es) tl)
  (hdb:(x == ("__debug__":Str))=false) (he:starEach (e::es) X.env=(false,eval e X.env)::starEach es X.env) (hpl:(backTo pos (starEach es X.env)).any (·.1)=false) :
  PE X (.Call (.Name x p) (e::es) [] pos) (tAt σ0 (tCall sp [] E tl)):=by
 obtain ⟨f,fd,G,m,kp,b⟩:=C
 intro pins s σ H Q I ⟨hσ,h⟩
 subst hσ
 refine wpAny_Call_Name_kw (ld_glob I hg m ?_ hdb)
 refine callWith_K (h₀:=X.base) I.ok.mod.kin kp (thn (ha pos pins s σ H _ I h) λus s1 ⟨vs,H1,I1,r,q⟩=>⟨I1.kIn,?_⟩) he hpl
 have r2:Vals (vs++[]) (us++[]):=r.append .nil
 have hl:(us++[]).length=ps.length:=by rw [← r2.length];exact G.len _ _ _ _ q
 refine wpAny_call (codeAny_mono (G.run X.A X.stack s1 H1 ⟨us,[]⟩ _ _ Q E hr I1.env0 (b s1 us I1.kIn hl) r2 q) λrr s' hq=>?_)
 cases rr with
 | error ev=>exact hx pins H1 s1 ev s' I1 hq
 | ok fl =>
  cases fl with
  | ret u=>exact I1.after hq
  | _=>exact hq.elim
noncomputable def mDoX (f:List DV->M PyData)(ms:DE->M (List DV)):DE->M Out:=λE F=>(ms E F).bind λp=>(f p.1 p.2).bind λq=>match errOf q.1 with
 | some _=>some (.rt q.1,q.2)
 | none=>some (.nx E,q.2)
theorem datIs_err {K:Frag}{H:Hp}{d:PyData}{v:V}{z:Str×List PyData}(h:DatIs K H d v)(e:errOf d=some z):False:=by
 obtain ⟨nm,fs⟩:=z
 rw [errOf_some e] at h
 simp only [errD,DatIs] at h
theorem sx_do {E:XK}{p1 p2 p3:Pos}(G:Goes X E)(C:CalleeX X.prog X.w X.K X.mg X.base x k ps (spX K X.mg n f))(hr:Room k X.A)(ha:Evs K X.nox (e::es) tl ms)(hn:∀ E F args F',ms E F=some (args,F')->args.length=n)(hg:Gl X x:=by rfl)
  (hdb:(x == ("__debug__":Str))=false:=by decide) (he:starEach (e::es) X.env=(false,eval e X.env)::starEach es X.env:=by rfl) (hpl:(backTo p2 (starEach es X.env)).any (·.1)=false:=by rfl)
  (hs:swapsWith (.Call (.Name x p1) (e::es) [] p2) none p3.line X.env=pure false:=by rfl) :
  SsX K (WE X.mg E) X (.Expr (.Call (.Name x p1) (e::es) [] p2) p3) (tDrop (tCall (spX K X.mg n f) [] E tl)) (mDoX f ms):=by
 obtain ⟨g,fd,F,m,kp,b⟩:=C
 refine ⟨ps_expr (pe_call F hr hg m kp b .nil (passes_of G) (PA.nox ha.pa) hdb he hpl) hs,λG B0 H0 E1 F σ H D r F' S ee q=>?_⟩
 obtain ⟨⟨args,F1⟩,e1,ee⟩:=Option.bind_eq_some_iff.mp ee
 obtain ⟨⟨d,F2⟩,e2,ee⟩:=Option.bind_eq_some_iff.mp ee
 obtain ⟨B,s,sn,I⟩:=S.ex
 refine ha.ok G B E1 F σ H _ args F1 I e1 λvs H1 k1 f1 h1=>?_
 rw [List.append_nil]
 refine ⟨G,B,F1,args,d,F2,by rw [h1.length];exact hn _ _ _ _ e1,I.fB,bok_step I.bk k1 f1,f1,h1,e2,λv H2 k2 f2 h2=>?_,λnm fs er vs2 H2 k2 f2 h2=>?_⟩
 ·dsimp only at ee
  cases er:errOf d with
  | some z=>exact (datIs_err h2 er).elim
  | none =>
   rw [er] at ee;cases ee
   exact q σ H2 ((S.step k1 f1).step k2 f2)
 ·dsimp only at ee
  rw [er] at ee;cases ee
  exact q.2 nm fs er vs2 H2 ((S.kp.trans k1).trans k2) f2 (h2.same (hid_sub s))
end
end L3
namespace L3
open PySem PySem.W PySem.Spec PyProof.Rows L2
section
variable {X:Cx}{x wt:Str}{i:Nat}{body suite:List Stmt}{b₀:Stmt}{pw hpos pos:Pos}{Wt:Addr}{tsu:Addr->Addr->List (Str×V)->TS}{ok:Addr->Prop}{tb:XK->St->TS}
noncomputable def eTry (i:Nat)(ok:Addr->Prop)(tsu:Addr->Addr->List (Str×V)->TS)(D:Ends)(σ:St):XK:=λCv eo H2=>∃ C e fs H',Cv = .ref C∧eo=some e∧H2=upd H' e (.xd fs)∧H' e=none∧ok C ∧
 tsu e C fs { nx:=λσ' H'=>D.nx (σ'.set i none) H',rt:=λ_ _=>False } (σ.set i (some (.ref e))) H'
theorem eTry_of {D:Ends}{σ:St}{C e:Addr}{fs:List (Str×V)}{H':Hp}(h:eTry i ok tsu D σ (.ref C) (some e) (upd H' e (.xd fs)))(he:H' e=none):ok C∧tsu e C fs { nx:=λσ' H'=>D.nx (σ'.set i none) H',rt:=λ_ _=>False } (σ.set i (some (.ref e))) H':=by
 obtain ⟨C',e',fs',H1,e1,e2,e3,e4,e5,e6⟩:=h
 cases e1;cases e2
 have ef:fs=fs':=by
  have z:=congrFun e3 e
  rw [upd_same,upd_same] at z
  cases z;rfl
 have eh:H' = H1:=funext λb=>by
  by_cases hb:b=e
  ·rw [hb,he,e4]
  ·have z:=congrFun e3 b
   rwa [upd_ne hb,upd_ne hb] at z
 subst ef eh
 exact ⟨e5,e6⟩
theorem ps_try (hstk:X.stack=X.env::X.outer)(hfr:X.env.frame=some X.env.locals)(hN:X.N.Nodup)(hi:X.N[i]? = some x)(hx:X.env.scope.names.lookup x=some .local)
  (hg:Gl X wt) (hW:X.mg wt=some (.ref Wt)) (hwd:(wt == ("__debug__":Str))=false) (hok:∀ C,ok C->ECat X.K C∧hasDictIn X.K C=true∧exmOne X.K (.ref C) (.ref Wt)=some true)
  (hsuite:∀ e C fs pn xe,ok C->Has (inSuite X e pn xe) e C fs->PSs (inSuite X e pn xe) (b₀::suite) (tsu e C fs))
  (hbody:∀ (E:XK) (σ0:St) pn xe,(∀ pins' H s ev s',Inv (inTry X pn xe) pins' σ0 H s->CXe X.prog X.w X.stack H s E ev s'->xe ev s')->PSs (inTry X pn xe) body (tb E σ0)) :
  PS X (.Try body [.ExceptHandler (some (.Name wt pw)) (some x) (b₀::suite) hpos] [] [] pos) (λD σ H=>tb (eTry i ok tsu D σ) σ D σ H):=by
 intro pins s σ H D I h
 refine wpAny_Try_except ?_
 refine wpAny_mono (hbody (eTry i ok tsu D σ) σ (X.pn++pins) _ (λpins' H1 s1 ev s' J z=>caught hstk hfr hN hi hx hg hW hwd hok hsuite (λC e fs H'=>eTry_of) (inv_untry I.ok J λp hp=>hp) z) [] s σ H D (inv_try I (by simpa using I.pin)) h) (λf s1 z=>?_) (λ_ _ z=>z)
 cases f with
 | next=>obtain ⟨σ',H',J,q⟩:=z;exact wpAny_execs_nil ⟨σ',H',inv_untry I.ok J λp hp=>hp,q⟩
 | brk=>obtain ⟨σ',H',J,q⟩:=z;exact ⟨σ',H',inv_untry I.ok J λp hp=>hp,q⟩
 | cont=>obtain ⟨σ',H',J,q⟩:=z;exact ⟨σ',H',inv_untry I.ok J λp hp=>hp,q⟩
 | ret v=>obtain ⟨y,H',σ',J,r,q⟩:=z;exact ⟨y,H',σ',inv_untry I.ok J λp hp=>hp,r,q⟩
end
end L3
namespace L3
open PySem PySem.W PySem.Spec PyProof.Rows L2
section
variable [Feeds]{K:Frag}{G:GF}{B B0:List Addr}{H0:Hp}{E:DE}{F:FS}{σ:St}{H:Hp}{i:Nat}
theorem SitE.hole (I:SitE K G B E F σ H)(h:E[i]? = some none)(v:Option V):SitE K G B E F (σ.set i v) H :=
 ⟨I.fd,I.fB,I.bk,by rw [List.length_set];exact I.ln,λj x e=>by
  have hj:i≠j:=λz=>by rw [← z,h] at e;cases e
  rw [List.getElem?_set_ne hj]
  exact I.loc j x e⟩
theorem Sit.hole (S:Sit K G B0 H0 E F σ H)(h:E[i]? = some none)(v:Option V):Sit K G B0 H0 E F (σ.set i v) H:=by
 obtain ⟨B,s,sn,I⟩:=S.ex
 refine ⟨⟨B,s,sn,I.hole h v⟩,S.fB,S.kp,λj ds a e z=>?_,λj k ds es a e1 e2 z1 z2=>?_⟩
 ·have hj:i≠j:=λy=>by rw [← y,h] at e;cases e
  rw [List.getElem?_set_ne hj] at z
  exact S.own j ds a e z
 ·have hj:i≠j:=λy=>by rw [← y,h] at e1;cases e1
  have hk:i≠k:=λy=>by rw [← y,h] at e2;cases e2
  rw [List.getElem?_set_ne hj] at z1
  rw [List.getElem?_set_ne hk] at z2
  exact S.inj j k ds es a e1 e2 z1 z2
noncomputable def SuD (K:Frag)(mg:Str->Option Value)(ok:Addr->Prop)(i:Nat)(tsu:Addr->Addr->List (Str×V)->TS)(hd:Str->List PyData->DE->Option DE):Prop :=
 ∀ (G:GF) (B B0:List Addr) (H0:Hp) (E:DE) (F:FS) (σ:St) (H:Hp) (D:Ends) (nm:Str) (C:Addr) (fs:List PyData) (vs:List V) (E1:DE) (e:Addr),Sit K G B0 H0 E F σ H->(∀ b∈B0,b∈B)->(∀ b∈B,b∈B0∨H0 b=none)->SitE K G B E F σ H ->
  mg nm=some (.ref C)->DatsAre K (hid H B) fs vs->hd nm fs E=some E1->H e=none->(∀ σ1 H1,Sit K G B0 H0 E1 F σ1 H1->D.nx σ1 H1) ->
  ok C∧tsu e C ((psT nm).zip vs) { nx:=λσ' H'=>D.nx (σ'.set i none) H',rt:=λ_ _=>False } (σ.set i (some (.ref e))) H
noncomputable def mTry (fi:Nat)(told:Str)(g:List DV->M PyData)(ms:DE->M (List DV))(hd:Str->List PyData->DE->Option DE):DE->M Out:=λE F=>(ms E F).bind λp=>(g p.1 p.2).bind λq=>match errOf q.1 with
 | some z=>(hd z.1 z.2 E).bind λE1=>some (.nx E1,q.2)
 | none=>(bN fi (.tuple [.str told,q.1]) E).bind λE1=>some (.nx E1,q.2)
variable {X:Cx}{x y wt gn told:Str}{suite:List Stmt}{b₀:Stmt}{pw hpos pos p1 p2 p3 p4 p5 p6:Pos}{Wt:Addr}{tsu:Addr->Addr->List (Str×V)->TS}{ok:Addr->Prop}{k n fi j1:Nat}{k0}{ps:List Str}{a:Expr}{es:List Expr}{tl:TA}{g:List DV->M PyData}{ms:DE->M (List DV)}{hd:Str->List PyData->DE->Option DE}
theorem st_try (fi i:Nat)(C:CalleeX X.prog X.w X.K X.mg X.base gn k ps (spX K X.mg n g))(hr:Room k X.A)(ha:∀ pn xe,Evs K (inTry X pn xe) (a::es) tl ms)(hn:∀ E F args F',ms E F=some (args,F')->args.length=n)
  (hsd:SuD K X.mg ok i tsu hd) (hsuite:∀ e C fs pn xe,ok C->Has (inSuite X e pn xe) e C fs->PSs (inSuite X e pn xe) (b₀::suite) (tsu e C fs))
  (hok:∀ C,ok C->ECat X.K C∧hasDictIn X.K C=true∧exmOne X.K (.ref C) (.ref Wt)=some true) (hW:X.mg wt=some (.ref Wt)) (hN:X.N.Nodup)
  (hstk:X.stack=X.env::X.outer:=by rfl) (hfr:X.env.frame=some X.env.locals:=by rfl) (hi:X.N[i]? = some x:=by rfl) (hx:X.env.scope.names.lookup x=some .local:=by rfl) (hfi:X.N[fi]? = some y:=by rfl) (hy:X.env.scope.names.lookup y=some .local:=by rfl)
  (hg:Gl X wt:=by rfl) (hwd:(wt == ("__debug__":Str))=false:=by decide) (hgg:Gl X gn:=by rfl) (hgd:(gn == ("__debug__":Str))=false:=by decide)
  (he:starEach (a::es) X.env=(false,eval a X.env)::starEach es X.env:=by rfl) (hpl:(backTo p3 (starEach es X.env)).any (·.1)=false:=by rfl)
  (hs:swapsWith (.Tuple [.Constant (.str told) j1 p1,.Call (.Name gn p2) (a::es) [] p3] k0 p4) (some (.Name y p6)) p5.line X.env=pure false:=by rfl) :
  Ss K X (.Try [.Assign [.Name y p6] (.Tuple [.Constant (.str told) j1 p1,.Call (.Name gn p2) (a::es) [] p3] k0 p4) p5] [.ExceptHandler (some (.Name wt pw)) (some x) (b₀::suite) hpos] [] [] pos)
   (λD σ H=>tAsg (tTup (tCons (tC (.str told)) (tCons (tAt σ (tCall (spX K X.mg n g) [] (eTry i ok tsu D σ) tl)) tNil))) (gName fi) D σ H) (mTry fi told g ms hd):=by
 refine ⟨ps_try (tb:=λE0 σ0=>tAsg (tTup (tCons (tC (.str told)) (tCons (tAt σ0 (tCall (spX K X.mg n g) [] E0 tl)) tNil))) (gName fi)) hstk hfr hN hi hx hg hW hwd hok hsuite λE0 σ0 pn xe hxe=>?_,λG B0 H0 E F σ H D r F' S e q=>?_⟩
 ·exact pss_one (ps_set (X:=inTry X pn xe) hN hfi (.inl hy) (pe_tup (pa_cons pe_str (pa_cons (pe_callX (X:=inTry X pn xe) C hr hgg hxe (ha pn xe).pa hgd he hpl) pa_nil))) hs (.inr hy))
 ·obtain ⟨⟨args,F1⟩,e1,e⟩:=Option.bind_eq_some_iff.mp e
  obtain ⟨⟨d,F2⟩,e2,e⟩:=Option.bind_eq_some_iff.mp e
  obtain ⟨B,s,sn,I⟩:=S.ex
  dsimp only at e
  refine ⟨rfl,(ha [] λ_ _=>False).ok G B E F σ H _ args F1 I e1 λvs H1 k1 f1 h1=>?_⟩
  have S1:=S.step k1 f1
  have I1:=I.step k1 f1
  rw [List.append_nil]
  refine ⟨G,B,F1,args,d,F2,by rw [h1.length];exact hn _ _ _ _ e1,I.fB,bok_step I.bk k1 f1,f1,h1,e2,λv H2 k2 f2 h2=>?_,λnm fs er vs2 H2 k2 f2 h2=>?_⟩
  ·have S2:=S1.step k2 f2
   have I2:=I1.step k2 f2
   cases er:errOf d with
   | some z=>exact (datIs_err h2 er).elim
   | none =>
    rw [er] at e
    obtain ⟨E1,e3,e⟩:=Option.bind_eq_some_iff.mp e
    cases e
    refine ⟨by rw [sizeLine_eq];simp,λp hp=>?_⟩
    have kp:Kp (fpOf K G) H2 (upd H2 p (.tup [.str told,v])):=Kp.upd hp
    have f3:FAt K G (upd H2 p (.tup [.str told,v])) _:=f2.same (Same.upd hp)
    have hd3:DatIs K (hid (upd H2 p (.tup [.str told,v])) B) (.tuple [.str told,d]) (.ref p):=new_tup I2.bk hp (DatsAre.cons DatIs.st (DatsAre.cons h2 DatsAre.nil))
    exact name_d fi G B E _ σ _ _ _ E1 (λσ' H'=>D.nx σ' H') (I2.step kp f3) hd3 e3 λσ' I' fr=>q σ' _ ((S2.step kp f3).bind s sn I' fr)
  ·rw [er] at e
   obtain ⟨E1,e3,e⟩:=Option.bind_eq_some_iff.mp e
   cases e
   intro C' hm e' he'
   obtain ⟨okC,ht⟩:=hsd G B B0 H0 E _ σ H2 D nm C' fs vs2 E1 e' (S1.step k2 f2) s sn (I1.step k2 f2) hm h2 e3 he' q
   exact ⟨C',e',_,H2,rfl,rfl,rfl,he',okC,ht⟩
end
end L3
namespace L3
open PySem PySem.W PySem.Spec PyProof.Rows L2
section
variable {X:Cx}{es:List Expr}{p px pos:Pos}{cl:List Addr}{t t':TA}{e C:Addr}{fs:List (Str×V)}{i:Nat}{x f:Str}
theorem PA.imp (h:PA X es t)(w:∀ σ H Q,t' σ H Q->t σ H Q):PA X es t':=λcp pins s σ H Q I z=>h cp pins s σ H Q I (w σ H Q z)
noncomputable def itV (fs:List (Str×V)):List (Sum Str Str)->Option (List V)
 | []=>some []
 | .inl c::r=>(itV fs r).bind λvs=>some (.str c::vs)
 | .inr f::r=>(fs.lookup f).bind λv=>(itV fs r).bind λvs=>some (v::vs)
noncomputable def tIts (K:Frag)(C:Addr)(fs:List (Str×V))(e:Addr)(i:Nat)(its:List (Sum Str Str)):TA:=λσ H Q=>σ[i]? = some (some (.ref e))∧(∀ f,.inr f∈its->findIn K (.ref C) f=some none)∧∃ vs,itV fs its=some vs∧Q vs H
theorem pi_nil:PA X [] (tIts X.K C fs e i []):=PA.imp pa_nil λσ H Q ⟨_,_,vs,z,q⟩=>by cases z;exact q
theorem pi_str {c:Str}{j:Nat}{its:List (Sum Str Str)}(h:PA X es (tIts X.K C fs e i its))(hs:starEach (.Constant (.str c) j p::es) X.env=(false,eval (.Constant (.str c) j p) X.env)::starEach es X.env:=by rfl):PA X (.Constant (.str c) j p::es) (tIts X.K C fs e i (.inl c::its)) :=
 PA.imp (pa_cons pe_str h hs) λσ H Q ⟨z1,z2,vs,z3,q⟩=>by
  obtain ⟨ws,z4,z5⟩:=Option.bind_eq_some_iff.mp z3
  cases z5
  exact ⟨z1,λf hf=>z2 f (List.mem_cons_of_mem _ hf),ws,z4,q⟩
theorem pi_fld {its:List (Sum Str Str)}(hh:Has X e C fs)(h:PA X es (tIts X.K C fs e i its))(hN:X.N[i]? = some x:=by rfl)(hv:Vis X.env.scope x:=by exact Or.inl rfl)(hb:attributeBase (.Name x px) f X.env (eval (.Name x px) X.env)=eval (.Name x px) X.env:=by rfl)
  (hd:(x == ("__debug__":Str))=false:=by decide) (hcd:(x == ("__classdict__":Str))=false:=by decide) (hs:starEach (.Attribute (.Name x px) f p::es) X.env=(false,eval (.Attribute (.Name x px) f p) X.env)::starEach es X.env:=by rfl) :
  PA X (.Attribute (.Name x px) f p::es) (tIts X.K C fs e i (.inr f::its)) :=
 PA.imp (pa_cons (pe_err hh hN hv hb hd hcd) h hs) λσ H Q ⟨z1,z2,vs,z3,q⟩=>by
  obtain ⟨v,z4,z5⟩:=Option.bind_eq_some_iff.mp z3
  obtain ⟨ws,z6,z7⟩:=Option.bind_eq_some_iff.mp z5
  cases z7
  exact ⟨z1,z2 f List.mem_cons_self,v,z4,z1,λg hg=>z2 g (List.mem_cons_of_mem _ hg),ws,z6,q⟩
end
noncomputable def itD (fs:List (Str×PyData)):List (Sum Str Str)->Option (List PyData)
 | []=>some []
 | .inl c::r=>(itD fs r).bind λvs=>some (.str c::vs)
 | .inr f::r=>(fs.lookup f).bind λv=>(itD fs r).bind λvs=>some (v::vs)
section
variable {K:Frag}{H:Hp}
theorem zip_dat:∀ {ps:List Str} {fs:List PyData} {vs:List V} {n:Str} {d:PyData},DatsAre K H fs vs->(ps.zip fs).lookup n=some d->∃ v,(ps.zip vs).lookup n=some v∧DatIs K H d v
 | [],_,_,_,_,_,h=>by simp at h
 | _::_,[],_,_,_,_,h=>by simp at h
 | p::ps,w::fs,vs,n,d,hd,h=>by
  simp only [DatsAre] at hd
  obtain ⟨v,r,rfl,h1,h2⟩:=hd
  rw [List.zip_cons_cons,List.lookup_cons] at h ⊢
  by_cases hn:n=p
  ·subst hn
   rw [show (n == n)=true from beq_self_eq_true n] at h ⊢
   cases h
   exact ⟨v,rfl,h1⟩
  ·rw [show (n == p)=false from beq_eq_false_iff_ne.mpr hn] at h ⊢
   exact zip_dat h2 h
theorem its_dat {ps:List Str}{fs:List PyData}{vs:List V}(hd:DatsAre K H fs vs):∀ {its:List (Sum Str Str)} {ds:List PyData},itD (ps.zip fs) its=some ds->∃ ws,itV (ps.zip vs) its=some ws∧DatsAre K H ds ws
 | [],ds,h=>by cases h;exact ⟨[],rfl,DatsAre.nil⟩
 | .inl c::its,ds,h=>by
  obtain ⟨es,h1,h2⟩:=Option.bind_eq_some_iff.mp h
  cases h2
  obtain ⟨ws,z1,z2⟩:=its_dat hd h1
  exact ⟨.str c::ws,by rw [itV,z1];rfl,DatsAre.cons DatIs.st z2⟩
 | .inr f::its,ds,h=>by
  obtain ⟨d,h0,h⟩:=Option.bind_eq_some_iff.mp h
  obtain ⟨es,h1,h2⟩:=Option.bind_eq_some_iff.mp h
  cases h2
  obtain ⟨v,y1,y2⟩:=zip_dat hd h0
  obtain ⟨ws,z1,z2⟩:=its_dat hd h1
  exact ⟨v::ws,by rw [itV,y1,Option.bind_some,z1];rfl,DatsAre.cons y2 z2⟩
end
structure EFit (K:Frag) (mg:Str->Option Value) (Wt:Addr) (nm:Str) (cl:List Addr) (C:Addr):Prop where
 mgc:mg nm=some (.ref C)
 cat:ECat K C
 hd:hasDictIn K C=true
 exm:exmOne K (.ref C) (.ref Wt)=some true
 ve:kitOne K (.ref C) (.type "ValueError")=some true
 st:kitAny K (.ref C) (cl.map Value.ref)=some false
 nof:∀ p∈psT nm,findIn K (.ref C) p=some none
section
variable [Feeds]{K:Frag}{mg:Str->Option Value}{Wt C0:Addr}{nm0:Str}{cl:List Addr}{i j fi:Nat}{its:List (Sum Str Str)}
noncomputable def isHole (E:DE)(i:Nat):Bool:=match E[i]? with
 | some none=>true
 | _=>false
theorem isHole_of {E:DE}{i:Nat}(h:isHole E i=true):E[i]? = some none:=by
 unfold isHole at h
 split at h
 ·assumption
 ·cases h
theorem itV_len:∀ {fs:List (Str×V)} {its:List (Sum Str Str)} {vs:List V},itV fs its=some vs->vs.length=its.length
 | _,[],_,h=>by cases h;rfl
 | fs,.inl c::r,_,h=>by
  obtain ⟨ws,h1,h2⟩:=Option.bind_eq_some_iff.mp h
  cases h2
  rw [List.length_cons,List.length_cons,itV_len h1]
 | fs,.inr f::r,_,h=>by
  obtain ⟨v,_,h⟩:=Option.bind_eq_some_iff.mp h
  obtain ⟨ws,h1,h2⟩:=Option.bind_eq_some_iff.mp h
  cases h2
  rw [List.length_cons,List.length_cons,itV_len h1]
theorem bN_other {i j:Nat}{d:PyData}{E E1:DE}(h:bN j d E=some E1)(hij:i≠j):E1[i]? = E[i]?:=by
 unfold bN at h
 split at h
 ·cases h;exact List.getElem?_set_ne (Ne.symm hij)
 ·cases h
end
end L3
namespace L3
open PySem PySem.W PySem.Spec PyProof.Rows L2
section
variable {X:Cx}{e C C0:Addr}{fs:List (Str×V)}{i j fi:Nat}{cl:List Addr}{its:List (Sum Str Str)}{x y z nm0:Str}{ces ies:List Expr}{p1 p2 p3 p4 p5 p6 q1 q2 q3 q4 q5 q6 q7 q8 q9 r1 r2 r3 r4:Pos}{k1 k2}{p2' p3':Pos}
end
end L3
namespace L3
open PySem PySem.W PySem.Spec PyProof.Rows L2
noncomputable def clsInit:Stmt->Stmt
 | .ClassDef _ _ _ b _ _ _ _ _ _ _=>b.getD 0 (.Pass ⟨0,0,0,0⟩)
 | s=>s
noncomputable def Adrs (mg:Str->Option Value):List Str->List Addr->Prop
 | [],cl=>cl=[]
 | n::ns,cl=>∃ a r,cl=a::r∧mg n=some (.ref a)∧Adrs mg ns r
noncomputable def ErrT (K:Frag)(mg:Str->Option Value)(wt nm:Str)(cls:List Str):Prop:=∃ (Wt C f:Addr) (cl:List Addr),mg wt=some (.ref Wt)∧Adrs mg cls cl∧ECls K Wt C f∧EIni K C f (psT nm)∧EFit K mg Wt nm cl C
structure IniTxt (st:Stmt) (qual:Str) (ps:List Str):Prop where
 sc:FnScope (("self":Str)::ps) (("self":Str)::ps) (defScope st)
 loc:∀ p∈("self":Str)::ps,(defScope st).names.lookup p=some .local
 ib:InitBody ps (defBody st)
 few:ps.length≤100
 nd:∀ p∈ps,(p == ("__debug__":Str))=false
 bd:∀ (kV doc pm:Value) (an:Option Addr) (cdv ct:Value) (us:List Value),us.length=ps.length+1->bindArgs (fnOf "__init__" qual (defArgs st) (defBody st) (defScope st) .none kV doc pm an cdv ct) ⟨us,[]⟩=pure ((("self":Str)::ps).zip us)
theorem eini_mk {K:Frag}{C f:Addr}{ps:List Str}{st:Stmt}{qual:Str}{oc:Value}{od an:Option Addr}{osl:Array (Option Value)}{kV doc pm cdv ct:Value}(I:IniTxt st qual ps)
  (l:K.lookup f=some ⟨oc,od,.func (fnOf "__init__" qual (defArgs st) (defBody st) (defScope st) .none kV doc pm an cdv ct),osl⟩) (c:codeIn K cdv qual=true) (na:∀ p∈ps,findIn K (.ref C) p=some none):EIni K C f ps :=
 ⟨⟨qual,defArgs st,defBody st,defScope st,oc,od,kV,doc,pm,an,cdv,ct,osl,l,c,I.sc,I.loc,I.ib,λus hl=>I.bd kV doc pm an cdv ct us hl⟩,λp hp=>⟨na p hp,I.nd p hp⟩,I.few⟩
theorem ecls_mk {K:Frag}{Wt C f N:Addr}{nm q:Str}{bs:List Value}{hdct}{sn sub ab col dd k0 k1 k2 k3 k5}
  (obj:K.lookup C=some (excClassObj nm q C N bs (.ref Wt::vMro) hdct sn sub ab col dd k0 k1 k2 k3 k5 "ValueError.__new__")) (tp:excIn K Wt vMro "ValueError.__new__" = true)
  (init:findIn K (.ref C) "__init__" = some (some (.ref f))) (fn:typeIn K (.ref f)=some (.type "function")) (call:specialIn K (.ref C) "__call__" = some (some (.builtin "type.__call__"))) (typ:instIn K (.ref C) (.type "type")=some true) (kp:keepIn K (.ref C)=true)
  (dict:hasDictIn K C=true) (sa:findIn K (.ref C) "__setattr__" = some (some (.builtin "object.__setattr__"))):ECls K Wt C f:=by
 refine ⟨⟨_,_,_,_,_,_,_,_,_,_,_,_,_,_,_,obj⟩,?_,init,fn,call,typ,kp,dict,sa⟩
 unfold excIn at tp
 split at tp
 ·rename_i dd0 cd sl ho
  split at tp
  ·simp only [Bool.and_eq_true,beq_iff_eq] at tp
   exact ⟨_,_,_,_,ho,tp.1.2,tp.2⟩
  ·cases tp
 ·cases tp
theorem efit_mk {K:Frag}{mg:Str->Option Value}{Wt C:Addr}{nm:Str}{cl:List Addr}(hm:mg nm=some (.ref C))(hd:hasDictIn K C=true)(ga:findIn K (.ref C) "__getattribute__" = some (some (.builtin "BaseException.__getattribute__")))(gn:findIn K (.ref C) "__getattr__" = some none)(mb:mroIn K C (.type "BaseException")=some true)(mo:mroIn K C (.type "object")=some true)
  (ca:findIn K (.ref C) "__class__" = some (some (.builtin "object.__class__"))) (cg:specialIn K (.builtin "object.__class__") "__get__" = some (some (.builtin "getset_descriptor.__get__"))) (ct:takesIn K (.builtin "object.__class__")=some true)
  (sb:subIn K (.ref Wt) (.type "BaseException")=some true) (ko:kitOne K (.ref C) (.ref Wt)=some true) (ne:(Value.ref C == Value.ref Wt)=false) (ve:kitOne K (.ref C) (.type "ValueError")=some true) (st:kitAny K (.ref C) (cl.map Value.ref)=some false) (na:∀ p∈psT nm,findIn K (.ref C) p=some none):EFit K mg Wt nm cl C:=by
 refine ⟨hm,⟨ga,gn,mb,mo,ca,cg,ct⟩,hd,?_,ve,st,na⟩
 unfold exmOne
 rw [sb,if_pos (by rfl)]
 unfold kitOne at ko
 rwa [if_neg (by rw [ne];exact Bool.false_ne_true)] at ko
end L3
namespace L3
open PySem PySem.W PySem.Spec PyProof.Rows L2
section
variable {X:Cx}{tg iter:Expr}{wi:TI}{g:TG}
theorem PG.nox (h:PG X.nox tg g):PG X tg g:=λpins s σ H v u Q I r t=>by
 refine wpAny_mono (h pins s σ H v u Q (I.wish _) r t) (λ_ s' z=>?_) λ_ _ z=>z.elim
 obtain ⟨σ',H',I',q⟩:=z
 exact ⟨σ',H',Inv.unwish I',q⟩
theorem PI.nox (h:PI X.nox tg iter wi):PI X tg iter wi:=λpins s σ H R I w=>by
 refine wpAny_mono (h pins s σ H R (I.wish _) w) (λv s1 z=>?_) λ_ _ z=>z.elim
 refine wpAny_mono z (λitv s2 z=>?_) λ_ _ z=>z.elim
 obtain ⟨it,fp,tn,J,H',e,I',T,t0,f,r⟩:=z
 exact ⟨it,fp,tn,J,H',e,Inv.unwish I',T,t0,f,r⟩
end
section
variable [Feeds]
variable {K:Frag}{W:Str->List V->Hp->Prop}{X:Cx}{tg iter:Expr}{pos:Pos}
theorem for_dX {wi:TI}{g:TG}{tb:TS}{mi:DE->M (List PyData)}{bd:PyData->DE->Option DE}{mb:DE->M Out}(hi:TId K wi mi)(hg:TGd K g bd)(hb:TSdX K W tb mb):TSdX K W (tFor wi g tb) (mFor mi bd mb):=λG B0 H0 E F σ H D r F' S e q=>by
 obtain ⟨⟨items,F1⟩,e1,e⟩:=Option.bind_eq_some_iff.mp e
 obtain ⟨B,s,sn,I⟩:=S.ex
 refine hi G B E F σ H _ items F1 I e1 λJ H1 k1 f1 ok=>?_
 have S1:=S.step k1 f1
 have I1:=I.step k1 f1
 have S1':=S1.base s sn I1
 have qn:∀ {E2:DE} {F2:FS},r = .nx E2->F' = F2->∀ σ2 H2,Sit K G B0 (cutH H1 B B0) E2 F2 σ2 H2->D.nx σ2 H2:=λ{E2 F2} er ef σ2 H2 S2=>by
  subst er ef
  exact q σ2 H2 (S1.unbase sn S2)
 have stab:∀ {E2:DE} {F2:FS} {σ2:St} {H2:Hp} {B2:List Addr},Sit K G B0 (cutH H1 B B0) E2 F2 σ2 H2->(∀ b∈B2,b∈B0∨cutH H1 B B0 b=none)->Same (hid H1 B) (hid H2 B2):=λ{E2 F2 σ2 H2 B2} S2 sn2 b o eb=>by
  by_cases hB:b∈B
  ·rw [hid_in hB] at eb;cases eb
  ·rw [hid_out hB] at eb
   have ec:cutH H1 B B0 b=some o:=by rw [cutH_some (.inl hB)];exact eb
   rw [hid_out λz=>(sn2 b z).elim (λh=>hB (s b h)) λh=>by rw [h] at ec;cases ec]
   exact S2.kp b o ec λz=>hB (s b (S.fB b z))
 refine ⟨λi m σ H=>m=items.length - i∧i≤items.length∧∃ E F,Sit K G B0 (cutH H1 B B0) E F σ H∧forGo bd mb (items.drop i) E F=some (r,F'),⟨items.length,by simp,Nat.zero_le _,E,F1,S1',e⟩,?_⟩
 rintro i mm σ2 H2 ⟨rfl,hi2,E2,F2,S2,e2⟩
 obtain ⟨B2,s2,sn2,I2⟩:=S2.ex
 have st2:=stab S2 sn2
 by_cases hlt:i<items.length
 ·refine .inr ⟨((ok H2 B2 st2).1 i items[i] (by simp [hlt])).1,λσ' H'=>i+1≤items.length∧∃ E F,Sit K G B0 (cutH H1 B B0) E F σ' H' ∧ forGo bd mb (items.drop (i+1)) E F=some (r,F'),λσ' H' ⟨h1,h2⟩=>⟨items.length - (i+1),by omega,rfl,h1,h2⟩,λx H3 y=>?_⟩
  obtain ⟨s3,hx⟩:=((ok H2 B2 st2).1 i items[i] (by simp [hlt])).2 x H3 y
  have hx:=hx I2.bk
  rw [List.drop_eq_getElem_cons hlt,forGo] at e2
  obtain ⟨E4,e4,e2⟩:=Option.bind_eq_some_iff.mp e2
  obtain ⟨⟨o,F5⟩,e5,e2⟩:=Option.bind_eq_some_iff.mp e2
  have S3:=S2.step (Kp.same s3) (I2.fd.same s3)
  have I3:SitE K G B2 E2 F2 σ2 H3:=I2.step (Kp.same s3) (I2.fd.same s3)
  refine hg G B2 E2 F2 σ2 H3 x items[i] E4 _ I3 hx e4 λσ4 I4 fr=>?_
  refine hb G B0 (cutH H1 B B0) E4 F2 σ4 H3 _ o F5 (S3.bind s2 sn2 I4 fr) e5 ?_
  cases o with
  | nx E6=>exact λσ6 H6 S6=>⟨hlt,E6,F5,S6,e2⟩
  | ct E6=>exact λσ6 H6 S6=>⟨hlt,E6,F5,S6,e2⟩
  | bk E6=>cases e2;exact λσ6 H6 S6=>qn rfl rfl σ6 H6 S6
  | rt d=>cases e2;exact ⟨λv H6 k6 f6 h6=>q.1 v H6 (cut_kp S1 sn k6) f6 h6,λnm fs er vs H6 k6 f6 h6=>q.2 nm fs er vs H6 (cut_kp S1 sn k6) f6 h6⟩
 ·have ei:i=items.length:=by omega
  subst ei
  rw [List.drop_length,forGo] at e2
  cases e2
  exact .inl ⟨(ok H2 B2 st2).2,qn rfl rfl σ2 H2 S2⟩
theorem sx_for {body:List Stmt}{wi:TI}{g:TG}{tb:TS}{mi:DE->M (List PyData)}{bd:PyData->DE->Option DE}{mb:DE->M Out}(hc:X.calm=true)(hp:PassesOwn (model X.prog X.w) X.A X.env X.xe)(hi:Ei K X.nox tg iter wi mi)(hg:Eg K X.nox tg g bd)(hb:SssX K W X body tb mb)
  (hs:∀ x,foldedSetIterable iter X.env x=pure x:=by intro _;rfl):SsX K W X (.For tg iter body [] pos) (tFor wi g tb) (mFor mi bd mb):=⟨ps_for hp hc (PI.nox hi.pi) (PG.nox hg.pg) hb.ps hs,for_dX hi.ok hg.ok hb.ok⟩
theorem passes_cx {P:Program}{w:World}{K:Frag}{mg:Str->Option Value}{base:Heap}{N:List Str}{qual:Str}{scope:Scope}{f:Addr}{cd:Value}{A:Around}{outer:List Env}{s:Shared}{H:Hp}{E:XK} :
  PassesOwn (model P w) (cxOf (CXe P w) P w K mg base N qual scope f cd A outer s H E).A (cxOf (CXe P w) P w K mg base N qual scope f cd A outer s H E).env (cxOf (CXe P w) P w K mg base N qual scope f cd A outer s H E).xe:=PassesOwn.leaving
end
end L3
namespace L3
open PySem PySem.Spec PyProof.Rows L2
variable [Fam]
noncomputable def wp {α σ:Type}(m:Option (α × σ))(Q:α->σ->Prop):Prop:=∃ a F',m=some (a,F')∧Q a F'
section
variable {α β γ σ τ:Type}{Q:α->σ->Prop}
theorem wp_some {a:α}{F:σ}:wp (some (a,F)) Q↔Q a F:=⟨λ⟨_,_,e,q⟩=>by cases e;exact q,λq=>⟨_,_,rfl,q⟩⟩
theorem wp_none:wp (none:Option (α × σ)) Q↔False:=⟨λ⟨_,_,e,_⟩=>(by cases e),False.elim⟩
theorem wp_bind {x:Option (β × τ)}{f:β × τ->Option (α × σ)}:wp (x.bind f) Q↔wp x λa F'=>wp (f (a,F')) Q:=by
 constructor
 ·rintro ⟨a,F',e,q⟩
  obtain ⟨⟨b,F1⟩,e1,e2⟩:=Option.bind_eq_some_iff.mp e
  exact ⟨b,F1,e1,a,F',e2,q⟩
 ·rintro ⟨b,F1,e1,a,F',e2,q⟩
  exact ⟨a,F',by rw [e1];exact e2,q⟩
theorem wp_obind {o:Option γ}{f:γ->Option (α × σ)}:wp (o.bind f) Q↔∃ z,o=some z∧wp (f z) Q:=by
 constructor
 ·rintro ⟨a,F',e,q⟩
  obtain ⟨z,e1,e2⟩:=Option.bind_eq_some_iff.mp e
  exact ⟨z,e1,a,F',e2,q⟩
 ·rintro ⟨z,e1,a,F',e2,q⟩
  exact ⟨a,F',by rw [e1];exact e2,q⟩
theorem wp_ite {c:Prop}[Decidable c]{a b:Option (α × σ)}:wp (if c then a else b) Q↔if c then wp a Q else wp b Q:=by
 split <;> rfl
theorem wp_mono {m:Option (α × σ)}{Q':α->σ->Prop}(h:wp m Q)(hq:∀ a F,Q a F->Q' a F):wp m Q':=by
 obtain ⟨a,F,e,q⟩:=h
 exact ⟨a,F,e,hq a F q⟩
theorem wp_congr {m:Option (α × σ)}{Q':α->σ->Prop}(h:∀ a F,Q a F↔Q' a F):wp m Q↔wp m Q':=⟨λz=>wp_mono z λa F q=>(h a F).mp q,λz=>wp_mono z λa F q=>(h a F).mpr q⟩
theorem ex_some {z:γ}{P:γ->Prop}:(∃ y,some z=some y∧P y)↔P z:=⟨λ⟨_,e,p⟩=>by cases e;exact p,λp=>⟨_,rfl,p⟩⟩
theorem wp_draw {m:Int}{F:FdS}{Q:PyData->FdS->Prop}(h0:0<m)(h1:m<1073741824)(h2:F.t<199999)(q:∀ r F',0≤r->r<m->F'.t=F.t+1->Q (.int r) F'):wp (drawS [.feed,.dat (.int m)] F) Q:=by
 obtain ⟨r,F',e,r0,r1,ht⟩:=Fam.draw_some h0 h1 h2
 exact ⟨.int r,F',by show (Fam.drawF m F).bind _=_;rw [e];rfl,q r F' r0 r1 ht⟩
end
noncomputable def gD (o:Option (Option DV))(P:PyData->Prop):Prop:=match o with
 | some (some (.dat d))=>P d
 | _=>False
noncomputable def gW (o:Option (Option DV))(P:PyData->Prop):Prop:=match o with
 | some (some (.dat d))=>P d
 | some (some (.own ds))=>P (.list ds)
 | _=>False
noncomputable def gF (o:Option (Option DV))(P:Prop):Prop:=match o with
 | some (some .feed)=>P
 | _=>False
noncomputable def oB {γ:Type}(o:Option γ)(P:γ->Prop):Prop:=∃ z,o=some z∧P z
noncomputable def cIf (c:Bool)(A B:Prop):Prop:=if c=true then A else B
theorem cIf_t {A B:Prop}:cIf true A B↔A:=by simp [cIf]
theorem cIf_f {A B:Prop}:cIf false A B↔B:=by simp [cIf]
theorem cIf_2 {c:Bool}{A B:Prop}(h1:c=true->A)(h2:c=false->B):cIf c A B:=by
 cases c
 ·exact cIf_f.mpr (h2 rfl)
 ·exact cIf_t.mpr (h1 rfl)
section
variable {E:DE}{F:FdS}
theorem r_sC {d:PyData}{Q:PyData->FdS->Prop}:wp (sC d E F) Q↔Q d F:=wp_some
theorem r_sV {i:Nat}{Q:PyData->FdS->Prop}:wp (sV i E F) Q↔gD E[i]? λd=>Q d F:=by
 unfold sV gD;generalize E[i]? = o
 rcases o with _ | _ | x
 ·exact wp_none
 ·exact wp_none
 ·cases x <;> first | exact wp_some | exact wp_none
theorem r_sW {i:Nat}{Q:PyData->FdS->Prop}:wp (sW i E F) Q↔gW E[i]? λd=>Q d F:=by
 unfold sW gW;generalize E[i]? = o
 rcases o with _ | _ | x
 ·exact wp_none
 ·exact wp_none
 ·cases x <;> first | exact wp_some | exact wp_none
theorem r_s1 {f:PyData->Option PyData}{a:DE->M PyData}{Q:PyData->FdS->Prop}:wp (s1 f a E F) Q↔wp (a E F) λx F1=>oB (f x) λz=>Q z F1:=by
 unfold s1;rw [wp_bind];simp only [wp_obind,wp_some,oB]
theorem r_s2 {f:PyData->PyData->Option PyData}{a b:DE->M PyData}{Q:PyData->FdS->Prop}:wp (s2 f a b E F) Q↔wp (a E F) λx F1=>wp (b E F1) λy F2=>oB (f x y) λz=>Q z F2:=by
 unfold s2;rw [wp_bind];refine wp_congr λx F1=>?_;rw [wp_bind];refine wp_congr λy F2=>?_;simp only [wp_obind,wp_some,oB]
theorem r_sN {f:List PyData->Option PyData}{a:DE->M (List PyData)}{Q:PyData->FdS->Prop}:wp (sN f a E F) Q↔wp (a E F) λx F1=>oB (f x) λz=>Q z F1:=by
 unfold sN;rw [wp_bind];simp only [wp_obind,wp_some,oB]
theorem r_sNil {Q:List PyData->FdS->Prop}:wp (sNil E F) Q↔Q [] F:=wp_some
theorem r_sCons {a:DE->M PyData}{r:DE->M (List PyData)}{Q:List PyData->FdS->Prop}:wp (sCons a r E F) Q↔wp (a E F) λx F1=>wp (r E F1) λxs F2=>Q (x::xs) F2:=by
 unfold sCons;rw [wp_bind];simp only [wp_bind,wp_some]
theorem r_sTup {a:DE->M (List PyData)}{Q:PyData->FdS->Prop}:wp (sTup a E F) Q↔wp (a E F) λxs F1=>xs.length≤sizeLine∧Q (.tuple xs) F1:=by
 unfold sTup;rw [wp_bind]
 constructor
 ·exact λh=>wp_mono h λxs F1 h=>by
   split at h
   ·rename_i hl;exact ⟨hl,wp_some.mp h⟩
   ·exact (wp_none.mp h).elim
 ·exact λh=>wp_mono h λxs F1 h=>by rw [if_pos h.1];exact wp_some.mpr h.2
theorem r_vNil {Q:List DV->FdS->Prop}:wp (vNil E F) Q↔Q [] F:=wp_some
theorem r_vD {a:DE->M PyData}{r:DE->M (List DV)}{Q:List DV->FdS->Prop}:wp (vD a r E F) Q↔wp (a E F) λx F1=>wp (r E F1) λxs F2=>Q (.dat x::xs) F2:=by
 unfold vD;rw [wp_bind];simp only [wp_bind,wp_some]
theorem r_vF {i:Nat}{r:DE->M (List DV)}{Q:List DV->FdS->Prop}:wp (vF i r E F) Q↔gF E[i]? (wp (r E F) λxs F2=>Q (.feed::xs) F2):=by
 unfold vF gF;generalize E[i]? = o
 rcases o with _ | _ | x
 ·exact wp_none
 ·exact wp_none
 ·cases x with
  | feed=>exact wp_bind.trans (wp_congr λ_ _=>wp_some)
  | _=>exact wp_none
theorem r_sCall {f:List DV->M PyData}{ms:DE->M (List DV)}{Q:PyData->FdS->Prop}:wp (sCall f ms E F) Q↔wp (ms E F) λxs F1=>wp (f xs F1) Q:=by
 unfold sCall;rw [wp_bind]
theorem r_cut {a:DE->M PyData}{l u:DE->M (Option Int)}{Q:PyData->FdS->Prop}:wp (sCut a l u E F) Q↔wp (a E F) λx F1=>wp (l E F1) λlo F2=>wp (u E F2) λhi F3=>oB (cutD lo hi x) λz=>Q z F3:=by
 unfold sCut;rw [wp_bind];refine wp_congr λx F1=>?_;rw [wp_bind];refine wp_congr λy F2=>?_;rw [wp_bind];refine wp_congr λy F2=>?_;simp only [wp_obind,wp_some,oB]
theorem r_oNo {Q:Option Int->FdS->Prop}:wp (oNo E F) Q↔Q none F:=wp_some
theorem r_oI {a:DE->M PyData}{Q:Option Int->FdS->Prop}:wp (oI a E F) Q↔wp (a E F) λx F1=>oB (intOf x) λi=>Q (some i) F1:=by
 unfold oI;rw [wp_bind];simp only [wp_obind,wp_some,oB]
theorem r_sAnd {a b:DE->M PyData}{Q:PyData->FdS->Prop}:wp (sAnd a b E F) Q↔wp (a E F) λx F1=>oB (boolOf x) λc=>cIf c (wp (b E F1) Q) (Q (.bool false) F1):=by
 unfold sAnd;rw [wp_bind];simp only [wp_obind,wp_ite,wp_some,oB,cIf]
theorem r_sNot {a:DE->M PyData}{Q:PyData->FdS->Prop}:wp (sNot a E F) Q↔wp (a E F) λx F1=>oB (boolOf x) λc=>Q (.bool (!c)) F1:=by
 unfold sNot;rw [wp_bind];simp only [wp_obind,wp_some,oB]
theorem r_sIf {c:DE->M Bool}{a b:DE->M PyData}{Q:PyData->FdS->Prop}:wp (sIf c a b E F) Q↔wp (c E F) λx F1=>cIf x (wp (a E F1) Q) (wp (b E F1) Q):=by
 unfold sIf;rw [wp_bind];simp only [wp_ite,cIf]
theorem r_uB {a:DE->M PyData}{Q:Bool->FdS->Prop}:wp (uB a E F) Q↔wp (a E F) λx F1=>oB (boolOf x) λc=>Q c F1:=by
 unfold uB;rw [wp_bind];simp only [wp_obind,wp_some,oB]
theorem r_uT {a:DE->M PyData}{Q:Bool->FdS->Prop}:wp (uT a E F) Q↔wp (a E F) λx F1=>oB (truD x) λc=>Q c F1:=by
 unfold uT;rw [wp_bind];simp only [wp_obind,wp_some,oB]
theorem r_uOr {a b:DE->M Bool}{Q:Bool->FdS->Prop}:wp (uOr a b E F) Q↔wp (a E F) λx F1=>cIf x (Q true F1) (wp (b E F1) Q):=by
 unfold uOr;rw [wp_bind];simp only [wp_ite,wp_some,cIf]
theorem r_uNot {a:DE->M Bool}{Q:Bool->FdS->Prop}:wp (uNot a E F) Q↔wp (a E F) λx F1=>Q (!x) F1:=by
 unfold uNot;rw [wp_bind];simp only [wp_some]
theorem r_uYes {Q:Bool->FdS->Prop}:wp (uYes E F) Q↔Q true F:=wp_some
theorem r_mNx {Q:Out->FdS->Prop}:wp (mNx E F) Q↔Q (.nx E) F:=wp_some
noncomputable def sqK (b:DE->M Out)(Q:Out->FdS->Prop)(o:Out)(F1:FdS):Prop:=match o with
  | .nx E1=>wp (b E1 F1) Q
  | o=>Q o F1
theorem sq_nx {b:DE->M Out}{Q:Out->FdS->Prop}{E1:DE}(h:wp (b E1 F) Q):sqK b Q (.nx E1) F:=h
theorem sq_rt {b:DE->M Out}{Q:Out->FdS->Prop}{d:PyData}(h:Q (.rt d) F):sqK b Q (.rt d) F:=h
theorem r_mSq {a b:DE->M Out}{Q:Out->FdS->Prop}:wp (mSq a b E F) Q↔wp (a E F) (sqK b Q):=by
 unfold mSq;rw [wp_bind]
 refine wp_congr λo F1=>?_
 cases o with
 | nx E1=>exact Iff.rfl
 | rt d=>exact wp_some
 | bk d=>exact wp_some
 | ct d=>exact wp_some
theorem r_mRt {a:DE->M PyData}{Q:Out->FdS->Prop}:wp (mRt a E F) Q↔wp (a E F) λx F1=>Q (.rt x) F1:=by
 unfold mRt;rw [wp_bind];simp only [wp_some]
theorem r_mSet {i:Nat}{a:DE->M PyData}{Q:Out->FdS->Prop}:wp (mSet i a E F) Q↔wp (a E F) λx F1=>i<E.length∧Q (.nx (E.set i (some (.dat x)))) F1:=by
 unfold mSet;rw [wp_bind]
 refine wp_congr λx F1=>?_
 unfold bN
 by_cases h:i<E.length
 ·rw [if_pos h];simp only [wp_obind,wp_some,ex_some,h,true_and]
 ·rw [if_neg h];simp only [wp_obind,h,false_and]
  exact ⟨λ⟨_,e,_⟩=>(by cases e),False.elim⟩
theorem r_mAsg {bd:PyData->DE->Option DE}{a:DE->M PyData}{Q:Out->FdS->Prop}:wp (mAsg bd a E F) Q↔wp (a E F) λx F1=>oB (bd x E) λE1=>Q (.nx E1) F1:=by
 unfold mAsg;rw [wp_bind]
 simp only [wp_obind,wp_some,oB]
theorem r_mIf {c:DE->M Bool}{a b:DE->M Out}{Q:Out->FdS->Prop}:wp (mIf c a b E F) Q↔wp (c E F) λx F1=>cIf x (wp (a E F1) Q) (wp (b E F1) Q):=by
 unfold mIf;rw [wp_bind];simp only [wp_ite,cIf]
theorem r_mOwn {i:Nat}{a:DE->M (List PyData)}{Q:Out->FdS->Prop}:wp (mOwn i a E F) Q↔wp (a E F) λx F1=>i<E.length∧Q (.nx (E.set i (some (.own x)))) F1:=by
 unfold mOwn;rw [wp_bind]
 refine wp_congr λx F1=>?_
 by_cases h:i<E.length
 ·rw [if_pos h];simp only [wp_some,h,true_and]
 ·rw [if_neg h];simp only [h,false_and]
  exact wp_none
theorem r_mPut {i:Nat}{v k:DE->M PyData}{ds:List PyData}{Q:Out->FdS->Prop}(h:E[i]? = some (some (.own ds))):wp (mPut i v k E F) Q↔wp (v E F) λx F1=>wp (k E F1) λy F2=>oB (intOf y) λn=>oB (ixN ds.length n) λj=>Q (.nx (E.set i (some (.own (ds.set j x))))) F2:=by
 unfold mPut;rw [wp_bind]
 have e:ownOf E i=some ds:=by unfold ownOf;rw [h]
 refine wp_congr λx F1=>?_;rw [wp_bind];refine wp_congr λy F2=>?_
 simp only [wp_obind,wp_some,e,ex_some,oB]
theorem r_mFor {mi:DE->M (List PyData)}{bd:PyData->DE->Option DE}{body:DE->M Out}{Q:Out->FdS->Prop}:wp (mFor mi bd body E F) Q↔wp (mi E F) λds F1=>wp (forGo bd body ds E F1) Q:=by
 unfold mFor;rw [wp_bind]
theorem r_mRng1 {a:DE->M (List PyData)}{Q:List PyData->FdS->Prop}:wp (mRng1 a E F) Q↔wp (a E F) λx F1=>oB (rngOf1 x) λds=>Q ds F1:=by
 unfold mRng1;rw [wp_bind];simp only [wp_obind,wp_some,oB]
theorem r_mSeq {a:DE->M PyData}{Q:List PyData->FdS->Prop}:wp (mSeq a E F) Q↔wp (a E F) λx F1=>oB (seqOf x) λds=>Q ds F1:=by
 unfold mSeq;rw [wp_bind];simp only [wp_obind,wp_some,oB]
theorem r_fLst {a:DE->M (List PyData)}{Q:List PyData->FdS->Prop}:wp (fLst a E F) Q↔wp (a E F) λx F1=>x.length≤sizeLine∧Q x F1:=by
 unfold fLst;rw [wp_bind]
 constructor
 ·exact λh=>wp_mono h λxs F1 h=>by
   split at h
   ·rename_i hl;exact ⟨hl,wp_some.mp h⟩
   ·exact (wp_none.mp h).elim
 ·exact λh=>wp_mono h λxs F1 h=>by rw [if_pos h.1];exact wp_some.mpr h.2
theorem r_fCat {a b:DE->M PyData}{Q:List PyData->FdS->Prop}:wp (fCat a b E F) Q↔wp (a E F) λx F1=>wp (b E F1) λy F2=>∃ xs ys,x = .list xs∧y = .list ys∧xs.length+ys.length≤sizeLine∧Q (xs++ys) F2:=by
 unfold fCat;rw [wp_bind]
 refine wp_congr λx F1=>?_;rw [wp_bind];refine wp_congr λy F2=>?_
 constructor
 ·intro h
  dsimp only at h
  split at h
  ·rename_i xs ys
   split at h
   ·rename_i hl;exact ⟨xs,ys,rfl,rfl,hl,wp_some.mp h⟩
   ·exact (wp_none.mp h).elim
  ·exact (wp_none.mp h).elim
 ·intro h
  obtain ⟨xs,ys,rfl,rfl,hl,q⟩:=h
  dsimp only
  rw [if_pos hl]
  exact wp_some.mpr q
theorem r_sLC {mi:DE->M (List PyData)}{k:Nat}{cap:List Nat}{bd:PyData->DE->Option DE}{mt:DE->M Bool}{me:DE->M PyData}{Q:PyData->FdS->Prop}:wp (sLC mi k cap bd mt me E F) Q↔wp (mi E F) λds F1=>ds.length≤sizeLine∧wp (lcGo bd mt me ds (capE k cap E) F1) λzs F2=>Q (.list zs) F2:=by
 unfold sLC;rw [wp_bind]
 constructor
 ·refine λh=>wp_mono h λds F1 h=>?_
  dsimp only at h
  split at h
  ·rename_i hl;rw [wp_bind] at h;exact ⟨hl,wp_mono h λzs F2 h=>wp_some.mp h⟩
  ·exact (wp_none.mp h).elim
 ·refine λh=>wp_mono h λds F1 h=>?_
  dsimp only
  rw [if_pos h.1,wp_bind]
  exact wp_mono h.2 λzs F2 h=>wp_some.mpr h
noncomputable def runK (Q:PyData->FdS->Prop)(o:Out)(F1:FdS):Prop:=match o with
  | .rt d=>Q d F1
  | .nx _=>Q .none F1
  | _=>False
theorem run_rt {Q:PyData->FdS->Prop}{d:PyData}(h:Q d F):runK Q (.rt d) F:=h
theorem run_nx {Q:PyData->FdS->Prop}{d:DE}(h:Q .none F):runK Q (.nx d) F:=h
theorem r_run {N:List Str}{m:DE->M Out}{args:List DV}{Q:PyData->FdS->Prop}:wp (runD N m args F) Q↔wp (m (startE N args) F) (runK Q):=by
 unfold runD;rw [wp_bind]
 refine wp_congr λo F1=>?_
 cases o with
 | nx E1=>exact wp_some
 | rt d=>exact wp_some
 | bk d=>exact wp_none
 | ct d=>exact wp_none
theorem gD_e {o:Option (Option DV)}{d:PyData}{P:PyData->Prop}(h:o=some (some (.dat d)))(q:P d):gD o P:=by rw [h];exact q
theorem gW_e {o:Option (Option DV)}{d:PyData}{P:PyData->Prop}(h:o=some (some (.dat d)))(q:P d):gW o P:=by rw [h];exact q
theorem gW_eo {o:Option (Option DV)}{ds:List PyData}{P:PyData->Prop}(h:o=some (some (.own ds)))(q:P (.list ds)):gW o P:=by rw [h];exact q
theorem gF_e {o:Option (Option DV)}{P:Prop}(h:o=some (some .feed))(q:P):gF o P:=by rw [h];exact q
theorem oB_e {γ:Type}{o:Option γ}{z:γ}{P:γ->Prop}(h:o=some z)(q:P z):oB o P:=⟨z,h,q⟩
theorem cIf_te {c:Bool}{A B:Prop}(h:c=true)(q:A):cIf c A B:=by rw [h];exact cIf_t.mpr q
theorem cIf_fe {c:Bool}{A B:Prop}(h:c=false)(q:B):cIf c A B:=by rw [h];exact cIf_f.mpr q
theorem le_size {n:Nat}(h:Nat.ble n 10000=true):n≤sizeLine:=Nat.le_trans (Nat.le_of_ble_eq_true h) (by rw [sizeLine_eq];decide)
theorem lt_len {i n:Nat}(h:Nat.ble (i+1) n=true):i<n:=Nat.le_of_ble_eq_true h
end
noncomputable def Tr (f:List DV->M PyData)(args:List DV)(c:Int)(P:PyData->Prop):Prop:=∀ F:FdS,F.t+c≤199999->∃ d F',f args F=some (d,F')∧F'.t≤F.t+c∧P d
theorem Tr.wp {f:List DV->M PyData}{args:List DV}{c:Int}{P:PyData->Prop}{F:FdS}{Q:PyData->FdS->Prop}(h:Tr f args c P)(hF:F.t+c≤199999)(q:∀ d F',F'.t≤F.t+c->P d->Q d F'):wp (f args F) Q:=by
 obtain ⟨d,F',e,ht,p⟩:=h F hF
 exact ⟨d,F',e,q d F' ht p⟩
theorem Tr.of {f:List DV->M PyData}{args:List DV}{c:Int}{P:PyData->Prop}(h:∀ F:FdS,F.t+c≤199999->L3.wp (f args F) λd F'=>F'.t≤F.t+c∧P d):Tr f args c P:=λF hF=>by
 obtain ⟨d,F',e,q⟩:=h F hF
 exact ⟨d,F',e,q⟩
mutual
noncomputable def cnt:PyData->Nat
 | .tuple ds=>1+cntL ds
 | .list ds=>1+cntL ds
 | _=>1
noncomputable def cntL:List PyData->Nat
 | []=>0
 | d::ds=>cnt d+cntL ds
end
noncomputable def asc (x:Str):Prop:=∀ c∈x.cps.toList,c<128
mutual
noncomputable def scs (n:Nat):PyData->Prop
 | .none=>True
 | .bool _=>True
 | .int i=>i.natAbs<10 ^ 300+n
 | .str x=>x.length≤600+n∧asc x
 | .tuple ds=>scsL n ds
 | .list ds=>scsL n ds
 | .dict _=>False
noncomputable def scsL (n:Nat):List PyData->Prop
 | []=>True
 | d::ds=>scs n d∧scsL n ds
end
theorem scsL_iff {n:Nat}:∀ {ds:List PyData},scsL n ds↔∀ d∈ds,scs n d
 | []=>by simp [scsL]
 | d::ds=>by simp [scsL,scsL_iff (ds:=ds)]
structure Gd (n N k:Nat) (d:PyData):Prop where
 sc:scs n d
 dp:d.depth≤k
 ct:cnt d≤N
theorem depthAll_le {k:Nat}:∀ {ds:List PyData},PyData.depthAll ds≤k↔∀ d∈ds,d.depth≤k
 | []=>by simp [PyData.depthAll]
 | d::ds=>by
  have:=depthAll_le (k:=k) (ds:=ds)
  simp only [PyData.depthAll,List.mem_cons,forall_eq_or_imp]
  rw [← this];omega
theorem Gd.tup {n N k M:Nat}{ds:List PyData}(h:∀ d∈ds,Gd n M k d)(hc:1+cntL ds≤N):Gd n N (k+1) (.tuple ds):=by
 refine ⟨?_,?_,?_⟩
 ·simp only [scs];rw [scsL_iff];exact λd hd=>(h d hd).sc
 ·simp only [PyData.depth]
  have:PyData.depthAll ds≤k:=depthAll_le.mpr λd hd=>(h d hd).dp
  omega
 ·simp only [cnt];exact hc
end L3
namespace L3
open PySem PySem.Spec PyProof.Rows L2
variable [Fam]
structure Nod (d:PyData):Prop where
 sh:d.showable=true
 nd:d.hasDict=false
 cl:d.canLay0=true
 ln:d.shown.length+2≤7100 * cnt d
theorem ten_two:(10:Nat) ^ 300≤2 ^ 1000:=by
 have h:((10:Nat) ^ 3) ^ 100≤(2 ^ 10) ^ 100:=Nat.pow_le_pow_left (by decide) 100
 rwa [← Nat.pow_mul,← Nat.pow_mul] at h
theorem big_lt {n:Nat}(hn:n≤100):10 ^ 300+n≤2 ^ 1001:=by
 have h0:=ten_two
 have h1:(2:Nat) ^ 1001=2 ^ 1000+2 ^ 1000:=by rw [Nat.pow_succ,Nat.mul_two]
 have h2:(2:Nat) ^ 7≤2 ^ 1000:=Nat.pow_le_pow_right (by decide) (by decide)
 have h3:(2:Nat) ^ 7=128:=by decide
 rw [h1]
 generalize (10:Nat) ^ 300=A at *
 generalize (2:Nat) ^ 1000=B at *
 omega
theorem nods {ds:List PyData}:(∀ d∈ds,Nod d)->PyData.showableAll ds=true∧PyData.hasDictAll ds=false∧PyData.canLayAll0 ds=true∧((PyData.shownAll ds).map (·.length)).sum+2 * ds.length≤7100 * cntL ds:=by
 induction ds with
 | nil=>intro _;exact ⟨by simp [PyData.showableAll],by simp [PyData.hasDictAll],by simp [PyData.canLayAll0],by simp [PyData.shownAll,cntL]⟩
 | cons d ds ih =>
  intro h
  obtain ⟨a,b,c,e⟩:=ih λx hx=>h x (List.mem_cons_of_mem _ hx)
  have hd:=h d List.mem_cons_self
  refine ⟨by simp [PyData.showableAll,hd.sh,a],by simp [PyData.hasDictAll,hd.nd,b],by simp [PyData.canLayAll0,hd.cl,c],?_⟩
  simp only [PyData.shownAll,List.map_cons,List.sum_cons,List.length_cons,cntL]
  have:=hd.ln
  omega
theorem nod_of {n:Nat}(hn:n≤100):∀ m:Nat,∀ d:PyData,sizeOf d<m->scs n d->Nod d:=by
 intro m
 induction m with
 | zero=>intro d h;exact absurd h (Nat.not_lt_zero _)
 | succ m ih =>
  intro d hm hs
  cases d with
  | none=>exact ⟨rfl,rfl,rfl,by decide⟩
  | bool b=>exact ⟨rfl,rfl,rfl,by cases b <;> decide⟩
  | int i =>
   simp only [scs] at hs
   have hb:i.natAbs<2 ^ 1001:=Nat.lt_of_lt_of_le hs (big_lt hn)
   have:=Shw.int hb (by decide) (by decide)
   exact ⟨this.sh,this.nd,rfl,by have:=this.ln;simp only [cnt];omega⟩
  | str x =>
   simp only [scs] at hs
   refine ⟨rfl,rfl,?_,?_⟩
   ·simp only [PyData.canLay0,PyData.strOk]
    rw [Array.all_eq_true']
    intro c hc
    have:=hs.2 c (by simpa using hc)
    exact decide_eq_true (by omega)
   ·have h1:=PySem.StrLaws.reprText_len x λc hc=>Nat.lt_of_lt_of_le (hs.2 c hc) (by decide)
    simp only [PyData.shown,cnt]
    omega
  | tuple ds =>
   simp only [scs] at hs
   rw [scsL_iff] at hs
   obtain ⟨a,b,c,e⟩:=nods λd hd=>ih d (by have:=List.sizeOf_lt_of_mem hd;simp at hm;omega) (hs d hd)
   refine ⟨by simpa only [PyData.showable] using a,by simpa only [PyData.hasDict] using b,by simpa only [PyData.canLay0] using c,?_⟩
   have h5:=tupleText_len_le (PyData.shownAll ds)
   have h6:=PyData.shownAll_length ds
   simp only [PyData.shown,cnt]
   omega
  | list ds =>
   simp only [scs] at hs
   rw [scsL_iff] at hs
   obtain ⟨a,b,c,e⟩:=nods λd hd=>ih d (by have:=List.sizeOf_lt_of_mem hd;simp at hm;omega) (hs d hd)
   refine ⟨by simpa only [PyData.showable] using a,by simpa only [PyData.hasDict] using b,by simpa only [PyData.canLay0] using c,?_⟩
   have h5:=listText_len_le (PyData.shownAll ds)
   have h6:=PyData.shownAll_length ds
   simp only [PyData.shown,cnt]
   omega
  | dict kvs=>simp only [scs] at hs
section
variable {n N k:Nat}{d:PyData}
theorem Gd.nod (h:Gd n N k d)(hn:n≤100):Nod d:=nod_of hn _ d (Nat.lt_succ_self _) h.sc
theorem Gd.repr (h:Gd n N k d)(hn:n≤100)(hN:N≤2000)(hk:k≤50):reprOk d=true:=by
 have hd:=h.nod hn
 unfold reprOk
 rw [hd.sh,hd.nd]
 have h1:=hd.ln
 have h2:=h.ct
 have h3:=h.dp
 simp
 constructor <;> omega
theorem Gd.shaped (h:Gd n N k d)(hn:n≤100)(hk:k≤50):PySem.SeqAt.shaped d=true:=by
 unfold PySem.SeqAt.shaped
 rw [(h.nod hn).cl]
 have h3:=h.dp
 simp
 omega
theorem gd_int {i:Int}(h:i.natAbs<10 ^ 300+n):Gd n 1 0 (.int i):=⟨h,by simp [PyData.depth],by simp [cnt]⟩
end
theorem small_int {i:Int}{n:Nat}(h:i.natAbs≤100000000000000000000000000000000000000000):i.natAbs<10 ^ 300+n:=by
 have h1:(10:Nat) ^ 42≤10 ^ 300:=Nat.pow_le_pow_right (by decide) (by decide)
 have h2:100000000000000000000000000000000000000000<(10:Nat) ^ 42:=by decide
 generalize (10:Nat) ^ 300=A at *
 omega
end L3
namespace L3
open PySem PySem.Spec PyProof.Rows L2
variable [Fam]
mutual
noncomputable def okc:PyData->Bool
 | .none=>true
 | .bool _=>true
 | .int i=>decide (i.natAbs≤100000000000000000000000000000000000000000)
 | .str x=>decide (x.length≤600) && x.cps.toList.all (λc=>decide (c<128))
 | .tuple ds=>okcL ds
 | .list ds=>okcL ds
 | .dict _=>false
noncomputable def okcL:List PyData->Bool
 | []=>true
 | d::ds=>okc d && okcL ds
end
mutual
theorem okc_scs {n:Nat}:∀ (d:PyData),okc d=true->scs n d
 | .none,_=>by simp [scs]
 | .bool _,_=>by simp [scs]
 | .int i,h=>by simp only [okc] at h;simp only [scs];exact small_int (of_decide_eq_true h)
 | .str x,h=>by
  simp only [okc,Bool.and_eq_true,List.all_eq_true] at h
  simp only [scs]
  exact ⟨by have:=of_decide_eq_true h.1;omega,λc hc=>of_decide_eq_true (h.2 c hc)⟩
 | .tuple ds,h=>by simp only [okc] at h;simp only [scs];exact okcL_scs ds h
 | .list ds,h=>by simp only [okc] at h;simp only [scs];exact okcL_scs ds h
 | .dict _,h=>by simp [okc] at h
theorem okcL_scs {n:Nat}:∀ (ds:List PyData),okcL ds=true->scsL n ds
 | [],_=>by simp [scsL]
 | d::ds,h=>by
  simp only [okcL,Bool.and_eq_true] at h
  simp only [scsL]
  exact ⟨okc_scs d h.1,okcL_scs ds h.2⟩
end
noncomputable def gdb (N k:Nat)(d:PyData):Bool:=okc d && decide (d.depth≤k) && decide (cnt d≤N)
theorem gdb_gd {n N k:Nat}{d:PyData}(h:gdb N k d=true):Gd n N k d:=by
 unfold gdb at h
 simp only [Bool.and_eq_true] at h
 exact ⟨okc_scs d h.1.1,of_decide_eq_true h.1.2,of_decide_eq_true h.2⟩
theorem gdb_all {n N k:Nat}{ds:List PyData}(h:ds.all (gdb N k)=true):∀ d∈ds,Gd n N k d:=λd hd=>gdb_gd (List.all_eq_true.mp h d hd)
section
variable {ds es:List PyData}{i j:Int}{x y:Str}{b c:Bool}{d:PyData}{T:String}
theorem e_ixT:ixD (.tuple ds) (.int i)=atI ds i:=rfl
theorem e_addI:addD (.int i) (.int j)=some (.int (i+j)):=rfl
theorem e_subI:subD (.int i) (.int j)=some (.int (i - j)):=rfl
theorem e_gtI:gtD (.int i) (.int j)=some (.bool (decide (j<i))):=rfl
theorem e_ltI:ltD (.int i) (.int j)=some (.bool (decide (i<j))):=rfl
theorem e_lenT:lenD [.tuple ds]=some (.int ds.length):=rfl
theorem e_lenL:lenD [.list ds]=some (.int ds.length):=rfl
theorem e_tupL:tupleD [.list ds]=some (.tuple ds):=rfl
theorem e_isin:isinD T d=some (.bool (isT (tyD d) T)):=rfl
theorem e_io:intOf (.int i)=some i:=rfl
theorem e_cutT {lo hi:Option Int}:cutD lo hi (.tuple ds)=some (.tuple (cutL ds lo hi)):=rfl
theorem e_cutL {lo hi:Option Int}:cutD lo hi (.list ds)=some (.list (cutL ds lo hi)):=rfl
theorem e_neg:negD (.int i)=some (.int (-i)):=rfl
theorem e_seqT:seqOf (.tuple ds)=some ds:=rfl
theorem e_seqL:seqOf (.list ds)=some ds:=rfl
end
end L3
set_option hygiene false
local macro_rules | `(tactic| walk_at "st")=>`(tactic| first | (with_reducible first | refine L3.sq_nx ?_ | refine L3.sq_rt ?_ | refine L3.run_rt ?_ | refine L3.r_mSq.mpr ?_ | refine L3.r_mIf.mpr ?_ | refine L3.r_mSet.mpr ?_ | refine L3.r_mRt.mpr ?_ | refine L3.r_mNx.mpr ?_ | refine r_uAnd.mpr ?_ | refine L3.r_uOr.mpr ?_ | refine L3.r_uNot.mpr ?_ | refine L3.r_uB.mpr ?_ | refine L3.r_uT.mpr ?_ | refine L3.r_uYes.mpr ?_ | refine L3.r_s2.mpr ?_ | refine L3.r_s1.mpr ?_ | refine L3.r_sN.mpr ?_ | refine L3.r_sC.mpr ?_ | refine L3.r_sV.mpr ?_ | refine L3.r_sW.mpr ?_ | refine L3.r_sNil.mpr ?_ | refine L3.r_sCons.mpr ?_ | refine L3.r_sTup.mpr ?_ | refine r_sLst.mpr ?_ | refine L3.r_vNil.mpr ?_ | refine L3.r_vD.mpr ?_ | refine L3.r_vF.mpr ?_ | refine L3.r_sCall.mpr ?_ | refine L3.r_cut.mpr ?_ | refine L3.r_oNo.mpr ?_ | refine L3.r_oI.mpr ?_ | refine L3.r_sAnd.mpr ?_ | refine r_sOr.mpr ?_ | refine L3.r_sNot.mpr ?_ | refine L3.r_sIf.mpr ?_ | refine L3.r_mAsg.mpr ?_ | refine L3.r_mOwn.mpr ?_ | refine L3.r_mFor.mpr ?_ | refine L3.r_mRng1.mpr ?_ | refine L3.r_mSeq.mpr ?_ | refine L3.r_fLst.mpr ?_ | refine L3.r_fCat.mpr ?_ | refine L3.r_sLC.mpr ?_) | ((with_reducible refine L3.r_run.mpr ?_);try dsimp only [L3.startE,List.map_cons,List.map_nil,List.length_cons,List.length_nil,List.replicate,List.cons_append,List.nil_append,Nat.reduceAdd,Nat.reduceSub]) | ((with_reducible apply L3.gD_e);exact rfl) | ((with_reducible apply L3.gW_e);exact rfl) | ((with_reducible apply L3.gW_eo);exact rfl) | ((with_reducible apply L3.gF_e);exact rfl) | ((with_reducible apply L3.oB_e);first | exact L3.e_isin | exact rfl) | ((with_reducible refine And.intro (L3.le_size ?_) ?_);exact rfl) | ((with_reducible refine And.intro (L3.lt_len ?_) ?_);exact rfl;try dsimp only [List.set_cons_zero,List.set_cons_succ]))
local macro_rules | `(tactic| walk_at "rd")=>`(tactic| (repeat walk_at "st"))
local macro_rules | `(tactic| walk_at "ty")=>`(tactic| first | refine L3.cIf_fe L3.t_NoneType_tuple ?_ | refine L3.cIf_fe L3.t_NoneType_bool ?_ | refine L3.cIf_fe L3.t_NoneType_int ?_ | refine L3.cIf_fe L3.t_NoneType_str ?_ | refine L3.cIf_fe L3.t_NoneType_list ?_ | refine L3.cIf_fe L3.t_bool_tuple ?_ | refine L3.cIf_te L3.t_bool_bool ?_ | refine L3.cIf_te L3.t_bool_int ?_ | refine L3.cIf_fe L3.t_bool_str ?_ | refine L3.cIf_fe L3.t_bool_list ?_ | refine L3.cIf_fe L3.t_int_tuple ?_ | refine L3.cIf_fe L3.t_int_bool ?_ | refine L3.cIf_te L3.t_int_int ?_ | refine L3.cIf_fe L3.t_int_str ?_ | refine L3.cIf_fe L3.t_int_list ?_ | refine L3.cIf_fe L3.t_str_tuple ?_ | refine L3.cIf_fe L3.t_str_bool ?_ | refine L3.cIf_fe L3.t_str_int ?_ | refine L3.cIf_te L3.t_str_str ?_ | refine L3.cIf_fe L3.t_str_list ?_ | refine L3.cIf_fe L3.t_list_tuple ?_ | refine L3.cIf_fe L3.t_list_bool ?_ | refine L3.cIf_fe L3.t_list_int ?_ | refine L3.cIf_fe L3.t_list_str ?_ | refine L3.cIf_te L3.t_list_list ?_ | refine L3.cIf_te L3.t_tuple_tuple ?_ | refine L3.cIf_fe L3.t_tuple_bool ?_ | refine L3.cIf_fe L3.t_tuple_int ?_ | refine L3.cIf_fe L3.t_tuple_str ?_ | refine L3.cIf_fe L3.t_tuple_list ?_)
local macro_rules | `(tactic| walk_at "go")=>`(tactic| (repeat first | walk_at "st" | walk_at "ty"))
namespace L3
open PySem PySem.Spec PyProof.Rows L2
variable [Fam]
theorem t_NoneType_tuple:isT "NoneType" "tuple" = false:=by decide +kernel
theorem t_NoneType_bool:isT "NoneType" "bool" = false:=by decide +kernel
theorem t_NoneType_int:isT "NoneType" "int" = false:=by decide +kernel
theorem t_NoneType_str:isT "NoneType" "str" = false:=by decide +kernel
theorem t_NoneType_list:isT "NoneType" "list" = false:=by decide +kernel
theorem t_bool_tuple:isT "bool" "tuple" = false:=by decide +kernel
theorem t_bool_bool:isT "bool" "bool" = true:=by decide +kernel
theorem t_bool_int:isT "bool" "int" = true:=by decide +kernel
theorem t_bool_str:isT "bool" "str" = false:=by decide +kernel
theorem t_bool_list:isT "bool" "list" = false:=by decide +kernel
theorem t_int_tuple:isT "int" "tuple" = false:=by decide +kernel
theorem t_int_bool:isT "int" "bool" = false:=by decide +kernel
theorem t_int_int:isT "int" "int" = true:=by decide +kernel
theorem t_int_str:isT "int" "str" = false:=by decide +kernel
theorem t_int_list:isT "int" "list" = false:=by decide +kernel
theorem t_str_tuple:isT "str" "tuple" = false:=by decide +kernel
theorem t_str_bool:isT "str" "bool" = false:=by decide +kernel
theorem t_str_int:isT "str" "int" = false:=by decide +kernel
theorem t_str_str:isT "str" "str" = true:=by decide +kernel
theorem t_str_list:isT "str" "list" = false:=by decide +kernel
theorem t_list_tuple:isT "list" "tuple" = false:=by decide +kernel
theorem t_list_bool:isT "list" "bool" = false:=by decide +kernel
theorem t_list_int:isT "list" "int" = false:=by decide +kernel
theorem t_list_str:isT "list" "str" = false:=by decide +kernel
theorem t_list_list:isT "list" "list" = true:=by decide +kernel
theorem t_tuple_tuple:isT "tuple" "tuple" = true:=by decide +kernel
theorem t_tuple_bool:isT "tuple" "bool" = false:=by decide +kernel
theorem t_tuple_int:isT "tuple" "int" = false:=by decide +kernel
theorem t_tuple_str:isT "tuple" "str" = false:=by decide +kernel
theorem t_tuple_list:isT "tuple" "list" = false:=by decide +kernel
section
variable {s N k:Nat}
end
variable [Fam]
theorem sz {n:Nat}(h:n≤100000):n≤sizeLine:=Nat.le_trans h (by rw [sizeLine_eq];decide)
theorem sIx_lo {n:Nat}{i:Int}(h:0≤i):HT.sIx n 0 (some i)=min i.toNat n:=by
 obtain ⟨j,rfl⟩:∃ j:Nat,i=j:=⟨i.toNat,by omega⟩
 exact HT.sIx_nat _ _ j
theorem sIx_hi {n:Nat}{i:Int}(h:0≤i):HT.sIx n n (some i)=min i.toNat n:=by
 obtain ⟨j,rfl⟩:∃ j:Nat,i=j:=⟨i.toNat,by omega⟩
 exact HT.sIx_nat _ _ j
theorem cut_to {α:Type}{xs:List α}{i:Int}(h:0≤i):cutL xs none (some i)=xs.take i.toNat:=by
 unfold cutL
 rw [sIx_hi h,HT.sIx_none,List.drop_zero,Nat.sub_zero]
 by_cases hl:i.toNat≤xs.length
 ·rw [Nat.min_eq_left hl]
 ·rw [Nat.min_eq_right (by omega),List.take_of_length_le (Nat.le_refl _),List.take_of_length_le (by omega)]
theorem cut_from {α:Type}{xs:List α}{i:Int}(h:0≤i):cutL xs (some i) none=xs.drop i.toNat:=by
 unfold cutL
 rw [sIx_lo h]
 have e:HT.sIx xs.length xs.length none=xs.length:=HT.sIx_none ..
 rw [e]
 by_cases hl:i.toNat≤xs.length
 ·rw [Nat.min_eq_left hl,List.take_of_length_le (by rw [List.length_drop];omega)]
 ·rw [Nat.min_eq_right (by omega),List.drop_of_length_le (Nat.le_refl _),List.drop_of_length_le (by omega),List.take_nil]
variable [Fam]
variable [Fam]
theorem for_inv {bd:PyData->DE->Option DE}{body:DE->M Out}{Q:Out->FdS->Prop}(I:Nat->DE->FdS->Prop):∀ (items:List PyData) (n:Nat) (E:DE) (F:FdS),I n E F ->
  (∀ i d,items[i]? = some d->∀ E F,I (n+i) E F->∃ E1,bd d E=some E1∧wp (body E1 F) λo F'=>∃ E2,o = .nx E2∧I (n+i+1) E2 F')->(∀ E F,I (n+items.length) E F->Q (.nx E) F)->wp (forGo bd body items E F) Q
 | [],n,E,F,h,_,hq=>wp_some.mpr (hq E F h)
 | d::r,n,E,F,h,st,hq=>by
  obtain ⟨E1,e1,h1⟩:=st 0 d rfl E F h
  rw [forGo,e1,Option.bind_some,wp_bind]
  refine wp_mono h1 λo F1 ⟨E2,e2,h2⟩=>?_
  subst e2
  refine for_inv I r (n+1) E2 F1 h2 (λi d e E F hI=>?_) (λE F hI=>hq E F (by rw [List.length_cons];rw [show n+(r.length+1)=n+1+r.length by omega];exact hI))
  have:=st (i+1) d (by simpa using e) E F (by rw [show n+(i+1)=n+1+i by omega];exact hI)
  rw [show n+(i+1)+1=n+1+i+1 by omega] at this
  exact this
theorem rng_len {lo:Int}{n:Nat}:(rngL lo n).length=n:=by simp [rngL]
theorem mul_b {i j:Int}(h1:i.natAbs<bigN)(h2:j.natAbs<bigN):mulD' (.int i) (.int j)=some (.int (i * j)):=if_pos (.inr ⟨h1,h2⟩)
theorem div_n {i j:Int}(h1:j≠0)(h2:j.natAbs<2 ^ 9000):fdivD (.int i) (.int j)=some (.int (i.fdiv j)):=if_pos ⟨h1,h2⟩
theorem div_b {i j:Int}(h1:0<j)(h2:j.natAbs<2 ^ 9000):fdivD (.int i) (.int j)=some (.int (i / j)):=by
 rw [div_n (by omega) h2,Int.fdiv_eq_ediv_of_nonneg i (by omega)]
theorem mod_b {i j:Int}(h1:0<j):modD (.int i) (.int j)=some (.int (i % j)):=if_pos h1
variable [Fam]
section
variable {F:FdS}{Q:PyData->FdS->Prop}{n:Nat}
theorem lc_fil {mt:DE->M Bool}{me:DE->M PyData}{g:PyData->Bool}{f:PyData->PyData}{rest:DE}{Q:List PyData->FdS->Prop}:∀ (ds:List PyData) (o:Option DV),(∀ d∈ds,∀ (F:FdS) (Q:Bool->FdS->Prop),Q (g d) F->wp (mt (some (.dat d)::rest) F) Q) ->
  (∀ d∈ds,g d=true->∀ (F:FdS) (Q:PyData->FdS->Prop),Q (f d) F->wp (me (some (.dat d)::rest) F) Q)->Q ((ds.filter g).map f) F->wp (lcGo (bN 0) mt me ds (o::rest) F) Q
 | [],o,_,_,q=>wp_some.mpr q
 | d::ds,o,ht,h,q=>by
  rw [lcGo]
  have e:bN 0 d (o::rest)=some (some (.dat d)::rest):=rfl
  rw [e,Option.bind_some,wp_bind]
  refine ht d List.mem_cons_self F _ ?_
  cases c:g d with
  | false =>
   rw [List.filter_cons_of_neg (by rw [c];simp)] at q
   rw [if_neg (by simp)]
   exact lc_fil ds _ (λd hd=>ht d (List.mem_cons_of_mem _ hd)) (λd hd=>h d (List.mem_cons_of_mem _ hd)) q
  | true =>
   rw [List.filter_cons_of_pos c,List.map_cons] at q
   rw [if_pos rfl,wp_bind]
   refine h d List.mem_cons_self c F _ ?_
   rw [wp_bind]
   exact lc_fil ds _ (λd hd=>ht d (List.mem_cons_of_mem _ hd)) (λd hd=>h d (List.mem_cons_of_mem _ hd)) (wp_some.mpr q)
theorem rep_e {d:PyData}(h:reprOk d=true):reprD [d]=some (.str d.shown):=if_pos h
noncomputable def numB (m:Int):PyData->Bool
 | .int i=>decide (m≤i)
 | _=>false
noncomputable def isI:PyData->Bool
 | .int _=>true
 | _=>false
noncomputable def c_is_number:List DV->M PyData:=runD ["thing"] (mRt (sAnd (s1 (isinD "int") (sW 0)) (sNot (s1 (isinD "bool") (sW 0)))))
noncomputable def c_is_number_from:List DV->M PyData:=runD ["least","thing"] (mRt (sAnd (sCall c_is_number (vD (sV 1) vNil)) (s2 geD (sW 1) (sW 0))))
noncomputable def c_is_tuple_of:List DV->M PyData:=runD ["many","thing"] (mRt (sAnd (s1 (isinD "tuple") (sW 1)) (s2 (eqD false) (sN lenD (sCons (sW 1) sNil)) (sW 0))))
theorem r_sCh {f g:PyData->PyData->Option PyData}{a b c:DE->M PyData}{E:DE}{F:FdS}{Q:PyData->FdS->Prop}:wp (sCh f g a b c E F) Q↔wp (a E F) λx F1=>wp (b E F1) λy F2=>oB (f x y) λz=>oB (boolOf z) λt=>cIf t (wp (c E F2) λw F3=>oB (g y w) λv=>Q v F3) (Q (.bool false) F2):=by
 unfold sCh;rw [wp_bind];refine wp_congr λx F1=>?_;rw [wp_bind];refine wp_congr λy F2=>?_
 simp only [wp_obind,oB]
 refine exists_congr λz=>and_congr_right λ_=>exists_congr λt=>and_congr_right λ_=>?_
 cases t
 ·simp only [Bool.false_eq_true,if_false,cIf_f];exact wp_some
 ·simp only [if_true,cIf_t];rw [wp_bind];refine wp_congr λw F3=>?_;simp only [wp_obind,wp_some]
theorem num_w {d:PyData}(h:scs n d)(q:Q (.bool (isI d)) F):wp (c_is_number [.dat d] F) Q:=by
 unfold c_is_number
 cases d with
 | int i=>walk_at "go";simp only [tyD,t_int_bool,Bool.not_false];exact q
 | bool i=>walk_at "go";simp only [tyD,t_bool_bool,Bool.not_true];exact q
 | none=>walk_at "go";exact q
 | str i=>walk_at "go";exact q
 | tuple i=>walk_at "go";exact q
 | list i=>walk_at "go";exact q
 | dict i=>exact absurd h (by simp [scs])
theorem from_w {d:PyData}{m:Int}(h:scs n d)(q:Q (.bool (numB m d)) F):wp (c_is_number_from [.dat (.int m),.dat d] F) Q:=by
 unfold c_is_number_from
 walk_at "go"
 refine num_w h ?_
 cases d with
 | int i=>refine oB_e rfl (cIf_t.mpr ?_);walk_at "go";exact q
 | bool i=>refine oB_e rfl (cIf_f.mpr ?_);walk_at "go";exact q
 | none=>refine oB_e rfl (cIf_f.mpr ?_);walk_at "go";exact q
 | str i=>refine oB_e rfl (cIf_f.mpr ?_);walk_at "go";exact q
 | tuple i=>refine oB_e rfl (cIf_f.mpr ?_);walk_at "go";exact q
 | list i=>refine oB_e rfl (cIf_f.mpr ?_);walk_at "go";exact q
 | dict i=>exact absurd h (by simp [scs])
noncomputable def tupB (m:Nat):PyData->Bool
 | .tuple ds=>decide (ds.length=m)
 | _=>false
theorem tupof_w {d:PyData}{m:Nat}(h:scs n d)(q:Q (.bool (tupB m d)) F):wp (c_is_tuple_of [.dat (.int m),.dat d] F) Q:=by
 unfold c_is_tuple_of
 cases d with
 | tuple ds =>
  walk_at "go"
  have e:(PyData.int (ds.length:Int)).eqv (.int m)=tupB m (.tuple ds):=by
   simp only [PyData.eqv,tupB]
   by_cases h:ds.length=m
   ·rw [h];simp
   ·have:¬ ((ds.length:Int)=(m:Int)):=by omega
    simp [h,this]
  rw [e];exact q
 | int i=>walk_at "go";exact q
 | bool i=>walk_at "go";exact q
 | none=>walk_at "go";exact q
 | str i=>walk_at "go";exact q
 | list i=>walk_at "go";exact q
 | dict i=>exact absurd h (by simp [scs])
end
section
variable {F:FdS}{Q:Out->FdS->Prop}{E:DE}{i:Nat}{ds:List PyData}
theorem app_w {v:DE->M PyData}(he:ownOf E i=some ds)(hl:ds.length≤100000)(q:wp (v E F) λx F1=>Q (.nx (E.set i (some (.own (ds++[x]))))) F1):wp (mApp i v E F) Q:=by
 unfold mApp;rw [wp_bind]
 refine wp_mono q λx F1 h=>?_
 rw [he,Option.bind_some,if_pos (Nat.lt_of_le_of_lt hl (by rw [sizeLine_eq];decide))]
 exact wp_some.mpr h
theorem enum_w {a:DE->M PyData}{Q:List PyData->FdS->Prop}(q:wp (a E F) λx F1=>oB (seqOf x) λds=>Q (enumL 0 ds) F1):wp (mEnum a E F) Q:=by
 unfold mEnum;rw [wp_bind]
 refine wp_mono q λx F1 h=>?_
 obtain ⟨ds,e,q⟩:=h
 dsimp only
 rw [e,Option.bind_some]
 exact wp_some.mpr q
end
variable [Fam]
theorem lc_trG {bd:PyData->DE->Option DE}{me:DE->M PyData}{Sh:DE->Prop}{P:PyData->PyData->Prop}{c:Int}(hc:0≤c):∀ (ds:List PyData) (E:DE) (F:FdS) (Q:List PyData->FdS->Prop),Sh E ->
  (∀ d∈ds,∀ E,Sh E->∃ E1,bd d E=some E1∧Sh E1∧∀ F:FdS,F.t+c≤199999->wp (me E1 F) λy F'=>F'.t≤F.t+c∧P d y)->F.t+c * ds.length≤199999 ->
  (∀ zs F',zs.length=ds.length->(∀ z∈zs,∃ d∈ds,P d z)->F'.t≤F.t+c * ds.length->Q zs F')->wp (lcGo bd uYes me ds E F) Q
 | [],E,F,Q,_,_,_,q=>wp_some.mpr (q [] F rfl (λz hz=>by cases hz) (by simp))
 | d::ds,E,F,Q,hE,st,hF,q=>by
  have e1:c * ((d::ds).length:Int)=c * (ds.length:Int)+c:=by rw [List.length_cons];push_cast;rw [Int.mul_add,Int.mul_one]
  have hp:0≤c * (ds.length:Int):=Int.mul_nonneg hc (by omega)
  rw [e1] at hF q
  obtain ⟨E1,eb,h1,h2⟩:=st d List.mem_cons_self E hE
  rw [lcGo,eb,Option.bind_some,wp_bind]
  refine r_uYes.mpr ?_
  rw [if_pos rfl,wp_bind]
  refine wp_mono (h2 F (by omega)) λy F1 ⟨t1,py⟩=>?_
  rw [wp_bind]
  refine lc_trG hc ds E1 F1 _ h1 (λd hd=>st d (List.mem_cons_of_mem _ hd)) (by omega) λzs F2 hl hz t2=>wp_some.mpr (q _ F2 (by simp [hl]) (λz hm=>?_) (by omega))
  rcases List.mem_cons.mp hm with rfl | hm
  ·exact ⟨d,List.mem_cons_self,py⟩
  ·obtain ⟨d',hd',p'⟩:=hz z hm
   exact ⟨d',List.mem_cons_of_mem _ hd',p'⟩
theorem lc_tr {me:DE->M PyData}{P:PyData->PyData->Prop}{c:Int}{rest:DE}{F:FdS}{Q:List PyData->FdS->Prop}(ds:List PyData)(o:Option DV)(hc:0≤c)
  (st:∀ d∈ds,∀ F:FdS,F.t+c≤199999->wp (me (some (.dat d)::rest) F) λy F'=>F'.t≤F.t+c∧P d y) (hF:F.t+c * ds.length≤199999)
  (q:∀ zs F',zs.length=ds.length->(∀ z∈zs,∃ d∈ds,P d z)->F'.t≤F.t+c * ds.length->Q zs F'):wp (lcGo (bN 0) uYes me ds (o::rest) F) Q :=
 lc_trG (Sh:=λE=>∃ o,E=o::rest) hc ds _ F Q ⟨o,rfl⟩ (λd hd E ⟨o,e⟩=>by subst e;exact ⟨_,rfl,⟨_,rfl⟩,st d hd⟩) hF q
theorem cntL_mul {c:Nat}:∀ {ds:List PyData},(∀ d∈ds,cnt d≤c)->cntL ds≤c * ds.length
 | [],_=>by simp [cntL]
 | d::ds,h=>by
  have h1:=h d List.mem_cons_self
  have h2:=cntL_mul (c:=c) (ds:=ds) λd hd=>h d (List.mem_cons_of_mem _ hd)
  rw [cntL,List.length_cons,Nat.mul_add,Nat.mul_one]
  omega
variable [Fam]
theorem wh_inv {c:DE->M Bool}{b:DE->M Out}{Q:Out->FdS->Prop}(I:DE->FdS->Prop)(μ:DE->Nat)
  (st:∀ E F,I E F->wp (c E F) λt F1=>cIf t (wp (b E F1) λo F2=>∃ E2,o = .nx E2∧I E2 F2 ∧ μ E2 < μ E) (Q (.nx E) F1)):∀ (n:Nat) (E:DE) (F:FdS),I E F->μ E<n->wp (whGo c b n E F) Q
 | 0,E,F,_,h=>absurd h (Nat.not_lt_zero _)
 | n+1,E,F,hI,h=>by
  rw [whGo,wp_bind]
  refine wp_mono (st E F hI) λt F1 h1=>?_
  cases t with
  | false=>rw [cIf_f] at h1;rw [if_neg (by simp)];exact wp_some.mpr h1
  | true =>
   rw [cIf_t] at h1
   rw [if_pos rfl,wp_bind]
   refine wp_mono h1 λo F2 ⟨E2,e,hI2,hm⟩=>?_
   subst e
   exact wh_inv I μ st n E2 F2 hI2 (by omega)
theorem wh_w {c:DE->M Bool}{b:DE->M Out}{Q:Out->FdS->Prop}(I:DE->FdS->Prop)(μ:DE->Nat){E:DE}{F:FdS}(h0:I E F)
  (st:∀ E F,I E F->wp (c E F) λt F1=>cIf t (wp (b E F1) λo F2=>∃ E2,o = .nx E2∧I E2 F2 ∧ μ E2 < μ E) (Q (.nx E) F1)):wp (mWh c b E F) Q:=by
 obtain ⟨o,F',e,q⟩:=wh_inv I μ st (μ E+1) E F h0 (Nat.lt_succ_self _)
 exact ⟨o,F',mWh_of e,q⟩
theorem par_w {i j:Nat}{a:DE->M (List PyData)}{E:DE}{F:FdS}{Q:Out->FdS->Prop}(q:wp (a E F) λxs F1=>∃ x y,xs=[x,y]∧i<E.length∧j<E.length∧Q (.nx ((E.set i (some (.dat x))).set j (some (.dat y)))) F1):wp (mPar i j a E F) Q:=by
 unfold mPar;rw [wp_bind]
 refine wp_mono q λxs F1 h=>?_
 obtain ⟨x,y,rfl,h1,h2,q⟩:=h
 simp only [bN,h1,if_true,Option.bind_some,List.length_set,h2]
 exact wp_some.mpr q
noncomputable def c_common_divisor:List DV->M PyData:=runD ["one","other"] (mSq (mPar 0 1 (sCons (sN absD (sCons (sW 0) sNil)) (sCons (sN absD (sCons (sW 1) sNil)) sNil)))
  (mSq (mWh (uB (s2 gtD (sW 1) (sC (.int 0)))) (mPar 0 1 (sCons (sV 1) (sCons (s2 modD (sW 0) (sW 1)) sNil))))
  (mRt (sV 0))))
theorem gcd_w {a b:Int}{F:FdS}{Q:PyData->FdS->Prop}(q:Q (.int (Int.gcd a b:Nat)) F):wp (c_common_divisor [.dat (.int a),.dat (.int b)] F) Q:=by
 unfold c_common_divisor
 walk_at "go"
 refine par_w ?_
 walk_at "go"
 have hab:∀ z:Int,(if z<0 then -z else z)=(z.natAbs:Int):=λz=>by split <;> omega
 rw [hab a,hab b]
 refine ⟨_,_,rfl,lt_len rfl,lt_len rfl,sq_nx ?_⟩
 walk_at "go"
 refine wh_w (λE F'=>F' = F∧∃ x y:Nat,E=[some (.dat (.int x)),some (.dat (.int y))]∧Nat.gcd x y=Int.gcd a b) (λE=>match E with
  | [_,some (.dat (.int y))]=>y.natAbs
  | _=>0) ⟨rfl,a.natAbs,b.natAbs,rfl,rfl⟩ ?_
 rintro E F1 ⟨rfl,x,y,rfl,hg⟩
 walk_at "go"
 refine cIf_2 (λe=>?_) (λe=>?_)
 ·have hy:(0:Int)<y:=of_decide_eq_true e
  refine par_w ?_
  walk_at "go"
  refine oB_e (mod_b hy) ?_
  walk_at "go"
  refine ⟨_,_,rfl,lt_len rfl,lt_len rfl,_,rfl,⟨rfl,y,x % y,rfl,?_⟩,?_⟩
  ·rw [← hg,Nat.gcd_comm x y,Nat.gcd_rec y x,Nat.gcd_comm]
  ·show ((x:Int) % (y:Int)).natAbs<(y:Int).natAbs
   have h1:=Int.emod_nonneg (x:Int) (b:=(y:Int)) (by omega)
   have h2:=Int.emod_lt_of_pos (x:Int) hy
   omega
 ·have hy:y=0:=by have:=of_decide_eq_false e;omega
  subst hy
  refine sq_nx ?_
  walk_at "go"
  rw [Nat.gcd_zero_right] at hg
  rw [hg]
  exact q
theorem eq_i {i j:Int}:eqD false (.int i) (.int j)=some (.bool (decide (i=j))):=by
 show (if SeqAt.shaped (.int i)=true∧SeqAt.shaped (.int j)=true then _ else none)=_
 rw [if_pos (show SeqAt.shaped (.int i)=true∧SeqAt.shaped (.int j)=true from ⟨by simp [SeqAt.shaped,PyData.canLay0,PyData.depth],by simp [SeqAt.shaped,PyData.canLay0,PyData.depth]⟩),if_neg (show ¬ (false=true) by decide)]
 refine congrArg (λb=>some (PyData.bool b)) ?_
 simp only [PyData.eqv]
 exact Bool.beq_eq_decide_eq ..
theorem ne_i {i j:Int}:eqD true (.int i) (.int j)=some (.bool (!decide (i=j))):=by
 show (if SeqAt.shaped (.int i)=true∧SeqAt.shaped (.int j)=true then _ else none)=_
 rw [if_pos (show SeqAt.shaped (.int i)=true∧SeqAt.shaped (.int j)=true from ⟨by simp [SeqAt.shaped,PyData.canLay0,PyData.depth],by simp [SeqAt.shaped,PyData.canLay0,PyData.depth]⟩),if_pos rfl]
 refine congrArg (λb=>some (PyData.bool b)) ?_
 simp only [PyData.eqv]
 rw [Bool.beq_eq_decide_eq]
variable [Fam]
variable [Fam]
noncomputable def c_fraction:List DV->M PyData:=runD ["top","bottom","divisor"] (mSq (mSet 2 (sCall c_common_divisor (vD (sV 0) (vD (sV 1) vNil))))
  (mSq (mIf (uB (s2 ltD (sW 1) (sC (.int 0)))) (mSet 2 (s1 negD (sW 2))) mNx)
  (mRt (sTup (sCons (s2 fdivD (sW 0) (sW 2)) (sCons (s2 fdivD (sW 1) (sW 2)) sNil))))))
structure Low (i j t b:Int):Prop where
 pos:0<b
 low:Int.gcd t b=1
 as:t * j=i * b
 lt:t.natAbs≤i.natAbs
 lb:b.natAbs≤j.natAbs
theorem low_pos {i j:Int}(hj:0<j):Low i j (i / (Int.gcd i j:Int)) (j / (Int.gcd i j:Int)):=by
 have hg:0<Int.gcd i j:=Int.gcd_pos_of_ne_zero_right i (by omega)
 have d1:(Int.gcd i j:Int) ∣ i:=Int.gcd_dvd_left ..
 have d2:(Int.gcd i j:Int) ∣ j:=Int.gcd_dvd_right ..
 refine ⟨Int.ediv_pos_of_pos_of_dvd hj (by omega) d2,Int.gcd_ediv_gcd_ediv_gcd hg,?_,Int.natAbs_ediv_le_natAbs ..,Int.natAbs_ediv_le_natAbs ..⟩
 have hg0:(Int.gcd i j:Int)≠0:=by omega
 clear hg
 generalize (Int.gcd i j:Int)=g at *
 obtain ⟨x,rfl⟩:=d1
 obtain ⟨y,rfl⟩:=d2
 have hg:=hg0
 rw [Int.mul_ediv_cancel_left x hg,Int.mul_ediv_cancel_left y hg,Int.mul_comm g y,← Int.mul_assoc,Int.mul_comm g x,Int.mul_assoc x g y,Int.mul_comm g y,← Int.mul_assoc]
theorem low_neg {i j:Int}(hj:j<0):Low i j (i / (-(Int.gcd i j:Int))) (j / (-(Int.gcd i j:Int))):=by
 have h:=low_pos (i:=-i) (j:=-j) (by omega)
 rw [Int.neg_gcd,Int.gcd_neg] at h
 obtain ⟨h1,h2,h3,h4,h5⟩:=h
 have e1:i / (-(Int.gcd i j:Int)) = -i / (Int.gcd i j:Int):=by
  rw [Int.ediv_neg,Int.neg_ediv_of_dvd (Int.gcd_dvd_left ..)]
 have e2:j / (-(Int.gcd i j:Int)) = -j / (Int.gcd i j:Int):=by
  rw [Int.ediv_neg,Int.neg_ediv_of_dvd (Int.gcd_dvd_right ..)]
 rw [e1,e2]
 refine ⟨h1,h2,?_,by rw [Int.natAbs_neg] at h4;exact h4,by rw [Int.natAbs_neg] at h5;exact h5⟩
 rw [Int.mul_neg,Int.neg_mul] at h3
 omega
theorem fraction_w {i j:Int}{F:FdS}{Q:PyData->FdS->Prop}(hj:j≠0)(hb:j.natAbs<2 ^ 9000)(q:∀ t b,Low i j t b->Q (.tuple [.int t,.int b]) F):wp (c_fraction [.dat (.int i),.dat (.int j)] F) Q:=by
 unfold c_fraction
 walk_at "go"
 refine gcd_w ?_
 have hg:0<Int.gcd i j:=Int.gcd_pos_of_ne_zero_right i hj
 have hgl:Int.gcd i j≤j.natAbs:=Nat.le_of_dvd (by omega) (Int.ofNat_dvd_left.mp (Int.gcd_dvd_right ..))
 refine ⟨lt_len rfl,sq_nx ?_⟩
 walk_at "go"
 refine cIf_2 (λe=>?_) (λe=>?_)
 ·have hj:j<0:=of_decide_eq_true e
  walk_at "go"
  have hd:(-((Int.gcd i j:Nat):Int)).natAbs<2 ^ 9000:=by rw [Int.natAbs_neg];exact Nat.lt_of_le_of_lt hgl hb
  have h0:-((Int.gcd i j:Nat):Int)≠0:=by omega
  have d1:-((Int.gcd i j:Nat):Int) ∣ i:=Int.neg_dvd.mpr (Int.gcd_dvd_left ..)
  have d2:-((Int.gcd i j:Nat):Int) ∣ j:=Int.neg_dvd.mpr (Int.gcd_dvd_right ..)
  refine oB_e (div_n h0 hd) ?_
  walk_at "go"
  refine oB_e (div_n h0 hd) ?_
  walk_at "go"
  rw [Int.fdiv_eq_ediv_of_dvd d1,Int.fdiv_eq_ediv_of_dvd d2]
  exact q _ _ (low_neg hj)
 ·have hj:0<j:=by have:=of_decide_eq_false e;omega
  walk_at "go"
  have hd:((Int.gcd i j:Nat):Int).natAbs<2 ^ 9000:=Nat.lt_of_le_of_lt hgl hb
  refine oB_e (div_b (by omega) hd) ?_
  walk_at "go"
  refine oB_e (div_b (by omega) hd) ?_
  walk_at "go"
  exact q _ _ (low_pos hj)
variable [Fam]
noncomputable def val (B:Int):List Int->Int
 | []=>0
 | x::r=>x+B * val B r
section
variable {B:Int}
theorem val_append:∀ (xs ys:List Int),val B (xs++ys)=val B xs+B ^ xs.length * val B ys
 | [],ys=>by simp [val]
 | x::xs,ys=>by
  rw [List.cons_append,val,val,val_append xs ys,List.length_cons,Int.pow_succ]
  generalize B ^ xs.length=P
  grind
theorem val_bound (hB:1≤B):∀ xs:List Int,(∀ x∈xs,0≤x∧x<B)->0≤val B xs∧val B xs<B ^ xs.length
 | [],_=>by simp [val]
 | x::xs,h=>by
  obtain ⟨h1,h2⟩:=val_bound hB xs λy hy=>h y (List.mem_cons_of_mem _ hy)
  obtain ⟨h3,h4⟩:=h x List.mem_cons_self
  rw [val,List.length_cons,Int.pow_succ]
  have h5:=Int.mul_nonneg (show 0≤B by omega) h1
  have h6:B * (val B xs+1)≤B * B ^ xs.length:=Int.mul_le_mul_of_nonneg_left (by omega) (by omega)
  rw [Int.mul_add,Int.mul_one] at h6
  rw [Int.mul_comm (B ^ xs.length) B]
  omega
end
theorem le_sum:∀ {xs:List Int},(∀ x∈xs,0≤x)->0≤xs.sum∧∀ x∈xs,x≤xs.sum
 | [],_=>by simp
 | y::xs,h=>by
  obtain ⟨h1,h2⟩:=le_sum λz hz=>h z (List.mem_cons_of_mem _ hz)
  have h3:=h y List.mem_cons_self
  rw [List.sum_cons]
  refine ⟨by omega,λx hx=>?_⟩
  rcases List.mem_cons.mp hx with rfl | hx
  ·omega
  ·have:=h2 x hx;omega
noncomputable def bB:Int:=10000000000000000000000000000000000000000000000000000000000000000 * 1000000000000000000000000000000000000
theorem bB_pos:1000000000<bB:=by decide +kernel
theorem bB_abs:bB.natAbs<2 ^ 400:=by decide +kernel
theorem lt_big {x:Int}(h0:0≤x)(h1:x<bB):x.natAbs<bigN:=Nat.lt_trans (by omega) (Nat.lt_of_lt_of_le bB_abs (bigN_ge (by decide)))
structure Fl (xs:List Int) (L:Nat) (N S:Int):Prop where
 len:xs.length=L
 one:1≤L
 nn:∀ x∈xs,0≤x
 v:val bB xs=N
 s:xs.sum=S
 lo:bB ^ (L - 1)≤N
 sp:1≤S
 hi:S<bB
theorem Fl.dig {xs:List Int}{L:Nat}{N S:Int}(h:Fl xs L N S):∀ x∈xs,0≤x∧x<bB:=λx hx=>by
 have:=(le_sum h.nn).2 x hx
 have:=h.s
 have:=h.hi
 exact ⟨h.nn x hx,by omega⟩
section
variable {F:FdS}{E:DE}
end
theorem ixN_n {n:Nat}{i:Int}(h0:0≤i)(h1:i<n):ixN n i=some i.toNat:=by
 unfold ixN;rw [if_pos h0,if_pos h1]
noncomputable abbrev fT (xs:List Int):PyData:=.tuple (xs.map .int)
variable [Fam]
theorem rng1_i {i:Int}(h0:-(2 ^ 62)≤i)(h1:i<2 ^ 62):rngOf1 [.int i]=some (rngL 0 i.toNat):=if_pos ⟨h0,h1⟩
theorem rng1_e {n:Nat}(h:n≤100000):rngOf1 [.int (n:Nat)]=some (rngL 0 n):=by
 have e:=rng1_i (i:=(n:Int)) (by omega) (by omega)
 rwa [Int.toNat_natCast] at e
noncomputable def pr (p:Int×Int):PyData:=.tuple [.int p.1,.int p.2]
theorem lc_map2 {me:DE->M PyData}{f:Int×Int->PyData}{rest:DE}{Q:List PyData->FdS->Prop}:∀ (ps:List (Int×Int)) (o o':Option DV) (F:FdS),(∀ p∈ps,∀ (F:FdS) (Q:PyData->FdS->Prop),Q (f p) F->wp (me (some (.dat (.int p.1))::some (.dat (.int p.2))::rest) F) Q)->Q (ps.map f) F->wp (lcGo (bTup 2 (bCons (bN 0) (bCons (bN 1) bNil))) uYes me (ps.map pr) (o::o' :: rest) F) Q
 | [],o,o',F,_,q=>wp_some.mpr q
 | p::ps,o,o',F,h,q=>by
  rw [List.map_cons,lcGo]
  have e:bTup 2 (bCons (bN 0) (bCons (bN 1) bNil)) (pr p) (o::o' :: rest)=some (some (.dat (.int p.1))::some (.dat (.int p.2))::rest):=rfl
  rw [e,Option.bind_some,wp_bind]
  refine r_uYes.mpr ?_
  rw [if_pos rfl,wp_bind]
  refine h p List.mem_cons_self F _ ?_
  rw [wp_bind]
  exact lc_map2 ps _ _ F (λp hp=>h p (List.mem_cons_of_mem _ hp)) (wp_some.mpr q)
theorem ints_of:∀ ns:List Int,intsOf (ns.map .int)=some ns
 | []=>rfl
 | n::ns=>by rw [List.map_cons,intsOf,ints_of ns];rfl
theorem sumL_e {ns:List Int}:sumD' [.list (ns.map .int)]=some (.int ns.sum):=by
 simp only [sumD',ints_of,Option.map_some]
theorem sumT_e {ns:List Int}:sumD' [.tuple (ns.map .int)]=some (.int ns.sum):=by
 simp only [sumD',ints_of,Option.map_some]
noncomputable def wSum (ps:List (Int×Int)):Int:=(ps.map λp=>p.1 * p.2).sum
noncomputable def lSum (ps:List (Int×Int)):Int:=(ps.map λp=>p.2).sum
noncomputable def c_mean_of:List DV->M PyData:=runD ["pairs","weighed"] (mSq (mSet 1 (sN sumD' (sCons (sLC (mSeq (sW 0)) 2 [] (bTup 2 (bCons (bN 0) (bCons (bN 1) bNil))) uYes (s2 mulD' (sW 0) (sW 1))) sNil)))
  (mRt (sCall c_fraction (vD (sV 1) (vD (sN sumD' (sCons (sLC (mSeq (sW 0)) 2 [] (bTup 2 (bCons (bN 0) (bCons (bN 1) bNil))) uYes (sV 1)) sNil)) vNil)))))
theorem meanof_w {ps:List (Int×Int)}{F:FdS}{Q:PyData->FdS->Prop}(hl:ps.length≤1000)(h:∀ p∈ps,p.1.natAbs<bigN∧p.2.natAbs<bigN)(hp:1≤lSum ps)(hb:(lSum ps).natAbs<2 ^ 9000)(q:∀ t b,Low (wSum ps) (lSum ps) t b->Q (.tuple [.int t,.int b]) F):wp (c_mean_of [.dat (.list (ps.map pr))] F) Q:=by
 have e1:(ps.map λp=>PyData.int (p.1 * p.2))=(ps.map λp=>p.1 * p.2).map .int:=by rw [List.map_map];rfl
 have e2:(ps.map λp=>PyData.int p.2)=(ps.map λp=>p.2).map .int:=by rw [List.map_map];rfl
 unfold c_mean_of
 walk_at "go"
 refine ⟨sz (by rw [List.length_map];omega),?_⟩
 refine lc_map2 (f:=λp=>.int (p.1 * p.2)) ps none none F (λp hp F Q q=>?_) ?_
 ·walk_at "go"
  refine oB_e (mul_b (h p hp).1 (h p hp).2) q
 ·rw [e1]
  refine r_sNil.mpr (oB_e sumL_e ?_)
  walk_at "go"
  refine ⟨sz (by rw [List.length_map];omega),?_⟩
  refine lc_map2 (f:=λp=>.int p.2) ps none none F (λp hp F Q q=>?_) ?_
  ·walk_at "go"
   exact q
  ·rw [e2]
   refine r_sNil.mpr (oB_e sumL_e ?_)
   walk_at "go"
   exact fraction_w (by have:(1:Int)≤lSum ps:=hp;intro z;have z:lSum ps=0:=z;omega) hb q
noncomputable def en:Nat->List Int->List (Int×Int)
 | _,[]=>[]
 | k,x::r=>((k:Nat),x)::en (k+1) r
theorem en_len:∀ (k:Nat) (xs:List Int),(en k xs).length=xs.length
 | _,[]=>rfl
 | k,x::r=>by rw [en,List.length_cons,List.length_cons,en_len]
theorem en_enumL:∀ (k:Nat) (xs:List Int),enumL k (xs.map .int)=(en k xs).map pr
 | _,[]=>rfl
 | k,x::r=>by rw [List.map_cons,enumL,en,List.map_cons,en_enumL];rfl
theorem en_mem:∀ {k:Nat} {xs:List Int} {p:Int×Int},p∈en k xs->p.2∈xs∧0≤p.1∧p.1≤k+xs.length
 | _,[],p,h=>by simp [en] at h
 | k,x::r,p,h=>by
  rw [en] at h
  rcases List.mem_cons.mp h with rfl | h
  ·exact ⟨List.mem_cons_self,by simp,by simp only [List.length_cons];omega⟩
  ·obtain ⟨h1,h2,h3⟩:=en_mem h
   exact ⟨List.mem_cons_of_mem _ h1,h2,by rw [List.length_cons];omega⟩
theorem en_l:∀ (k:Nat) (xs:List Int),lSum (en k xs)=xs.sum
 | _,[]=>rfl
 | k,x::r=>by
  have:=en_l (k+1) r
  simp only [lSum,en,List.map_cons,List.sum_cons] at *
  omega
noncomputable def c_mean:List DV->M PyData:=runD ["flow"] (mRt (sCall c_mean_of (vD (sLEn (sV 0)) vNil)))
theorem r_sLEn {m:DE->M PyData}{E:DE}{F:FdS}{Q:PyData->FdS->Prop}(q:wp (m E F) λx F1=>oB (seqOf x) λds=>ds.length≤1000∧Q (.list (enumL 0 ds)) F1):wp (sLEn m E F) Q:=by
 unfold sLEn;rw [wp_bind]
 refine wp_mono q λx F1 h=>?_
 obtain ⟨ds,e,h1,h2⟩:=h
 dsimp only
 rw [e,Option.bind_some,if_pos h1]
 exact wp_some.mpr h2
theorem Fl.big {xs:List Int}{L:Nat}{N S:Int}(h:Fl xs L N S)(hL:L≤1000):∀ p∈en 0 xs,p.1.natAbs<bigN∧p.2.natAbs<bigN:=λp hp=>by
 obtain ⟨h1,h2,h3⟩:=en_mem hp
 have:=h.len
 exact ⟨lt_big h2 (by have:=bB_pos;omega),lt_big (h.dig _ h1).1 (h.dig _ h1).2⟩
theorem Fl.s9 {xs:List Int}{L:Nat}{N S:Int}(h:Fl xs L N S):S.natAbs<2 ^ 9000:=by
 have h1:=h.sp
 have h2:=h.hi
 exact Nat.lt_trans (by omega) (Nat.lt_of_lt_of_le bB_abs (Nat.pow_le_pow_right (by decide) (by decide)))
theorem mean_w {xs:List Int}{L:Nat}{N S:Int}{F:FdS}{Q:PyData->FdS->Prop}(h:Fl xs L N S)(hL:L≤1000)(q:∀ t b,Low (wSum (en 0 xs)) S t b->Q (.tuple [.int t,.int b]) F):wp (c_mean [.dat (fT xs)] F) Q:=by
 have hl:=h.len
 have es:lSum (en 0 xs)=S:=by rw [en_l,h.s]
 unfold c_mean
 walk_at "go"
 refine r_sLEn ?_
 walk_at "go"
 refine ⟨by rw [List.length_map];omega,?_⟩
 rw [en_enumL]
 walk_at "go"
 refine meanof_w (by rw [en_len];omega) (h.big hL) (by rw [es];exact h.sp) (by rw [es];exact h.s9) ?_
 rw [es]
 intro t b hb
 walk_at "go"
 exact q t b hb
noncomputable def c_total:List DV->M PyData:=runD ["flow"] (mRt (sN sumD' (sCons (sW 0) sNil)))
theorem total_w {xs:List Int}{F:FdS}{Q:PyData->FdS->Prop}(q:Q (.int xs.sum) F):wp (c_total [.dat (fT xs)] F) Q:=by
 unfold c_total
 walk_at "go"
 refine oB_e sumT_e ?_
 walk_at "go"
 exact q
noncomputable def c_share_of:List DV->M PyData:=runD ["flow","k"] (mSq (mIf (uNot (uB (sCh leD ltD (sC (.int 0)) (sW 1) (sN lenD (sCons (sW 0) sNil))))) (mRt (sC (.tuple [.int 0,.int 1]))) mNx)
  (mRt (sCall c_fraction (vD (s2 ixD (sW 0) (sW 1)) (vD (sCall c_total (vD (sV 0) vNil)) vNil)))))
noncomputable def lotAt (xs:List Int)(k:Int):Int:=if 0≤k∧k<xs.length then xs.getD k.toNat 0 else 0
theorem at_lot {xs:List Int}{k:Int}(h0:0≤k)(h1:k<xs.length):atI (xs.map PyData.int) k=some (.int (lotAt xs k)):=by
 unfold atI lotAt
 rw [List.length_map,ixN_n h0 h1,Option.bind_some,if_pos ⟨h0,h1⟩,List.getElem?_map]
 have hk:k.toNat<xs.length:=by omega
 simp [List.getElem?_eq_getElem hk,List.getD]
theorem share_w {xs:List Int}{L:Nat}{N S k:Int}{F:FdS}{Q:PyData->FdS->Prop}(h:Fl xs L N S)(q:∀ t b,Low (lotAt xs k) S t b->Q (.tuple [.int t,.int b]) F):wp (c_share_of [.dat (fT xs),.dat (.int k)] F) Q:=by
 have hsp:=h.sp
 have out:¬ (0≤k∧k<xs.length)->Q (.tuple [.int 0,.int 1]) F:=λhn=>by
  refine q 0 1 ⟨by decide,by decide,?_,?_,?_⟩
  ·unfold lotAt;rw [if_neg hn];simp
  ·simp
  ·show 1≤S.natAbs;omega
 unfold c_share_of
 refine r_run.mpr (r_mSq.mpr (r_mIf.mpr (r_uNot.mpr (r_uB.mpr (r_sCh.mpr ?_)))))
 walk_at "go"
 refine cIf_2 (λe1=>?_) (λe1=>?_)
 ·have e1:=of_decide_eq_true e1
  walk_at "go"
  rw [List.length_map]
  by_cases e2:k<xs.length
  ·rw [decide_eq_true e2]
   walk_at "go"
   refine oB_e (at_lot e1 e2) ?_
   walk_at "go"
   refine total_w ?_
   walk_at "go"
   rw [h.s]
   refine fraction_w (by omega) h.s9 λt b hb=>?_
   walk_at "go"
   exact q t b hb
  ·rw [decide_eq_false e2]
   walk_at "go"
   exact out λz=>e2 z.2
 ·have e1:=of_decide_eq_false e1
  walk_at "go"
  exact out λz=>e1 z.1
variable [Fam]
noncomputable def qd (q:Rat):PyData:=.tuple [.int q.num,.int ((q.den:Nat):Int)]
theorem low_qd {i j t b:Int}(h:Low i j t b)(hj:0<j):PyData.tuple [.int t,.int b]=qd (mkRat i j.toNat):=by
 obtain ⟨h1,h2,h3,_,_⟩:=h
 have nz:b.toNat≠0:=by omega
 have cp:t.natAbs.Coprime b.toNat:=by
  have:b.toNat=b.natAbs:=by omega
  rw [this];exact h2
 have e1:(⟨t,b.toNat,nz,cp⟩:Rat)=mkRat t b.toNat:=by rw [Rat.mk_eq_mkRat]
 have e2:mkRat t b.toNat=mkRat i j.toNat:=by
  rw [Rat.mkRat_eq_iff nz (by omega)]
  rw [show ((j.toNat:Nat):Int)=j by omega,show ((b.toNat:Nat):Int)=b by omega]
  exact h3
 rw [← e2,← e1]
 unfold qd
 simp only
 rw [show ((b.toNat:Nat):Int)=b by omega]
theorem frac_q {i j:Int}{F:FdS}{Q:PyData->FdS->Prop}(hj:0<j)(hb:j.natAbs<2 ^ 9000)(q:Q (qd (mkRat i j.toNat)) F):wp (c_fraction [.dat (.int i),.dat (.int j)] F) Q :=
 fraction_w (by omega) hb λt b h=>by rw [low_qd h hj];exact q
theorem frac_n {i:Int}{n:Nat}{F:FdS}{Q:PyData->FdS->Prop}(hj:0<n)(hb:n<2 ^ 9000)(q:Q (qd (mkRat i n)) F):wp (c_fraction [.dat (.int i),.dat (.int (n:Nat))] F) Q :=
 frac_q (by omega) (by omega) (by rw [Int.toNat_natCast];exact q)
structure Sz (p:Rat):Prop where
 num:p.num.natAbs<2 ^ 4000
 den:p.den<2 ^ 4000
theorem p4 {n:Nat}(h:n<2 ^ 4000):n<bigN:=Nat.lt_of_lt_of_le h (bigN_ge (by decide))
theorem Sz.dd {p q:Rat}(hp:Sz p)(hq:Sz q):p.den * q.den<2 ^ 9000:=by
 have:=Nat.mul_lt_mul'' hp.den hq.den
 rw [← Nat.pow_add] at this
 exact Nat.lt_trans this (Nat.pow_lt_pow_right (by decide) (by decide))
theorem Sz.mul1 {p q:Rat}(hp:Sz p)(hq:Sz q):mulD' (.int p.num) (.int ((q.den:Nat):Int))=some (.int (p.num * ((q.den:Nat):Int))):=mul_b (p4 hp.num) (p4 (by have:=hq.den;omega))
theorem Sz.mul2 {p q:Rat}(hp:Sz p)(hq:Sz q):mulD' (.int ((p.den:Nat):Int)) (.int ((q.den:Nat):Int))=some (.int (((p.den * q.den:Nat)):Int)):=by
 rw [Int.natCast_mul]
 exact mul_b (p4 (by have:=hp.den;omega)) (p4 (by have:=hq.den;omega))
theorem Sz.mul3 {p q:Rat}(hp:Sz p)(hq:Sz q):mulD' (.int p.num) (.int q.num)=some (.int (p.num * q.num)):=mul_b (p4 hp.num) (p4 hq.num)
theorem den_pos (p:Rat):0<p.den:=Nat.pos_of_ne_zero p.den_nz
noncomputable def c_plus:List DV->M PyData:=runD ["one","other"] (mRt (sCall c_fraction (vD (s2 addD (s2 mulD' (s2 ixD (sW 0) (sC (.int 0))) (s2 ixD (sW 1) (sC (.int 1)))) (s2 mulD' (s2 ixD (sW 1) (sC (.int 0))) (s2 ixD (sW 0) (sC (.int 1))))) (vD (s2 mulD' (s2 ixD (sW 0) (sC (.int 1))) (s2 ixD (sW 1) (sC (.int 1)))) vNil))))
noncomputable def c_minus:List DV->M PyData:=runD ["one","other"] (mRt (sCall c_fraction (vD (s2 subD (s2 mulD' (s2 ixD (sW 0) (sC (.int 0))) (s2 ixD (sW 1) (sC (.int 1)))) (s2 mulD' (s2 ixD (sW 1) (sC (.int 0))) (s2 ixD (sW 0) (sC (.int 1))))) (vD (s2 mulD' (s2 ixD (sW 0) (sC (.int 1))) (s2 ixD (sW 1) (sC (.int 1)))) vNil))))
noncomputable def c_times:List DV->M PyData:=runD ["one","other"] (mRt (sCall c_fraction (vD (s2 mulD' (s2 ixD (sW 0) (sC (.int 0))) (s2 ixD (sW 1) (sC (.int 0)))) (vD (s2 mulD' (s2 ixD (sW 0) (sC (.int 1))) (s2 ixD (sW 1) (sC (.int 1)))) vNil))))
section
variable {F:FdS}{Q:PyData->FdS->Prop}{p q:Rat}
theorem ix0:ixD (qd p) (.int 0)=some (.int p.num):=rfl
theorem ix1:ixD (qd p) (.int 1)=some (.int ((p.den:Nat):Int)):=rfl
theorem plus_w (hp:Sz p)(hq:Sz q)(k:Q (qd (p+q)) F):wp (c_plus [.dat (qd p),.dat (qd q)] F) Q:=by
 unfold c_plus
 refine r_run.mpr (r_mRt.mpr (r_sCall.mpr (r_vD.mpr (r_s2.mpr (r_s2.mpr (r_s2.mpr (r_sW.mpr (gW_e rfl (r_sC.mpr (oB_e ix0 (r_s2.mpr (r_sW.mpr (gW_e rfl (r_sC.mpr (oB_e ix1 (oB_e (hp.mul1 hq) ?_))))))))))))))))
 refine r_s2.mpr (r_s2.mpr (r_sW.mpr (gW_e rfl (r_sC.mpr (oB_e ix0 (r_s2.mpr (r_sW.mpr (gW_e rfl (r_sC.mpr (oB_e ix1 (oB_e (hq.mul1 hp) ?_)))))))))))
 refine oB_e e_addI (r_vD.mpr (r_s2.mpr (r_s2.mpr (r_sW.mpr (gW_e rfl (r_sC.mpr (oB_e ix1 (r_s2.mpr (r_sW.mpr (gW_e rfl (r_sC.mpr (oB_e ix1 (oB_e (hp.mul2 hq) (r_vNil.mpr ?_))))))))))))))
 refine frac_n (Nat.mul_pos (den_pos p) (den_pos q)) (hp.dd hq) (run_rt ?_)
 rw [Rat.add_def,Rat.normalize_eq_mkRat] at k
 exact k
theorem minus_w (hp:Sz p)(hq:Sz q)(k:Q (qd (p - q)) F):wp (c_minus [.dat (qd p),.dat (qd q)] F) Q:=by
 unfold c_minus
 refine r_run.mpr (r_mRt.mpr (r_sCall.mpr (r_vD.mpr (r_s2.mpr (r_s2.mpr (r_s2.mpr (r_sW.mpr (gW_e rfl (r_sC.mpr (oB_e ix0 (r_s2.mpr (r_sW.mpr (gW_e rfl (r_sC.mpr (oB_e ix1 (oB_e (hp.mul1 hq) ?_))))))))))))))))
 refine r_s2.mpr (r_s2.mpr (r_sW.mpr (gW_e rfl (r_sC.mpr (oB_e ix0 (r_s2.mpr (r_sW.mpr (gW_e rfl (r_sC.mpr (oB_e ix1 (oB_e (hq.mul1 hp) ?_)))))))))))
 refine oB_e e_subI (r_vD.mpr (r_s2.mpr (r_s2.mpr (r_sW.mpr (gW_e rfl (r_sC.mpr (oB_e ix1 (r_s2.mpr (r_sW.mpr (gW_e rfl (r_sC.mpr (oB_e ix1 (oB_e (hp.mul2 hq) (r_vNil.mpr ?_))))))))))))))
 refine frac_n (Nat.mul_pos (den_pos p) (den_pos q)) (hp.dd hq) (run_rt ?_)
 rw [Rat.sub_def,Rat.normalize_eq_mkRat] at k
 exact k
theorem prod_w (hp:Sz p)(hq:Sz q)(k:Q (qd (p * q)) F):wp (c_times [.dat (qd p),.dat (qd q)] F) Q:=by
 unfold c_times
 refine r_run.mpr (r_mRt.mpr (r_sCall.mpr (r_vD.mpr (r_s2.mpr (r_s2.mpr (r_sW.mpr (gW_e rfl (r_sC.mpr (oB_e ix0 (r_s2.mpr (r_sW.mpr (gW_e rfl (r_sC.mpr (oB_e ix0 (oB_e (hp.mul3 hq) ?_)))))))))))))))
 refine r_vD.mpr (r_s2.mpr (r_s2.mpr (r_sW.mpr (gW_e rfl (r_sC.mpr (oB_e ix1 (r_s2.mpr (r_sW.mpr (gW_e rfl (r_sC.mpr (oB_e ix1 (oB_e (hp.mul2 hq) (r_vNil.mpr ?_)))))))))))))
 refine frac_n (Nat.mul_pos (den_pos p) (den_pos q)) (hp.dd hq) (run_rt ?_)
 rw [Rat.mul_def,Rat.normalize_eq_mkRat] at k
 exact k
end
theorem den_mkRat (a:Int){D:Nat}(hD:D≠0):(mkRat a D).den ∣ D∧∀ M:Nat,a.natAbs≤M * D->(mkRat a D).num.natAbs≤M * (mkRat a D).den:=by
 rw [← Rat.normalize_eq_mkRat hD,Rat.normalize_eq]
 have g1:a.natAbs.gcd D ∣ D:=Nat.gcd_dvd_right ..
 have g2:a.natAbs.gcd D ∣ a.natAbs:=Nat.gcd_dvd_left ..
 have gp:0<a.natAbs.gcd D:=Nat.gcd_pos_of_pos_right _ (Nat.pos_of_ne_zero hD)
 refine ⟨Nat.div_dvd_of_dvd g1,λM h=>?_⟩
 show (a / ((a.natAbs.gcd D:Nat):Int)).natAbs≤M * (D / a.natAbs.gcd D)
 generalize a.natAbs.gcd D=g at *
 obtain ⟨x,hx⟩:=g1
 obtain ⟨y,hy⟩:=g2
 have e1:D / g=x:=by rw [hx];exact Nat.mul_div_cancel_left x gp
 have e2:(a / (g:Int)).natAbs=y:=by
  have hd:(g:Int) ∣ a:=Int.ofNat_dvd_left.mpr ⟨y,hy⟩
  rw [Int.natAbs_ediv_of_dvd hd,hy,Int.natAbs_natCast]
  exact Nat.mul_div_cancel_left y gp
 rw [e1,e2]
 rw [hy,hx] at h
 have h':g * y≤g * (M * x):=by
  have:M * (g * x)=g * (M * x):=by rw [← Nat.mul_assoc,Nat.mul_comm M g,Nat.mul_assoc]
  omega
 exact Nat.le_of_mul_le_mul_left h' gp
structure Qb (D M:Nat) (p:Rat):Prop where
 den:p.den ∣ D
 num:p.num.natAbs≤M * p.den
theorem Qb.as {D M:Nat}{p:Rat}(h:Qb D M p)(hD:D≠0):∃ a:Int,p=mkRat a D∧a.natAbs≤M * D:=by
 obtain ⟨x,hx⟩:=h.den
 refine ⟨p.num * (x:Int),?_,?_⟩
 ·conv=>lhs;rw [← Rat.mkRat_self p]
  rw [Rat.mkRat_eq_iff p.den_nz hD,hx]
  push_cast
  grind
 ·rw [Int.natAbs_mul,Int.natAbs_natCast,hx]
  have:=Nat.mul_le_mul_right x h.num
  rwa [Nat.mul_assoc] at this
theorem Qb.of {D M:Nat}{a:Int}(hD:D≠0)(h:a.natAbs≤M * D):Qb D M (mkRat a D):=⟨(den_mkRat a hD).1,(den_mkRat a hD).2 M h⟩
theorem Qb.add {D M M':Nat}{p q:Rat}(hp:Qb D M p)(hq:Qb D M' q)(hD:D≠0):Qb D (M+M') (p+q):=by
 obtain ⟨a,rfl,ha⟩:=hp.as hD
 obtain ⟨b,rfl,hb⟩:=hq.as hD
 have e:mkRat a D+mkRat b D=mkRat (a+b) D:=by
  rw [Rat.mkRat_add_mkRat _ _ hD hD,Rat.mkRat_eq_iff (Nat.mul_ne_zero hD hD) hD]
  push_cast
  grind
 rw [e]
 refine Qb.of hD ?_
 rw [Nat.add_mul]
 omega
theorem Qb.mul {D D' M M':Nat}{p q:Rat}(hp:Qb D M p)(hq:Qb D' M' q)(hD:D≠0)(hD':D' ≠ 0):Qb (D * D') (M * M') (p * q):=by
 obtain ⟨a,rfl,ha⟩:=hp.as hD
 obtain ⟨b,rfl,hb⟩:=hq.as hD'
 rw [Rat.mkRat_mul_mkRat]
 refine Qb.of (Nat.mul_ne_zero hD hD') ?_
 rw [Int.natAbs_mul]
 have:=Nat.mul_le_mul ha hb
 have e:M * D * (M' * D')=M * M' * (D * D'):=by grind
 omega
theorem Qb.sz {D M:Nat}{p:Rat}(h:Qb D M p)(hD:D≠0)(h1:D<2 ^ 3000)(h2:M<2 ^ 1000):Sz p:=by
 have hle:=Nat.le_of_dvd (Nat.pos_of_ne_zero hD) h.den
 refine ⟨?_,Nat.lt_of_le_of_lt hle (Nat.lt_trans h1 (Nat.pow_lt_pow_right (by decide) (by decide)))⟩
 refine Nat.lt_of_le_of_lt h.num ?_
 have e:(2:Nat) ^ 4000=2 ^ 1000 * 2 ^ 3000:=by rw [← Nat.pow_add]
 rw [e]
 exact Nat.mul_lt_mul'' h2 (Nat.lt_of_le_of_lt hle h1)
end L3
namespace Bz
open PySem L2 L3
variable [Fam]
theorem cutN {α:Type}{l:List α}{n:Nat}:cutL l none (some ((n:Nat):Int))=l.take n:=by
 unfold cutL
 have e:HT.sIx l.length l.length (some ((n:Nat):Int))=min n l.length:=HT.sIx_nat _ _ _
 rw [e,HT.sIx_none,List.drop_zero,Nat.sub_zero]
 rcases Nat.le_total n l.length with h | h
 ·rw [Nat.min_eq_left h]
 ·rw [Nat.min_eq_right h,List.take_of_length_le (Nat.le_refl _),List.take_of_length_le h]
section
variable {xs:List Int}{L T:Nat}{N:Int}
variable {F:FdS}{Q:PyData->FdS->Prop}
end
theorem lot_n {xs:List Int}{h:Nat}:lotAt xs (h:Int)=xs.getD h 0:=by
 unfold lotAt
 split
 ·rw [Int.toNat_natCast]
 ·rename_i hn
  rw [List.getD_eq_getElem?_getD,List.getElem?_eq_none (by omega)];rfl
section
variable {xs:List Int}{L T:Nat}{N:Int}{F:FdS}{Q:PyData->FdS->Prop}
variable {T1:Nat}{N1:Int}
end
section
variable {xs:List Int}{L:Nat}{N S:Int}
end
section
variable {xs:List Int}{L T:Nat}{N:Int}
end
variable [Fam]
theorem r_fCut {a:DE->M PyData}{l u:DE->M (Option Int)}{E:DE}{F:FdS}{Q:List PyData->FdS->Prop}(q:wp (a E F) λx F1=>wp (l E F1) λlo F2=>wp (u E F2) λhi F3=>∃ ds,x = .list ds∧Q (cutL ds lo hi) F3):wp (fCut a l u E F) Q:=by
 unfold fCut
 rw [wp_bind]
 refine wp_mono q λx F1 h=>?_
 rw [wp_bind]
 refine wp_mono h λlo F2 h=>?_
 rw [wp_bind]
 refine wp_mono h λhi F3 h=>?_
 obtain ⟨ds,rfl,q⟩:=h
 exact wp_some.mpr q
theorem cut_last {α:Type}{l:List α}:cutL l none (some (-1))=l.take (l.length - 1):=by
 unfold cutL
 cases l with
 | nil=>rfl
 | cons a r =>
  have e:HT.sIx (a::r).length (a::r).length (some (-1))=r.length:=by
   unfold HT.sIx
   simp
   try omega
  rw [e,HT.sIx_none,List.drop_zero,Nat.sub_zero]
  rfl
theorem put_w {E:DE}{F:FdS}{Q:Out->FdS->Prop}{i:Nat}{v k:DE->M PyData}{zs:List Int}(he:E[i]? = some (some (.own (zs.map .int))))(q:wp (v E F) λx F1=>wp (k E F1) λy F2=>∃ a n:Int,x = .int a∧y = .int n∧0≤n∧n<zs.length∧Q (.nx (E.set i (some (.own ((zs.set n.toNat a).map .int))))) F2):wp (mPut i v k E F) Q:=by
 refine (r_mPut he).mpr (wp_mono q λx F1 h=>wp_mono h λy F2 h=>?_)
 obtain ⟨a,n,rfl,rfl,h0,h1,q⟩:=h
 refine oB_e e_io (oB_e (ixN_n h0 (by rw [List.length_map];exact h1)) ?_)
 rw [List.map_set] at q
 exact q
theorem lc_rngF {mt:DE->M Bool}{me:DE->M PyData}{g:Nat->Bool}{f:Nat->Int}{rest:DE}{F:FdS}{Q:List PyData->FdS->Prop}{n:Nat}{o:Option DV}(h:∀ i,i<n->∀ (F:FdS) (Q:Bool->FdS->Prop),Q (g i) F->wp (mt (some (.dat (.int (i:Nat)))::rest) F) Q)
  (h2:∀ i,i<n->g i=true->∀ (F:FdS) (Q:PyData->FdS->Prop),Q (.int (f i)) F->wp (me (some (.dat (.int (i:Nat)))::rest) F) Q) (q:Q ((((List.range n).filter g).map f).map .int) F):wp (lcGo (bN 0) mt me (rngL 0 n) (o::rest) F) Q:=by
 refine lc_fil (g:=λd=>match d with | .int i=>g i.toNat | _=>false) (f:=λd=>match d with | .int i=>.int (f i.toNat) | d=>d) (rngL 0 n) o (λd hd F Q q=>?_) (λd hd hg F Q q=>?_) ?_
 ·unfold rngL at hd
  obtain ⟨i,hi,rfl⟩:=List.mem_map.mp hd
  rw [Int.zero_add] at *
  refine h i (List.mem_range.mp hi) F Q ?_
  simpa using q
 ·unfold rngL at hd
  obtain ⟨i,hi,rfl⟩:=List.mem_map.mp hd
  rw [Int.zero_add] at *
  refine h2 i (List.mem_range.mp hi) (by simpa using hg) F Q ?_
  simpa using q
 ·unfold rngL
  rw [List.filter_map,List.map_map]
  rw [List.map_map] at q
  have e:((λd=>match d with | PyData.int i=>PyData.int (f i.toNat) | d=>d) ∘ λ(i:Nat)=>PyData.int (0+(i:Int)))=(PyData.int ∘ f):=by
   funext i;simp
  have e2:((λd=>match d with | PyData.int i=>g i.toNat | _=>false) ∘ λ(i:Nat)=>PyData.int (0+(i:Int)))=g:=by
   funext i;simp
  rw [e,e2]
  exact q
theorem to_ints {P:Int->Prop}:∀ {zs:List PyData},(∀ z∈zs,∃ x,z = .int x∧P x)->∃ xs:List Int,zs=xs.map .int∧∀ x∈xs,P x
 | [],_=>⟨[],rfl,λ_ h=>by cases h⟩
 | z::zs,h=>by
  obtain ⟨x,rfl,hx⟩:=h z List.mem_cons_self
  obtain ⟨xs,rfl,hxs⟩:=to_ints λz hz=>h z (List.mem_cons_of_mem _ hz)
  refine ⟨x::xs,rfl,λy hy=>?_⟩
  rcases List.mem_cons.mp hy with rfl | hy
  ·exact hx
  ·exact hxs y hy
noncomputable def Sm12 (xs:List Int):Prop:=∀ x∈xs,0≤x∧x≤12
theorem sum_le:∀ {xs:List Int},Sm12 xs->0≤xs.sum∧xs.sum≤12 * xs.length
 | [],_=>by simp
 | x::xs,h=>by
  obtain ⟨h1,h2⟩:=sum_le λy hy=>h y (List.mem_cons_of_mem _ hy)
  have:=h x List.mem_cons_self
  rw [List.sum_cons,List.length_cons]
  omega
theorem rng2_i {i j:Int}(h0:-(2 ^ 62)≤i)(h1:i<2 ^ 62)(h2:-(2 ^ 62)≤j)(h3:j<2 ^ 62):rngOf2 [.int i,.int j]=some (rngL i (j - i).toNat):=if_pos ⟨h0,h1,h2,h3⟩
theorem rng2_w {a:DE->M (List PyData)}{E:DE}{F:FdS}{Q:List PyData->FdS->Prop}(q:wp (a E F) λx F1=>oB (rngOf2 x) λds=>Q ds F1):wp (mRng2 a E F) Q:=by
 unfold mRng2;rw [wp_bind]
 refine wp_mono q λx F1 h=>?_
 obtain ⟨ds,e,h⟩:=h
 dsimp only
 rw [e,Option.bind_some]
 exact wp_some.mpr h
theorem rng_at {lo:Int}{n i:Nat}{d:PyData}(h:(rngL lo n)[i]? = some d):i<n∧d = .int (lo+i):=by
 have hl:=(List.getElem?_eq_some_iff.mp h).1
 rw [rng_len] at hl
 unfold rngL at h
 rw [List.getElem?_map,List.getElem?_range hl] at h
 cases h
 exact ⟨hl,rfl⟩
variable [Fam]
noncomputable def c_less:List DV->M PyData:=runD ["one","other"] (mRt (s2 ltD (s2 mulD' (s2 ixD (sW 0) (sC (.int 0))) (s2 ixD (sW 1) (sC (.int 1)))) (s2 mulD' (s2 ixD (sW 1) (sC (.int 0))) (s2 ixD (sW 0) (sC (.int 1))))))
noncomputable def c_word_of:List DV->M PyData:=runD ["flow","hands","brought","most"] (mSq (mPar 2 3 (sCons (sCall c_mean (vD (sV 0) vNil)) (sCons (sTup (sCons (sV 1) (sCons (sC (.int 1)) sNil))) sNil)))
  (mSq (mIf (uT (sCall c_less (vD (sV 2) (vD (sV 3) vNil)))) (mRt (sC (.str "rests"))) mNx)
  (mSq (mIf (uT (sCall c_less (vD (sV 3) (vD (sV 2) vNil)))) (mRt (sC (.str "runs"))) mNx)
  (mRt (sIf (uB (s2 (eqD false) (sCall c_share_of (vD (sV 0) (vD (sV 1) vNil))) (sC (.tuple [.int 1,.int 1])))) (sC (.str "still")) (sC (.str "swings")))))))
theorem getD_nn {xs:List Int}(h:∀ x∈xs,0≤x)(k:Nat):0≤xs.getD k 0:=by
 rw [List.getD_eq_getElem?_getD]
 cases e:xs[k]? with
 | none=>simp
 | some x=>exact h x (List.mem_of_getElem? e)
theorem getD_le {xs:List Int}(h:∀ x∈xs,0≤x)(k:Nat):xs.getD k 0≤xs.sum:=by
 rw [List.getD_eq_getElem?_getD]
 cases e:xs[k]? with
 | none=>exact (le_sum h).1
 | some x=>exact (le_sum h).2 x (List.mem_of_getElem? e)
theorem eqT {xs ys:List PyData}(h1:PySem.SeqAt.shaped (.tuple xs)=true)(h2:PySem.SeqAt.shaped (.tuple ys)=true):eqD false (.tuple xs) (.tuple ys)=some (.bool (PyData.eqv (.tuple xs) (.tuple ys))):=by
 unfold eqD;simp [h1,h2]
noncomputable def ans (xs:List Int)(h:Nat)(S:Int):Str:=if wSum (en 0 xs)<(h:Int) * S then "rests" else if (h:Int) * S<wSum (en 0 xs) then "runs" else if xs.getD h 0=S then "still" else "swings"
section
variable {F:FdS}{Q:PyData->FdS->Prop}{xs:List Int}{L h:Nat}{N S:Int}
theorem less_w {a b c d:Int}(ha:a.natAbs<bigN)(hb:b.natAbs<bigN)(hc:c.natAbs<bigN)(hd:d.natAbs<bigN)(q:Q (.bool (decide (a * d<c * b))) F):wp (c_less [.dat (.tuple [.int a,.int b]),.dat (.tuple [.int c,.int d])] F) Q:=by
 unfold c_less
 walk_at "go"
 refine oB_e (mul_b ha hd) ?_
 walk_at "go"
 refine oB_e (mul_b hc hb) ?_
 walk_at "go"
 exact q
theorem wsum_big (hf:Fl xs L N S)(hL:L≤1000):(wSum (en 0 xs)).natAbs<bigN:=by
 have key:∀ {ps:List (Int×Int)},(∀ p∈ps,0≤p.1∧p.1≤1000∧0≤p.2)->0≤wSum ps∧wSum ps≤1000 * lSum ps:=by
  intro ps
  induction ps with
  | nil=>intro _;simp [wSum,lSum]
  | cons p ps ih =>
   intro h
   obtain ⟨h1,h2⟩:=ih λp hp=>h p (List.mem_cons_of_mem _ hp)
   obtain ⟨a,b,c⟩:=h p List.mem_cons_self
   simp only [wSum,lSum,List.map_cons,List.sum_cons] at *
   have h3:=Int.mul_le_mul_of_nonneg_right b c
   have h4:=Int.mul_nonneg a c
   omega
 have hl:=hf.len
 obtain ⟨a,b⟩:=key (ps:=en 0 xs) λp hp=>by
  obtain ⟨a,b,c⟩:=en_mem hp
  exact ⟨b,by omega,hf.nn _ a⟩
 rw [en_l,hf.s] at b
 refine Nat.lt_of_lt_of_le (m:=2 ^ 500) ?_ (bigN_ge (by decide))
 have:(1000 * bB).natAbs<2 ^ 500:=by decide +kernel
 have:=hf.hi
 omega
theorem one_iff {t b lot:Int}(hl:Low lot S t b)(hs:1≤S):(t=1∧b=1)↔lot=S:=by
 obtain ⟨h1,h2,h3,_,_⟩:=hl
 constructor
 ·rintro ⟨rfl,rfl⟩;omega
 ·intro e
  subst e
  rw [Int.mul_comm lot b] at h3
  have:t=b:=Int.eq_of_mul_eq_mul_right (by omega) h3
  subst this
  rw [Int.gcd_self] at h2
  omega
theorem lt_iff {t b w:Int}{j:Int}(hl:Low w S t b)(hs:1≤S):(t<j * b↔w<j * S)∧(j * b<t↔j * S<w):=by
 obtain ⟨h1,h2,h3,_,_⟩:=hl
 have e1:(t - j * b) * S=(w - j * S) * b:=by grind
 have p1:∀ x:Int,(x * S<0↔x<0)∧(0<x * S↔0<x):=λx=>by
  refine ⟨⟨λz=>?_,λz=>Int.mul_neg_of_neg_of_pos z (by omega)⟩,⟨λz=>?_,λz=>Int.mul_pos z (by omega)⟩⟩
  ·rcases Int.lt_or_le x 0 with y | y
   ·exact y
   ·have:=Int.mul_nonneg y (show 0≤S by omega);omega
  ·rcases Int.lt_or_le 0 x with y | y
   ·exact y
   ·have:=Int.mul_nonneg (show 0 ≤ -x by omega) (show 0≤S by omega)
    rw [Int.neg_mul] at this;omega
 have p2:∀ x:Int,(x * b<0↔x<0)∧(0<x * b↔0<x):=λx=>by
  refine ⟨⟨λz=>?_,λz=>Int.mul_neg_of_neg_of_pos z (by omega)⟩,⟨λz=>?_,λz=>Int.mul_pos z (by omega)⟩⟩
  ·rcases Int.lt_or_le x 0 with y | y
   ·exact y
   ·have:=Int.mul_nonneg y (show 0≤b by omega);omega
  ·rcases Int.lt_or_le 0 x with y | y
   ·exact y
   ·have:=Int.mul_nonneg (show 0 ≤ -x by omega) (show 0≤b by omega)
    rw [Int.neg_mul] at this;omega
 have a1:=p1 (t - j * b)
 have a2:=p2 (w - j * S)
 rw [e1] at a1
 constructor
 ·constructor
  ·intro z;have:=a2.1.mp (a1.1.mpr (by omega));omega
  ·intro z;have:=a1.1.mp (a2.1.mpr (by omega));omega
 ·constructor
  ·intro z;have:=a2.2.mp (a1.2.mpr (by omega));omega
  ·intro z;have:=a1.2.mp (a2.2.mpr (by omega));omega
theorem gdi {i:Int}(h:i.natAbs≤bB.natAbs):Gd 0 1 0 (.int i):=gd_int (Nat.lt_of_le_of_lt h (by decide +kernel))
theorem word_w (hf:Fl xs L N S)(hL:L≤1000)(hh:h≤3)(q:Q (.str (ans xs h S)) F):wp (c_word_of [.dat (fT xs),.dat (.int (h:Nat))] F) Q:=by
 have hsp:=hf.sp
 have hhi:=hf.hi
 have hB:=bB_pos
 unfold c_word_of
 refine r_run.mpr (r_mSq.mpr (par_w (r_sCons.mpr (r_sCall.mpr (r_vD.mpr (r_sV.mpr (gD_e rfl (r_vNil.mpr ?_))))))))
 refine mean_w hf hL λt b hb=>?_
 have ht:=Nat.lt_of_le_of_lt hb.lt (wsum_big hf hL)
 have hb2:=Nat.lt_of_le_of_lt hb.lb (lt_big (x:=S) (by omega) hhi)
 have hhb:((h:Nat):Int).natAbs<bigN:=lt_big (by omega) (by omega)
 have h1b:(1:Int).natAbs<bigN:=lt_big (by decide) (by omega)
 obtain ⟨i1,i2⟩:=lt_iff (j:=(h:Int)) hb hsp
 refine r_sCons.mpr (r_sTup.mpr (r_sCons.mpr (r_sV.mpr (gD_e rfl (r_sCons.mpr (r_sC.mpr (r_sNil.mpr ⟨sz (by simp),r_sNil.mpr ⟨_,_,rfl,lt_len rfl,lt_len rfl,sq_nx ?_⟩⟩)))))))
 refine r_mSq.mpr (r_mIf.mpr (r_uT.mpr (r_sCall.mpr (r_vD.mpr (r_sV.mpr (gD_e rfl (r_vD.mpr (r_sV.mpr (gD_e rfl (r_vNil.mpr ?_))))))))))
 refine less_w ht hb2 hhb h1b ?_
 rw [Int.mul_one]
 refine oB_e rfl (cIf_2 (λe=>?_) (λe=>?_))
 ·have e:=of_decide_eq_true e
  refine r_mRt.mpr (r_sC.mpr (sq_rt (run_rt ?_)))
  unfold ans at q
  rwa [if_pos (i1.mp e)] at q
 ·have e:=of_decide_eq_false e
  refine r_mNx.mpr (sq_nx (r_mSq.mpr (r_mIf.mpr (r_uT.mpr (r_sCall.mpr (r_vD.mpr (r_sV.mpr (gD_e rfl (r_vD.mpr (r_sV.mpr (gD_e rfl (r_vNil.mpr ?_))))))))))))
  refine less_w hhb h1b ht hb2 ?_
  rw [Int.mul_one]
  refine oB_e rfl (cIf_2 (λe2=>?_) (λe2=>?_))
  ·have e2:=of_decide_eq_true e2
   refine r_mRt.mpr (r_sC.mpr (sq_rt (run_rt ?_)))
   unfold ans at q
   rwa [if_neg (λz=>e (i1.mpr z)),if_pos (i2.mp e2)] at q
  ·have e2:=of_decide_eq_false e2
   unfold ans at q
   rw [if_neg (λz=>e (i1.mpr z)),if_neg (λz=>e2 (i2.mpr z))] at q
   refine r_mNx.mpr (sq_nx (r_mRt.mpr (r_sIf.mpr (r_uB.mpr (r_s2.mpr (r_sCall.mpr (r_vD.mpr (r_sV.mpr (gD_e rfl (r_vD.mpr (r_sV.mpr (gD_e rfl (r_vNil.mpr ?_)))))))))))))
   refine share_w hf λt' b' hb'=>?_
   rw [lot_n] at hb'
   have io:=one_iff hb' hsp
   have hle:=getD_le hf.nn h
   have hnn:=getD_nn hf.nn h
   rw [hf.s] at hle
   have l1:=hb'.lt
   have l2:=hb'.lb
   have sh:PySem.SeqAt.shaped (.tuple [.int t',.int b'])=true:=by
    refine Gd.shaped (n:=0) (N:=3) (k:=1) (Gd.tup (M:=1) (λd hd=>?_) (by simp [cntL,cnt])) (by decide) (by decide)
    simp only [List.mem_cons,List.not_mem_nil,or_false] at hd
    rcases hd with rfl | rfl
    ·exact gdi (by omega)
    ·exact gdi (by omega)
   refine r_sC.mpr (oB_e (eqT sh rfl) ?_)
   have ee:PyData.eqv (.tuple [.int t',.int b']) (.tuple [.int 1,.int 1])=decide (xs.getD h 0=S):=by
    by_cases z:xs.getD h 0=S
    ·obtain ⟨z1,z2⟩:=io.mpr z
     rw [decide_eq_true z,z1,z2];rfl
    ·rw [decide_eq_false z]
     have:¬ (t' = 1∧b' = 1):=λy=>z (io.mp y)
     simp only [PyData.eqv,PyData.eqvAll,Bool.and_true]
     simpa using this
   rw [ee]
   refine oB_e rfl (cIf_2 (λe3=>?_) (λe3=>?_))
   ·rw [if_pos (of_decide_eq_true e3)] at q
    exact r_sC.mpr (run_rt q)
   ·rw [if_neg (of_decide_eq_false e3)] at q
    exact r_sC.mpr (run_rt q)
end
variable [Fam]
noncomputable def c_over:List DV->M PyData:=runD ["one","other"] (mRt (sCall c_fraction (vD (s2 mulD' (s2 ixD (sW 0) (sC (.int 0))) (s2 ixD (sW 1) (sC (.int 1)))) (vD (s2 mulD' (s2 ixD (sW 0) (sC (.int 1))) (s2 ixD (sW 1) (sC (.int 0)))) vNil))))
section
variable {F:FdS}{Q:PyData->FdS->Prop}{p q:Rat}
theorem over_w (hp:Sz p)(hq:Sz q)(h0:0<q)(k:Q (qd (p / q)) F):wp (c_over [.dat (qd p),.dat (qd q)] F) Q:=by
 have hn:0<q.num:=by
  have:=(Rat.lt_iff 0 q).mp h0
  simpa using this
 have hd:=den_pos p
 unfold c_over
 refine r_run.mpr (r_mRt.mpr (r_sCall.mpr (r_vD.mpr (r_s2.mpr (r_s2.mpr (r_sW.mpr (gW_e rfl (r_sC.mpr (oB_e ix0 (r_s2.mpr (r_sW.mpr (gW_e rfl (r_sC.mpr (oB_e ix1 (oB_e (Sz.mul1 hp hq) ?_)))))))))))))))
 refine r_vD.mpr (r_s2.mpr (r_s2.mpr (r_sW.mpr (gW_e rfl (r_sC.mpr (oB_e ix1 (r_s2.mpr (r_sW.mpr (gW_e rfl (r_sC.mpr (oB_e ix0 (oB_e (mul_b (p4 (by have:=hp.den;omega)) (p4 hq.num)) (r_vNil.mpr ?_)))))))))))))
 have hj:0<((p.den:Nat):Int) * q.num:=Int.mul_pos (by omega) hn
 refine frac_q hj ?_ ?_
 ·rw [Int.natAbs_mul,Int.natAbs_natCast]
  have a:=Nat.mul_lt_mul'' hp.den hq.num
  rw [← Nat.pow_add] at a
  exact Nat.lt_of_lt_of_le a (Nat.pow_le_pow_right (by decide) (by decide))
 ·have e:mkRat (p.num * ((q.den:Nat):Int)) (((p.den:Nat):Int) * q.num).toNat=p / q:=by
   have e1:(((p.den:Nat):Int) * q.num).toNat=p.den * q.num.toNat:=by
    have:(((p.den:Nat):Int) * q.num)=((p.den * q.num.toNat:Nat):Int):=by push_cast;rw [Int.toNat_of_nonneg (by omega)]
    rw [this,Int.toNat_natCast]
   have hqn:q≠0:=λz=>by rw [z] at h0;exact absurd h0 (by decide)
   rw [e1,Rat.mkRat_eq_div]
   have ep:p * (p.den:Rat)=(p.num:Rat):=by
    have sf:=Rat.mkRat_self p
    rw [Rat.mkRat_eq_div] at sf
    have hd0:(p.den:Rat)≠0:=by exact_mod_cast p.den_nz
    have tt:=Rat.div_mul_cancel (a:=(p.num:Rat)) hd0
    rw [sf] at tt
    exact tt
   have eq:q * (q.den:Rat)=(q.num:Rat):=by
    have sf:=Rat.mkRat_self q
    rw [Rat.mkRat_eq_div] at sf
    have hd0:(q.den:Rat)≠0:=by exact_mod_cast q.den_nz
    have tt:=Rat.div_mul_cancel (a:=(q.num:Rat)) hd0
    rw [sf] at tt
    exact tt
   have en:((q.num.toNat:Nat):Rat)=(q.num:Rat):=by
    have:((q.num.toNat:Nat):Int)=q.num:=Int.toNat_of_nonneg (by omega)
    exact_mod_cast congrArg (λz:Int=>(z:Rat)) this
   push_cast
   rw [en]
   have hpd:(p.den:Rat)≠0:=by exact_mod_cast p.den_nz
   have hqd:(q.den:Rat)≠0:=by exact_mod_cast q.den_nz
   have hqn0:(q.num:Rat)≠0:=by exact_mod_cast (show q.num≠0 by omega)
   have hz:(p.den:Rat) * (q.num:Rat)≠0:=λz=>(Rat.mul_eq_zero.mp z).elim hpd hqn0
   have a1:=Rat.div_mul_cancel (a:=(p.num:Rat) * (q.den:Rat)) hz
   have a2:=Rat.div_mul_cancel (a:=p) hqn
   have key:((p.num:Rat) * (q.den:Rat) / ((p.den:Rat) * (q.num:Rat)) - p / q) * ((p.den:Rat) * (q.num:Rat))=0:=by
    generalize hy:p / q=y at *
    generalize (p.num:Rat) * (q.den:Rat) / ((p.den:Rat) * (q.num:Rat))=z at *
    have:y * ((p.den:Rat) * (q.num:Rat))=(p.num:Rat) * (q.den:Rat):=by
     rw [← ep,← eq,← a2]
     grind
    grind
   rcases Rat.mul_eq_zero.mp key with z | z
   ·grind
   ·exact absurd z hz
  rw [e]
  exact run_rt k
end
end Bz
namespace L3
open PySem PySem.W PySem.Spec PyProof.Rows L2
section
variable [Feeds]{K:Frag}{mg:Str->Option Value}{Wt C0:Addr}{nm0:Str}{cl:List Addr}{i fi:Nat}{its:List (Sum Str Str)}
noncomputable def tsB (K:Frag)(i fi:Nat)(its:List (Sum Str Str)):Addr->Addr->List (Str×V)->TS:=λe C fs=>tAsg (tTup (tIts K C fs e i its)) (gName fi)
noncomputable def hdB (nm0:Str)(i fi:Nat)(its:List (Sum Str Str)):Str->List PyData->DE->Option DE:=λnm fs E=>if nm=nm0∧isHole E i=true then (itD ((psT nm0).zip fs) its).bind λds=>bN fi (.tuple ds) E else none
theorem su_B (ef:EFit K mg Wt nm0 cl C0)(hif:i≠fi)(hjl:its.length≤100)(hb:(its.all λz=>match z with | .inr f=>(psT nm0).contains f | .inl _=>true)=true):SuD K mg (λC=>C=C0) i (tsB K i fi its) (hdB nm0 i fi its):=by
 have hits:∀ f,.inr f∈its->f∈psT nm0:=λf hf=>by
  have z:=List.all_eq_true.mp hb (.inr f) hf
  exact List.contains_iff_mem.mp z
 intro G B B0 H0 E F σ H D nm C fs vs E1 e S s sn I hm hd hE he q
 unfold hdB at hE
 split at hE
 ·rename_i hc
  obtain ⟨rfl,hh⟩:=hc
  have hh:=isHole_of hh
  obtain ⟨ds,h1,h3⟩:=Option.bind_eq_some_iff.mp hE
  have eC:C=C0:=by have z:=hm.symm.trans ef.mgc;cases z;rfl
  subst eC
  refine ⟨rfl,?_⟩
  obtain ⟨ws,w1,w2⟩:=its_dat hd h1
  have hil:i < σ.length:=by rw [← I.ln];exact (List.getElem?_eq_some_iff.mp hh).1
  have S2:=S.hole hh (some (.ref e))
  have I2:=I.hole hh (some (.ref e))
  refine ⟨List.getElem?_set_self hil,λf hf=>ef.nof f (hits f hf),ws,w1,?_,λp2 hp2=>?_⟩
  ·rw [sizeLine_eq,itV_len w1];omega
  have kp2:Kp (fpOf K G) H (upd H p2 (.tup ws)):=Kp.upd hp2
  have f2:FAt K G (upd H p2 (.tup ws)) F:=I.fd.same (Same.upd hp2)
  have w3:DatIs K (hid (upd H p2 (.tup ws)) B) (.tuple ds) (.ref p2):=new_tup I2.bk hp2 w2
  refine name_d fi G B E F _ _ _ _ E1 _ (I2.step kp2 f2) w3 h3 λσ3 I3 fr3=>?_
  exact q _ _ (((S2.step kp2 f2).bind s sn I3 fr3).hole ((bN_other h3 hif).trans hh) none)
 ·cases hE
end
section
variable {X:Cx}{e C:Addr}{fs:List (Str×V)}{i fi:Nat}{its:List (Sum Str Str)}{z:Str}{ies:List Expr}{r1 r2 r3:Pos}{k2}
theorem pss_B (hits:PA X ies (tIts X.K C fs e i its))(hNd:X.N.Nodup)(hfi:X.N[fi]? = some z:=by rfl)(hz:X.env.scope.names.lookup z=some .local:=by rfl)
  (s2:swapsWith (.Tuple ies k2 r2) (some (.Name z r1)) r3.line X.env=pure false:=by rfl):PSs X [.Assign [.Name z r1] (.Tuple ies k2 r2) r3] (tsB X.K i fi its e C fs) :=
 pss_one (ps_set hNd hfi (.inl hz) (pe_tup hits) s2 (.inr hz))
end
noncomputable def ExS (K:Frag)(mg:Str->Option Value)(nm:Str):Prop:=∃ C,mg nm=some (.ref C)∧exmOne K (.ref C) (.ref C)=some true
end L3
namespace K62
open PySem L2 L3
noncomputable def top (i:Nat):Stmt:=PySem.Challenge.pw_hatchwaits_k62_whole_steps_stay.main.body.getD i (.Pass ⟨0,0,0,0⟩)
noncomputable instance famI:Fam:=famL []
noncomputable abbrev s_is_number:Stmt:=top 5
noncomputable abbrev s_is_number_from:Stmt:=top 6
noncomputable abbrev s_is_tuple_of:Stmt:=top 7
noncomputable abbrev s_common_divisor:Stmt:=top 9
noncomputable abbrev s_is_fraction:Stmt:=top 10
noncomputable abbrev s_fraction:Stmt:=top 11
noncomputable abbrev s_plus:Stmt:=top 12
noncomputable abbrev s_minus:Stmt:=top 13
noncomputable abbrev s_times:Stmt:=top 14
noncomputable abbrev s_over:Stmt:=top 15
noncomputable abbrev s_less:Stmt:=top 16
noncomputable abbrev s_mean_of:Stmt:=top 17
noncomputable abbrev s_total:Stmt:=top 21
noncomputable abbrev s_share_of:Stmt:=top 22
noncomputable abbrev s_mean:Stmt:=top 23
noncomputable abbrev s_second:Stmt:=top 24
noncomputable abbrev s_going_above:Stmt:=top 26
noncomputable abbrev s_word_of:Stmt:=top 28
noncomputable abbrev s_check_rests:Stmt:=top 29
noncomputable abbrev s_lacking:Stmt:=top 30
noncomputable abbrev s_mean_standing:Stmt:=top 31
noncomputable abbrev s_step_row:Stmt:=top 33
noncomputable abbrev s_check_shape:Stmt:=top 35
noncomputable abbrev s_lets_steps:Stmt:=top 36
noncomputable abbrev s__law_feed:Stmt:=top 38
noncomputable abbrev s__law_draw:Stmt:=top 39
noncomputable abbrev s__law_flow:Stmt:=top 40
noncomputable abbrev s__law_stays:Stmt:=top 41
noncomputable abbrev s__law_sums_right:Stmt:=top 42
noncomputable abbrev s__law_lets:Stmt:=top 43
noncomputable abbrev s_law:Stmt:=top 44
noncomputable abbrev ini_NoPaper:Stmt:=clsInit (top 2)
theorem it_NoPaper:IniTxt ini_NoPaper "NoPaper.__init__" ["word","number"]:=⟨⟨rfl,rfl,rfl,by decide +kernel,rfl,by decide +kernel,by decide +kernel⟩,by decide +kernel,(.cons (.cons .nil)),by decide,by decide,λ_ _ _ _ _ _ us hl=>match us,hl with | [_,_,_],_=>rfl⟩
structure Txt (K:PySem.W.Frag) (mg:Str->Option Value):Prop where
 abs:mg "abs" = none
 bool:mg "bool" = none
 enumerate:mg "enumerate" = none
 int:mg "int" = none
 isinstance:mg "isinstance" = none
 len:mg "len" = none
 list:mg "list" = none
 max:mg "max" = none
 min:mg "min" = none
 range:mg "range" = none
 repr:mg "repr" = none
 sum:mg "sum" = none
 tuple:mg "tuple" = none
 g_NOUGHT:GD K mg "NOUGHT" (.tuple [.int 0,.int 1])
 g_ONE:GD K mg "ONE" (.tuple [.int 1,.int 1])
 err_NoPaper:ErrT K mg "WaitError" "NoPaper" []
 exs_NoPaper:ExS K mg "NoPaper"
noncomputable section
variable {P:Program}{w:World}{K:PySem.W.Frag}{mg:Str->Option Value}{base:Heap}
theorem sc_is_number:FnScope ["thing"] ["thing"] (defScope s_is_number):=⟨rfl,rfl,rfl,by decide +kernel,rfl,by decide +kernel,by decide +kernel⟩
noncomputable def f_is_number:List DV->M PyData:=runD ["thing"] (mRt (sAnd (s1 (isinD "int") (sW 0)) (sNot (s1 (isinD "bool") (sW 0)))))
theorem ok_is_number {f:Addr}{fd:FuncData}(Fn:Fun K "is_number" "is_number" s_is_number f fd)(T:Txt K mg) :FnOk P w K mg base CX0 1 f fd ["thing"] (spD K 1 f_is_number):=by
 refine def_ok Fn sc_is_number λcdv A outer s H E hr=>?_
 have hu5:(A.deeper (PyProof.Rows.envOfC "is_number" (defScope s_is_number) s.heap.objs.size f cdv)).units+65<cLine:=by have:=hr.un;omega
 exact ⟨_,(ss_one (st_ret (ev_and (ev_isin "int" (eb_v 0) (by decide) T.isinstance T.int bt_int) (ev_one (ev_not (ev_isin "bool" (eb_v 0) (by decide) T.isinstance T.bool bt_bool))))))⟩
theorem sc_is_number_from:FnScope ["least","thing"] ["least","thing"] (defScope s_is_number_from):=⟨rfl,rfl,rfl,by decide +kernel,rfl,by decide +kernel,by decide +kernel⟩
noncomputable def f_is_number_from:List DV->M PyData:=runD ["least","thing"] (mRt (sAnd (sCall f_is_number (vD (sV 1) vNil)) (s2 geD (sW 1) (sW 0))))
theorem ok_is_number_from {f:Addr}{fd:FuncData}(Fn:Fun K "is_number_from" "is_number_from" s_is_number_from f fd)(T:Txt K mg)(C_is_number:Callee P w K mg base "is_number" 1 ["thing"] (spD K 1 f_is_number)):FnOk P w K mg base CX0 2 f fd ["least","thing"] (spD K 2 f_is_number_from):=by
 refine def_ok Fn sc_is_number_from λcdv A outer s H E hr=>?_
 have hu5:(A.deeper (PyProof.Rows.envOfC "is_number_from" (defScope s_is_number_from) s.heap.objs.size f cdv)).units+65<cLine:=by have:=hr.un;omega
 exact ⟨_,(ss_one (st_ret (ev_and (ev_call C_is_number (hr.mono (by decide)) (av_d (ev_v 1) av_nil) (ln_d ln_nil)) (ev_one (ev_cmp od_ge (eb_v 1) (eb_v 0))))))⟩
theorem sc_is_tuple_of:FnScope ["many","thing"] ["many","thing"] (defScope s_is_tuple_of):=⟨rfl,rfl,rfl,by decide +kernel,rfl,by decide +kernel,by decide +kernel⟩
noncomputable def f_is_tuple_of:List DV->M PyData:=runD ["many","thing"] (mRt (sAnd (s1 (isinD "tuple") (sW 1)) (s2 (eqD false) (sN lenD (sCons (sW 1) sNil)) (sW 0))))
theorem ok_is_tuple_of {f:Addr}{fd:FuncData}(Fn:Fun K "is_tuple_of" "is_tuple_of" s_is_tuple_of f fd)(T:Txt K mg) :FnOk P w K mg base CX0 1 f fd ["many","thing"] (spD K 2 f_is_tuple_of):=by
 refine def_ok Fn sc_is_tuple_of λcdv A outer s H E hr=>?_
 have hu5:(A.deeper (PyProof.Rows.envOfC "is_tuple_of" (defScope s_is_tuple_of) s.heap.objs.size f cdv)).units+65<cLine:=by have:=hr.un;omega
 exact ⟨_,(ss_one (st_ret (ev_and (ev_isin "tuple" (eb_v 1) (by decide) T.isinstance T.tuple bt_tuple) (ev_one (ev_cmp (od_eq rfl hr.units) (Ev.bw (ev_callB (cd_len rfl) T.len bt_len (es_cons (eb_v 1) es_nil))) (eb_v 0))))))⟩
theorem sc_common_divisor:FnScope ["one","other"] ["one","other"] (defScope s_common_divisor):=⟨rfl,rfl,rfl,by decide +kernel,rfl,by decide +kernel,by decide +kernel⟩
noncomputable def f_common_divisor:List DV->M PyData:=runD ["one","other"] (mSq (mPar 0 1 (sCons (sN absD (sCons (sW 0) sNil)) (sCons (sN absD (sCons (sW 1) sNil)) sNil)))
  (mSq (mWh (uB (s2 gtD (sW 1) (sC (.int 0)))) (mPar 0 1 (sCons (sV 1) (sCons (s2 modD (sW 0) (sW 1)) sNil))))
  (mRt (sV 0))))
theorem ok_common_divisor {f:Addr}{fd:FuncData}(Fn:Fun K "common_divisor" "common_divisor" s_common_divisor f fd)(T:Txt K mg) :FnOk P w K mg base CX0 1 f fd ["one","other"] (spD K 2 f_common_divisor):=by
 refine def_ok Fn sc_common_divisor λcdv A outer s H E hr=>?_
 have hu5:(A.deeper (PyProof.Rows.envOfC "common_divisor" (defScope s_common_divisor) s.heap.objs.size f cdv)).units+65<cLine:=by have:=hr.un;omega
 exact ⟨_,(ss_cons (st_par 0 1 rfl sc_common_divisor.nd (ea_cons (ev_callB (cd_abs) T.abs bt_abs (es_cons (eb_v 0) es_nil)) (ea_cons (ev_callB (cd_abs) T.abs bt_abs (es_cons (eb_v 1) es_nil)) ea_nil)))
   (ss_cons (st_while (et_cmp od_gt (eb_v 1) (Ev.bw ev_int)) (ss_one (st_par 0 1 rfl sc_common_divisor.nd (ea_cons (ev_v 1) (ea_cons (ev_op od_mod (eb_v 0) (eb_v 1)) ea_nil)))))
   (ss_one (st_ret (ev_v 0)))))⟩
theorem sc_is_fraction:FnScope ["thing","top","bottom"] ["thing"] (defScope s_is_fraction):=⟨rfl,rfl,rfl,by decide +kernel,rfl,by decide +kernel,by decide +kernel⟩
noncomputable def f_is_fraction:List DV->M PyData:=runD ["thing","top","bottom"] (mSq (mIf (uNot (uT (sCall f_is_tuple_of (vD (sC (.int 2)) (vD (sV 0) vNil))))) (mRt (sC (.bool false))) mNx)
  (mSq (mAsg (bTup 2 (bCons (bN 1) (bCons (bN 2) bNil))) (sV 0))
  (mRt (sAnd (sCall f_is_number (vD (sV 1) vNil)) (sAnd (sCall f_is_number_from (vD (sC (.int 1)) (vD (sV 2) vNil))) (s2 (eqD false) (sCall f_common_divisor (vD (sV 1) (vD (sV 2) vNil))) (sC (.int 1))))))))
theorem ok_is_fraction {f:Addr}{fd:FuncData}(Fn:Fun K "is_fraction" "is_fraction" s_is_fraction f fd)(T:Txt K mg)(C_is_tuple_of:Callee P w K mg base "is_tuple_of" 1 ["many","thing"] (spD K 2 f_is_tuple_of))(C_is_number:Callee P w K mg base "is_number" 1 ["thing"] (spD K 1 f_is_number))(C_is_number_from:Callee P w K mg base "is_number_from" 2 ["least","thing"] (spD K 2 f_is_number_from))(C_common_divisor:Callee P w K mg base "common_divisor" 1 ["one","other"] (spD K 2 f_common_divisor)):FnOk P w K mg base CX0 3 f fd ["thing"] (spD K 1 f_is_fraction):=by
 refine def_ok Fn sc_is_fraction λcdv A outer s H E hr=>?_
 have hu5:(A.deeper (PyProof.Rows.envOfC "is_fraction" (defScope s_is_fraction) s.heap.objs.size f cdv)).units+65<cLine:=by have:=hr.un;omega
 exact ⟨_,(ss_cons (st_if (et_not (et_val (Ev.bw (ev_call C_is_tuple_of (hr.mono (by decide)) (av_d ev_int (av_d (ev_v 0) av_nil)) (ln_d (ln_d ln_nil)))))) (ss_one (st_ret ev_bl)) ss_nil)
   (ss_cons (st_asg (ev_v 0) (eg_tup (n:=2) rfl (egs_cons (eg_n (i:=1) sc_is_fraction.nd) (egs_cons (eg_n (i:=2) sc_is_fraction.nd) egs_nil))))
   (ss_one (st_ret (ev_and (ev_call C_is_number (hr.mono (by decide)) (av_d (ev_v 1) av_nil) (ln_d ln_nil)) (ev_and (ev_call C_is_number_from (hr.mono (by decide)) (av_d ev_int (av_d (ev_v 2) av_nil)) (ln_d (ln_d ln_nil))) (ev_one (ev_cmp (od_eq rfl hr.units) (Ev.bw (ev_call C_common_divisor (hr.mono (by decide)) (av_d (ev_v 1) (av_d (ev_v 2) av_nil)) (ln_d (ln_d ln_nil)))) (Ev.bw ev_int)))))))))⟩
theorem sc_fraction:FnScope ["top","bottom","divisor"] ["top","bottom"] (defScope s_fraction):=⟨rfl,rfl,rfl,by decide +kernel,rfl,by decide +kernel,by decide +kernel⟩
noncomputable def f_fraction:List DV->M PyData:=runD ["top","bottom","divisor"] (mSq (mSet 2 (sCall f_common_divisor (vD (sV 0) (vD (sV 1) vNil))))
  (mSq (mIf (uB (s2 ltD (sW 1) (sC (.int 0)))) (mSet 2 (s1 negD (sW 2))) mNx)
  (mRt (sTup (sCons (s2 fdivD (sW 0) (sW 2)) (sCons (s2 fdivD (sW 1) (sW 2)) sNil))))))
theorem ok_fraction {f:Addr}{fd:FuncData}(Fn:Fun K "fraction" "fraction" s_fraction f fd)(T:Txt K mg)(C_common_divisor:Callee P w K mg base "common_divisor" 1 ["one","other"] (spD K 2 f_common_divisor)):FnOk P w K mg base CX0 2 f fd ["top","bottom"] (spD K 2 f_fraction):=by
 refine def_ok Fn sc_fraction λcdv A outer s H E hr=>?_
 have hu5:(A.deeper (PyProof.Rows.envOfC "fraction" (defScope s_fraction) s.heap.objs.size f cdv)).units+65<cLine:=by have:=hr.un;omega
 exact ⟨_,(ss_cons (st_set 2 sc_fraction.nd (ev_call C_common_divisor (hr.mono (by decide)) (av_d (ev_v 0) (av_d (ev_v 1) av_nil)) (ln_d (ln_d ln_nil))))
   (ss_cons (st_if (et_cmp od_lt (eb_v 1) (Ev.bw ev_int)) (ss_one (st_set 2 sc_fraction.nd (ev_un ud_neg (eb_v 2)))) ss_nil)
   (ss_one (st_ret (ev_tup (ea_cons (ev_op od_fdiv (eb_v 0) (eb_v 2)) (ea_cons (ev_op od_fdiv (eb_v 1) (eb_v 2)) ea_nil)))))))⟩
theorem sc_plus:FnScope ["one","other"] ["one","other"] (defScope s_plus):=⟨rfl,rfl,rfl,by decide +kernel,rfl,by decide +kernel,by decide +kernel⟩
noncomputable def f_plus:List DV->M PyData:=runD ["one","other"] (mRt (sCall f_fraction (vD (s2 addD (s2 mulD' (s2 ixD (sW 0) (sC (.int 0))) (s2 ixD (sW 1) (sC (.int 1)))) (s2 mulD' (s2 ixD (sW 1) (sC (.int 0))) (s2 ixD (sW 0) (sC (.int 1))))) (vD (s2 mulD' (s2 ixD (sW 0) (sC (.int 1))) (s2 ixD (sW 1) (sC (.int 1)))) vNil))))
theorem ok_plus {f:Addr}{fd:FuncData}(Fn:Fun K "plus" "plus" s_plus f fd)(T:Txt K mg)(C_fraction:Callee P w K mg base "fraction" 2 ["top","bottom"] (spD K 2 f_fraction)):FnOk P w K mg base CX0 3 f fd ["one","other"] (spD K 2 f_plus):=by
 refine def_ok Fn sc_plus λcdv A outer s H E hr=>?_
 have hu5:(A.deeper (PyProof.Rows.envOfC "plus" (defScope s_plus) s.heap.objs.size f cdv)).units+65<cLine:=by have:=hr.un;omega
 exact ⟨_,(ss_one (st_ret (ev_call C_fraction (hr.mono (by decide)) (av_d (ev_op (od_add rfl) (Ev.bw (ev_op (od_mul' rfl) (Ev.bw (ev_ix (id_ix rfl) (eb_v 0) (Ev.bw ev_int))) (Ev.bw (ev_ix (id_ix rfl) (eb_v 1) (Ev.bw ev_int))))) (Ev.bw (ev_op (od_mul' rfl) (Ev.bw (ev_ix (id_ix rfl) (eb_v 1) (Ev.bw ev_int))) (Ev.bw (ev_ix (id_ix rfl) (eb_v 0) (Ev.bw ev_int)))))) (av_d (ev_op (od_mul' rfl) (Ev.bw (ev_ix (id_ix rfl) (eb_v 0) (Ev.bw ev_int))) (Ev.bw (ev_ix (id_ix rfl) (eb_v 1) (Ev.bw ev_int)))) av_nil)) (ln_d (ln_d ln_nil)))))⟩
theorem sc_minus:FnScope ["one","other"] ["one","other"] (defScope s_minus):=⟨rfl,rfl,rfl,by decide +kernel,rfl,by decide +kernel,by decide +kernel⟩
noncomputable def f_minus:List DV->M PyData:=runD ["one","other"] (mRt (sCall f_fraction (vD (s2 subD (s2 mulD' (s2 ixD (sW 0) (sC (.int 0))) (s2 ixD (sW 1) (sC (.int 1)))) (s2 mulD' (s2 ixD (sW 1) (sC (.int 0))) (s2 ixD (sW 0) (sC (.int 1))))) (vD (s2 mulD' (s2 ixD (sW 0) (sC (.int 1))) (s2 ixD (sW 1) (sC (.int 1)))) vNil))))
theorem ok_minus {f:Addr}{fd:FuncData}(Fn:Fun K "minus" "minus" s_minus f fd)(T:Txt K mg)(C_fraction:Callee P w K mg base "fraction" 2 ["top","bottom"] (spD K 2 f_fraction)):FnOk P w K mg base CX0 3 f fd ["one","other"] (spD K 2 f_minus):=by
 refine def_ok Fn sc_minus λcdv A outer s H E hr=>?_
 have hu5:(A.deeper (PyProof.Rows.envOfC "minus" (defScope s_minus) s.heap.objs.size f cdv)).units+65<cLine:=by have:=hr.un;omega
 exact ⟨_,(ss_one (st_ret (ev_call C_fraction (hr.mono (by decide)) (av_d (ev_op od_sub (Ev.bw (ev_op (od_mul' rfl) (Ev.bw (ev_ix (id_ix rfl) (eb_v 0) (Ev.bw ev_int))) (Ev.bw (ev_ix (id_ix rfl) (eb_v 1) (Ev.bw ev_int))))) (Ev.bw (ev_op (od_mul' rfl) (Ev.bw (ev_ix (id_ix rfl) (eb_v 1) (Ev.bw ev_int))) (Ev.bw (ev_ix (id_ix rfl) (eb_v 0) (Ev.bw ev_int)))))) (av_d (ev_op (od_mul' rfl) (Ev.bw (ev_ix (id_ix rfl) (eb_v 0) (Ev.bw ev_int))) (Ev.bw (ev_ix (id_ix rfl) (eb_v 1) (Ev.bw ev_int)))) av_nil)) (ln_d (ln_d ln_nil)))))⟩
theorem sc_times:FnScope ["one","other"] ["one","other"] (defScope s_times):=⟨rfl,rfl,rfl,by decide +kernel,rfl,by decide +kernel,by decide +kernel⟩
noncomputable def f_times:List DV->M PyData:=runD ["one","other"] (mRt (sCall f_fraction (vD (s2 mulD' (s2 ixD (sW 0) (sC (.int 0))) (s2 ixD (sW 1) (sC (.int 0)))) (vD (s2 mulD' (s2 ixD (sW 0) (sC (.int 1))) (s2 ixD (sW 1) (sC (.int 1)))) vNil))))
theorem ok_times {f:Addr}{fd:FuncData}(Fn:Fun K "times" "times" s_times f fd)(T:Txt K mg)(C_fraction:Callee P w K mg base "fraction" 2 ["top","bottom"] (spD K 2 f_fraction)):FnOk P w K mg base CX0 3 f fd ["one","other"] (spD K 2 f_times):=by
 refine def_ok Fn sc_times λcdv A outer s H E hr=>?_
 have hu5:(A.deeper (PyProof.Rows.envOfC "times" (defScope s_times) s.heap.objs.size f cdv)).units+65<cLine:=by have:=hr.un;omega
 exact ⟨_,(ss_one (st_ret (ev_call C_fraction (hr.mono (by decide)) (av_d (ev_op (od_mul' rfl) (Ev.bw (ev_ix (id_ix rfl) (eb_v 0) (Ev.bw ev_int))) (Ev.bw (ev_ix (id_ix rfl) (eb_v 1) (Ev.bw ev_int)))) (av_d (ev_op (od_mul' rfl) (Ev.bw (ev_ix (id_ix rfl) (eb_v 0) (Ev.bw ev_int))) (Ev.bw (ev_ix (id_ix rfl) (eb_v 1) (Ev.bw ev_int)))) av_nil)) (ln_d (ln_d ln_nil)))))⟩
theorem sc_over:FnScope ["one","other"] ["one","other"] (defScope s_over):=⟨rfl,rfl,rfl,by decide +kernel,rfl,by decide +kernel,by decide +kernel⟩
noncomputable def f_over:List DV->M PyData:=runD ["one","other"] (mRt (sCall f_fraction (vD (s2 mulD' (s2 ixD (sW 0) (sC (.int 0))) (s2 ixD (sW 1) (sC (.int 1)))) (vD (s2 mulD' (s2 ixD (sW 0) (sC (.int 1))) (s2 ixD (sW 1) (sC (.int 0)))) vNil))))
theorem ok_over {f:Addr}{fd:FuncData}(Fn:Fun K "over" "over" s_over f fd)(T:Txt K mg)(C_fraction:Callee P w K mg base "fraction" 2 ["top","bottom"] (spD K 2 f_fraction)):FnOk P w K mg base CX0 3 f fd ["one","other"] (spD K 2 f_over):=by
 refine def_ok Fn sc_over λcdv A outer s H E hr=>?_
 have hu5:(A.deeper (PyProof.Rows.envOfC "over" (defScope s_over) s.heap.objs.size f cdv)).units+65<cLine:=by have:=hr.un;omega
 exact ⟨_,(ss_one (st_ret (ev_call C_fraction (hr.mono (by decide)) (av_d (ev_op (od_mul' rfl) (Ev.bw (ev_ix (id_ix rfl) (eb_v 0) (Ev.bw ev_int))) (Ev.bw (ev_ix (id_ix rfl) (eb_v 1) (Ev.bw ev_int)))) (av_d (ev_op (od_mul' rfl) (Ev.bw (ev_ix (id_ix rfl) (eb_v 0) (Ev.bw ev_int))) (Ev.bw (ev_ix (id_ix rfl) (eb_v 1) (Ev.bw ev_int)))) av_nil)) (ln_d (ln_d ln_nil)))))⟩
theorem sc_less:FnScope ["one","other"] ["one","other"] (defScope s_less):=⟨rfl,rfl,rfl,by decide +kernel,rfl,by decide +kernel,by decide +kernel⟩
noncomputable def f_less:List DV->M PyData:=runD ["one","other"] (mRt (s2 ltD (s2 mulD' (s2 ixD (sW 0) (sC (.int 0))) (s2 ixD (sW 1) (sC (.int 1)))) (s2 mulD' (s2 ixD (sW 1) (sC (.int 0))) (s2 ixD (sW 0) (sC (.int 1))))))
theorem ok_less {f:Addr}{fd:FuncData}(Fn:Fun K "less" "less" s_less f fd)(T:Txt K mg) :FnOk P w K mg base CX0 1 f fd ["one","other"] (spD K 2 f_less):=by
 refine def_ok Fn sc_less λcdv A outer s H E hr=>?_
 have hu5:(A.deeper (PyProof.Rows.envOfC "less" (defScope s_less) s.heap.objs.size f cdv)).units+65<cLine:=by have:=hr.un;omega
 exact ⟨_,(ss_one (st_ret (ev_cmp od_lt (Ev.bw (ev_op (od_mul' rfl) (Ev.bw (ev_ix (id_ix rfl) (eb_v 0) (Ev.bw ev_int))) (Ev.bw (ev_ix (id_ix rfl) (eb_v 1) (Ev.bw ev_int))))) (Ev.bw (ev_op (od_mul' rfl) (Ev.bw (ev_ix (id_ix rfl) (eb_v 1) (Ev.bw ev_int))) (Ev.bw (ev_ix (id_ix rfl) (eb_v 0) (Ev.bw ev_int))))))))⟩
theorem sc_mean_of:FnScope ["pairs","weighed"] ["pairs"] (defScope s_mean_of):=⟨rfl,rfl,rfl,by decide +kernel,rfl,by decide +kernel,by decide +kernel⟩
noncomputable def f_mean_of:List DV->M PyData:=runD ["pairs","weighed"] (mSq (mSet 1 (sN sumD' (sCons (sLC (mSeq (sW 0)) 2 [] (bTup 2 (bCons (bN 0) (bCons (bN 1) bNil))) uYes (s2 mulD' (sW 0) (sW 1))) sNil)))
  (mRt (sCall f_fraction (vD (sV 1) (vD (sN sumD' (sCons (sLC (mSeq (sW 0)) 2 [] (bTup 2 (bCons (bN 0) (bCons (bN 1) bNil))) uYes (sV 1)) sNil)) vNil)))))
theorem ok_mean_of {f:Addr}{fd:FuncData}(Fn:Fun K "mean_of" "mean_of" s_mean_of f fd)(T:Txt K mg)(C_fraction:Callee P w K mg base "fraction" 2 ["top","bottom"] (spD K 2 f_fraction)):FnOk P w K mg base CX0 3 f fd ["pairs"] (spD K 1 f_mean_of):=by
 refine def_ok Fn sc_mean_of λcdv A outer s H E hr=>?_
 have hu5:(A.deeper (PyProof.Rows.envOfC "mean_of" (defScope s_mean_of) s.heap.objs.size f cdv)).units+65<cLine:=by have:=hr.un;omega
 exact ⟨_,(ss_cons (st_set 1 sc_mean_of.nd (ev_callB (cd_sum' rfl rfl) T.sum bt_sum (es_cons (Ev.bw (ev_lc (osc:=(defScope s_mean_of)) (N:=["number","lot"]) (k:=2) (cap:=[]) rfl rfl ⟨rfl,by decide +kernel,by decide +kernel,by decide +kernel,rfl,rfl,by decide +kernel⟩ (eib_seq (eb_v 0)) (λcl C ex pins s H=>(eg_tup (n:=2) rfl (egs_cons (eg_n (i:=0) (show List.Nodup (["number","lot"]:List Str) by decide +kernel)) (egs_cons (eg_n (i:=1) (show List.Nodup (["number","lot"]:List Str) by decide +kernel)) egs_nil)))) (λcl C ex pins s H=>ets_nil) (λcl C ex pins s H=>(ev_op (od_mul' rfl) (eb_v 0) (eb_v 1))))) es_nil)))
   (ss_one (st_ret (ev_call C_fraction (hr.mono (by decide)) (av_d (ev_v 1) (av_d (ev_callB (cd_sum' rfl rfl) T.sum bt_sum (es_cons (Ev.bw (ev_lc (osc:=(defScope s_mean_of)) (N:=["number","lot"]) (k:=2) (cap:=[]) rfl rfl ⟨rfl,by decide +kernel,by decide +kernel,by decide +kernel,rfl,rfl,by decide +kernel⟩ (eib_seq (eb_v 0)) (λcl C ex pins s H=>(eg_tup (n:=2) rfl (egs_cons (eg_n (i:=0) (show List.Nodup (["number","lot"]:List Str) by decide +kernel)) (egs_cons (eg_n (i:=1) (show List.Nodup (["number","lot"]:List Str) by decide +kernel)) egs_nil)))) (λcl C ex pins s H=>ets_nil) (λcl C ex pins s H=>(ev_v 1)))) es_nil)) av_nil)) (ln_d (ln_d ln_nil))))))⟩
theorem sc_total:FnScope ["flow"] ["flow"] (defScope s_total):=⟨rfl,rfl,rfl,by decide +kernel,rfl,by decide +kernel,by decide +kernel⟩
noncomputable def f_total:List DV->M PyData:=runD ["flow"] (mRt (sN sumD' (sCons (sW 0) sNil)))
theorem ok_total {f:Addr}{fd:FuncData}(Fn:Fun K "total" "total" s_total f fd)(T:Txt K mg) :FnOk P w K mg base CX0 1 f fd ["flow"] (spD K 1 f_total):=by
 refine def_ok Fn sc_total λcdv A outer s H E hr=>?_
 have hu5:(A.deeper (PyProof.Rows.envOfC "total" (defScope s_total) s.heap.objs.size f cdv)).units+65<cLine:=by have:=hr.un;omega
 exact ⟨_,(ss_one (st_ret (ev_callB (cd_sum' rfl rfl) T.sum bt_sum (es_cons (eb_v 0) es_nil))))⟩
theorem sc_share_of:FnScope ["flow","k"] ["flow","k"] (defScope s_share_of):=⟨rfl,rfl,rfl,by decide +kernel,rfl,by decide +kernel,by decide +kernel⟩
noncomputable def f_share_of:List DV->M PyData:=runD ["flow","k"] (mSq (mIf (uNot (uB (sCh leD ltD (sC (.int 0)) (sW 1) (sN lenD (sCons (sW 0) sNil))))) (mRt (sC (.tuple [.int 0,.int 1]))) mNx)
  (mRt (sCall f_fraction (vD (s2 ixD (sW 0) (sW 1)) (vD (sCall f_total (vD (sV 0) vNil)) vNil)))))
theorem ok_share_of {f:Addr}{fd:FuncData}(Fn:Fun K "share_of" "share_of" s_share_of f fd)(T:Txt K mg)(C_fraction:Callee P w K mg base "fraction" 2 ["top","bottom"] (spD K 2 f_fraction))(C_total:Callee P w K mg base "total" 1 ["flow"] (spD K 1 f_total)):FnOk P w K mg base CX0 3 f fd ["flow","k"] (spD K 2 f_share_of):=by
 refine def_ok Fn sc_share_of λcdv A outer s H E hr=>?_
 have hu5:(A.deeper (PyProof.Rows.envOfC "share_of" (defScope s_share_of) s.heap.objs.size f cdv)).units+65<cLine:=by have:=hr.un;omega
 exact ⟨_,(ss_cons (st_if (et_not (et_chain od_le od_lt (Ev.bw ev_int) (eb_v 1) (Ev.bw (ev_callB (cd_len rfl) T.len bt_len (es_cons (eb_v 0) es_nil))))) (ss_one (st_ret (ev_k (.tuple [.int 0,.int 1]) rfl))) ss_nil)
   (ss_one (st_ret (ev_call C_fraction (hr.mono (by decide)) (av_d (ev_ix (id_ix rfl) (eb_v 0) (eb_v 1)) (av_d (ev_call C_total (hr.mono (by decide)) (av_d (ev_v 0) av_nil) (ln_d ln_nil)) av_nil)) (ln_d (ln_d ln_nil))))))⟩
theorem sc_mean:FnScope ["flow"] ["flow"] (defScope s_mean):=⟨rfl,rfl,rfl,by decide +kernel,rfl,by decide +kernel,by decide +kernel⟩
noncomputable def f_mean:List DV->M PyData:=runD ["flow"] (mRt (sCall f_mean_of (vD (sLEn (sV 0)) vNil)))
theorem ok_mean {f:Addr}{fd:FuncData}(Fn:Fun K "mean" "mean" s_mean f fd)(T:Txt K mg)(C_mean_of:Callee P w K mg base "mean_of" 3 ["pairs"] (spD K 1 f_mean_of)):FnOk P w K mg base CX0 4 f fd ["flow"] (spD K 1 f_mean):=by
 refine def_ok Fn sc_mean λcdv A outer s H E hr=>?_
 have hu5:(A.deeper (PyProof.Rows.envOfC "mean" (defScope s_mean) s.heap.objs.size f cdv)).units+65<cLine:=by have:=hr.un;omega
 exact ⟨_,(ss_one (st_ret (ev_call C_mean_of (hr.mono (by decide)) (av_d (ev_lenum (ev_v 0) rfl T.enumerate T.list bt_list) av_nil) (ln_d ln_nil))))⟩
theorem sc_second:FnScope ["flow"] ["flow"] (defScope s_second):=⟨rfl,rfl,rfl,by decide +kernel,rfl,by decide +kernel,by decide +kernel⟩
noncomputable def f_second:List DV->M PyData:=runD ["flow"] (mRt (sCall f_mean_of (vD (sLC (mEnum (sW 0)) 2 [] (bTup 2 (bCons (bN 0) (bCons (bN 1) bNil))) uYes (sTup (sCons (s2 mulD' (sW 0) (sW 0)) (sCons (sV 1) sNil)))) vNil)))
theorem ok_second {f:Addr}{fd:FuncData}(Fn:Fun K "second" "second" s_second f fd)(T:Txt K mg)(C_mean_of:Callee P w K mg base "mean_of" 3 ["pairs"] (spD K 1 f_mean_of)):FnOk P w K mg base CX0 4 f fd ["flow"] (spD K 1 f_second):=by
 refine def_ok Fn sc_second λcdv A outer s H E hr=>?_
 have hu5:(A.deeper (PyProof.Rows.envOfC "second" (defScope s_second) s.heap.objs.size f cdv)).units+65<cLine:=by have:=hr.un;omega
 exact ⟨_,(ss_one (st_ret (ev_call C_mean_of (hr.mono (by decide)) (av_d (ev_lc (osc:=(defScope s_second)) (N:=["k","lot"]) (k:=2) (cap:=[]) rfl rfl ⟨rfl,by decide +kernel,by decide +kernel,by decide +kernel,rfl,rfl,by decide +kernel⟩ (eib_enum (eb_v 0) T.enumerate) (λcl C ex pins s H=>(eg_tup (n:=2) rfl (egs_cons (eg_n (i:=0) (show List.Nodup (["k","lot"]:List Str) by decide +kernel)) (egs_cons (eg_n (i:=1) (show List.Nodup (["k","lot"]:List Str) by decide +kernel)) egs_nil)))) (λcl C ex pins s H=>ets_nil) (λcl C ex pins s H=>(ev_tup (ea_cons (ev_op (od_mul' rfl) (eb_v 0) (eb_v 0)) (ea_cons (ev_v 1) ea_nil))))) av_nil) (ln_d ln_nil))))⟩
theorem sc_going_above:FnScope ["flow","shares","told","back"] ["flow","shares"] (defScope s_going_above):=⟨rfl,rfl,rfl,by decide +kernel,rfl,by decide +kernel,by decide +kernel⟩
noncomputable def f_going_above:List DV->M PyData:=runD ["flow","shares","told","back"] (mSq (mSet 2 (sC (.tuple [.int 0,.int 1])))
  (mSq (mFor (mRng2 (sCons (sC (.int 1)) (sCons (s2 addD (sN minD (sCons (sN lenD (sCons (sW 1) sNil)) (sCons (s2 subD (sN lenD (sCons (sW 0) sNil)) (sC (.int 2))) sNil))) (sC (.int 1))) sNil))) (bN 3) (mSet 2 (sCall f_plus (vD (sV 2) (vD (sCall f_times (vD (s2 ixD (sW 1) (s1 negD (sW 3))) (vD (sCall f_fraction (vD (sN sumD' (sCons (sCut (sW 0) (oI (s2 addD (sW 3) (sC (.int 1)))) oNo) sNil)) (vD (sCall f_total (vD (sV 0) vNil)) vNil))) vNil))) vNil)))))
  (mRt (sV 2))))
theorem ok_going_above {f:Addr}{fd:FuncData}(Fn:Fun K "going_above" "going_above" s_going_above f fd)(T:Txt K mg)(C_plus:Callee P w K mg base "plus" 3 ["one","other"] (spD K 2 f_plus))(C_times:Callee P w K mg base "times" 3 ["one","other"] (spD K 2 f_times))(C_fraction:Callee P w K mg base "fraction" 2 ["top","bottom"] (spD K 2 f_fraction))(C_total:Callee P w K mg base "total" 1 ["flow"] (spD K 1 f_total)):FnOk P w K mg base CX0 4 f fd ["flow","shares"] (spD K 2 f_going_above):=by
 refine def_ok Fn sc_going_above λcdv A outer s H E hr=>?_
 have hu5:(A.deeper (PyProof.Rows.envOfC "going_above" (defScope s_going_above) s.heap.objs.size f cdv)).units+65<cLine:=by have:=hr.un;omega
 exact ⟨_,(ss_cons (st_set 2 sc_going_above.nd (ev_g T.g_NOUGHT))
   (ss_cons (st_for rfl (ei_rng2 (ea_cons ev_int (ea_cons (ev_op (od_add rfl) (Ev.bw (ev_callB (cd_min rfl rfl) T.min bt_min (es_cons (Ev.bw (ev_callB (cd_len rfl) T.len bt_len (es_cons (eb_v 1) es_nil))) (es_cons (Ev.bw (ev_op od_sub (Ev.bw (ev_callB (cd_len rfl) T.len bt_len (es_cons (eb_v 0) es_nil))) (Ev.bw ev_int))) es_nil)))) (Ev.bw ev_int)) ea_nil)) T.range) (eg_n (i:=3) sc_going_above.nd) (ss_one (st_set 2 sc_going_above.nd (ev_call C_plus (hr.mono (by decide)) (av_d (ev_v 2) (av_d (ev_call C_times (hr.mono (by decide)) (av_d (ev_ix (id_ix rfl) (eb_v 1) (Ev.bw (ev_un ud_neg (eb_v 3)))) (av_d (ev_call C_fraction (hr.mono (by decide)) (av_d (ev_callB (cd_sum' rfl rfl) T.sum bt_sum (es_cons (Ev.bw (ev_cut (eb_v 0) (eo_i (ev_op (od_add rfl) (eb_v 3) (Ev.bw ev_int))) eo_no)) es_nil)) (av_d (ev_call C_total (hr.mono (by decide)) (av_d (ev_v 0) av_nil) (ln_d ln_nil)) av_nil)) (ln_d (ln_d ln_nil))) av_nil)) (ln_d (ln_d ln_nil))) av_nil)) (ln_d (ln_d ln_nil))))))
   (ss_one (st_ret (ev_v 2)))))⟩
theorem sc_word_of:FnScope ["flow","hands","brought","most"] ["flow","hands"] (defScope s_word_of):=⟨rfl,rfl,rfl,by decide +kernel,rfl,by decide +kernel,by decide +kernel⟩
noncomputable def f_word_of:List DV->M PyData:=runD ["flow","hands","brought","most"] (mSq (mPar 2 3 (sCons (sCall f_mean (vD (sV 0) vNil)) (sCons (sTup (sCons (sV 1) (sCons (sC (.int 1)) sNil))) sNil)))
  (mSq (mIf (uT (sCall f_less (vD (sV 2) (vD (sV 3) vNil)))) (mRt (sC (.str "rests"))) mNx)
  (mSq (mIf (uT (sCall f_less (vD (sV 3) (vD (sV 2) vNil)))) (mRt (sC (.str "runs"))) mNx)
  (mRt (sIf (uB (s2 (eqD false) (sCall f_share_of (vD (sV 0) (vD (sV 1) vNil))) (sC (.tuple [.int 1,.int 1])))) (sC (.str "still")) (sC (.str "swings")))))))
theorem ok_word_of {f:Addr}{fd:FuncData}(Fn:Fun K "word_of" "word_of" s_word_of f fd)(T:Txt K mg)(C_mean:Callee P w K mg base "mean" 4 ["flow"] (spD K 1 f_mean))(C_less:Callee P w K mg base "less" 1 ["one","other"] (spD K 2 f_less))(C_share_of:Callee P w K mg base "share_of" 3 ["flow","k"] (spD K 2 f_share_of)):FnOk P w K mg base CX0 5 f fd ["flow","hands"] (spD K 2 f_word_of):=by
 refine def_ok Fn sc_word_of λcdv A outer s H E hr=>?_
 have hu5:(A.deeper (PyProof.Rows.envOfC "word_of" (defScope s_word_of) s.heap.objs.size f cdv)).units+65<cLine:=by have:=hr.un;omega
 exact ⟨_,(ss_cons (st_par 2 3 rfl sc_word_of.nd (ea_cons (ev_call C_mean (hr.mono (by decide)) (av_d (ev_v 0) av_nil) (ln_d ln_nil)) (ea_cons (ev_tup (ea_cons (ev_v 1) (ea_cons ev_int ea_nil))) ea_nil)))
   (ss_cons (st_if (et_val (Ev.bw (ev_call C_less (hr.mono (by decide)) (av_d (ev_v 2) (av_d (ev_v 3) av_nil)) (ln_d (ln_d ln_nil))))) (ss_one (st_ret ev_str)) ss_nil)
   (ss_cons (st_if (et_val (Ev.bw (ev_call C_less (hr.mono (by decide)) (av_d (ev_v 3) (av_d (ev_v 2) av_nil)) (ln_d (ln_d ln_nil))))) (ss_one (st_ret ev_str)) ss_nil)
   (ss_one (st_ret (ev_if (et_cmp (od_eq rfl hr.units) (Ev.bw (ev_call C_share_of (hr.mono (by decide)) (av_d (ev_v 0) (av_d (ev_v 1) av_nil)) (ln_d (ln_d ln_nil)))) (Ev.bw (ev_g T.g_ONE))) ev_str ev_str))))))⟩
theorem sc_check_rests:FnScope ["flow","word"] ["flow"] (defScope s_check_rests):=⟨rfl,rfl,rfl,by decide +kernel,rfl,by decide +kernel,by decide +kernel⟩
noncomputable def f_check_rests:List DV->M PyData:=runD ["flow","word"] (mSq (mSet 1 (sCall f_word_of (vD (sV 0) (vD (sC (.int 1)) vNil))))
  (mIf (uB (s2 (eqD true) (sW 1) (sC (.str "rests")))) mVoid mNx))
theorem ok_check_rests {f:Addr}{fd:FuncData}(Fn:Fun K "check_rests" "check_rests" s_check_rests f fd)(T:Txt K mg)(C_word_of:Callee P w K mg base "word_of" 5 ["flow","hands"] (spD K 2 f_word_of)):FnOk P w K mg base CX0 6 f fd ["flow"] (spD K 1 f_check_rests):=by
 refine def_ok Fn sc_check_rests λcdv A outer s H E hr=>?_
 have hu5:(A.deeper (PyProof.Rows.envOfC "check_rests" (defScope s_check_rests) s.heap.objs.size f cdv)).units+65<cLine:=by have:=hr.un;omega
 exact ⟨_,(ss_cons (st_set 1 sc_check_rests.nd (ev_call C_word_of (hr.mono (by decide)) (av_d (ev_v 0) (av_d ev_int av_nil)) (ln_d (ln_d ln_nil))))
   (ss_one (st_if (et_cmp (od_ne rfl hr.units) (eb_v 1) (Ev.bw ev_str)) (ss_one st_void) ss_nil)))⟩
theorem sc_lacking:FnScope ["flow"] ["flow"] (defScope s_lacking):=⟨rfl,rfl,rfl,by decide +kernel,rfl,by decide +kernel,by decide +kernel⟩
noncomputable def f_lacking:List DV->M PyData:=runD ["flow"] (mRt (sCall f_minus (vD (sC (.tuple [.int 1,.int 1])) (vD (sCall f_mean (vD (sV 0) vNil)) vNil))))
theorem ok_lacking {f:Addr}{fd:FuncData}(Fn:Fun K "lacking" "lacking" s_lacking f fd)(T:Txt K mg)(C_minus:Callee P w K mg base "minus" 3 ["one","other"] (spD K 2 f_minus))(C_mean:Callee P w K mg base "mean" 4 ["flow"] (spD K 1 f_mean)):FnOk P w K mg base CX0 5 f fd ["flow"] (spD K 1 f_lacking):=by
 refine def_ok Fn sc_lacking λcdv A outer s H E hr=>?_
 have hu5:(A.deeper (PyProof.Rows.envOfC "lacking" (defScope s_lacking) s.heap.objs.size f cdv)).units+65<cLine:=by have:=hr.un;omega
 exact ⟨_,(ss_one (st_ret (ev_call C_minus (hr.mono (by decide)) (av_d (ev_g T.g_ONE) (av_d (ev_call C_mean (hr.mono (by decide)) (av_d (ev_v 0) av_nil) (ln_d ln_nil)) av_nil)) (ln_d (ln_d ln_nil)))))⟩
theorem sc_mean_standing:FnScope ["flow"] ["flow"] (defScope s_mean_standing):=⟨rfl,rfl,rfl,by decide +kernel,rfl,by decide +kernel,by decide +kernel⟩
noncomputable def f_mean_standing:List DV->M PyData:=runD ["flow"] (mSq (mDo (sCall f_check_rests (vD (sV 0) vNil)))
  (mRt (sCall f_over (vD (sCall f_minus (vD (sCall f_second (vD (sV 0) vNil)) (vD (sCall f_mean (vD (sV 0) vNil)) vNil))) (vD (sCall f_times (vD (sC (.tuple [.int 2,.int 1])) (vD (sCall f_lacking (vD (sV 0) vNil)) vNil))) vNil)))))
theorem ok_mean_standing {f:Addr}{fd:FuncData}(Fn:Fun K "mean_standing" "mean_standing" s_mean_standing f fd)(T:Txt K mg)(C_check_rests:Callee P w K mg base "check_rests" 6 ["flow"] (spD K 1 f_check_rests))(C_over:Callee P w K mg base "over" 3 ["one","other"] (spD K 2 f_over))(C_times:Callee P w K mg base "times" 3 ["one","other"] (spD K 2 f_times))(C_lacking:Callee P w K mg base "lacking" 5 ["flow"] (spD K 1 f_lacking))(C_minus:Callee P w K mg base "minus" 3 ["one","other"] (spD K 2 f_minus))(C_mean:Callee P w K mg base "mean" 4 ["flow"] (spD K 1 f_mean))(C_second:Callee P w K mg base "second" 4 ["flow"] (spD K 1 f_second)):FnOk P w K mg base CX0 7 f fd ["flow"] (spD K 1 f_mean_standing):=by
 refine def_ok Fn sc_mean_standing λcdv A outer s H E hr=>?_
 have hu5:(A.deeper (PyProof.Rows.envOfC "mean_standing" (defScope s_mean_standing) s.heap.objs.size f cdv)).units+65<cLine:=by have:=hr.un;omega
 exact ⟨_,(ss_cons (st_do (ev_call C_check_rests (hr.mono (by decide)) (av_d (ev_v 0) av_nil) (ln_d ln_nil)))
   (ss_one (st_ret (ev_call C_over (hr.mono (by decide)) (av_d (ev_call C_minus (hr.mono (by decide)) (av_d (ev_call C_second (hr.mono (by decide)) (av_d (ev_v 0) av_nil) (ln_d ln_nil)) (av_d (ev_call C_mean (hr.mono (by decide)) (av_d (ev_v 0) av_nil) (ln_d ln_nil)) av_nil)) (ln_d (ln_d ln_nil))) (av_d (ev_call C_times (hr.mono (by decide)) (av_d (ev_k (.tuple [.int 2,.int 1]) rfl) (av_d (ev_call C_lacking (hr.mono (by decide)) (av_d (ev_v 0) av_nil) (ln_d ln_nil)) av_nil)) (ln_d (ln_d ln_nil))) av_nil)) (ln_d (ln_d ln_nil))))))⟩
theorem sc_step_row:FnScope ["flow","n","coming_back","told","k"] ["flow","n"] (defScope s_step_row):=⟨rfl,rfl,rfl,by decide +kernel,rfl,by decide +kernel,by decide +kernel⟩
noncomputable def f_step_row:List DV->M PyData:=runD ["flow","n","coming_back","told","k"] (mSq (mDo (sCall f_check_rests (vD (sV 0) vNil)))
  (mSq (mSet 2 (sCall f_share_of (vD (sV 0) (vD (sC (.int 0)) vNil))))
  (mSq (mOwn 3 (fLst (sCons (sCall f_over (vD (sCall f_lacking (vD (sV 0) vNil)) (vD (sV 2) vNil))) sNil)))
  (mSq (mFor (mRng1 (sCons (sV 1) sNil)) (bN 4) (mApp 3 (sCall f_over (vD (sCallO f_going_above (vD (sV 0) (vO 3 vNil))) (vD (sV 2) vNil)))))
  (mRt (sN tupleD (sCons (sW 3) sNil)))))))
theorem ok_step_row {f:Addr}{fd:FuncData}(Fn:Fun K "step_row" "step_row" s_step_row f fd)(T:Txt K mg)(C_check_rests:Callee P w K mg base "check_rests" 6 ["flow"] (spD K 1 f_check_rests))(C_share_of:Callee P w K mg base "share_of" 3 ["flow","k"] (spD K 2 f_share_of))(C_over:Callee P w K mg base "over" 3 ["one","other"] (spD K 2 f_over))(C_lacking:Callee P w K mg base "lacking" 5 ["flow"] (spD K 1 f_lacking))(C_going_above:Callee P w K mg base "going_above" 4 ["flow","shares"] (spD K 2 f_going_above)):FnOk P w K mg base CX0 7 f fd ["flow","n"] (spD K 2 f_step_row):=by
 refine def_ok Fn sc_step_row λcdv A outer s H E hr=>?_
 have hu5:(A.deeper (PyProof.Rows.envOfC "step_row" (defScope s_step_row) s.heap.objs.size f cdv)).units+65<cLine:=by have:=hr.un;omega
 exact ⟨_,(ss_cons (st_do (ev_call C_check_rests (hr.mono (by decide)) (av_d (ev_v 0) av_nil) (ln_d ln_nil)))
   (ss_cons (st_set 2 sc_step_row.nd (ev_call C_share_of (hr.mono (by decide)) (av_d (ev_v 0) (av_d ev_int av_nil)) (ln_d (ln_d ln_nil))))
   (ss_cons (st_own 3 sc_step_row.nd (ef_lst (ea_cons (ev_call C_over (hr.mono (by decide)) (av_d (ev_call C_lacking (hr.mono (by decide)) (av_d (ev_v 0) av_nil) (ln_d ln_nil)) (av_d (ev_v 2) av_nil)) (ln_d (ln_d ln_nil))) ea_nil)))
   (ss_cons (st_for rfl (ei_rng1 (ea_cons (ev_v 1) ea_nil) T.range) (eg_n (i:=4) sc_step_row.nd) (ss_one (st_app 3 rfl (ev_call C_over (hr.mono (by decide)) (av_d (ev_callO C_going_above (hr.mono (by decide)) (avo_d (ev_v 0) (avo_o 3 avo_nil)) (ln_d (ln_o ln_nil))) (av_d (ev_v 2) av_nil)) (ln_d (ln_d ln_nil))))))
   (ss_one (st_ret (ev_callT (cd_tuple rfl) T.tuple bt_tuple (es_cons (eb_v 3) es_nil))))))))⟩
theorem sc_check_shape:FnScope ["thing","k","part"] ["thing"] (defScope s_check_shape):=⟨rfl,rfl,rfl,by decide +kernel,rfl,by decide +kernel,by decide +kernel⟩
noncomputable def f_check_shape:List DV->M PyData:=runD ["thing","k","part"] (mSq (mIf (uOr (uNot (uT (s1 (isinD "tuple") (sW 0)))) (uB (s2 (eqD false) (sN lenD (sCons (sW 0) sNil)) (sC (.int 0))))) (mRaise "NoPaper" (sCons (sC (.str "shape")) (sCons (s1 negD (sC (.int 1))) sNil))) mNx)
  (mFor (mEnum (sV 0)) (bTup 2 (bCons (bN 1) (bCons (bN 2) bNil))) (mIf (uNot (uT (sCall f_is_fraction (vD (sV 2) vNil)))) (mRaise "NoPaper" (sCons (sC (.str "shape")) (sCons (sV 1) sNil))) mNx)))
theorem ok_check_shape {f:Addr}{fd:FuncData}(Fn:Fun K "check_shape" "check_shape" s_check_shape f fd)(T:Txt K mg)(C_is_fraction:Callee P w K mg base "is_fraction" 3 ["thing"] (spD K 1 f_is_fraction)):FnOk P w K mg base (CXe P w) 4 f fd ["thing"] (spX K mg 1 f_check_shape):=by
 refine defx_ok Fn sc_check_shape λcdv A outer s H E hr=>?_
 have hu5:(A.deeper (PyProof.Rows.envOfC "check_shape" (defScope s_check_shape) s.heap.objs.size f cdv)).units+65<cLine:=by have:=hr.un;omega
 obtain ⟨Wt_NoPaper,Cl_NoPaper,fi_NoPaper,cl_NoPaper,hW_NoPaper,hA_NoPaper,ecl_NoPaper,eini_NoPaper,efit_NoPaper⟩:=T.err_NoPaper
 exact ⟨_,(sxs_cons (sx_if (Ew.t (ew_or (et_not (et_val (Ev.bw (ev_isin "tuple" (eb_v 0) (by decide) T.isinstance T.tuple bt_tuple)))) (ew_or1 (et_cmp (od_eq rfl hr.units) (Ev.bw (ev_callB (cd_len rfl) T.len bt_len (es_cons (eb_v 0) es_nil))) (Ev.bw ev_int))))) (sxs_one (sx_raise "NoPaper" goes_of ecl_NoPaper eini_NoPaper (hr.mono (by decide)) efit_NoPaper.mgc (ea_cons ev_str (ea_cons (ev_un ud_neg (Ev.bw ev_int)) ea_nil)))) (sxs_of ss_nil))
   (sxs_one (sx_for rfl passes_cx (ei_enum (ev_v 0) T.enumerate) (eg_tup (n:=2) rfl (egs_cons (eg_n (i:=1) sc_check_shape.nd) (egs_cons (eg_n (i:=2) sc_check_shape.nd) egs_nil))) (sxs_one (sx_if (et_not (et_val (Ev.bw (ev_call C_is_fraction (hr.mono (by decide)) (av_d (ev_v 2) av_nil) (ln_d ln_nil))))) (sxs_one (sx_raise "NoPaper" goes_of ecl_NoPaper eini_NoPaper (hr.mono (by decide)) efit_NoPaper.mgc (ea_cons ev_str (ea_cons (ev_v 1) ea_nil)))) (sxs_of ss_nil))))))⟩
theorem sc_lets_steps:FnScope ["flow","thing","coming_back","k"] ["flow","thing"] (defScope s_lets_steps):=⟨rfl,rfl,rfl,by decide +kernel,rfl,by decide +kernel,by decide +kernel⟩
noncomputable def f_lets_steps:List DV->M PyData:=runD ["flow","thing","coming_back","k"] (mSq (mDoX f_check_shape (vD (sV 1) vNil))
  (mSq (mIf (uB (s2 (eqD true) (sCall f_word_of (vD (sV 0) (vD (sC (.int 1)) vNil))) (sC (.str "rests")))) (mRaise "NoPaper" (sCons (sC (.str "rest")) (sCons (s1 negD (sC (.int 1))) sNil))) mNx)
  (mSq (mSet 2 (sCall f_share_of (vD (sV 0) (vD (sC (.int 0)) vNil))))
  (mSq (mIf (uB (s2 (eqD true) (sCall f_times (vD (s2 ixD (sW 1) (sC (.int 0))) (vD (sV 2) vNil))) (sCall f_lacking (vD (sV 0) vNil)))) (mRaise "NoPaper" (sCons (sC (.str "first")) (sCons (sC (.int 0)) sNil))) mNx)
  (mSq (mFor (mRng2 (sCons (sC (.int 1)) (sCons (sN lenD (sCons (sW 1) sNil)) sNil))) (bN 3) (mIf (uB (s2 (eqD true) (sCall f_times (vD (s2 ixD (sW 1) (sW 3)) (vD (sV 2) vNil))) (sCall f_going_above (vD (sV 0) (vD (sCut (sW 1) oNo (oI (sV 3))) vNil))))) (mRaise "NoPaper" (sCons (sC (.str "cut")) (sCons (sV 3) sNil))) mNx))
  (mRt (sC (.bool true))))))))
theorem ok_lets_steps {f:Addr}{fd:FuncData}(Fn:Fun K "lets_steps" "lets_steps" s_lets_steps f fd)(T:Txt K mg)(C_check_shape:CalleeX P w K mg base "check_shape" 4 ["thing"] (spX K mg 1 f_check_shape))(C_word_of:Callee P w K mg base "word_of" 5 ["flow","hands"] (spD K 2 f_word_of))(C_share_of:Callee P w K mg base "share_of" 3 ["flow","k"] (spD K 2 f_share_of))(C_times:Callee P w K mg base "times" 3 ["one","other"] (spD K 2 f_times))(C_lacking:Callee P w K mg base "lacking" 5 ["flow"] (spD K 1 f_lacking))(C_going_above:Callee P w K mg base "going_above" 4 ["flow","shares"] (spD K 2 f_going_above)):FnOk P w K mg base (CXe P w) 6 f fd ["flow","thing"] (spX K mg 2 f_lets_steps):=by
 refine defx_ok Fn sc_lets_steps λcdv A outer s H E hr=>?_
 have hu5:(A.deeper (PyProof.Rows.envOfC "lets_steps" (defScope s_lets_steps) s.heap.objs.size f cdv)).units+65<cLine:=by have:=hr.un;omega
 obtain ⟨Wt_NoPaper,Cl_NoPaper,fi_NoPaper,cl_NoPaper,hW_NoPaper,hA_NoPaper,ecl_NoPaper,eini_NoPaper,efit_NoPaper⟩:=T.err_NoPaper
 exact ⟨_,(sxs_cons (sx_do goes_of C_check_shape (hr.mono (by decide)) (av_d (ev_v 1) av_nil) (ln_d ln_nil))
   (sxs_cons (sx_if (et_cmp (od_ne rfl hr.units) (Ev.bw (ev_call C_word_of (hr.mono (by decide)) (av_d (ev_v 0) (av_d ev_int av_nil)) (ln_d (ln_d ln_nil)))) (Ev.bw ev_str)) (sxs_one (sx_raise "NoPaper" goes_of ecl_NoPaper eini_NoPaper (hr.mono (by decide)) efit_NoPaper.mgc (ea_cons ev_str (ea_cons (ev_un ud_neg (Ev.bw ev_int)) ea_nil)))) (sxs_of ss_nil))
   (sxs_cons (sx_of (st_set 2 sc_lets_steps.nd (ev_call C_share_of (hr.mono (by decide)) (av_d (ev_v 0) (av_d ev_int av_nil)) (ln_d (ln_d ln_nil)))))
   (sxs_cons (sx_if (et_cmp (od_ne rfl hr.units) (Ev.bw (ev_call C_times (hr.mono (by decide)) (av_d (ev_ix (id_ix rfl) (eb_v 1) (Ev.bw ev_int)) (av_d (ev_v 2) av_nil)) (ln_d (ln_d ln_nil)))) (Ev.bw (ev_call C_lacking (hr.mono (by decide)) (av_d (ev_v 0) av_nil) (ln_d ln_nil)))) (sxs_one (sx_raise "NoPaper" goes_of ecl_NoPaper eini_NoPaper (hr.mono (by decide)) efit_NoPaper.mgc (ea_cons ev_str (ea_cons ev_int ea_nil)))) (sxs_of ss_nil))
   (sxs_cons (sx_for rfl passes_cx (ei_rng2 (ea_cons ev_int (ea_cons (ev_callB (cd_len rfl) T.len bt_len (es_cons (eb_v 1) es_nil)) ea_nil)) T.range) (eg_n (i:=3) sc_lets_steps.nd) (sxs_one (sx_if (et_cmp (od_ne rfl hr.units) (Ev.bw (ev_call C_times (hr.mono (by decide)) (av_d (ev_ix (id_ix rfl) (eb_v 1) (eb_v 3)) (av_d (ev_v 2) av_nil)) (ln_d (ln_d ln_nil)))) (Ev.bw (ev_call C_going_above (hr.mono (by decide)) (av_d (ev_v 0) (av_d (ev_cut (eb_v 1) eo_no (eo_i (ev_v 3))) av_nil)) (ln_d (ln_d ln_nil))))) (sxs_one (sx_raise "NoPaper" goes_of ecl_NoPaper eini_NoPaper (hr.mono (by decide)) efit_NoPaper.mgc (ea_cons ev_str (ea_cons (ev_v 3) ea_nil)))) (sxs_of ss_nil))))
   (sxs_of (ss_one (st_ret ev_bl))))))))⟩
noncomputable def spFeed (K:PySem.W.Frag):Sp:=λvs H Q _=>∃ (a:Addr) (ns:List Int),vs=[.ref a]∧SqL K H a (ns.map V.int)∧ns.length≤63 ∧
 ∀ (d c:Addr) (H':Hp),Feeds.At d c H' (newF ns)->Same H H'->Q (.ref d) H'
theorem cut63 {ns:List Int}(h:ns.length≤63):cutV (ns.map V.int) none (some 63)=ns.map V.int:=by
 unfold cutV
 have e:HT.sIx (ns.map V.int).length (ns.map V.int).length (some 63)=min 63 (ns.map V.int).length:=HT.sIx_nat _ _ 63
 rw [e,HT.sIx_none,List.drop_zero,Nat.sub_zero,List.take_of_length_le (by rw [List.length_map];omega)]
theorem sc__law_feed:FnScope ["_law_script"] ["_law_script"] (defScope s__law_feed):=⟨rfl,rfl,rfl,by decide +kernel,rfl,by decide +kernel,by decide +kernel⟩
theorem ok__law_feed {f:Addr}{fd:FuncData}(F:Fun K "_law_feed" "_law_feed" s__law_feed f fd):FnOk P w K mg base CX0 1 f fd ["_law_script"] (spFeed K):=by
 refine F.ok sc__law_feed (λvs H Q E h=>?_) (λcdv A outer s H vs Q E hr h=>?_)
 ·obtain ⟨a,ns,rfl,_⟩:=h
  rfl
 ·obtain ⟨a,ns,rfl,hS,hl,k⟩:=h
  refine ⟨_,pss_one (ps_ret (pe_lst (pa_cons (pe_slice sl_list (pv 0) po_none (po_some pe_int)) (pa_cons pe_int (pa_cons pe_int pa_nil))))),?_⟩
  refine ⟨_,rfl,63,rfl,a,_,rfl,hS,λq hq=>⟨Nat.le_of_lt (small1000 (by show 3≤1000;decide)),λp hp=>?_⟩⟩
  rw [cut63 hl] at hp ⊢
  have nqp:q≠p:=ne_of_none upd_same hp
  refine k p q _ ⟨upd_same,by rw [upd_ne nqp];exact upd_same,hl,(by show (0:Int)≤0;decide),(by show (0:Int)≤0;decide),Ne.symm nqp⟩ λb o e=>?_
  have e1:upd H q (.lst (ns.map V.int)) b=some o:=by rw [upd_ne (ne_of_none e hq)];exact e
  rw [upd_ne (ne_of_none e1 hp)]
  exact e1
theorem sc__law_draw:FnScope ["_law_feed_here","_law_many","_law_found","_law_at","_law_cell","_law_first"] ["_law_feed_here","_law_many"] (defScope s__law_draw):=⟨rfl,rfl,rfl,by decide +kernel,rfl,by decide +kernel,by decide +kernel⟩
theorem ok__law_draw {f:Addr}{fd:FuncData}(Fn:Fun K "_law_draw" "_law_draw" s__law_draw f fd)(T:Txt K mg):FnOk P w K mg base CX0 1 f fd ["_law_feed_here","_law_many"] (spD K 2 drawS):=by
 refine Fn.ok sc__law_draw (λvs H Q E h=>?_) (λcdv A outer s H vs Q E hr h=>?_)
 ·obtain ⟨G,B,F,args,d,F',hl,_⟩:=h
  exact hl
 ·obtain ⟨G,B,F,args,dd,F',hl,fB,bk,fa,ha,hm0,q⟩:=h
  obtain ⟨m,rfl⟩:∃ m,args=[.feed,.dat (.int m)]:=by
   unfold drawS at hm0
   split at hm0
   ·exact ⟨_,rfl⟩
   ·cases hm0
  obtain ⟨v,r,rfl,_,⟨d,c,rfl,rfl⟩,v2,r2,rfl,_,hv2,rfl⟩:=ha
  have hv2:v2 = .int m:=by simpa only [DVr,DatIs] using hv2
  subst hv2
  obtain ⟨⟨r0,F1⟩,e1,e2⟩:=Option.bind_eq_some_iff.mp hm0
  cases e2
  replace e1:drawL m F=some (r0,F1):=e1
  have hcond:0<m∧m<1073741824∧F.t<199999:=by
   unfold drawL at e1
   split at e1
   ·assumption
   ·cases e1
  obtain ⟨hm,hm2,htl⟩:=hcond
  obtain ⟨ns,a,l,t⟩:=F
  obtain ⟨⟨hd,hc,hl63,ha0,ht0,ndc⟩,tbo⟩:=fa
  simp only at hd hc hl63 ha0 ht0 htl
  have k:∀ (r:Int) (H':Hp) (F2:FdS),drawL m ⟨ns,a,l,t⟩=some (r,F2)->Feeds.At d c H' F2->(∀ b o,H b=some o->b≠d->H' b=some o)->Q (.int r) H':=λr H' F2 er fa' kp=>by
   rw [er] at e1
   cases e1
   exact q _ H' (λb o e nb=>kp b o e λz=>nb (by simp [fpOf,z])) ⟨fa',tbo.but hd ⟨λ_ z=>(by cases z),λ_ z=>(by cases z)⟩ kp⟩ DatIs.int
  have hdr:drawL m ⟨ns,a,l,t⟩=some (if 0<l then (l % m,⟨ns,a,l / m,t+1⟩) else if 10 ^ 18≤(FdS.cellL ⟨ns,a,l,t⟩)∧a<ns.length then ((FdS.cellL ⟨ns,a,l,t⟩) % m,⟨ns,a+1,(FdS.cellL ⟨ns,a,l,t⟩) / m,t+1⟩) else ((FdS.mixL ⟨ns,a,l,t⟩) % m,⟨ns,a+1,l,t+1⟩)):=by
   unfold drawL;rw [if_pos ⟨hm,hm2,htl⟩]
  have ncd:c≠d:=Ne.symm ndc
  refine ⟨_,pss_cons (ps_if (pt_cmpR op_gt (pe_ix ix_list (pv 0) pe_int (λ_ _=>rfl)) pe_int (nomark _))
    (pss_cons (ps_set (i:=2) sc__law_draw.nd rfl (Or.inl rfl) (pe_op op_mod (pe_ix ix_list (pv 0) pe_int (λ_ _=>rfl)) (pv 1)))
     (pss_cons (ps_asg (pe_op op_fdiv (pe_ix ix_list (pv 0) pe_int (λ_ _=>rfl)) (pv 1)) (pg_sub (pv 0) pe_int set_list (λ_=>rfl))) (pss_one (ps_ret (pv 2))))) pss_nil)
   (pss_cons (ps_set (i:=3) sc__law_draw.nd rfl (Or.inl rfl) (pe_ix ix_list (pv 0) pe_int (λ_ _=>rfl)))
   (pss_cons (ps_asg (pe_op op_add (pv 3) pe_int) (pg_sub (pv 0) pe_int set_list (λ_=>rfl)))
   (pss_cons (ps_set (i:=4) sc__law_draw.nd rfl (Or.inl rfl) (pe_ifExp (pt_cmpR op_gt (pe_callB call_len_seq (by rfl) T.len PySem.boot_len (pa_cons (pe_ix ix_list (pv 0) pe_int (λ_ _=>rfl)) pa_nil)) pe_int (nomark _))
    (pe_ix ix_list (pe_ix ix_list (pv 0) pe_int (λ_ _=>rfl)) (pe_op op_mod (pv 3) (pe_callB call_len_seq (by rfl) T.len PySem.boot_len (pa_cons (pe_ix ix_list (pv 0) pe_int (λ_ _=>rfl)) pa_nil))) (λ_ _=>rfl)) pe_int))
   (pss_cons (ps_if (PW.pt (pw_and (pt_cmpR op_ge (pv 4) (pe_op op_pow pe_int pe_int) (nomark _)) (pw_and1 (pt_cmpR op_lt (pv 3) (pe_callB call_len_seq (by rfl) T.len PySem.boot_len (pa_cons (pe_ix ix_list (pv 0) pe_int (λ_ _=>rfl)) pa_nil)) (nomark _)))))
    (pss_cons (ps_asg (pe_op op_fdiv (pv 4) (pv 1)) (pg_sub (pv 0) pe_int set_list (λ_=>rfl))) (pss_one (ps_ret (pe_op op_mod (pv 4) (pv 1))))) pss_nil)
   (pss_cons (ps_set (i:=5) sc__law_draw.nd rfl (Or.inl rfl) (pe_op op_mod (pe_op op_mul (pe_op op_add (pe_op op_add (pe_op op_add (pe_op op_mod (pv 4) pe_int) (pe_op op_mul (pe_op op_mul pe_int (pv 3)) (pv 3))) (pe_op op_mul pe_int (pv 3))) pe_int) pe_int) pe_int))
   (pss_cons (ps_set (i:=5) sc__law_draw.nd rfl (Or.inl rfl) (pe_op op_mod (pe_op op_add (pe_op op_add (pe_op op_mul (pv 5) (pv 5)) (pe_op op_mul pe_int (pv 3))) pe_int) pe_int))
   (pss_one (ps_ret (pe_op op_mod (pe_op op_fdiv (pe_op op_mod (pe_op op_mul (pv 5) pe_int) pe_int) pe_int) (pv 1)))))))))),?_⟩
  refine ⟨_,rfl,d,_,_,_,rfl,rfl,SqL.of hd,rfl,_,_,rfl,rfl,_,rfl,?_⟩
  refine ite2 (λhleft=>?_) (λhleft=>?_)
  ·have hleft:0<l:=of_decide_eq_true hleft
   refine ⟨_,rfl,d,_,_,_,rfl,rfl,SqL.of hd,rfl,_,rfl,_,_,rfl,rfl,hm,?_⟩
   refine ⟨_,rfl,d,_,_,_,rfl,rfl,SqL.of hd,rfl,_,rfl,_,_,rfl,rfl,⟨hm,hm2⟩,_,rfl,d,_,_,2,rfl,rfl,hd,rfl,_,rfl,?_⟩
   exact k _ _ ⟨ns,a,l / m,t+1⟩ (by rw [hdr,if_pos hleft]) ⟨upd_same,by rw [upd_ne ncd];exact hc,hl63,ha0,by simp only;omega,ndc⟩ (λb o e hb=>by rw [upd_ne hb];exact e)
  ·have hleft:¬ 0<l:=λz=>hleft (decide_eq_true z)
   refine ⟨_,rfl,d,_,_,_,rfl,rfl,SqL.of hd,rfl,?_⟩
   refine ⟨_,rfl,_,_,rfl,rfl,_,rfl,d,_,_,1,rfl,rfl,hd,rfl,?_⟩
   have hd1:(upd H d (.lst [.ref c,.int (a+1),.int l])) d=some (.lst [.ref c,.int (a+1),.int l]):=upd_same
   have hc1:(upd H d (.lst [.ref c,.int (a+1),.int l])) c=some (.lst (ns.map V.int)):=by rw [upd_ne ncd];exact hc
   have kp1:∀ b o,H b=some o->b≠d->(upd H d (.lst [.ref c,.int (a+1),.int l])) b=some o:=λb o e hb=>by rw [upd_ne hb];exact e
   show tSeq _ _ _ _ (upd H d (.lst [.ref c,.int (a+1),.int l]))
   generalize upd H d (.lst [.ref c,.int (a+1),.int l])=H1 at hd1 hc1 kp1
   have big:10 ^ 18≤(FdS.cellL ⟨ns,a,l,t⟩)∧a<ns.length->Q (.int (FdS.cellL ⟨ns,a,l,t⟩ % m)) (upd H1 d (.lst [.ref c,.int (a+1),.int (FdS.cellL ⟨ns,a,l,t⟩ / m)])):=λhb =>
    k _ _ ⟨ns,a+1,FdS.cellL ⟨ns,a,l,t⟩ / m,t+1⟩ (by rw [hdr,if_neg hleft,if_pos hb]) ⟨upd_same,by rw [upd_ne ncd];exact hc1,hl63,by simp only;omega,by simp only;omega,ndc⟩ (λb o e hb=>by rw [upd_ne hb];exact kp1 b o e hb)
   have small:¬ (10 ^ 18≤(FdS.cellL ⟨ns,a,l,t⟩)∧a<ns.length)->Q (.int (FdS.mixL ⟨ns,a,l,t⟩ % m)) H1:=λhb =>
    k _ _ ⟨ns,a+1,l,t+1⟩ (by rw [hdr,if_neg hleft,if_neg hb]) ⟨hd1,hc1,hl63,by simp only;omega,by simp only;omega,ndc⟩ kp1
   unfold FdS.mixL FdS.fst at small
   simp only at small
   refine ⟨_,rfl,d,_,_,_,rfl,rfl,SqL.of hd1,rfl,c,_,rfl,.inl (SqL.of hc1),_,_,rfl,rfl,_,rfl,?_⟩
   refine ite2 (λhne=>?_) (λhe=>?_)
   ·have hne:=of_decide_eq_true hne
    rw [List.length_map] at hne
    have h0:¬ ns=[]:=by intro e;rw [e] at hne;simp at hne
    refine ⟨_,rfl,d,_,_,_,rfl,rfl,SqL.of hd1,rfl,_,rfl,_,rfl,d,_,_,_,rfl,rfl,SqL.of hd1,rfl,c,_,rfl,.inl (SqL.of hc1),_,_,rfl,rfl,(by rw [List.length_map];exact hne),c,_,_,_,rfl,rfl,SqL.of hc1,cellL_at (F:=⟨ns,a,l,t⟩) h0,?_⟩
    generalize FdS.cellL ⟨ns,a,l,t⟩=z at big small
    obtain ⟨q1,q2⟩:=mod_lt (x:=(z % 1000003+47 * a * a+31 * a+907) * 40009) (m:=999961) (by decide)
    have tl:¬ (10 ^ 18≤(z:Int)∧a<ns.length)->Q (.int (((z % 1000003+47 * a * a+31 * a+907) * 40009 % 999961 * ((z % 1000003+47 * a * a+31 * a+907) * 40009 % 999961)+38317 * a+101) % 2097143 * 48271 % 2147483629 / 7 % m)) H1:=small
    refine ⟨_,rfl,_,_,rfl,rfl,⟨by decide,by decide,by decide⟩,_,_,rfl,rfl,_,rfl,?_⟩
    refine ite2 (λhb1=>⟨_,rfl,_,rfl,d,_,_,_,rfl,rfl,SqL.of hd1,rfl,c,_,rfl,.inl (SqL.of hc1),_,_,rfl,rfl,_,rfl,ite2 (λhb2=>?_) (λhb2=>?_)⟩) (λhb1=>iteF ?_)
    ·have hb1:=of_decide_eq_true hb1
     have hb2:=of_decide_eq_true hb2
     rw [List.length_map] at hb2
     exact ⟨_,rfl,_,rfl,_,_,rfl,rfl,⟨hm,hm2⟩,_,rfl,d,_,_,2,rfl,rfl,hd1,rfl,_,rfl,_,rfl,_,_,rfl,rfl,hm,big ⟨hb1,hb2⟩⟩
    ·have hq:=tl λhb=>hb2 (decide_eq_true (by rw [List.length_map];exact hb.2))
     refine ⟨_,rfl,_,_,rfl,rfl,(by show (0:Int)<1000003;decide),_,rfl,_,_,rfl,rfl,.inl ⟨by decide,by decide⟩,_,rfl,_,_,rfl,rfl,.inr ⟨by omega,by omega⟩,_,_,rfl,rfl,_,rfl,_,_,rfl,rfl,.inl ⟨by decide,by decide⟩,_,_,rfl,rfl,_,_,rfl,rfl,_,_,rfl,rfl,.inr ⟨by decide,by decide⟩,_,_,rfl,rfl,(by show (0:Int)<999961;decide),?_⟩
     refine ⟨_,rfl,_,rfl,_,_,rfl,rfl,.inl ⟨by omega,by omega⟩,_,rfl,_,_,rfl,rfl,.inl ⟨by decide,by decide⟩,_,_,rfl,rfl,_,_,rfl,rfl,_,_,rfl,rfl,(by show (0:Int)<2097143;decide),?_⟩
     exact ⟨_,rfl,_,_,rfl,rfl,.inr ⟨by decide,by decide⟩,_,_,rfl,rfl,(by show (0:Int)<2147483629;decide),_,_,rfl,rfl,⟨by decide,by decide⟩,_,rfl,_,_,rfl,rfl,hm,hq⟩
    ·have hq:=tl λhb=>hb1 (decide_eq_true hb.1)
     refine ⟨_,rfl,_,_,rfl,rfl,(by show (0:Int)<1000003;decide),_,rfl,_,_,rfl,rfl,.inl ⟨by decide,by decide⟩,_,rfl,_,_,rfl,rfl,.inr ⟨by omega,by omega⟩,_,_,rfl,rfl,_,rfl,_,_,rfl,rfl,.inl ⟨by decide,by decide⟩,_,_,rfl,rfl,_,_,rfl,rfl,_,_,rfl,rfl,.inr ⟨by decide,by decide⟩,_,_,rfl,rfl,(by show (0:Int)<999961;decide),?_⟩
     refine ⟨_,rfl,_,rfl,_,_,rfl,rfl,.inl ⟨by omega,by omega⟩,_,rfl,_,_,rfl,rfl,.inl ⟨by decide,by decide⟩,_,_,rfl,rfl,_,_,rfl,rfl,_,_,rfl,rfl,(by show (0:Int)<2097143;decide),?_⟩
     exact ⟨_,rfl,_,_,rfl,rfl,.inr ⟨by decide,by decide⟩,_,_,rfl,rfl,(by show (0:Int)<2147483629;decide),_,_,rfl,rfl,⟨by decide,by decide⟩,_,rfl,_,_,rfl,rfl,hm,hq⟩
   ·have hne:¬ (0:Int)<(ns.map V.int).length:=λz=>he (decide_eq_true z)
    have h0:ns=[]:=by
     cases ns with
     | nil=>rfl
     | cons x y=>exact absurd (by simp only [List.length_map,List.length_cons];omega) hne
    have hcell:FdS.cellL ⟨ns,a,l,t⟩=0:=by unfold FdS.cellL;rw [if_pos h0]
    rw [hcell] at big small
    obtain ⟨q1,q2⟩:=mod_lt (x:=((0:Int) % 1000003+47 * a * a+31 * a+907) * 40009) (m:=999961) (by decide)
    have tl:¬ (10 ^ 18≤((0:Int):Int)∧a<ns.length)->Q (.int ((((0:Int) % 1000003+47 * a * a+31 * a+907) * 40009 % 999961 * (((0:Int) % 1000003+47 * a * a+31 * a+907) * 40009 % 999961)+38317 * a+101) % 2097143 * 48271 % 2147483629 / 7 % m)) H1:=small
    refine ⟨_,rfl,_,_,rfl,rfl,⟨by decide,by decide,by decide⟩,_,_,rfl,rfl,_,rfl,?_⟩
    refine ite2 (λhb1=>⟨_,rfl,_,rfl,d,_,_,_,rfl,rfl,SqL.of hd1,rfl,c,_,rfl,.inl (SqL.of hc1),_,_,rfl,rfl,_,rfl,ite2 (λhb2=>?_) (λhb2=>?_)⟩) (λhb1=>iteF ?_)
    ·have hb1:=of_decide_eq_true hb1
     have hb2:=of_decide_eq_true hb2
     rw [List.length_map] at hb2
     exact ⟨_,rfl,_,rfl,_,_,rfl,rfl,⟨hm,hm2⟩,_,rfl,d,_,_,2,rfl,rfl,hd1,rfl,_,rfl,_,rfl,_,_,rfl,rfl,hm,big ⟨hb1,hb2⟩⟩
    ·have hq:=tl λhb=>hb2 (decide_eq_true (by rw [List.length_map];exact hb.2))
     refine ⟨_,rfl,_,_,rfl,rfl,(by show (0:Int)<1000003;decide),_,rfl,_,_,rfl,rfl,.inl ⟨by decide,by decide⟩,_,rfl,_,_,rfl,rfl,.inr ⟨by omega,by omega⟩,_,_,rfl,rfl,_,rfl,_,_,rfl,rfl,.inl ⟨by decide,by decide⟩,_,_,rfl,rfl,_,_,rfl,rfl,_,_,rfl,rfl,.inr ⟨by decide,by decide⟩,_,_,rfl,rfl,(by show (0:Int)<999961;decide),?_⟩
     refine ⟨_,rfl,_,rfl,_,_,rfl,rfl,.inl ⟨by omega,by omega⟩,_,rfl,_,_,rfl,rfl,.inl ⟨by decide,by decide⟩,_,_,rfl,rfl,_,_,rfl,rfl,_,_,rfl,rfl,(by show (0:Int)<2097143;decide),?_⟩
     exact ⟨_,rfl,_,_,rfl,rfl,.inr ⟨by decide,by decide⟩,_,_,rfl,rfl,(by show (0:Int)<2147483629;decide),_,_,rfl,rfl,⟨by decide,by decide⟩,_,rfl,_,_,rfl,rfl,hm,hq⟩
    ·have hq:=tl λhb=>hb1 (decide_eq_true hb.1)
     refine ⟨_,rfl,_,_,rfl,rfl,(by show (0:Int)<1000003;decide),_,rfl,_,_,rfl,rfl,.inl ⟨by decide,by decide⟩,_,rfl,_,_,rfl,rfl,.inr ⟨by omega,by omega⟩,_,_,rfl,rfl,_,rfl,_,_,rfl,rfl,.inl ⟨by decide,by decide⟩,_,_,rfl,rfl,_,_,rfl,rfl,_,_,rfl,rfl,.inr ⟨by decide,by decide⟩,_,_,rfl,rfl,(by show (0:Int)<999961;decide),?_⟩
     refine ⟨_,rfl,_,rfl,_,_,rfl,rfl,.inl ⟨by omega,by omega⟩,_,rfl,_,_,rfl,rfl,.inl ⟨by decide,by decide⟩,_,_,rfl,rfl,_,_,rfl,rfl,_,_,rfl,rfl,(by show (0:Int)<2097143;decide),?_⟩
     exact ⟨_,rfl,_,_,rfl,rfl,.inr ⟨by decide,by decide⟩,_,_,rfl,rfl,(by show (0:Int)<2147483629;decide),_,_,rfl,rfl,⟨by decide,by decide⟩,_,rfl,_,_,rfl,rfl,hm,hq⟩
theorem sc__law_flow:FnScope ["_law_feed_here","_law_many","_law_lots","_law_above","_law_last"] ["_law_feed_here"] (defScope s__law_flow):=⟨rfl,rfl,rfl,by decide +kernel,rfl,by decide +kernel,by decide +kernel⟩
noncomputable def f__law_flow:List DV->M PyData:=runD ["_law_feed_here","_law_many","_law_lots","_law_above","_law_last"] (mSq (mSet 1 (sCall drawS (vF 0 (vD (sC (.int 9)) vNil))))
  (mSq (mOwn 2 (fCat (sC (.list [.int 0])) (sLC (mRng1 (sCons (sV 1) sNil)) 1 [0] (bN 0) uYes (sCall drawS (vF 1 (vD (s2 ixD (sC (.list [.int 2,.int 5,.int 13])) (sCall drawS (vF 1 (vD (sC (.int 3)) vNil)))) vNil))))))
  (mSq (mSet 3 (sN sumD' (sCons (sLC (mEnum (sW 2)) 2 [] (bTup 2 (bCons (bN 0) (bCons (bN 1) bNil))) uYes (s2 mulD' (s2 subD (sW 0) (sC (.int 1))) (sW 1))) sNil)))
  (mSq (mWh (uB (s2 gtD (sW 3) (sC (.int 10)))) (mSq (mOwn 2 (fCut (sW 2) oNo (oI (s1 negD (sC (.int 1))))))
  (mSet 3 (sN sumD' (sCons (sLC (mEnum (sW 2)) 2 [] (bTup 2 (bCons (bN 0) (bCons (bN 1) bNil))) uYes (s2 mulD' (s2 subD (sW 0) (sC (.int 1))) (sW 1))) sNil)))))
  (mSq (mPut 2 (s2 addD (s2 addD (sW 3) (sC (.int 1))) (sCall drawS (vF 0 (vD (s2 subD (sC (.int 12)) (sW 3)) vNil)))) (sC (.int 0)))
  (mSq (mSet 4 (sN maxD (sCons (sLC (mRng1 (sCons (sN lenD (sCons (sW 2) sNil)) sNil)) 1 [2] (bN 0) (uB (s2 gtD (s2 ixD (sW 1) (sW 0)) (sC (.int 0)))) (sV 0)) sNil)))
  (mRt (sN tupleD (sCons (sCut (sW 2) oNo (oI (s2 addD (sW 4) (sC (.int 1))))) sNil)))))))))
theorem ok__law_flow {f:Addr}{fd:FuncData}(Fn:Fun K "_law_flow" "_law_flow" s__law_flow f fd)(T:Txt K mg)(C__law_draw:Callee P w K mg base "_law_draw" 1 ["_law_feed_here","_law_many"] (spD K 2 drawS)):FnOk P w K mg base CX0 2 f fd ["_law_feed_here"] (spD K 1 f__law_flow):=by
 refine def_ok Fn sc__law_flow λcdv A outer s H E hr=>?_
 have hu5:(A.deeper (PyProof.Rows.envOfC "_law_flow" (defScope s__law_flow) s.heap.objs.size f cdv)).units+65<cLine:=by have:=hr.un;omega
 exact ⟨_,(ss_cons (st_set 1 sc__law_flow.nd (ev_call C__law_draw (hr.mono (by decide)) (av_f 0 (av_d ev_int av_nil)) (ln_f (ln_d ln_nil))))
   (ss_cons (st_own 2 sc__law_flow.nd (ef_cat (Ev.bw (ev_k (.list [.int 0]) rfl)) (Ev.bw (ev_lc (osc:=(defScope s__law_flow)) (N:=["_law_k","_law_feed_here"]) (k:=1) (cap:=[0]) rfl rfl ⟨rfl,by decide +kernel,by decide +kernel,by decide +kernel,rfl,rfl,by decide +kernel⟩ (Ei.bw (ei_rng1 (ea_cons (ev_v 1) ea_nil) T.range)) (λcl C ex pins s H=>(eg_n (i:=0) (show List.Nodup (["_law_k","_law_feed_here"]:List Str) by decide +kernel))) (λcl C ex pins s H=>ets_nil) (λcl C ex pins s H=>(ev_call C__law_draw (hr.mono (by decide)) (av_f 1 (av_d (ev_ix (id_ix rfl) (Ev.bw (ev_k (.list [.int 2,.int 5,.int 13]) rfl)) (Ev.bw (ev_call C__law_draw (hr.mono (by decide)) (av_f 1 (av_d ev_int av_nil)) (ln_f (ln_d ln_nil))))) av_nil)) (ln_f (ln_d ln_nil))))))))
   (ss_cons (st_set 3 sc__law_flow.nd (ev_callB (cd_sum' rfl rfl) T.sum bt_sum (es_cons (Ev.bw (ev_lc (osc:=(defScope s__law_flow)) (N:=["_law_k","_law_lot"]) (k:=2) (cap:=[]) rfl rfl ⟨rfl,by decide +kernel,by decide +kernel,by decide +kernel,rfl,rfl,by decide +kernel⟩ (eib_enum (eb_v 2) T.enumerate) (λcl C ex pins s H=>(eg_tup (n:=2) rfl (egs_cons (eg_n (i:=0) (show List.Nodup (["_law_k","_law_lot"]:List Str) by decide +kernel)) (egs_cons (eg_n (i:=1) (show List.Nodup (["_law_k","_law_lot"]:List Str) by decide +kernel)) egs_nil)))) (λcl C ex pins s H=>ets_nil) (λcl C ex pins s H=>(ev_op (od_mul' rfl) (Ev.bw (ev_op od_sub (eb_v 0) (Ev.bw ev_int))) (eb_v 1))))) es_nil)))
   (ss_cons (st_while (et_cmp od_gt (eb_v 3) (Ev.bw ev_int)) (ss_cons (st_own 2 sc__law_flow.nd (ef_cut (eb_v 2) eo_no (eo_i (ev_un ud_neg (Ev.bw ev_int)))))
   (ss_one (st_set 3 sc__law_flow.nd (ev_callB (cd_sum' rfl rfl) T.sum bt_sum (es_cons (Ev.bw (ev_lc (osc:=(defScope s__law_flow)) (N:=["_law_k","_law_lot"]) (k:=2) (cap:=[]) rfl rfl ⟨rfl,by decide +kernel,by decide +kernel,by decide +kernel,rfl,rfl,by decide +kernel⟩ (eib_enum (eb_v 2) T.enumerate) (λcl C ex pins s H=>(eg_tup (n:=2) rfl (egs_cons (eg_n (i:=0) (show List.Nodup (["_law_k","_law_lot"]:List Str) by decide +kernel)) (egs_cons (eg_n (i:=1) (show List.Nodup (["_law_k","_law_lot"]:List Str) by decide +kernel)) egs_nil)))) (λcl C ex pins s H=>ets_nil) (λcl C ex pins s H=>(ev_op (od_mul' rfl) (Ev.bw (ev_op od_sub (eb_v 0) (Ev.bw ev_int))) (eb_v 1))))) es_nil))))))
   (ss_cons (st_put 2 (ev_op (od_add rfl) (Ev.bw (ev_op (od_add rfl) (eb_v 3) (Ev.bw ev_int))) (Ev.bw (ev_call C__law_draw (hr.mono (by decide)) (av_f 0 (av_d (ev_op od_sub (Ev.bw ev_int) (eb_v 3)) av_nil)) (ln_f (ln_d ln_nil))))) ev_int)
   (ss_cons (st_set 4 sc__law_flow.nd (ev_callB (cd_max rfl rfl) T.max bt_max (es_cons (Ev.bw (ev_lc (osc:=(defScope s__law_flow)) (N:=["_law_k","_law_lots"]) (k:=1) (cap:=[2]) rfl rfl ⟨rfl,by decide +kernel,by decide +kernel,by decide +kernel,rfl,rfl,by decide +kernel⟩ (Ei.bw (ei_rng1 (ea_cons (ev_callB (cd_len rfl) T.len bt_len (es_cons (eb_v 2) es_nil)) ea_nil) T.range)) (λcl C ex pins s H=>(eg_n (i:=0) (show List.Nodup (["_law_k","_law_lots"]:List Str) by decide +kernel))) (λcl C ex pins s H=>(ets_one (et_cmp od_gt (Ev.bw (ev_ix (id_ix rfl) (eb_v 1) (eb_v 0))) (Ev.bw ev_int)))) (λcl C ex pins s H=>(ev_v 0)))) es_nil)))
   (ss_one (st_ret (ev_callT (cd_tuple rfl) T.tuple bt_tuple (es_cons (Ev.bw (ev_cut (eb_v 2) eo_no (eo_i (ev_op (od_add rfl) (eb_v 4) (Ev.bw ev_int))))) es_nil))))))))))⟩
theorem sc__law_stays:FnScope ["_law_flow_here","_law_row","_law_k","_law_due","_law_j"] ["_law_flow_here","_law_row"] (defScope s__law_stays):=⟨rfl,rfl,rfl,by decide +kernel,rfl,by decide +kernel,by decide +kernel⟩
noncomputable def f__law_stays:List DV->M PyData:=runD ["_law_flow_here","_law_row","_law_k","_law_due","_law_j"] (mSq (mFor (mRng1 (sCons (s2 subD (sN lenD (sCons (sW 1) sNil)) (sC (.int 1))) sNil)) (bN 2) (mSq (mSet 3 (sCall f_times (vD (s2 ixD (sW 1) (sC (.int 0))) (vD (sCall f_share_of (vD (sV 0) (vD (s2 addD (sW 2) (sC (.int 1))) vNil))) vNil))))
  (mSq (mIf (uB (s2 (eqD false) (sW 2) (sC (.int 0)))) (mSet 3 (sCall f_plus (vD (sV 3) (vD (sCall f_times (vD (s2 ixD (sW 1) (sC (.int 0))) (vD (sCall f_share_of (vD (sV 0) (vD (sC (.int 0)) vNil))) vNil))) vNil)))) mNx)
  (mSq (mFor (mRng2 (sCons (sC (.int 1)) (sCons (s2 addD (sW 2) (sC (.int 2))) sNil))) (bN 4) (mSet 3 (sCall f_plus (vD (sV 3) (vD (sCall f_times (vD (s2 ixD (sW 1) (sW 4)) (vD (sCall f_share_of (vD (sV 0) (vD (s2 subD (s2 addD (sW 2) (sC (.int 1))) (sW 4)) vNil))) vNil))) vNil)))))
  (mIf (uB (s2 (eqD true) (sN reprD (sCons (sW 3) sNil)) (sN reprD (sCons (s2 ixD (sW 1) (sW 2)) sNil)))) (mRt (sC (.bool false))) mNx)))))
  (mRt (sC (.bool true))))
theorem ok__law_stays {f:Addr}{fd:FuncData}(Fn:Fun K "_law_stays" "_law_stays" s__law_stays f fd)(T:Txt K mg)(C_times:Callee P w K mg base "times" 3 ["one","other"] (spD K 2 f_times))(C_share_of:Callee P w K mg base "share_of" 3 ["flow","k"] (spD K 2 f_share_of))(C_plus:Callee P w K mg base "plus" 3 ["one","other"] (spD K 2 f_plus)):FnOk P w K mg base CX0 4 f fd ["_law_flow_here","_law_row"] (spD K 2 f__law_stays):=by
 refine def_ok Fn sc__law_stays λcdv A outer s H E hr=>?_
 have hu5:(A.deeper (PyProof.Rows.envOfC "_law_stays" (defScope s__law_stays) s.heap.objs.size f cdv)).units+65<cLine:=by have:=hr.un;omega
 exact ⟨_,(ss_cons (st_for rfl (ei_rng1 (ea_cons (ev_op od_sub (Ev.bw (ev_callB (cd_len rfl) T.len bt_len (es_cons (eb_v 1) es_nil))) (Ev.bw ev_int)) ea_nil) T.range) (eg_n (i:=2) sc__law_stays.nd) (ss_cons (st_set 3 sc__law_stays.nd (ev_call C_times (hr.mono (by decide)) (av_d (ev_ix (id_ix rfl) (eb_v 1) (Ev.bw ev_int)) (av_d (ev_call C_share_of (hr.mono (by decide)) (av_d (ev_v 0) (av_d (ev_op (od_add rfl) (eb_v 2) (Ev.bw ev_int)) av_nil)) (ln_d (ln_d ln_nil))) av_nil)) (ln_d (ln_d ln_nil))))
   (ss_cons (st_if (et_cmp (od_eq rfl hr.units) (eb_v 2) (Ev.bw ev_int)) (ss_one (st_set 3 sc__law_stays.nd (ev_call C_plus (hr.mono (by decide)) (av_d (ev_v 3) (av_d (ev_call C_times (hr.mono (by decide)) (av_d (ev_ix (id_ix rfl) (eb_v 1) (Ev.bw ev_int)) (av_d (ev_call C_share_of (hr.mono (by decide)) (av_d (ev_v 0) (av_d ev_int av_nil)) (ln_d (ln_d ln_nil))) av_nil)) (ln_d (ln_d ln_nil))) av_nil)) (ln_d (ln_d ln_nil))))) ss_nil)
   (ss_cons (st_for rfl (ei_rng2 (ea_cons ev_int (ea_cons (ev_op (od_add rfl) (eb_v 2) (Ev.bw ev_int)) ea_nil)) T.range) (eg_n (i:=4) sc__law_stays.nd) (ss_one (st_set 3 sc__law_stays.nd (ev_call C_plus (hr.mono (by decide)) (av_d (ev_v 3) (av_d (ev_call C_times (hr.mono (by decide)) (av_d (ev_ix (id_ix rfl) (eb_v 1) (eb_v 4)) (av_d (ev_call C_share_of (hr.mono (by decide)) (av_d (ev_v 0) (av_d (ev_op od_sub (Ev.bw (ev_op (od_add rfl) (eb_v 2) (Ev.bw ev_int))) (eb_v 4)) av_nil)) (ln_d (ln_d ln_nil))) av_nil)) (ln_d (ln_d ln_nil))) av_nil)) (ln_d (ln_d ln_nil))))))
   (ss_one (st_if (et_cmp (od_ne rfl hr.units) (Ev.bw (ev_callB (cd_repr rfl hr.gd hr.units) T.repr bt_repr (es_cons (eb_v 3) es_nil))) (Ev.bw (ev_callB (cd_repr rfl hr.gd hr.units) T.repr bt_repr (es_cons (Ev.bw (ev_ix (id_ix rfl) (eb_v 1) (eb_v 2))) es_nil)))) (ss_one (st_ret ev_bl)) ss_nil))))))
   (ss_one (st_ret ev_bl)))⟩
theorem sc__law_sums_right:FnScope ["_law_flow_here","_law_row","_law_whole","_law_works","_law_k","_law_middle"] ["_law_flow_here","_law_row"] (defScope s__law_sums_right):=⟨rfl,rfl,rfl,by decide +kernel,rfl,by decide +kernel,by decide +kernel⟩
noncomputable def f__law_sums_right:List DV->M PyData:=runD ["_law_flow_here","_law_row","_law_whole","_law_works","_law_k","_law_middle"] (mSq (mSet 2 (sC (.tuple [.int 0,.int 1])))
  (mSq (mSet 3 (sC (.tuple [.int 0,.int 1])))
  (mSq (mFor (mRng1 (sCons (sN lenD (sCons (sW 1) sNil)) sNil)) (bN 4) (mSq (mIf (uT (sCall f_less (vD (s2 ixD (sW 1) (sW 4)) (vD (sC (.tuple [.int 0,.int 1])) vNil)))) (mRt (sC (.bool false))) mNx)
  (mSq (mSet 2 (sCall f_plus (vD (sV 2) (vD (s2 ixD (sW 1) (sW 4)) vNil))))
  (mSet 3 (sCall f_plus (vD (sV 3) (vD (sCall f_times (vD (sTup (sCons (sV 4) (sCons (sC (.int 1)) sNil))) (vD (s2 ixD (sW 1) (sW 4)) vNil))) vNil)))))))
  (mSq (mSet 5 (sCall f_mean_standing (vD (sV 0) vNil)))
  (mSq (mIf (uOr (uT (sCall f_less (vD (sC (.tuple [.int 1,.int 1])) (vD (sV 2) vNil)))) (uT (sCall f_less (vD (sV 5) (vD (sV 3) vNil))))) (mRt (sC (.bool false))) mNx)
  (mRt (sNot (sCall f_less (vD (sV 2) (vD (sCall f_minus (vD (sC (.tuple [.int 1,.int 1])) (vD (sCall f_over (vD (sV 5) (vD (sTup (sCons (sN lenD (sCons (sW 1) sNil)) (sCons (sC (.int 1)) sNil))) vNil))) vNil))) vNil))))))))))
theorem ok__law_sums_right {f:Addr}{fd:FuncData}(Fn:Fun K "_law_sums_right" "_law_sums_right" s__law_sums_right f fd)(T:Txt K mg)(C_less:Callee P w K mg base "less" 1 ["one","other"] (spD K 2 f_less))(C_plus:Callee P w K mg base "plus" 3 ["one","other"] (spD K 2 f_plus))(C_times:Callee P w K mg base "times" 3 ["one","other"] (spD K 2 f_times))(C_mean_standing:Callee P w K mg base "mean_standing" 7 ["flow"] (spD K 1 f_mean_standing))(C_minus:Callee P w K mg base "minus" 3 ["one","other"] (spD K 2 f_minus))(C_over:Callee P w K mg base "over" 3 ["one","other"] (spD K 2 f_over)):FnOk P w K mg base CX0 8 f fd ["_law_flow_here","_law_row"] (spD K 2 f__law_sums_right):=by
 refine def_ok Fn sc__law_sums_right λcdv A outer s H E hr=>?_
 have hu5:(A.deeper (PyProof.Rows.envOfC "_law_sums_right" (defScope s__law_sums_right) s.heap.objs.size f cdv)).units+65<cLine:=by have:=hr.un;omega
 exact ⟨_,(ss_cons (st_set 2 sc__law_sums_right.nd (ev_k (.tuple [.int 0,.int 1]) rfl))
   (ss_cons (st_set 3 sc__law_sums_right.nd (ev_k (.tuple [.int 0,.int 1]) rfl))
   (ss_cons (st_for rfl (ei_rng1 (ea_cons (ev_callB (cd_len rfl) T.len bt_len (es_cons (eb_v 1) es_nil)) ea_nil) T.range) (eg_n (i:=4) sc__law_sums_right.nd) (ss_cons (st_if (et_val (Ev.bw (ev_call C_less (hr.mono (by decide)) (av_d (ev_ix (id_ix rfl) (eb_v 1) (eb_v 4)) (av_d (ev_k (.tuple [.int 0,.int 1]) rfl) av_nil)) (ln_d (ln_d ln_nil))))) (ss_one (st_ret ev_bl)) ss_nil)
   (ss_cons (st_set 2 sc__law_sums_right.nd (ev_call C_plus (hr.mono (by decide)) (av_d (ev_v 2) (av_d (ev_ix (id_ix rfl) (eb_v 1) (eb_v 4)) av_nil)) (ln_d (ln_d ln_nil))))
   (ss_one (st_set 3 sc__law_sums_right.nd (ev_call C_plus (hr.mono (by decide)) (av_d (ev_v 3) (av_d (ev_call C_times (hr.mono (by decide)) (av_d (ev_tup (ea_cons (ev_v 4) (ea_cons ev_int ea_nil))) (av_d (ev_ix (id_ix rfl) (eb_v 1) (eb_v 4)) av_nil)) (ln_d (ln_d ln_nil))) av_nil)) (ln_d (ln_d ln_nil))))))))
   (ss_cons (st_set 5 sc__law_sums_right.nd (ev_call C_mean_standing (hr.mono (by decide)) (av_d (ev_v 0) av_nil) (ln_d ln_nil)))
   (ss_cons (st_if (Ew.t (ew_or (et_val (Ev.bw (ev_call C_less (hr.mono (by decide)) (av_d (ev_k (.tuple [.int 1,.int 1]) rfl) (av_d (ev_v 2) av_nil)) (ln_d (ln_d ln_nil))))) (ew_or1 (et_val (Ev.bw (ev_call C_less (hr.mono (by decide)) (av_d (ev_v 5) (av_d (ev_v 3) av_nil)) (ln_d (ln_d ln_nil)))))))) (ss_one (st_ret ev_bl)) ss_nil)
   (ss_one (st_ret (ev_not (ev_call C_less (hr.mono (by decide)) (av_d (ev_v 2) (av_d (ev_call C_minus (hr.mono (by decide)) (av_d (ev_k (.tuple [.int 1,.int 1]) rfl) (av_d (ev_call C_over (hr.mono (by decide)) (av_d (ev_v 5) (av_d (ev_tup (ea_cons (ev_callB (cd_len rfl) T.len bt_len (es_cons (eb_v 1) es_nil)) (ea_cons ev_int ea_nil))) av_nil)) (ln_d (ln_d ln_nil))) av_nil)) (ln_d (ln_d ln_nil))) av_nil)) (ln_d (ln_d ln_nil)))))))))))⟩
theorem sc__law_lets:FnScope ["_law_flow_here","_law_thing","_law_found","e"] ["_law_flow_here","_law_thing"] (defScope s__law_lets):=⟨rfl,rfl,rfl,by decide +kernel,rfl,by decide +kernel,by decide +kernel⟩
noncomputable def f__law_lets:List DV->M PyData:=runD ["_law_flow_here","_law_thing","_law_found","e"] (mSq (mSet 2 (sC .none))
  (mSq (mTry 2 "told" f_lets_steps (vD (sV 0) (vD (sV 1) vNil)) (hdB "NoPaper" 3 2 [.inl "no",.inr "word",.inr "number"]))
  (mRt (sV 2))))
theorem ok__law_lets {f:Addr}{fd:FuncData}(Fn:Fun K "_law_lets" "_law_lets" s__law_lets f fd)(T:Txt K mg)(C_lets_steps:CalleeX P w K mg base "lets_steps" 6 ["flow","thing"] (spX K mg 2 f_lets_steps)):FnOk P w K mg base CX0 7 f fd ["_law_flow_here","_law_thing"] (spD K 2 f__law_lets):=by
 refine def_ok Fn sc__law_lets λcdv A outer s H E hr=>?_
 have hu5:(A.deeper (PyProof.Rows.envOfC "_law_lets" (defScope s__law_lets) s.heap.objs.size f cdv)).units+65<cLine:=by have:=hr.un;omega
 obtain ⟨Wt_NoPaper,Cl_NoPaper,fi_NoPaper,cl_NoPaper,hW_NoPaper,hA_NoPaper,ecl_NoPaper,eini_NoPaper,efit_NoPaper⟩:=T.err_NoPaper
 obtain ⟨Ce_NoPaper,hS_NoPaper,exs_NoPaper⟩:=T.exs_NoPaper
 have eS_NoPaper:Ce_NoPaper=Cl_NoPaper:=by have z:=hS_NoPaper.symm.trans efit_NoPaper.mgc;cases z;rfl
 subst eS_NoPaper
 exact ⟨_,(ss_cons (st_set 2 sc__law_lets.nd ev_non)
   (ss_cons (st_try 2 3 C_lets_steps (hr.mono (by decide)) (λpn xe=>(av_d (ev_v 0) (av_d (ev_v 1) av_nil))) (ln_d (ln_d ln_nil)) (su_B (its:=[.inl "no",.inr "word",.inr "number"]) efit_NoPaper (by decide) (by decide) (by decide)) (λe C1 fs pn xe hC hh=>by subst hC;exact pss_B (pi_str (pi_fld hh (pi_fld hh pi_nil))) sc__law_lets.nd) (λC1 hC=>by subst hC;exact ⟨efit_NoPaper.cat,efit_NoPaper.hd,exs_NoPaper⟩) hS_NoPaper sc__law_lets.nd)
   (ss_one (st_ret (ev_v 2)))))⟩
end
end K62
namespace K62
open PySem L2 L3
noncomputable section
variable {P:Program}{w:World}{K:PySem.W.Frag}{mg:Str->Option Value}{base:Heap}
theorem sc_law:FnScope ["_law_script","_law_feed_here","_law_n","_law_flow_here","_law_row","_law_fewer","_law_begun","_law_other","_law_same","_law_found"] ["_law_script"] (defScope s_law):=⟨rfl,rfl,rfl,by decide +kernel,rfl,by decide +kernel,by decide +kernel⟩
noncomputable def m_law_1:DE->M Out:=(mSet 2 (sCall drawS (vF 1 (vD (sC (.int 17)) vNil))))
noncomputable def m_law_2:DE->M Out:=(mSet 3 (sCall f__law_flow (vF 1 vNil)))
noncomputable def m_law_3:DE->M Out:=(mIf (uB (s2 (eqD true) (sN reprD (sCons (sCall f_word_of (vD (sV 3) (vD (sC (.int 1)) vNil))) sNil)) (sN reprD (sCons (sC (.str "rests")) sNil)))) (mRt (sC (.bool false))) mNx)
noncomputable def m_law_4:DE->M Out:=(mSet 4 (sCall f_step_row (vD (sV 3) (vD (sV 2) vNil))))
noncomputable def m_law_5:DE->M Out:=(mIf (uOr (uNot (uT (s1 (isinD "tuple") (sW 4)))) (uOr (uB (s2 (eqD true) (sN lenD (sCons (sW 4) sNil)) (s2 addD (sW 2) (sC (.int 1))))) (uOr (uNot (uT (sCall f__law_stays (vD (sV 3) (vD (sV 4) vNil))))) (uNot (uT (sCall f__law_sums_right (vD (sV 3) (vD (sV 4) vNil)))))))) (mRt (sC (.bool false))) mNx)
noncomputable def m_law_6:DE->M Out:=(mSet 5 (sCall drawS (vF 1 (vD (s2 addD (sW 2) (sC (.int 1))) vNil))))
noncomputable def m_law_7:DE->M Out:=(mSet 6 (sCut (sW 4) oNo (oI (s2 addD (sW 5) (sC (.int 1))))))
noncomputable def m_law_8:DE->M Out:=(mIf (uOr (uB (s2 (eqD true) (sN reprD (sCons (sCall f_step_row (vD (sV 3) (vD (sV 5) vNil))) sNil)) (sN reprD (sCons (sW 6) sNil)))) (uB (s2 (eqD true) (sN reprD (sCons (sCall f__law_lets (vD (sV 3) (vD (sV 6) vNil))) sNil)) (sN reprD (sCons (sC (.tuple [.str "told",.bool true])) sNil))))) (mRt (sC (.bool false))) mNx)
noncomputable def m_law_9:DE->M Out:=(mIf (uB (s2 (eqD true) (sN reprD (sCons (sCall f__law_lets (vD (sV 3) (vD (sV 4) vNil))) sNil)) (sN reprD (sCons (sC (.tuple [.str "told",.bool true])) sNil)))) (mRt (sC (.bool false))) mNx)
noncomputable def m_law_10:DE->M Out:=(mSet 7 (sCall f__law_flow (vF 1 vNil)))
noncomputable def m_law_11:DE->M Out:=(mSet 8 (s2 (eqD false) (sN reprD (sCons (sCall f_step_row (vD (sV 7) (vD (sV 2) vNil))) sNil)) (sN reprD (sCons (sW 4) sNil))))
noncomputable def m_law_12:DE->M Out:=(mSet 9 (sCall f__law_lets (vD (sV 7) (vD (sV 4) vNil))))
noncomputable def m_law_13:DE->M Out:=(mRt (sIf (uT (sW 8)) (s2 (eqD false) (sN reprD (sCons (sW 9) sNil)) (sN reprD (sCons (sC (.tuple [.str "told",.bool true])) sNil))) (s2 (eqD false) (s2 ixD (sW 9) (sC (.int 0))) (sC (.str "no")))))
section
variable {f:Addr}{cdv:Value}{A:Around}{outer:List Env}{s:Shared}{H:Hp}{E:XK}(T:Txt K mg)(hr:Room 8 (A.deeper (PyProof.Rows.envOfC "law" (defScope s_law) s.heap.objs.size f cdv)))(hu5:(A.deeper (PyProof.Rows.envOfC "law" (defScope s_law) s.heap.objs.size f cdv)).units+65<cLine)(C__law_draw:Callee P w K mg base "_law_draw" 1 ["_law_feed_here","_law_many"] (spD K 2 drawS))(C__law_flow:Callee P w K mg base "_law_flow" 2 ["_law_feed_here"] (spD K 1 f__law_flow))(C_word_of:Callee P w K mg base "word_of" 5 ["flow","hands"] (spD K 2 f_word_of))(C_step_row:Callee P w K mg base "step_row" 7 ["flow","n"] (spD K 2 f_step_row))(C__law_stays:Callee P w K mg base "_law_stays" 4 ["_law_flow_here","_law_row"] (spD K 2 f__law_stays))(C__law_sums_right:Callee P w K mg base "_law_sums_right" 8 ["_law_flow_here","_law_row"] (spD K 2 f__law_sums_right))(C__law_lets:Callee P w K mg base "_law_lets" 7 ["_law_flow_here","_law_thing"] (spD K 2 f__law_lets))
include T hr hu5 C__law_draw C__law_flow C_word_of C_step_row C__law_stays C__law_sums_right C__law_lets
theorem ok_law_1:∃ ts,Ss K (cxOf CX0 P w K mg base ["_law_script","_law_feed_here","_law_n","_law_flow_here","_law_row","_law_fewer","_law_begun","_law_other","_law_same","_law_found"] "law" (defScope s_law) f cdv A outer s H E).nox ((defBody s_law).getD 1 (.Pass ⟨0,0,0,0⟩)) ts m_law_1:=by
 unfold m_law_1
 exact ⟨_,(st_set 2 sc_law.nd (ev_call C__law_draw (hr.mono (by decide)) (av_f 1 (av_d ev_int av_nil)) (ln_f (ln_d ln_nil))))⟩
theorem ok_law_2:∃ ts,Ss K (cxOf CX0 P w K mg base ["_law_script","_law_feed_here","_law_n","_law_flow_here","_law_row","_law_fewer","_law_begun","_law_other","_law_same","_law_found"] "law" (defScope s_law) f cdv A outer s H E).nox ((defBody s_law).getD 2 (.Pass ⟨0,0,0,0⟩)) ts m_law_2:=by
 unfold m_law_2
 exact ⟨_,(st_set 3 sc_law.nd (ev_call C__law_flow (hr.mono (by decide)) (av_f 1 av_nil) (ln_f ln_nil)))⟩
theorem ok_law_3:∃ ts,Ss K (cxOf CX0 P w K mg base ["_law_script","_law_feed_here","_law_n","_law_flow_here","_law_row","_law_fewer","_law_begun","_law_other","_law_same","_law_found"] "law" (defScope s_law) f cdv A outer s H E).nox ((defBody s_law).getD 3 (.Pass ⟨0,0,0,0⟩)) ts m_law_3:=by
 unfold m_law_3
 exact ⟨_,(st_if (et_cmp (od_ne rfl hr.units) (Ev.bw (ev_callB (cd_repr rfl hr.gd hr.units) T.repr bt_repr (es_cons (Ev.bw (ev_call C_word_of (hr.mono (by decide)) (av_d (ev_v 3) (av_d ev_int av_nil)) (ln_d (ln_d ln_nil)))) es_nil))) (Ev.bw (ev_callB (cd_repr rfl hr.gd hr.units) T.repr bt_repr (es_cons (Ev.bw ev_str) es_nil)))) (ss_one (st_ret ev_bl)) ss_nil)⟩
theorem ok_law_4:∃ ts,Ss K (cxOf CX0 P w K mg base ["_law_script","_law_feed_here","_law_n","_law_flow_here","_law_row","_law_fewer","_law_begun","_law_other","_law_same","_law_found"] "law" (defScope s_law) f cdv A outer s H E).nox ((defBody s_law).getD 4 (.Pass ⟨0,0,0,0⟩)) ts m_law_4:=by
 unfold m_law_4
 exact ⟨_,(st_set 4 sc_law.nd (ev_call C_step_row (hr.mono (by decide)) (av_d (ev_v 3) (av_d (ev_v 2) av_nil)) (ln_d (ln_d ln_nil))))⟩
theorem ok_law_5:∃ ts,Ss K (cxOf CX0 P w K mg base ["_law_script","_law_feed_here","_law_n","_law_flow_here","_law_row","_law_fewer","_law_begun","_law_other","_law_same","_law_found"] "law" (defScope s_law) f cdv A outer s H E).nox ((defBody s_law).getD 5 (.Pass ⟨0,0,0,0⟩)) ts m_law_5:=by
 unfold m_law_5
 exact ⟨_,(st_if (Ew.t (ew_or (et_not (et_val (Ev.bw (ev_isin "tuple" (eb_v 4) (by decide) T.isinstance T.tuple bt_tuple)))) (ew_or (et_cmp (od_ne rfl hr.units) (Ev.bw (ev_callB (cd_len rfl) T.len bt_len (es_cons (eb_v 4) es_nil))) (Ev.bw (ev_op (od_add rfl) (eb_v 2) (Ev.bw ev_int)))) (ew_or (et_not (et_val (Ev.bw (ev_call C__law_stays (hr.mono (by decide)) (av_d (ev_v 3) (av_d (ev_v 4) av_nil)) (ln_d (ln_d ln_nil)))))) (ew_or1 (et_not (et_val (Ev.bw (ev_call C__law_sums_right (hr.mono (by decide)) (av_d (ev_v 3) (av_d (ev_v 4) av_nil)) (ln_d (ln_d ln_nil))))))))))) (ss_one (st_ret ev_bl)) ss_nil)⟩
theorem ok_law_6:∃ ts,Ss K (cxOf CX0 P w K mg base ["_law_script","_law_feed_here","_law_n","_law_flow_here","_law_row","_law_fewer","_law_begun","_law_other","_law_same","_law_found"] "law" (defScope s_law) f cdv A outer s H E).nox ((defBody s_law).getD 6 (.Pass ⟨0,0,0,0⟩)) ts m_law_6:=by
 unfold m_law_6
 exact ⟨_,(st_set 5 sc_law.nd (ev_call C__law_draw (hr.mono (by decide)) (av_f 1 (av_d (ev_op (od_add rfl) (eb_v 2) (Ev.bw ev_int)) av_nil)) (ln_f (ln_d ln_nil))))⟩
theorem ok_law_7:∃ ts,Ss K (cxOf CX0 P w K mg base ["_law_script","_law_feed_here","_law_n","_law_flow_here","_law_row","_law_fewer","_law_begun","_law_other","_law_same","_law_found"] "law" (defScope s_law) f cdv A outer s H E).nox ((defBody s_law).getD 7 (.Pass ⟨0,0,0,0⟩)) ts m_law_7:=by
 unfold m_law_7
 exact ⟨_,(st_set 6 sc_law.nd (ev_cut (eb_v 4) eo_no (eo_i (ev_op (od_add rfl) (eb_v 5) (Ev.bw ev_int)))))⟩
theorem ok_law_8:∃ ts,Ss K (cxOf CX0 P w K mg base ["_law_script","_law_feed_here","_law_n","_law_flow_here","_law_row","_law_fewer","_law_begun","_law_other","_law_same","_law_found"] "law" (defScope s_law) f cdv A outer s H E).nox ((defBody s_law).getD 8 (.Pass ⟨0,0,0,0⟩)) ts m_law_8:=by
 unfold m_law_8
 exact ⟨_,(st_if (Ew.t (ew_or (et_cmp (od_ne rfl hr.units) (Ev.bw (ev_callB (cd_repr rfl hr.gd hr.units) T.repr bt_repr (es_cons (Ev.bw (ev_call C_step_row (hr.mono (by decide)) (av_d (ev_v 3) (av_d (ev_v 5) av_nil)) (ln_d (ln_d ln_nil)))) es_nil))) (Ev.bw (ev_callB (cd_repr rfl hr.gd hr.units) T.repr bt_repr (es_cons (eb_v 6) es_nil)))) (ew_or1 (et_cmp (od_ne rfl hr.units) (Ev.bw (ev_callB (cd_repr rfl hr.gd hr.units) T.repr bt_repr (es_cons (Ev.bw (ev_call C__law_lets (hr.mono (by decide)) (av_d (ev_v 3) (av_d (ev_v 6) av_nil)) (ln_d (ln_d ln_nil)))) es_nil))) (Ev.bw (ev_callB (cd_repr rfl hr.gd hr.units) T.repr bt_repr (es_cons (Ev.bw (ev_k (.tuple [.str "told",.bool true]) rfl)) es_nil))))))) (ss_one (st_ret ev_bl)) ss_nil)⟩
theorem ok_law_9:∃ ts,Ss K (cxOf CX0 P w K mg base ["_law_script","_law_feed_here","_law_n","_law_flow_here","_law_row","_law_fewer","_law_begun","_law_other","_law_same","_law_found"] "law" (defScope s_law) f cdv A outer s H E).nox ((defBody s_law).getD 9 (.Pass ⟨0,0,0,0⟩)) ts m_law_9:=by
 unfold m_law_9
 exact ⟨_,(st_if (et_cmp (od_ne rfl hr.units) (Ev.bw (ev_callB (cd_repr rfl hr.gd hr.units) T.repr bt_repr (es_cons (Ev.bw (ev_call C__law_lets (hr.mono (by decide)) (av_d (ev_v 3) (av_d (ev_v 4) av_nil)) (ln_d (ln_d ln_nil)))) es_nil))) (Ev.bw (ev_callB (cd_repr rfl hr.gd hr.units) T.repr bt_repr (es_cons (Ev.bw (ev_k (.tuple [.str "told",.bool true]) rfl)) es_nil)))) (ss_one (st_ret ev_bl)) ss_nil)⟩
theorem ok_law_10:∃ ts,Ss K (cxOf CX0 P w K mg base ["_law_script","_law_feed_here","_law_n","_law_flow_here","_law_row","_law_fewer","_law_begun","_law_other","_law_same","_law_found"] "law" (defScope s_law) f cdv A outer s H E).nox ((defBody s_law).getD 10 (.Pass ⟨0,0,0,0⟩)) ts m_law_10:=by
 unfold m_law_10
 exact ⟨_,(st_set 7 sc_law.nd (ev_call C__law_flow (hr.mono (by decide)) (av_f 1 av_nil) (ln_f ln_nil)))⟩
theorem ok_law_11:∃ ts,Ss K (cxOf CX0 P w K mg base ["_law_script","_law_feed_here","_law_n","_law_flow_here","_law_row","_law_fewer","_law_begun","_law_other","_law_same","_law_found"] "law" (defScope s_law) f cdv A outer s H E).nox ((defBody s_law).getD 11 (.Pass ⟨0,0,0,0⟩)) ts m_law_11:=by
 unfold m_law_11
 exact ⟨_,(st_set 8 sc_law.nd (ev_cmp (od_eq rfl hr.units) (Ev.bw (ev_callB (cd_repr rfl hr.gd hr.units) T.repr bt_repr (es_cons (Ev.bw (ev_call C_step_row (hr.mono (by decide)) (av_d (ev_v 7) (av_d (ev_v 2) av_nil)) (ln_d (ln_d ln_nil)))) es_nil))) (Ev.bw (ev_callB (cd_repr rfl hr.gd hr.units) T.repr bt_repr (es_cons (eb_v 4) es_nil)))))⟩
theorem ok_law_12:∃ ts,Ss K (cxOf CX0 P w K mg base ["_law_script","_law_feed_here","_law_n","_law_flow_here","_law_row","_law_fewer","_law_begun","_law_other","_law_same","_law_found"] "law" (defScope s_law) f cdv A outer s H E).nox ((defBody s_law).getD 12 (.Pass ⟨0,0,0,0⟩)) ts m_law_12:=by
 unfold m_law_12
 exact ⟨_,(st_set 9 sc_law.nd (ev_call C__law_lets (hr.mono (by decide)) (av_d (ev_v 7) (av_d (ev_v 4) av_nil)) (ln_d (ln_d ln_nil))))⟩
theorem ok_law_13:∃ ts,Ss K (cxOf CX0 P w K mg base ["_law_script","_law_feed_here","_law_n","_law_flow_here","_law_row","_law_fewer","_law_begun","_law_other","_law_same","_law_found"] "law" (defScope s_law) f cdv A outer s H E).nox ((defBody s_law).getD 13 (.Pass ⟨0,0,0,0⟩)) ts m_law_13:=by
 unfold m_law_13
 exact ⟨_,(st_ret (ev_if (et_val (eb_v 8)) (ev_cmp (od_eq rfl hr.units) (Ev.bw (ev_callB (cd_repr rfl hr.gd hr.units) T.repr bt_repr (es_cons (eb_v 9) es_nil))) (Ev.bw (ev_callB (cd_repr rfl hr.gd hr.units) T.repr bt_repr (es_cons (Ev.bw (ev_k (.tuple [.str "told",.bool true]) rfl)) es_nil)))) (ev_cmp (od_eq rfl hr.units) (Ev.bw (ev_ix (id_ix rfl) (eb_v 9) (Ev.bw ev_int))) (Ev.bw ev_str))))⟩
end
noncomputable def m_law:DE->M Out:=(mSq m_law_1 (mSq m_law_2 (mSq m_law_3 (mSq m_law_4 (mSq m_law_5 (mSq m_law_6 (mSq m_law_7 (mSq m_law_8 (mSq m_law_9 (mSq m_law_10 (mSq m_law_11 (mSq m_law_12 m_law_13))))))))))))
theorem split1 {α:Type}(l:List α)(d:α)(h:0<l.length):l=l.getD 0 d::l.drop 1:=by
 cases l with
 | nil=>simp at h
 | cons a r=>rfl
noncomputable def spLaw (K:PySem.W.Frag):Sp:=λvs H Q _=>∃ (a:Addr) (ns:List Int),vs=[.ref a]∧SqL K H a (ns.map V.int)∧ns.length≤63∧TabsOk (tabsK Feeds.lam K) H∧∀ H',Q (.bl true) H'
theorem ok_law_0 {f:Addr}{cdv:Value}{A:Around}{outer:List Env}{s:Shared}{H:Hp}{E:XK}(hr:Room 8 (A.deeper (PyProof.Rows.envOfC "law" (defScope s_law) s.heap.objs.size f cdv)))(CF:Callee P w K mg base "_law_feed" 1 ["_law_script"] (spFeed K)) :
  PS (cxOf CX0 P w K mg base ["_law_script","_law_feed_here","_law_n","_law_flow_here","_law_row","_law_fewer","_law_begun","_law_other","_law_same","_law_found"] "law" (defScope s_law) f cdv A outer s H E).nox ((defBody s_law).getD 0 (.Pass ⟨0,0,0,0⟩)) (tAsg (tCall (spFeed K) [] E0 (tCons (tVar 0) tNil)) (gName 1)) :=
 ps_set (i:=1) sc_law.nd rfl (by first | exact Or.inl rfl | exact Or.inr rfl) (pe_callee CF (hr.mono (by decide)) rfl (pa_cons (pv 0) pa_nil))
theorem ok_law {f:Addr}{fd:FuncData}(Fn:Fun K "law" "law" s_law f fd)(T:Txt K mg)(CF:Callee P w K mg base "_law_feed" 1 ["_law_script"] (spFeed K))(C__law_draw:Callee P w K mg base "_law_draw" 1 ["_law_feed_here","_law_many"] (spD K 2 drawS))(C__law_flow:Callee P w K mg base "_law_flow" 2 ["_law_feed_here"] (spD K 1 f__law_flow))(C_word_of:Callee P w K mg base "word_of" 5 ["flow","hands"] (spD K 2 f_word_of))(C_step_row:Callee P w K mg base "step_row" 7 ["flow","n"] (spD K 2 f_step_row))(C__law_stays:Callee P w K mg base "_law_stays" 4 ["_law_flow_here","_law_row"] (spD K 2 f__law_stays))(C__law_sums_right:Callee P w K mg base "_law_sums_right" 8 ["_law_flow_here","_law_row"] (spD K 2 f__law_sums_right))(C__law_lets:Callee P w K mg base "_law_lets" 7 ["_law_flow_here","_law_thing"] (spD K 2 f__law_lets))
  (fin:∀ ns:List Int,ns.length≤63->∃ F',m_law ([none,some .feed]++List.replicate (["_law_script","_law_feed_here","_law_n","_law_flow_here","_law_row","_law_fewer","_law_begun","_law_other","_law_same","_law_found"].length - 2) none) (newF ns)=some (.rt (.bool true),F')):FnOk P w K mg base CX0 9 f fd ["_law_script"] (spLaw K):=by
 refine Fn.ok sc_law (λvs H Q E h=>?_) (λcdv A outer s H vs Q E hr h=>?_)
 ·obtain ⟨a,ns,rfl,_⟩:=h
  rfl
 ·obtain ⟨a,ns,rfl,hS,hl,tbo,k⟩:=h
  have hu5:(A.deeper (PyProof.Rows.envOfC "law" (defScope s_law) s.heap.objs.size f cdv)).units+65<cLine:=by have:=hr.un;omega
  obtain ⟨t_law_1,h_law_1⟩:=ok_law_1 (f:=f) (cdv:=cdv) (A:=A) (outer:=outer) (s:=s) (H:=H) (E:=E) T hr hu5 C__law_draw C__law_flow C_word_of C_step_row C__law_stays C__law_sums_right C__law_lets
  obtain ⟨t_law_2,h_law_2⟩:=ok_law_2 (f:=f) (cdv:=cdv) (A:=A) (outer:=outer) (s:=s) (H:=H) (E:=E) T hr hu5 C__law_draw C__law_flow C_word_of C_step_row C__law_stays C__law_sums_right C__law_lets
  obtain ⟨t_law_3,h_law_3⟩:=ok_law_3 (f:=f) (cdv:=cdv) (A:=A) (outer:=outer) (s:=s) (H:=H) (E:=E) T hr hu5 C__law_draw C__law_flow C_word_of C_step_row C__law_stays C__law_sums_right C__law_lets
  obtain ⟨t_law_4,h_law_4⟩:=ok_law_4 (f:=f) (cdv:=cdv) (A:=A) (outer:=outer) (s:=s) (H:=H) (E:=E) T hr hu5 C__law_draw C__law_flow C_word_of C_step_row C__law_stays C__law_sums_right C__law_lets
  obtain ⟨t_law_5,h_law_5⟩:=ok_law_5 (f:=f) (cdv:=cdv) (A:=A) (outer:=outer) (s:=s) (H:=H) (E:=E) T hr hu5 C__law_draw C__law_flow C_word_of C_step_row C__law_stays C__law_sums_right C__law_lets
  obtain ⟨t_law_6,h_law_6⟩:=ok_law_6 (f:=f) (cdv:=cdv) (A:=A) (outer:=outer) (s:=s) (H:=H) (E:=E) T hr hu5 C__law_draw C__law_flow C_word_of C_step_row C__law_stays C__law_sums_right C__law_lets
  obtain ⟨t_law_7,h_law_7⟩:=ok_law_7 (f:=f) (cdv:=cdv) (A:=A) (outer:=outer) (s:=s) (H:=H) (E:=E) T hr hu5 C__law_draw C__law_flow C_word_of C_step_row C__law_stays C__law_sums_right C__law_lets
  obtain ⟨t_law_8,h_law_8⟩:=ok_law_8 (f:=f) (cdv:=cdv) (A:=A) (outer:=outer) (s:=s) (H:=H) (E:=E) T hr hu5 C__law_draw C__law_flow C_word_of C_step_row C__law_stays C__law_sums_right C__law_lets
  obtain ⟨t_law_9,h_law_9⟩:=ok_law_9 (f:=f) (cdv:=cdv) (A:=A) (outer:=outer) (s:=s) (H:=H) (E:=E) T hr hu5 C__law_draw C__law_flow C_word_of C_step_row C__law_stays C__law_sums_right C__law_lets
  obtain ⟨t_law_10,h_law_10⟩:=ok_law_10 (f:=f) (cdv:=cdv) (A:=A) (outer:=outer) (s:=s) (H:=H) (E:=E) T hr hu5 C__law_draw C__law_flow C_word_of C_step_row C__law_stays C__law_sums_right C__law_lets
  obtain ⟨t_law_11,h_law_11⟩:=ok_law_11 (f:=f) (cdv:=cdv) (A:=A) (outer:=outer) (s:=s) (H:=H) (E:=E) T hr hu5 C__law_draw C__law_flow C_word_of C_step_row C__law_stays C__law_sums_right C__law_lets
  obtain ⟨t_law_12,h_law_12⟩:=ok_law_12 (f:=f) (cdv:=cdv) (A:=A) (outer:=outer) (s:=s) (H:=H) (E:=E) T hr hu5 C__law_draw C__law_flow C_word_of C_step_row C__law_stays C__law_sums_right C__law_lets
  obtain ⟨t_law_13,h_law_13⟩:=ok_law_13 (f:=f) (cdv:=cdv) (A:=A) (outer:=outer) (s:=s) (H:=H) (E:=E) T hr hu5 C__law_draw C__law_flow C_word_of C_step_row C__law_stays C__law_sums_right C__law_lets
  obtain ⟨ts,hq,hk⟩:∃ ts,Sss K (cxOf CX0 P w K mg base ["_law_script","_law_feed_here","_law_n","_law_flow_here","_law_row","_law_fewer","_law_begun","_law_other","_law_same","_law_found"] "law" (defScope s_law) f cdv A outer s H E).nox ((defBody s_law).drop 1) ts m_law:=⟨_,(ss_cons h_law_1 (ss_cons h_law_2 (ss_cons h_law_3 (ss_cons h_law_4 (ss_cons h_law_5 (ss_cons h_law_6 (ss_cons h_law_7 (ss_cons h_law_8 (ss_cons h_law_9 (ss_cons h_law_10 (ss_cons h_law_11 (ss_cons h_law_12 (ss_one h_law_13)))))))))))))⟩
  have h0:=ok_law_0 (P:=P) (w:=w) (K:=K) (mg:=mg) (base:=base) (f:=f) (cdv:=cdv) (A:=A) (outer:=outer) (s:=s) (H:=H) (E:=E) hr CF
  have hsp:=split1 (defBody s_law) (.Pass ⟨0,0,0,0⟩) (by decide +kernel)
  generalize List.drop 1 (defBody s_law)=R at hq hsp
  generalize (defBody s_law).getD 0 (Stmt.Pass { line:=0,col:=0,endLine:=0,endCol:=0 })=S0 at h0 hsp
  have hp:=pss_cons h0 hq
  rw [← hsp] at hp
  refine ⟨_,hp,?_⟩
  refine ⟨_,rfl,a,ns,rfl,hS,hl,λd c H1 f1 s1=>?_⟩
  obtain ⟨F',e⟩:=fin ns hl
  have fat:FAt K (some (d,c)) H1 (newF ns):=⟨f1,tbo.congr λb hb=>by
   obtain ⟨o,e⟩:∃ o,H b=some o:=by
    rcases hb with hb | ⟨φ,e⟩
    ·obtain ⟨t,ht,rfl⟩:=List.mem_map.mp hb
     obtain ⟨ps,e,_⟩:=tbo t ht
     exact ⟨_,e⟩
    ·exact ⟨_,e⟩
   rw [e];exact s1 b o e⟩
  refine hk (some (d,c)) (fpOf K (some (d,c))) H1 _ (newF ns) _ H1 _ _ F' ⟨⟨fpOf K (some (d,c)),λ_ z=>z,λb hb=>.inl hb,⟨fat,λ_ z=>z,fat.bok,by simp [L2.start],λi x ei=>?_⟩⟩,λ_ z=>z,Kp.refl,λi ds b ei=>?_,λi j ds es b ei=>?_⟩ e (λv H' _ _ hv=>?_)
  ·match i,ei with
   | 0,ei=>cases ei
   | 1,ei=>cases ei;exact ⟨.ref d,rfl,d,c,rfl,rfl⟩
   | i+2,ei=>simp only [List.cons_append,List.nil_append,List.getElem?_cons_succ,List.getElem?_replicate] at ei;split at ei <;> cases ei
  ·match i,ei with
   | 0,ei=>cases ei
   | 1,ei=>cases ei
   | i+2,ei=>simp only [List.cons_append,List.nil_append,List.getElem?_cons_succ,List.getElem?_replicate] at ei;split at ei <;> cases ei
  ·match i,ei with
   | 0,ei=>cases ei
   | 1,ei=>cases ei
   | i+2,ei=>simp only [List.cons_append,List.nil_append,List.getElem?_cons_succ,List.getElem?_replicate] at ei;split at ei <;> cases ei
  ·simp only [DatIs] at hv
   subst hv
   exact k H'
end
end K62
namespace K62
open PySem L2 L3 Bz
theorem plus_is:f_plus=c_plus:=rfl
theorem minus_is:f_minus=c_minus:=rfl
theorem prod_is:f_times=c_times:=rfl
theorem frac_is:f_fraction=c_fraction:=rfl
theorem mean_is:f_mean=c_mean:=rfl
theorem share_is:f_share_of=c_share_of:=rfl
theorem total_is:f_total=c_total:=rfl
theorem word_is:f_word_of=c_word_of:=rfl
theorem over_is:f_over=c_over:=rfl
noncomputable def isum:Nat->(Nat->Int)->Int
 | 0,_=>0
 | n+1,f=>isum n f+f n
theorem is_congr:∀ {n:Nat} {f g:Nat->Int},(∀ i,i<n->f i=g i)->isum n f=isum n g
 | 0,f,g,_=>rfl
 | n+1,f,g,h=>by rw [isum,isum,is_congr λi hi=>h i (by omega),h n (by omega)]
theorem is_sub:∀ (n:Nat) (f g:Nat->Int),(isum n λi=>f i - g i)=isum n f - isum n g
 | 0,f,g=>rfl
 | n+1,f,g=>by rw [isum,isum,isum,is_sub n];omega
theorem is_mul:∀ (n:Nat) (c:Int) (f:Nat->Int),(isum n λi=>c * f i)=c * isum n f
 | 0,c,f=>by simp [isum]
 | n+1,c,f=>by rw [isum,isum,is_mul n,Int.mul_add]
theorem is_first:∀ (n:Nat) (f:Nat->Int),isum (n+1) f=f 0+isum n λi=>f (i+1)
 | 0,f=>by simp [isum]
 | n+1,f=>by rw [isum,is_first n f,isum];omega
theorem is_flip:∀ (n:Nat) (f:Nat->Int),isum n f=isum n λi=>f (n - 1 - i)
 | 0,f=>rfl
 | n+1,f=>by
  rw [is_first n λi=>f (n+1 - 1 - i),isum,is_flip n f]
  have:(isum n λi=>f (n+1 - 1 - (i+1)))=isum n λi=>f (n - 1 - i):=is_congr λi hi=>by congr 1;omega
  rw [this]
  show _+f n=f (n+1 - 1 - 0)+_
  rw [show n+1 - 1 - 0=n by omega];omega
theorem is_zero:∀ {n:Nat} {f:Nat->Int} (m:Nat),m≤n->(∀ i,m≤i->i<n->f i=0)->isum n f=isum m f
 | 0,f,m,hm,_=>by obtain rfl:m=0:=(by omega);rfl
 | n+1,f,m,hm,h=>by
  by_cases e:m=n+1
  ·subst e;rfl
  ·rw [isum,is_zero (n:=n) m (by omega) (λi h1 h2=>h i h1 (by omega)),h n (by omega) (by omega)];omega
section
variable (xs:List Int)(T t0:Int)
noncomputable abbrev sx:Int:=xs.getD 0 0
noncomputable def tl (m:Nat):Int:=(xs.drop m).sum
noncomputable def tpl:Nat->List Int
 | 0=>[t0]
 | k+1=>tpl k++[isum (k+1) λj=>(tpl k).getD j 0 * sx xs ^ (k - j) * tl xs (k+2 - j)]
noncomputable def tp (k:Nat):Int:=(tpl xs t0 k).getD k 0
theorem tpl_len:∀ k,(tpl xs t0 k).length=k+1
 | 0=>rfl
 | k+1=>by rw [tpl,List.length_append,tpl_len k];rfl
theorem tpl_get:∀ (k j:Nat),j≤k->(tpl xs t0 k).getD j 0=tp xs t0 j
 | 0,j,h=>by obtain rfl:j=0:=(by omega);rfl
 | k+1,j,h=>by
  by_cases e:j=k+1
  ·subst e;rfl
  ·rw [tpl,List.getD_eq_getElem?_getD,List.getElem?_append_left (by rw [tpl_len];omega),← List.getD_eq_getElem?_getD]
   exact tpl_get k j (by omega)
theorem tp_succ (k:Nat):tp xs t0 (k+1)=isum (k+1) λj=>tp xs t0 j * sx xs ^ (k - j) * tl xs (k+2 - j):=by
 have e:tp xs t0 (k+1)=isum (k+1) λj=>(tpl xs t0 k).getD j 0 * sx xs ^ (k - j) * tl xs (k+2 - j):=by
  unfold tp
  rw [tpl,List.getD_eq_getElem?_getD,List.getElem?_append_right (by rw [tpl_len];omega),tpl_len]
  simp
 rw [e]
 exact is_congr λj hj=>by rw [tpl_get xs t0 k j (by omega)]
theorem tl_step (m:Nat):tl xs m=xs.getD m 0+tl xs (m+1):=by
 unfold tl
 rw [List.getD_eq_getElem?_getD]
 by_cases h:m<xs.length
 ·rw [List.drop_eq_getElem_cons h,List.sum_cons,List.getElem?_eq_getElem h];rfl
 ·rw [List.drop_eq_nil_of_le (by omega),List.drop_eq_nil_of_le (by omega),List.getElem?_eq_none (by omega)];rfl
theorem tl_0:tl xs 0=xs.sum:=by simp [tl]
theorem tl_nn (h:∀ x∈xs,0≤x)(m:Nat):0≤tl xs m:=(le_sum λx hx=>h x (List.mem_of_mem_drop hx)).1
theorem tl_far {m:Nat}(h:xs.length≤m):tl xs m=0:=by unfold tl;rw [List.drop_eq_nil_of_le h];rfl
theorem bal (hT:xs.sum=T)(k:Nat):tp xs t0 (k+1)=tp xs t0 k * T - (isum k λj=>tp xs t0 (j+1) * sx xs ^ (k - (j+1)) * xs.getD (k - j) 0) - tp xs t0 0 * sx xs ^ k * xs.getD (k+1) 0 - (if k=0 then tp xs t0 0 * sx xs else 0):=by
 have t1:tl xs 1=T - sx xs:=by have a:tl xs 0=sx xs+tl xs 1:=tl_step xs 0;rw [tl_0,hT] at a;omega
 cases k with
 | zero =>
  rw [tp_succ,if_pos rfl]
  simp only [isum,Nat.sub_self,Int.pow_zero,Int.mul_one]
  have a:=tl_step xs 1
  have e2:tl xs (0+2 - 0)=T - sx xs - xs.getD 1 0:=by rw [show 0+2 - 0=1+1 by rfl];omega
  rw [e2];grind
 | succ m =>
  rw [tp_succ,if_neg (by omega)]
  have e1:(isum (m+1+1) λj=>tp xs t0 j * sx xs ^ (m+1 - j) * tl xs (m+1+2 - j))=(isum (m+1+1) λj=>tp xs t0 j * sx xs ^ (m+1 - j) * tl xs (m+2 - j)) - isum (m+1+1) λj=>tp xs t0 j * sx xs ^ (m+1 - j) * xs.getD (m+2 - j) 0:=by
   rw [← is_sub]
   refine is_congr λj hj=>?_
   have a:=tl_step xs (m+2 - j)
   rw [show m+2 - j+1=m+1+2 - j by omega] at a
   rw [show tl xs (m+1+2 - j)=tl xs (m+2 - j) - xs.getD (m+2 - j) 0 by omega,Int.mul_sub]
  have e2:(isum (m+1+1) λj=>tp xs t0 j * sx xs ^ (m+1 - j) * tl xs (m+2 - j))=tp xs t0 (m+1) * T:=by
   rw [isum,show m+1 - (m+1)=0 by omega,show m+2 - (m+1)=1 by omega,t1,Int.pow_zero,Int.mul_one]
   have e3:(isum (m+1) λj=>tp xs t0 j * sx xs ^ (m+1 - j) * tl xs (m+2 - j))=sx xs * tp xs t0 (m+1):=by
    rw [tp_succ,← is_mul]
    refine is_congr λj hj=>?_
    rw [show m+1 - j=(m - j)+1 by omega,Int.pow_succ];grind
   rw [e3];grind
  have e4:(isum (m+1+1) λj=>tp xs t0 j * sx xs ^ (m+1 - j) * xs.getD (m+2 - j) 0)=tp xs t0 0 * sx xs ^ (m+1) * xs.getD (m+1+1) 0+isum (m+1) λj=>tp xs t0 (j+1) * sx xs ^ (m+1 - (j+1)) * xs.getD (m+1 - j) 0:=by
   rw [is_first]
   congr 1
   refine is_congr λj hj=>?_
   rw [show m+2 - (j+1)=m+1 - j by omega]
  rw [e1,e2,e4]
  omega
end
end K62
namespace Bz
open PySem L2 L3
variable [Fam]
noncomputable def Bd (k:Nat)(z:Int):Prop:=z.natAbs≤2 ^ k
theorem Bd.mul {j k:Nat}{a b:Int}(h1:Bd j a)(h2:Bd k b):Bd (j+k) (a * b):=by
 unfold Bd at *
 rw [Int.natAbs_mul,Nat.pow_add]
 exact Nat.mul_le_mul h1 h2
theorem Bd.mono {j k:Nat}{a:Int}(h1:Bd j a)(h:j≤k):Bd k a:=Nat.le_trans h1 (Nat.pow_le_pow_right (by decide) h)
theorem Bd.pow {k:Nat}{a:Int}(h:Bd k a):∀ n:Nat,Bd (k * n) (a ^ n)
 | 0=>by unfold Bd;simp
 | n+1=>by rw [Int.pow_succ,Nat.mul_succ];exact (Bd.pow h n).mul h
section
variable {F:FdS}{Q:PyData->FdS->Prop}{a b:Int}{k:Nat}
end
end Bz
namespace K62
open PySem L2 L3 Bz
section
variable {xs:List Int}{L T s:Nat}{N:Int}
structure Rg (xs:List Int) (L:Nat) (N:Int) (T s:Nat):Prop where
 fl:Fl xs L N (T:Int)
 l9:L≤9
 t7:T≤108
 s0:xs.getD 0 0=(s:Int)
 s1:1≤s
noncomputable abbrev tq (xs:List Int)(T:Nat)(k:Nat):Int:=tp xs ((T:Int) - wSum (en 0 xs)) k
theorem Rg.sp (h:Rg xs L N T s):1≤s∧s≤T:=by
 have:=getD_le h.fl.nn 0
 rw [h.fl.s,h.s0] at this
 exact ⟨h.s1,by omega⟩
theorem is_abs {f:Nat->Int}{B:Nat}:∀ {m:Nat},(∀ i,i<m->(f i).natAbs≤B)->(isum m f).natAbs≤m * B
 | 0,_=>by simp [isum]
 | m+1,h=>by
  have h1:=is_abs (m:=m) λi hi=>h i (by omega)
  have h2:=h m (by omega)
  rw [isum,Nat.add_mul,Nat.one_mul]
  have:=Int.natAbs_add_le (isum m f) (f m)
  omega
theorem ws_ge:∀ (k:Nat) (ls:List Int),(∀ x∈ls,0≤x)->(k:Int) * ls.sum≤wSum (en k ls)∧wSum (en k ls)≤((k+ls.length:Nat):Int) * ls.sum
 | k,[],_=>by simp [en,wSum]
 | k,x::r,h=>by
  have h1:=ws_ge (k+1) r λy hy=>h y (List.mem_cons_of_mem _ hy)
  have hx:=h x List.mem_cons_self
  have hr:=(le_sum λy hy=>h y (List.mem_cons_of_mem _ hy):0≤r.sum∧_).1
  have e:wSum (en k (x::r))=(k:Int) * x+wSum (en (k+1) r):=by simp [en,wSum]
  rw [e,List.sum_cons,List.length_cons]
  have p1:=Int.mul_nonneg (show 0≤(r.length:Int) by omega) hx
  obtain ⟨a,b⟩:=h1
  push_cast at a b ⊢
  constructor
  ·grind
  ·grind
theorem tl_le (h:Rg xs L N T s)(m:Nat):0≤tl xs m∧tl xs m≤T:=by
 have a:=tl_nn xs h.fl.nn m
 have c:tl xs m≤xs.sum:=by
  have:xs.sum=(xs.take m).sum+tl xs m:=by unfold tl;rw [← List.sum_append,List.take_append_drop]
  have:=(le_sum (xs:=xs.take m) λx hx=>h.fl.nn x (List.mem_of_mem_take hx)).1
  omega
 rw [h.fl.s] at c
 exact ⟨a,c⟩
theorem Rg.bt (h:Rg xs L N T s)(m:Nat):Bd 7 (tl xs m):=by
 have:=tl_le h m
 have:=h.t7
 unfold Bd
 omega
theorem Rg.bs (h:Rg xs L N T s):Bd 7 (s:Int)∧Bd 7 (T:Int):=by
 have:=h.sp
 have:=h.t7
 unfold Bd
 omega
noncomputable def ga (xs:List Int)(T s k m:Nat):Int:=isum m λi=>tq xs T (k - i) * (s:Int) ^ i * tl xs (i+2)
theorem ga_one (h:Rg xs L N T s)(k:Nat):tq xs T (k+1)=ga xs T s k (k+1):=by
 have e:tq xs T (k+1)=isum (k+1) λj=>tq xs T j * sx xs ^ (k - j) * tl xs (k+2 - j):=tp_succ xs _ k
 rw [e,is_flip]
 exact is_congr λi hi=>by
  rw [show k+1 - 1 - i=k - i by omega,show k - (k - i)=i by omega,show k+2 - (k - i)=i+2 by omega,show sx xs=(s:Int) from h.s0]
theorem ga_all (h:Rg xs L N T s)(k:Nat):ga xs T s k (min (k+1) (L - 2))=tq xs T (k+1):=by
 rw [ga_one h k]
 unfold ga
 refine (is_zero (min (k+1) (L - 2)) (by omega) λi h1 h2=>?_).symm
 rw [tl_far xs (m:=i+2) (by rw [h.fl.len];omega),Int.mul_zero]
theorem ga_bd (h:Rg xs L N T s){k m:Nat}(hk:k≤30)(hm:m≤k+1)(ih:∀ j,j≤k->Bd (12 * (j+1)) (tq xs T j)):Bd (12 * (k+2)) (ga xs T s k m):=by
 have t:=is_abs (m:=m) (f:=λi=>tq xs T (k - i) * (s:Int) ^ i * tl xs (i+2)) (B:=2 ^ (12 * (k+1)+7)) λi hi=>by
  have b:=((ih (k - i) (by omega)).mul (h.bs.1.pow i)).mul (h.bt (i+2))
  exact b.mono (by omega)
 have p:2 ^ (12 * (k+2))=2 ^ 5 * 2 ^ (12 * (k+1)+7):=by rw [← Nat.pow_add];congr 1;omega
 unfold Bd
 rw [p]
 exact Nat.le_trans t (Nat.mul_le_mul_right _ (by omega))
theorem Rg.tb (h:Rg xs L N T s):∀ n:Nat,n≤31->∀ j,j≤n->Bd (12 * (j+1)) (tq xs T j)
 | 0,_,j,hj=>by
  have:j=0:=by omega
  subst this
  have e:tq xs T 0=(T:Int) - wSum (en 0 xs):=by simp [tp,tpl]
  have w:=ws_ge 0 xs h.fl.nn
  have hl:=h.fl.len
  have h9:=h.l9
  have h7:=h.t7
  rw [h.fl.s,Nat.zero_add,hl] at w
  have:(L:Int) * (T:Int)≤9 * 108:=Int.mul_le_mul (by omega) (by omega) (by omega) (by decide)
  rw [e]
  unfold Bd
  simp at w
  omega
 | n+1,hn,j,hj=>by
  have ih:=Rg.tb h n (by omega)
  by_cases e:j≤n
  ·exact ih j e
  ·have:j=n+1:=by omega
   subst this
   rw [ga_one h n]
   exact ga_bd h (by omega) (Nat.le_refl _) ih
theorem lt_of {k:Nat}{a:Int}(h:Bd k a)(hk:k<900):a.natAbs<2 ^ 900:=Nat.lt_of_le_of_lt h (Nat.pow_lt_pow_right (by decide) hk)
theorem Rg.lt (h:Rg xs L N T s){k:Nat}(hk:k≤30):(tq xs T k).natAbs<2 ^ 900:=lt_of (h.tb 30 (by omega) k hk) (by omega)
theorem ga_lt (h:Rg xs L N T s){k m:Nat}(hk:k≤29)(hm:m≤k+1):(ga xs T s k m).natAbs<2 ^ 900:=lt_of (ga_bd h (by omega) hm λj hj=>h.tb 30 (by omega) j (by omega)) (by omega)
theorem Rg.pw (h:Rg xs L N T s){k:Nat}(hk:k≤32):0<s ^ k∧s ^ k * T<2 ^ 900:=by
 refine ⟨Nat.pow_pos h.s1,?_⟩
 have b:=(h.bs.1.pow k).mul h.bs.2
 have e:((s:Int) ^ k * (T:Int)).natAbs=s ^ k * T:=by
  rw [Int.natAbs_mul,Int.natAbs_pow,Int.natAbs_natCast,Int.natAbs_natCast]
 unfold Bd at b
 rw [e] at b
 exact Nat.lt_of_le_of_lt b (Nat.pow_lt_pow_right (by decide) (by omega))
theorem sz_mk {a:Int}{D:Nat}(hD:D≠0)(ha:a.natAbs<2 ^ 2000)(hd:D<2 ^ 2000):Sz (mkRat a D):=by
 have q:Qb D (a.natAbs) (mkRat a D):=⟨(den_mkRat a hD).1,(den_mkRat a hD).2 _ (Nat.le_mul_of_pos_right _ (Nat.pos_of_ne_zero hD))⟩
 have l:=Nat.le_of_dvd (Nat.pos_of_ne_zero hD) q.den
 refine ⟨?_,Nat.lt_trans (Nat.lt_of_le_of_lt l hd) (Nat.pow_lt_pow_right (by decide) (by decide))⟩
 have m:=Nat.mul_lt_mul'' ha (Nat.lt_of_le_of_lt l hd)
 rw [← Nat.pow_add] at m
 exact Nat.lt_of_le_of_lt q.num m
theorem up9 {z:Nat}(h:z<2 ^ 900):z<2 ^ 2000:=Nat.lt_trans h (Nat.pow_lt_pow_right (by decide) (by decide))
end
end K62
namespace K62
open PySem L2 L3 Bz
theorem at_neg {α:Type}{zs:List α}{i:Nat}(h:i<zs.length):atI zs (-(1+(i:Int)))=zs[zs.length - 1 - i]?:=by
 unfold atI ixN
 rw [if_neg (by omega),if_pos (by omega),Option.bind_some]
 congr 1
 omega
section
variable {xs:List Int}{L T s:Nat}{N:Int}{F:FdS}{Q:PyData->FdS->Prop}
noncomputable def u (xs:List Int)(T s k:Nat):Rat:=mkRat (tq xs T k) (s ^ (k+1))
noncomputable def us (xs:List Int)(T s n:Nat):List Rat:=(List.range (n+1)).map λj=>u xs T s j
theorem us_get {n j:Nat}(h:j≤n):(us xs T s n)[j]? = some (u xs T s j):=by
 unfold us
 rw [List.getElem?_map,List.getElem?_range (by omega)];rfl
theorem ga_step (h:Rg xs L N T s){k i:Nat}(hi:i≤k):mkRat (ga xs T s k i) (s ^ (k+1) * T)+u xs T s (k - i) * mkRat (tl xs (i+2)) T=mkRat (ga xs T s k (i+1)) (s ^ (k+1) * T):=by
 have hsp:=h.sp
 have h1:(T:Rat)≠0:=by exact_mod_cast (show T≠0 by omega)
 have hs0:(s:Rat)≠0:=by exact_mod_cast (show s≠0 by omega)
 have e0:ga xs T s k (i+1)=ga xs T s k i+tq xs T (k - i) * (s:Int) ^ i * tl xs (i+2):=rfl
 rw [e0]
 unfold u
 simp only [Rat.mkRat_eq_div]
 push_cast
 have en:s ^ (k+1)=s ^ (k - i+1) * s ^ i:=by rw [← Nat.pow_add];congr 1;omega
 have e1:(s:Rat) ^ (k+1)=(s:Rat) ^ (k - i+1) * (s:Rat) ^ i:=by
  have z:=congrArg (λz:Nat=>(z:Rat)) en
  push_cast at z
  exact z
 rw [e1]
 have p1:(s:Rat) ^ (k - i+1)≠0:=by exact_mod_cast Nat.ne_of_gt (Nat.pow_pos (n:=k - i+1) hsp.1)
 have p2:(s:Rat) ^ i≠0:=by exact_mod_cast Nat.ne_of_gt (Nat.pow_pos (n:=i) hsp.1)
 generalize (s:Rat) ^ (k - i+1)=A at *
 generalize (s:Rat) ^ i=B at *
 generalize ((ga xs T s k i:Int):Rat)=g
 generalize ((tq xs T (k - i):Int):Rat)=t
 generalize ((tl xs (i+2):Int):Rat)=v
 generalize (T:Rat)=w at *
 simp only [Rat.div_def,Rat.inv_mul_rev]
 have q1:=Rat.mul_inv_cancel _ p2
 grind
theorem above_w (h:Rg xs L N T s){k:Nat}(hk:k≤28)(q:Q (qd (mkRat (tq xs T (k+1)) (s ^ (k+1) * T))) F)(mk:List PyData->PyData)(hln:∀ ds,lenD [mk ds]=some (.int ds.length))(hix:∀ ds i,ixD (mk ds) (.int i)=atI ds i):wp (f_going_above [.dat (fT xs),.dat (mk ((us xs T s k).map qd))] F) Q:=by
 have hl:=h.fl.len
 have hsp:=h.sp
 have l20:=h.l9
 have pw:=h.pw (k:=k+1) (by omega)
 have hD:s ^ (k+1) * T≠0:=Nat.mul_ne_zero (Nat.ne_of_gt pw.1) (by omega)
 have T2:T<2 ^ 900:=Nat.lt_of_le_of_lt h.t7 (Nat.lt_of_lt_of_le (show 108<2 ^ 7 by decide) (Nat.pow_le_pow_right (by decide) (by decide)))
 have ul:(us xs T s k).length=k+1:=by simp [us]
 unfold f_going_above
 rw [plus_is,prod_is,frac_is,total_is]
 refine r_run.mpr (r_mSq.mpr (r_mSet.mpr (r_sC.mpr ⟨lt_len rfl,sq_nx ?_⟩)))
 refine r_mSq.mpr (r_mFor.mpr (rng2_w (r_sCons.mpr (r_sC.mpr (r_sCons.mpr (r_s2.mpr (r_sN.mpr (r_sCons.mpr (r_sN.mpr (r_sCons.mpr (r_sW.mpr (gW_e rfl (r_sNil.mpr (oB_e (hln _) (r_sCons.mpr (r_s2.mpr (r_sN.mpr (r_sCons.mpr (r_sW.mpr (gW_e rfl (r_sNil.mpr (oB_e e_lenT (r_sC.mpr (oB_e e_subI (r_sNil.mpr (oB_e rfl (r_sC.mpr (oB_e e_addI (r_sNil.mpr ?_)))))))))))))))))))))))))))))
 rw [List.length_map,hl,List.length_map,ul]
 have em:((if (L:Int) - 2<((k+1:Nat):Int) then (L:Int) - 2 else ((k+1:Nat):Int))+1 - 1).toNat=min (k+1) (L - 2):=by split <;> omega
 refine oB_e (rng2_i (by decide) (by decide) (by split <;> omega) (by split <;> omega)) ?_
 rw [em]
 refine for_inv (λi E F'=>F' = F∧∃ o3,E=[some (.dat (fT xs)),some (.dat (mk ((us xs T s k).map qd))),some (.dat (qd (mkRat (ga xs T s k i) (s ^ (k+1) * T)))),o3]) (rngL 1 (min (k+1) (L - 2))) 0 _ F ⟨rfl,none,?_⟩ ?_ ?_
 ·have e:mkRat (ga xs T s k 0) (s ^ (k+1) * T)=0:=by simp [ga,isum]
  rw [e]
  rfl
 ·rintro i d hd E F1 ⟨rfl,o3,rfl⟩
  obtain ⟨hi,rfl⟩:=rng_at hd
  rw [Nat.zero_add]
  have hi2:i<k+1:=by omega
  have ix:ixD (mk ((us xs T s k).map qd)) (.int (-(1+(i:Int))))=some (qd (u xs T s (k - i))):=by
   rw [hix]
   rw [at_neg (by rw [List.length_map,ul];exact hi2),List.length_map,ul,List.getElem?_map,us_get (by omega)]
   rw [show k+1 - 1 - i=k - i by omega];rfl
  have tb:(tl xs (i+2)).natAbs<2 ^ 2000:=by
   have a:=tl_nn xs h.fl.nn (i+2)
   have b:=le_sum h.fl.nn
   have c:tl xs (i+2)≤xs.sum:=by
    have:xs.sum=(xs.take (i+2)).sum+tl xs (i+2):=by unfold tl;rw [← List.sum_append,List.take_append_drop]
    have:=(le_sum (xs:=xs.take (i+2)) λx hx=>h.fl.nn x (List.mem_of_mem_take hx)).1
    omega
   rw [h.fl.s] at c
   exact up9 (Nat.lt_of_le_of_lt (show (tl xs (i+2)).natAbs≤T by omega) T2)
  refine ⟨_,rfl,r_mSet.mpr (r_sCall.mpr (r_vD.mpr (r_sV.mpr (gD_e rfl (r_vD.mpr (r_sCall.mpr (r_vD.mpr (r_s2.mpr (r_sW.mpr (gW_e rfl (r_s1.mpr (r_sW.mpr (gW_e rfl (oB_e e_neg (oB_e ix (r_vD.mpr (r_sCall.mpr (r_vD.mpr (r_sN.mpr (r_sCons.mpr (r_cut.mpr (r_sW.mpr (gW_e rfl (r_oI.mpr (r_s2.mpr (r_sW.mpr (gW_e rfl (r_sC.mpr (oB_e e_addI (oB_e e_io (r_oNo.mpr (oB_e e_cutT (r_sNil.mpr ?_)))))))))))))))))))))))))))))))))⟩
  rw [cut_from (by omega),show ((1+(i:Int))+1).toNat=i+2 by omega,← List.map_drop]
  refine oB_e sumT_e (r_vD.mpr (r_sCall.mpr (r_vD.mpr (r_sV.mpr (gD_e rfl (r_vNil.mpr ?_))))))
  refine total_w ?_
  rw [h.fl.s]
  refine r_vNil.mpr ?_
  refine frac_n (by omega) (Nat.lt_trans T2 (Nat.pow_lt_pow_right (by decide) (by decide))) (r_vNil.mpr ?_)
  have z1:Sz (u xs T s (k - i)):=sz_mk (Nat.ne_of_gt (h.pw (k:=k - i+1) (by omega)).1) (up9 (h.lt (by omega))) (up9 (Nat.lt_of_le_of_lt (Nat.le_mul_of_pos_right _ (by omega)) (h.pw (k:=k - i+1) (by omega)).2))
  have z2:Sz (mkRat (tl xs (i+2)) T):=sz_mk (by omega) tb (up9 T2)
  have z3:Sz (mkRat (ga xs T s k i) (s ^ (k+1) * T)):=sz_mk hD (up9 (ga_lt h (by omega) (by omega))) (up9 pw.2)
  refine prod_w z1 z2 (r_vNil.mpr ?_)
  have z4:Sz (u xs T s (k - i) * mkRat (tl xs (i+2)) T):=by
   unfold u
   rw [Rat.mkRat_mul_mkRat]
   have p:=h.pw (k:=k - i+1) (by omega)
   refine sz_mk (Nat.mul_ne_zero (Nat.ne_of_gt p.1) (by omega)) ?_ (up9 p.2)
   rw [Int.natAbs_mul]
   have a:=Nat.mul_lt_mul'' (h.lt (k:=k - i) (by omega)) (Nat.lt_of_le_of_lt (show (tl xs (i+2)).natAbs≤T by
    have a:=tl_nn xs h.fl.nn (i+2)
    have c:tl xs (i+2)≤xs.sum:=by
     have:xs.sum=(xs.take (i+2)).sum+tl xs (i+2):=by unfold tl;rw [← List.sum_append,List.take_append_drop]
     have:=(le_sum (xs:=xs.take (i+2)) λx hx=>h.fl.nn x (List.mem_of_mem_take hx)).1
     omega
    rw [h.fl.s] at c
    omega) T2)
   rw [← Nat.pow_add] at a
   exact Nat.lt_trans a (Nat.pow_lt_pow_right (by decide) (by decide))
  refine plus_w z3 z4 ?_
  rw [show (List.drop (i+2) xs).sum=tl xs (i+2) from rfl,ga_step h (by omega)]
  exact ⟨lt_len rfl,_,rfl,rfl,_,rfl⟩
 ·rintro E F1 ⟨rfl,o3,rfl⟩
  rw [Nat.zero_add,rng_len,ga_all h k]
  exact sq_nx (r_mRt.mpr (r_sV.mpr (gD_e rfl (run_rt q))))
theorem lack_w (h:Fl xs L N (T:Int))(hL:L≤9)(hT:T≤108)(q:Q (qd (mkRat ((T:Int) - wSum (en 0 xs)) T)) F):wp (f_lacking [.dat (fT xs)] F) Q:=by
 have sp:=h.sp
 have hT0:(T:Rat)≠0:=by exact_mod_cast (show T≠0 by omega)
 have T2:T<2 ^ 900:=Nat.lt_of_le_of_lt hT (Nat.lt_of_lt_of_le (show 108<2 ^ 7 by decide) (Nat.pow_le_pow_right (by decide) (by decide)))
 unfold f_lacking
 rw [minus_is,mean_is]
 refine r_run.mpr (r_mRt.mpr (r_sCall.mpr (r_vD.mpr (r_sC.mpr (r_vD.mpr (r_sCall.mpr (r_vD.mpr (r_sV.mpr (gD_e rfl (r_vNil.mpr ?_))))))))))
 refine mean_w h (by omega) λt b hb=>?_
 rw [low_qd hb (by omega),Int.toNat_natCast]
 have w:=ws_ge 0 xs h.nn
 have hl:=h.len
 rw [h.s,Nat.zero_add,hl] at w
 have wb:(L:Int) * (T:Int)≤9 * 108:=Int.mul_le_mul (by omega) (by omega) (by omega) (by decide)
 simp at w
 have zm:Sz (mkRat (wSum (en 0 xs)) T):=sz_mk (by omega) (Nat.lt_of_lt_of_le (show (wSum (en 0 xs)).natAbs<2 ^ 10 by omega) (Nat.pow_le_pow_right (by decide) (by decide))) (up9 T2)
 have z1:Sz (1:Rat):=⟨by decide,by decide⟩
 refine r_vNil.mpr ?_
 show wp (c_minus [.dat (qd 1),.dat (qd (mkRat (wSum (en 0 xs)) T))] F) _
 refine minus_w z1 zm (run_rt ?_)
 have e1:(1:Rat) - mkRat (wSum (en 0 xs)) T=mkRat ((T:Int) - wSum (en 0 xs)) T:=by
  simp only [Rat.mkRat_eq_div]
  push_cast
  simp only [Rat.div_def]
  have q1:=Rat.mul_inv_cancel _ hT0
  grind
 rw [e1]
 exact q
theorem back_w (h:Rg xs L N T s){E:DE}{Q:PyData->FdS->Prop}(hE:E[0]? = some (some (.dat (fT xs))))(q:Q (qd (mkRat (s:Nat) T)) F):wp (sCall f_share_of (vD (sV 0) (vD (sC (.int 0)) vNil)) E F) Q:=by
 rw [share_is]
 refine r_sCall.mpr (r_vD.mpr (r_sV.mpr (gD_e hE (r_vD.mpr (r_sC.mpr (r_vNil.mpr ?_))))))
 refine share_w h.fl λt b hb=>?_
 rw [show lotAt xs 0=xs.getD 0 0 from lot_n (h:=0),h.s0] at hb
 rw [low_qd hb (by have:=h.sp;omega),Int.toNat_natCast]
 exact q
theorem cut_iff (h:Rg xs L N T s){p:Rat}{a:Int}{k:Nat}:p * mkRat ((s:Nat):Int) T=mkRat a (s ^ k * T)↔p=mkRat a (s ^ (k+1)):=by
 have hsp:=h.sp
 have h1:(T:Rat)≠0:=by exact_mod_cast (show T≠0 by omega)
 have hs0:(s:Rat)≠0:=by exact_mod_cast (show s≠0 by omega)
 have hk:(s:Rat) ^ k≠0:=by exact_mod_cast Nat.ne_of_gt (Nat.pow_pos (n:=k) hsp.1)
 have e1:(s:Rat) ^ (k+1)=(s:Rat) ^ k * (s:Rat):=by
  have z:=congrArg (λz:Nat=>(z:Rat)) (Nat.pow_succ (n:=s) (m:=k))
  push_cast at z
  exact z
 simp only [Rat.mkRat_eq_div]
 push_cast
 rw [e1]
 generalize (s:Rat) ^ k=A at *
 generalize (a:Rat)=g
 generalize (T:Rat)=w at *
 generalize ((s:Nat):Rat)=v at *
 simp only [Rat.div_def,Rat.inv_mul_rev]
 have q1:=Rat.mul_inv_cancel _ hk
 have q2:=Rat.mul_inv_cancel _ hs0
 have q3:=Rat.mul_inv_cancel _ h1
 constructor
 ·intro e
  have:p=(p * (v * w⁻¹)) * (w * v⁻¹):=by grind
  rw [this,e]
  grind
 ·intro e
  rw [e]
  grind
end
end K62
namespace K62
open PySem L2 L3 Bz
theorem num_is:f_is_number=c_is_number:=rfl
theorem from_is:f_is_number_from=c_is_number_from:=rfl
theorem tupof_is:f_is_tuple_of=c_is_tuple_of:=rfl
theorem gcd_is:f_common_divisor=c_common_divisor:=rfl
theorem for_ret {bd:PyData->DE->Option DE}{body:DE->M Out}{Q:Out->FdS->Prop}(I:Nat->DE->FdS->Prop):∀ (items:List PyData) (n:Nat) (E:DE) (F:FdS),I n E F ->
  (∀ i d,items[i]? = some d->∀ E F,I (n+i) E F->∃ E1,bd d E=some E1∧wp (body E1 F) λo F'=>(∃ E2,o = .nx E2∧I (n+i+1) E2 F')∨∃ v,o = .rt v∧Q (.rt v) F')->(∀ E F,I (n+items.length) E F->Q (.nx E) F)->wp (forGo bd body items E F) Q
 | [],n,E,F,h,_,hq=>wp_some.mpr (hq E F h)
 | d::r,n,E,F,h,st,hq=>by
  obtain ⟨E1,e1,h1⟩:=st 0 d rfl E F h
  rw [forGo,e1,Option.bind_some,wp_bind]
  refine wp_mono h1 λo F1 h2=>?_
  rcases h2 with ⟨E2,e2,h2⟩ | ⟨v,e2,h2⟩
  ·subst e2
   refine for_ret I r (n+1) E2 F1 h2 (λi d e E F hI=>?_) (λE F hI=>hq E F (by rw [List.length_cons];rw [show n+(r.length+1)=n+1+r.length by omega];exact hI))
   have:=st (i+1) d (by simpa using e) E F (by rw [show n+(i+1)=n+1+i by omega];exact hI)
   rw [show n+(i+1)+1=n+1+i+1 by omega] at this
   exact this
  ·subst e2
   exact wp_some.mpr h2
theorem r_mTry {fi:Nat}{told:Str}{g:List DV->M PyData}{ms:DE->M (List DV)}{hd:Str->List PyData->DE->Option DE}{E:DE}{F:FdS}{Q:Out->FdS->Prop}
  (q:wp (ms E F) λxs F1=>wp (g xs F1) λd F2=>(∃ z E1,errOf d=some z∧hd z.1 z.2 E=some E1∧Q (.nx E1) F2)∨(errOf d=none∧∃ E1,bN fi (.tuple [.str told,d]) E=some E1∧Q (.nx E1) F2)):wp (mTry fi told g ms hd E F) Q:=by
 unfold mTry
 rw [wp_bind]
 refine wp_mono q λxs F1 h=>?_
 rw [wp_bind]
 refine wp_mono h λd F2 h=>?_
 dsimp only
 rcases h with ⟨z,E1,e1,e2,h⟩ | ⟨e1,E1,e2,h⟩
 ·rw [e1];dsimp only;rw [e2];exact wp_some.mpr h
 ·rw [e1];dsimp only;rw [e2];exact wp_some.mpr h
theorem r_mRaise {nm:Str}{ms:DE->M (List PyData)}{E:DE}{F:FdS}{Q:Out->FdS->Prop}(q:wp (ms E F) λds F1=>ds.length=(psT nm).length∧Q (.rt (errD nm ds)) F1):wp (mRaise nm ms E F) Q:=by
 unfold mRaise
 rw [wp_bind]
 refine wp_mono q λds F1 h=>?_
 rw [if_pos h.1]
 exact wp_some.mpr h.2
theorem r_mDoX {f:List DV->M PyData}{ms:DE->M (List DV)}{E:DE}{F:FdS}{Q:Out->FdS->Prop}(q:wp (ms E F) λxs F1=>wp (f xs F1) λd F2=>(errOf d≠none∧Q (.rt d) F2)∨(errOf d=none∧Q (.nx E) F2)):wp (mDoX f ms E F) Q:=by
 unfold mDoX
 rw [wp_bind]
 refine wp_mono q λxs F1 h=>?_
 rw [wp_bind]
 refine wp_mono h λd F2 h=>?_
 dsimp only
 rcases h with ⟨e1,h⟩ | ⟨e1,h⟩
 ·cases e:errOf d with
  | none=>exact absurd e e1
  | some z=>exact wp_some.mpr h
 ·rw [e1];exact wp_some.mpr h
section
variable {F:FdS}{Q:PyData->FdS->Prop}{n:Nat}
noncomputable def fracB:PyData->Bool
 | .tuple [.int a,.int b]=>decide (1≤b) && decide (Int.gcd a b=1)
 | _=>false
theorem tup2_cases {d:PyData}:tupB 2 d=true->∃ a b,d = .tuple [a,b]:=λh=>by
 cases d with
 | tuple ds =>
  simp only [tupB,decide_eq_true_eq] at h
  match ds,h with
  | [a,b],_=>exact ⟨a,b,rfl⟩
 | _=>simp [tupB] at h
theorem no2 {d:PyData}(h:tupB 2 d=false):fracB d=false:=by
 cases d with
 | tuple ds =>
  match ds,h with
  | [a,b],h=>simp [tupB] at h
  | [],h=>rfl
  | [_],h=>simp [fracB]
  | _::_::_::_,h=>simp [fracB]
 | _=>rfl
theorem fracB_no {a b:PyData}(h:isI a=false∨numB 1 b=false):fracB (.tuple [a,b])=false:=by
 cases a with
 | int i =>
  cases b with
  | int j =>
   rcases h with h | h
   ·simp [isI] at h
   ·simp only [numB] at h
    simp only [fracB,h,Bool.false_and]
  | _=>rfl
 | _=>rfl
theorem one_e {z:Nat}:eqD false (.int (z:Nat)) (.int 1)=some (.bool (decide (z=1))):=by
 rw [eq_i]
 have:((z:Int)=1)↔z=1:=by omega
 simp only [this]
theorem frac_w {d:PyData}(h:scs n d)(q:Q (.bool (fracB d)) F):wp (f_is_fraction [.dat d] F) Q:=by
 unfold f_is_fraction
 rw [tupof_is,num_is,from_is,gcd_is]
 walk_at "go"
 refine tupof_w (m:=2) h ?_
 cases e3:tupB 2 d with
 | false =>
  rw [no2 e3] at q
  refine oB_e rfl (cIf_te rfl ?_)
  walk_at "go"
  exact q
 | true =>
  obtain ⟨a,b,rfl⟩:=tup2_cases e3
  have hs:scs n a∧scs n b:=by simpa [scs,scsL] using h
  refine oB_e rfl (cIf_fe rfl ?_)
  walk_at "go"
  refine num_w hs.1 ?_
  refine oB_e rfl (cIf_2 (λe1=>?_) (λe1=>?_))
  ·walk_at "go"
   refine from_w hs.2 ?_
   refine oB_e rfl (cIf_2 (λe2=>?_) (λe2=>?_))
   ·walk_at "go"
    cases a with
    | int i =>
     cases b with
     | int j =>
      refine gcd_w ?_
      refine r_sC.mpr (oB_e one_e (run_rt ?_))
      have e2:decide (1≤j)=true:=e2
      simp only [fracB,e2,Bool.true_and] at q
      exact q
     | _=>simp [numB] at e2
    | _=>simp [isI] at e1
   ·rw [fracB_no (.inr e2)] at q
    walk_at "go"
    exact q
  ·rw [fracB_no (.inl e1)] at q
   walk_at "go"
   exact q
theorem fracB_is {d:PyData}(h:fracB d=true):∃ a b:Int,d = .tuple [.int a,.int b]∧1≤b∧Int.gcd a b=1:=by
 unfold fracB at h
 split at h
 ·simp only [Bool.and_eq_true,decide_eq_true_eq] at h
  exact ⟨_,_,rfl,h.1,h.2⟩
 ·cases h
theorem isin_tup {d:PyData}(h:scs n d):isT (tyD d) "tuple" = (match d with | .tuple _=>true | _=>false):=by
 cases d with
 | int i=>exact t_int_tuple
 | bool i=>exact t_bool_tuple
 | none=>exact t_NoneType_tuple
 | str i=>exact t_str_tuple
 | tuple i=>exact t_tuple_tuple
 | list i=>exact t_list_tuple
 | dict i=>exact absurd h (by simp [scs])
theorem ne_tup {a b c d:Int}(h1:SeqAt.shaped (.tuple [.int a,.int b])=true)(h2:SeqAt.shaped (.tuple [.int c,.int d])=true):eqD true (.tuple [.int a,.int b]) (.tuple [.int c,.int d])=some (.bool (!decide (a=c∧b=d))):=by
 unfold eqD
 simp only [h1,h2,and_self,if_true]
 congr 2
 by_cases e1:a=c
 ·by_cases e2:b=d
  ·simp [PyData.eqv,PyData.eqvAll,e1,e2]
  ·simp [PyData.eqv,PyData.eqvAll,e1,e2]
 ·simp [PyData.eqv,PyData.eqvAll,e1]
theorem shaped2 {a b:Int}:SeqAt.shaped (.tuple [.int a,.int b])=true:=by
 rfl
theorem ne_qd {p q:Rat}:eqD true (qd p) (qd q)=some (.bool (!decide (p=q))):=by
 unfold qd
 rw [ne_tup shaped2 shaped2]
 congr 3
 have:(p.num=q.num∧((p.den:Nat):Int)=((q.den:Nat):Int))↔p=q:=by
  constructor
  ·rintro ⟨h1,h2⟩
   exact Rat.ext h1 (by omega)
  ·rintro rfl
   exact ⟨rfl,rfl⟩
 simp only [this]
theorem frac_qd {d:PyData}(h:fracB d=true):∃ p:Rat,d=qd p:=by
 obtain ⟨a,b,rfl,hb,hg⟩:=fracB_is h
 refine ⟨mkRat a b.toNat,?_⟩
 have lo:=low_pos (i:=a) (j:=b) (by omega)
 rw [hg] at lo
 simp only [Int.natCast_one,Int.ediv_one] at lo
 exact low_qd lo (by omega)
end
section
variable {F:FdS}{Q:PyData->FdS->Prop}{xs:List Int}{L T s:Nat}{N:Int}{n:Nat}
theorem rest_s (h:Fl xs L N (T:Int))(hr:wSum (en 0 xs)<(T:Int)):1≤(xs.getD 0 0).toNat∧xs.getD 0 0=(((xs.getD 0 0).toNat:Nat):Int):=by
 have hs:=h.s
 have nn:=h.nn
 have ho:=h.one
 have hl:=h.len
 match xs,hs,nn,hr with
 | [],_,_,_=>simp at hl;omega
 | x::r,hs,nn,hr =>
  have w:=(ws_ge 1 r λy hy=>nn y (List.mem_cons_of_mem _ hy)).1
  have e:wSum (en 0 (x::r))=wSum (en 1 r):=by simp [en,wSum]
  rw [e] at hr
  rw [List.sum_cons] at hs
  push_cast at w
  have x0:=nn x List.mem_cons_self
  show 1≤x.toNat∧x=((x.toNat:Nat):Int)
  omega
theorem rg_of (h:Fl xs L N (T:Int))(hL:L≤9)(hT:T≤108)(hr:wSum (en 0 xs)<(T:Int)):Rg xs L N T (xs.getD 0 0).toNat:=⟨h,hL,hT,(rest_s h hr).2,(rest_s h hr).1⟩
noncomputable def pt (w:Str)(k:Int):PyData:=.tuple [.str w,.int k]
noncomputable def bad1 (ds:List PyData):List Nat:=(List.range ds.length).filter λk=>!fracB (ds.getD k .none)
noncomputable def qOf:PyData->Rat
 | .tuple [.int a,.int b]=>mkRat a b.toNat
 | _=>0
theorem qOf_qd (p:Rat):qOf (qd p)=p:=by
 show mkRat p.num ((p.den:Nat):Int).toNat=p
 rw [Int.toNat_natCast]
 exact Rat.mkRat_self p
noncomputable def bad2 (xs:List Int)(T s:Nat)(ds:List PyData):List Nat:=(List.range ds.length).filter λk=>!decide (qOf (ds.getD k .none)=u xs T s k)
noncomputable def told2:List Nat->PyData
 | []=>.tuple [.str "told",.bool true]
 | 0::_=>pt "first" 0
 | k::_=>pt "cut" (k:Nat)
noncomputable def told1 (xs:List Int)(T:Nat)(ds:List PyData):List Nat->PyData
 | k::_=>pt "shape" (k:Nat)
 | []=>if wSum (en 0 xs)<(T:Int) then told2 (bad2 xs T (xs.getD 0 0).toNat ds) else pt "rest" (-1)
noncomputable def dueD (xs:List Int)(T:Nat):PyData->PyData
 | .tuple (d::ds)=>told1 xs T (d::ds) (bad1 (d::ds))
 | _=>pt "shape" (-1)
theorem fil_first {p:Nat->Bool}{n k:Nat}(hk:k<n)(h1:∀ i,i<k->p i=false)(h2:p k=true):∃ r,(List.range n).filter p=k::r:=by
 have e:List.range n=List.range k++(List.range (n - k)).map (k + ·):=by
  rw [← List.range_add];congr 1;omega
 obtain ⟨m,hm⟩:∃ m,n - k=m+1:=⟨n - k - 1,by omega⟩
 rw [e,List.filter_append,List.filter_eq_nil_iff.mpr λi hi=>by rw [h1 i (List.mem_range.mp hi)];decide,List.nil_append,hm,List.range_succ_eq_map,List.map_cons,List.filter_cons,if_pos (by simpa using h2)]
 exact ⟨_,rfl⟩
theorem fil_none {p:Nat->Bool}{n:Nat}(h1:∀ i,i<n->p i=false):(List.range n).filter p=[]:=List.filter_eq_nil_iff.mpr λi hi=>by rw [h1 i (List.mem_range.mp hi)];decide
theorem fil_nil {p:Nat->Bool}{n:Nat}(h:(List.range n).filter p=[]):∀ i,i<n->p i=false:=λi hi=>by
 have:=List.filter_eq_nil_iff.mp h i (List.mem_range.mpr hi)
 simpa using this
theorem items {N k:Nat}{ds:List PyData}(h:Gd 0 N k (.tuple ds)):∀ i,i<ds.length->scs 0 (ds.getD i .none):=λi hi=>by
 have hs:scsL 0 ds:=by simpa [scs] using h.sc
 have:∀ (ds:List PyData),scsL 0 ds->∀ i,i<ds.length->scs 0 (ds.getD i .none):=λds=>by
  induction ds with
  | nil=>intro _ i hi;simp at hi
  | cons d ds ih =>
   intro hs i hi
   simp only [scsL] at hs
   cases i with
   | zero=>exact hs.1
   | succ i=>exact ih hs.2 i (by simpa using hi)
 exact this ds hs i hi
theorem ix_t {ds:List PyData}{i:Nat}(h:i<ds.length):ixD (.tuple ds) (.int (i:Nat))=some (ds.getD i .none):=by
 rw [e_ixT]
 unfold atI
 rw [ixN_n (by omega) (by omega)]
 show ds[((i:Int)).toNat]? = _
 rw [Int.toNat_natCast,List.getD_eq_getElem?_getD,List.getElem?_eq_getElem h]
 rfl
theorem all_qd {ds:List PyData}(h:bad1 ds=[]){i:Nat}(hi:i<ds.length):ds.getD i .none=qd (qOf (ds.getD i .none)):=by
 have:=fil_nil h i hi
 obtain ⟨p,hp⟩:=frac_qd (d:=ds.getD i .none) (by simpa using this)
 rw [hp,qOf_qd]
theorem sz_qd {p:Rat}(h:scs 0 (qd p)):Sz p:=by
 have hs:scs 0 (.int p.num)∧scs 0 (.int ((p.den:Nat):Int)):=by simpa [qd,scs,scsL] using h
 simp only [scs,Int.natAbs_natCast] at hs
 have hk:(10:Nat) ^ 300+0≤2 ^ 4000:=by decide +kernel
 exact ⟨Nat.lt_of_lt_of_le hs.1 hk,Nat.lt_of_lt_of_le hs.2 hk⟩
end
section
variable {F:FdS}{Q:PyData->FdS->Prop}{xs:List Int}{L T s:Nat}{N:Int}{n:Nat}
theorem neS {a b:Str}:eqD true (.str a) (.str b)=some (.bool (!decide (a=b))):=by
 unfold eqD
 simp
theorem enum_at {ds:List PyData}{e:PyData}:∀ {k i:Nat},(enumL k ds)[i]? = some e->i<ds.length∧e = .tuple [.int ((k+i:Nat):Int),ds.getD i .none]:=by
 induction ds with
 | nil=>intro k i h;simp [enumL] at h
 | cons d ds ih =>
  intro k i h
  cases i with
  | zero =>
   simp [enumL] at h
   exact ⟨by simp,h.symm⟩
  | succ i =>
   have h:(enumL (k+1) ds)[i]? = some e:=by simpa [enumL] using h
   obtain ⟨h1,h2⟩:=ih h
   refine ⟨by simpa using h1,?_⟩
   rw [h2,show k+1+i=k+(i+1) by omega]
   rfl
noncomputable def erN (w:Str)(k:Int):PyData:=errD "NoPaper" [.str w,.int k]
theorem shape_w {M0 k:Nat}{d:PyData}(hd:Gd 0 M0 k d)(hl:∀ ds,d = .tuple ds->ds.length≤28)(q:((∀ x r,d ≠ .tuple (x::r))->Q (erN "shape" (-1)) F)∧∀ ds,d = .tuple ds->ds≠[]->(∀ k r,bad1 ds=k::r->Q (erN "shape" (k:Nat)) F)∧(bad1 ds=[]->Q .none F)):wp (f_check_shape [.dat d] F) Q:=by
 unfold f_check_shape
 refine r_run.mpr (r_mSq.mpr (r_mIf.mpr (r_uOr.mpr (r_uNot.mpr (r_uT.mpr (r_s1.mpr (r_sW.mpr (gW_e rfl (oB_e e_isin (oB_e rfl ?_))))))))))
 rw [isin_tup hd.sc]
 have no:(∀ x r,d ≠ .tuple (x::r))->∀ {m:DE->M Out} {E:DE},wp (mRaise "NoPaper" (sCons (sC (.str "shape")) (sCons (s1 negD (sC (.int 1))) sNil)) E F) (sqK m (runK Q)):=λe m E =>
  r_mRaise (r_sCons.mpr (r_sC.mpr (r_sCons.mpr (r_s1.mpr (r_sC.mpr (oB_e rfl (r_sNil.mpr ⟨rfl,sq_rt (run_rt (q.1 e))⟩)))))))
 cases d with
 | tuple ds =>
  have hl:=hl ds rfl
  refine cIf_fe rfl (r_uB.mpr (r_s2.mpr (r_sN.mpr (r_sCons.mpr (r_sW.mpr (gW_e rfl (r_sNil.mpr (oB_e e_lenT (r_sC.mpr (oB_e eq_i (oB_e rfl ?_)))))))))))
  by_cases h0:ds=[]
  ·subst h0
   exact cIf_te (by decide) (no λx r z=>by cases z)
  ·have hp:0<ds.length:=List.length_pos_iff.mpr h0
   obtain ⟨q1,q2⟩:=q.2 ds rfl h0
   have it:=items hd
   refine cIf_fe (decide_eq_false (by omega)) (r_mNx.mpr (sq_nx (r_mFor.mpr (enum_w (r_sV.mpr (gD_e rfl (oB_e e_seqT ?_)))))))
   refine for_ret (λi E F'=>F' = F∧(∀ j,j<i->fracB (ds.getD j .none)=true)∧∃ o1 o2,E=[some (.dat (.tuple ds)),o1,o2]) _ 0 _ F ⟨rfl,λj hj=>absurd hj (by omega),none,none,rfl⟩ ?_ ?_
   ·rintro i e he E F1 ⟨rfl,hj,o1,o2,rfl⟩
    rw [Nat.zero_add] at hj ⊢
    obtain ⟨hi,rfl⟩:=enum_at he
    rw [Nat.zero_add]
    refine ⟨_,rfl,r_mIf.mpr (r_uNot.mpr (r_uT.mpr (r_sCall.mpr (r_vD.mpr (r_sV.mpr (gD_e rfl (r_vNil.mpr ?_)))))))⟩
    refine frac_w (n:=0) (it i hi) (oB_e rfl (cIf_2 (λe=>?_) (λe=>?_)))
    ·have e:fracB (ds.getD i .none)=false:=by simpa using e
     obtain ⟨r,hr⟩:=fil_first (p:=λk=>!fracB (ds.getD k .none)) hi (λj hj'=>by rw [hj j hj'];rfl) (by rw [e];rfl)
     exact r_mRaise (r_sCons.mpr (r_sC.mpr (r_sCons.mpr (r_sV.mpr (gD_e rfl (r_sNil.mpr ⟨rfl,.inr ⟨_,rfl,run_rt (q1 i r hr)⟩⟩))))))
    ·have e:fracB (ds.getD i .none)=true:=by simpa using e
     refine r_mNx.mpr (.inl ⟨_,rfl,rfl,λj hj'=>?_,_,_,rfl⟩)
     by_cases ej:j=i
     ·rw [ej];exact e
     ·exact hj j (by omega)
   ·rintro E F1 ⟨rfl,hj,o1,o2,rfl⟩
    rw [Nat.zero_add,enumL_len] at hj
    exact run_nx (q2 (fil_none λi hi=>by rw [hj i hi];rfl))
 | _=>exact cIf_te rfl (no λx r z=>by cases z)
theorem lets_w {M0 k:Nat}{d:PyData}(h:Fl xs L N (T:Int))(hL:L≤9)(hT:T≤108)(hd:Gd 0 M0 k d)(hl:∀ ds,d = .tuple ds->ds.length≤28)(q1:∀ w k,dueD xs T d=pt w k->Q (erN w k) F)(q2:dueD xs T d = .tuple [.str "told",.bool true]->Q (.bool true) F):wp (f_lets_steps [.dat (fT xs),.dat d] F) Q:=by
 unfold f_lets_steps
 refine r_run.mpr (r_mSq.mpr (r_mDoX (r_vD.mpr (r_sV.mpr (gD_e rfl (r_vNil.mpr ?_))))))
 refine shape_w hd hl ⟨λhn=>?_,λds e0 hne=>⟨λk r hb=>?_,λhb=>?_⟩⟩
 ·refine .inl ⟨by simp [errOf,erN,errD],sq_rt (run_rt (q1 _ _ ?_))⟩
  unfold dueD
  split
  ·exact absurd rfl (hn _ _)
  ·rfl
 ·subst e0
  refine .inl ⟨by simp [errOf,erN,errD],sq_rt (run_rt (q1 _ _ ?_))⟩
  match ds,hne with
  | x::ds,_ =>
   show told1 xs T (x::ds) (bad1 (x::ds))=_
   rw [hb]
   rfl
 ·subst e0
  have hl:=hl ds rfl
  have hp:0<ds.length:=List.length_pos_iff.mpr hne
  have ed:dueD xs T (.tuple ds)=if wSum (en 0 xs)<(T:Int) then told2 (bad2 xs T (xs.getD 0 0).toNat ds) else pt "rest" (-1):=by
   match ds,hne with
   | x::ds,_ =>
    show told1 xs T (x::ds) (bad1 (x::ds))=_
    rw [hb]
    rfl
  refine .inr ⟨rfl,sq_nx ?_⟩
  rw [word_is,prod_is]
  refine r_mSq.mpr (r_mIf.mpr (r_uB.mpr (r_s2.mpr (r_sCall.mpr (r_vD.mpr (r_sV.mpr (gD_e rfl (r_vD.mpr (r_sC.mpr (r_vNil.mpr ?_))))))))))
  refine word_w (h:=1) h (by omega) (by decide) (r_sC.mpr (oB_e neS (oB_e rfl ?_)))
  have e1:(((1:Nat):Int)) * (T:Int)=(T:Int):=by push_cast;omega
  by_cases hr:wSum (en 0 xs)<(T:Int)
  ·have ea:ans xs 1 T = "rests":=by unfold ans;rw [e1,if_pos hr]
   rw [ea]
   rw [if_pos hr] at ed
   have hg:=rg_of h hL hT hr
   generalize (xs.getD 0 0).toNat=s at hg ed
   have hsp:=hg.sp
   have T2:T<2 ^ 900:=Nat.lt_of_le_of_lt hT (Nat.lt_of_lt_of_le (show 108<2 ^ 7 by decide) (Nat.pow_le_pow_right (by decide) (by decide)))
   have zb:Sz (mkRat ((s:Nat):Int) T):=sz_mk (by omega) (by rw [Int.natAbs_natCast];exact up9 (Nat.lt_of_le_of_lt hsp.2 T2)) (up9 T2)
   have it:=items hd
   have szI:∀ i,i<ds.length->Sz (qOf (ds.getD i .none)):=λi hi=>sz_qd (by rw [← all_qd hb hi];exact it i hi)
   have bad:∀ {k:Nat},k<ds.length->(∀ j,j<k->qOf (ds.getD j .none)=u xs T s j)->qOf (ds.getD k .none)≠u xs T s k->∃ r,bad2 xs T s ds=k::r:=λ{k} hk h1 h2 =>
    fil_first (p:=λk=>!decide (qOf (ds.getD k .none)=u xs T s k)) hk (λj hj=>by rw [h1 j hj];simp) (by rw [decide_eq_false h2];rfl)
   refine cIf_fe (by decide) (r_mNx.mpr (sq_nx (r_mSq.mpr (r_mSet.mpr (back_w hg rfl ⟨lt_len rfl,sq_nx ?_⟩)))))
   refine r_mSq.mpr (r_mIf.mpr (r_uB.mpr (r_s2.mpr (r_sCall.mpr (r_vD.mpr (r_s2.mpr (r_sW.mpr (gW_e rfl (r_sC.mpr (oB_e (ix_t (i:=0) hp) (r_vD.mpr (r_sV.mpr (gD_e rfl (r_vNil.mpr ?_))))))))))))))
   rw [all_qd hb hp]
   refine prod_w (szI 0 hp) zb (r_sCall.mpr (r_vD.mpr (r_sV.mpr (gD_e rfl (r_vNil.mpr ?_)))))
   refine lack_w h hL hT (oB_e ne_qd (oB_e rfl ?_))
   have u0:u xs T s 0=mkRat ((T:Int) - wSum (en 0 xs)) (s ^ (0+1)):=rfl
   have c0:=cut_iff hg (p:=qOf (ds.getD 0 .none)) (a:=(T:Int) - wSum (en 0 xs)) (k:=0)
   rw [Nat.pow_zero,Nat.one_mul,← u0] at c0
   refine cIf_2 (λe=>?_) (λe=>?_)
   ·have e:¬ qOf (ds.getD 0 .none)=u xs T s 0:=λz=>by rw [decide_eq_true (c0.mpr z)] at e;cases e
    obtain ⟨r,hr2⟩:=bad hp (λj hj=>absurd hj (by omega)) e
    rw [hr2] at ed
    exact r_mRaise (r_sCons.mpr (r_sC.mpr (r_sCons.mpr (r_sC.mpr (r_sNil.mpr ⟨rfl,sq_rt (run_rt (q1 _ _ ed))⟩)))))
   ·have e:qOf (ds.getD 0 .none)=u xs T s 0:=by
     simp only [Bool.not_eq_false',decide_eq_true_eq] at e
     exact c0.mp e
    refine r_mNx.mpr (sq_nx (r_mSq.mpr (r_mFor.mpr (rng2_w (r_sCons.mpr (r_sC.mpr (r_sCons.mpr (r_sN.mpr (r_sCons.mpr (r_sW.mpr (gW_e rfl (r_sNil.mpr (oB_e e_lenT (r_sNil.mpr (oB_e (rng2_i (by decide) (by decide) (by omega) (by omega)) ?_)))))))))))))))
    rw [show ((ds.length:Int) - 1).toNat=ds.length - 1 by omega]
    refine for_ret (λi E F'=>F' = F∧(∀ j,j<i+1->qOf (ds.getD j .none)=u xs T s j)∧∃ o3,E=[some (.dat (fT xs)),some (.dat (.tuple ds)),some (.dat (qd (mkRat ((s:Nat):Int) T))),o3]) (rngL 1 (ds.length - 1)) 0 _ F ⟨rfl,λj hj=>by rw [show j=0 by omega];exact e,none,rfl⟩ ?_ ?_
    ·rintro i dd hdd E F1 ⟨rfl,hj,o3,rfl⟩
     rw [Nat.zero_add] at hj ⊢
     obtain ⟨hi,rfl⟩:=rng_at hdd
     have hi2:i+1<ds.length:=by omega
     rw [show (1+(i:Int))=((i+1:Nat):Int) by omega]
     refine ⟨_,rfl,r_mIf.mpr (r_uB.mpr (r_s2.mpr (r_sCall.mpr (r_vD.mpr (r_s2.mpr (r_sW.mpr (gW_e rfl (r_sW.mpr (gW_e rfl (oB_e (ix_t hi2) (r_vD.mpr (r_sV.mpr (gD_e rfl (r_vNil.mpr ?_))))))))))))))⟩
     rw [all_qd hb hi2]
     refine prod_w (szI _ hi2) zb (r_sCall.mpr (r_vD.mpr (r_sV.mpr (gD_e rfl (r_vD.mpr (r_cut.mpr (r_sW.mpr (gW_e rfl (r_oNo.mpr (r_oI.mpr (r_sV.mpr (gD_e rfl (oB_e e_io (oB_e e_cutT (r_vNil.mpr ?_)))))))))))))))
     have ec:cutL ds none (some ((i+1:Nat):Int))=(us xs T s i).map qd:=by
      rw [cut_to (by omega),Int.toNat_natCast]
      refine List.ext_getElem (by simp [us];omega) λj h1 h2=>?_
      have hj1:j<i+1:=by simp at h1;omega
      rw [List.getElem_take,List.getElem_map]
      have g1:ds[j]'(by omega)=ds.getD j .none:=by rw [List.getD_eq_getElem?_getD,List.getElem?_eq_getElem (by omega)];rfl
      rw [g1,all_qd hb (show j<ds.length by omega),hj j hj1]
      congr 1
      simp [us]
     rw [ec]
     refine above_w hg (by omega) (oB_e ne_qd (oB_e rfl ?_)) .tuple (λ_=>rfl) (λ_ _=>rfl)
     have ck:=cut_iff hg (p:=qOf (ds.getD (i+1) .none)) (a:=tq xs T (i+1)) (k:=i+1)
     have uk:u xs T s (i+1)=mkRat (tq xs T (i+1)) (s ^ (i+1+1)):=rfl
     rw [← uk] at ck
     refine cIf_2 (λe=>?_) (λe=>?_)
     ·have e:¬ qOf (ds.getD (i+1) .none)=u xs T s (i+1):=λz=>by rw [decide_eq_true (ck.mpr z)] at e;cases e
      obtain ⟨r,hr2⟩:=bad hi2 hj e
      rw [hr2] at ed
      exact r_mRaise (r_sCons.mpr (r_sC.mpr (r_sCons.mpr (r_sV.mpr (gD_e rfl (r_sNil.mpr ⟨rfl,.inr ⟨_,rfl,sq_rt (run_rt (q1 _ _ ed))⟩⟩))))))
     ·have e:qOf (ds.getD (i+1) .none)=u xs T s (i+1):=by
       simp only [Bool.not_eq_false',decide_eq_true_eq] at e
       exact ck.mp e
      refine r_mNx.mpr (.inl ⟨_,rfl,rfl,λj hj'=>?_,_,rfl⟩)
      by_cases ej:j=i+1
      ·rw [ej];exact e
      ·exact hj j (by omega)
    ·rintro E F1 ⟨rfl,hj,o3,rfl⟩
     rw [Nat.zero_add,rng_len] at hj
     have b0:bad2 xs T s ds=[]:=fil_none λi hi=>by rw [hj i (by omega)];simp
     rw [b0] at ed
     exact sq_nx (r_mRt.mpr (r_sC.mpr (run_rt (q2 ed))))
  ·rw [if_neg hr] at ed
   have ea:ans xs 1 T ≠ "rests":=by
    unfold ans;rw [e1,if_neg hr]
    split
    ·decide
    ·split <;> decide
   exact cIf_te (by simpa using ea) (r_mRaise (r_sCons.mpr (r_sC.mpr (r_sCons.mpr (r_s1.mpr (r_sC.mpr (oB_e rfl (r_sNil.mpr ⟨rfl,sq_rt (run_rt (q1 _ _ ed))⟩))))))))
end
end K62
namespace Bz
open PySem L2 L3
variable [Fam]
noncomputable def wf (f:Nat->Int):Nat->List Int->Int
 | _,[]=>0
 | j,x::r=>x * f j+wf f (j+1) r
theorem wf_le {f g:Nat->Int}:∀ {xs:List Int} {j:Nat},(∀ x∈xs,0≤x)->(∀ k,j≤k->k<j+xs.length->f k≤g k)->wf f j xs≤wf g j xs
 | [],j,_,_=>Int.le_refl _
 | x::r,j,h,hf=>by
  have h1:=wf_le (xs:=r) (j:=j+1) (λy hy=>h y (List.mem_cons_of_mem _ hy)) (λk h1 h2=>hf k (by omega) (by rw [List.length_cons];omega))
  have h2:=Int.mul_le_mul_of_nonneg_left (hf j (Nat.le_refl _) (by rw [List.length_cons];omega)) (h x List.mem_cons_self)
  rw [wf,wf]
  omega
theorem wf_lin {c d:Int}{f g:Nat->Int}:∀ (xs:List Int) (j:Nat),wf (λk=>c * f k+d * g k) j xs=c * wf f j xs+d * wf g j xs
 | [],j=>by simp [wf]
 | x::r,j=>by
  rw [wf,wf,wf,wf_lin r (j+1)]
  grind
theorem wf_cg {f g:Nat->Int}:∀ {xs:List Int} {j:Nat},(∀ k,j≤k->k<j+xs.length->f k=g k)->wf f j xs=wf g j xs
 | [],j,_=>rfl
 | x::r,j,hf=>by
  rw [wf,wf,wf_cg (xs:=r) (j:=j+1) (λk h1 h2=>hf k (by omega) (by rw [List.length_cons];omega)),hf j (Nat.le_refl _) (by rw [List.length_cons];omega)]
theorem wf_one:∀ (xs:List Int) (j:Nat),wf (λ_=>1) j xs=xs.sum
 | [],j=>rfl
 | x::r,j=>by rw [wf,wf_one r,List.sum_cons,Int.mul_one]
theorem wf_id:∀ (xs:List Int) (j:Nat),wf (λk=>(k:Int)) j xs=wSum (en j xs)
 | [],j=>rfl
 | x::r,j=>by
  rw [wf,wf_id r,en]
  simp only [wSum,List.map_cons,List.sum_cons]
  rw [Int.mul_comm x]
theorem wf_zero {f:Nat->Int}:∀ {xs:List Int} {j:Nat},(∀ k,j≤k->f k=0)->wf f j xs=0
 | [],j,_=>rfl
 | x::r,j,h=>by rw [wf,wf_zero (xs:=r) λk hk=>h k (by omega),h j (Nat.le_refl _)];simp
theorem wf_at:∀ (xs:List Int) (j m:Nat),wf (λk=>if k=j+m then 1 else 0) j xs=xs.getD m 0
 | [],j,m=>by simp [wf]
 | x::r,j,0=>by
  rw [wf,wf_zero (xs:=r) λk hk=>if_neg (by omega)]
  simp
 | x::r,j,m+1=>by
  have ih:=wf_at r (j+1) m
  rw [wf,if_neg (by omega)]
  rw [show j+(m+1)=j+1+m by omega,ih]
  simp
theorem wf_nn {f:Nat->Int}{xs:List Int}{j:Nat}(h:∀ x∈xs,0≤x)(hf:∀ k,0≤f k):0≤wf f j xs:=by
 have:=wf_le (f:=λ_=>0) (g:=f) (j:=j) h λk _ _=>hf k
 rwa [wf_zero (f:=λ_=>0) λ_ _=>rfl] at this
end Bz
namespace K62
open PySem L2 L3 Bz
noncomputable def rs:Nat->(Nat->Rat)->Rat
 | 0,_=>0
 | n+1,f=>rs n f+f n
theorem rs_succ (n:Nat)(f:Nat->Rat):rs (n+1) f=rs n f+f n:=rfl
theorem rs_cg:∀ {n:Nat} {f g:Nat->Rat},(∀ i,i<n->f i=g i)->rs n f=rs n g
 | 0,_,_,_=>rfl
 | n+1,f,g,h=>by rw [rs,rs,rs_cg (n:=n) λi hi=>h i (by omega),h n (by omega)]
theorem rs_add:∀ (n:Nat) (f g:Nat->Rat),rs n (λi=>f i+g i)=rs n f+rs n g
 | 0,_,_=>by show (0:Rat)=0+0;grind
 | n+1,f,g=>by rw [rs,rs,rs,rs_add n];grind
theorem rs_mul:∀ (n:Nat) (c:Rat) (f:Nat->Rat),rs n (λi=>c * f i)=c * rs n f
 | 0,_,_=>by simp [rs]
 | n+1,c,f=>by rw [rs,rs,rs_mul n];grind
theorem rs_le:∀ {n:Nat} {f g:Nat->Rat},(∀ i,i<n->f i≤g i)->rs n f≤rs n g
 | 0,_,_,_=>Rat.le_refl
 | n+1,f,g,h=>by
  have a:=rs_le (n:=n) λi hi=>h i (by omega)
  have b:=h n (by omega)
  rw [rs,rs]
  grind
theorem rs_nn {n:Nat}{f:Nat->Rat}(h:∀ i,i<n->0≤f i):0≤rs n f:=by
 have:=rs_le (n:=n) (f:=λ_=>0) (g:=f) h
 have e:rs n (λ_=>0)=0:=by
  clear this h
  induction n with
  | zero=>rfl
  | succ n ih=>rw [rs,ih];grind
 rwa [e] at this
structure Row (s t:Rat) (u A Z P:Nat->Rat):Prop where
 s0:0<s
 t0:0<t
 a0:∀ i,0≤A i
 z0:∀ i,0≤Z i
 p0:∀ i,0≤P i
 zz:Z 0=s - t
 zs:∀ n,Z n=Z (n+1)+A n
 ps:∀ n,P n=P (n+1)+2 * Z n
 uz:s * u 0=t
 us:∀ n,s * u (n+1)=rs (n+1) λi=>A i * u (n - i)
variable {s t:Rat}{u A Z P:Nat->Rat}
noncomputable def Sm (u:Nat->Rat)(n:Nat):Rat:=rs (n+1) u
theorem conv (v A:Nat->Rat):∀ n,(rs n λj=>rs (j+1) λi=>A i * v (j - i))=rs n λi=>A i * Sm v (n - 1 - i)
 | 0=>rfl
 | n+1=>by
  rw [rs_succ,conv v A n,rs_succ (n:=n) (f:=λi=>A i * Sm v (n+1 - 1 - i))]
  have e1:(rs n λi=>A i * Sm v (n+1 - 1 - i))=rs n λi=>A i * Sm v (n - 1 - i)+A i * v (n - i):=rs_cg λi hi=>by
   have e:n+1 - 1 - i=(n - 1 - i)+1:=by omega
   have e2:n - i=(n - 1 - i)+1:=by omega
   rw [e,e2]
   show A i * (rs ((n - 1 - i)+1) v+v ((n - 1 - i)+1))=A i * rs ((n - 1 - i)+1) v+A i * v (n - 1 - i+1)
   grind
  rw [e1,rs_add]
  have e3:(rs (n+1) λi=>A i * v (n - i))=(rs n λi=>A i * v (n - i))+A n * v 0:=by rw [rs,Nat.sub_self]
  rw [e3]
  have e4:Sm v (n+1 - 1 - n)=v 0:=by
   rw [show n+1 - 1 - n=0 by omega]
   show 0+v 0=v 0
   grind
  rw [e4]
  grind
theorem pos_of {a b:Rat}(ha:0<a)(h:0≤a * b):0≤b:=by
 apply Classical.byContradiction
 intro hb
 have hb:b<0:=by grind
 have:=Rat.mul_pos ha (show 0 < -b by grind)
 grind
namespace Row
theorem u0 (h:Row s t u A Z P):∀ n,∀ k,k≤n->0≤u k
 | 0,k,hk=>by
  rw [show k=0 by omega]
  exact pos_of h.s0 (by rw [h.uz];exact Rat.le_of_lt h.t0)
 | n+1,k,hk=>by
  have ih:=u0 h n
  by_cases e:k≤n
  ·exact ih k e
  ·rw [show k=n+1 by omega]
   refine pos_of h.s0 ?_
   rw [h.us]
   exact rs_nn λi hi=>Rat.mul_nonneg (h.a0 i) (ih (n - i) (by omega))
theorem sA (h:Row s t u A Z P):∀ n,rs n A=Z 0 - Z n
 | 0=>by simp [rs];grind
 | n+1=>by
  have:=h.zs n
  rw [rs,sA h n]
  grind
theorem sS (h:Row s t u A Z P)(n:Nat):s * Sm u n=t+rs n λi=>A i * Sm u (n - 1 - i):=by
 rw [← conv]
 induction n with
 | zero =>
  show s * (0+u 0)=t+0
  have:=h.uz
  grind
 | succ n ih =>
  have e:Sm u (n+1)=Sm u n+u (n+1):=rfl
  rw [e,rs]
  have:=h.us n
  grind
noncomputable def Rt (u:Nat->Rat)(n:Nat):Rat:=1 - Sm u n
theorem sR (h:Row s t u A Z P)(n:Nat):s * Rt u n=Z n+rs n λi=>A i * Rt u (n - 1 - i):=by
 have e:(rs n λi=>A i * Sm u (n - 1 - i))=rs n A+rs n λi=>(-1) * (A i * Rt u (n - 1 - i)):=by
  rw [← rs_add]
  exact rs_cg λi hi=>by unfold Rt;grind
 have a:=h.sS n
 rw [e,rs_mul,h.sA] at a
 have b:=h.zz
 have c:s * Rt u n=s - s * Sm u n:=by unfold Rt;grind
 rw [c,a]
 grind
theorem R0 (h:Row s t u A Z P):∀ n,∀ k,k≤n->0≤Rt u k
 | 0,k,hk=>by
  rw [show k=0 by omega]
  refine pos_of h.s0 ?_
  rw [h.sR]
  have:=h.z0 0
  show 0≤Z 0+0
  grind
 | n+1,k,hk=>by
  have ih:=R0 h n
  by_cases e:k≤n
  ·exact ih k e
  ·rw [show k=n+1 by omega]
   refine pos_of h.s0 ?_
   rw [h.sR]
   have a:=rs_nn (n:=n+1) (f:=λi=>A i * Rt u (n+1 - 1 - i)) λi hi=>Rat.mul_nonneg (h.a0 i) (ih _ (by omega))
   have:=h.z0 (n+1)
   grind
theorem sZ (h:Row s t u A Z P):∀ n,2 * rs n Z=P 0 - P n
 | 0=>by simp [rs];grind
 | n+1=>by
  have a:=sZ h n
  have b:=h.ps n
  rw [rs]
  grind
theorem Q_mono (h:Row s t u A Z P){m n:Nat}(hm:m≤n):Sm (Rt u) m≤Sm (Rt u) n:=by
 induction n with
 | zero=>rw [show m=0 by omega];exact Rat.le_refl
 | succ n ih =>
  by_cases e:m=n+1
  ·rw [e];exact Rat.le_refl
  ·have a:=ih (by omega)
   have b:=h.R0 (n+1) (n+1) (Nat.le_refl _)
   have c:Sm (Rt u) (n+1)=Sm (Rt u) n+Rt u (n+1):=rfl
   grind
theorem sQ (h:Row s t u A Z P)(n:Nat):2 * t * Sm (Rt u) n≤P 0:=by
 have e1:s * Sm (Rt u) n=rs (n+1) Z+rs n λi=>A i * Sm (Rt u) (n - 1 - i):=by
  rw [← conv]
  unfold Sm
  rw [← rs_mul]
  have e:∀ m,(rs (m+1) λj=>s * Rt u j)=rs (m+1) Z+rs m λj=>rs (j+1) λi=>A i * Rt u (j - i):=λm=>by
   induction m with
   | zero =>
    show 0+s * Rt u 0=0+Z 0+0
    rw [h.sR]
    show 0+(Z 0+0)=0+Z 0+0
    grind
   | succ m ih =>
    rw [rs_succ,ih,h.sR,rs_succ m (λj=>rs (j+1) λi=>A i * Rt u (j - i)),rs_succ (m+1) Z]
    have e9:(rs (m+1) λi=>A i * Rt u (m+1 - 1 - i))=rs (m+1) λi=>A i * Rt u (m - i):=rfl
    rw [e9]
    grind
  exact e n
 have e2:(rs n λi=>A i * Sm (Rt u) (n - 1 - i))≤rs n λi=>Sm (Rt u) n * A i:=rs_le λi hi=>by
  have a:=h.Q_mono (show n - 1 - i≤n by omega)
  have b:=Rat.mul_le_mul_of_nonneg_left a (h.a0 i)
  grind
 rw [rs_mul,h.sA] at e2
 have z:=h.sZ (n+1)
 have zn:=h.z0 n
 have pn:=h.p0 (n+1)
 have zz:=h.zz
 have qn:0≤Sm (Rt u) n:=rs_nn λi hi=>h.R0 i i (Nat.le_refl _)
 have m:=Rat.mul_nonneg qn zn
 have e3:Sm (Rt u) n * (Z 0 - Z n)=Sm (Rt u) n * s - Sm (Rt u) n * t - Sm (Rt u) n * Z n:=by rw [zz];grind
 rw [e3] at e2
 grind
theorem wk (n:Nat):(rs (n+1) λk=>(k:Rat) * u k)=rs n (Rt u) - (n:Rat) * Rt u n:=by
 induction n with
 | zero =>
  show 0+((0:Nat):Rat) * u 0=0 - ((0:Nat):Rat) * Rt u 0
  have:((0:Nat):Rat)=0:=rfl
  rw [this]
  grind
 | succ n ih =>
  rw [rs_succ,ih,rs_succ n (Rt u)]
  have e:Rt u (n+1)=Rt u n - u (n+1):=by
   unfold Rt
   show 1 - (Sm u n+u (n+1))=_
   grind
  rw [e]
  push_cast
  grind
theorem whole_le (h:Row s t u A Z P)(n:Nat):Sm u n≤1:=by
 have:=h.R0 n n (Nat.le_refl _)
 unfold Rt at this
 grind
theorem works_le (h:Row s t u A Z P)(n:Nat):2 * t * (rs (n+1) λk=>(k:Rat) * u k)≤P 0:=by
 have q:=h.sQ n
 have r:=h.R0 n n (Nat.le_refl _)
 rw [wk]
 have e:Sm (Rt u) n=rs n (Rt u)+Rt u n:=rfl
 rw [e] at q
 have n0:(0:Rat)≤(n:Rat):=by exact_mod_cast Nat.zero_le n
 have m1:=Rat.mul_nonneg n0 r
 have m2:=Rat.mul_nonneg (Rat.le_of_lt h.t0) m1
 have m3:=Rat.mul_nonneg (Rat.le_of_lt h.t0) r
 grind
theorem tail_le (h:Row s t u A Z P)(n:Nat):2 * t * (((n:Rat)+1) * Rt u n)≤P 0:=by
 have q:=h.sQ n
 have e:((n:Rat)+1) * Rt u n≤Sm (Rt u) n:=by
  have mono:∀ j,j≤n->Rt u n≤Rt u j:=λj hj=>by
   have:Sm u j≤Sm u n:=by
    clear q
    induction n with
    | zero=>rw [show j=0 by omega];exact Rat.le_refl
    | succ n ih =>
     by_cases e:j=n+1
     ·rw [e];exact Rat.le_refl
     ·have a:=ih (by omega)
      have b:=h.u0 (n+1) (n+1) (Nat.le_refl _)
      have c:Sm u (n+1)=Sm u n+u (n+1):=rfl
      grind
   unfold Rt
   grind
  have a:=rs_le (n:=n+1) (f:=λ_=>Rt u n) (g:=Rt u) λi hi=>mono i (by omega)
  have c:∀ m:Nat,rs m (λ_=>Rt u n)=(m:Rat) * Rt u n:=λm=>by
   induction m with
   | zero=>simp [rs]
   | succ m ih=>rw [rs,ih];push_cast;grind
  rw [c] at a
  push_cast at a
  exact a
 have m:=Rat.mul_le_mul_of_nonneg_left e (Rat.le_of_lt h.t0)
 grind
end Row
end K62
namespace K62
open PySem L2 L3 Bz
section
variable {xs:List Int}{L T s:Nat}{N:Int}
theorem tl_wf:∀ (xs:List Int) (j k:Nat),wf (λm=>if j+k≤m then 1 else 0) j xs=(xs.drop k).sum
 | [],j,k=>by simp [wf]
 | x::r,j,0=>by
  have ih:=tl_wf r (j+1) 0
  rw [wf,wf_cg (f:=λm=>if j+0≤m then (1:Int) else 0) (g:=λm=>if j+1+0≤m then 1 else 0) λm h1 h2=>by rw [if_pos (by omega),if_pos (by omega)],ih]
  simp
 | x::r,j,k+1=>by
  have ih:=tl_wf r (j+1) k
  rw [wf,if_neg (by omega)]
  rw [wf_cg (f:=λm=>if j+(k+1)≤m then (1:Int) else 0) (g:=λm=>if j+1+k≤m then 1 else 0) λm _ _=>by rw [show j+(k+1)=j+1+k by omega],ih]
  simp
noncomputable def zN (xs:List Int)(n:Nat):Int:=wf (λm=>((m - 1 - n:Nat):Int)) 0 xs
noncomputable def pN (xs:List Int)(n:Nat):Int:=wf (λm=>((m - n - 1:Nat):Int) * ((m - n:Nat):Int)) 0 xs
noncomputable def sq (xs:List Int):Int:=wf (λm=>(m:Int) * (m:Int)) 0 xs
theorem z_zero (h:xs.sum=(T:Int)):zN xs 0=xs.getD 0 0 - ((T:Int) - wSum (en 0 xs)):=by
 unfold zN
 have l1:=wf_lin (c:=1) (d:=-1) (f:=λm=>(m:Int)) (g:=λ_=>1) xs 0
 have l2:=wf_lin (c:=1) (d:=1) (f:=λm=>1 * (m:Int) + -1 * 1) (g:=λm=>if m=0+0 then 1 else 0) xs 0
 rw [l1,wf_id,wf_one,wf_at,h] at l2
 rw [wf_cg (g:=λm=>1 * (1 * (m:Int) + -1 * 1)+1 * (if m=0+0 then 1 else 0)) λm _ _=>by
  by_cases e:m=0
  ·rw [e,if_pos rfl];rfl
  ·rw [if_neg (by omega)];omega,l2]
 omega
theorem z_step (n:Nat):zN xs n=zN xs (n+1)+tl xs (n+2):=by
 have t:=tl_wf xs 0 (n+2)
 unfold zN tl
 rw [← t]
 have l:=wf_lin (c:=1) (d:=1) (f:=λm=>((m - 1 - (n+1):Nat):Int)) (g:=λm=>if 0+(n+2)≤m then 1 else 0) xs 0
 rw [wf_cg (g:=λm=>1 * ((m - 1 - (n+1):Nat):Int)+1 * (if 0+(n+2)≤m then 1 else 0)) λm _ _=>by
  by_cases e:n+2≤m
  ·rw [if_pos (by omega)];omega
  ·rw [if_neg (by omega)];omega,l]
 omega
theorem p_zero:pN xs 0=sq xs - wSum (en 0 xs):=by
 unfold pN sq
 have l:=wf_lin (c:=1) (d:=-1) (f:=λm=>(m:Int) * (m:Int)) (g:=λm=>(m:Int)) xs 0
 rw [wf_id] at l
 rw [wf_cg (g:=λm=>1 * ((m:Int) * (m:Int)) + -1 * (m:Int)) λm _ _=>by
  cases m with
  | zero=>rfl
  | succ m =>
   rw [show m+1 - 0 - 1=m by omega,show m+1 - 0=m+1 by omega]
   push_cast
   grind,l]
 omega
theorem p_step (n:Nat):pN xs n=pN xs (n+1)+2 * zN xs n:=by
 unfold pN zN
 have l:=wf_lin (c:=1) (d:=2) (f:=λm=>((m - (n+1) - 1:Nat):Int) * ((m - (n+1):Nat):Int)) (g:=λm=>((m - 1 - n:Nat):Int)) xs 0
 rw [wf_cg (g:=λm=>1 * (((m - (n+1) - 1:Nat):Int) * ((m - (n+1):Nat):Int))+2 * ((m - 1 - n:Nat):Int)) λm _ _=>by
  by_cases e:m≤n+1
  ·rw [show m - n - 1=0 by omega,show m - (n+1)=0 by omega,show m - 1 - n=0 by omega];simp
  ·obtain ⟨d,hd⟩:∃ d,m=n+2+d:=⟨m - (n+2),by omega⟩
   rw [show m - n - 1=d+1 by omega,show m - n=d+2 by omega,show m - (n+1)=d+1 by omega,show d+1 - 1=d by omega,show m - 1 - n=d+1 by omega]
   push_cast
   grind,l]
 omega
theorem is_rs:∀ (n:Nat) (f:Nat->Int),((isum n f:Int):Rat)=rs n λi=>((f i:Int):Rat)
 | 0,_=>rfl
 | n+1,f=>by rw [isum,rs_succ,← is_rs n f];push_cast;rfl
theorem row_of (h:Rg xs L N T s)(hr:wSum (en 0 xs)<(T:Int)):Row (s:Rat) (((T:Int) - wSum (en 0 xs):Int):Rat) (u xs T s) (λi=>((tl xs (i+2):Int):Rat)) (λn=>((zN xs n:Int):Rat)) (λn=>((pN xs n:Int):Rat)):=by
 have hsp:=h.sp
 have nn:=h.fl.nn
 have hs0:(s:Rat)≠0:=by exact_mod_cast (show s≠0 by omega)
 refine ⟨by exact_mod_cast hsp.1,by exact_mod_cast (show 0<(T:Int) - wSum (en 0 xs) by omega),λi=>by exact_mod_cast tl_nn xs nn _,λi=>?_,λi=>?_,?_,λn=>?_,λn=>?_,?_,λn=>?_⟩
 ·exact_mod_cast (show 0≤zN xs i from wf_nn nn λk=>Int.natCast_nonneg _)
 ·exact_mod_cast (show 0≤pN xs i from wf_nn nn λk=>Int.mul_nonneg (Int.natCast_nonneg _) (Int.natCast_nonneg _))
 ·have e:=z_zero h.fl.s
  rw [h.s0] at e
  show ((zN xs 0:Int):Rat)=_
  rw [e]
  push_cast
  rfl
 ·have e:=z_step (xs:=xs) n
  show ((zN xs n:Int):Rat)=_
  rw [e]
  push_cast
  rfl
 ·have e:=p_step (xs:=xs) n
  show ((pN xs n:Int):Rat)=_
  rw [e]
  push_cast
  rfl
 ·have e:tq xs T 0=(T:Int) - wSum (en 0 xs):=by simp [tp,tpl]
  unfold u
  rw [e,Nat.zero_add,Nat.pow_one,Rat.mkRat_eq_div]
  simp only [Rat.div_def]
  have q:=Rat.mul_inv_cancel _ hs0
  grind
 ·have pw:∀ k:Nat,(s:Rat) ^ k≠0:=λk=>by exact_mod_cast Nat.ne_of_gt (Nat.pow_pos (n:=k) hsp.1)
  have e:=ga_one h n
  have e2:=congrArg (λz:Int=>(z:Rat)) e
  unfold ga at e2
  rw [is_rs] at e2
  have L1:(s:Rat) * u xs T s (n+1)=((tq xs T (n+1):Int):Rat) * ((s:Rat) ^ (n+1))⁻¹:=by
   unfold u
   rw [Rat.mkRat_eq_div]
   push_cast
   have e3:(s:Rat) ^ (n+1+1)=(s:Rat) ^ (n+1) * (s:Rat):=by
    have z:=congrArg (λz:Nat=>(z:Rat)) (Nat.pow_succ (n:=s) (m:=n+1))
    push_cast at z
    exact z
   rw [e3]
   simp only [Rat.div_def,Rat.inv_mul_rev]
   have q:=Rat.mul_inv_cancel _ hs0
   grind
  rw [L1,e2,Rat.mul_comm,← rs_mul]
  refine rs_cg λi hi=>?_
  unfold u
  rw [Rat.mkRat_eq_div]
  push_cast
  have e4:(s:Rat) ^ (n+1)=(s:Rat) ^ (n - i+1) * (s:Rat) ^ i:=by
   have z:=congrArg (λz:Nat=>(z:Rat)) (show s ^ (n+1)=s ^ (n - i+1) * s ^ i by rw [← Nat.pow_add];congr 1;omega)
   push_cast at z
   exact z
  rw [e4]
  have p1:=pw (n - i+1)
  have p2:=pw i
  generalize (s:Rat) ^ (n - i+1)=a at *
  generalize (s:Rat) ^ i=b at *
  simp only [Rat.div_def,Rat.inv_mul_rev]
  have q2:=Rat.mul_inv_cancel _ p2
  grind
end
end K62
namespace K62
open PySem L2 L3 Bz
theorem meanof_is:f_mean_of=c_mean_of:=rfl
theorem r_mDo {m:DE->M PyData}{E:DE}{F:FdS}{Q:Out->FdS->Prop}:wp (mDo m E F) Q↔wp (m E F) λ_ F1=>Q (.nx E) F1:=wp_bind.trans (wp_congr λ_ _=>wp_some)
theorem r_callO {f:List DV->M PyData}{ms:DE->M (List DV)}{E:DE}{F:FdS}{Q:PyData->FdS->Prop}(q:wp (ms E F) λxs F1=>wp (f xs F1) λd F2=>noL d=true∧Q d F2):wp (sCallO f ms E F) Q:=by
 unfold sCallO
 rw [wp_bind]
 refine wp_mono q λxs F1 h=>?_
 rw [wp_bind]
 refine wp_mono h λd F2 h=>?_
 rw [if_pos h.1]
 exact wp_some.mpr h.2
theorem r_vO {i:Nat}{ds:List PyData}{r:DE->M (List DV)}{E:DE}{F:FdS}{Q:List DV->FdS->Prop}(h:E[i]? = some (some (.own ds)))(q:wp (r E F) λxs F2=>Q (.dat (.list ds)::xs) F2):wp (vO i r E F) Q:=by
 unfold vO
 rw [h]
 dsimp only
 rw [wp_bind]
 exact wp_mono q λxs F2 h=>wp_some.mpr h
section
variable {xs:List Int}{L T s:Nat}{N:Int}{F:FdS}{Q:PyData->FdS->Prop}
theorem rests_w (h:Fl xs L N (T:Int))(hL:L≤9)(hr:wSum (en 0 xs)<(T:Int))(q:Q (.str "rests") F):wp (f_word_of [.dat (fT xs),.dat (.int 1)] F) Q:=by
 rw [word_is]
 refine word_w (h:=1) h (by omega) (by decide) ?_
 have e1:(((1:Nat):Int)) * (T:Int)=(T:Int):=by push_cast;omega
 have ea:ans xs 1 T = "rests":=by unfold ans;rw [e1,if_pos hr]
 rw [ea]
 exact q
theorem check_w (h:Fl xs L N (T:Int))(hL:L≤9)(hr:wSum (en 0 xs)<(T:Int))(q:Q .none F):wp (f_check_rests [.dat (fT xs)] F) Q:=by
 unfold f_check_rests
 refine r_run.mpr (r_mSq.mpr (r_mSet.mpr (r_sCall.mpr (r_vD.mpr (r_sV.mpr (gD_e rfl (r_vD.mpr (r_sC.mpr (r_vNil.mpr ?_)))))))))
 refine rests_w h hL hr ⟨lt_len rfl,sq_nx ?_⟩
 refine r_mIf.mpr (r_uB.mpr (r_s2.mpr (r_sW.mpr (gW_e rfl (r_sC.mpr (oB_e neS (oB_e rfl ?_)))))))
 exact cIf_fe (by decide) (r_mNx.mpr (run_nx q))
theorem Rg.T2 (h:Rg xs L N T s):T<2 ^ 900:=Nat.lt_of_le_of_lt h.t7 (Nat.lt_of_lt_of_le (show 108<2 ^ 7 by decide) (Nat.pow_le_pow_right (by decide) (by decide)))
theorem Rg.zb (h:Rg xs L N T s):Sz (mkRat ((s:Nat):Int) T):=sz_mk (by have:=h.sp;omega) (by rw [Int.natAbs_natCast];exact up9 (Nat.lt_of_le_of_lt h.sp.2 h.T2)) (up9 h.T2)
theorem Rg.zu (h:Rg xs L N T s){k:Nat}(hk:k≤28):Sz (u xs T s k):=sz_mk (Nat.ne_of_gt (h.pw (k:=k+1) (by omega)).1) (up9 (h.lt (by omega))) (up9 (Nat.lt_of_le_of_lt (Nat.le_mul_of_pos_right _ (by have:=h.sp;omega)) (h.pw (k:=k+1) (by omega)).2))
theorem step_w (h:Rg xs L N T s)(hr:wSum (en 0 xs)<(T:Int)){n:Nat}(hn:n≤16)(q:Q (.tuple ((us xs T s n).map qd)) F):wp (f_step_row [.dat (fT xs),.dat (.int (n:Nat))] F) Q:=by
 have hsp:=h.sp
 have hT0:(T:Rat)≠0:=by exact_mod_cast (show T≠0 by omega)
 have hs0:(s:Rat)≠0:=by exact_mod_cast (show s≠0 by omega)
 have T2:=h.T2
 have zb:=h.zb
 have pb:0<mkRat ((s:Nat):Int) T:=by
  rw [Rat.mkRat_eq_div,Rat.div_def]
  exact Rat.mul_pos (by exact_mod_cast hsp.1) (Rat.inv_pos.mpr (by exact_mod_cast (show 0<T by omega)))
 have eq0:∀ (a:Int) (D:Nat),D≠0->mkRat a (D * T) / mkRat ((s:Nat):Int) T=mkRat a (D * s):=λa D hD=>by
  have hD0:(D:Rat)≠0:=by exact_mod_cast hD
  simp only [Rat.mkRat_eq_div]
  push_cast
  simp only [Rat.div_def,Rat.inv_mul_rev,Rat.inv_inv]
  have q1:=Rat.mul_inv_cancel _ hT0
  grind
 unfold f_step_row
 refine r_run.mpr (r_mSq.mpr (r_mDo.mpr (r_sCall.mpr (r_vD.mpr (r_sV.mpr (gD_e rfl (r_vNil.mpr ?_)))))))
 refine check_w h.fl h.l9 hr (sq_nx ?_)
 refine r_mSq.mpr (r_mSet.mpr (back_w h rfl ⟨lt_len rfl,sq_nx ?_⟩))
 refine r_mSq.mpr (r_mOwn.mpr (r_fLst.mpr (r_sCons.mpr ?_)))
 rw [over_is]
 refine r_sCall.mpr (r_vD.mpr (r_sCall.mpr (r_vD.mpr (r_sV.mpr (gD_e rfl (r_vNil.mpr ?_))))))
 refine lack_w h.fl h.l9 h.t7 ?_
 rw [show mkRat ((T:Int) - wSum (en 0 xs)) T=mkRat ((T:Int) - wSum (en 0 xs)) (1 * T) by rw [Nat.one_mul]]
 have w0:0≤wSum (en 0 xs):=by have:=(ws_ge 0 xs h.fl.nn).1;simp at this;exact this
 have zl:Sz (mkRat ((T:Int) - wSum (en 0 xs)) (1 * T)):=sz_mk (by omega) (up9 (Nat.lt_of_le_of_lt (show ((T:Int) - wSum (en 0 xs)).natAbs≤T by omega) T2)) (by rw [Nat.one_mul];exact up9 T2)
 refine r_vD.mpr (r_sV.mpr (gD_e rfl (r_vNil.mpr (over_w zl zb pb (r_sNil.mpr ⟨le_size rfl,lt_len rfl,sq_nx ?_⟩)))))
 rw [eq0 _ 1 (by decide)]
 have eu0:mkRat ((T:Int) - wSum (en 0 xs)) (1 * s)=u xs T s 0:=by unfold u;rw [Nat.one_mul,Nat.zero_add,Nat.pow_one];rfl
 rw [eu0]
 refine r_mSq.mpr (r_mFor.mpr (r_mRng1.mpr (r_sCons.mpr (r_sV.mpr (gD_e rfl (r_sNil.mpr (oB_e (rng1_i (by omega) (by omega)) ?_)))))))
 rw [Int.toNat_natCast]
 refine for_inv (λi E F'=>F' = F∧∃ o4,E=[some (.dat (fT xs)),some (.dat (.int (n:Nat))),some (.dat (qd (mkRat ((s:Nat):Int) T))),some (.own ((us xs T s i).map qd)),o4]) (rngL 0 n) 0 _ F ⟨rfl,none,rfl⟩ ?_ ?_
 ·rintro i d hd E F1 ⟨rfl,o4,rfl⟩
  obtain ⟨hi,rfl⟩:=rng_at hd
  rw [Nat.zero_add]
  refine ⟨_,rfl,app_w (ds:=(us xs T s i).map qd) rfl (by simp [us];omega) (r_sCall.mpr (r_vD.mpr (r_callO (r_vD.mpr (r_sV.mpr (gD_e rfl (r_vO rfl (r_vNil.mpr ?_))))))))⟩
  refine above_w h (by omega) ⟨rfl,r_vD.mpr (r_sV.mpr (gD_e rfl (r_vNil.mpr ?_)))⟩ .list (λ_=>rfl) (λ_ _=>rfl)
  have p:=h.pw (k:=i+1) (by omega)
  refine over_w (sz_mk (Nat.mul_ne_zero (Nat.ne_of_gt p.1) (by omega)) (up9 (h.lt (by omega))) (up9 p.2)) zb pb ?_
  rw [eq0 _ _ (Nat.ne_of_gt p.1),← Nat.pow_succ]
  refine ⟨_,rfl,rfl,some (.dat (.int (0+(i:Int)))),?_⟩
  have e:(us xs T s i).map qd++[qd (mkRat (tq xs T (i+1)) (s ^ (i+1+1)))]=(us xs T s (i+1)).map qd:=by
   unfold us
   rw [List.range_succ (n:=i+1),List.map_append,List.map_append]
   rfl
  rw [e]
  rfl
 ·rintro E F1 ⟨rfl,o4,rfl⟩
  rw [Nat.zero_add,rng_len]
  exact sq_nx (r_mRt.mpr (r_sN.mpr (r_sCons.mpr (r_sW.mpr (gW_eo rfl (r_sNil.mpr (oB_e rfl (run_rt q))))))))
theorem sq_is:∀ (xs:List Int) (j:Nat),wSum ((en j xs).map λp=>(p.1 * p.1,p.2))=wf (λm=>(m:Int) * (m:Int)) j xs
 | [],j=>by simp [en,wSum,wf]
 | x::r,j=>by
  have ih:=sq_is r (j+1)
  unfold wSum at ih ⊢
  rw [wf,← ih]
  simp [en]
  exact Int.mul_comm _ _
theorem second_w (h:Fl xs L N (T:Int))(hL:L≤9)(q:Q (qd (mkRat (sq xs) T)) F):wp (f_second [.dat (fT xs)] F) Q:=by
 have hl:=h.len
 have es:lSum ((en 0 xs).map λp=>(p.1 * p.1,p.2))=(T:Int):=by
  have:=en_l 0 xs
  unfold lSum at *
  rw [List.map_map]
  rw [h.s] at this
  exact this
 unfold f_second
 rw [meanof_is]
 refine r_run.mpr (r_mRt.mpr (r_sCall.mpr (r_vD.mpr (r_sLC.mpr (enum_w (r_sW.mpr (gW_e rfl (oB_e e_seqT ⟨sz (by rw [enumL_len,List.length_map];omega),?_⟩))))))))
 rw [en_enumL]
 refine lc_map2 (f:=λp=>pr (p.1 * p.1,p.2)) (en 0 xs) none none F (λp hp F Q q=>?_) ?_
 ·have:=h.big (by omega) p hp
  exact r_sTup.mpr (r_sCons.mpr (r_s2.mpr (r_sW.mpr (gW_e rfl (r_sW.mpr (gW_e rfl (oB_e (mul_b this.1 this.1) (r_sCons.mpr (r_sV.mpr (gD_e rfl (r_sNil.mpr ⟨le_size rfl,q⟩)))))))))))
 ·refine r_vNil.mpr ?_
  have e:((en 0 xs).map λp=>pr (p.1 * p.1,p.2))=((en 0 xs).map λp=>(p.1 * p.1,p.2)).map pr:=by rw [List.map_map];rfl
  rw [e]
  have sp:=h.sp
  refine meanof_w (by rw [List.length_map,en_len];omega) (λp hp=>?_) (by rw [es];exact h.sp) (by rw [es];exact h.s9) ?_
  ·obtain ⟨p,hq,rfl⟩:=List.mem_map.mp hp
   clear hp
   have hp:=hq
   obtain ⟨a,b,c⟩:=en_mem hp
   have hm:p.1 * p.1≤1000 * 1000:=Int.mul_le_mul (by omega) (by omega) b (by decide)
   exact ⟨lt_big (Int.mul_nonneg b b) (by have:=bB_pos;omega),(h.big (by omega) p hp).2⟩
  ·rw [es]
   intro t b hb
   rw [low_qd hb (by omega),Int.toNat_natCast,sq_is]
   exact run_rt q
noncomputable def mst (xs:List Int)(T:Nat):Rat:=((pN xs 0:Int):Rat) / (2 * (((T:Int) - wSum (en 0 xs):Int):Rat))
theorem sq_le (h:Rg xs L N T s):0≤sq xs∧sq xs≤10000:=by
 refine ⟨wf_nn h.fl.nn λk=>Int.mul_nonneg (Int.natCast_nonneg _) (Int.natCast_nonneg _),?_⟩
 have l9:=h.l9
 have hl:=h.fl.len
 have t7:=h.t7
 have a:=wf_le (f:=λm=>(m:Int) * (m:Int)) (g:=λ_=>81 * 1) (xs:=xs) (j:=0) h.fl.nn λk _ hk=>by
  have:(k:Int) * (k:Int)≤9 * 9:=Int.mul_le_mul (by omega) (by omega) (by omega) (by decide)
  omega
 have b:=wf_lin (c:=81) (d:=0) (f:=λ_=>1) (g:=λ_=>0) xs 0
 have c:wf (λ_=>(81:Int) * 1) 0 xs=81 * (T:Int):=by
  have e:wf (λ_=>(81:Int) * 1) 0 xs=wf (λ_=>(81:Int) * 1+0 * 0) 0 xs:=wf_cg λ_ _ _=>rfl
  rw [e,b,wf_one,h.fl.s]
  omega
 rw [c] at a
 unfold sq
 omega
theorem mst_w (h:Rg xs L N T s)(hr:wSum (en 0 xs)<(T:Int))(q:Q (qd (mst xs T)) F):wp (f_mean_standing [.dat (fT xs)] F) Q:=by
 have hsp:=h.sp
 have T2:=h.T2
 have w0:0≤wSum (en 0 xs):=by have:=(ws_ge 0 xs h.fl.nn).1;simp at this;exact this
 have sl:=sq_le h
 have t7:=h.t7
 have hT0:(T:Rat)≠0:=by exact_mod_cast (show T≠0 by omega)
 have e2:∀ {a:Int},a.natAbs≤20000->a.natAbs<2 ^ 2000:=λha=>Nat.lt_of_le_of_lt ha (Nat.lt_of_lt_of_le (show 20000<2 ^ 15 by decide) (Nat.pow_le_pow_right (by decide) (by decide)))
 unfold f_mean_standing
 rw [over_is,minus_is,mean_is,prod_is]
 refine r_run.mpr (r_mSq.mpr (r_mDo.mpr (r_sCall.mpr (r_vD.mpr (r_sV.mpr (gD_e rfl (r_vNil.mpr ?_)))))))
 refine check_w h.fl h.l9 hr (sq_nx ?_)
 refine r_mRt.mpr (r_sCall.mpr (r_vD.mpr (r_sCall.mpr (r_vD.mpr (r_sCall.mpr (r_vD.mpr (r_sV.mpr (gD_e rfl (r_vNil.mpr ?_)))))))))
 refine second_w h.fl h.l9 (r_vD.mpr (r_sCall.mpr (r_vD.mpr (r_sV.mpr (gD_e rfl (r_vNil.mpr ?_))))))
 refine mean_w h.fl (by have:=h.l9;omega) λt b hb=>?_
 rw [low_qd hb (by omega),Int.toNat_natCast]
 have z1:Sz (mkRat (sq xs) T):=sz_mk (by omega) (e2 (by omega)) (up9 T2)
 have z2:Sz (mkRat (wSum (en 0 xs)) T):=sz_mk (by omega) (e2 (by omega)) (up9 T2)
 refine r_vNil.mpr (minus_w z1 z2 ?_)
 have ed:mkRat (sq xs) T - mkRat (wSum (en 0 xs)) T=mkRat (pN xs 0) T:=by
  rw [p_zero]
  simp only [Rat.mkRat_eq_div]
  push_cast
  simp only [Rat.div_def]
  grind
 rw [ed]
 have pz:=p_zero (xs:=xs)
 refine r_vD.mpr (r_sCall.mpr (r_vD.mpr (r_sC.mpr (r_vD.mpr (r_sCall.mpr (r_vD.mpr (r_sV.mpr (gD_e rfl (r_vNil.mpr ?_)))))))))
 refine lack_w h.fl h.l9 h.t7 (r_vNil.mpr ?_)
 have z3:Sz (mkRat ((T:Int) - wSum (en 0 xs)) T):=sz_mk (by omega) (e2 (by omega)) (up9 T2)
 have z4:Sz (2:Rat):=⟨by decide,by decide⟩
 show wp (c_times [.dat (qd 2),.dat (qd (mkRat ((T:Int) - wSum (en 0 xs)) T))] F) _
 refine prod_w z4 z3 (r_vNil.mpr ?_)
 have e5:(2:Rat) * mkRat ((T:Int) - wSum (en 0 xs)) T=mkRat (2 * ((T:Int) - wSum (en 0 xs))) T:=by
  simp only [Rat.mkRat_eq_div]
  push_cast
  simp only [Rat.div_def]
  grind
 rw [e5]
 have z5:Sz (mkRat (2 * ((T:Int) - wSum (en 0 xs))) T):=sz_mk (by omega) (e2 (by omega)) (up9 T2)
 have z6:Sz (mkRat (pN xs 0) T):=sz_mk (by omega) (e2 (by omega)) (up9 T2)
 refine over_w z6 z5 ?_ (run_rt ?_)
 ·rw [Rat.mkRat_eq_div,Rat.div_def]
  exact Rat.mul_pos (by exact_mod_cast (show 0<2 * ((T:Int) - wSum (en 0 xs)) by omega)) (Rat.inv_pos.mpr (by exact_mod_cast (show 0<T by omega)))
 ·have e6:mkRat (pN xs 0) T / mkRat (2 * ((T:Int) - wSum (en 0 xs))) T=mst xs T:=by
   unfold mst
   simp only [Rat.mkRat_eq_div]
   push_cast
   simp only [Rat.div_def,Rat.inv_mul_rev,Rat.inv_inv]
   have q1:=Rat.mul_inv_cancel _ hT0
   grind
  rw [e6]
  exact q
end
section
variable {xs:List Int}{L T s:Nat}{N:Int}{F:FdS}{Q:PyData->FdS->Prop}
theorem qb_mono {D D' M M':Nat}{p:Rat}(h:Qb D M p)(hd:D ∣ D')(hm:M≤M'):Qb D' M' p:=⟨Nat.dvd_trans h.den hd,Nat.le_trans h.num (Nat.mul_le_mul_right _ hm)⟩
theorem num_le (a:Int){D:Nat}(hD:D≠0):(mkRat a D).num.natAbs≤a.natAbs:=by
 rw [← Rat.normalize_eq_mkRat hD,Rat.normalize_eq]
 exact Int.natAbs_ediv_le_natAbs ..
noncomputable def X (xs:List Int)(T i:Nat):Rat:=mkRat (xs.getD i 0) T
theorem shr_w (h:Rg xs L N T s){i:Nat}(q:Q (qd (X xs T i)) F):wp (c_share_of [.dat (fT xs),.dat (.int (i:Nat))] F) Q:=by
 refine share_w h.fl λt b hb=>?_
 rw [show lotAt xs ((i:Nat):Int)=xs.getD i 0 from lot_n (h:=i)] at hb
 rw [low_qd hb (by have:=h.sp;omega),Int.toNat_natCast]
 exact q
theorem ix_u {n i:Nat}(hi:i≤n):ixD (.tuple ((us xs T s n).map qd)) (.int (i:Nat))=some (qd (u xs T s i)):=by
 rw [ix_t (by simp [us];omega),List.getD_eq_getElem?_getD,List.getElem?_map,us_get hi]
 rfl
theorem qb_X (h:Rg xs L N T s)(i:Nat):Qb T 1 (X xs T i):=by
 have a:=getD_nn h.fl.nn i
 have b:=getD_le h.fl.nn i
 rw [h.fl.s] at b
 exact Qb.of (by have:=h.sp;omega) (by omega)
theorem qb_u (h:Rg xs L N T s){k:Nat}(hk:k≤18):Qb (s ^ 20) (2 ^ 900) (u xs T s k):=by
 have p:=(h.pw (k:=k+1) (by omega)).1
 have q:Qb (s ^ (k+1)) (2 ^ 900) (u xs T s k):=Qb.of (Nat.ne_of_gt p) (Nat.le_trans (Nat.le_of_lt (h.lt (by omega))) (Nat.le_mul_of_pos_right _ p))
 exact qb_mono q (Nat.pow_dvd_pow s (by omega)) (Nat.le_refl _)
theorem dT (h:Rg xs L N T s):s ^ 20≠0∧T≠0∧s ^ 20 * T≠0∧s ^ 20 * T<2 ^ 3000:=by
 have p:=h.pw (k:=20) (by omega)
 have sp:=h.sp
 exact ⟨Nat.ne_of_gt p.1,by omega,Nat.mul_ne_zero (Nat.ne_of_gt p.1) (by omega),Nat.lt_trans p.2 (Nat.pow_lt_pow_right (by decide) (by decide))⟩
theorem qb_uX (h:Rg xs L N T s){k:Nat}(hk:k≤18)(i:Nat):Qb (s ^ 20 * T) (2 ^ 900 * 1) (u xs T s k * X xs T i):=(qb_u h hk).mul (qb_X h i) (dT h).1 (dT h).2.1
theorem qb_0 {D:Nat}:Qb D 0 (0:Rat):=⟨by simp,by simp⟩
theorem qb_rs {D M:Nat}(hD:D≠0){f:Nat->Rat}:∀ {m:Nat},(∀ i,i<m->Qb D M (f i))->Qb D (m * M) (rs m f)
 | 0,_=>by rw [Nat.zero_mul];exact qb_0
 | m+1,hf=>by
  rw [Nat.add_mul,Nat.one_mul]
  exact (qb_rs hD (m:=m) λi hi=>hf i (by omega)).add (hf m (by omega)) hD
noncomputable def W0 (xs:List Int)(T s k:Nat):Rat:=u xs T s 0 * X xs T (k+1)+if k=0 then u xs T s 0 * X xs T 0 else 0
noncomputable def Wk (xs:List Int)(T s k m:Nat):Rat:=W0 xs T s k+rs m λj=>u xs T s (j+1) * X xs T (k - j)
theorem qb_W0 (h:Rg xs L N T s)(k:Nat):Qb (s ^ 20 * T) (2 ^ 900 * 1+2 ^ 900 * 1) (W0 xs T s k):=by
 refine (qb_uX h (by omega) _).add ?_ (dT h).2.2.1
 split
 ·exact qb_uX h (by omega) _
 ·exact qb_mono qb_0 (Nat.dvd_refl _) (Nat.zero_le _)
theorem sz_Wk (h:Rg xs L N T s){k m:Nat}(hm:m≤17):Sz (Wk xs T s k m):=by
 have q:=(qb_W0 h k).add (qb_rs (m:=m) (dT h).2.2.1 λj hj=>qb_uX h (k:=j+1) (by omega) (k - j)) (dT h).2.2.1
 refine q.sz (dT h).2.2.1 (dT h).2.2.2 ?_
 have a:m * (2 ^ 900 * 1)≤17 * (2 ^ 900 * 1):=Nat.mul_le_mul_right _ hm
 have b:2 ^ 900 * 1+2 ^ 900 * 1+17 * (2 ^ 900 * 1)<2 ^ 1000:=by decide +kernel
 omega
theorem sz_uX (h:Rg xs L N T s){k:Nat}(hk:k≤18)(i:Nat):Sz (u xs T s k * X xs T i):=(qb_uX h hk i).sz (dT h).2.2.1 (dT h).2.2.2 (by decide +kernel)
theorem sz_X (h:Rg xs L N T s)(i:Nat):Sz (X xs T i):=(qb_X h i).sz (dT h).2.1 (Nat.lt_trans h.T2 (Nat.pow_lt_pow_right (by decide) (by decide))) (by decide +kernel)
theorem ux (h:Rg xs L N T s){a b k:Nat}(e:a+b=k+1)(t x:Int):mkRat t (s ^ a) * mkRat x T=((t * (s:Int) ^ b * x:Int):Rat) * ((s:Rat) ^ (k+1) * (T:Rat))⁻¹:=by
 have hsp:=h.sp
 have p1:(s:Rat) ^ b≠0:=by exact_mod_cast Nat.ne_of_gt (Nat.pow_pos (n:=b) hsp.1)
 have en:s ^ (k+1)=s ^ a * s ^ b:=by rw [← Nat.pow_add,e]
 have e1:(s:Rat) ^ (k+1)=(s:Rat) ^ a * (s:Rat) ^ b:=by
  have z:=congrArg (λz:Nat=>(z:Rat)) en
  push_cast at z
  exact z
 rw [e1]
 simp only [Rat.mkRat_eq_div]
 push_cast
 generalize (s:Rat) ^ a=A at *
 generalize (s:Rat) ^ b=B at *
 simp only [Rat.div_def,Rat.inv_mul_rev]
 have q1:=Rat.mul_inv_cancel _ p1
 grind
theorem wk_end (h:Rg xs L N T s)(k:Nat):Wk xs T s k (k+1)=u xs T s k:=by
 have hsp:=h.sp
 have hT0:(T:Rat)≠0:=by exact_mod_cast (show T≠0 by omega)
 have hs0:(s:Rat)≠0:=by exact_mod_cast (show s≠0 by omega)
 have pk:(s:Rat) ^ (k+1)≠0:=by exact_mod_cast Nat.ne_of_gt (Nat.pow_pos (n:=k+1) hsp.1)
 have eb:tq xs T (k+1)=tq xs T k * (T:Int) - (isum k λj=>tq xs T (j+1) * sx xs ^ (k - (j+1)) * xs.getD (k - j) 0) - tq xs T 0 * sx xs ^ k * xs.getD (k+1) 0 - (if k=0 then tq xs T 0 * sx xs else 0):=bal xs (T:Int) ((T:Int) - wSum (en 0 xs)) h.fl.s k
 rw [show sx xs=(s:Int) from h.s0] at eb
 unfold Wk W0
 rw [rs_succ,Nat.sub_self]
 have X0:X xs T 0=mkRat (s:Int) T:=by unfold X;rw [h.s0]
 have e1:u xs T s 0 * X xs T (k+1)=((tq xs T 0 * (s:Int) ^ k * xs.getD (k+1) 0:Int):Rat) * ((s:Rat) ^ (k+1) * (T:Rat))⁻¹:=ux h (a:=0+1) (by omega) _ _
 have e2:(if k=0 then u xs T s 0 * X xs T 0 else 0)=(((if k=0 then tq xs T 0 * (s:Int) else 0):Int):Rat) * ((s:Rat) ^ (k+1) * (T:Rat))⁻¹:=by
  by_cases e:k=0
  ·subst e
   rw [if_pos rfl,if_pos rfl,X0]
   have:=ux h (a:=0+1) (b:=0) (k:=0) rfl (tq xs T 0) (s:Int)
   rw [Int.pow_zero,Int.mul_one] at this
   exact this
  ·rw [if_neg e,if_neg e]
   simp
 have e3:(rs k λj=>u xs T s (j+1) * X xs T (k - j))=((isum k λj=>tq xs T (j+1) * (s:Int) ^ (k - (j+1)) * xs.getD (k - j) 0:Int):Rat) * ((s:Rat) ^ (k+1) * (T:Rat))⁻¹:=by
  rw [is_rs,Rat.mul_comm,← rs_mul]
  refine rs_cg λj hj=>?_
  exact (ux h (a:=j+1+1) (b:=k - (j+1)) (k:=k) (by omega) _ _).trans (Rat.mul_comm _ _)
 have e4:u xs T s (k+1) * X xs T 0=((tq xs T (k+1):Int):Rat) * ((s:Rat) ^ (k+1) * (T:Rat))⁻¹:=by
  rw [X0]
  unfold u
  have e5:(s:Rat) ^ (k+1+1)=(s:Rat) ^ (k+1) * (s:Rat):=by
   have z:=congrArg (λz:Nat=>(z:Rat)) (Nat.pow_succ (n:=s) (m:=k+1))
   push_cast at z
   exact z
  simp only [Rat.mkRat_eq_div]
  push_cast
  rw [e5]
  generalize (s:Rat) ^ (k+1)=A at *
  simp only [Rat.div_def,Rat.inv_mul_rev]
  have q1:=Rat.mul_inv_cancel _ hs0
  grind
 have e6:u xs T s k=((tq xs T k * (T:Int):Int):Rat) * ((s:Rat) ^ (k+1) * (T:Rat))⁻¹:=by
  unfold u
  simp only [Rat.mkRat_eq_div]
  push_cast
  generalize (s:Rat) ^ (k+1)=A at *
  simp only [Rat.div_def,Rat.inv_mul_rev]
  have q1:=Rat.mul_inv_cancel _ hT0
  grind
 rw [e1,e2,e3,e4,e6,eb]
 push_cast
 grind
theorem u_gd (h:Rg xs L N T s){k:Nat}(hk:k≤16):Gd 0 3 1 (qd (u xs T s k)):=by
 have p:=h.pw (k:=k+1) (by omega)
 have hk9:(2:Nat) ^ 900≤10 ^ 300:=by decide +kernel
 have hD:s ^ (k+1)≠0:=Nat.ne_of_gt p.1
 have b1:(u xs T s k).num.natAbs<10 ^ 300+0:=Nat.lt_of_le_of_lt (num_le _ hD) (Nat.lt_of_lt_of_le (h.lt (k:=k) (by omega)) hk9)
 have b2:((((u xs T s k).den:Nat)):Int).natAbs<10 ^ 300+0:=by
  rw [Int.natAbs_natCast]
  refine Nat.lt_of_le_of_lt (Nat.le_of_dvd p.1 (den_mkRat _ hD).1) (Nat.lt_of_lt_of_le (Nat.lt_of_le_of_lt (Nat.le_mul_of_pos_right _ ?_) p.2) hk9)
  have:=h.sp;omega
 refine Gd.tup (M:=1) (λd hd=>?_) (by simp [cntL,cnt])
 simp only [List.mem_cons,List.not_mem_nil,or_false] at hd
 rcases hd with rfl | rfl
 ·exact gd_int b1
 ·exact gd_int b2
theorem row_gd (h:Rg xs L N T s){n:Nat}(hn:n≤16):Gd 0 100 2 (.tuple ((us xs T s n).map qd)):=by
 have gu:∀ d∈(us xs T s n).map qd,Gd 0 3 1 d:=λd hd=>by
  obtain ⟨p,hp,rfl⟩:=List.mem_map.mp hd
  obtain ⟨k,hk,rfl⟩:=List.mem_map.mp hp
  exact u_gd h (by have:=List.mem_range.mp hk;omega)
 have c:=cntL_mul (c:=3) λd hd=>(gu d hd).ct
 rw [List.length_map,show (us xs T s n).length=n+1 by simp [us]] at c
 exact Gd.tup gu (by omega)
theorem row_rep (h:Rg xs L N T s){n:Nat}(hn:n≤16):reprOk (.tuple ((us xs T s n).map qd))=true:=(row_gd h hn).repr (by decide) (by decide) (by decide)
theorem u_rep (h:Rg xs L N T s){n:Nat}(hn:n≤16):reprOk (qd (u xs T s n))=true:=(u_gd h hn).repr (by decide) (by decide) (by decide)
theorem stays_w (h:Rg xs L N T s){n:Nat}(hn:n≤16)(q:Q (.bool true) F):wp (f__law_stays [.dat (fT xs),.dat (.tuple ((us xs T s n).map qd))] F) Q:=by
 have ul:(us xs T s n).length=n+1:=by simp [us]
 have i0:ixD (.tuple ((us xs T s n).map qd)) (.int 0)=some (qd (u xs T s 0)):=ix_u (i:=0) (by omega)
 unfold f__law_stays
 rw [plus_is,prod_is,share_is]
 refine r_run.mpr (r_mSq.mpr (r_mFor.mpr (r_mRng1.mpr (r_sCons.mpr (r_s2.mpr (r_sN.mpr (r_sCons.mpr (r_sW.mpr (gW_e rfl (r_sNil.mpr (oB_e e_lenT (r_sC.mpr (oB_e e_subI (r_sNil.mpr ?_))))))))))))))
 rw [List.length_map,ul]
 refine oB_e (rng1_i (by omega) (by omega)) ?_
 rw [show (((n+1:Nat):Int) - 1).toNat=n by omega]
 refine for_inv (λi E F'=>F' = F∧∃ o2 o3 o4,E=[some (.dat (fT xs)),some (.dat (.tuple ((us xs T s n).map qd))),o2,o3,o4]) (rngL 0 n) 0 _ F ⟨rfl,none,none,none,rfl⟩ ?_ ?_
 ·rintro k d hd E F1 ⟨rfl,o2,o3,o4,rfl⟩
  obtain ⟨hk,rfl⟩:=rng_at hd
  rw [Int.zero_add]
  refine ⟨_,rfl,r_mSq.mpr (r_mSet.mpr (r_sCall.mpr (r_vD.mpr (r_s2.mpr (r_sW.mpr (gW_e rfl (r_sC.mpr (oB_e i0 (r_vD.mpr (r_sCall.mpr (r_vD.mpr (r_sV.mpr (gD_e rfl (r_vD.mpr (r_s2.mpr (r_sW.mpr (gW_e rfl (r_sC.mpr (oB_e e_addI (r_vNil.mpr ?_))))))))))))))))))))⟩
  rw [show (k:Int)+1=((k+1:Nat):Int) by omega]
  refine shr_w h (r_vNil.mpr (prod_w (h.zu (by omega)) (sz_X h _) ⟨lt_len rfl,sq_nx ?_⟩))
  have go:∀ {v:Rat} {F1:FdS},v=W0 xs T s k->wp (mSq (mFor (mRng2 (sCons (sC (.int 1)) (sCons (s2 addD (sW 2) (sC (.int 2))) sNil))) (bN 4) (mSet 3 (sCall c_plus (vD (sV 3) (vD (sCall c_times (vD (s2 ixD (sW 1) (sW 4)) (vD (sCall c_share_of (vD (sV 0) (vD (s2 subD (s2 addD (sW 2) (sC (.int 1))) (sW 4)) vNil))) vNil))) vNil)))))
  (mIf (uB (s2 (eqD true) (sN reprD (sCons (sW 3) sNil)) (sN reprD (sCons (s2 ixD (sW 1) (sW 2)) sNil)))) (mRt (sC (.bool false))) mNx) [some (.dat (fT xs)),some (.dat (.tuple ((us xs T s n).map qd))),some (.dat (.int (k:Nat))),some (.dat (qd v)),o4] F1) λo F'=>∃ E2,o = .nx E2∧F' = F1∧∃ o2 o3 o4,E2=[some (.dat (fT xs)),some (.dat (.tuple ((us xs T s n).map qd))),o2,o3,o4]:=λ{v F1} hv=>by
   refine r_mSq.mpr (r_mFor.mpr (rng2_w (r_sCons.mpr (r_sC.mpr (r_sCons.mpr (r_s2.mpr (r_sW.mpr (gW_e rfl (r_sC.mpr (oB_e e_addI (r_sNil.mpr (oB_e (rng2_i (by decide) (by decide) (by omega) (by omega)) ?_))))))))))))
   rw [show ((k:Int)+2 - 1).toNat=k+1 by omega]
   refine for_inv (λm E F'=>F' = F1∧∃ o4,E=[some (.dat (fT xs)),some (.dat (.tuple ((us xs T s n).map qd))),some (.dat (.int (k:Nat))),some (.dat (qd (Wk xs T s k m))),o4]) (rngL 1 (k+1)) 0 _ F1 ⟨rfl,o4,?_⟩ ?_ ?_
   ·have:v=Wk xs T s k 0:=by rw [hv];unfold Wk;simp only [rs];grind
    rw [this]
   ·rintro m d hd E F2 ⟨rfl,p4,rfl⟩
    obtain ⟨hm,rfl⟩:=rng_at hd
    rw [Nat.zero_add,show (1+(m:Int))=((m+1:Nat):Int) by omega]
    refine ⟨_,rfl,r_mSet.mpr (r_sCall.mpr (r_vD.mpr (r_sV.mpr (gD_e rfl (r_vD.mpr (r_sCall.mpr (r_vD.mpr (r_s2.mpr (r_sW.mpr (gW_e rfl (r_sW.mpr (gW_e rfl (oB_e (ix_u (by omega)) (r_vD.mpr (r_sCall.mpr (r_vD.mpr (r_sV.mpr (gD_e rfl (r_vD.mpr (r_s2.mpr (r_s2.mpr (r_sW.mpr (gW_e rfl (r_sC.mpr (oB_e e_addI (r_sW.mpr (gW_e rfl (oB_e e_subI (r_vNil.mpr ?_)))))))))))))))))))))))))))))⟩
    rw [show (k:Int)+1 - ((m+1:Nat):Int)=((k - m:Nat):Int) by omega]
    refine shr_w h (r_vNil.mpr (prod_w (h.zu (by omega)) (sz_X h _) (r_vNil.mpr (plus_w (sz_Wk h (by omega)) (sz_uX h (by omega) _) ⟨lt_len rfl,_,rfl,rfl,some (.dat (.int ((m+1:Nat):Int))),?_⟩))))
    have e:Wk xs T s k m+u xs T s (m+1) * X xs T (k - m)=Wk xs T s k (m+1):=by unfold Wk;rw [rs_succ];grind
    rw [e]
    rfl
   ·rintro E F2 ⟨rfl,p4,rfl⟩
    rw [Nat.zero_add,rng_len,wk_end h]
    have r:=rep_e (u_rep h (n:=k) (by omega))
    refine sq_nx (r_mIf.mpr (r_uB.mpr (r_s2.mpr (r_sN.mpr (r_sCons.mpr (r_sW.mpr (gW_e rfl (r_sNil.mpr (oB_e r (r_sN.mpr (r_sCons.mpr (r_s2.mpr (r_sW.mpr (gW_e rfl (r_sW.mpr (gW_e rfl (oB_e (ix_u (by omega)) (r_sNil.mpr (oB_e r (oB_e neS (oB_e rfl ?_)))))))))))))))))))))
    exact cIf_fe (by simp) (r_mNx.mpr ⟨_,rfl,rfl,_,_,_,rfl⟩)
  refine r_mSq.mpr (r_mIf.mpr (r_uB.mpr (r_s2.mpr (r_sW.mpr (gW_e rfl (r_sC.mpr (oB_e eq_i (oB_e rfl ?_))))))))
  refine cIf_2 (λe=>?_) (λe=>?_)
  ·have e:k=0:=by have:=of_decide_eq_true e;omega
   refine r_mSet.mpr (r_sCall.mpr (r_vD.mpr (r_sV.mpr (gD_e rfl (r_vD.mpr (r_sCall.mpr (r_vD.mpr (r_s2.mpr (r_sW.mpr (gW_e rfl (r_sC.mpr (oB_e i0 (r_vD.mpr (r_sCall.mpr (r_vD.mpr (r_sV.mpr (gD_e rfl (r_vD.mpr (r_sC.mpr (r_vNil.mpr ?_))))))))))))))))))))
   refine shr_w (i:=0) h (r_vNil.mpr (prod_w (h.zu (by omega)) (sz_X h _) (r_vNil.mpr (plus_w (sz_uX h (by omega) _) (sz_uX h (by omega) _) ⟨lt_len rfl,sq_nx (go ?_)⟩))))
   unfold W0
   rw [if_pos e]
  ·have e:k≠0:=by have:=of_decide_eq_false e;omega
   refine r_mNx.mpr (sq_nx (go ?_))
   unfold W0
   rw [if_neg e]
   grind
 ·rintro E F1 ⟨rfl,o2,o3,o4,rfl⟩
  exact sq_nx (r_mRt.mpr (r_sC.mpr (run_rt q)))
end
theorem qd_n (n:Nat):(.tuple [.int (n:Nat),.int 1]:PyData)=qd ((n:Nat):Rat):=by
 unfold qd
 rw [Rat.num_natCast,Rat.den_natCast];rfl
theorem le_div' {a b c:Rat}(hc:0<c)(h:c * a≤b):a≤b / c:=by
 rw [Rat.div_def]
 have i:=Rat.inv_pos.mpr hc
 have m:=Rat.mul_le_mul_of_nonneg_left h (Rat.le_of_lt i)
 have q:=Rat.mul_inv_cancel c (by grind)
 have e:c⁻¹ * (c * a)=a:=by rw [← Rat.mul_assoc,Rat.mul_comm c⁻¹,q,Rat.one_mul]
 rw [e,Rat.mul_comm] at m
 exact m
section
variable {xs:List Int}{L T s:Nat}{N:Int}{F:FdS}{Q:PyData->FdS->Prop}
theorem less_q {p q:Rat}(hp:Sz p)(hq:Sz q)(k:Q (.bool (decide (p<q))) F):wp (f_less [.dat (qd p),.dat (qd q)] F) Q:=by
 unfold f_less
 refine r_run.mpr (r_mRt.mpr (r_s2.mpr (r_s2.mpr (r_s2.mpr (r_sW.mpr (gW_e rfl (r_sC.mpr (oB_e ix0 (r_s2.mpr (r_sW.mpr (gW_e rfl (r_sC.mpr (oB_e ix1 (oB_e (Sz.mul1 hp hq) ?_))))))))))))))
 refine r_s2.mpr (r_s2.mpr (r_sW.mpr (gW_e rfl (r_sC.mpr (oB_e ix0 (r_s2.mpr (r_sW.mpr (gW_e rfl (r_sC.mpr (oB_e ix1 (oB_e (Sz.mul1 hq hp) (oB_e e_ltI (run_rt ?_)))))))))))))
 rw [show decide (p.num * ((q.den:Nat):Int)<q.num * ((p.den:Nat):Int))=decide (p<q) from decide_eq_decide.mpr (Rat.lt_iff p q).symm]
 exact k
theorem qb_k {k:Nat}(hk:k≤16):Qb 1 16 ((k:Nat):Rat):=⟨by rw [Rat.den_natCast];exact Nat.dvd_refl _,by rw [Rat.den_natCast,Rat.num_natCast,Int.natAbs_natCast];omega⟩
theorem qb_ku (h:Rg xs L N T s){k:Nat}(hk:k≤16):Qb (1 * s ^ 20) (16 * 2 ^ 900) ((k:Rat) * u xs T s k):=(qb_k hk).mul (qb_u h (by omega)) (by decide) (dT h).1
theorem d20 (h:Rg xs L N T s):s ^ 20<2 ^ 3000:=Nat.lt_of_le_of_lt (Nat.le_mul_of_pos_right _ (by have:=h.sp;omega)) (dT h).2.2.2
theorem sz_S (h:Rg xs L N T s){m:Nat}(hm:m≤17):Sz (rs m (u xs T s)):=by
 have q:=qb_rs (m:=m) (dT h).1 λj hj=>qb_u h (k:=j) (by omega)
 refine q.sz (dT h).1 (d20 h) ?_
 have a:m * 2 ^ 900≤17 * 2 ^ 900:=Nat.mul_le_mul_right _ hm
 exact Nat.lt_of_le_of_lt a (by decide +kernel)
theorem sz_K (h:Rg xs L N T s){m:Nat}(hm:m≤17):Sz (rs m λk=>(k:Rat) * u xs T s k):=by
 have q:=qb_rs (m:=m) (f:=λk=>(k:Rat) * u xs T s k) (D:=1 * s ^ 20) (by rw [Nat.one_mul];exact (dT h).1) λj hj=>qb_ku h (k:=j) (by omega)
 refine q.sz (by rw [Nat.one_mul];exact (dT h).1) (by rw [Nat.one_mul];exact d20 h) ?_
 have a:m * (16 * 2 ^ 900)≤17 * (16 * 2 ^ 900):=Nat.mul_le_mul_right _ hm
 exact Nat.lt_of_le_of_lt a (by decide +kernel)
theorem sz_ku (h:Rg xs L N T s){k:Nat}(hk:k≤16):Sz ((k:Rat) * u xs T s k):=(qb_ku h hk).sz (by rw [Nat.one_mul];exact (dT h).1) (by rw [Nat.one_mul];exact d20 h) (by decide +kernel)
theorem sz_k {k:Nat}(hk:k≤17):Sz ((k:Nat):Rat):=⟨by rw [Rat.num_natCast,Int.natAbs_natCast];exact Nat.lt_of_le_of_lt hk (by decide +kernel),by rw [Rat.den_natCast];decide +kernel⟩
theorem e2k {a:Int}(ha:a.natAbs≤20000):a.natAbs<2 ^ 2000:=Nat.lt_of_le_of_lt ha (Nat.lt_of_lt_of_le (show 20000<2 ^ 15 by decide) (Nat.pow_le_pow_right (by decide) (by decide)))
theorem n2k {a:Nat}(ha:a≤20000):a<2 ^ 2000:=Nat.lt_of_le_of_lt ha (Nat.lt_of_lt_of_le (show 20000<2 ^ 15 by decide) (Nat.pow_le_pow_right (by decide) (by decide)))
theorem mst_mk (h:Rg xs L N T s)(hr:wSum (en 0 xs)<(T:Int)):mst xs T=mkRat (pN xs 0) (2 * ((T:Int) - wSum (en 0 xs)).toNat):=by
 unfold mst
 rw [Rat.mkRat_eq_div]
 have e:((2 * ((T:Int) - wSum (en 0 xs)).toNat:Nat):Rat)=2 * (((T:Int) - wSum (en 0 xs):Int):Rat):=by
  have:((2 * ((T:Int) - wSum (en 0 xs)).toNat:Nat):Int)=2 * ((T:Int) - wSum (en 0 xs)):=by omega
  have z:=congrArg (λz:Int=>(z:Rat)) this
  push_cast at z ⊢
  exact z
 rw [e]
theorem sums_w (h:Rg xs L N T s)(hr:wSum (en 0 xs)<(T:Int)){n:Nat}(hn:n≤16)(q:Q (.bool true) F):wp (f__law_sums_right [.dat (fT xs),.dat (.tuple ((us xs T s n).map qd))] F) Q:=by
 have ul:(us xs T s n).length=n+1:=by simp [us]
 have R:=row_of h hr
 have sl:=sq_le h
 have pz:=p_zero (xs:=xs)
 have t7:=h.t7
 have w0:0≤wSum (en 0 xs):=by have:=(ws_ge 0 xs h.fl.nn).1;simp at this;exact this
 obtain ⟨D,hD⟩:∃ D:Nat,(T:Int) - wSum (en 0 xs)=(D:Int):=⟨((T:Int) - wSum (en 0 xs)).toNat,by omega⟩
 have em:=mst_mk h hr
 rw [hD,Int.toNat_natCast] at em
 have p0:0≤pN xs 0∧pN xs 0≤10000:=⟨wf_nn h.fl.nn λk=>Int.mul_nonneg (Int.natCast_nonneg _) (Int.natCast_nonneg _),by omega⟩
 have zm:Sz (mst xs T):=by rw [em];exact sz_mk (by omega) (e2k (by omega)) (n2k (by omega))
 have z0:Sz (0:Rat):=⟨by decide,by decide⟩
 have z1:Sz (1:Rat):=⟨by decide,by decide⟩
 have td:(0:Rat)<2 * (((T:Int) - wSum (en 0 xs):Int):Rat):=by have:=R.t0;grind
 unfold f__law_sums_right
 rw [plus_is,prod_is,over_is,minus_is]
 refine r_run.mpr (r_mSq.mpr (r_mSet.mpr (r_sC.mpr ⟨lt_len rfl,sq_nx ?_⟩)))
 refine r_mSq.mpr (r_mSet.mpr (r_sC.mpr ⟨lt_len rfl,sq_nx ?_⟩))
 refine r_mSq.mpr (r_mFor.mpr (r_mRng1.mpr (r_sCons.mpr (r_sN.mpr (r_sCons.mpr (r_sW.mpr (gW_e rfl (r_sNil.mpr (oB_e e_lenT (r_sNil.mpr ?_))))))))))
 rw [List.length_map,ul]
 refine oB_e (rng1_i (by omega) (by omega)) ?_
 rw [Int.toNat_natCast]
 refine for_inv (λi E F'=>F' = F∧∃ o4,E=[some (.dat (fT xs)),some (.dat (.tuple ((us xs T s n).map qd))),some (.dat (qd (rs i (u xs T s)))),some (.dat (qd (rs i λk=>(k:Rat) * u xs T s k))),o4,none]) (rngL 0 (n+1)) 0 _ F ⟨rfl,none,rfl⟩ ?_ ?_
 ·rintro k d hd E F1 ⟨rfl,o4,rfl⟩
  obtain ⟨hk,rfl⟩:=rng_at hd
  rw [Int.zero_add,Nat.zero_add]
  have iu:ixD (.tuple ((us xs T s n).map qd)) (.int (k:Nat))=some (qd (u xs T s k)):=ix_u (by omega)
  refine ⟨_,rfl,r_mSq.mpr (r_mIf.mpr (r_uT.mpr (r_sCall.mpr (r_vD.mpr (r_s2.mpr (r_sW.mpr (gW_e rfl (r_sW.mpr (gW_e rfl (oB_e iu (r_vD.mpr (r_sC.mpr (r_vNil.mpr ?_)))))))))))))⟩
  show wp (f_less [.dat (qd (u xs T s k)),.dat (qd 0)] F1) _
  have u0:=R.u0 k k (Nat.le_refl _)
  refine less_q (h.zu (by omega)) z0 (oB_e rfl (cIf_fe (decide_eq_false (by grind)) (r_mNx.mpr (sq_nx ?_))))
  refine r_mSq.mpr (r_mSet.mpr (r_sCall.mpr (r_vD.mpr (r_sV.mpr (gD_e rfl (r_vD.mpr (r_s2.mpr (r_sW.mpr (gW_e rfl (r_sW.mpr (gW_e rfl (oB_e iu (r_vNil.mpr ?_)))))))))))))
  refine plus_w (sz_S h (by omega)) (h.zu (by omega)) ⟨lt_len rfl,sq_nx ?_⟩
  refine r_mSet.mpr (r_sCall.mpr (r_vD.mpr (r_sV.mpr (gD_e rfl (r_vD.mpr (r_sCall.mpr (r_vD.mpr (r_sTup.mpr (r_sCons.mpr (r_sV.mpr (gD_e rfl (r_sCons.mpr (r_sC.mpr (r_sNil.mpr ⟨le_size rfl,r_vD.mpr (r_s2.mpr (r_sW.mpr (gW_e rfl (r_sW.mpr (gW_e rfl (oB_e iu (r_vNil.mpr ?_)))))))⟩))))))))))))))
  rw [qd_n]
  refine prod_w (sz_k (by omega)) (h.zu (by omega)) (r_vNil.mpr (plus_w (sz_K h (by omega)) (sz_ku h (by omega)) ⟨lt_len rfl,_,rfl,rfl,some (.dat (.int (k:Nat))),rfl⟩))
 ·rintro E F1 ⟨rfl,o4,rfl⟩
  rw [Nat.zero_add,rng_len]
  refine sq_nx (r_mSq.mpr (r_mSet.mpr (r_sCall.mpr (r_vD.mpr (r_sV.mpr (gD_e rfl (r_vNil.mpr ?_)))))))
  refine mst_w h hr ⟨lt_len rfl,sq_nx ?_⟩
  refine r_mSq.mpr (r_mIf.mpr (r_uOr.mpr (r_uT.mpr (r_sCall.mpr (r_vD.mpr (r_sC.mpr (r_vD.mpr (r_sV.mpr (gD_e rfl (r_vNil.mpr ?_))))))))))
  show wp (f_less [.dat (qd 1),.dat (qd (rs (n+1) (u xs T s)))] F1) _
  have a1:rs (n+1) (u xs T s)≤1:=R.whole_le n
  have a2:(rs (n+1) λk=>(k:Rat) * u xs T s k)≤mst xs T:=le_div' td (R.works_le n)
  have a3:((n:Rat)+1) * (1 - rs (n+1) (u xs T s))≤mst xs T:=le_div' td (R.tail_le n)
  refine less_q z1 (sz_S h (by omega)) (oB_e rfl (cIf_fe (decide_eq_false (by grind)) ?_))
  refine r_uT.mpr (r_sCall.mpr (r_vD.mpr (r_sV.mpr (gD_e rfl (r_vD.mpr (r_sV.mpr (gD_e rfl (r_vNil.mpr ?_))))))))
  refine less_q zm (sz_K h (by omega)) (oB_e rfl (cIf_fe (decide_eq_false (by grind)) (r_mNx.mpr (sq_nx ?_))))
  refine r_mRt.mpr (r_sNot.mpr (r_sCall.mpr (r_vD.mpr (r_sV.mpr (gD_e rfl (r_vD.mpr (r_sCall.mpr (r_vD.mpr (r_sC.mpr (r_vD.mpr (r_sCall.mpr (r_vD.mpr (r_sV.mpr (gD_e rfl (r_vD.mpr (r_sTup.mpr (r_sCons.mpr (r_sN.mpr (r_sCons.mpr (r_sW.mpr (gW_e rfl (r_sNil.mpr (oB_e e_lenT (r_sCons.mpr (r_sC.mpr (r_sNil.mpr ⟨le_size rfl,r_vNil.mpr ?_⟩))))))))))))))))))))))))))
  rw [List.length_map,ul,qd_n]
  have np:(0:Rat)<((n+1:Nat):Rat):=by exact_mod_cast Nat.succ_pos n
  refine over_w zm (sz_k (by omega)) np (r_vNil.mpr ?_)
  have ed:mst xs T / ((n+1:Nat):Rat)=mkRat (pN xs 0) (2 * D * (n+1)):=by
   rw [em]
   simp only [Rat.mkRat_eq_div]
   push_cast
   simp only [Rat.div_def,Rat.inv_mul_rev]
   grind
  have b1:2 * D * (n+1)≤216 * 17:=Nat.mul_le_mul (by omega) (by omega)
  have b2:2 * D * (n+1)≠0:=Nat.mul_ne_zero (by omega) (by omega)
  have zq:Sz (mst xs T / ((n+1:Nat):Rat)):=by rw [ed];exact sz_mk b2 (e2k (by omega)) (n2k (by omega))
  have ee:(1:Rat) - mst xs T / ((n+1:Nat):Rat)=mkRat (((2 * D * (n+1):Nat):Int) - pN xs 0) (2 * D * (n+1)):=by
   rw [ed]
   have hz:((2 * D * (n+1):Nat):Rat)≠0:=by exact_mod_cast b2
   generalize 2 * D * (n+1)=G at *
   simp only [Rat.mkRat_eq_div]
   push_cast
   simp only [Rat.div_def]
   have q1:=Rat.mul_inv_cancel _ hz
   grind
  have zr:Sz ((1:Rat) - mst xs T / ((n+1:Nat):Rat)):=by rw [ee];exact sz_mk b2 (e2k (by omega)) (n2k (by omega))
  show wp (c_minus [.dat (qd 1),.dat (qd (mst xs T / ((n+1:Nat):Rat)))] F1) _
  refine minus_w z1 zq (r_vNil.mpr ?_)
  refine less_q (sz_S h (by omega)) zr ?_
  have a4:1 - rs (n+1) (u xs T s)≤mst xs T / ((n+1:Nat):Rat):=le_div' np (by push_cast;exact a3)
  rw [decide_eq_false (by grind)]
  exact oB_e rfl (run_rt q)
end
theorem spl {α:Type}{c:α}:∀ {A A' B B':List α},c ∉ A->c ∉ A'->A++c::B=A' ++ c::B'->A=A' ∧ B=B'
 | [],[],_,_,_,_,e=>by simpa using e
 | [],a::A',_,_,_,h2,e=>by
  simp only [List.nil_append,List.cons_append,List.cons.injEq] at e
  exact absurd (by rw [e.1];exact List.mem_cons_self) h2
 | a::A,[],_,_,h1,_,e=>by
  simp only [List.nil_append,List.cons_append,List.cons.injEq] at e
  exact absurd (by rw [← e.1];exact List.mem_cons_self) h1
 | a::A,a' :: A',B,B',h1,h2,e=>by
  simp only [List.cons_append,List.cons.injEq] at e
  have:=spl (A:=A) (A':=A') (λz=>h1 (List.mem_cons_of_mem _ z)) (λz=>h2 (List.mem_cons_of_mem _ z)) e.2
  exact ⟨by rw [e.1,this.1],this.2⟩
noncomputable abbrev sg (d:PyData):List Nat:=d.shown.cps.toList
theorem sg_inj {a b:Int}(h:sg (.int a)=sg (.int b)):a=b:=by
 unfold sg at h
 rw [PyData.shown_int,PyData.shown_int] at h
 have e1:((toString a:String):Str).cps.toList=(toString a).toList.map Char.toNat:=PyProof.Rows.signs_ofString _
 have e2:((toString b:String):Str).cps.toList=(toString b).toList.map Char.toNat:=PyProof.Rows.signs_ofString _
 rw [e1,e2] at h
 have h2:(toString a).toList=(toString b).toList:=by
  refine (List.map_inj_right λx y e=>?_).mp h
  exact Char.toNat_inj.mp e
 exact Int.repr_inj.mp (String.toList_inj.mp h2)
theorem sg_q {p:Rat}:sg (qd p)=40::(sg (.int p.num)++44::32::(sg (.int ((p.den:Nat):Int))++[41])):=by
 unfold sg qd
 rw [PyData.shown_tuple,PyData.shownAll_cons,PyData.shownAll_cons,PyData.shownAll_nil,PyProof.Rows.join_cons_cons,PyProof.Rows.join_one]
 simp only [PyProof.Rows.cps_toList_append]
 have e1:(("(":String):Str).cps.toList=[40]:=by decide
 have e2:((", ":String):Str).cps.toList=[44,32]:=by decide
 have e3:(((if [PyData.int p.num,PyData.int ((p.den:Nat):Int)].length == 1 then ",)" else ")"):String):Str).cps.toList=[41]:=by
  show ((")":String):Str).cps.toList=[41]
  decide
 rw [e1,e2,e3]
 simp
theorem q_split {p q:Rat}{A B:List Nat}(h:sg (qd p)++A=sg (qd q)++B):p=q∧A=B:=by
 rw [sg_q,sg_q] at h
 simp only [List.cons_append,List.append_assoc,List.cons.injEq,true_and] at h
 have f:∀ (k:Nat) (i:Int),k=44∨k=41->k ∉ sg (.int i):=λk i hk=>PyProof.Rows.shown_int_free' (by omega) i
 obtain ⟨e1,e2⟩:=spl (f 44 _ (.inl rfl)) (f 44 _ (.inl rfl)) h
 simp only [List.cons.injEq,true_and] at e2
 obtain ⟨e3,e4⟩:=spl (f 41 _ (.inr rfl)) (f 41 _ (.inr rfl)) e2
 refine ⟨Rat.ext (sg_inj e1) ?_,e4⟩
 have:=sg_inj e3
 omega
theorem j_inj:∀ {ps qs:List Rat},ps.length=qs.length->(Str.join ", " (PyData.shownAll (ps.map qd))).cps.toList=(Str.join ", " (PyData.shownAll (qs.map qd))).cps.toList->ps=qs
 | [],[],_,_=>rfl
 | [],_::_,hl,_=>by simp at hl
 | _::_,[],hl,_=>by simp at hl
 | [p],[q],_,h=>by
  simp only [List.map_cons,List.map_nil,PyData.shownAll_cons,PyData.shownAll_nil,PyProof.Rows.join_one] at h
  have:=q_split (A:=[]) (B:=[]) (by simpa using h)
  rw [this.1]
 | [p],q::q' :: r',hl,_=>by simp at hl
 | p::p' :: r,[q],hl,_=>by simp at hl
 | p::p' :: r,q::q' :: r',hl,h=>by
  have e2:((", ":String):Str).cps.toList=[44,32]:=by decide
  rw [List.map_cons,List.map_cons,List.map_cons,List.map_cons,PyData.shownAll_cons,PyData.shownAll_cons,PyData.shownAll_cons,PyData.shownAll_cons,PyProof.Rows.join_cons_cons,PyProof.Rows.join_cons_cons,← PyData.shownAll_cons,← PyData.shownAll_cons,← List.map_cons,← List.map_cons] at h
  simp only [PyProof.Rows.cps_toList_append,e2,List.append_assoc] at h
  obtain ⟨e,h2⟩:=q_split h
  simp only [List.cons_append,List.nil_append,List.cons.injEq,true_and] at h2
  have:=j_inj (ps:=p' :: r) (qs:=q' :: r') (by simpa using hl) h2
  rw [e,this]
theorem t_inj {ps qs:List Rat}(hl:ps.length=qs.length)(h:(PyData.tuple (ps.map qd)).shown=(PyData.tuple (qs.map qd)).shown):ps=qs:=by
 have h:=congrArg (λz:Str=>z.cps.toList) h
 rw [PyData.shown_tuple,PyData.shown_tuple,List.length_map,List.length_map,hl] at h
 simp only [PyProof.Rows.cps_toList_append,List.append_assoc] at h
 have h:=List.append_cancel_left h
 exact j_inj hl (List.append_cancel_right h)
section
variable {F:FdS}{Q:PyData->FdS->Prop}{xs:List Int}{L T s:Nat}{N:Int}{n:Nat}
noncomputable def noOf:PyData->PyData
 | .tuple [.str w,.int k]=>.tuple [.str "no",.str w,.int k]
 | d=>d
theorem told_w {M0 k:Nat}{d:PyData}(h:Fl xs L N (T:Int))(hL:L≤9)(hT:T≤108)(hd:Gd 0 M0 k d)(hl:∀ ds,d = .tuple ds->ds.length≤28)(q:Q (noOf (dueD xs T d)) F):wp (f__law_lets [.dat (fT xs),.dat d] F) Q:=by
 unfold f__law_lets
 refine r_run.mpr (r_mSq.mpr (r_mSet.mpr (r_sC.mpr ⟨lt_len rfl,sq_nx ?_⟩)))
 refine r_mSq.mpr (r_mTry (r_vD.mpr (r_sV.mpr (gD_e rfl (r_vD.mpr (r_sV.mpr (gD_e rfl (r_vNil.mpr ?_))))))))
 refine lets_w h hL hT hd hl (λw k e=>?_) (λe=>?_)
 ·rw [e] at q
  exact .inl ⟨("NoPaper",[.str w,.int k]),_,rfl,if_pos ⟨rfl,rfl⟩,sq_nx (r_mRt.mpr (r_sV.mpr (gD_e rfl (run_rt q))))⟩
 ·rw [e] at q
  exact .inr ⟨rfl,_,rfl,sq_nx (r_mRt.mpr (r_sV.mpr (gD_e rfl (run_rt q))))⟩
end
noncomputable def ab (k:Nat)(ls:List Int):Int:=((en k ls).map λp=>(p.1 - 1) * p.2).sum
theorem ab_e:∀ (k:Nat) (ls:List Int),ab k ls=wSum (en k ls) - ls.sum
 | k,[]=>by simp [ab,en,wSum]
 | k,x::r=>by
  have ih:=ab_e (k+1) r
  simp only [ab,en,wSum,List.map_cons,List.sum_cons] at *
  rw [ih]
  grind
theorem ab_nn:∀ (k:Nat) (ls:List Int),1≤k->(∀ x∈ls,0≤x)->0≤ab k ls
 | k,[],_,_=>by simp [ab,en]
 | k,x::r,hk,h=>by
  have ih:=ab_nn (k+1) r (by omega) λy hy=>h y (List.mem_cons_of_mem _ hy)
  have hx:=h x List.mem_cons_self
  simp only [ab,en,List.map_cons,List.sum_cons] at *
  have:=Int.mul_nonneg (show (0:Int)≤(k:Int) - 1 by omega) hx
  omega
theorem ab_cons (c:Int)(ys:List Int):ab 0 (c::ys) = -c+ab 1 ys:=by
 simp only [ab,en,List.map_cons,List.sum_cons,Nat.zero_add]
 omega
theorem ws_cons (c:Int)(ys:List Int):wSum (en 0 (c::ys))=wSum (en 1 ys):=by
 simp only [en,wSum,List.map_cons,List.sum_cons,Nat.zero_add]
 omega
theorem en_app:∀ (k:Nat) (xs ys:List Int),en k (xs++ys)=en k xs++en (k+xs.length) ys
 | k,[],ys=>by simp [en]
 | k,x::r,ys=>by
  rw [List.cons_append,en,en_app (k+1) r ys,en,List.cons_append,List.length_cons,show k+1+r.length=k+(r.length+1) by omega]
theorem ws_zero:∀ (k:Nat) (ys:List Int),(∀ y∈ys,y=0)->wSum (en k ys)=0∧ys.sum=0
 | k,[],_=>by simp [en,wSum]
 | k,y::r,h=>by
  obtain ⟨a,b⟩:=ws_zero (k+1) r λz hz=>h z (List.mem_cons_of_mem _ hz)
  have:=h y List.mem_cons_self
  subst this
  simp only [en,wSum,List.map_cons,List.sum_cons] at *
  rw [a,b];simp
noncomputable def Fw (d:PyData):Prop:=∃ (xs:List Int) (L:Nat) (N:Int) (T:Nat),d=fT xs∧Fl xs L N (T:Int)∧L≤9∧T≤108∧wSum (en 0 xs)<(T:Int)
section
variable {F:FdS}{Q:PyData->FdS->Prop}
theorem abv_w {ls:List Int}{E:DE}{i:Nat}(hE:E[i]? = some (some (.own (ls.map .int))))(h:Sm12 ls)(hl:ls.length≤100)(q:Q (.int (ab 0 ls)) F):wp (sN sumD' (sCons (sLC (mEnum (sW i)) 2 [] (bTup 2 (bCons (bN 0) (bCons (bN 1) bNil))) uYes (L3.s2 mulD' (L3.s2 subD (sW 0) (sC (.int 1))) (sW 1))) sNil) E F) Q:=by
 refine r_sN.mpr (r_sCons.mpr (r_sLC.mpr (enum_w (r_sW.mpr (gW_eo hE (oB_e e_seqL ⟨sz (by rw [enumL_len,List.length_map];omega),?_⟩))))))
 rw [en_enumL]
 refine lc_map2 (f:=λp=>.int ((p.1 - 1) * p.2)) (en 0 ls) none none F (λp hp F Q q=>?_) ?_
 ·obtain ⟨a,b,c⟩:=en_mem hp
  have:=h _ a
  have hB:=bB_pos
  have b1:(p.1 - 1).natAbs<bigN:=by
   have:(p.1 - 1).natAbs≤200:=by omega
   exact Nat.lt_of_le_of_lt this (Nat.lt_of_lt_of_le (m:=2 ^ 10) (by decide) (bigN_ge (by decide)))
  exact r_s2.mpr (r_s2.mpr (r_sW.mpr (gW_e rfl (r_sC.mpr (oB_e e_subI (r_sW.mpr (gW_e rfl (oB_e (mul_b b1 (lt_big (by omega) (by omega))) q))))))))
 ·have e:(en 0 ls).map (λp=>PyData.int ((p.1 - 1) * p.2))=((en 0 ls).map λp=>(p.1 - 1) * p.2).map .int:=by rw [List.map_map];rfl
  rw [e]
  exact r_sNil.mpr (oB_e sumL_e q)
theorem flow_tr:Tr f__law_flow [.feed] 20 Fw:=Tr.of λF hF=>by
 have hB:=bB_pos
 unfold f__law_flow
 refine r_run.mpr (r_mSq.mpr (r_mSet.mpr (r_sCall.mpr (r_vF.mpr (gF_e rfl (r_vD.mpr (r_sC.mpr (r_vNil.mpr ?_))))))))
 refine wp_draw (by decide) (by decide) (by omega) λmany F1 m0 m1 t1=>⟨lt_len rfl,sq_nx ?_⟩
 refine r_mSq.mpr (r_mOwn.mpr (r_fCat.mpr (r_sC.mpr (r_sLC.mpr (r_mRng1.mpr (r_sCons.mpr (r_sV.mpr (gD_e rfl (r_sNil.mpr (oB_e (rng1_i (by omega) (by omega)) ⟨sz (by rw [rng_len];omega),?_⟩))))))))))
 refine lc_tr (c:=2) (P:=λ_ y=>∃ x:Int,y = .int x∧0≤x∧x≤12) _ none (by decide) (λd hd F hF=>?_) (by rw [rng_len];omega) λzs F2 hz hzs t2=>?_
 ·refine r_sCall.mpr (r_vF.mpr (gF_e rfl (r_vD.mpr (r_s2.mpr (r_sC.mpr (r_sCall.mpr (r_vF.mpr (gF_e rfl (r_vD.mpr (r_sC.mpr (r_vNil.mpr ?_)))))))))))
  refine wp_draw (by decide) (by decide) (by omega) λa Fa a0 a1 ta=>?_
  have three:∃ v:Int,ixD (.list [.int 2,.int 5,.int 13]) (.int a)=some (.int v)∧0<v∧v≤13:=by
   have:a=0∨a=1∨a=2:=by omega
   rcases this with rfl | rfl | rfl
   ·exact ⟨2,rfl,by decide,by decide⟩
   ·exact ⟨5,rfl,by decide,by decide⟩
   ·exact ⟨13,rfl,by decide,by decide⟩
  obtain ⟨v,ev,v0,v1⟩:=three
  refine oB_e ev (r_vNil.mpr (wp_draw v0 (by omega) (by omega) λb Fb b0 b1 tb=>⟨by omega,_,rfl,b0,by omega⟩))
 obtain ⟨ys,rfl,hy⟩:=to_ints λz h=>let ⟨d,_,h2⟩:=hzs z h;h2
 have hy:Sm12 ys:=hy
 rw [rng_len] at hz t2
 rw [List.length_map] at hz
 refine ⟨[.int 0],ys.map .int,rfl,rfl,sz (by simp;omega),lt_len rfl,sq_nx ?_⟩
 have e0:[PyData.int 0]++ys.map .int=((0:Int)::ys).map .int:=rfl
 rw [e0]
 have hs:∀ {zs:List Int},Sm12 zs->Sm12 (0::zs):=λh v hv=>by
  rcases List.mem_cons.mp hv with rfl | hv
  ·decide
  ·exact h v hv
 refine r_mSq.mpr (r_mSet.mpr (abv_w rfl (hs hy) (by rw [List.length_cons];omega) ⟨lt_len rfl,sq_nx ?_⟩))
 refine r_mSq.mpr (wh_w (λE F'=>F' = F2∧∃ zs:List Int,E=[some .feed,some (.dat (.int many)),some (.own (((0:Int)::zs).map .int)),some (.dat (.int (ab 0 (0::zs)))),none]∧Sm12 zs∧zs.length≤8) (λ(E:DE)=>match E[2]? with | some (some (DV.own l))=>l.length | _=>0) ⟨rfl,ys,rfl,hy,by omega⟩ ?_)
 rintro E F3 ⟨rfl,zs,rfl,hz1,hz2⟩
 refine r_uB.mpr (r_s2.mpr (r_sW.mpr (gW_e rfl (r_sC.mpr (oB_e e_gtI (oB_e rfl ?_))))))
 have nn:∀ x∈zs,0≤x:=λx hx=>(hz1 x hx).1
 refine cIf_2 (λe=>?_) (λe=>?_)
 ·have e:=of_decide_eq_true e
  have hne:1≤zs.length:=by
   cases zs with
   | nil=>rw [ab_cons] at e;simp [ab,en] at e
   | cons z r=>simp
  refine r_mSq.mpr (r_mOwn.mpr (r_fCut (r_sW.mpr (gW_eo rfl (r_oNo.mpr (r_oI.mpr (r_s1.mpr (r_sC.mpr (oB_e e_neg (oB_e e_io ⟨_,rfl,lt_len rfl,sq_nx ?_⟩))))))))))
  have ec:cutL (((0:Int)::zs).map PyData.int) none (some (-1))=((0:Int)::zs.take (zs.length - 1)).map .int:=by
   rw [cut_last,List.length_map,List.length_cons,Nat.add_sub_cancel,← List.map_take]
   obtain ⟨m,hm⟩:∃ m,zs.length=m+1:=⟨zs.length - 1,by omega⟩
   rw [hm,List.take_succ_cons]
   rfl
  rw [ec]
  have ht:Sm12 (zs.take (zs.length - 1)):=λx hx=>hz1 x (List.mem_of_mem_take hx)
  refine r_mSet.mpr (abv_w rfl (hs ht) (by rw [List.length_cons,List.length_take];omega) ⟨lt_len rfl,_,rfl,⟨rfl,zs.take (zs.length - 1),rfl,ht,by rw [List.length_take];omega⟩,?_⟩)
  show (((0:Int)::zs.take (zs.length - 1)).map PyData.int).length<(((0:Int)::zs).map PyData.int).length
  rw [List.length_map,List.length_map,List.length_cons,List.length_cons,List.length_take]
  omega
 ·have e:=of_decide_eq_false e
  have a0:0≤ab 0 (0::zs):=by rw [ab_cons];have:=ab_nn 1 zs (by decide) nn;omega
  have hab:=ab_cons 0 zs
  have habs:=ab_e 1 zs
  refine sq_nx (r_mSq.mpr (put_w (zs:=0::zs) rfl ?_))
  refine r_s2.mpr (r_s2.mpr (r_sW.mpr (gW_e rfl (r_sC.mpr (oB_e e_addI (r_sCall.mpr (r_vF.mpr (gF_e rfl (r_vD.mpr (r_s2.mpr (r_sC.mpr (r_sW.mpr (gW_e rfl (oB_e e_subI (r_vNil.mpr ?_)))))))))))))))
  refine wp_draw (by omega) (by omega) (by omega) λr F4 r0 r1 t4=>oB_e e_addI (r_sC.mpr ⟨_,_,rfl,rfl,by decide,by rw [List.length_cons];omega,sq_nx ?_⟩)
  generalize hA:ab 0 (0::zs)=A at *
  have e1:((0:Int)::zs).set (0:Int).toNat (A+1+r)=(A+1+r)::zs:=rfl
  rw [e1]
  generalize hc:A+1+r=c at *
  have hcs:Sm12 (c::zs):=λv hv=>by
   rcases List.mem_cons.mp hv with rfl | hv
   ·omega
   ·exact hz1 v hv
  generalize hus:c::zs=vs at *
  have ul:vs.length=zs.length+1:=by rw [← hus];rfl
  refine r_mSq.mpr (r_mSet.mpr (r_sN.mpr (r_sCons.mpr (r_sLC.mpr (r_mRng1.mpr (r_sCons.mpr (r_sN.mpr (r_sCons.mpr (r_sW.mpr (gW_eo rfl (r_sNil.mpr (oB_e e_lenL (r_sNil.mpr ?_)))))))))))))
  rw [List.length_map]
  refine oB_e (rng1_e (by omega)) ⟨sz (by rw [rng_len];omega),?_⟩
  refine lc_rngF (g:=λi=>decide (0<vs.getD i 0)) (f:=λ(i:Nat)=>(i:Int)) (λi hi F Q q=>?_) (λi hi hg F Q q=>?_) ?_
  ·refine r_uB.mpr (r_s2.mpr (r_s2.mpr (r_sW.mpr (gW_eo rfl (r_sW.mpr (gW_e rfl (oB_e (at_lot (k:=(i:Int)) (by omega) (by omega)) (r_sC.mpr (oB_e e_gtI (oB_e rfl ?_))))))))))
   rw [lot_n]
   exact q
  ·exact r_sV.mpr (gD_e rfl q)
  ·generalize hz:(((List.range vs.length).filter λi=>decide (0<vs.getD i 0)).map λ(i:Nat)=>(i:Int))=ks
   have memk:∀ j:Nat,j<vs.length->0<vs.getD j 0->((j:Nat):Int)∈ks:=λj h1 h2=>by
    rw [← hz]
    exact List.mem_map.mpr ⟨j,List.mem_filter.mpr ⟨List.mem_range.mpr h1,decide_eq_true h2⟩,rfl⟩
   have hne:ks≠[]:=by
    have:((0:Nat):Int)∈ks:=memk 0 (by omega) (by rw [← hus];show 0<c;omega)
    intro e;rw [e] at this;cases this
   have em:maxD [.list (ks.map .int)]=some (.int (maxL ks)):=by
    simp only [maxD,ints_of,Option.bind_some,if_neg hne]
   have hm:=maxL_mem hne
   have hge:∀ x∈ks,x≤maxL ks:=λx hx=>maxL_ge hx
   generalize maxL ks=m at *
   have hm':=hm
   rw [← hz] at hm'
   obtain ⟨k,hk,rfl⟩:=List.mem_map.mp hm'
   obtain ⟨k1,k2⟩:=List.mem_filter.mp hk
   have k1:=List.mem_range.mp k1
   have k2:=of_decide_eq_true k2
   have rest0:∀ y∈vs.drop (k+1),y=0:=λy hy=>by
    obtain ⟨j,hj,rfl⟩:=List.mem_iff_getElem.mp hy
    rw [List.length_drop] at hj
    rw [List.getElem_drop]
    have h0:=(hcs _ (List.getElem_mem (show k+1+j<vs.length by omega))).1
    rcases Int.lt_or_le 0 (vs[k+1+j]'(by omega)) with z | z
    ·exfalso
     have:=hge _ (memk (k+1+j) (by omega) (by rw [List.getD_eq_getElem?_getD,List.getElem?_eq_getElem (by omega)];exact z))
     omega
    ·omega
   refine r_sNil.mpr (oB_e em ⟨lt_len rfl,sq_nx ?_⟩)
   refine r_mRt.mpr (r_sN.mpr (r_sCons.mpr (r_cut.mpr (r_sW.mpr (gW_eo rfl (r_oNo.mpr (r_oI.mpr (r_s2.mpr (r_sW.mpr (gW_e rfl (r_sC.mpr (oB_e e_addI ?_))))))))))))
   refine oB_e e_io (oB_e e_cutL (r_sNil.mpr (oB_e e_tupL (run_rt ?_))))
   rw [show ((k:Int)+1)=((k+1:Nat):Int) by omega,cutN,← List.map_take]
   have hsp:=List.take_append_drop (k+1) vs
   have htl:(vs.take (k+1)).length=k+1:=by rw [List.length_take];omega
   have w0:=ws_zero (0+(k+1)) _ rest0
   have hsum:(vs.take (k+1)).sum=vs.sum:=by
    conv=>rhs;rw [← hsp,List.sum_append,w0.2]
    omega
   have hws:wSum (en 0 (vs.take (k+1)))=wSum (en 0 vs):=by
    conv=>rhs;rw [← hsp,en_app,htl]
    unfold wSum at w0 ⊢
    rw [List.map_append,List.sum_append,w0.1];omega
   have us_sum:vs.sum=c+zs.sum:=by rw [← hus,List.sum_cons]
   have us_ws:wSum (en 0 vs)=wSum (en 1 zs):=by rw [← hus,ws_cons]
   have zsl:=sum_le hz1
   have tk:vs.take (k+1)=vs.take k++[vs[k]]:=by rw [List.take_add_one,List.getElem?_eq_getElem k1];rfl
   have eg:vs.getD k 0=vs[k]:=by simp [List.getD,List.getElem?_eq_getElem k1]
   rw [eg] at k2
   have hst:Sm12 (vs.take (k+1)):=λx hx=>hcs x (List.mem_of_mem_take hx)
   have lo:bB ^ k≤val bB (vs.take (k+1)):=by
    rw [tk,val_append,List.length_take,Nat.min_eq_left (by omega)]
    have v0:=(val_bound (B:=bB) (by omega) (vs.take k) λx hx=>⟨(hcs x (List.mem_of_mem_take hx)).1,by have:=(hcs x (List.mem_of_mem_take hx)).2;omega⟩).1
    simp only [val]
    have p:(0:Int)≤bB ^ k:=Int.le_of_lt (Int.pow_pos (by omega))
    have:=Int.mul_le_mul_of_nonneg_left (show 1≤vs[k] by omega) p
    rw [Int.mul_zero,Int.add_zero]
    omega
   refine ⟨by omega,vs.take (k+1),k+1,val bB (vs.take (k+1)),vs.sum.toNat,rfl,?_⟩
   refine ⟨⟨htl,by omega,λx hx=>(hst x hx).1,rfl,by rw [hsum];omega,by rw [Nat.add_sub_cancel];exact lo,by omega,by omega⟩,by omega,by omega,?_⟩
   rw [hws,us_ws];have:=ab_nn 1 zs (by decide) nn;omega
end
theorem eqF {a b:Str}:eqD false (.str a) (.str b)=some (.bool (decide (a=b))):=by
 unfold eqD
 simp
theorem frac_ok (p:Rat):fracB (qd p)=true:=by
 show (decide ((1:Int)≤((p.den:Nat):Int)) && decide (Int.gcd p.num ((p.den:Nat):Int)=1))=true
 have h1:=den_pos p
 have h2:Int.gcd p.num ((p.den:Nat):Int)=1:=p.reduced
 rw [decide_eq_true (show (1:Int)≤((p.den:Nat):Int) by omega),decide_eq_true h2]
 rfl
theorem gd_map {ps:List Rat}{k:Nat}(h:k<ps.length):(ps.map qd).getD k .none=qd (ps[k]):=by
 rw [List.getD_eq_getElem?_getD,List.getElem?_map,List.getElem?_eq_getElem h]
 rfl
section
variable {xs:List Int}{L T s n:Nat}{N:Int}
theorem us_len:(us xs T s n).length=n+1:=by simp [us]
theorem due_ps {ps:List Rat}(hl:ps.length=n+1)(hr:wSum (en 0 xs)<(T:Int)):dueD xs T (.tuple (ps.map qd))=told2 (bad2 xs T (xs.getD 0 0).toNat (ps.map qd)):=by
 match ps,hl with
 | p::r,hl =>
  have b:bad1 ((p::r).map qd)=[]:=fil_none λi hi=>by
   rw [List.length_map] at hi
   rw [gd_map hi,frac_ok]
   rfl
  show told1 xs T ((p::r).map qd) (bad1 ((p::r).map qd))=_
  rw [b]
  exact if_pos hr
theorem bad_self:bad2 xs T s ((us xs T s n).map qd)=[]:=fil_none λi hi=>by
 rw [List.length_map] at hi
 rw [gd_map hi,qOf_qd]
 have e:(us xs T s n)[i]=u xs T s i:=by simp [us]
 rw [e]
 simp
theorem bad_other {ps:List Rat}(hl:ps.length=n+1)(h:ps≠us xs T s n):∃ w k,told2 (bad2 xs T s (ps.map qd))=pt w k:=by
 cases e:bad2 xs T s (ps.map qd) with
 | nil =>
  refine absurd ?_ h
  refine List.ext_getElem (by rw [hl,us_len]) λi h1 h2=>?_
  have:=fil_nil e i (by rw [List.length_map];exact h1)
  rw [gd_map h1,qOf_qd] at this
  have:ps[i]=u xs T s i:=by simpa using this
  rw [this]
  simp [us]
 | cons k r =>
  cases k with
  | zero=>exact ⟨_,_,rfl⟩
  | succ k=>exact ⟨_,_,rfl⟩
theorem us_take {m:Nat}(h:m≤n):cutL ((us xs T s n).map qd) none (some (((m:Nat):Int)+1))=(us xs T s m).map qd:=by
 rw [cut_to (by omega),show (((m:Nat):Int)+1).toNat=m+1 by omega,← List.map_take]
 congr 1
 refine List.ext_getElem (by rw [List.length_take,us_len,us_len];omega) λi h1 h2=>?_
 rw [List.getElem_take]
 simp [us]
theorem rT:reprOk (.tuple [.str "told",.bool true])=true:=by
 have g:∀ x∈[PyData.tuple [.str "told",.bool true]],Gd 0 10 3 x:=gdb_all (by decide +kernel)
 exact (g _ (by simp)).repr (by decide) (by decide) (by decide)
theorem rS:reprOk (.str "rests")=true:=by
 have g:∀ x∈[PyData.str "rests"],Gd 0 10 3 x:=gdb_all (by decide +kernel)
 exact (g _ (by simp)).repr (by decide) (by decide) (by decide)
theorem own_w {F:FdS}{Q:PyData->FdS->Prop}(h:Fl xs L N (T:Int))(hL:L≤9)(hT:T≤108)(hr:wSum (en 0 xs)<(T:Int))(hn:n≤16)(q:Q (.tuple [.str "told",.bool true]) F):wp (f__law_lets [.dat (fT xs),.dat (.tuple ((us xs T (xs.getD 0 0).toNat n).map qd))] F) Q:=by
 refine told_w h hL hT (row_gd (rg_of h hL hT hr) hn) (λds e=>?_) ?_
 ·cases e
  rw [List.length_map,us_len]
  omega
 ·rw [due_ps us_len hr,bad_self]
  exact q
end
noncomputable abbrev EE (a2 a3 a4 a5 a6 a7 a8 a9:Option DV):DE:=[none,some .feed,a2,a3,a4,a5,a6,a7,a8,a9]
theorem fin (ns:List Int):∃ F',m_law ([none,some .feed]++List.replicate 8 none) (newF ns)=some (.rt (.bool true),F'):=by
 suffices h:wp (m_law (EE none none none none none none none none) (newF ns)) (λo _=>o = .rt (.bool true)) by
  obtain ⟨o,F',e,rfl⟩:=h
  exact ⟨F',e⟩
 have t0':(newF ns).t=0:=rfl
 have r1:=rep_e rT
 have r2:=rep_e rS
 unfold m_law m_law_1 m_law_2 m_law_3 m_law_4 m_law_5 m_law_6 m_law_7 m_law_8 m_law_9 m_law_10 m_law_11 m_law_12 m_law_13
 refine r_mSq.mpr (r_mSet.mpr (r_sCall.mpr (r_vF.mpr (gF_e rfl (r_vD.mpr (r_sC.mpr (r_vNil.mpr ?_)))))))
 refine wp_draw (by decide) (by decide) (by omega) λn F1 n0 n1 t1=>⟨lt_len rfl,sq_nx ?_⟩
 obtain ⟨n,rfl⟩:∃ g:Nat,n=(g:Int):=⟨n.toNat,by omega⟩
 have hn:n≤16:=by omega
 refine r_mSq.mpr (r_mSet.mpr (r_sCall.mpr (r_vF.mpr (gF_e rfl (r_vNil.mpr ?_)))))
 refine flow_tr.wp (by omega) λdd F2 t2 hdd=>⟨lt_len rfl,sq_nx ?_⟩
 obtain ⟨xs,L,N,T,rfl,h,hL,hT,hr⟩:=hdd
 have hg:=rg_of h hL hT hr
 refine r_mSq.mpr (r_mIf.mpr (r_uB.mpr (r_s2.mpr (r_sN.mpr (r_sCons.mpr (r_sCall.mpr (r_vD.mpr (r_sV.mpr (gD_e rfl (r_vD.mpr (r_sC.mpr (r_vNil.mpr ?_))))))))))))
 refine rests_w h hL hr (r_sNil.mpr (oB_e r2 (r_sN.mpr (r_sCons.mpr (r_sC.mpr (r_sNil.mpr (oB_e r2 (oB_e neS (oB_e rfl (cIf_fe (by simp) (r_mNx.mpr (sq_nx ?_))))))))))))
 refine r_mSq.mpr (r_mSet.mpr (r_sCall.mpr (r_vD.mpr (r_sV.mpr (gD_e rfl (r_vD.mpr (r_sV.mpr (gD_e rfl (r_vNil.mpr ?_)))))))))
 refine step_w hg hr hn ⟨lt_len rfl,sq_nx ?_⟩
 have rr:=rep_e (row_rep hg hn)
 refine r_mSq.mpr (r_mIf.mpr (r_uOr.mpr (r_uNot.mpr (r_uT.mpr (r_s1.mpr (r_sW.mpr (gW_e rfl (oB_e e_isin (oB_e rfl ?_)))))))))
 rw [isin_tup (row_gd hg hn).sc]
 refine cIf_fe rfl (r_uOr.mpr (r_uB.mpr (r_s2.mpr (r_sN.mpr (r_sCons.mpr (r_sW.mpr (gW_e rfl (r_sNil.mpr (oB_e e_lenT (r_s2.mpr (r_sW.mpr (gW_e rfl (r_sC.mpr (oB_e e_addI (oB_e ne_i (oB_e rfl ?_))))))))))))))))
 rw [List.length_map,us_len]
 refine cIf_fe (by simp) (r_uOr.mpr (r_uNot.mpr (r_uT.mpr (r_sCall.mpr (r_vD.mpr (r_sV.mpr (gD_e rfl (r_vD.mpr (r_sV.mpr (gD_e rfl (r_vNil.mpr ?_)))))))))))
 refine stays_w hg hn (oB_e rfl (cIf_fe rfl (r_uNot.mpr (r_uT.mpr (r_sCall.mpr (r_vD.mpr (r_sV.mpr (gD_e rfl (r_vD.mpr (r_sV.mpr (gD_e rfl (r_vNil.mpr ?_))))))))))))
 refine sums_w hg hr hn (oB_e rfl (cIf_fe rfl (r_mNx.mpr (sq_nx ?_))))
 refine r_mSq.mpr (r_mSet.mpr (r_sCall.mpr (r_vF.mpr (gF_e rfl (r_vD.mpr (r_s2.mpr (r_sW.mpr (gW_e rfl (r_sC.mpr (oB_e e_addI (r_vNil.mpr ?_)))))))))))
 refine wp_draw (by omega) (by omega) (by omega) λm F3 m0 m1 t3=>⟨lt_len rfl,sq_nx ?_⟩
 obtain ⟨m,rfl⟩:∃ g:Nat,m=(g:Int):=⟨m.toNat,by omega⟩
 have hm:m≤n:=by omega
 refine r_mSq.mpr (r_mSet.mpr (r_cut.mpr (r_sW.mpr (gW_e rfl (r_oNo.mpr (r_oI.mpr (r_s2.mpr (r_sW.mpr (gW_e rfl (r_sC.mpr (oB_e e_addI (oB_e e_io (oB_e e_cutT ⟨lt_len rfl,sq_nx ?_⟩)))))))))))))
 rw [us_take hm]
 have rm:=rep_e (row_rep hg (n:=m) (by omega))
 refine r_mSq.mpr (r_mIf.mpr (r_uOr.mpr (r_uB.mpr (r_s2.mpr (r_sN.mpr (r_sCons.mpr (r_sCall.mpr (r_vD.mpr (r_sV.mpr (gD_e rfl (r_vD.mpr (r_sV.mpr (gD_e rfl (r_vNil.mpr ?_))))))))))))))
 refine step_w hg hr (n:=m) (by omega) (r_sNil.mpr (oB_e rm (r_sN.mpr (r_sCons.mpr (r_sW.mpr (gW_e rfl (r_sNil.mpr (oB_e rm (oB_e neS (oB_e rfl (cIf_fe (by simp) ?_)))))))))))
 refine r_uB.mpr (r_s2.mpr (r_sN.mpr (r_sCons.mpr (r_sCall.mpr (r_vD.mpr (r_sV.mpr (gD_e rfl (r_vD.mpr (r_sV.mpr (gD_e rfl (r_vNil.mpr ?_)))))))))))
 refine own_w h hL hT hr (n:=m) (by omega) (r_sNil.mpr (oB_e r1 (r_sN.mpr (r_sCons.mpr (r_sC.mpr (r_sNil.mpr (oB_e r1 (oB_e neS (oB_e rfl (cIf_fe (by simp) (r_mNx.mpr (sq_nx ?_))))))))))))
 refine r_mSq.mpr (r_mIf.mpr (r_uB.mpr (r_s2.mpr (r_sN.mpr (r_sCons.mpr (r_sCall.mpr (r_vD.mpr (r_sV.mpr (gD_e rfl (r_vD.mpr (r_sV.mpr (gD_e rfl (r_vNil.mpr ?_)))))))))))))
 refine own_w h hL hT hr hn (r_sNil.mpr (oB_e r1 (r_sN.mpr (r_sCons.mpr (r_sC.mpr (r_sNil.mpr (oB_e r1 (oB_e neS (oB_e rfl (cIf_fe (by simp) (r_mNx.mpr (sq_nx ?_))))))))))))
 refine r_mSq.mpr (r_mSet.mpr (r_sCall.mpr (r_vF.mpr (gF_e rfl (r_vNil.mpr ?_)))))
 refine flow_tr.wp (by omega) λdd F4 t4 hdd=>⟨lt_len rfl,sq_nx ?_⟩
 obtain ⟨ys,L2,N2,T2,rfl,h2,hL2,hT2,hr2⟩:=hdd
 have hg2:=rg_of h2 hL2 hT2 hr2
 have rr2:=rep_e (row_rep hg2 hn)
 refine r_mSq.mpr (r_mSet.mpr (r_s2.mpr (r_sN.mpr (r_sCons.mpr (r_sCall.mpr (r_vD.mpr (r_sV.mpr (gD_e rfl (r_vD.mpr (r_sV.mpr (gD_e rfl (r_vNil.mpr ?_))))))))))))
 refine step_w hg2 hr2 hn (r_sNil.mpr (oB_e rr2 (r_sN.mpr (r_sCons.mpr (r_sW.mpr (gW_e rfl (r_sNil.mpr (oB_e rr (oB_e eqF ⟨lt_len rfl,sq_nx ?_⟩)))))))))
 refine r_mSq.mpr (r_mSet.mpr (r_sCall.mpr (r_vD.mpr (r_sV.mpr (gD_e rfl (r_vD.mpr (r_sV.mpr (gD_e rfl (r_vNil.mpr ?_)))))))))
 by_cases he:us xs T (xs.getD 0 0).toNat n=us ys T2 (ys.getD 0 0).toNat n
 ·rw [he]
  refine own_w h2 hL2 hT2 hr2 hn ⟨lt_len rfl,sq_nx ?_⟩
  refine r_mRt.mpr (r_sIf.mpr (r_uT.mpr (r_sW.mpr (gW_e rfl (oB_e rfl ?_)))))
  refine cIf_te (by simp) (r_s2.mpr (r_sN.mpr (r_sCons.mpr (r_sW.mpr (gW_e rfl (r_sNil.mpr (oB_e r1 (r_sN.mpr (r_sCons.mpr (r_sC.mpr (r_sNil.mpr (oB_e r1 (oB_e eqF ?_)))))))))))))
  simp
 ·have hne:¬ (PyData.tuple ((us ys T2 (ys.getD 0 0).toNat n).map qd)).shown=(PyData.tuple ((us xs T (xs.getD 0 0).toNat n).map qd)).shown:=λz=>he (t_inj (by rw [us_len,us_len]) z).symm
  obtain ⟨w,k,e⟩:=bad_other (xs:=ys) (T:=T2) (s:=(ys.getD 0 0).toNat) (n:=n) us_len he
  refine told_w h2 hL2 hT2 (row_gd hg hn) (λds e=>?_) ?_
  ·cases e
   rw [List.length_map,us_len]
   omega
  ·rw [due_ps us_len hr2,e]
   refine ⟨lt_len rfl,sq_nx ?_⟩
   refine r_mRt.mpr (r_sIf.mpr (r_uT.mpr (r_sW.mpr (gW_e rfl (oB_e rfl ?_)))))
   refine cIf_fe (decide_eq_false hne) (r_s2.mpr (r_s2.mpr (r_sW.mpr (gW_e rfl (r_sC.mpr (oB_e rfl (r_sC.mpr (oB_e eqF ?_))))))))
   simp
end K62
namespace K62
open PySem L2 L3
theorem all_mk {l:PySem.W.OpenLaw}{w:World}{K:PySem.W.Frag}{h:Heap}{mg:Str->Option Value}{fa fis_number fis_number_from fis_tuple_of fcommon_divisor fis_fraction ffraction fplus fminus ftimes fover fless fmean_of ftotal fshare_of fmean fsecond fgoing_above fword_of fcheck_rests flacking fmean_standing fstep_row fcheck_shape flets_steps f_law_feed f_law_draw f_law_flow f_law_stays f_law_sums_right f_law_lets flaw:Addr}(X:K.In h)(G:h.Ns mainGlobals mg)(hfa:mg "law" = some (.ref fa))
    {odis_number anis_number odis_number_from anis_number_from odis_tuple_of anis_tuple_of odcommon_divisor ancommon_divisor odis_fraction anis_fraction odfraction anfraction odplus anplus odminus anminus odtimes antimes odover anover odless anless odmean_of anmean_of odtotal antotal odshare_of anshare_of odmean anmean odsecond ansecond odgoing_above angoing_above odword_of anword_of odcheck_rests ancheck_rests odlacking anlacking odmean_standing anmean_standing odstep_row anstep_row odcheck_shape ancheck_shape odlets_steps anlets_steps od_law_feed an_law_feed od_law_draw an_law_draw od_law_flow an_law_flow od_law_stays an_law_stays od_law_sums_right an_law_sums_right od_law_lets an_law_lets odlaw anlaw:Option Addr} {slis_number slis_number_from slis_tuple_of slcommon_divisor slis_fraction slfraction slplus slminus sltimes slover slless slmean_of sltotal slshare_of slmean slsecond slgoing_above slword_of slcheck_rests sllacking slmean_standing slstep_row slcheck_shape sllets_steps sl_law_feed sl_law_draw sl_law_flow sl_law_stays sl_law_sums_right sl_law_lets sllaw:Array (Option Value)} {ocis_number kVis_number dcis_number pmis_number cdis_number ctis_number ocis_number_from kVis_number_from dcis_number_from pmis_number_from cdis_number_from ctis_number_from ocis_tuple_of kVis_tuple_of dcis_tuple_of pmis_tuple_of cdis_tuple_of ctis_tuple_of occommon_divisor kVcommon_divisor dccommon_divisor pmcommon_divisor cdcommon_divisor ctcommon_divisor ocis_fraction kVis_fraction dcis_fraction pmis_fraction cdis_fraction ctis_fraction ocfraction kVfraction dcfraction pmfraction cdfraction ctfraction ocplus kVplus dcplus pmplus cdplus ctplus ocminus kVminus dcminus pmminus cdminus ctminus octimes kVtimes dctimes pmtimes cdtimes cttimes ocover kVover dcover pmover cdover ctover ocless kVless dcless pmless cdless ctless ocmean_of kVmean_of dcmean_of pmmean_of cdmean_of ctmean_of octotal kVtotal dctotal pmtotal cdtotal cttotal ocshare_of kVshare_of dcshare_of pmshare_of cdshare_of ctshare_of ocmean kVmean dcmean pmmean cdmean ctmean ocsecond kVsecond dcsecond pmsecond cdsecond ctsecond ocgoing_above kVgoing_above dcgoing_above pmgoing_above cdgoing_above ctgoing_above ocword_of kVword_of dcword_of pmword_of cdword_of ctword_of occheck_rests kVcheck_rests dccheck_rests pmcheck_rests cdcheck_rests ctcheck_rests oclacking kVlacking dclacking pmlacking cdlacking ctlacking ocmean_standing kVmean_standing dcmean_standing pmmean_standing cdmean_standing ctmean_standing ocstep_row kVstep_row dcstep_row pmstep_row cdstep_row ctstep_row occheck_shape kVcheck_shape dccheck_shape pmcheck_shape cdcheck_shape ctcheck_shape oclets_steps kVlets_steps dclets_steps pmlets_steps cdlets_steps ctlets_steps oc_law_feed kV_law_feed dc_law_feed pm_law_feed cd_law_feed ct_law_feed oc_law_draw kV_law_draw dc_law_draw pm_law_draw cd_law_draw ct_law_draw oc_law_flow kV_law_flow dc_law_flow pm_law_flow cd_law_flow ct_law_flow oc_law_stays kV_law_stays dc_law_stays pm_law_stays cd_law_stays ct_law_stays oc_law_sums_right kV_law_sums_right dc_law_sums_right pm_law_sums_right cd_law_sums_right ct_law_sums_right oc_law_lets kV_law_lets dc_law_lets pm_law_lets cd_law_lets ct_law_lets oclaw kVlaw dclaw pmlaw cdlaw ctlaw:Value}
    (ais_number:PySem.W.nsIn K mainGlobals "is_number" = some (some (.ref fis_number))) (lis_number:K.lookup fis_number=some ⟨ocis_number,odis_number,.func (PySem.W.fnOf "is_number" "is_number" (defArgs s_is_number) (defBody s_is_number) (defScope s_is_number) .none kVis_number dcis_number pmis_number anis_number cdis_number ctis_number),slis_number⟩) (cis_number:PySem.W.codeIn K cdis_number "is_number" = true) (kis_number:PySem.W.keepIn K (.ref fis_number)=true)
    (ais_number_from:PySem.W.nsIn K mainGlobals "is_number_from" = some (some (.ref fis_number_from))) (lis_number_from:K.lookup fis_number_from=some ⟨ocis_number_from,odis_number_from,.func (PySem.W.fnOf "is_number_from" "is_number_from" (defArgs s_is_number_from) (defBody s_is_number_from) (defScope s_is_number_from) .none kVis_number_from dcis_number_from pmis_number_from anis_number_from cdis_number_from ctis_number_from),slis_number_from⟩) (cis_number_from:PySem.W.codeIn K cdis_number_from "is_number_from" = true) (kis_number_from:PySem.W.keepIn K (.ref fis_number_from)=true)
    (ais_tuple_of:PySem.W.nsIn K mainGlobals "is_tuple_of" = some (some (.ref fis_tuple_of))) (lis_tuple_of:K.lookup fis_tuple_of=some ⟨ocis_tuple_of,odis_tuple_of,.func (PySem.W.fnOf "is_tuple_of" "is_tuple_of" (defArgs s_is_tuple_of) (defBody s_is_tuple_of) (defScope s_is_tuple_of) .none kVis_tuple_of dcis_tuple_of pmis_tuple_of anis_tuple_of cdis_tuple_of ctis_tuple_of),slis_tuple_of⟩) (cis_tuple_of:PySem.W.codeIn K cdis_tuple_of "is_tuple_of" = true) (kis_tuple_of:PySem.W.keepIn K (.ref fis_tuple_of)=true)
    (acommon_divisor:PySem.W.nsIn K mainGlobals "common_divisor" = some (some (.ref fcommon_divisor))) (lcommon_divisor:K.lookup fcommon_divisor=some ⟨occommon_divisor,odcommon_divisor,.func (PySem.W.fnOf "common_divisor" "common_divisor" (defArgs s_common_divisor) (defBody s_common_divisor) (defScope s_common_divisor) .none kVcommon_divisor dccommon_divisor pmcommon_divisor ancommon_divisor cdcommon_divisor ctcommon_divisor),slcommon_divisor⟩) (ccommon_divisor:PySem.W.codeIn K cdcommon_divisor "common_divisor" = true) (kcommon_divisor:PySem.W.keepIn K (.ref fcommon_divisor)=true)
    (ais_fraction:PySem.W.nsIn K mainGlobals "is_fraction" = some (some (.ref fis_fraction))) (lis_fraction:K.lookup fis_fraction=some ⟨ocis_fraction,odis_fraction,.func (PySem.W.fnOf "is_fraction" "is_fraction" (defArgs s_is_fraction) (defBody s_is_fraction) (defScope s_is_fraction) .none kVis_fraction dcis_fraction pmis_fraction anis_fraction cdis_fraction ctis_fraction),slis_fraction⟩) (cis_fraction:PySem.W.codeIn K cdis_fraction "is_fraction" = true) (kis_fraction:PySem.W.keepIn K (.ref fis_fraction)=true)
    (afraction:PySem.W.nsIn K mainGlobals "fraction" = some (some (.ref ffraction))) (lfraction:K.lookup ffraction=some ⟨ocfraction,odfraction,.func (PySem.W.fnOf "fraction" "fraction" (defArgs s_fraction) (defBody s_fraction) (defScope s_fraction) .none kVfraction dcfraction pmfraction anfraction cdfraction ctfraction),slfraction⟩) (cfraction:PySem.W.codeIn K cdfraction "fraction" = true) (kfraction:PySem.W.keepIn K (.ref ffraction)=true)
    (aplus:PySem.W.nsIn K mainGlobals "plus" = some (some (.ref fplus))) (lplus:K.lookup fplus=some ⟨ocplus,odplus,.func (PySem.W.fnOf "plus" "plus" (defArgs s_plus) (defBody s_plus) (defScope s_plus) .none kVplus dcplus pmplus anplus cdplus ctplus),slplus⟩) (cplus:PySem.W.codeIn K cdplus "plus" = true) (kplus:PySem.W.keepIn K (.ref fplus)=true)
    (aminus:PySem.W.nsIn K mainGlobals "minus" = some (some (.ref fminus))) (lminus:K.lookup fminus=some ⟨ocminus,odminus,.func (PySem.W.fnOf "minus" "minus" (defArgs s_minus) (defBody s_minus) (defScope s_minus) .none kVminus dcminus pmminus anminus cdminus ctminus),slminus⟩) (cminus:PySem.W.codeIn K cdminus "minus" = true) (kminus:PySem.W.keepIn K (.ref fminus)=true)
    (atimes:PySem.W.nsIn K mainGlobals "times" = some (some (.ref ftimes))) (ltimes:K.lookup ftimes=some ⟨octimes,odtimes,.func (PySem.W.fnOf "times" "times" (defArgs s_times) (defBody s_times) (defScope s_times) .none kVtimes dctimes pmtimes antimes cdtimes cttimes),sltimes⟩) (ctimes:PySem.W.codeIn K cdtimes "times" = true) (ktimes:PySem.W.keepIn K (.ref ftimes)=true)
    (aover:PySem.W.nsIn K mainGlobals "over" = some (some (.ref fover))) (lover:K.lookup fover=some ⟨ocover,odover,.func (PySem.W.fnOf "over" "over" (defArgs s_over) (defBody s_over) (defScope s_over) .none kVover dcover pmover anover cdover ctover),slover⟩) (cover:PySem.W.codeIn K cdover "over" = true) (kover:PySem.W.keepIn K (.ref fover)=true)
    (aless:PySem.W.nsIn K mainGlobals "less" = some (some (.ref fless))) (lless:K.lookup fless=some ⟨ocless,odless,.func (PySem.W.fnOf "less" "less" (defArgs s_less) (defBody s_less) (defScope s_less) .none kVless dcless pmless anless cdless ctless),slless⟩) (cless:PySem.W.codeIn K cdless "less" = true) (kless:PySem.W.keepIn K (.ref fless)=true)
    (amean_of:PySem.W.nsIn K mainGlobals "mean_of" = some (some (.ref fmean_of))) (lmean_of:K.lookup fmean_of=some ⟨ocmean_of,odmean_of,.func (PySem.W.fnOf "mean_of" "mean_of" (defArgs s_mean_of) (defBody s_mean_of) (defScope s_mean_of) .none kVmean_of dcmean_of pmmean_of anmean_of cdmean_of ctmean_of),slmean_of⟩) (cmean_of:PySem.W.codeIn K cdmean_of "mean_of" = true) (kmean_of:PySem.W.keepIn K (.ref fmean_of)=true)
    (atotal:PySem.W.nsIn K mainGlobals "total" = some (some (.ref ftotal))) (ltotal:K.lookup ftotal=some ⟨octotal,odtotal,.func (PySem.W.fnOf "total" "total" (defArgs s_total) (defBody s_total) (defScope s_total) .none kVtotal dctotal pmtotal antotal cdtotal cttotal),sltotal⟩) (ctotal:PySem.W.codeIn K cdtotal "total" = true) (ktotal:PySem.W.keepIn K (.ref ftotal)=true)
    (ashare_of:PySem.W.nsIn K mainGlobals "share_of" = some (some (.ref fshare_of))) (lshare_of:K.lookup fshare_of=some ⟨ocshare_of,odshare_of,.func (PySem.W.fnOf "share_of" "share_of" (defArgs s_share_of) (defBody s_share_of) (defScope s_share_of) .none kVshare_of dcshare_of pmshare_of anshare_of cdshare_of ctshare_of),slshare_of⟩) (cshare_of:PySem.W.codeIn K cdshare_of "share_of" = true) (kshare_of:PySem.W.keepIn K (.ref fshare_of)=true)
    (amean:PySem.W.nsIn K mainGlobals "mean" = some (some (.ref fmean))) (lmean:K.lookup fmean=some ⟨ocmean,odmean,.func (PySem.W.fnOf "mean" "mean" (defArgs s_mean) (defBody s_mean) (defScope s_mean) .none kVmean dcmean pmmean anmean cdmean ctmean),slmean⟩) (cmean:PySem.W.codeIn K cdmean "mean" = true) (kmean:PySem.W.keepIn K (.ref fmean)=true)
    (asecond:PySem.W.nsIn K mainGlobals "second" = some (some (.ref fsecond))) (lsecond:K.lookup fsecond=some ⟨ocsecond,odsecond,.func (PySem.W.fnOf "second" "second" (defArgs s_second) (defBody s_second) (defScope s_second) .none kVsecond dcsecond pmsecond ansecond cdsecond ctsecond),slsecond⟩) (csecond:PySem.W.codeIn K cdsecond "second" = true) (ksecond:PySem.W.keepIn K (.ref fsecond)=true)
    (agoing_above:PySem.W.nsIn K mainGlobals "going_above" = some (some (.ref fgoing_above))) (lgoing_above:K.lookup fgoing_above=some ⟨ocgoing_above,odgoing_above,.func (PySem.W.fnOf "going_above" "going_above" (defArgs s_going_above) (defBody s_going_above) (defScope s_going_above) .none kVgoing_above dcgoing_above pmgoing_above angoing_above cdgoing_above ctgoing_above),slgoing_above⟩) (cgoing_above:PySem.W.codeIn K cdgoing_above "going_above" = true) (kgoing_above:PySem.W.keepIn K (.ref fgoing_above)=true)
    (aword_of:PySem.W.nsIn K mainGlobals "word_of" = some (some (.ref fword_of))) (lword_of:K.lookup fword_of=some ⟨ocword_of,odword_of,.func (PySem.W.fnOf "word_of" "word_of" (defArgs s_word_of) (defBody s_word_of) (defScope s_word_of) .none kVword_of dcword_of pmword_of anword_of cdword_of ctword_of),slword_of⟩) (cword_of:PySem.W.codeIn K cdword_of "word_of" = true) (kword_of:PySem.W.keepIn K (.ref fword_of)=true)
    (acheck_rests:PySem.W.nsIn K mainGlobals "check_rests" = some (some (.ref fcheck_rests))) (lcheck_rests:K.lookup fcheck_rests=some ⟨occheck_rests,odcheck_rests,.func (PySem.W.fnOf "check_rests" "check_rests" (defArgs s_check_rests) (defBody s_check_rests) (defScope s_check_rests) .none kVcheck_rests dccheck_rests pmcheck_rests ancheck_rests cdcheck_rests ctcheck_rests),slcheck_rests⟩) (ccheck_rests:PySem.W.codeIn K cdcheck_rests "check_rests" = true) (kcheck_rests:PySem.W.keepIn K (.ref fcheck_rests)=true)
    (alacking:PySem.W.nsIn K mainGlobals "lacking" = some (some (.ref flacking))) (llacking:K.lookup flacking=some ⟨oclacking,odlacking,.func (PySem.W.fnOf "lacking" "lacking" (defArgs s_lacking) (defBody s_lacking) (defScope s_lacking) .none kVlacking dclacking pmlacking anlacking cdlacking ctlacking),sllacking⟩) (clacking:PySem.W.codeIn K cdlacking "lacking" = true) (klacking:PySem.W.keepIn K (.ref flacking)=true)
    (amean_standing:PySem.W.nsIn K mainGlobals "mean_standing" = some (some (.ref fmean_standing))) (lmean_standing:K.lookup fmean_standing=some ⟨ocmean_standing,odmean_standing,.func (PySem.W.fnOf "mean_standing" "mean_standing" (defArgs s_mean_standing) (defBody s_mean_standing) (defScope s_mean_standing) .none kVmean_standing dcmean_standing pmmean_standing anmean_standing cdmean_standing ctmean_standing),slmean_standing⟩) (cmean_standing:PySem.W.codeIn K cdmean_standing "mean_standing" = true) (kmean_standing:PySem.W.keepIn K (.ref fmean_standing)=true)
    (astep_row:PySem.W.nsIn K mainGlobals "step_row" = some (some (.ref fstep_row))) (lstep_row:K.lookup fstep_row=some ⟨ocstep_row,odstep_row,.func (PySem.W.fnOf "step_row" "step_row" (defArgs s_step_row) (defBody s_step_row) (defScope s_step_row) .none kVstep_row dcstep_row pmstep_row anstep_row cdstep_row ctstep_row),slstep_row⟩) (cstep_row:PySem.W.codeIn K cdstep_row "step_row" = true) (kstep_row:PySem.W.keepIn K (.ref fstep_row)=true)
    (acheck_shape:PySem.W.nsIn K mainGlobals "check_shape" = some (some (.ref fcheck_shape))) (lcheck_shape:K.lookup fcheck_shape=some ⟨occheck_shape,odcheck_shape,.func (PySem.W.fnOf "check_shape" "check_shape" (defArgs s_check_shape) (defBody s_check_shape) (defScope s_check_shape) .none kVcheck_shape dccheck_shape pmcheck_shape ancheck_shape cdcheck_shape ctcheck_shape),slcheck_shape⟩) (ccheck_shape:PySem.W.codeIn K cdcheck_shape "check_shape" = true) (kcheck_shape:PySem.W.keepIn K (.ref fcheck_shape)=true)
    (alets_steps:PySem.W.nsIn K mainGlobals "lets_steps" = some (some (.ref flets_steps))) (llets_steps:K.lookup flets_steps=some ⟨oclets_steps,odlets_steps,.func (PySem.W.fnOf "lets_steps" "lets_steps" (defArgs s_lets_steps) (defBody s_lets_steps) (defScope s_lets_steps) .none kVlets_steps dclets_steps pmlets_steps anlets_steps cdlets_steps ctlets_steps),sllets_steps⟩) (clets_steps:PySem.W.codeIn K cdlets_steps "lets_steps" = true) (klets_steps:PySem.W.keepIn K (.ref flets_steps)=true)
    (a_law_feed:PySem.W.nsIn K mainGlobals "_law_feed" = some (some (.ref f_law_feed))) (l_law_feed:K.lookup f_law_feed=some ⟨oc_law_feed,od_law_feed,.func (PySem.W.fnOf "_law_feed" "_law_feed" (defArgs s__law_feed) (defBody s__law_feed) (defScope s__law_feed) .none kV_law_feed dc_law_feed pm_law_feed an_law_feed cd_law_feed ct_law_feed),sl_law_feed⟩) (c_law_feed:PySem.W.codeIn K cd_law_feed "_law_feed" = true) (k_law_feed:PySem.W.keepIn K (.ref f_law_feed)=true)
    (a_law_draw:PySem.W.nsIn K mainGlobals "_law_draw" = some (some (.ref f_law_draw))) (l_law_draw:K.lookup f_law_draw=some ⟨oc_law_draw,od_law_draw,.func (PySem.W.fnOf "_law_draw" "_law_draw" (defArgs s__law_draw) (defBody s__law_draw) (defScope s__law_draw) .none kV_law_draw dc_law_draw pm_law_draw an_law_draw cd_law_draw ct_law_draw),sl_law_draw⟩) (c_law_draw:PySem.W.codeIn K cd_law_draw "_law_draw" = true) (k_law_draw:PySem.W.keepIn K (.ref f_law_draw)=true)
    (a_law_flow:PySem.W.nsIn K mainGlobals "_law_flow" = some (some (.ref f_law_flow))) (l_law_flow:K.lookup f_law_flow=some ⟨oc_law_flow,od_law_flow,.func (PySem.W.fnOf "_law_flow" "_law_flow" (defArgs s__law_flow) (defBody s__law_flow) (defScope s__law_flow) .none kV_law_flow dc_law_flow pm_law_flow an_law_flow cd_law_flow ct_law_flow),sl_law_flow⟩) (c_law_flow:PySem.W.codeIn K cd_law_flow "_law_flow" = true) (k_law_flow:PySem.W.keepIn K (.ref f_law_flow)=true)
    (a_law_stays:PySem.W.nsIn K mainGlobals "_law_stays" = some (some (.ref f_law_stays))) (l_law_stays:K.lookup f_law_stays=some ⟨oc_law_stays,od_law_stays,.func (PySem.W.fnOf "_law_stays" "_law_stays" (defArgs s__law_stays) (defBody s__law_stays) (defScope s__law_stays) .none kV_law_stays dc_law_stays pm_law_stays an_law_stays cd_law_stays ct_law_stays),sl_law_stays⟩) (c_law_stays:PySem.W.codeIn K cd_law_stays "_law_stays" = true) (k_law_stays:PySem.W.keepIn K (.ref f_law_stays)=true)
    (a_law_sums_right:PySem.W.nsIn K mainGlobals "_law_sums_right" = some (some (.ref f_law_sums_right))) (l_law_sums_right:K.lookup f_law_sums_right=some ⟨oc_law_sums_right,od_law_sums_right,.func (PySem.W.fnOf "_law_sums_right" "_law_sums_right" (defArgs s__law_sums_right) (defBody s__law_sums_right) (defScope s__law_sums_right) .none kV_law_sums_right dc_law_sums_right pm_law_sums_right an_law_sums_right cd_law_sums_right ct_law_sums_right),sl_law_sums_right⟩) (c_law_sums_right:PySem.W.codeIn K cd_law_sums_right "_law_sums_right" = true) (k_law_sums_right:PySem.W.keepIn K (.ref f_law_sums_right)=true)
    (a_law_lets:PySem.W.nsIn K mainGlobals "_law_lets" = some (some (.ref f_law_lets))) (l_law_lets:K.lookup f_law_lets=some ⟨oc_law_lets,od_law_lets,.func (PySem.W.fnOf "_law_lets" "_law_lets" (defArgs s__law_lets) (defBody s__law_lets) (defScope s__law_lets) .none kV_law_lets dc_law_lets pm_law_lets an_law_lets cd_law_lets ct_law_lets),sl_law_lets⟩) (c_law_lets:PySem.W.codeIn K cd_law_lets "_law_lets" = true) (k_law_lets:PySem.W.keepIn K (.ref f_law_lets)=true)
    (alaw:PySem.W.nsIn K mainGlobals "law" = some (some (.ref flaw))) (llaw:K.lookup flaw=some ⟨oclaw,odlaw,.func (PySem.W.fnOf "law" "law" (defArgs s_law) (defBody s_law) (defScope s_law) .none kVlaw dclaw pmlaw anlaw cdlaw ctlaw),sllaw⟩) (claw:PySem.W.codeIn K cdlaw "law" = true) (klaw:PySem.W.keepIn K (.ref flaw)=true)
    (zabs:PySem.W.nsIn K mainGlobals "abs" = some none)
    (zbool:PySem.W.nsIn K mainGlobals "bool" = some none)
    (zenumerate:PySem.W.nsIn K mainGlobals "enumerate" = some none)
    (zint:PySem.W.nsIn K mainGlobals "int" = some none)
    (zisinstance:PySem.W.nsIn K mainGlobals "isinstance" = some none)
    (zlen:PySem.W.nsIn K mainGlobals "len" = some none)
    (zlist:PySem.W.nsIn K mainGlobals "list" = some none)
    (zmax:PySem.W.nsIn K mainGlobals "max" = some none)
    (zmin:PySem.W.nsIn K mainGlobals "min" = some none)
    (zrange:PySem.W.nsIn K mainGlobals "range" = some none)
    (zrepr:PySem.W.nsIn K mainGlobals "repr" = some none)
    (zsum:PySem.W.nsIn K mainGlobals "sum" = some none)
    (ztuple:PySem.W.nsIn K mainGlobals "tuple" = some none)
    {t_NOUGHT:Addr} {it_NOUGHT:Array Value} {n_NOUGHT:Nat} {dd_NOUGHT:Option Addr} {sl_NOUGHT:Array (Option Value)} (ga_NOUGHT:PySem.W.nsIn K mainGlobals "NOUGHT" = some (some (.ref t_NOUGHT))) (gl_NOUGHT:K.lookup t_NOUGHT=some ⟨.type "tuple",dd_NOUGHT,.seq it_NOUGHT n_NOUGHT,sl_NOUGHT⟩) (gq_NOUGHT:L3.intsV it_NOUGHT.toList=some ([0,1]:List Int))
    {t_ONE:Addr} {it_ONE:Array Value} {n_ONE:Nat} {dd_ONE:Option Addr} {sl_ONE:Array (Option Value)} (ga_ONE:PySem.W.nsIn K mainGlobals "ONE" = some (some (.ref t_ONE))) (gl_ONE:K.lookup t_ONE=some ⟨.type "tuple",dd_ONE,.seq it_ONE n_ONE,sl_ONE⟩) (gq_ONE:L3.intsV it_ONE.toList=some ([1,1]:List Int))
    {x_WaitError:Addr} (aE_WaitError:PySem.W.nsIn K mainGlobals "WaitError" = some (some (.ref x_WaitError)))
    {x_NoPaper:Addr} (aE_NoPaper:PySem.W.nsIn K mainGlobals "NoPaper" = some (some (.ref x_NoPaper)))
    {fi_NoPaper N_NoPaper:Addr} {nm_NoPaper q_NoPaper:Str} {bs_NoPaper:List Value} {hd_NoPaper sn_NoPaper sub_NoPaper ab_NoPaper col_NoPaper dd_NoPaper k0_NoPaper k1_NoPaper k2_NoPaper k3_NoPaper k5_NoPaper} {oci_NoPaper kVi_NoPaper dci_NoPaper pmi_NoPaper cdi_NoPaper cti_NoPaper:Value} {odi_NoPaper ani_NoPaper:Option Addr} {sli_NoPaper:Array (Option Value)}
    (obj_NoPaper:K.lookup x_NoPaper=some (PySem.excClassObj nm_NoPaper q_NoPaper x_NoPaper N_NoPaper bs_NoPaper (.ref x_WaitError::L3.vMro) hd_NoPaper sn_NoPaper sub_NoPaper ab_NoPaper col_NoPaper dd_NoPaper k0_NoPaper k1_NoPaper k2_NoPaper k3_NoPaper k5_NoPaper "ValueError.__new__")) (tp_NoPaper:PySem.W.excIn K x_WaitError L3.vMro "ValueError.__new__" = true)
    (in_NoPaper:PySem.W.findIn K (.ref x_NoPaper) "__init__" = some (some (.ref fi_NoPaper))) (fn_NoPaper:PySem.W.typeIn K (.ref fi_NoPaper)=some (.type "function")) (ca_NoPaper:PySem.W.specialIn K (.ref x_NoPaper) "__call__" = some (some (.builtin "type.__call__"))) (ty_NoPaper:PySem.W.instIn K (.ref x_NoPaper) (.type "type")=some true) (kp_NoPaper:PySem.W.keepIn K (.ref x_NoPaper)=true) (di_NoPaper:PySem.W.hasDictIn K x_NoPaper=true) (sa_NoPaper:PySem.W.findIn K (.ref x_NoPaper) "__setattr__" = some (some (.builtin "object.__setattr__")))
    (li_NoPaper:K.lookup fi_NoPaper=some ⟨oci_NoPaper,odi_NoPaper,.func (PySem.W.fnOf "__init__" "NoPaper.__init__" (defArgs ini_NoPaper) (defBody ini_NoPaper) (defScope ini_NoPaper) .none kVi_NoPaper dci_NoPaper pmi_NoPaper ani_NoPaper cdi_NoPaper cti_NoPaper),sli_NoPaper⟩) (ci_NoPaper:PySem.W.codeIn K cdi_NoPaper "NoPaper.__init__" = true)
    (ga_NoPaper_:PySem.W.findIn K (.ref x_NoPaper) "__getattribute__" = some (some (.builtin "BaseException.__getattribute__"))) (gn_NoPaper:PySem.W.findIn K (.ref x_NoPaper) "__getattr__" = some none) (mb_NoPaper:PySem.W.mroIn K x_NoPaper (.type "BaseException")=some true) (mo_NoPaper:PySem.W.mroIn K x_NoPaper (.type "object")=some true) (cc_NoPaper:PySem.W.findIn K (.ref x_NoPaper) "__class__" = some (some (.builtin "object.__class__"))) (cg_NoPaper:PySem.W.specialIn K (.builtin "object.__class__") "__get__" = some (some (.builtin "getset_descriptor.__get__"))) (ct_NoPaper:PySem.W.takesIn K (.builtin "object.__class__")=some true)
    (sb_NoPaper:PySem.W.subIn K (.ref x_WaitError) (.type "BaseException")=some true) (ko_NoPaper:PySem.W.kitOne K (.ref x_NoPaper) (.ref x_WaitError)=some true) (ne_NoPaper:(Value.ref x_NoPaper == Value.ref x_WaitError)=false) (ve_NoPaper:PySem.W.kitOne K (.ref x_NoPaper) (.type "ValueError")=some true) (st_NoPaper:PySem.W.kitAny K (.ref x_NoPaper) []=some false)
    (na_NoPaper_word:PySem.W.findIn K (.ref x_NoPaper) "word" = some none)
    (na_NoPaper_number:PySem.W.findIn K (.ref x_NoPaper) "number" = some none)
    (xs_NoPaper:PySem.W.exmOne K (.ref x_NoPaper) (.ref x_NoPaper)=some true)
    (hnd0:decide (((L3.tabsK ([]:List Str) K).map (·.2.2)).Nodup)=true)
   :∃ fd:FuncData,(∀ (s:Shared) (v:Value),BindsTo s fd ⟨[v],[]⟩ [("_law_script",v)])∧∀ base:Heap,K.In base->base.Ns mainGlobals mg->BMd base mg->(∀ t∈L3.tabsK ([]:List Str) K,PySem.W.CodeHd base t.2.1 t.2.2)->FnOk l.prog w K mg base CX0 9 fa fd ["_law_script"] (spLaw K):=by
  have hnd:(L3.tabP K).Nodup:=of_decide_eq_true hnd0
  have e:=hfa.symm.trans (PySem.W.mg_of X G alaw)
  cases e
  have na_NoPaper:∀ p∈L3.psT "NoPaper",PySem.W.findIn K (.ref x_NoPaper) p=some none:=by
    intro p hp
    have hp:p∈(["word","number"]:List Str):=hp
    simp only [List.mem_cons,List.not_mem_nil,or_false] at hp
    rcases hp with rfl | rfl
    · exact na_NoPaper_word
    · exact na_NoPaper_number
  have T:Txt K mg:=⟨PySem.W.mg_none_of X G zabs,PySem.W.mg_none_of X G zbool,PySem.W.mg_none_of X G zenumerate,PySem.W.mg_none_of X G zint,PySem.W.mg_none_of X G zisinstance,PySem.W.mg_none_of X G zlen,PySem.W.mg_none_of X G zlist,PySem.W.mg_none_of X G zmax,PySem.W.mg_none_of X G zmin,PySem.W.mg_none_of X G zrange,PySem.W.mg_none_of X G zrepr,PySem.W.mg_none_of X G zsum,PySem.W.mg_none_of X G ztuple,L3.gd_mkI X G ga_NOUGHT gl_NOUGHT gq_NOUGHT (by decide),L3.gd_mkI X G ga_ONE gl_ONE gq_ONE (by decide),⟨x_WaitError,x_NoPaper,fi_NoPaper,[],PySem.W.mg_of X G aE_WaitError,rfl,L3.ecls_mk obj_NoPaper tp_NoPaper in_NoPaper fn_NoPaper ca_NoPaper ty_NoPaper kp_NoPaper di_NoPaper sa_NoPaper,L3.eini_mk it_NoPaper li_NoPaper ci_NoPaper na_NoPaper,L3.efit_mk (PySem.W.mg_of X G aE_NoPaper) di_NoPaper ga_NoPaper_ gn_NoPaper mb_NoPaper mo_NoPaper cc_NoPaper cg_NoPaper ct_NoPaper sb_NoPaper ko_NoPaper ne_NoPaper ve_NoPaper st_NoPaper na_NoPaper⟩,⟨x_NoPaper,PySem.W.mg_of X G aE_NoPaper,xs_NoPaper⟩⟩
  have Fis_number:=fun_mk (st:=s_is_number) lis_number cis_number kis_number
  have bis_number:=Fis_number.binds (ps:=["thing"]) λ_ _ _ _ _ _ us hl=>by
    obtain ⟨z0,rfl⟩:=L3.len_1 hl
    rfl
  have mis_number:=PySem.W.mg_of X G ais_number
  have Fis_number_from:=fun_mk (st:=s_is_number_from) lis_number_from cis_number_from kis_number_from
  have bis_number_from:=Fis_number_from.binds (ps:=["least","thing"]) λ_ _ _ _ _ _ us hl=>by
    obtain ⟨z0,z1,rfl⟩:=L3.len_2 hl
    rfl
  have mis_number_from:=PySem.W.mg_of X G ais_number_from
  have Fis_tuple_of:=fun_mk (st:=s_is_tuple_of) lis_tuple_of cis_tuple_of kis_tuple_of
  have bis_tuple_of:=Fis_tuple_of.binds (ps:=["many","thing"]) λ_ _ _ _ _ _ us hl=>by
    obtain ⟨z0,z1,rfl⟩:=L3.len_2 hl
    rfl
  have mis_tuple_of:=PySem.W.mg_of X G ais_tuple_of
  have Fcommon_divisor:=fun_mk (st:=s_common_divisor) lcommon_divisor ccommon_divisor kcommon_divisor
  have bcommon_divisor:=Fcommon_divisor.binds (ps:=["one","other"]) λ_ _ _ _ _ _ us hl=>by
    obtain ⟨z0,z1,rfl⟩:=L3.len_2 hl
    rfl
  have mcommon_divisor:=PySem.W.mg_of X G acommon_divisor
  have Fis_fraction:=fun_mk (st:=s_is_fraction) lis_fraction cis_fraction kis_fraction
  have bis_fraction:=Fis_fraction.binds (ps:=["thing"]) λ_ _ _ _ _ _ us hl=>by
    obtain ⟨z0,rfl⟩:=L3.len_1 hl
    rfl
  have mis_fraction:=PySem.W.mg_of X G ais_fraction
  have Ffraction:=fun_mk (st:=s_fraction) lfraction cfraction kfraction
  have bfraction:=Ffraction.binds (ps:=["top","bottom"]) λ_ _ _ _ _ _ us hl=>by
    obtain ⟨z0,z1,rfl⟩:=L3.len_2 hl
    rfl
  have mfraction:=PySem.W.mg_of X G afraction
  have Fplus:=fun_mk (st:=s_plus) lplus cplus kplus
  have bplus:=Fplus.binds (ps:=["one","other"]) λ_ _ _ _ _ _ us hl=>by
    obtain ⟨z0,z1,rfl⟩:=L3.len_2 hl
    rfl
  have mplus:=PySem.W.mg_of X G aplus
  have Fminus:=fun_mk (st:=s_minus) lminus cminus kminus
  have bminus:=Fminus.binds (ps:=["one","other"]) λ_ _ _ _ _ _ us hl=>by
    obtain ⟨z0,z1,rfl⟩:=L3.len_2 hl
    rfl
  have mminus:=PySem.W.mg_of X G aminus
  have Ftimes:=fun_mk (st:=s_times) ltimes ctimes ktimes
  have btimes:=Ftimes.binds (ps:=["one","other"]) λ_ _ _ _ _ _ us hl=>by
    obtain ⟨z0,z1,rfl⟩:=L3.len_2 hl
    rfl
  have mtimes:=PySem.W.mg_of X G atimes
  have Fover:=fun_mk (st:=s_over) lover cover kover
  have bover:=Fover.binds (ps:=["one","other"]) λ_ _ _ _ _ _ us hl=>by
    obtain ⟨z0,z1,rfl⟩:=L3.len_2 hl
    rfl
  have mover:=PySem.W.mg_of X G aover
  have Fless:=fun_mk (st:=s_less) lless cless kless
  have bless:=Fless.binds (ps:=["one","other"]) λ_ _ _ _ _ _ us hl=>by
    obtain ⟨z0,z1,rfl⟩:=L3.len_2 hl
    rfl
  have mless:=PySem.W.mg_of X G aless
  have Fmean_of:=fun_mk (st:=s_mean_of) lmean_of cmean_of kmean_of
  have bmean_of:=Fmean_of.binds (ps:=["pairs"]) λ_ _ _ _ _ _ us hl=>by
    obtain ⟨z0,rfl⟩:=L3.len_1 hl
    rfl
  have mmean_of:=PySem.W.mg_of X G amean_of
  have Ftotal:=fun_mk (st:=s_total) ltotal ctotal ktotal
  have btotal:=Ftotal.binds (ps:=["flow"]) λ_ _ _ _ _ _ us hl=>by
    obtain ⟨z0,rfl⟩:=L3.len_1 hl
    rfl
  have mtotal:=PySem.W.mg_of X G atotal
  have Fshare_of:=fun_mk (st:=s_share_of) lshare_of cshare_of kshare_of
  have bshare_of:=Fshare_of.binds (ps:=["flow","k"]) λ_ _ _ _ _ _ us hl=>by
    obtain ⟨z0,z1,rfl⟩:=L3.len_2 hl
    rfl
  have mshare_of:=PySem.W.mg_of X G ashare_of
  have Fmean:=fun_mk (st:=s_mean) lmean cmean kmean
  have bmean:=Fmean.binds (ps:=["flow"]) λ_ _ _ _ _ _ us hl=>by
    obtain ⟨z0,rfl⟩:=L3.len_1 hl
    rfl
  have mmean:=PySem.W.mg_of X G amean
  have Fsecond:=fun_mk (st:=s_second) lsecond csecond ksecond
  have bsecond:=Fsecond.binds (ps:=["flow"]) λ_ _ _ _ _ _ us hl=>by
    obtain ⟨z0,rfl⟩:=L3.len_1 hl
    rfl
  have msecond:=PySem.W.mg_of X G asecond
  have Fgoing_above:=fun_mk (st:=s_going_above) lgoing_above cgoing_above kgoing_above
  have bgoing_above:=Fgoing_above.binds (ps:=["flow","shares"]) λ_ _ _ _ _ _ us hl=>by
    obtain ⟨z0,z1,rfl⟩:=L3.len_2 hl
    rfl
  have mgoing_above:=PySem.W.mg_of X G agoing_above
  have Fword_of:=fun_mk (st:=s_word_of) lword_of cword_of kword_of
  have bword_of:=Fword_of.binds (ps:=["flow","hands"]) λ_ _ _ _ _ _ us hl=>by
    obtain ⟨z0,z1,rfl⟩:=L3.len_2 hl
    rfl
  have mword_of:=PySem.W.mg_of X G aword_of
  have Fcheck_rests:=fun_mk (st:=s_check_rests) lcheck_rests ccheck_rests kcheck_rests
  have bcheck_rests:=Fcheck_rests.binds (ps:=["flow"]) λ_ _ _ _ _ _ us hl=>by
    obtain ⟨z0,rfl⟩:=L3.len_1 hl
    rfl
  have mcheck_rests:=PySem.W.mg_of X G acheck_rests
  have Flacking:=fun_mk (st:=s_lacking) llacking clacking klacking
  have blacking:=Flacking.binds (ps:=["flow"]) λ_ _ _ _ _ _ us hl=>by
    obtain ⟨z0,rfl⟩:=L3.len_1 hl
    rfl
  have mlacking:=PySem.W.mg_of X G alacking
  have Fmean_standing:=fun_mk (st:=s_mean_standing) lmean_standing cmean_standing kmean_standing
  have bmean_standing:=Fmean_standing.binds (ps:=["flow"]) λ_ _ _ _ _ _ us hl=>by
    obtain ⟨z0,rfl⟩:=L3.len_1 hl
    rfl
  have mmean_standing:=PySem.W.mg_of X G amean_standing
  have Fstep_row:=fun_mk (st:=s_step_row) lstep_row cstep_row kstep_row
  have bstep_row:=Fstep_row.binds (ps:=["flow","n"]) λ_ _ _ _ _ _ us hl=>by
    obtain ⟨z0,z1,rfl⟩:=L3.len_2 hl
    rfl
  have mstep_row:=PySem.W.mg_of X G astep_row
  have Fcheck_shape:=fun_mk (st:=s_check_shape) lcheck_shape ccheck_shape kcheck_shape
  have bcheck_shape:=Fcheck_shape.binds (ps:=["thing"]) λ_ _ _ _ _ _ us hl=>by
    obtain ⟨z0,rfl⟩:=L3.len_1 hl
    rfl
  have mcheck_shape:=PySem.W.mg_of X G acheck_shape
  have Flets_steps:=fun_mk (st:=s_lets_steps) llets_steps clets_steps klets_steps
  have blets_steps:=Flets_steps.binds (ps:=["flow","thing"]) λ_ _ _ _ _ _ us hl=>by
    obtain ⟨z0,z1,rfl⟩:=L3.len_2 hl
    rfl
  have mlets_steps:=PySem.W.mg_of X G alets_steps
  have F_law_feed:=fun_mk (st:=s__law_feed) l_law_feed c_law_feed k_law_feed
  have b_law_feed:=F_law_feed.binds (ps:=["_law_script"]) λ_ _ _ _ _ _ us hl=>by
    obtain ⟨z0,rfl⟩:=L3.len_1 hl
    rfl
  have m_law_feed:=PySem.W.mg_of X G a_law_feed
  have F_law_draw:=fun_mk (st:=s__law_draw) l_law_draw c_law_draw k_law_draw
  have b_law_draw:=F_law_draw.binds (ps:=["_law_feed_here","_law_many"]) λ_ _ _ _ _ _ us hl=>by
    obtain ⟨z0,z1,rfl⟩:=L3.len_2 hl
    rfl
  have m_law_draw:=PySem.W.mg_of X G a_law_draw
  have F_law_flow:=fun_mk (st:=s__law_flow) l_law_flow c_law_flow k_law_flow
  have b_law_flow:=F_law_flow.binds (ps:=["_law_feed_here"]) λ_ _ _ _ _ _ us hl=>by
    obtain ⟨z0,rfl⟩:=L3.len_1 hl
    rfl
  have m_law_flow:=PySem.W.mg_of X G a_law_flow
  have F_law_stays:=fun_mk (st:=s__law_stays) l_law_stays c_law_stays k_law_stays
  have b_law_stays:=F_law_stays.binds (ps:=["_law_flow_here","_law_row"]) λ_ _ _ _ _ _ us hl=>by
    obtain ⟨z0,z1,rfl⟩:=L3.len_2 hl
    rfl
  have m_law_stays:=PySem.W.mg_of X G a_law_stays
  have F_law_sums_right:=fun_mk (st:=s__law_sums_right) l_law_sums_right c_law_sums_right k_law_sums_right
  have b_law_sums_right:=F_law_sums_right.binds (ps:=["_law_flow_here","_law_row"]) λ_ _ _ _ _ _ us hl=>by
    obtain ⟨z0,z1,rfl⟩:=L3.len_2 hl
    rfl
  have m_law_sums_right:=PySem.W.mg_of X G a_law_sums_right
  have F_law_lets:=fun_mk (st:=s__law_lets) l_law_lets c_law_lets k_law_lets
  have b_law_lets:=F_law_lets.binds (ps:=["_law_flow_here","_law_thing"]) λ_ _ _ _ _ _ us hl=>by
    obtain ⟨z0,z1,rfl⟩:=L3.len_2 hl
    rfl
  have m_law_lets:=PySem.W.mg_of X G a_law_lets
  have Flaw:=fun_mk (st:=s_law) llaw claw klaw
  have blaw:=Flaw.binds (ps:=["_law_script"]) λ_ _ _ _ _ _ us hl=>by
    obtain ⟨z0,rfl⟩:=L3.len_1 hl
    rfl
  have mlaw:=PySem.W.mg_of X G alaw
  refine ⟨PySem.W.fnOf "law" "law" (defArgs s_law) (defBody s_law) (defScope s_law) .none kVlaw dclaw pmlaw anlaw cdlaw ctlaw,λs v=>.of_eq rfl,λbase _ _ BM hC=>?_⟩
  have C_is_number:Callee l.prog w K mg base "is_number" 1 ["thing"] (spD K 1 f_is_number):=⟨_,_,ok_is_number Fis_number T ,mis_number,Fis_number.kp,bis_number⟩
  have C_is_number_from:Callee l.prog w K mg base "is_number_from" 2 ["least","thing"] (spD K 2 f_is_number_from):=⟨_,_,ok_is_number_from Fis_number_from T C_is_number,mis_number_from,Fis_number_from.kp,bis_number_from⟩
  have C_is_tuple_of:Callee l.prog w K mg base "is_tuple_of" 1 ["many","thing"] (spD K 2 f_is_tuple_of):=⟨_,_,ok_is_tuple_of Fis_tuple_of T ,mis_tuple_of,Fis_tuple_of.kp,bis_tuple_of⟩
  have C_common_divisor:Callee l.prog w K mg base "common_divisor" 1 ["one","other"] (spD K 2 f_common_divisor):=⟨_,_,ok_common_divisor Fcommon_divisor T ,mcommon_divisor,Fcommon_divisor.kp,bcommon_divisor⟩
  have C_is_fraction:Callee l.prog w K mg base "is_fraction" 3 ["thing"] (spD K 1 f_is_fraction):=⟨_,_,ok_is_fraction Fis_fraction T C_is_tuple_of C_is_number C_is_number_from C_common_divisor,mis_fraction,Fis_fraction.kp,bis_fraction⟩
  have C_fraction:Callee l.prog w K mg base "fraction" 2 ["top","bottom"] (spD K 2 f_fraction):=⟨_,_,ok_fraction Ffraction T C_common_divisor,mfraction,Ffraction.kp,bfraction⟩
  have C_plus:Callee l.prog w K mg base "plus" 3 ["one","other"] (spD K 2 f_plus):=⟨_,_,ok_plus Fplus T C_fraction,mplus,Fplus.kp,bplus⟩
  have C_minus:Callee l.prog w K mg base "minus" 3 ["one","other"] (spD K 2 f_minus):=⟨_,_,ok_minus Fminus T C_fraction,mminus,Fminus.kp,bminus⟩
  have C_times:Callee l.prog w K mg base "times" 3 ["one","other"] (spD K 2 f_times):=⟨_,_,ok_times Ftimes T C_fraction,mtimes,Ftimes.kp,btimes⟩
  have C_over:Callee l.prog w K mg base "over" 3 ["one","other"] (spD K 2 f_over):=⟨_,_,ok_over Fover T C_fraction,mover,Fover.kp,bover⟩
  have C_less:Callee l.prog w K mg base "less" 1 ["one","other"] (spD K 2 f_less):=⟨_,_,ok_less Fless T ,mless,Fless.kp,bless⟩
  have C_mean_of:Callee l.prog w K mg base "mean_of" 3 ["pairs"] (spD K 1 f_mean_of):=⟨_,_,ok_mean_of Fmean_of T C_fraction,mmean_of,Fmean_of.kp,bmean_of⟩
  have C_total:Callee l.prog w K mg base "total" 1 ["flow"] (spD K 1 f_total):=⟨_,_,ok_total Ftotal T ,mtotal,Ftotal.kp,btotal⟩
  have C_share_of:Callee l.prog w K mg base "share_of" 3 ["flow","k"] (spD K 2 f_share_of):=⟨_,_,ok_share_of Fshare_of T C_fraction C_total,mshare_of,Fshare_of.kp,bshare_of⟩
  have C_mean:Callee l.prog w K mg base "mean" 4 ["flow"] (spD K 1 f_mean):=⟨_,_,ok_mean Fmean T C_mean_of,mmean,Fmean.kp,bmean⟩
  have C_second:Callee l.prog w K mg base "second" 4 ["flow"] (spD K 1 f_second):=⟨_,_,ok_second Fsecond T C_mean_of,msecond,Fsecond.kp,bsecond⟩
  have C_going_above:Callee l.prog w K mg base "going_above" 4 ["flow","shares"] (spD K 2 f_going_above):=⟨_,_,ok_going_above Fgoing_above T C_plus C_times C_fraction C_total,mgoing_above,Fgoing_above.kp,bgoing_above⟩
  have C_word_of:Callee l.prog w K mg base "word_of" 5 ["flow","hands"] (spD K 2 f_word_of):=⟨_,_,ok_word_of Fword_of T C_mean C_less C_share_of,mword_of,Fword_of.kp,bword_of⟩
  have C_check_rests:Callee l.prog w K mg base "check_rests" 6 ["flow"] (spD K 1 f_check_rests):=⟨_,_,ok_check_rests Fcheck_rests T C_word_of,mcheck_rests,Fcheck_rests.kp,bcheck_rests⟩
  have C_lacking:Callee l.prog w K mg base "lacking" 5 ["flow"] (spD K 1 f_lacking):=⟨_,_,ok_lacking Flacking T C_minus C_mean,mlacking,Flacking.kp,blacking⟩
  have C_mean_standing:Callee l.prog w K mg base "mean_standing" 7 ["flow"] (spD K 1 f_mean_standing):=⟨_,_,ok_mean_standing Fmean_standing T C_check_rests C_over C_times C_lacking C_minus C_mean C_second,mmean_standing,Fmean_standing.kp,bmean_standing⟩
  have C_step_row:Callee l.prog w K mg base "step_row" 7 ["flow","n"] (spD K 2 f_step_row):=⟨_,_,ok_step_row Fstep_row T C_check_rests C_share_of C_over C_lacking C_going_above,mstep_row,Fstep_row.kp,bstep_row⟩
  have C_check_shape:CalleeX l.prog w K mg base "check_shape" 4 ["thing"] (spX K mg 1 f_check_shape):=⟨_,_,ok_check_shape Fcheck_shape T C_is_fraction,mcheck_shape,Fcheck_shape.kp,bcheck_shape⟩
  have C_lets_steps:CalleeX l.prog w K mg base "lets_steps" 6 ["flow","thing"] (spX K mg 2 f_lets_steps):=⟨_,_,ok_lets_steps Flets_steps T C_check_shape C_word_of C_share_of C_times C_lacking C_going_above,mlets_steps,Flets_steps.kp,blets_steps⟩
  have C__law_feed:Callee l.prog w K mg base "_law_feed" 1 ["_law_script"] (spFeed K):=⟨_,_,ok__law_feed F_law_feed,m_law_feed,F_law_feed.kp,b_law_feed⟩
  have C__law_draw:Callee l.prog w K mg base "_law_draw" 1 ["_law_feed_here","_law_many"] (spD K 2 drawS):=⟨_,_,ok__law_draw F_law_draw T ,m_law_draw,F_law_draw.kp,b_law_draw⟩
  have C__law_flow:Callee l.prog w K mg base "_law_flow" 2 ["_law_feed_here"] (spD K 1 f__law_flow):=⟨_,_,ok__law_flow F_law_flow T C__law_draw,m_law_flow,F_law_flow.kp,b_law_flow⟩
  have C__law_stays:Callee l.prog w K mg base "_law_stays" 4 ["_law_flow_here","_law_row"] (spD K 2 f__law_stays):=⟨_,_,ok__law_stays F_law_stays T C_times C_share_of C_plus,m_law_stays,F_law_stays.kp,b_law_stays⟩
  have C__law_sums_right:Callee l.prog w K mg base "_law_sums_right" 8 ["_law_flow_here","_law_row"] (spD K 2 f__law_sums_right):=⟨_,_,ok__law_sums_right F_law_sums_right T C_less C_plus C_times C_mean_standing C_minus C_over,m_law_sums_right,F_law_sums_right.kp,b_law_sums_right⟩
  have C__law_lets:Callee l.prog w K mg base "_law_lets" 7 ["_law_flow_here","_law_thing"] (spD K 2 f__law_lets):=⟨_,_,ok__law_lets F_law_lets T C_lets_steps,m_law_lets,F_law_lets.kp,b_law_lets⟩
  exact ok_law Flaw T C__law_feed C__law_draw C__law_flow C_word_of C_step_row C__law_stays C__law_sums_right C__law_lets (λns _=>fin ns)
theorem walk {l:PySem.W.OpenLaw}{q:Program}{loose:List Str}{XP:(Str->Option Value)->Heap->Prop}{YP:World->Heap->Prop}{d:DefRec}{K:Params->PySem.W.Frag}(hn:l.most=some 63)(hdf:d.params.defaults=[])
  (hrec:(([]:List Str).all λx=>((PyProof.Rows.recsOf q).find? λe=>e.name == x).isSome)=true) (hnt:∀ w:World,PySem.W.noTabs (K w.params)=true)
  (hY:∀ (w:World) (h:Heap),YP w h->(K w.params).In h)
  (F:∀ (w:World) (mg:Str->Option Value) (fa:Addr) (h:Heap),(K w.params).In h->h.Ns mainGlobals mg->mg d.name=some (.ref fa) ->
   ∃ fd:FuncData,(∀ (s:Shared) (u:Value),BindsTo s fd ⟨[u],[]⟩ [("_law_script",u)])∧∀ base:Heap,(K w.params).In base->base.Ns mainGlobals mg->BMd base mg->(∀ t∈L3.tabsK ([]:List Str) (K w.params),PySem.W.CodeHd base t.2.1 t.2.2)->FnOk l.prog w (K w.params) mg base CX0 9 fa fd ["_law_script"] (spLaw (K w.params))) :
  PySem.W.WalkO q loose XP YP l.row.toRowW d [] (λf vs=>PySem.call f vs) :=
 L3.walk_ofT ([]:List Str) (n:=63) (k:=9) (x:="_law_script") (CX:=λ_=>CX0) (sp:=λw=>spLaw (K w.params)) hn (by decide) hdf ⟨rfl,by decide,by decide,rfl⟩ hrec hnt hY F (λ_ _ a ns hl hS hT=>⟨a,ns,rfl,hS,hl,hT,λ_=>rfl⟩) λ_ _ _ _ _ z=>z
end K62
open PySem PySem.W PyProof.Rows
set_option maxRecDepth 100000 in
set_option maxHeartbeats 0 in
theorem PySem.Challenge.cw_hatchwaits_k62_whole_steps_stay_holds : PySem.Challenge.rw_hatchwaits_k62_whole_steps_stay.Holds := by
 w_on;o_law;k_head;(case hw=>w_witness2)
 k_fill
 refine K62.walk (l:=PySem.Challenge.rw_hatchwaits_k62_whole_steps_stay) rfl rfl (by first | rfl | kernel_rfl) (by intro w;first | kernel_rfl | with_unfolding_all rfl) (λw h Y=>PySem.W.kIn_of Y) ?F
 case F =>
  intro w mg fa h KX G hmg
  refine' K62.all_mk KX G hmg ?ais_number ?lis_number ?cis_number ?kis_number ?ais_number_from ?lis_number_from ?cis_number_from ?kis_number_from ?ais_tuple_of ?lis_tuple_of ?cis_tuple_of ?kis_tuple_of ?acommon_divisor ?lcommon_divisor ?ccommon_divisor ?kcommon_divisor ?ais_fraction ?lis_fraction ?cis_fraction ?kis_fraction ?afraction ?lfraction ?cfraction ?kfraction ?aplus ?lplus ?cplus ?kplus ?aminus ?lminus ?cminus ?kminus ?atimes ?ltimes ?ctimes ?ktimes ?aover ?lover ?cover ?kover ?aless ?lless ?cless ?kless ?amean_of ?lmean_of ?cmean_of ?kmean_of ?atotal ?ltotal ?ctotal ?ktotal ?ashare_of ?lshare_of ?cshare_of ?kshare_of ?amean ?lmean ?cmean ?kmean ?asecond ?lsecond ?csecond ?ksecond ?agoing_above ?lgoing_above ?cgoing_above ?kgoing_above ?aword_of ?lword_of ?cword_of ?kword_of ?acheck_rests ?lcheck_rests ?ccheck_rests ?kcheck_rests ?alacking ?llacking ?clacking ?klacking ?amean_standing ?lmean_standing ?cmean_standing ?kmean_standing ?astep_row ?lstep_row ?cstep_row ?kstep_row ?acheck_shape ?lcheck_shape ?ccheck_shape ?kcheck_shape ?alets_steps ?llets_steps ?clets_steps ?klets_steps ?a_law_feed ?l_law_feed ?c_law_feed ?k_law_feed ?a_law_draw ?l_law_draw ?c_law_draw ?k_law_draw ?a_law_flow ?l_law_flow ?c_law_flow ?k_law_flow ?a_law_stays ?l_law_stays ?c_law_stays ?k_law_stays ?a_law_sums_right ?l_law_sums_right ?c_law_sums_right ?k_law_sums_right ?a_law_lets ?l_law_lets ?c_law_lets ?k_law_lets ?alaw ?llaw ?claw ?klaw ?zabs ?zbool ?zenumerate ?zint ?zisinstance ?zlen ?zlist ?zmax ?zmin ?zrange ?zrepr ?zsum ?ztuple ?ga_NOUGHT ?gl_NOUGHT ?gq_NOUGHT ?ga_ONE ?gl_ONE ?gq_ONE ?aE_WaitError ?aE_NoPaper ?obj_NoPaper ?tp_NoPaper ?in_NoPaper ?fn_NoPaper ?ca_NoPaper ?ty_NoPaper ?kp_NoPaper ?di_NoPaper ?sa_NoPaper ?li_NoPaper ?ci_NoPaper ?ga_NoPaper_ ?gn_NoPaper ?mb_NoPaper ?mo_NoPaper ?cc_NoPaper ?cg_NoPaper ?ct_NoPaper ?sb_NoPaper ?ko_NoPaper ?ne_NoPaper ?ve_NoPaper ?st_NoPaper ?na_NoPaper_word ?na_NoPaper_number ?xs_NoPaper ?hnd0
  (case ais_number=>k_is)
  (case lis_number=>k_is)
  (case cis_number=>k_is)
  (case kis_number=>k_is)
  (case ais_number_from=>k_is)
  (case lis_number_from=>k_is)
  (case cis_number_from=>k_is)
  (case kis_number_from=>k_is)
  (case ais_tuple_of=>k_is)
  (case lis_tuple_of=>k_is)
  (case cis_tuple_of=>k_is)
  (case kis_tuple_of=>k_is)
  (case acommon_divisor=>k_is)
  (case lcommon_divisor=>k_is)
  (case ccommon_divisor=>k_is)
  (case kcommon_divisor=>k_is)
  (case ais_fraction=>k_is)
  (case lis_fraction=>k_is)
  (case cis_fraction=>k_is)
  (case kis_fraction=>k_is)
  (case afraction=>k_is)
  (case lfraction=>k_is)
  (case cfraction=>k_is)
  (case kfraction=>k_is)
  (case aplus=>k_is)
  (case lplus=>k_is)
  (case cplus=>k_is)
  (case kplus=>k_is)
  (case aminus=>k_is)
  (case lminus=>k_is)
  (case cminus=>k_is)
  (case kminus=>k_is)
  (case atimes=>k_is)
  (case ltimes=>k_is)
  (case ctimes=>k_is)
  (case ktimes=>k_is)
  (case aover=>k_is)
  (case lover=>k_is)
  (case cover=>k_is)
  (case kover=>k_is)
  (case aless=>k_is)
  (case lless=>k_is)
  (case cless=>k_is)
  (case kless=>k_is)
  (case amean_of=>k_is)
  (case lmean_of=>k_is)
  (case cmean_of=>k_is)
  (case kmean_of=>k_is)
  (case atotal=>k_is)
  (case ltotal=>k_is)
  (case ctotal=>k_is)
  (case ktotal=>k_is)
  (case ashare_of=>k_is)
  (case lshare_of=>k_is)
  (case cshare_of=>k_is)
  (case kshare_of=>k_is)
  (case amean=>k_is)
  (case lmean=>k_is)
  (case cmean=>k_is)
  (case kmean=>k_is)
  (case asecond=>k_is)
  (case lsecond=>k_is)
  (case csecond=>k_is)
  (case ksecond=>k_is)
  (case agoing_above=>k_is)
  (case lgoing_above=>k_is)
  (case cgoing_above=>k_is)
  (case kgoing_above=>k_is)
  (case aword_of=>k_is)
  (case lword_of=>k_is)
  (case cword_of=>k_is)
  (case kword_of=>k_is)
  (case acheck_rests=>k_is)
  (case lcheck_rests=>k_is)
  (case ccheck_rests=>k_is)
  (case kcheck_rests=>k_is)
  (case alacking=>k_is)
  (case llacking=>k_is)
  (case clacking=>k_is)
  (case klacking=>k_is)
  (case amean_standing=>k_is)
  (case lmean_standing=>k_is)
  (case cmean_standing=>k_is)
  (case kmean_standing=>k_is)
  (case astep_row=>k_is)
  (case lstep_row=>k_is)
  (case cstep_row=>k_is)
  (case kstep_row=>k_is)
  (case acheck_shape=>k_is)
  (case lcheck_shape=>k_is)
  (case ccheck_shape=>k_is)
  (case kcheck_shape=>k_is)
  (case alets_steps=>k_is)
  (case llets_steps=>k_is)
  (case clets_steps=>k_is)
  (case klets_steps=>k_is)
  (case a_law_feed=>k_is)
  (case l_law_feed=>k_is)
  (case c_law_feed=>k_is)
  (case k_law_feed=>k_is)
  (case a_law_draw=>k_is)
  (case l_law_draw=>k_is)
  (case c_law_draw=>k_is)
  (case k_law_draw=>k_is)
  (case a_law_flow=>k_is)
  (case l_law_flow=>k_is)
  (case c_law_flow=>k_is)
  (case k_law_flow=>k_is)
  (case a_law_stays=>k_is)
  (case l_law_stays=>k_is)
  (case c_law_stays=>k_is)
  (case k_law_stays=>k_is)
  (case a_law_sums_right=>k_is)
  (case l_law_sums_right=>k_is)
  (case c_law_sums_right=>k_is)
  (case k_law_sums_right=>k_is)
  (case a_law_lets=>k_is)
  (case l_law_lets=>k_is)
  (case c_law_lets=>k_is)
  (case k_law_lets=>k_is)
  (case alaw=>k_is)
  (case llaw=>k_is)
  (case claw=>k_is)
  (case klaw=>k_is)
  (case zabs=>k_is)
  (case zbool=>k_is)
  (case zenumerate=>k_is)
  (case zint=>k_is)
  (case zisinstance=>k_is)
  (case zlen=>k_is)
  (case zlist=>k_is)
  (case zmax=>k_is)
  (case zmin=>k_is)
  (case zrange=>k_is)
  (case zrepr=>k_is)
  (case zsum=>k_is)
  (case ztuple=>k_is)
  (case ga_NOUGHT=>k_is)
  (case gl_NOUGHT=>k_is)
  (case gq_NOUGHT=>first | rfl | k_is | with_unfolding_all rfl)
  (case ga_ONE=>k_is)
  (case gl_ONE=>k_is)
  (case gq_ONE=>first | rfl | k_is | with_unfolding_all rfl)
  (case aE_WaitError=>k_is)
  (case aE_NoPaper=>k_is)
  (case obj_NoPaper=>k_is)
  (case tp_NoPaper=>k_exc)
  (case in_NoPaper=>k_is)
  (case fn_NoPaper=>k_is)
  (case ca_NoPaper=>k_is)
  (case ty_NoPaper=>k_is)
  (case kp_NoPaper=>k_is)
  (case di_NoPaper=>k_is)
  (case sa_NoPaper=>k_is)
  (case li_NoPaper=>k_is)
  (case ci_NoPaper=>k_is)
  (case ga_NoPaper_=>k_is)
  (case gn_NoPaper=>k_is)
  (case mb_NoPaper=>k_is)
  (case mo_NoPaper=>k_is)
  (case cc_NoPaper=>k_is)
  (case cg_NoPaper=>k_is)
  (case ct_NoPaper=>k_is)
  (case sb_NoPaper=>k_is)
  (case ko_NoPaper=>kit_is)
  (case ne_NoPaper=>first | rfl | decide)
  (case ve_NoPaper=>kit_is)
  (case st_NoPaper=>kit_is)
  (case na_NoPaper_word=>k_is)
  (case na_NoPaper_number=>k_is)
  (case xs_NoPaper=>first | kernel_rfl | with_unfolding_all rfl)
  (case hnd0=>first | kernel_rfl | with_unfolding_all rfl)
