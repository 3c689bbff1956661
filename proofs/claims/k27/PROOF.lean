import PyProof.Rows.All
import Wide.All
import OpenK.AllK
import Wide.FinOn
import Lean
import PyProof.EqAt
import PyProof.EqKinds
import PyProof.TupleCall
import PyProof.Rows.EqDataRows
import PyProof.Rows.InDataRows
import PyProof.StrLawsRepr
import PyProof.AutoListH
import PySem.Challenge.RW_hatchwaits_k27_whole_a_comer_more
def PySem.W.Fast.tw1977247192836396724:=0
def PySem.W.Fast.tw12762435020618351294:=0
def PySem.W.Fast.tw4509522291200512998:=0
def PySem.W.Fast.tw12560529035005496410:=0
def PySem.W.Fast.tw13390967644799472986:=0
def PySem.W.Fast.tw13456808345628546820:=0
def PySem.W.Fast.tw5469702897937252097:=0
def PySem.W.Fast.tw460266549535978809:=0
def PySem.W.Fast.tw6172439202744930113:=0
def PySem.W.Fast.tw14300643732667170452:=0
def PySem.W.Fast.tw9944575740261490069:=0
def PySem.W.Fast.tw10985859509724840357:=0
def PySem.W.Fast.tw3540903882961553537:=0
def PySem.W.Fast.tw10522743645702663920:=0
def PySem.W.Fast.tw9261063621470261244:=0
def PySem.W.Fast.tw231454700152038221:=0
def PySem.W.Fast.tw3703346173837195759:=0
def PySem.W.Fast.tw8884549734473368852:=0
def PySem.W.Fast.tw7002019808560885426:=0
def PySem.W.Fast.tw16746022785070298038:=0
def PySem.W.Fast.tw9735706030181091404:=0
def PySem.W.Fast.tw11626354020414083260:=0
def PySem.W.Fast.tw14104132566783169045:=0
def PySem.W.Fast.tw12358777257229890414:=0
def PySem.W.Fast.tw8239238709374907096:=0
def PySem.W.Fast.tw18402824653878035987:=0
def PySem.W.Fast.tw5981976775414015282:=0
def PySem.W.Fast.tw13702338093199917554:=0
def PySem.W.Fast.tw7896584456370673001:=0
def PySem.W.Fast.tw11900636450852857560:=0
def PySem.W.Fast.tw9064535958355595693:=0
def PySem.W.Fast.tw137283328754171951:=0
def PySem.W.Fast.tw14697447524618159173:=0
def PySem.W.Fast.tw1087408769353658861:=0
def PySem.W.Fast.tw14151249322162848134:=0
def PySem.W.Fast.tw15832517750405014245:=0
def PySem.W.Fast.tw9045647263385910599:=0
def PySem.W.Fast.tw7309032490676470868:=0
def PySem.W.Fast.tw15243488204332241442:=0
def PySem.W.Fast.tw7806144920624454576:=0
def PySem.W.Fast.tw419855810262503210:=0
def PySem.W.Fast.tw16755025440705039914:=0
def PySem.W.Fast.tw9310133489543263033:=0
def PySem.W.Fast.tw12694868148224877267:=0
def PySem.W.Fast.tw4067310948495152968:=0
def PySem.W.Fast.tw3426175923316853275:=0
def PySem.W.Fast.tw5339320599902042741:=0
def PySem.W.Fast.tw1045767036816698585:=0
def PySem.W.Fast.tw2980718739841404827:=0
def PySem.W.Fast.tw16508036295930854091:=0
def PySem.W.Fast.tw10852540298736632402:=0
def PySem.W.Fast.tw16634777328662642418:=0
def PySem.W.Fast.tw17195100209171047155:=0
def PySem.W.Fast.tw4038766787918031453:=0
def PySem.W.Fast.tw9148187018105357766:=0
def PySem.W.Fast.tw2578159799078120958:=0
def PySem.W.Fast.tw11165104053315654935:=0
def PySem.W.Fast.tw4930420827323345460:=0
def PySem.W.Fast.tw11914696277192812599:=0
def PySem.W.Fast.tw9488195260381916591:=0
def PySem.W.Fast.tw5786388199622546631:=0
def PySem.W.Fast.tw12665164743137400081:=0
def PySem.W.Fast.tw3293838890486379516:=0
def PySem.W.Fast.tw14202552264878928306:=0
def PySem.W.Fast.tw11742324112770240034:=0
def PySem.W.Fast.tw17662863427589740357:=0
def PySem.W.Fast.tw4120672824176242197:=0
def PySem.W.Fast.tw13195119417856155532:=0
def PySem.W.Fast.tw14856669868514995940:=0
def PySem.W.Fast.tw7318779588706113809:=0
def PySem.W.Fast.tw1985571283793003385:=0
def PySem.W.Fast.tw544550688834503522:=0
def PySem.W.Fast.tw7964414701747920962:=0
def PySem.W.Fast.tw12365779635686613203:=0
def PySem.W.Fast.tw4532333655985746636:=0
def PySem.W.Fast.tw11651295491599837278:=0
def PySem.W.Fast.tw13422539027952457071:=0
def PySem.W.Fast.tw16166873004091649653:=0
def PySem.W.Fast.tw14154430769091845694:=0
def PySem.W.Fast.tw7299001082786651487:=0
def PySem.W.Fast.tw12417539533452880747:=0
def PySem.W.Fast.tw3556410011771766060:=0
def PySem.W.Fast.tw6262147659778878393:=0
def PySem.W.Fast.tw16178332315362992147:=0
def PySem.W.Fast.tw12595413062685855983:=0
def PySem.W.Fast.tw5723262476373428429:=0
def PySem.W.Fast.tw1850959560740000535:=0
def PySem.W.Fast.tw7766640475608672032:=0
def PySem.W.Fast.tw18206426522321940368:=0
def PySem.W.Fast.tw8459195134924296082:=0
def PySem.W.Fast.tw8644013745174019467:=0
def PySem.W.Fast.tw2376946882970974211:=0
def PySem.W.Fast.tw10819788786846898138:=0
def PySem.W.Fast.tw5647900703782381304:=0
def PySem.W.Fast.tw12916521866907961233:=0
def PySem.W.Fast.tw6687545788866843799:=0
def PySem.W.Fast.tw15736319414015942768:=0
def PySem.W.Fast.tw2647662160287467806:=0
def PySem.W.Fast.tw9192636375323662232:=0
def PySem.W.Fast.tw12486306140744850711:=0
def PySem.W.Fast.tw10312906418501991850:=0
def PySem.W.Fast.tw3000138862422689699:=0
def PySem.W.Fast.tw18232289360629288096:=0
def PySem.W.Fast.tw6613485922326026791:=0
def PySem.W.Fast.tw11042763285628437037:=0
def PySem.W.Fast.tw80981656901338407:=0
def PySem.W.Fast.tw18103840181173823778:=0
def PySem.W.Fast.tw6317847194004242454:=0
def PySem.W.Fast.tw2990771507164746476:=0
def PySem.W.Fast.tw5159446823922444512:=0
def PySem.W.Fast.tw12036250951818537470:=0
def PySem.W.Fast.tw10342902884978179012:=0
def PySem.W.Fast.tw5354217961021262220:=0
def PySem.W.Fast.tw15471938046921795211:=0
def PySem.W.Fast.tw14660583634035607300:=0
def PySem.W.Fast.tw3772404936392741308:=0
def PySem.W.Fast.tw12013039690372958148:=0
def PySem.W.Fast.tw3662764387632522982:=0
def PySem.W.Fast.tw2689846792541159070:=0
def PySem.W.Fast.tw1332389572061806915:=0
def PySem.W.Fast.tw12063094086872516419:=0
def PySem.W.Fast.tw10605587915801619084:=0
def PySem.W.Fast.tw10100677708776115841:=0
def PySem.W.Fast.tw17992299751555233805:=0
def PySem.W.Fast.tw7132280076434101858:=0
def PySem.W.Fast.tw1322673179777462583:=0
def PySem.W.Fast.tw12044497105147382273:=0
def PySem.W.Fast.tw17250375887967880975:=0
def PySem.W.Fast.tw100593285961726046:=0
def PySem.W.Fast.tw11661024329475434374:=0
def PySem.W.Fast.tw17166178654678910476:=0
def PySem.W.Fast.tw14792292516647017568:=0
def PySem.W.Fast.tw6966257018143594642:=0
def PySem.W.Fast.tw1886094976234928181:=0
def PySem.W.Fast.tw10451880088879813066:=0
def PySem.W.Fast.tw2908262745825934429:=0
def PySem.W.Fast.tw15100502561117962034:=0
def PySem.W.Fast.tw6958938191448995643:=0
def PySem.W.Fast.tw3158958825563909288:=0
def PySem.W.Fast.tw614053635020251863:=0
def PySem.W.Fast.tw1966160734828050104:=0
def PySem.W.Fast.tw8407764025786418793:=0
def PySem.W.Fast.tw15072998760631330455:=0
def PySem.W.Fast.tw1968081446482775343:=0
def PySem.W.Fast.tw3998439943315979593:=0
def PySem.W.Fast.tw8377412995249349367:=0
def PySem.W.Fast.tw3403012380736896861:=0
def PySem.W.Fast.tw9080274710226322708:=0
def PySem.W.Fast.tw3137536021926684617:=0
def PySem.W.Fast.tw4662369396570879852:=0
def PySem.W.Fast.tw128048047398874015:=0
def PySem.W.Fast.tw15728312258039454350:=0
def PySem.W.Fast.tw168654122095679695:=0
def PySem.W.Fast.tw13066542175693429660:=0
def PySem.W.Fast.tw12382351712921899958:=0
def PySem.W.Fast.tw649251596157613303:=0
def PySem.W.Fast.tw617516470960732038:=0
def PySem.W.Fast.tw644065423452045086:=0
def PySem.W.Fast.tw1907685640165637954:=0
def PySem.W.Fast.tw1347319048544730597:=0
def PySem.W.Fast.tw7372553254205511864:=0
def PySem.W.Fast.tw2084592853165015577:=0
def PySem.W.Fast.tw2263173702342885192:=0
def PySem.W.Fast.tw9212241615265089443:=0
def PySem.W.Fast.tw7767641956806694136:=0
def PySem.W.Fast.tw14419894994050956766:=0
def PySem.W.Fast.tw14892813521557670002:=0
def PySem.W.Fast.tw431232160268347799:=0
def PySem.W.Fast.tw8840803543999812921:=0
def PySem.W.Fast.tw13560855400095291794:=0
def PySem.W.Fast.tw17186183052231650796:=0
def PySem.W.Fast.tw9060197271677903025:=0
def PySem.W.Fast.tw1085557446592025979:=0
def PySem.W.Fast.tw10639946307072825313:=0
def PySem.W.Fast.tw2825816094059251307:=0
def PySem.W.Fast.tw4113652939280251483:=0
def PySem.W.Fast.tw7249016030379304879:=0
def PySem.W.Fast.tw1155258161393058595:=0
def PySem.W.Fast.tw11616089586802227668:=0
def PySem.W.Fast.tw14712533942705007181:=0
def PySem.W.Fast.tw1395192494036251852:=0
def PySem.W.Fast.tw11698452947925860373:=0
def PySem.W.Fast.tw9262856341998118380:=0
def PySem.W.Fast.tw1408482537532255672:=0
def PySem.W.Fast.tw16533957904936599285:=0
def PySem.W.Fast.tw11817820600668152684:=0
def PySem.W.Fast.tw16439894699668342833:=0
def PySem.W.Fast.tw5341934231661639689:=0
def PySem.W.Fast.tw2316859776859470149:=0
def PySem.W.Fast.tw15578659066447486922:=0
def PySem.W.Fast.tw12180315597092531110:=0
def PySem.W.Fast.tw15765988880380076826:=0
def PySem.W.Fast.tw16354868053048356810:=0
def PySem.W.Fast.tw5540344227558545487:=0
def PySem.W.Fast.tw6601534770662567304:=0
def PySem.W.Fast.tw14620045675904484996:=0
def PySem.W.Fast.tw5350413562656098309:=0
def PySem.W.Fast.tw1355221567357675683:=0
def PySem.W.Fast.tw8832913872523572249:=0
def PySem.W.Fast.tw17296001154155429529:=0
def PySem.W.Fast.tw4403126903867765969:=0
def PySem.W.Fast.tw13908883573272349618:=0
def PySem.W.Fast.tw9205944993113514680:=0
set_option Elab.async false
set_option linter.all false
set_option maxRecDepth 100000
namespace L2
open PySem PySem.Spec PyProof.Rows
noncomputable abbrev Key:=Sum Int Str
noncomputable def b0S:Key->Value->Bool
 | .inl k,v=>Value.isInt k v
 | .inr x,v=>Value.isStrOf x v
noncomputable def b3Y (w:World):Key->Int
 | .inl k=>hashInt k
 | .inr x=>hashStr w x
theorem x4:∀{k:Key} {v:Value},b0S k v=true->(∃i t,k=Sum.inl i∧v=Value.int i t)∨(∃x t,k=Sum.inr x∧v=Value.str x t)
 | .inl i,v,h=>by
  obtain⟨t,e⟩:=Value.isInt_shape (k:=i) (v:=v) h
  exact .inl ⟨i,t,rfl,e⟩
 | .inr x,v,h=>by
  obtain⟨t,e⟩:=Value.isStrOf_shape (x:=x) (v:=v) h
  exact .inr ⟨x,t,rfl,e⟩
theorem b1V (a b:Int):decide ((Sum.inl a:Key)=Sum.inl b)=(a == b):=by
 by_cases e:a=b
 ·subst e;simp
 ·have h:¬(Sum.inl a:Key)=Sum.inl b:=λq=>e (Sum.inl.inj q)
  rw[decide_eq_false h]
  exact(beq_eq_false_iff_ne.mpr e).symm
theorem b2r (a b:Str):decide ((Sum.inr a:Key)=Sum.inr b)=decide (a=b):=by
 by_cases e:a=b
 ·subst e;simp
 ·have h:¬(Sum.inr a:Key)=Sum.inr b:=λq=>e (Sum.inr.inj q)
  rw[decide_eq_false h,decide_eq_false e]
theorem b1h (a:Int)(b:Str):decide ((Sum.inl a:Key)=Sum.inr b)=false:=decide_eq_false (λq=>nomatch q)
theorem b1i (a:Str)(b:Int):decide ((Sum.inr a:Key)=Sum.inl b)=false:=decide_eq_false (λq=>nomatch q)
noncomputable def a3f (prog:Program)(w:World):PySem.KeyKind prog w Key where
 is:=b0S
 hash:=b3Y w
 inj:=λv a b ha hb=>by
  rcases x4 ha with ⟨i,t,rfl,rfl⟩ | ⟨x,t,rfl,rfl⟩
  ·rcases x4 hb with ⟨j,u,rfl,e⟩ | ⟨y,u,rfl,e⟩
   ·injection e with e1 _;rw[e1]
   ·exact nomatch e
  ·rcases x4 hb with ⟨j,u,rfl,e⟩ | ⟨y,u,rfl,e⟩
   ·exact nomatch e
   ·injection e with e1 _;rw[e1]
 byValue:=λk v h=>by
  rcases x4 h with ⟨i,t,rfl,rfl⟩ | ⟨x,t,rfl,rfl⟩ <;> rfl
 pyHash:=λhv h=>by
  rcases x4 hv with ⟨i,t,rfl,rfl⟩ | ⟨x,t,rfl,rfl⟩
  ·exact wpAny_pyHash_int h
  ·exact wpAny_pyHash_str h
 eqBool:=λhu hv h=>by
  rcases x4 hu with ⟨i,t,rfl,rfl⟩ | ⟨x,t,rfl,rfl⟩
  ·rcases x4 hv with ⟨j,u,rfl,rfl⟩ | ⟨y,u,rfl,rfl⟩
   ·rw[b1V]at h;exact wpAny_eqBool_int h
   ·rw[b1h]at h;exact SeqAt.EqAt.int_str i t y u _ _ _ _ h
  ·rcases x4 hv with ⟨j,u,rfl,rfl⟩ | ⟨y,u,rfl,rfl⟩
   ·rw[b1i]at h;exact SeqAt.EqAt.str_int x t j u _ _ _ _ h
   ·rw[b2r]at h;exact wpAny_eqBool_str h
 «strs»:=λk x t v h=>by
  rcases x4 h with ⟨i,u,rfl,e⟩ | ⟨y,u,rfl,e⟩
  ·exact nomatch e
  ·injection e with e1 _
   subst e1
   cases v <;> rfl
end L2
namespace L2
open PySem PySem.Spec PyProof.Rows
inductive V where
 | non | bl (b:Bool) | int (i:Int) | str (x:Str) | byt (b:Array UInt8) | flt (b:UInt64) | ref (a:Addr) | ty (n:String)
 deriving DecidableEq
noncomputable def v4:V->Value->Prop
 | .non,u=>u=Value.none
 | .bl b,u=>u=Value.bool b
 | .int i,u=>∃t,u=Value.int i t
 | .str x,u=>∃t,u=Value.str x t
 | .byt b,u=>∃t,u=Value.bytes b t
 | .flt b,u=>∃t,u=Value.float b t
 | .ref a,u=>u=Value.ref a
 | .ty n,u=>u=Value.type n
noncomputable abbrev k9:List V->List Value->Prop:=Paired v4
theorem k9.length {xs:List V}{us:List Value}(r:k9 xs us):xs.length=us.length:=Paired.length r
theorem k9.get:∀{xs:List V} {us:List Value} {i:Nat} {x:V},k9 xs us->xs[i]? = some x->∃u,us[i]? = some u∧v4 x u
 | _,_,_,_,.nil,e=>by simp at e
 | _,_,0,_,.cons r _,e=>by simp at e;subst e;exact⟨_,rfl,r⟩
 | _,_,i+1,x,.cons _ t,e=>by
  obtain⟨u,h1,h2⟩:=k9.get (i:=i) (x:=x) t (by simpa using e)
  exact⟨u,by simpa using h1,h2⟩
theorem k9.set {x:V}{u:Value}(r:v4 x u):∀{xs:List V} {us:List Value} (i:Nat),k9 xs us->k9 (xs.set i x) (us.set i u)
 | _,_,_,.nil=>.nil
 | _,_,0,.cons _ t=>.cons r t
 | _,_,i+1,.cons q t=>.cons q (k9.set r i t)
theorem k9.append:∀{xs ys:List V} {us ws:List Value},k9 xs us->k9 ys ws->k9 (xs++ys) (us++ws)
 | _,_,_,_,.nil,s=>s
 | _,_,_,_,.cons r t,s=>.cons r (k9.append t s)
theorem k9.take:∀{xs:List V} {us:List Value} (n:Nat),k9 xs us->k9 (xs.take n) (us.take n)
 | _,_,0,_=>.nil
 | _,_,_+1,.nil=>.nil
 | _,_,n+1,.cons r t=>.cons r (k9.take n t)
theorem k9.drop:∀{xs:List V} {us:List Value} (n:Nat),k9 xs us->k9 (xs.drop n) (us.drop n)
 | _,_,0,r=>r
 | _,_,_+1,.nil=>.nil
 | _,_,n+1,.cons _ t=>k9.drop n t
theorem k9.none_of:∀{xs:List V} {us:List Value} {i:Nat},k9 xs us->xs[i]? = none->us[i]? = none:=λ{xs us i} r e=>by
 have h1:=r.length
 have h2:xs.length≤i:=List.getElem?_eq_none_iff.mp e
 exact List.getElem?_eq_none_iff.mpr (by omega)
noncomputable def b31:Option V->Option Value->Prop
 | some v,some u=>v4 v u
 | none,none=>True
 | _,_=>False
noncomputable def KV {κ:Type}:List (κ×V)->List (κ×Value)->Prop:=Paired λ(p:κ×V) (q:κ×Value)=>p.1=q.1∧v4 p.2 q.2
noncomputable def kV:Key->V
 | .inl i=>.int i
 | .inr x=>.str x
inductive HO where
 /-- a list -/
 | lst (xs:List V)
 /-- a tuple (never changes) -/
 | tup (xs:List V)
 /-- a dict whose keys are ints and texts;one whose keys are tuples of ints and texts (the empty one is both) -/
 | dK (kvs:List (Key×V)) | dT (kvs:List (List Key×V))
 /-- a set of ints: its members,its size -/
 | set (S:Int->Bool) (n:Nat)
 /-- an instance of the class at C,its dict at dx,its attributes -/
 | ins (C dx:Addr) (fs:List (Str×V))
 /-- the dict of the instance at x -/
 | own (x:Addr)
 /-- the dict of an exception -/
 | xd (fs:List (Str×V))
 /-- a bound method,f of x -/
 | met (f x:Addr)
 /-- a range object lo,lo+1,.. below hi -/
 | rng (lo hi:Int)
 /-- a thing that is known to the object (the script;a dict while a loop walks it): read,never written while it is so -/
 | frz (o:Obj) (u:HO)
 /-- a code object's table -/
 | tbl (ps:Array Value)
 /-- any other thing,by what is true of its one object (a def of one's own: SetO a S n:=HO.ext λh=>..) -/
 | ext (φ:Heap->Prop)
noncomputable abbrev Hp:=Addr->Option HO
noncomputable def upd (H:Hp)(a:Addr)(o:HO):Hp:=λb=>if b=a then some o else H b
theorem g8 {H:Hp}{a:Addr}{o:HO}:upd H a o a=some o:=by unfold upd;rw[if_pos rfl]
theorem f7 {H:Hp}{a b:Addr}{o:HO}(h:b≠a):upd H a o b=H b:=by unfold upd;rw[if_neg h]
theorem l5 {H:Hp}{a b:Addr}{o:HO}(h:H a=some o)(h':H b=none):a≠b:=by
 intro e;subst e;rw[h]at h';cases h'
section
variable (P:Program)(w:World)
noncomputable def L9 (H:Hp)(h:Heap)(a:Addr):HO->Prop
 | .lst xs=>xs.length≤sizeLine∧∃(its:List Value) (n:Nat),k9 xs its∧h.get? a=some { cls:=.type "list",data:=.seq its.toArray n }
 | .tup xs=>xs.length≤sizeLine∧∃its:List Value,k9 xs its∧IsTup h a its.toArray
 | .dK kvs=>kvs.length≤sizeLine∧(a == sysModules)=false∧∃vs,KV kvs vs∧h.DictOf (a3f P w) a vs
 | .dT kvs=>kvs.length≤sizeLine∧(a == sysModules)=false∧∃xs:List (List Key×Addr×Value),
   Paired (λ(p:List Key×V) (q:List Key×Addr×Value)=>p.1=q.1∧H q.2.1=some (.tup (p.1.map kV))∧v4 p.2 q.2.2) kvs xs ∧
   ∃o es ep,h.get? a=some o∧o.ExactDict∧o.data = .dict es ep∧es.toList=xs.map (entryOfKey (tupleKind (a3f P w)))∧(xs.map (·.1)).Nodup
 | .set S n=>h.SetOf (intKind P w) a S n
 | .ins C dx fs=>H dx=some (.own a)∧fs.length≤1000∧dx≠a∧h.get? a=some (PySem.W.instObj C dx) ∧
   ∃mA,h.Ns1 dx mA∧(∀f,b31 (fs.lookup f) (mA f))∧PySem.Within mA (fs.map (·.1))
 | .own _=>∃o,h.get? a=some o
 | .xd fs=>∃mA,h.Ns1 a mA∧∀f,b31 (fs.lookup f) (mA f)
 | .rng lo hi=>∃t u v,h.get? a=some { cls:=.type "range",data:=.fields #[.int lo t,.int hi u,.int 1 v] }
 | .frz o u=>h.get? a=some o∧L9 H h a u
 | .tbl ps=>h.get? a=some { cls:=.none,data:=.fields ps }
 | .met f x=>h.get? a=some (PySem.W.methodObj (.ref f) (.ref x))
 | .ext φ=>φ h∧(∃o,h.get? a=some o)∧∀h1 h2:Heap,φ h1->(∀o,h1.get? a=some o->h2.get? a=some o)->φ h2
noncomputable def HOk (H:Hp)(h:Heap):Prop:=∀a o,H a=some o->L9 P w H h a o
end
section
variable {P:Program}{w:World}{H H':Hp}{h h':Heap}{a:Addr}{o:HO}
theorem L9.lt (x:L9 P w H h a o):a<h.objs.size:=by
 cases o with
 | lst xs=>obtain⟨_,_,_,_,e⟩:=x;exact Heap.lt_size e
 | tup xs=>obtain⟨_,_,_,p⟩:=x;exact p.lt
 | dK kvs=>obtain⟨_,_,_,_,o,_,_,e,_⟩:=x;exact Heap.lt_size e
 | dT kvs=>obtain⟨_,_,_,_,o,_,_,e,_⟩:=x;exact Heap.lt_size e
 | set S n=>obtain⟨o,_,_,_,e,_⟩:=x;exact Heap.lt_size e
 | ins C dx fs=>obtain⟨_,_,_,e,_⟩:=x;exact Heap.lt_size e
 | own y=>obtain⟨_,e⟩:=x;exact Heap.lt_size e
 | xd fs=>obtain⟨_,⟨_,_,_,e,_⟩,_⟩:=x;exact Heap.lt_size e
 | rng lo hi=>obtain⟨_,_,_,e⟩:=x;exact Heap.lt_size e
 | frz ob u=>obtain⟨e,_⟩:=x;exact Heap.lt_size e
 | tbl ps=>exact Heap.lt_size (show h.get? a=some _ from x)
 | met f y=>exact Heap.lt_size (show h.get? a=some _ from x)
 | ext φ=>obtain⟨_,⟨_,e⟩,_⟩:=x;exact Heap.lt_size e
theorem Paired.mapP {α β:Type}{F G:α->β->Prop}:∀{l₁:List α} {l₂:List β},Paired F l₁ l₂->(∀a b,F a b->G a b)->Paired G l₁ l₂
 | _,_,.nil,_=>.nil
 | _,_,.cons r t,f=>.cons (f _ _ r) (Paired.mapP t f)
theorem L9.stay (x:L9 P w H h a o)(k:∀b u,(b=a∨H b=some (.own a))->h.get? b=some u->h'.get? b=some u)
  (ho:∀b,H b=some (.own a)->H' b=some (.own a)) (ht:∀b xs,H b=some (.tup xs)->H' b=some (.tup xs)):L9 P w H' h' a o:=by
 induction o with
 | lst xs=>obtain⟨z,its,n,r,e⟩:=x;exact⟨z,its,n,r,k _ _ (.inl rfl) e⟩
 | tup xs=>obtain⟨z,its,r,ob,e,c⟩:=x;exact⟨z,its,r,ob,k _ _ (.inl rfl) e,c⟩
 | dK kvs=>obtain⟨z,y,vs,r,ob,es,ep,e,c⟩:=x;exact⟨z,y,vs,r,ob,es,ep,k _ _ (.inl rfl) e,c⟩
 | dT kvs =>
  obtain⟨z,y,xs,r,ob,es,ep,e,c⟩:=x
  exact⟨z,y,xs,Paired.mapP r λp q z=>⟨z.1,ht _ _ z.2.1,z.2.2⟩,ob,es,ep,k _ _ (.inl rfl) e,c⟩
 | set S n=>obtain⟨ob,es,ep,t,e,c⟩:=x;exact⟨ob,es,ep,t,k _ _ (.inl rfl) e,c⟩
 | ins C dx fs =>
  obtain⟨d,z,ne,e,mA,⟨od,es,ep,e2,c⟩,r⟩:=x
  exact⟨ho _ d,z,ne,k _ _ (.inl rfl) e,mA,⟨od,es,ep,k _ _ (.inr d) e2,c⟩,r⟩
 | own y=>obtain⟨ob,e⟩:=x;exact⟨ob,k _ _ (.inl rfl) e⟩
 | xd fs=>obtain⟨mA,⟨od,es,ep,e,c⟩,r⟩:=x;exact⟨mA,⟨od,es,ep,k _ _ (.inl rfl) e,c⟩,r⟩
 | rng lo hi=>obtain⟨t,u,v,e⟩:=x;exact⟨t,u,v,k _ _ (.inl rfl) e⟩
 | frz ob u ih=>obtain⟨e,q⟩:=x;exact⟨k _ _ (.inl rfl) e,ih q⟩
 | tbl ps =>
  have e:h.get? a=some { cls:=.none,data:=.fields ps }:=x
  show h'.get? a=some { cls:=.none,data:=.fields ps }
  exact k a _ (.inl rfl) e
 | met f y =>
  have e:h.get? a=some (PySem.W.methodObj (.ref f) (.ref y)):=x
  show h'.get? a=some (PySem.W.methodObj (.ref f) (.ref y))
  exact k a _ (.inl rfl) e
 | ext φ=>obtain⟨p,⟨o,e⟩,st⟩:=x;exact⟨st _ _ p λo q=>k _ _ (.inl rfl) q,⟨o,k _ _ (.inl rfl) e⟩,st⟩
theorem HOk.lt (x:HOk P w H h)(e:H a=some o):a<h.objs.size:=(x a o e).lt
theorem HOk.fresh (x:HOk P w H h)(e:h.objs.size≤a):H a=none:=by
 cases q:H a with
 | none=>rfl
 | some u=>exact absurd (Nat.lt_of_lt_of_le (x.lt q) e) (Nat.lt_irrefl _)
theorem HOk.kept (x:HOk P w H h)(k:∀b u,h.get? b=some u->h'.get? b=some u):HOk P w H h':=λa o e =>
 (x a o e).stay (λb u _ q=>k b u q) (λ_ q=>q) λ_ _ q=>q
theorem HOk.laid (x:HOk P w H h)(k:∀b u,h.get? b=some u->h'.get? b=some u)(hp:h.objs.size≤a)(new:L9 P w (upd H a o) h' a o):HOk P w (upd H a o) h':=λb u e=>by
 have hn:=x.fresh hp
 by_cases hb:b=a
 ·subst hb;rw[g8]at e;cases e;exact new
 ·rw[f7 hb]at e
  exact(x b u e).stay (λc v _ q=>k c v q) (λc q=>by rw[f7 (l5 q hn)];exact q) λc xs q=>by rw[f7 (l5 q hn)];exact q
end
noncomputable def Rd (H:Hp)(a:Addr)(u:HO):Prop:=H a=some u∨∃o,H a=some (.frz o u)
theorem Rd.ok {P:Program}{w:World}{H:Hp}{h:Heap}{a:Addr}{u:HO}(r:Rd H a u)(x:HOk P w H h):L9 P w H h a u:=by
 rcases r with r | ⟨o,r⟩
 ·exact x a u r
 ·obtain⟨_,q⟩:=x a _ r
  exact q
noncomputable def Mut:Option HO->Prop
 | some (.lst _)=>True
 | some (.dK _)=>True
 | some (.dT _)=>True
 | some (.set _ _)=>True
 | some (.ins _ _ _)=>True
 | some (.ext _)=>True
 | _=>False
section
variable {P:Program}{w:World}{H:Hp}{h h':Heap}{x e:Addr}{o':HO}
theorem HOk.write (ok:HOk P w H h)(mu:Mut (H x))(he:e=x∨H e=some (.own x))(k:∀b u,b≠e->h.get? b=some u->h'.get? b=some u)(heo:∃u,h'.get? e=some u)
  (new:L9 P w (upd H x o') h' x o'):HOk P w (upd H x o') h':=λb u q=>by
 have nown:∀c y,H c=some (.own y)->c≠x:=λc y r z=>by subst z;rw[r]at mu;exact mu
 have ntup:∀c xs,H c=some (.tup xs)->c≠x:=λc xs r z=>by subst z;rw[r]at mu;exact mu
 by_cases hb:b=x
 ·subst hb;rw[g8]at q;cases q;exact new
 ·rw[f7 hb]at q
  by_cases hbe:b=e
  ·have q':H b=some (.own x):=by
    rcases he with z | z
    ·exact absurd (hbe.trans z) hb
    ·rw[hbe];exact z
   rw[q]at q';cases q'
   obtain⟨v,hv⟩:=heo
   exact⟨v,by rw[hbe];exact hv⟩
  ·refine(ok b u q).stay (λc v hc r=>k c v ?_ r) (λc r=>by rw[f7 (nown c b r)];exact r) λc xs r=>by rw[f7 (ntup c xs r)];exact r
   rcases hc with rfl | hc
   ·exact hbe
   ·rintro rfl
    rcases he with z | z
    ·exact nown c b hc z
    ·rw[hc]at z;cases z;exact hb rfl
end
structure Un (fs ex:List Addr) (H H':Hp) (h h':Heap):Prop where
 keep:∀b o,h.get? b=some o->H b=none->b ∉ fs->b ∉ ex->h'.get? b=some o
 slot:∀b o,h.get? b=some o->H b=none->b∈fs->b ∉ ex->∃sl,h'.get? b=some { o with slots:=sl }
 free:∀b o,h.get? b=some o->H b=none->b ∉ ex->H' b=none
 there:∀b o,h.get? b=some o->b ∉ ex->∃o',h'.get? b=some o'
 tups:∀b xs,H b=some (.tup xs)->H' b=some (.tup xs)
 frzs:∀b o u,H b=some (.frz o u)->H' b=some (.frz o u)
 tbls:∀b ps,H b=some (.tbl ps)->∃more,H' b=some (.tbl (ps++more))
section
variable {fs fs' ex ex':List Addr}{H H1 H2:Hp}{h h1 h2 h':Heap}{a x e:Addr}{o:HO}
theorem Un.any (u:Un fs ex H H1 h h1){b:Addr}{ob:Obj}(q:h.get? b=some ob)(n:H b=none)(hx:b ∉ ex):∃sl,h1.get? b=some { ob with slots:=sl }:=by
 by_cases hb:b∈fs
 ·exact u.slot b ob q n hb hx
 ·exact⟨ob.slots,u.keep b ob q n hb hx⟩
theorem Un.kept (k:∀b u,h.get? b=some u->h'.get? b=some u):Un fs ex H H h h' :=
 ⟨λb ob q _ _ _=>k b ob q,λb ob q _ _ _=>⟨ob.slots,k b ob q⟩,λ_ _ _ n _=>n,λb ob q _=>⟨ob,k b ob q⟩,λ_ _ q=>q,λ_ _ _ q=>q,λ_ ps q=>⟨#[],by rw[q];simp⟩⟩
theorem Un.refl:Un fs ex H H h h:=Un.kept λ_ _ q=>q
theorem Un.laid (k:∀b u,h.get? b=some u->h'.get? b=some u)(hp:h.objs.size≤a)(hn:H a=none):Un fs ex H (upd H a o) h h' where
 keep:=λb u q _ _ _=>k b u q
 slot:=λb u q _ _ _=>⟨u.slots,k b u q⟩
 free:=λb u q n _=>by rw[f7 (Nat.ne_of_lt (Nat.lt_of_lt_of_le (Heap.lt_size q) hp))];exact n
 there:=λb u q _=>⟨u,k b u q⟩
 tups:=λb xs q=>by rw[f7 (l5 q hn)];exact q
 frzs:=λb u xs q=>by rw[f7 (l5 q hn)];exact q
 tbls:=λb ps q=>⟨#[],by rw[f7 (l5 q hn),q];simp⟩
theorem Un.write (mu:Mut (H x))(he:e=x∨H e=some (.own x))(k:∀b u,b≠e->h.get? b=some u->h'.get? b=some u)(heo:∃u,h'.get? e=some u):Un fs ex H (upd H x o) h h':=by
 have hx:∀b,H b=none->b≠x:=λb n z=>by subst z;rw[n]at mu;exact mu
 have hb:∀b,H b=none->b≠e:=λb n z=>by
  subst z
  rcases he with r | r
  ·exact hx b n r
  ·rw[n]at r;cases r
 have hm:∀b u,H b=some u->¬Mut (some u)->b≠x:=λb u q nm z=>by subst z;rw[q]at mu;exact nm mu
 refine⟨λb u q n _ _=>k b u (hb b n) q,λb u q n _ _=>⟨u.slots,k b u (hb b n) q⟩,λb u q n _=>by rw[f7 (hx b n)];exact n,λb u q _=>?_,
  λb xs q=>by rw[f7 (hm b _ q λz=>z)];exact q,λb u xs q=>by rw[f7 (hm b _ q λz=>z)];exact q,λb ps q=>⟨#[],by rw[f7 (hm b _ q λz=>z),q];simp⟩⟩
 by_cases hbe:b=e
 ·subst hbe;exact heo
 ·exact⟨u,k b u hbe q⟩
end
noncomputable def trk (h:Heap)(H:Hp):List Addr:=(List.range h.objs.size).filter λa=>(H a).isSome
noncomputable def a1W (h:Heap)(H:Hp):Heap:=PySem.W.hideAll h (trk h H)
theorem a7f (h:Heap)(H:Hp):(a1W h H).objs.size=h.objs.size:=PySem.W.hideAll_size _ _
theorem a8C {h:Heap}{H:Hp}{b:Addr}{o:Obj}(e:h.get? b=some o)(n:H b=none):(a1W h H).get? b=some o :=
 PySem.W.hideAll_get _ e λhm=>by
  have q:(H b).isSome=true:=(List.mem_filter.mp hm).2
  rw[n]at q;simp at q
theorem a9F {h:Heap}{H:Hp}{b:Addr}{o:Obj}(e:(a1W h H).get? b=some o):h.get? b=some o∧H b=none:=by
 have e':h.get? b=some o:=PySem.W.of_hideAll (trk h H) e
 refine⟨e',?_⟩
 cases q:H b with
 | none=>rfl
 | some x =>
  have hm:b∈trk h H:=List.mem_filter.mpr ⟨List.mem_range.mpr (Heap.lt_size e'),by simp[q]⟩
  have z:(a1W h H).get? b=none:=PySem.W.hideAll_none (trk h H) hm
  rw[z]at e;cases e
end L2
namespace L2
open PySem PySem.Spec PyProof.Rows
structure Mod (K:PySem.W.Frag) (mg:Str->Option Value) (base:Heap):Prop where
 kin:K.In base
 glob:base.Ns mainGlobals mg
 blt:∃mb,base.Ns builtinsNs mb∧∀x:Str,x ≠ "__name__"->mb x=bootBuiltins x
 nolimit:base.NoLimit
/-- the context: a def's body (or a comprehension's block) running. base: fixed through the whole law;s₀,H₀: the entry;outer: the frames whose slots others may change (a def's callers);stack: all frames that run;
   ex: iterators that were made N7 of the entry and are walked here (a comprehension's);fn: the names whose cells were made at the entry (a def: all;a comprehension's block: its own);calm: not within an except suite;pn: pins that every state bears;xe: what is wanted of an exception that leaves the code -/
structure Cx where
 prog:Program
 w:World
 K:PySem.W.Frag
 mg:Str->Option Value
 base:Heap
 A:Around
 N:List Str
 s₀:Shared
 H₀:Hp
 env:Env
 outer:List Env
 stack:List Env
 ex:List Addr
 fn:Str->Bool
 calm:Bool
 pn:List (Addr×Obj)
 xe:Value->Shared->Prop
noncomputable def frs (l:List Env):List Addr:=l.filterMap (·.frame)
noncomputable abbrev Cx.fs (X:Cx):List Addr:=frs X.outer
noncomputable def Vis (sc:Scope)(x:Str):Prop:=sc.names.lookup x=some .local∨sc.names.lookup x=some .cell∨sc.names.lookup x=some .free
noncomputable def Loc (sc:Scope)(x:Str):Prop:=sc.names.lookup x=some .local∨sc.names.lookup x=some .cell
noncomputable def b3R (env:Env)(h:Heap)(m:Str->Option Value)(x:Str)(u:Value):Prop :=
 (env.kindOf x=some .local∧m x=some u)∨((env.kindOf x=some .cell∨env.kindOf x=some .free)∧∃c,env.cells.lookup x=some c∧h.IsCell c (some u))
structure Cx.Ok (X:Cx):Prop where
 mod:Mod X.K X.mg X.base
 kind:X.env.scope.kind = .function
 glob:X.env.globals=mainGlobals
 blt:X.env.builtins=builtinsNs
 above:X.s₀.heap.objs.size≤X.env.locals
 inj:∀x y c,X.env.cells.lookup x=some c->X.env.cells.lookup y=some c->x=y
 has:∀x,(X.env.kindOf x=some .cell∨X.env.kindOf x=some .free)->∃c,X.env.cells.lookup x=some c
 cab:∀x c,X.fn x=true->X.env.cells.lookup x=some c->X.s₀.heap.objs.size≤c
 hd:X.calm=true->X.A.handled=none
 frames:X.A.frames=some X.stack
 stk:X.stack=X.outer∨(X.stack=X.env::X.outer∧X.env.frame=some X.env.locals)
 exf:∀b∈X.ex,b≠X.env.locals∧∀x c,X.env.cells.lookup x=some c->c≠b
 bs:∀b o,X.base.get? b=some o->X.s₀.heap.get? b=some o∧X.H₀ b=none
 bsz:X.base.objs.size≤X.s₀.heap.objs.size
 noex:∀b o,X.base.get? b=some o->b ∉ X.ex
 exfs:∀b∈X.ex,b ∉ X.fs
 funs:X.s₀.heap.FunFrames X.base X.outer
 frf:∀b∈X.fs,X.H₀ b=none
structure Inv (X:Cx) (pins:List (Addr×Obj)) (σ:List (Option V)) (H:Hp) (s:Shared):Prop where
 ok:X.Ok
 os:s.os=X.s₀.os
 bare:AllBare s.gens
 base:Un X.fs X.ex X.H₀ H X.s₀.heap s.heap
 loc:∃m,s.heap.Ns X.env.locals m∧∀(i:Nat) (x:Str) (v:V),X.N[i]? = some x->σ[i]? = some (some v)->Vis X.env.scope x->∃u,v4 v u∧b3R X.env s.heap m x u
 cell:∀x c,X.env.cells.lookup x=some c->∃v,s.heap.IsCell c v
 free:H X.env.locals=none
 freeC:∀x c,X.env.cells.lookup x=some c->H c=none
 pin:∀p∈X.pn++pins,s.heap.get? p.1=some p.2∧H p.1=none∧p.1≠X.env.locals∧p.1 ∉ X.fs∧∀v,p.2.data ≠ .cell v
 hok:HOk X.prog X.w H s.heap
 len:σ.length=X.N.length
section
variable {X:Cx}{pins:List (Addr×Obj)}{σ:List (Option V)}{H H':Hp}{s:Shared}{h':Heap}
theorem Cx.Ok.nofr (ok:X.Ok){b:Addr}{o:Obj}(e:X.base.get? b=some o):b ∉ X.fs:=λhb=>by
 have:=(ok.funs.mem hb).1
 rw[e]at this;cases this
theorem Inv.bs (I:Inv X pins σ H s):∀b o,X.base.get? b=some o->s.heap.get? b=some o∧H b=none:=λb o e =>
 ⟨I.base.keep b o (I.ok.bs b o e).1 (I.ok.bs b o e).2 (I.ok.nofr e) (I.ok.noex b o e),I.base.free b o (I.ok.bs b o e).1 (I.ok.bs b o e).2 (I.ok.noex b o e)⟩
theorem Inv.bk (I:Inv X pins σ H s):∀b o,X.base.get? b=some o->s.heap.get? b=some o:=λb o e=>(I.bs b o e).1
theorem Inv.mod (I:Inv X pins σ H s):Mod X.K X.mg X.base:=I.ok.mod
theorem Inv.kIn (I:Inv X pins σ H s):X.K.In s.heap:=I.ok.mod.kin.keeps I.bk
theorem Inv.nolimit (I:Inv X pins σ H s):s.heap.NoLimit:=I.ok.mod.nolimit.keeps I.bk
theorem Inv.lt (I:Inv X pins σ H s):X.env.locals<s.heap.objs.size:=let ⟨_,hn,_⟩:=I.loc;hn.lt
theorem Inv.sz (I:Inv X pins σ H s):X.s₀.heap.objs.size≤s.heap.objs.size:=Nat.le_trans I.ok.above (Nat.le_of_lt I.lt)
theorem Inv.nofs (I:Inv X pins σ H s){a:Addr}(h:s.heap.objs.size≤a):a ∉ X.fs:=λhb=>by
 obtain⟨_,o,ho,_⟩:=I.ok.funs.mem hb
 exact absurd (Nat.lt_of_lt_of_le (Heap.lt_size ho) (Nat.le_trans I.sz h)) (Nat.lt_irrefl _)
theorem Inv.cne (I:Inv X pins σ H s):∀x c,X.env.cells.lookup x=some c->c≠X.env.locals:=λx c e z=>by
 obtain⟨v,o,ho,hd⟩:=I.cell x c e
 obtain⟨m,⟨o',es,ep,ho',hd',_⟩,_⟩:=I.loc
 rw[z,ho']at ho;cases ho;rw[hd']at hd;cases hd
theorem Inv.funs (I:Inv X pins σ H s):s.heap.FunFrames X.base X.outer:=by
 have all:∀(l:List Env),(∀b∈frs l,b∈X.fs)->X.s₀.heap.FunFrames X.base l->s.heap.FunFrames X.base l:=by
  intro l
  induction l with
  | nil=>intro _ _;trivial
  | cons env r ih =>
   intro hs hl
   obtain⟨hk,⟨L,o,hf,hn,ho,hd⟩,hr⟩:=hl
   have hL:L∈X.fs:=hs L (by unfold frs;rw[List.filterMap_cons,hf];exact List.mem_cons_self)
   obtain⟨sl,e⟩:=I.base.slot L o ho (I.ok.frf L hL) hL λz=>I.ok.exfs L z hL
   exact⟨hk,⟨L,_,hf,hn,e,hd⟩,ih (λb hb=>hs b (by unfold frs;rw[List.filterMap_cons,hf];exact List.mem_cons_of_mem _ hb)) hr⟩
 exact all X.outer (λ_ hb=>hb) I.ok.funs
theorem Inv.stack (I:Inv X pins σ H s):s.heap.FunFrames X.base X.stack:=by
 rcases I.ok.stk with e | ⟨e,hf⟩
 ·rw[e];exact I.funs
 ·rw[e]
  obtain⟨m,hn,_⟩:=I.loc
  refine .cons (by rw[I.ok.kind];decide) hf hn ?_ I.funs
  exact Heap.get?_none_of_le (Nat.le_trans I.ok.bsz I.ok.above)
theorem Inv.stkSub (I:Inv X pins σ H s):∀b∈frs X.stack,b∈X.env.locals::X.fs:=λb hb=>by
 rcases I.ok.stk with e | ⟨e,hf⟩
 ·rw[e]at hb;exact List.mem_cons_of_mem _ hb
 ·rw[e]at hb
  unfold frs at hb
  rw[List.filterMap_cons,hf]at hb
  exact hb
theorem Inv.stkFree (I:Inv X pins σ H s):∀b∈frs X.stack,H b=none:=λb hb=>by
 rcases List.mem_cons.mp (I.stkSub b hb) with e | hb
 ·rw[e];exact I.free
 ·obtain⟨_,o,ho,_⟩:=I.ok.funs.mem hb
  exact I.base.free b o ho (I.ok.frf b hb) λz=>I.ok.exfs b z hb
theorem Inv.step {g':Array GenState}{t':Nat}{d':Drawn}{ch:List Addr}(I:Inv X pins σ H s)
  (hch:∀b∈ch,(b∈X.ex∨X.s₀.heap.objs.size≤b)∧b≠X.env.locals∧(∀x c,X.env.cells.lookup x=some c->c≠b)∧∀p∈X.pn++pins,p.1≠b)
  (keep:∀b o,b≠X.env.locals->b ∉ X.fs->b ∉ ch->s.heap.get? b=some o->H b=none->h'.get? b=some o)
  (slot:∀b o,b≠X.env.locals->b∈X.fs->b ∉ ch->s.heap.get? b=some o->H b=none->∃sl,h'.get? b=some { o with slots:=sl }) (free:∀b o,b ∉ ch->s.heap.get? b=some o->H b=none->H' b=none)
  (there:∀b o,b ∉ ch->s.heap.get? b=some o->∃o',h'.get? b=some o')
  (tups:∀b xs,H b=some (.tup xs)->H' b=some (.tup xs)) (frzs:∀b o u,H b=some (.frz o u)->H' b=some (.frz o u)) (tbls:∀b ps,H b=some (.tbl ps)->∃more,H' b=some (.tbl (ps++more)))
  (ns:∀m,s.heap.Ns X.env.locals m->h'.Ns X.env.locals m) (hok:HOk X.prog X.w H' h') (hg:AllBare g') :
  Inv X pins σ H' { s with heap:=h',gens:=g',drawn:=d',toks:=t' }:=by
 have neL:∀b o,X.s₀.heap.get? b=some o->b≠X.env.locals:=λb o e=>Nat.ne_of_lt (Nat.lt_of_lt_of_le (Heap.lt_size e) I.ok.above)
 have neC:∀b o,X.s₀.heap.get? b=some o->b ∉ X.ex->b ∉ ch:=λb o e hx hb=>by
  rcases(hch b hb).1 with z | z
  ·exact hx z
  ·exact absurd (Nat.lt_of_lt_of_le (Heap.lt_size e) z) (Nat.lt_irrefl _)
 have cellK:∀x c,X.env.cells.lookup x=some c->∀v,s.heap.IsCell c v->h'.IsCell c v:=λx c e v ⟨o,ho,hd⟩=>by
  have nch:c ∉ ch:=λz=>(hch c z).2.2.1 x c e rfl
  by_cases hc:c∈X.fs
  ·obtain⟨sl,q⟩:=slot c o (I.cne x c e) hc nch ho (I.freeC x c e)
   exact⟨_,q,hd⟩
  ·exact⟨o,keep c o (I.cne x c e) hc nch ho (I.freeC x c e),hd⟩
 refine⟨I.ok,I.os,hg,⟨λb o e n hb hx=>?_,λb o e n hb hx=>?_,λb o e n hx=>?_,λb o e hx=>?_,λb xs e=>tups b xs (I.base.tups b xs e),λb o xs e=>frzs b o xs (I.base.frzs b o xs e),λb ps e=>?_⟩,?_,λx c e=>?_,?_,λx c e=>?_,λp hp=>?_,hok,I.len⟩
 ·exact keep b o (neL b o e) hb (neC b o e hx) (I.base.keep b o e n hb hx) (I.base.free b o e n hx)
 ·obtain⟨sl,e1⟩:=I.base.slot b o e n hb hx
  obtain⟨sl',e2⟩:=slot b _ (neL b o e) hb (neC b o e hx) e1 (I.base.free b o e n hx)
  exact⟨sl',e2⟩
 ·obtain⟨o',e1⟩:=I.base.there b o e hx
  exact free b o' (neC b o e hx) e1 (I.base.free b o e n hx)
 ·obtain⟨o',e1⟩:=I.base.there b o e hx
  exact there b o' (neC b o e hx) e1
 ·obtain⟨m1,e1⟩:=I.base.tbls b ps e
  obtain⟨m2,e2⟩:=tbls b _ e1
  exact⟨m1++m2,by rw[e2,Array.append_assoc]⟩
 ·obtain⟨m,hn,hl⟩:=I.loc
  refine⟨m,ns m hn,λi x v e1 e2 e3=>?_⟩
  obtain⟨u,r,l⟩:=hl i x v e1 e2 e3
  refine⟨u,r,?_⟩
  rcases l with l | ⟨k,c,e,z⟩
  ·exact .inl l
  ·exact .inr ⟨k,c,e,cellK x c e _ z⟩
 ·obtain⟨v,z⟩:=I.cell x c e
  exact⟨v,cellK x c e v z⟩
 ·obtain⟨m,⟨o,_,_,ho,_⟩,_⟩:=I.loc
  exact free _ o (λz=>(hch _ z).2.1 rfl) ho I.free
 ·obtain⟨v,o,ho,hd⟩:=I.cell x c e
  exact free c o (λz=>(hch c z).2.2.1 x c e rfl) ho (I.freeC x c e)
 ·obtain⟨e,n,ne,nf,d⟩:=I.pin p hp
  have nch:p.1 ∉ ch:=λz=>(hch p.1 z).2.2.2 p hp rfl
  exact⟨keep p.1 p.2 ne nf nch e n,free p.1 p.2 nch e n,ne,nf,d⟩
theorem Inv.un {t':Nat}(I:Inv X pins σ H s)(u:Un X.fs [] H H' s.heap h')(hok:HOk X.prog X.w H' h'):Inv X pins σ H' { s with heap:=h',toks:=t' }:=by
 obtain⟨m,⟨o,es,ep,ho,r⟩,_⟩:=id I.loc
 obtain⟨sl,hL⟩:=u.any ho I.free (by simp)
 exact I.step (g':=s.gens) (d':=s.drawn) (ch:=[]) (λ_ z=>nomatch z) (λb o _ hb _ e n=>u.keep b o e n hb (by simp)) (λb o _ hb _ e n=>u.slot b o e n hb (by simp)) (λb o _ e n=>u.free b o e n (by simp)) (λb o _ e=>u.there b o e (by simp)) u.tups u.frzs u.tbls (λm' hm=>by
  obtain⟨o',es',ep',ho',r'⟩:=hm
  rw[ho]at ho';cases ho'
  exact⟨_,es',ep',hL,r'⟩) hok I.bare
theorem Inv.call {g':Array GenState}{t':Nat}{d':Drawn}{ch:List Addr}(I:Inv X pins σ H s)(u:Un (frs X.stack) ch H H' s.heap h')(hok:HOk X.prog X.w H' h')(hg:AllBare g')
  (hch:∀b∈ch,(b∈X.ex∨X.s₀.heap.objs.size≤b)∧b≠X.env.locals∧(∀x c,X.env.cells.lookup x=some c->c≠b)∧∀p∈X.pn++pins,p.1≠b) :
  Inv X pins σ H' { s with heap:=h',gens:=g',drawn:=d',toks:=t' }:=by
 obtain⟨m,⟨o,es,ep,ho,r⟩,_⟩:=id I.loc
 obtain⟨sl,hL⟩:=u.any ho I.free λz=>(hch _ z).2.1 rfl
 exact I.step (ch:=ch) hch (λb o hL hb hc e n=>u.keep b o e n (λz=>(List.mem_cons.mp (I.stkSub b z)).elim hL hb) hc) (λb o _ _ hc e n=>u.any e n hc) (λb o hc e n=>u.free b o e n hc) (λb o hc e=>u.there b o e hc) u.tups u.frzs u.tbls (λm' hm=>by
  obtain⟨o',es',ep',ho',r'⟩:=hm
  rw[ho]at ho';cases ho'
  exact⟨_,es',ep',hL,r'⟩) hok hg
theorem Inv.turned {t':Nat}{it:Addr}(I:Inv X pins σ H s)(k:∀b o,b≠it->s.heap.get? b=some o->h'.get? b=some o)(hn:H it=none)(hL:it≠X.env.locals)
  (h1:it∈X.ex∨X.s₀.heap.objs.size≤it) (h2:∀x c,X.env.cells.lookup x=some c->c≠it) (h3:∀p∈X.pn++pins,p.1≠it):Inv X pins σ H { s with heap:=h',toks:=t' }:=by
 have nit:∀b u,H b=some u->b≠it:=λb u e z=>by rw[z,hn]at e;cases e
 refine I.step (g':=s.gens) (d':=s.drawn) (ch:=[it]) (λb hb=>?_) (λb o _ _ hc e _=>k b o (λz=>hc (by simp[z])) e) (λb o _ _ hc e _=>⟨o.slots,k b o (λz=>hc (by simp[z])) e⟩) (λ_ _ _ _ n=>n)
  (λb o hc e=>⟨o,k b o (λz=>hc (by simp[z])) e⟩) (λ_ _ e=>e) (λ_ _ _ e=>e) (λb ps e=>⟨#[],by rw[e];simp⟩) (λm hm=>?_) (λb u e=>?_) I.bare
 ·have e:b=it:=by simpa using hb
  subst e
  exact⟨h1,hL,h2,h3⟩
 ·obtain⟨o,es,ep,ho,r⟩:=hm
  exact⟨o,es,ep,k _ o (Ne.symm hL) ho,r⟩
 ·refine(I.hok b u e).stay (λc v hc q=>k c v ?_ q) (λ_ q=>q) λ_ _ q=>q
  rcases hc with z | z
  ·rw[z];exact nit b u e
  ·exact nit c _ z
theorem Inv.tok (I:Inv X pins σ H s)(t:Nat):Inv X pins σ H { s with toks:=t }:=I.un (h':=s.heap) (t':=t) Un.refl I.hok
theorem Inv.kept {t':Nat}(I:Inv X pins σ H s)(k:∀b u,s.heap.get? b=some u->h'.get? b=some u):Inv X pins σ H { s with heap:=h',toks:=t' }:=I.un (Un.kept k) (I.hok.kept k)
theorem Inv.laid {a:Addr}{o:HO}{t':Nat}(I:Inv X pins σ H s)(k:∀b u,s.heap.get? b=some u->h'.get? b=some u)(hp:s.heap.objs.size≤a)(new:L9 X.prog X.w (upd H a o) h' a o) :
  Inv X pins σ (upd H a o) { s with heap:=h',toks:=t' }:=I.un (Un.laid k hp (I.hok.fresh hp)) (I.hok.laid k hp new)
theorem Inv.write {x e:Addr}{o:HO}{t':Nat}(I:Inv X pins σ H s)(mu:Mut (H x))(he:e=x∨H e=some (.own x))(k:∀b u,b≠e->s.heap.get? b=some u->h'.get? b=some u)(heo:∃u,h'.get? e=some u)
  (new:L9 X.prog X.w (upd H x o) h' x o):Inv X pins σ (upd H x o) { s with heap:=h',toks:=t' }:=I.un (Un.write mu he k heo) (I.hok.write mu he k heo new)
theorem Inv.pins_of {pins':List (Addr×Obj)}(I:Inv X pins σ H s)(h:∀p∈pins',s.heap.get? p.1=some p.2∧H p.1=none∧p.1≠X.env.locals∧p.1 ∉ X.fs∧∀v,p.2.data ≠ .cell v):Inv X pins' σ H s :=
 ⟨I.ok,I.os,I.bare,I.base,I.loc,I.cell,I.free,I.freeC,λp hp=>(List.mem_append.mp hp).elim (λz=>I.pin p (List.mem_append_left _ z)) (h p),I.hok,I.len⟩
theorem a3M {N:List Str}(hN:N.Nodup){i j:Nat}{x:Str}(a:N[i]? = some x)(b:N[j]? = some x):i=j:=by
 obtain⟨h1,e1⟩:=List.getElem?_eq_some_iff.mp a
 obtain⟨h2,e2⟩:=List.getElem?_eq_some_iff.mp b
 exact(List.getElem_inj hN).mp (e1.trans e2.symm)
theorem a6Z {M:Model}{A:Around}{E:Value->Shared->Prop}{i:Nat}{x:Str}{v:V}{u:Value}{Q:Unit->Shared->Prop}(I:Inv X pins σ H s)(hN:X.N.Nodup)(hi:X.N[i]? = some x)(hx:Loc X.env.scope x)(r:v4 v u)
  (h:∀s',Inv X pins (σ.set i (some v)) H s'->(∃a,Heap.SameBut a s.heap s'.heap∧(a=X.env.locals∨X.env.cells.lookup x=some a))->Q () s') (hf:X.fn x=true∨X.env.scope.names.lookup x=some .local:=by first | exact .inl rfl | exact .inr rfl | assumption):wpAny M A (storeName X.env x u) Q E s:=by
 obtain⟨m,hn,hl⟩:=id I.loc
 have hcls:(X.env.scope.kind == .class||(X.env.scope.kind == .module&&X.env.locals != X.env.globals))=false:=by rw[I.ok.kind];rfl
 have hiσ:i < σ.length:=by rw[I.len];exact(List.getElem?_eq_some_iff.mp hi).1
 have cne:=I.cne
 have tracked:∀{a:Addr} {h':Heap},(∃o,s.heap.get? a=some o∧H a=none)->Heap.SameBut a s.heap h'->HOk X.prog X.w H h':=λ{a h'} ha hs b ob e=>by
  obtain⟨_,_,hfree⟩:=ha
  refine(I.hok b ob e).stay (λc w' hc q=>(hs.2 c ?_).trans q) (λ_ q=>q) λ_ _ q=>q
  rintro rfl
  rcases hc with rfl | hc
  ·rw[hfree]at e;cases e
  ·rw[hfree]at hc;cases hc
 rcases hx with hk | hk
 ·refine wpAny_storeName_local hk hn (λh' hn' hs=>?_) hcls
  obtain⟨oL,_,_,hoL,_⟩:=id hn
  refine h _ ⟨I.ok,I.os,I.bare,⟨λb o e n hb hx=>?_,λb o e n hb hx=>?_,I.base.free,λb o e hx=>?_,I.base.tups,I.base.frzs,I.base.tbls⟩,⟨_,hn',λj y v' e1 e2 e3=>?_⟩,λy c e=>?_,I.free,I.freeC,λp hp=>?_,tracked ⟨oL,hoL,I.free⟩ hs,by simpa using I.len⟩ ⟨_,hs,.inl rfl⟩
  ·exact(hs.2 b (Nat.ne_of_lt (Nat.lt_of_lt_of_le (Heap.lt_size e) I.ok.above))).trans (I.base.keep b o e n hb hx)
  ·obtain⟨sl,e1⟩:=I.base.slot b o e n hb hx
   exact⟨sl,(hs.2 b (Nat.ne_of_lt (Nat.lt_of_lt_of_le (Heap.lt_size e) I.ok.above))).trans e1⟩
  ·obtain⟨o',e1⟩:=I.base.there b o e hx
   exact⟨o',(hs.2 b (Nat.ne_of_lt (Nat.lt_of_lt_of_le (Heap.lt_size e) I.ok.above))).trans e1⟩
  ·by_cases hj:j=i
   ·subst hj
    rw[hi]at e1;cases e1
    rw[List.getElem?_set_self hiσ]at e2
    cases e2
    exact⟨u,r,.inl ⟨hk,by simp⟩⟩
   ·rw[List.getElem?_set_ne (Ne.symm hj)]at e2
    obtain⟨u',r',q⟩:=hl j y v' e1 e2 e3
    refine⟨u',r',?_⟩
    rcases q with ⟨k,e⟩ | ⟨k,c,e,z⟩
    ·refine .inl ⟨k,?_⟩
     have:y≠x:=λe=>hj (a3M hN e1 (e▸hi))
     simp[this,e]
    ·exact .inr ⟨k,c,e,z.sameBut hs (cne y c e)⟩
  ·obtain⟨w',z⟩:=I.cell y c e
   exact⟨w',z.sameBut hs (cne y c e)⟩
  ·obtain⟨e,n,ne,nf,d⟩:=I.pin p hp
   exact⟨(hs.2 p.1 ne).trans e,n,ne,nf,d⟩
 ·have hfn:X.fn x=true:=by
   rcases hf with z | z
   ·exact z
   ·rw[z]at hk;cases hk
  obtain⟨c,hc⟩:=I.ok.has x (.inl hk)
  obtain⟨w',z⟩:=I.cell x c hc
  refine wpAny_storeName_cell I.ok.kind hk hc z (λh' hc' hs=>?_)
  obtain⟨oc,hoc,hocd⟩:=id z
  refine h { s with heap:=h' } ⟨I.ok,I.os,I.bare,⟨λb o e n hb hx=>?_,λb o e n hb hx=>?_,I.base.free,λb o e hx=>?_,I.base.tups,I.base.frzs,I.base.tbls⟩,⟨m,hn.sameBut hs (Ne.symm (cne x c hc)),λj y v' e1 e2 e3=>?_⟩,λy c' e=>?_,I.free,I.freeC,λp hp=>?_,tracked ⟨oc,hoc,I.freeC x c hc⟩ hs,by simpa using I.len⟩ ⟨c,hs,.inr hc⟩
  ·exact(hs.2 b (Nat.ne_of_lt (Nat.lt_of_lt_of_le (Heap.lt_size e) (I.ok.cab x c hfn hc)))).trans (I.base.keep b o e n hb hx)
  ·obtain⟨sl,e1⟩:=I.base.slot b o e n hb hx
   exact⟨sl,(hs.2 b (Nat.ne_of_lt (Nat.lt_of_lt_of_le (Heap.lt_size e) (I.ok.cab x c hfn hc)))).trans e1⟩
  ·obtain⟨o',e1⟩:=I.base.there b o e hx
   exact⟨o',(hs.2 b (Nat.ne_of_lt (Nat.lt_of_lt_of_le (Heap.lt_size e) (I.ok.cab x c hfn hc)))).trans e1⟩
  ·by_cases hj:j=i
   ·subst hj
    rw[hi]at e1;cases e1
    rw[List.getElem?_set_self hiσ]at e2
    cases e2
    exact⟨u,r,.inr ⟨.inl hk,c,hc,hc'⟩⟩
   ·rw[List.getElem?_set_ne (Ne.symm hj)]at e2
    obtain⟨u',r',q⟩:=hl j y v' e1 e2 e3
    refine⟨u',r',?_⟩
    rcases q with q | ⟨k,c',e,z'⟩
    ·exact .inl q
    ·refine .inr ⟨k,c',e,z'.sameBut hs ?_⟩
     rintro rfl
     exact hj (a3M hN e1 (I.ok.inj _ _ _ e hc▸hi))
  ·by_cases hcc:c'=c
   ·subst hcc;exact⟨_,hc'⟩
   ·obtain⟨w2,z2⟩:=I.cell y c' e
    exact⟨w2,z2.sameBut hs hcc⟩
  ·obtain⟨e,n,ne,nf,d⟩:=I.pin p hp
   refine⟨(hs.2 p.1 ?_).trans e,n,ne,nf,d⟩
   intro q
   rw[q,hoc]at e
   have q':oc=p.2:=Option.some.inj e
   exact d w' (by rw[←q'];exact hocd)
theorem E3 {M:Model}{A:Around}{E:Value->Shared->Prop}{i:Nat}{x:Str}{v:V}{u:Value}{Q:Unit->Shared->Prop}(I:Inv X pins σ H s)(hN:X.N.Nodup)(hi:X.N[i]? = some x)(hx:Loc X.env.scope x)(r:v4 v u)
  (h:∀s',Inv X pins (σ.set i (some v)) H s'->Q () s') (hf:X.fn x=true∨X.env.scope.names.lookup x=some .local:=by first | exact .inl rfl | exact .inr rfl | assumption):wpAny M A (storeName X.env x u) Q E s :=
 a6Z I hN hi hx r (λs' I' _=>h s' I') hf
theorem Inv.call' {s':Shared}{ch:List Addr}(I:Inv X pins σ H s)(ho:s'.os=s.os)(u:Un (frs X.stack) ch H H' s.heap s'.heap)(hok:HOk X.prog X.w H' s'.heap)(hg:AllBare s'.gens)
  (hch:∀b∈ch,(b∈X.ex∨X.s₀.heap.objs.size≤b)∧b≠X.env.locals∧(∀x c,X.env.cells.lookup x=some c->c≠b)∧∀p∈X.pn++pins,p.1≠b):Inv X pins σ H' s':=by
 obtain⟨h',g',d',t',o'⟩:=s'
 have e:o'=s.os:=ho
 subst e
 exact I.call (g':=g') (t':=t') (d':=d') u hok hg hch
end
noncomputable abbrev XK:=Value->Option Addr->Hp->Prop
noncomputable abbrev St:=List (Option V)
noncomputable abbrev VK:=V->Hp->Prop
noncomputable abbrev TE:=St->Hp->VK->Prop
noncomputable abbrev TT:=St->Hp->(Bool->Hp->Prop)->Prop
noncomputable abbrev TA:=St->Hp->(List V->Hp->Prop)->Prop
structure Ends where
 nx:St->Hp->Prop
 rt:VK
 bk:St->Hp->Prop:=λ_ _=>False
 ct:St->Hp->Prop:=λ_ _=>False
noncomputable abbrev TS:=Ends->St->Hp->Prop
noncomputable def EP (X:Cx)(pins:List (Addr×Obj))(σ:St)(Q:VK)(u:Value)(s':Shared):Prop:=∃v H',Inv X pins σ H' s'∧v4 v u∧Q v H'
noncomputable def TP (X:Cx)(pins:List (Addr×Obj))(σ:St)(Q:Bool->Hp->Prop)(b:Bool)(s':Shared):Prop:=∃H',Inv X pins σ H' s'∧Q b H'
noncomputable def AP (X:Cx)(pins:List (Addr×Obj))(σ:St)(Q:List V->Hp->Prop)(us:List Value)(s':Shared):Prop:=∃vs H',Inv X pins σ H' s'∧k9 vs us∧Q vs H'
noncomputable def SP (X:Cx)(pins:List (Addr×Obj))(D:Ends)(f:Flow)(s':Shared):Prop :=
 match f with
 | .next=>∃σ' H',Inv X pins σ' H' s'∧D.nx σ' H'
 | .brk=>∃σ' H',Inv X pins σ' H' s'∧D.bk σ' H'
 | .cont=>∃σ' H',Inv X pins σ' H' s'∧D.ct σ' H'
 | .ret u=>∃v σ' H',Inv X pins σ' H' s'∧v4 v u∧D.rt v H'
noncomputable def PE (X:Cx)(e:Expr)(t:TE):Prop :=
 ∀(pins:List (Addr×Obj)) (s:Shared) (σ:St) (H:Hp) (Q:VK),Inv X pins σ H s->t σ H Q->wpAny (model X.prog X.w) X.A (eval e X.env) (EP X pins σ Q) X.xe s
noncomputable def PT (X:Cx)(e:Expr)(t:TT):Prop :=
 ∀(pins:List (Addr×Obj)) (s:Shared) (σ:St) (H:Hp) (Q:Bool->Hp->Prop),Inv X pins σ H s->t σ H Q->wpAny (model X.prog X.w) X.A (isTrue e X.env (eval e X.env)) (TP X pins σ Q) X.xe s
noncomputable def PW (X:Cx)(e:Expr)(t:TT):Prop :=
 ∀(whole:Sem Value) (pins:List (Addr×Obj)) (s:Shared) (σ:St) (H:Hp) (Q:Bool->Hp->Prop),Inv X pins σ H s->t σ H Q->wpAny (model X.prog X.w) X.A (isTrue e X.env whole) (TP X pins σ Q) X.xe s
theorem PW.pt {X:Cx}{e:Expr}{t:TT}(h:PW X e t):PT X e t:=h _
noncomputable def PA (X:Cx)(es:List Expr)(t:TA):Prop :=
 ∀(pos:Pos) (pins:List (Addr×Obj)) (s:Shared) (σ:St) (H:Hp) (Q:List V->Hp->Prop),Inv X pins σ H s->t σ H Q->wpAny (model X.prog X.w) X.A (spliced (backTo pos (starEach es X.env))) (AP X pins σ Q) X.xe s
noncomputable def PS (X:Cx)(st:Stmt)(t:TS):Prop :=
 ∀(pins:List (Addr×Obj)) (s:Shared) (σ:St) (H:Hp) (D:Ends),Inv X pins σ H s->t D σ H->wpAny (model X.prog X.w) X.A (exec st X.env) (SP X pins D) X.xe s
noncomputable def PSs (X:Cx)(st:List Stmt)(t:TS):Prop :=
 ∀(pins:List (Addr×Obj)) (s:Shared) (σ:St) (H:Hp) (D:Ends),Inv X pins σ H s->t D σ H->wpAny (model X.prog X.w) X.A (execs st X.env) (SP X pins D) X.xe s
theorem thn {α:Type}{t:Sem α}{Q Q':α->Shared->Prop}{M:Model}{A:Around}{E:Value->Shared->Prop}{s:Shared}(h:wpAny M A t Q E s)(hQ:∀a s,Q a s->Q' a s):wpAny M A t Q' E s:=wpAny_mono h hQ λ_ _ x=>x
end L2
namespace L2
open PySem PySem.Spec PyProof.Rows
section
variable {X:Cx}
noncomputable def a0D (i:Nat):TE:=λσ H Q=>∃v,σ[i]? = some (some v)∧Q v H
noncomputable def tC (v:V):TE:=λ_ H Q=>Q v H
theorem U8 {i:Nat}{x:Str}{pos:Pos}(hN:X.N[i]? = some x)(hv:Vis X.env.scope x)(hd:(x == ("__debug__":Str))=false:=by decide)(hcd:(x == ("__classdict__":Str))=false:=by decide):PE X (.Name x pos) (a0D i):=by
 intro pins s σ H Q I h
 obtain⟨v,e,h⟩:=h
 obtain⟨m,hn,hl⟩:=I.loc
 obtain⟨u,r,l⟩:=hl i x v hN e hv
 have fin:EP X pins σ Q u s:=⟨v,H,I,r,h⟩
 rcases l with ⟨hk,hm⟩ | ⟨hk,c,hc,hcell⟩
 ·exact wpAny_Name (wpAny_loadName_local I.ok.kind hk hn hm fin) hd
 ·rcases hk with hk | hk
  ·exact wpAny_Name (wpAny_loadName_cell I.ok.kind hk hc hcell fin) hd
  ·exact wpAny_Name (wpAny_loadName_free I.ok.kind hk hc hcell fin hcd) hd
theorem m6 {i j pos}:PE X (.Constant (.int i) j pos) (tC (.int i)):=λ_ _ _ H _ I h=>wpAny_Constant_int ⟨.int i,H,I.tok _,⟨_,rfl⟩,h⟩
theorem b3d {b j pos}:PE X (.Constant (.bool b) j pos) (tC (.bl b)):=λ_ _ _ H _ I h=>Constant_bool ⟨.bl b,H,I,rfl,h⟩
theorem b1A {j pos}:PE X (.Constant .none j pos) (tC .non):=λ_ _ _ H _ I h=>Constant_none ⟨.non,H,I,rfl,h⟩
theorem b29 {x j pos}:PE X (.Constant (.str x) j pos) (tC (.str x)):=λ_ _ _ H _ I h=>Calls.Constant_str ⟨.str x,H,I.tok _,⟨_,rfl⟩,h⟩
noncomputable def Gl (X:Cx)(x:Str):Prop:=X.env.kindOf x=some .globalImplicit
theorem a5B {E:Value->Shared->Prop}{pins:List (Addr×Obj)}{s:Shared}{σ:St}{H:Hp}{x:Str}{u:Value}{pos:Pos}{Q:Value->Shared->Prop}(I:Inv X pins σ H s)(hg:Gl X x)(hm:X.mg x=some u)(h:Q u s)
  (hd:(x == ("__debug__":Str))=false:=by decide):wpAny (model X.prog X.w) X.A (eval (.Name x pos) X.env) Q E s :=
 Calls.Name_function_global I.ok.kind hg (Calls.loadGlobal_global (by rw[I.ok.glob];exact I.mod.glob.keeps I.bk) hm h) hd
theorem Y3 {E:Value->Shared->Prop}{pins:List (Addr×Obj)}{s:Shared}{σ:St}{H:Hp}{x:Str}{u:Value}{pos:Pos}{Q:Value->Shared->Prop}(I:Inv X pins σ H s)(hg:Gl X x)(hm:X.mg x=none)(hv:bootBuiltins x=some u)(h:Q u s)
  (hn:x ≠ "__name__":=by decide) (hd:(x == ("__debug__":Str))=false:=by decide):wpAny (model X.prog X.w) X.A (eval (.Name x pos) X.env) Q E s:=by
 obtain⟨mb,h1,h2⟩:=I.mod.blt
 exact Calls.Name_function_global I.ok.kind hg (Calls.loadGlobal_builtin (by rw[I.ok.glob];exact I.mod.glob.keeps I.bk) hm (by rw[I.ok.blt];exact h1.keeps I.bk) ((h2 x hn).trans hv) h) hd
theorem a6m {x:Str}{v:V}{u:Value}{pos:Pos}(hg:Gl X x)(hm:X.mg x=some u)(r:v4 v u)(hd:(x == ("__debug__":Str))=false:=by decide):PE X (.Name x pos) (tC v) :=
 λ_ _ _ H _ I h=>a5B I hg hm ⟨v,H,I,r,h⟩ hd
variable {a b:Expr}{ta tb:TE}{pos:Pos}
variable {tA tB':TT}{rest:List Expr}
noncomputable def b3W (t u:TT):TT:=λσ H Q=>t σ H λc H1=>if c=true then u σ H1 Q else Q false H1
noncomputable def tOr (t u:TT):TT:=λσ H Q=>t σ H λc H1=>if c=true then Q true H1 else u σ H1 Q
noncomputable def b3h (t:TT):TT:=λσ H Q=>t σ H λc H1=>Q (!c) H1
theorem a9I (ha:PT X a tA):PW X (.BoolOp .And [a] pos) tA:=by
 intro wh pins s σ H Q I h
 refine isTrue_and (thn (ha pins s σ H Q I h) λc s1 e=>?_)
 cases c with
 | true=>exact isTrue_and_nil e
 | false=>exact e
theorem b1l (ha:PT X a tA):PW X (.BoolOp .Or [a] pos) tA:=by
 intro wh pins s σ H Q I h
 refine isTrue_or (thn (ha pins s σ H Q I h) λc s1 e=>?_)
 cases c with
 | false=>exact isTrue_or_nil e
 | true=>exact e
theorem b2q (ha:PT X a tA)(hb:PW X (.BoolOp .And (b::rest) pos) tB'):PW X (.BoolOp .And (a::b::rest) pos) (b3W tA tB'):=by
 intro wh pins s σ H Q I h
 refine isTrue_and (thn (ha pins s σ H _ I h) λc s1 ⟨H1,I1,q1⟩=>?_)
 cases c with
 | true=>exact hb wh pins s1 σ H1 Q I1 q1
 | false=>exact⟨H1,I1,q1⟩
theorem b3n (ha:PT X a tA)(hb:PW X (.BoolOp .Or (b::rest) pos) tB'):PW X (.BoolOp .Or (a::b::rest) pos) (tOr tA tB'):=by
 intro wh pins s σ H Q I h
 refine isTrue_or (thn (ha pins s σ H _ I h) λc s1 ⟨H1,I1,q1⟩=>?_)
 cases c with
 | true=>exact⟨H1,I1,q1⟩
 | false=>exact hb wh pins s1 σ H1 Q I1 q1
theorem b1U (ha:PT X a tA):PT X (.UnaryOp .Not a pos) (b3h tA):=by
 intro pins s σ H Q I h
 exact isTrue_not (ha pins s σ H (λc H1=>Q (!c) H1) I h)
noncomputable def b0J (ta tb:TE):TE:=λσ H Q=>ta σ H λx H1=>∃c,x = .bl c∧if c=true then tb σ H1 Q else Q (.bl false) H1
noncomputable def b2L (ta tb:TE):TE:=λσ H Q=>ta σ H λx H1=>∃c,x = .bl c∧if c=true then Q (.bl true) H1 else tb σ H1 Q
noncomputable def b0N (ta:TE):TE:=λσ H Q=>ta σ H λx H1=>∃c,x = .bl c∧Q (.bl (!c)) H1
theorem b1x {op}{t:TE}(h:PE X a t):PE X (.BoolOp op [a] pos) t:=λpins s σ H Q I hw=>BoolOp_one (h pins s σ H Q I hw)
theorem b26 (ha:PE X a ta)(hb:PE X (.BoolOp .And (b::rest) pos) tb):PE X (.BoolOp .And (a::b::rest) pos) (b0J ta tb):=by
 intro pins s σ H Q I h
 refine BoolOp_and (thn (ha pins s σ H _ I h) λv s1 ⟨x,H1,I1,r1,q1⟩=>?_)
 obtain⟨c,rfl,q1⟩:=q1
 cases r1
 refine wpAny_truthy_bool ?_
 cases c with
 | true=>exact hb pins s1 σ H1 Q I1 q1
 | false=>exact⟨.bl false,H1,I1,rfl,q1⟩
theorem b34 (ha:PE X a ta)(hb:PE X (.BoolOp .Or (b::rest) pos) tb):PE X (.BoolOp .Or (a::b::rest) pos) (b2L ta tb):=by
 intro pins s σ H Q I h
 refine BoolOp_or (thn (ha pins s σ H _ I h) λv s1 ⟨x,H1,I1,r1,q1⟩=>?_)
 obtain⟨c,rfl,q1⟩:=q1
 cases r1
 refine wpAny_truthy_bool ?_
 cases c with
 | false=>exact hb pins s1 σ H1 Q I1 q1
 | true=>exact⟨.bl true,H1,I1,rfl,q1⟩
theorem b2i (ha:PE X a ta):PE X (.UnaryOp .Not a pos) (b0N ta):=by
 intro pins s σ H Q I h
 refine UnaryOp_ (thn (ha pins s σ H _ I h) λv s1 ⟨x,H1,I1,r1,q1⟩=>?_)
 obtain⟨c,rfl,q1⟩:=q1
 cases r1
 exact not_of (wpAny_truthy_bool ⟨.bl (!c),H1,I1,rfl,q1⟩)
noncomputable def tIf (t:TT)(ta tb:TE):TE:=λσ H Q=>t σ H λc H1=>if c=true then ta σ H1 Q else tb σ H1 Q
theorem a4h {c:Expr}(hc:PT X c tA)(ha:PE X a ta)(hb:PE X b tb):PE X (.IfExp c a b pos) (tIf tA ta tb):=by
 intro pins s σ H Q I h
 refine wpAny_IfExp (thn (hc pins s σ H _ I h) λd s1 ⟨H1,I1,q1⟩=>?_)
 cases d with
 | true=>exact ha pins s1 σ H1 Q I1 q1
 | false=>exact hb pins s1 σ H1 Q I1 q1
end
end L2
namespace L2
open PySem PySem.Spec PyProof.Rows
noncomputable def SqL (K:PySem.W.Frag)(H:Hp)(a:Addr)(xs:List V):Prop :=
 Rd H a (.lst xs) ∨
  ∃(o:Obj) (its:Array Value) (n:Nat),K.lookup a=some o∧o.cls = .type "list" ∧ o.dict=none∧o.data = .seq its n∧its.size≤sizeLine∧k9 xs its.toList
noncomputable def SqT (K:PySem.W.Frag)(H:Hp)(a:Addr)(xs:List V):Prop :=
 Rd H a (.tup xs) ∨
  ∃(o:Obj) (its:Array Value) (n:Nat),K.lookup a=some o∧o.cls = .type "tuple" ∧ o.data = .seq its n∧its.size≤sizeLine∧k9 xs its.toList
noncomputable def b3M:Value->Option V
 | .none=>some .non
 | .bool b=>some (.bl b)
 | .int i _=>some (.int i)
 | .str x _=>some (.str x)
 | .bytes b _=>some (.byt b)
 | .float b _=>some (.flt b)
 | .ref a=>some (.ref a)
 | .type n=>some (.ty n)
 | _=>none
theorem v4.abs {x:V}{u:Value}(r:v4 x u):b3M u=some x:=by
 cases x with
 | non=>cases r;rfl
 | bl _=>cases r;rfl
 | int _=>obtain⟨t,rfl⟩:=r;rfl
 | str _=>obtain⟨t,rfl⟩:=r;rfl
 | byt _=>obtain⟨t,rfl⟩:=r;rfl
 | flt _=>obtain⟨t,rfl⟩:=r;rfl
 | ref _=>cases r;rfl
 | ty _=>cases r;rfl
theorem v4.inj {x y:V}{u:Value}(r:v4 x u)(q:v4 y u):x=y:=Option.some.inj (r.abs.symm.trans q.abs)
theorem k9.inj:∀{xs ys:List V} {us:List Value},k9 xs us->k9 ys us->xs=ys
 | _,_,_,.nil,.nil=>rfl
 | _,_,_,.cons r t,.cons r' t'=>by rw[r.inj r',k9.inj t t']
section
variable {X:Cx}{pins:List (Addr×Obj)}{σ:St}{H:Hp}{s:Shared}{a:Addr}{xs ys:List V}
theorem SqL.of {K:PySem.W.Frag}(h:H a=some (.lst xs)):SqL K H a xs:=.inl (.inl h)
theorem SqT.of {K:PySem.W.Frag}(h:H a=some (.tup xs)):SqT K H a xs:=.inl (.inl h)
theorem Inv.list (I:Inv X pins σ H s)(h:SqL X.K H a xs):∃its:List Value,k9 xs its∧PlainL s.heap a its.toArray∧xs.length≤sizeLine:=by
 rcases h with h | ⟨o,its,n,hk,hc,hd,hs,hz,r⟩
 ·obtain⟨z,its,n,r,e⟩:=h.ok I.hok
  exact⟨its,r,⟨_,n,e,rfl,rfl,rfl⟩,z⟩
 ·refine⟨its.toList,r,⟨o,n,I.kIn a o hk,hc,hd,by simpa using hs⟩,?_⟩
  have e:=r.length
  simp only[Array.length_toList]at e
  omega
theorem Inv.tuple (I:Inv X pins σ H s)(h:SqT X.K H a xs):∃its:List Value,k9 xs its∧IsTup s.heap a its.toArray∧xs.length≤sizeLine:=by
 rcases h with h | ⟨o,its,n,hk,hc,hs,hz,r⟩
 ·obtain⟨z,its,r,p⟩:=h.ok I.hok
  exact⟨its,r,p,z⟩
 ·refine⟨its.toList,r,⟨o,I.kIn a o hk,hc,n,by simpa using hs⟩,?_⟩
  have e:=r.length
  simp only[Array.length_toList]at e
  omega
theorem Inv.list_inj (I:Inv X pins σ H s)(h:SqL X.K H a xs)(h':SqL X.K H a ys):xs=ys:=by
 obtain⟨its,r,⟨o,n,e,_,_,d⟩,_⟩:=I.list h
 obtain⟨its',r',⟨o',n',e',_,_,d'⟩,_⟩:=I.list h'
 rw[e]at e';cases e'
 rw[d]at d'
 injection d' with d1 _
 have:its=its':=by simpa using congrArg Array.toList d1
 subst this
 exact r.inj r'
theorem Inv.tuple_inj (I:Inv X pins σ H s)(h:SqT X.K H a xs)(h':SqT X.K H a ys):xs=ys:=by
 obtain⟨its,r,⟨o,e,_,n,d⟩,_⟩:=I.tuple h
 obtain⟨its',r',⟨o',e',_,n',d'⟩,_⟩:=I.tuple h'
 rw[e]at e';cases e'
 rw[d]at d'
 injection d' with d1 _
 have:its=its':=by simpa using congrArg Array.toList d1
 subst this
 exact r.inj r'
end
noncomputable abbrev Cx.wish (X:Cx)(E:Value->Shared->Prop):Cx:={ X with xe:=E }
noncomputable abbrev Cx.nox (X:Cx):Cx:=X.wish λ_ _=>False
theorem Cx.Ok.wish {X:Cx}(ok:X.Ok)(E:Value->Shared->Prop):(X.wish E).Ok :=
 ⟨ok.mod,ok.kind,ok.glob,ok.blt,ok.above,ok.inj,ok.has,ok.cab,ok.hd,ok.frames,ok.stk,ok.exf,ok.bs,ok.bsz,ok.noex,ok.exfs,ok.funs,ok.frf⟩
theorem Cx.Ok.unwish {X:Cx}{E:Value->Shared->Prop}(ok:(X.wish E).Ok):X.Ok :=
 ⟨ok.mod,ok.kind,ok.glob,ok.blt,ok.above,ok.inj,ok.has,ok.cab,ok.hd,ok.frames,ok.stk,ok.exf,ok.bs,ok.bsz,ok.noex,ok.exfs,ok.funs,ok.frf⟩
section
variable {X:Cx}{pins:List (Addr×Obj)}{σ:St}{H:Hp}{s:Shared}{E:Value->Shared->Prop}
theorem Inv.wish (I:Inv X pins σ H s)(E:Value->Shared->Prop):Inv (X.wish E) pins σ H s:=⟨I.ok.wish E,I.os,I.bare,I.base,I.loc,I.cell,I.free,I.freeC,I.pin,I.hok,I.len⟩
theorem Inv.unwish (I:Inv (X.wish E) pins σ H s):Inv X pins σ H s:=⟨I.ok.unwish,I.os,I.bare,I.base,I.loc,I.cell,I.free,I.freeC,I.pin,I.hok,I.len⟩
theorem SP.unwish {D:Ends}{f:Flow}{s':Shared}(h:SP (X.wish E) pins D f s'):SP X pins D f s':=by
 cases f with
 | next=>obtain⟨σ',H',I,q⟩:=h;exact⟨σ',H',I.unwish,q⟩
 | brk=>obtain⟨σ',H',I,q⟩:=h;exact⟨σ',H',I.unwish,q⟩
 | cont=>obtain⟨σ',H',I,q⟩:=h;exact⟨σ',H',I.unwish,q⟩
 | ret u=>obtain⟨v,σ',H',I,r,q⟩:=h;exact⟨v,σ',H',I.unwish,r,q⟩
theorem PSs.nox {st:List Stmt}{t:TS}(h:PSs X.nox st t):PSs X st t:=λpins s σ H D I hw =>
 wpAny_mono (h pins s σ H D (I.wish _) hw) (λ_ _ q=>q.unwish) λ_ _ z=>False.elim z
end
section
variable {X:Cx}{st:Stmt}{rest:List Stmt}{t u:TS}{e:Expr}{te:TE}{pos:Pos}
noncomputable def b0L:TS:=λD σ H=>D.nx σ H
noncomputable def a9W (t u:TS):TS:=λD σ H=>t { D with nx:=u D } σ H
theorem a3c:PSs X [] b0L:=λ_ _ σ H _ I h=>wpAny_execs_nil ⟨σ,H,I,h⟩
theorem z8 (h1:PS X st t)(h2:PSs X rest u):PSs X (st::rest) (a9W t u):=by
 intro pins s σ H D I h
 refine wpAny_execs_cons (thn (h1 pins s σ H { D with nx:=u D } I h) λf s1 q=>?_)
 cases f with
 | next =>
  obtain⟨σ',H',I',q⟩:=q
  exact h2 pins s1 σ' H' D I' q
 | ret v=>exact q
 | brk=>exact q
 | cont=>exact q
theorem W9 (h1:PS X st t):PSs X [st] t:=by
 intro pins s σ H D I h
 refine wpAny_execs_cons (thn (h1 pins s σ H D I h) λf s1 q=>?_)
 cases f with
 | next=>exact wpAny_execs_nil q
 | ret v=>exact q
 | brk=>exact q
 | cont=>exact q
theorem Inv.quiet {pins:List (Addr×Obj)}{σ:St}{H:Hp}{s:Shared}(I:Inv X pins σ H s):interactive X.env=false:=by simp[interactive,I.ok.kind]
noncomputable def a4j (te:TE):TS:=λD σ H=>te σ H λ_ H1=>D.nx σ H1
theorem a5A (he:PE X e te)(hs:swapsWith e none pos.line X.env=pure false:=by rfl):PS X (.Expr e pos) (a4j te):=by
 intro pins s σ H D I h
 exact wpAny_Expr_any (thn (he pins s σ H _ I h) λv s1 ⟨x,H1,I1,r1,q1⟩=>⟨σ,H1,I1,q1⟩) I.quiet hs
noncomputable def a9R (te:TE):TS:=λD σ H=>te σ H D.rt
theorem Z9 (he:PE X e te):PS X (.Return (some e) pos) (a9R te):=by
 intro pins s σ H D I h
 exact wpAny_Return_some (thn (he pins s σ H _ I h) λv s1 ⟨x,H1,I1,r1,q1⟩=>⟨x,σ,H1,I1,r1,q1⟩)
noncomputable def b37 (c:TT)(t u:TS):TS:=λD σ H=>c σ H λb H1=>if b=true then t D σ H1 else u D σ H1
theorem a8p {c:Expr}{a b:List Stmt}{tc:TT}(hc:PT X c tc)(ha:PSs X a t)(hb:PSs X b u):PS X (.If c a b pos) (b37 tc t u):=by
 intro pins s σ H D I h
 refine wpAny_If (thn (hc pins s σ H _ I h) λd s1 ⟨H1,I1,q1⟩=>?_)
 cases d with
 | true=>exact ha pins s1 σ H1 D I1 q1
 | false=>exact hb pins s1 σ H1 D I1 q1
end
noncomputable abbrev TG:=V->St->Hp->(St->Hp->Prop)->Prop
noncomputable abbrev TGs:=List V->St->Hp->(St->Hp->Prop)->Prop
noncomputable def PG (X:Cx)(target:Expr)(t:TG):Prop :=
 ∀(pins:List (Addr×Obj)) (s:Shared) (σ:St) (H:Hp) (v:V) (u:Value) (Q:St->Hp->Prop),Inv X pins σ H s->v4 v u->t v σ H Q ->
  wpAny (model X.prog X.w) X.A (assign target X.env u) (λ_ s'=>∃σ' H',Inv X pins σ' H' s'∧Q σ' H') X.xe s
noncomputable def PGs (X:Cx)(ts:List Expr)(t:TGs):Prop :=
 ∀(pins:List (Addr×Obj)) (s:Shared) (σ:St) (H:Hp) (vs:List V) (us:List Value) (Q:St->Hp->Prop),Inv X pins σ H s->k9 vs us->t vs σ H Q ->
  wpAny (model X.prog X.w) X.A (assignInOrder ((assignEach ts X.env).map (·.2)) us) (λ_ s'=>∃σ' H',Inv X pins σ' H' s'∧Q σ' H') X.xe s
noncomputable abbrev b1B:=V->V->V->Hp->(Hp->Prop)->Prop
noncomputable def b2D (X:Cx)(t:b1B):Prop :=
 ∀(pins:List (Addr×Obj)) (s:Shared) (σ:St) (H:Hp) (o i v:V) (ov iv u:Value) (Q:Hp->Prop),Inv X pins σ H s->v4 o ov->v4 i iv->v4 v u->t o i v H Q ->
  wpAny (model X.prog X.w) X.A (setItem ov iv u) (λ_ s'=>∃H',Inv X pins σ H' s'∧Q H') X.xe s
noncomputable abbrev TIp:=V->V->Hp->VK->Prop
noncomputable def PIp (X:Cx)(op:Operator)(t:TIp):Prop :=
 ∀(pins:List (Addr×Obj)) (s:Shared) (σ:St) (H:Hp) (x y:V) (v u:Value) (Q:VK),Inv X pins σ H s->v4 x v->v4 y u->t x y H Q ->
  wpAny (model X.prog X.w) X.A (inplaceOp op v u) (EP X pins σ Q) X.xe s
section
variable {X:Cx}{pos:Pos}
noncomputable def T2 (i:Nat):TG:=λv σ H Q=>Q (σ.set i (some v)) H
theorem a3w {i:Nat}{x:Str}(hN:X.N.Nodup)(hi:X.N[i]? = some x)(hx:Loc X.env.scope x)(hf:X.fn x=true∨X.env.scope.names.lookup x=some .local:=by first | exact .inl rfl | exact .inr rfl | assumption):PG X (.Name x pos) (T2 i):=by
 intro pins s σ H v u Q I r h
 exact wpAny_assign_Name (E3 I hN hi hx r (λs' I'=>⟨_,H,I',h⟩) hf)
noncomputable def b1H:TGs:=λvs σ H Q=>vs=[]∧Q σ H
noncomputable def a6y (t:TG)(u:TGs):TGs:=λvs σ H Q=>∃v r,vs=v::r∧t v σ H λσ' H'=>u r σ' H' Q
theorem a61:PGs X [] b1H:=by
 intro pins s σ H vs us Q I r h
 obtain⟨e,h⟩:=h
 subst e
 cases r
 exact assignInOrder_nil ⟨σ,H,I,h⟩
theorem a1S {e:Expr}{es:List Expr}{t:TG}{u:TGs}(h1:PG X e t)(h2:PGs X es u)
  (hs:(assignEach (e::es) X.env).map (·.2)=assign e X.env::(assignEach es X.env).map (·.2):=by rfl):PGs X (e::es) (a6y t u):=by
 intro pins s σ H vs us Q I r h
 obtain⟨v,vr,e1,h⟩:=h
 subst e1
 cases r with
 | cons r rr =>
  rw[hs]
  refine assignInOrder_cons (thn (h1 pins s σ H _ _ _ I r h) λ_ s1 ⟨σ1,H1,I1,q1⟩=>?_)
  exact h2 pins s1 σ1 H1 _ _ Q I1 rr q1
noncomputable def a9D (K:PySem.W.Frag)(n:Nat)(t:TGs):TG:=λv σ H Q=>∃a xs,v = .ref a∧SqT K H a xs∧xs.length=n∧t xs σ H Q
theorem b1t {es:List Expr}{k:Nat}{t:TGs}{n:Nat}(hc:X.calm=true)(h:PGs X es t)
  (hn:(assignEach es X.env).length=n:=by rfl) (hst:(assignEach es X.env).findIdx? (·.1)=none:=by rfl):PG X (.Tuple es k pos) (a9D X.K n t):=by
 intro pins s σ H v u Q I r hw
 obtain⟨a,xs,e1,hq,hl,hw⟩:=hw
 subst e1
 cases r
 obtain⟨its,rv,ht,hz⟩:=I.tuple hq
 refine assign_Tuple_tuple (I.ok.hd hc) ht (by simp[hn,←hl,rv.length]) hst λh' hx=>?_
 have I1:Inv X pins σ H { s with heap:=h' }:=I.kept (t':=s.toks) λb o e=>hx b o (Nat.ne_of_lt (Heap.lt_size e)) e
 exact h pins _ σ H xs _ Q I1 (by simpa using rv) hw
noncomputable def b2T (to ti:TE)(t:b1B):TG:=λv σ H Q=>to σ H λo H1=>ti σ H1 λi H2=>t o i v H2 λH3=>Q σ H3
theorem a2U {o i:Expr}{to ti:TE}{t:b1B}(ho:PE X o to)(hi:PE X i ti)(hs:b2D X t)
  (ha:∀v,assign (.Subscript o i pos) X.env v=(do
   let ov ←holding [v] (eval o X.env)
   let iv ←holding [v,ov] (eval i X.env)
   standAt pos
   holding [v,ov,iv] (setItem ov iv v)
   release [v,ov,iv] []):=by intro _;rfl):PG X (.Subscript o i pos) (b2T to ti t):=by
 intro pins s σ H v u Q I r h
 rw[ha]
 refine wpAny_bind (wpAny_holding (thn (ho pins s σ H _ I h) λov s1 ⟨x,H1,I1,r1,q1⟩=>?_))
 refine wpAny_bind (wpAny_holding (thn (hi pins s1 σ H1 _ I1 q1) λiv s2 ⟨y,H2,I2,r2,q2⟩=>?_))
 refine wpAny_bind (wpAny_standAt (wpAny_bind (wpAny_holding (thn (hs pins s2 σ H2 x y v ov iv u _ I2 r1 r2 r q2) λ_ s3 ⟨H3,I3,q3⟩=>?_))))
 exact wpAny_release ⟨σ,H3,I3,q3⟩
noncomputable def a1k (te:TE)(g:TG):TS:=λD σ H=>te σ H λx H1=>g x σ H1 D.nx
theorem a0Y {tg e:Expr}{te:TE}{g:TG}(he:PE X e te)(hg:PG X tg g)(hs:swapsWithSole [tg] e pos.line X.env=pure false:=by rfl)(hw:swappedStores [tg] e X.env=pure none:=by rfl)
  (h1:(assignEach [tg] X.env).map (·.2)=[assign tg X.env]:=by rfl):PS X (.Assign [tg] e pos) (a1k te g):=by
 intro pins s σ H D I h
 refine wpAny_Assign_stores (thn (he pins s σ H _ I h) λv s1 ⟨x,H1,I1,r1,q1⟩=>?_) hs hw
 rw[h1]
 exact thn (hg pins s1 σ H1 x v _ I1 r1 q1) λ_ s2 q=>q
theorem Z2 {i:Nat}{x:Str}{e:Expr}{te:TE}{pos':Pos}(hN:X.N.Nodup)(hi:X.N[i]? = some x)(hx:Loc X.env.scope x)(he:PE X e te)(hs:swapsWith e (some (.Name x pos')) pos.line X.env=pure false:=by rfl)(hf:X.fn x=true∨X.env.scope.names.lookup x=some .local:=by first | exact .inl rfl | exact .inr rfl | assumption) :
  PS X (.Assign [.Name x pos'] e pos) (a1k te (T2 i)):=by
 intro pins s σ H D I h
 refine wpAny_Assign_Name (thn (he pins s σ H _ I h) λv s1 ⟨y,H1,I1,r1,q1⟩=>?_) hs
 exact E3 I1 hN hi hx r1 (λs2 I2=>⟨_,H1,I2,q1⟩) hf
noncomputable def b2H (i j:Nat)(ta:TA):TS:=λD σ H=>ta σ H λvs H1=>∃v w,vs=[v,w]∧D.nx ((σ.set i (some v)).set j (some w)) H1
theorem b1a {i j:Nat}{x y:Str}{a b:Expr}{ta:TA}{px py pt:Pos}{kt k2 pt2}(hc:X.calm=true)(hN:X.N.Nodup)(hi:X.N[i]? = some x)(hj:X.N[j]? = some y)(hij:i≠j)
  (hx:X.env.scope.names.lookup x=some .local) (hy:X.env.scope.names.lookup y=some .local) (ha:PA X [a,b] ta)
  (hw:swappedStores [.Tuple [.Name x px,.Name y py] kt pt] (.Tuple [a,b] k2 pt2) X.env=pure (some [x,y]))
  (hs:swapsWithSole [.Tuple [.Name x px,.Name y py] kt pt] (.Tuple [a,b] k2 pt2) pos.line X.env=pure false:=by rfl) :
  PS X (.Assign [.Tuple [.Name x px,.Name y py] kt pt] (.Tuple [a,b] k2 pt2) pos) (b2H i j ta):=by
 intro pins s σ H D I h
 rw[exec_Assign_arm]
 refine wpAny_bind (wpAny_standAt ?_)
 rw[hs]
 refine wpAny_bind (wpAny_pure ?_)
 rw[if_neg (by decide)]
 refine wpAny_bind (Tuple_ (thn (ha _ pins s σ H _ I h) λus s1 ⟨vs,H1,I1,r1,q1⟩=>?_))
 obtain⟨v,w,e1,q1⟩:=q1
 subst e1
 obtain⟨u1,u2,rfl,rv,rw'⟩:∃u1 u2,us=[u1,u2]∧v4 v u1∧v4 w u2:=by
  cases r1 with
  | cons p q =>
   cases q with
   | cons p' q' =>
    cases q'
    exact⟨_,_,rfl,p,p'⟩
 refine wpAny_newObj_type ?_ (by show 2≤sizeLine;decide)
 have I2:Inv X pins σ H1 { s1 with heap:=s1.heap.push { cls:=.type "tuple",data:=.seq [u1,u2].toArray } }:=I1.kept (t':=s1.toks) λb o e=>Heap.get?_push_of_some _ e
 rw[hw]
 refine wpAny_bind (wpAny_pure ?_)
 show wpAny (model X.prog X.w) X.A (do rule "assign.swapped-stores";let items ←unpackItems (.ref s1.heap.objs.size) 2 none;assignInOrder [λv=>bindName X.env y v,λv=>bindName X.env x v] items.reverse;pure Flow.next) _ _ _
 refine wpAny_bind (wpAny_rule (wpAny_bind (unpackItems_tuple (items:=#[u1,u2]) (I.ok.hd hc) (IsTup.new s1.heap _) λh' hx'=>?_)))
 have I3:=I2.kept (h':=h') (t':=s1.toks) λb o e=>hx' b o (Nat.ne_of_lt (Heap.lt_size e)) e
 show wpAny _ _ (assignInOrder [λv=>bindName X.env y v,λv=>bindName X.env x v] [u2,u1] >>= λ_=>pure Flow.next) _ _ _
 refine wpAny_bind (assignInOrder_cons (wpAny_bindName (E3 I3 hN hj (.inl hy) rw' (λs2 I4=>?_) (.inr hy))))
 refine assignInOrder_cons (wpAny_bindName (E3 I4 hN hi (.inl hx) rv (λs3 I5=>assignInOrder_nil (wpAny_pure ?_)) (.inr hx)))
 rw[List.set_comm _ _ (Ne.symm hij)]at I5
 exact⟨_,H1,I5,q1⟩
noncomputable def a9i (i:Nat)(te:TE)(ti:TIp):TS:=λD σ H=>∃x,σ[i]? = some (some x)∧te σ H λy H1=>ti x y H1 λz H2=>D.nx (σ.set i (some z)) H2
theorem a88 {i:Nat}{x:Str}{e:Expr}{te:TE}{op:Operator}{ti:TIp}{pos':Pos}(hN:X.N.Nodup)(hi:X.N[i]? = some x)(hx:Loc X.env.scope x)(he:PE X e te)(ho:PIp X op ti)(hf:X.fn x=true∨X.env.scope.names.lookup x=some .local:=by first | exact .inl rfl | exact .inr rfl | assumption) :
  PS X (.AugAssign (.Name x pos') op e pos) (a9i i te ti):=by
 intro pins s σ H D I h
 obtain⟨v,e1,h⟩:=h
 obtain⟨m,hn,hl⟩:=I.loc
 have vis:Vis X.env.scope x:=by rcases hx with k | k;exact .inl k;exact .inr (.inl k)
 obtain⟨u,r,l⟩:=hl i x v hi e1 vis
 refine wpAny_AugAssign_Name ?_
 have go:wpAny (model X.prog X.w) X.A (eval e X.env) (λw s₂=>wpAny (model X.prog X.w) X.A (inplaceOp op u w) (λr s₃=>wpAny (model X.prog X.w) X.A (storeName X.env x r) (λ_=>SP X pins D .next) X.xe s₃) X.xe s₂) X.xe s:=by
  refine thn (he pins s σ H _ I h) λw s1 ⟨y,H1,I1,r1,q1⟩=>?_
  refine thn (ho pins s1 σ H1 v y u w _ I1 r r1 q1) λz s2 ⟨zv,H2,I2,r2,q2⟩=>?_
  exact E3 I2 hN hi hx r2 (λs3 I3=>⟨_,H2,I3,q2⟩) hf
 rcases l with ⟨hk,hm⟩ | ⟨hk,c,hc,hcell⟩
 ·exact wpAny_loadName_local I.ok.kind hk hn hm go
 ·rcases hk with hk | hk
  ·exact wpAny_loadName_cell I.ok.kind hk hc hcell go
  ·rcases hx with k | k
   ·have:X.env.scope.names.lookup x=some .free:=hk
    rw[k]at this;cases this
   ·have:X.env.scope.names.lookup x=some .free:=hk
    rw[k]at this;cases this
noncomputable def ipI (f:Int->Int->Int):TIp:=λx y H Q=>∃i j,x = .int i∧y = .int j∧Q (.int (f i j)) H
theorem b1k:PIp X .Add (ipI λi j=>i+j):=by
 intro pins s σ H x y v u Q I r1 r2 h
 obtain⟨i,j,e1,e2,q⟩:=h
 subst e1;subst e2
 obtain⟨t,rfl⟩:=r1
 obtain⟨t',rfl⟩:=r2
 exact iadd_int ⟨.int _,H,I.tok _,⟨_,rfl⟩,q⟩
end
section
variable {X:Cx}{pos:Pos}
noncomputable def a5r (c:TT)(tb:TS):TS:=λD σ H=>∃W:Nat->St->Hp->Prop,(∃m,W m σ H)∧∀m σ H,W m σ H ->
 c σ H λb H1=>if b=true then ∃N:St->Hp->Prop,(∀σ' H',N σ' H'->∃m',m'<m∧W m' σ' H')∧tb { D with nx:=N,ct:=N,bk:=D.nx } σ H1 else D.nx σ H1
theorem a7G {c:Expr}{body:List Stmt}{tc:TT}{tb:TS}(hp:PassesOwn (model X.prog X.w) X.A X.env X.xe)(hc:PT X c tc)(hb:PSs X body tb):PS X (.While c body [] pos) (a5r tc tb):=by
 intro pins s σ H D I h
 obtain⟨W,⟨m0,w0⟩,turn⟩:=h
 refine wpAny_While (codeAny_whileLoop (λn s'=>∃σ' H',Inv X pins σ' H' s'∧W n σ' H') ?_ m0 ⟨σ,H,I,w0⟩)
 rintro n s1 ⟨σ1,H1,I1,w1⟩
 refine wpAny_passesOwn hp (thn (hc pins s1 σ1 H1 _ I1 (turn n σ1 H1 w1)) λb s2 ⟨H2,I2,q2⟩=>?_)
 cases b with
 | true =>
  obtain⟨N,hN,q2⟩:=q2
  rw[if_pos rfl]
  refine wpAny_passesOwn hp (thn (hb pins s2 σ1 H2 _ I2 q2) λf s3 q3=>?_)
  cases f with
  | next =>
   obtain⟨σ3,H3,I3,n3⟩:=q3
   obtain⟨m',hm,w3⟩:=hN σ3 H3 n3
   exact⟨m',hm,σ3,H3,I3,w3⟩
  | cont =>
   obtain⟨σ3,H3,I3,n3⟩:=q3
   obtain⟨m',hm,w3⟩:=hN σ3 H3 n3
   exact⟨m',hm,σ3,H3,I3,w3⟩
  | brk=>exact q3
  | ret v=>exact q3
 | false =>
  rw[if_neg Bool.false_ne_true]
  exact wpAny_execs_nil ⟨σ1,H2,I2,q2⟩
end
structure It where
 go:Nat->Hp->Prop
 yld:Nat->Hp->V->Hp->Prop
 stop:Nat->Hp->Prop
noncomputable def Z6 (X:Cx)(pins:List (Addr×Obj))(H:Hp)(b:Addr):Prop :=
 H b=none∧b≠X.env.locals∧b ∉ X.fs∧(b∈X.ex∨X.s₀.heap.objs.size≤b)∧(∀x c,X.env.cells.lookup x=some c->c≠b)∧∀p∈X.pn++pins,p.1≠b
theorem Inv.fpOk {X:Cx}{pins:List (Addr×Obj)}{σ:St}{H H':Hp}{s:Shared}{b:Addr}(I:Inv X pins σ H s)(hb:s.heap.objs.size≤b)(hn:H' b=none):Z6 X pins H' b:=by
 refine⟨hn,Nat.ne_of_gt (Nat.lt_of_lt_of_le I.lt hb),I.nofs hb,.inr (Nat.le_trans I.sz hb),λx c e z=>?_,λp hp z=>?_⟩
 ·obtain⟨v,q⟩:=I.cell x c e
  exact absurd (Nat.lt_of_lt_of_le q.lt (by rw[z];exact hb)) (Nat.lt_irrefl _)
 ·exact absurd (Nat.lt_of_lt_of_le (Heap.lt_size (I.pin p hp).1) (by rw[z];exact hb)) (Nat.lt_irrefl _)
structure Turn (P:Program) (w:World) (K:PySem.W.Frag) (tg:Expr) (J:It) (fp:List Addr) (it:Addr) (tn:Nat->Heap->Prop):Prop where
 mem:it∈fp
 obj:∀i h,tn i h->∀b∈fp,∃o,h.get? b=some o∧∀v,o.data ≠ .cell v
 keep:∀i h h',tn i h->(∀b∈fp,∀o,h.get? b=some o->h'.get? b=some o)->tn i h'
 item:∀(X:Cx),X.prog=P->X.w=w->X.K=K->X.calm=true->∀(i:Nat) (pins:List (Addr×Obj)) (s:Shared) (σ:St) (H:Hp) (E:Value->Shared->Prop),Inv X pins σ H s->(∀b∈fp,Z6 X pins H b)->tn i s.heap->J.go i H ->
  wpAny (model P w) X.A (pyNext (.ref it)) (λr s1=>∃u,r=some u ∧
   wpAny (model P w) X.A (letOwnedTupleGo tg (.ref it) u) (λ_ s2=>∃x H',Inv X pins σ H' s2∧v4 x u∧J.yld i H x H'∧tn (i+1) s2.heap∧∀b∈fp,H' b=none) E s1) E s
 done:∀(X:Cx),X.prog=P->X.w=w->X.K=K->X.calm=true->∀(i:Nat) (pins:List (Addr×Obj)) (s:Shared) (σ:St) (H:Hp) (E:Value->Shared->Prop),Inv X pins σ H s->(∀b∈fp,Z6 X pins H b)->tn i s.heap->J.stop i H ->
  wpAny (model P w) X.A (pyNext (.ref it)) (λr s1=>r=none∧Inv X pins σ H s1) E s
 self:∀(A:Around) (i:Nat) (s:Shared) (Q:Value->Shared->Prop) (E:Value->Shared->Prop),tn i s.heap->Q (.ref it) s->wpAny (model P w) A (pyIter (.ref it)) Q E s
noncomputable abbrev TI:=St->Hp->(It->Hp->Prop)->Prop
noncomputable def PIE (X:Cx)(pins:List (Addr×Obj))(σ:St)(tg:Expr)(R:It->Hp->Prop)(itv:Value)(s2:Shared):Prop :=
 ∃(it:Addr) (fp:List Addr) (tn:Nat->Heap->Prop) (J:It) (H':Hp),itv = .ref it∧Inv X pins σ H' s2∧Turn X.prog X.w X.K tg J fp it tn∧tn 0 s2.heap∧(∀b∈fp,Z6 X pins H' b)∧R J H'
noncomputable def PI (X:Cx)(tg iter:Expr)(wi:TI):Prop :=
 ∀(pins:List (Addr×Obj)) (s:Shared) (σ:St) (H:Hp) (R:It->Hp->Prop),Inv X pins σ H s->wi σ H R ->
  wpAny (model X.prog X.w) X.A (eval iter X.env) (λv s1=>wpAny (model X.prog X.w) X.A (pyIter v) (PIE X pins σ tg R) X.xe s1) X.xe s
theorem a7W {M:Model}{A:Around}{E:Value->Shared->Prop}{s:Shared}{tg:Expr}{it:Addr}{u:Value}{o:Obj}{n:String}{vs:Array Value}{Q:Unit->Shared->Prop}(ho:s.heap.get? it=some o)(hc:o.cls = .type n)(hd:o.data = .fields vs)
    (hn:["enumerate","zip","dict_itemiterator","dict_reverseitemiterator","odict_iterator","itertools.zip_longest","itertools.pairwise"].contains n=false) (hQ:Q () s):wpAny M A (letOwnedTupleGo tg (.ref it) u) Q E s:=by
  unfold letOwnedTupleGo
  cases tg <;> first
    | exact wpAny_pure hQ
    | (cases u <;> first
        | exact wpAny_pure hQ
        | (refine wpAny_bind (wpAny_load ho ?_)
           rw[hc,hd]
           show wpAny M A (if (["enumerate","zip","dict_itemiterator","dict_reverseitemiterator","odict_iterator","itertools.zip_longest","itertools.pairwise"].contains n&&vs[0]? == some (rawInt _))=true then _ else _) Q E s
           rw[if_neg (by intro h;rw[hn,Bool.false_and]at h;cases h)]
           exact wpAny_pure hQ))
noncomputable def Itl (K:PySem.W.Frag)(a:Addr):It :=
 ⟨λi H=>∃xs x,SqL K H a xs∧xs[i]? = some x,λi H x H'=>H'=H∧∀xs,SqL K H a xs->xs[i]? = some x,λi H=>∃xs,SqL K H a xs∧xs.length≤i⟩
noncomputable def Itt (K:PySem.W.Frag)(a:Addr):It :=
 ⟨λi H=>∃xs x,SqT K H a xs∧xs[i]? = some x,λi H x H'=>H'=H∧∀xs,SqT K H a xs->xs[i]? = some x,λi H=>∃xs,SqT K H a xs∧xs.length≤i⟩
noncomputable def Itr (lo:Int)(n:Nat):It:=⟨λi _=>i<n,λi H x H'=>H'=H∧x = .int (lo+i),λi _=>n≤i⟩
theorem a7b {P:Program}{w:World}{K:PySem.W.Frag}{tg:Expr}(a it:Addr):Turn P w K tg (Itl K a) [it] it (λi h=>h.IsListIter it a i) where
 mem:=by simp
 obj:=λi h st b hb=>by
  have e:b=it:=by simpa using hb
  subst e
  obtain⟨o,e,c,d⟩:=st
  exact⟨o,e,λv z=>by rw[d]at z;cases z⟩
 keep:=λi h h' st k=>st.at λo e=>k it (by simp) o e
 item:=by
  intro X hP hw hK hc i pins s σ H E I hf st hg
  subst hP hw hK
  obtain⟨xs,x,hq,hx⟩:=hg
  obtain⟨its,rv,p,hz⟩:=I.list hq
  obtain⟨u,hu,ru⟩:=rv.get hx
  obtain⟨f0,f1,f2,f3,f4,f5⟩:=hf it (by simp)
  refine wpAny_pyNext_list_item st p.isList (x:=u) (by simpa using hu) λh' st' sb=>?_
  have I1:Inv X pins σ H { s with heap:=h' }:=I.turned (t':=s.toks) (λb o hb e=>(sb.2 b hb).trans e) f0 f1 f3 f4 f5
  obtain⟨o,e,c,d⟩:=id st'
  exact⟨u,rfl,a7W (s:={ s with heap:=h' }) e c d (by decide) ⟨x,H,I1,ru,⟨rfl,λys hy=>by rw[I.list_inj hy hq];exact hx⟩,st',λb hb=>(hf b hb).1⟩⟩
 done:=by
  intro X hP hw hK hc i pins s σ H E I hf st hg
  subst hP hw hK
  obtain⟨xs,hq,hx⟩:=hg
  obtain⟨its,rv,p,hz⟩:=I.list hq
  obtain⟨f0,f1,f2,f3,f4,f5⟩:=hf it (by simp)
  have hl:=rv.length
  exact wpAny_pyNext_list_end (I.ok.hd hc) st p.isList (by simp;omega) λh' eb=>⟨rfl,I.turned (t':=s.toks) (λb o hb e=>eb b o hb e) f0 f1 f3 f4 f5⟩
 self:=λ_ _ _ _ _ st h=>wpAny_pyIter_listiter st h
theorem a5j {P:Program}{w:World}{K:PySem.W.Frag}{tg:Expr}(a it:Addr):Turn P w K tg (Itt K a) [it] it (λi h=>h.IsTupleIter it a i) where
 mem:=by simp
 obj:=λi h st b hb=>by
  have e:b=it:=by simpa using hb
  subst e
  obtain⟨o,e,c,d⟩:=st
  exact⟨o,e,λv z=>by rw[d]at z;cases z⟩
 keep:=λi h h' st k=>st.at λo e=>k it (by simp) o e
 item:=by
  intro X hP hw hK hc i pins s σ H E I hf st hg
  subst hP hw hK
  obtain⟨xs,x,hq,hx⟩:=hg
  obtain⟨its,rv,p,hz⟩:=I.tuple hq
  obtain⟨u,hu,ru⟩:=rv.get hx
  obtain⟨f0,f1,f2,f3,f4,f5⟩:=hf it (by simp)
  refine wpAny_pyNext_tuple_item st (show s.heap.IsTuple a its.toArray from p) (x:=u) (by simpa using hu) λh' st' sb=>?_
  have I1:Inv X pins σ H { s with heap:=h' }:=I.turned (t':=s.toks) (λb o hb e=>(sb.2 b hb).trans e) f0 f1 f3 f4 f5
  obtain⟨o,e,c,d⟩:=id st'
  exact⟨u,rfl,a7W (s:={ s with heap:=h' }) e c d (by decide) ⟨x,H,I1,ru,⟨rfl,λys hy=>by rw[I.tuple_inj hy hq];exact hx⟩,st',λb hb=>(hf b hb).1⟩⟩
 done:=by
  intro X hP hw hK hc i pins s σ H E I hf st hg
  subst hP hw hK
  obtain⟨xs,hq,hx⟩:=hg
  obtain⟨its,rv,p,hz⟩:=I.tuple hq
  obtain⟨f0,f1,f2,f3,f4,f5⟩:=hf it (by simp)
  have hl:=rv.length
  exact wpAny_pyNext_tuple_end (I.ok.hd hc) st (show s.heap.IsTuple a its.toArray from p) (by simp;omega) λh' eb=>⟨rfl,I.turned (t':=s.toks) (λb o hb e=>eb b o hb e) f0 f1 f3 f4 f5⟩
 self:=λ_ _ _ _ _ st h=>wpAny_pyIter_tupleiter st h
theorem a4v {P:Program}{w:World}{K:PySem.W.Frag}{tg:Expr}(it:Addr)(lo:Int)(n:Nat):Turn P w K tg (Itr lo n) [it] it (λi h=>IsRangeIter h it (lo+(i:Nat)*1) ((n:Int)-(i:Nat)) 1) where
 mem:=by simp
 obj:=λi h st b hb=>by
  have e:b=it:=by simpa using hb
  subst e
  exact⟨_,st,λv z=>by
   have z':Data.fields _=Data.cell v:=z
   cases z'⟩
 keep:=λi h h' st k=>k it (by simp) _ st
 item:=by
  intro X hP hw hK hc i pins s σ H E I hf st hg
  subst hP hw hK
  obtain⟨f0,f1,f2,f3,f4,f5⟩:=hf it (by simp)
  have W:=Walks.range (prog:=X.prog) (w:=X.w) (I.ok.hd hc) it lo 1 n
  refine W.item i s _ _ hg st λv h' tk hv st' kk=>?_
  obtain⟨t,rfl⟩:=hv
  have I1:Inv X pins σ H { s with heap:=h',toks:=tk }:=I.turned (λb o hb e=>kk b o (by simpa using hb) e) f0 f1 f3 f4 f5
  refine⟨_,rfl,a7W (s:={ s with heap:=h',toks:=tk }) (n:="range_iterator") st' rfl rfl (by decide) ⟨.int (lo+i),H,I1,⟨t,?_⟩,⟨rfl,rfl⟩,st',λb hb=>(hf b hb).1⟩⟩
  rw[Int.mul_one]
 done:=by
  intro X hP hw hK hc i pins s σ H E I hf st hg
  subst hP hw hK
  obtain⟨f0,f1,f2,f3,f4,f5⟩:=hf it (by simp)
  exact wpAny_pyNext_range_end (I.ok.hd hc) st (by have:n≤i:=hg;omega) λh' eb=>⟨rfl,I.turned (t':=s.toks) (λb o hb e=>eb b o hb e) f0 f1 f3 f4 f5⟩
 self:=λ_ _ _ _ _ st h=>wpAny_pyIter_rangeiter st h
end L2
namespace L2
open PySem PySem.Spec PyProof.Rows
section
variable {X:Cx}{tg:Expr}
theorem a84 {pins:List (Addr×Obj)}{σ:St}{H:Hp}{s:Shared}{R:It->Hp->Prop}{E:Value->Shared->Prop}{lo hi:Int}{t u v:Tok}{tk:Nat}(I:Inv X pins σ H s)(h1:-(2 ^ 62)≤lo)(h2:lo<2 ^ 62)(h3:-(2 ^ 62)≤hi)(h4:hi<2 ^ 62)
  (q:R (Itr lo (hi-lo).toNat) H):wpAny (model X.prog X.w) X.A (pyIter (.ref s.heap.objs.size)) (PIE X pins σ tg R) E { s with heap:=s.heap.push { cls:=.type "range",data:=.fields #[.int lo t,.int hi u,.int 1 v] },toks:=tk }:=by
 refine wpAny_pyIter_range (IsRange.new ..) (small_one h1 h2 h3 h4) ?_
 have I1:Inv X pins σ H { s with heap:=s.heap.push { cls:=.type "range",data:=.fields #[.int lo t,.int hi u,.int 1 v] },toks:=tk }:=I.kept λb o e=>Heap.get?_push_of_some _ e
 refine⟨(s.heap.push { cls:=.type "range",data:=.fields #[.int lo t,.int hi u,.int 1 v] }).objs.size,[(s.heap.push { cls:=.type "range",data:=.fields #[.int lo t,.int hi u,.int 1 v] }).objs.size],_,_,H,rfl,
  I1.kept (t':=tk) λb o e=>Heap.get?_push_of_some _ e,a4v _ lo (hi-lo).toNat,?_,λb hb=>?_,q⟩
 ·have e1:lo+((0:Nat):Int)*1=lo:=by simp
  have e2:(((hi-lo).toNat:Nat):Int)-((0:Nat):Int)=Builtin.Range.rangeSize lo hi 1:=by rw[rangeSize_one];split <;> omega
  show IsRangeIter _ _ (lo+((0:Nat):Int)*1) ((((hi-lo).toNat:Nat):Int)-((0:Nat):Int)) 1
  rw[e1,e2]
  exact Heap.get?_push_size _ rfl
 ·have e:b=(s.heap.push { cls:=.type "range",data:=.fields #[.int lo t,.int hi u,.int 1 v] }).objs.size:=by simpa using hb
  subst e
  exact I1.fpOk (Nat.le_refl _) (I1.hok.fresh (Nat.le_refl _))
noncomputable def b0P (ta:TA):TI:=λσ H R=>ta σ H λvs H1=>∃j:Int,vs=[.int j] ∧ -(2 ^ 62)≤j∧j<2 ^ 62∧R (Itr 0 j.toNat) H1
theorem a7j {a:Expr}{ta:TA}{p pos:Pos}(hg:Gl X "range")(hm:X.mg "range" = none)(ha:PA X [a] ta)(hs:starEach [a] X.env=[(false,eval a X.env)]:=by rfl):PI X tg (.Call (.Name "range" p) [a] [] pos) (b0P ta):=by
 intro pins s σ H R I h
 refine Call_ (Y3 I hg hm boot_range (PyProof.Rows.callWith_type1 (thn (ha pos pins s σ H _ I h) λus s1 ⟨vs,H1,I1,r1,q1⟩=>?_) hs rfl))
 obtain⟨j,e,q1,q2,q⟩:=q1
 subst e
 cases r1 with
 | cons r rr =>
  cases rr
  obtain⟨t,rfl⟩:=r
  exact call_range_1 (a84 I1 (by omega) (by omega) q1 q2 (by simpa using q))
noncomputable def b1r (wi:TI)(g:TG)(tb:TS):TS:=λD σ H=>wi σ H λJ H1=>∃W:Nat->Nat->St->Hp->Prop,(∃m,W 0 m σ H1)∧∀i m σ H,W i m σ H ->
 (J.stop i H∧D.nx σ H)∨(J.go i H∧∃N:St->Hp->Prop,(∀σ' H',N σ' H'->∃m',m'<m∧W (i+1) m' σ' H')∧∀x H',J.yld i H x H'->g x σ H' λσ2 H2=>tb { D with nx:=N,ct:=N,bk:=D.nx } σ2 H2)
noncomputable def U7 (fp:List Addr)(h:Heap):List (Addr×Obj):=fp.filterMap λb=>(h.get? b).map λo=>(b,o)
theorem x8 {fp:List Addr}{h:Heap}{b:Addr}{o:Obj}(hb:b∈fp)(e:h.get? b=some o):(b,o)∈U7 fp h:=List.mem_filterMap.mpr ⟨b,hb,by rw[e];rfl⟩
theorem a74 {fp:List Addr}{h:Heap}{p:Addr×Obj}(hp:p∈U7 fp h):p.1∈fp∧h.get? p.1=some p.2:=by
 obtain⟨b,hb,e⟩:=List.mem_filterMap.mp hp
 cases q:h.get? b with
 | none=>rw[q]at e;cases e
 | some o =>
  rw[q]at e
  have e':(b,o)=p:=Option.some.inj e
  subst e'
  exact⟨hb,q⟩
theorem Inv.pinned {pins:List (Addr×Obj)}{σ:St}{H:Hp}{s:Shared}{fp:List Addr}(I:Inv X pins σ H s)(hf:∀b∈fp,Z6 X pins H b)(ho:∀b∈fp,∃o,s.heap.get? b=some o∧∀v,o.data ≠ .cell v):Inv X (pins++U7 fp s.heap) σ H s :=
 I.pins_of λp hp=>(List.mem_append.mp hp).elim (λz=>I.pin p (List.mem_append_right _ z)) λz=>by
  obtain⟨hb,e⟩:=a74 z
  obtain⟨f0,f1,f2,_⟩:=hf p.1 hb
  obtain⟨o,e',d⟩:=ho p.1 hb
  rw[e]at e';cases e'
  exact⟨e,f0,f1,f2,d⟩
theorem Inv.unpinned {pins pl:List (Addr×Obj)}{σ:St}{H:Hp}{s:Shared}(I:Inv X (pins++pl) σ H s):Inv X pins σ H s:=I.pins_of λp hp=>I.pin p (List.mem_append_right _ (List.mem_append_left _ hp))
theorem b1o {iter:Expr}{body:List Stmt}{wi:TI}{g:TG}{tb:TS}{pos:Pos}(hp:PassesOwn (model X.prog X.w) X.A X.env X.xe)(hc:X.calm=true)(hi:PI X tg iter wi)(hg:PG X tg g)(hb:PSs X body tb)
  (hs:∀x,foldedSetIterable iter X.env x=pure x:=by intro _;rfl):PS X (.For tg iter body [] pos) (b1r wi g tb):=by
 intro pins s σ H D I h
 refine wpAny_For (thn (hi pins s σ H _ I h) λv s1 h1=>thn h1 λitv s2 h2=>?_) hs
 obtain⟨it,fp,tn,J,H2,e,I2,T,st2,f2,W,⟨m0,w0⟩,turn⟩:=h2
 subst e
 -- what stays true of the iterator's objects through the loop
 have stat:∀{H':Hp},(∀b∈fp,H' b=none)->∀b∈fp,Z6 X pins H' b:=λhn b hb=>⟨hn b hb,(f2 b hb).2⟩
 refine codeAny_forLoop_any (λn s'=>∃i σ' H',Inv X pins σ' H' s'∧tn i s'.heap∧(∀b∈fp,H' b=none)∧W i n σ' H') ?_ m0 ⟨0,σ,H2,I2,st2,λb hb=>(f2 b hb).1,w0⟩
 rintro n s3 ⟨i,σ3,H3,I3,st3,fr3,w3⟩
 rcases turn i n σ3 H3 w3 with ⟨stop,qn⟩ | ⟨go,N,hN,step⟩
 ·refine wpAny_passesOwn hp (thn (T.done X rfl rfl rfl hc i pins s3 σ3 H3 X.xe I3 (stat fr3) st3 stop) λr s4 ⟨hr,I4⟩=>?_)
  subst hr
  exact wpAny_execs_nil ⟨σ3,H3,I4,qn⟩
 ·refine wpAny_passesOwn hp (thn (T.item X rfl rfl rfl hc i pins s3 σ3 H3 X.xe I3 (stat fr3) st3 go) λr s4 ⟨u,hr,h4⟩=>?_)
  subst hr
  refine wpAny_passesOwn hp (thn h4 λ_ s5 ⟨x,H5,I5,r5,y5,st5,fr5⟩=>?_)
  have I5':=I5.pinned (stat fr5) (T.obj _ _ st5)
  refine wpAny_passesOwn hp (thn (hg _ s5 σ3 H5 x u _ I5' r5 (step x H5 y5)) λ_ s6 ⟨σ6,H6,I6,q6⟩=>?_)
  refine wpAny_passesOwn hp (thn (hb _ s6 σ6 H6 _ I6 q6) λf s7 q7=>?_)
  have again:∀{σ7:St} {H7:Hp},Inv X (pins++U7 fp s5.heap) σ7 H7 s7->N σ7 H7->∃m,m<n∧∃i σ' H',Inv X pins σ' H' s7∧tn i s7.heap∧(∀b∈fp,H' b=none)∧W i m σ' H':=λ{σ7 H7} I7 n7=>by
   obtain⟨m',hm,w7⟩:=hN σ7 H7 n7
   refine⟨m',hm,i+1,σ7,H7,I7.unpinned,T.keep _ _ _ st5 λb hb o e=>(I7.pin (b,o) (List.mem_append_right _ (List.mem_append_right _ (x8 hb e)))).1,λb hb=>?_,w7⟩
   obtain⟨o,e,d⟩:=T.obj _ _ st5 b hb
   exact(I7.pin (b,o) (List.mem_append_right _ (List.mem_append_right _ (x8 hb e)))).2.1
  cases f with
  | next=>obtain⟨σ7,H7,I7,n7⟩:=q7;exact again I7 n7
  | cont=>obtain⟨σ7,H7,I7,n7⟩:=q7;exact again I7 n7
  | brk=>obtain⟨σ7,H7,I7,q7⟩:=q7;exact⟨σ7,H7,I7.unpinned,q7⟩
  | ret v=>obtain⟨x7,σ7,H7,I7,r7,q7⟩:=q7;exact⟨x7,σ7,H7,I7.unpinned,r7,q7⟩
end
end L2
namespace L2
open PySem PySem.Spec PyProof.Rows
noncomputable abbrev R2:=V->V->Hp->VK->Prop
noncomputable def OpR (X:Cx)(f:Value->Value->Sem Value)(r:R2):Prop :=
 ∀(pins:List (Addr×Obj)) (s:Shared) (σ:St) (H:Hp) (x y:V) (v u:Value) (Q:VK),Inv X pins σ H s->v4 x v->v4 y u->r x y H Q ->
  wpAny (model X.prog X.w) X.A (f v u) (EP X pins σ Q) X.xe s
noncomputable def UnR (X:Cx)(f:Value->Sem Value)(r:V->Hp->VK->Prop):Prop :=
 ∀(pins:List (Addr×Obj)) (s:Shared) (σ:St) (H:Hp) (x:V) (v:Value) (Q:VK),Inv X pins σ H s->v4 x v->r x H Q ->
  wpAny (model X.prog X.w) X.A (f v) (EP X pins σ Q) X.xe s
noncomputable def C2 (X:Cx)(f:Value)(r:List V->Hp->VK->Prop):Prop :=
 ∀(pins:List (Addr×Obj)) (s:Shared) (σ:St) (H:Hp) (xs:List V) (us:List Value) (Q:VK),Inv X pins σ H s->k9 xs us->r xs H Q ->
  wpAny (model X.prog X.w) X.A (call f us) (EP X pins σ Q) X.xe s
noncomputable def b3L (X:Cx)(r:V->Hp->(Bool->Hp->Prop)->Prop):Prop :=
 ∀(pins:List (Addr×Obj)) (s:Shared) (σ:St) (H:Hp) (x:V) (v:Value) (Q:Bool->Hp->Prop),Inv X pins σ H s->v4 x v->r x H Q ->
  wpAny (model X.prog X.w) X.A (truthy v) (TP X pins σ Q) X.xe s
noncomputable def tOp (r:R2)(ta tb:TE):TE:=λσ H Q=>ta σ H λx H1=>tb σ H1 λy H2=>r x y H2 Q
noncomputable def tUn (r:V->Hp->VK->Prop)(ta:TE):TE:=λσ H Q=>ta σ H λx H1=>r x H1 Q
noncomputable def rI (C:Int->Int->Prop)(g:Int->Int->V):R2:=λx y H Q=>∃i j,x = .int i∧y = .int j∧C i j∧Q (g i j) H
noncomputable def rI0 (g:Int->Int->V):R2:=λx y H Q=>∃i j,x = .int i∧y = .int j∧Q (g i j) H
noncomputable def rU (g:Int->V):V->Hp->VK->Prop:=λx H Q=>∃i,x = .int i∧Q (g i) H
section
variable {X:Cx}{a b c:Expr}{ta tb tc:TE}{pos:Pos}
theorem b1S (ha:PE X a ta)(hb:PE X b tb){pins:List (Addr×Obj)}{s:Shared}{σ:St}{H:Hp}{R:V->V->Hp->Prop}(I:Inv X pins σ H s)
  (h:ta σ H λx H1=>tb σ H1 λy H2=>R x y H2) {Q:Value->Shared->Prop} {f:Value->Value->Sem Value}
  (hf:∀v u s2 x y H2,Inv X pins σ H2 s2->v4 x v->v4 y u->R x y H2->wpAny (model X.prog X.w) X.A (f v u) Q X.xe s2) :
  wpAny (model X.prog X.w) X.A (eval a X.env) (λv s₁=>wpAny (model X.prog X.w) X.A (eval b X.env) (λu s₂=>wpAny (model X.prog X.w) X.A (f v u) Q X.xe s₂) X.xe s₁) X.xe s:=by
 refine thn (ha pins s σ H _ I h) λv s1 ⟨x,H1,I1,r1,q1⟩=>?_
 refine thn (hb pins s1 σ H1 _ I1 q1) λu s2 ⟨y,H2,I2,r2,q2⟩=>?_
 exact hf v u s2 x y H2 I2 r1 r2 q2
theorem z4 {op:Operator}{r:R2}(ho:OpR X (binaryOp op) r)(ha:PE X a ta)(hb:PE X b tb):PE X (.BinOp a op b pos) (tOp r ta tb):=by
 intro pins s σ H Q I h
 exact wpAny_BinOp (b1S ha hb I h λv u s2 x y H2 I2 rx ry q=>ho pins s2 σ H2 x y v u Q I2 rx ry q)
theorem a8W {op:UnaryOp}{r:V->Hp->VK->Prop}(ho:UnR X (unaryOp op) r)(ha:PE X a ta):PE X (.UnaryOp op a pos) (tUn r ta):=by
 intro pins s σ H Q I h
 exact UnaryOp_ (thn (ha pins s σ H _ I h) λv s1 ⟨x,H1,I1,r1,q1⟩=>ho pins s1 σ H1 x v Q I1 r1 q1)
theorem opI {f:Value->Value->Sem Value}{C:Int->Int->Prop}{g:Int->Int->Int}
  (rule:∀(i j:Int) (t u:Tok) (s:Shared) (Q:Value->Shared->Prop) (E:Value->Shared->Prop),C i j->Q (.int (g i j) s.toks) { s with toks:=s.toks+1 }->wpAny (model X.prog X.w) X.A (f (.int i t) (.int j u)) Q E s) :
  OpR X f (rI C λi j=>.int (g i j)):=by
 intro pins s σ H x y v u Q I rx ry h
 obtain⟨i,j,rfl,rfl,hc,q⟩:=h
 obtain⟨t,rfl⟩:=rx
 obtain⟨t',rfl⟩:=ry
 exact rule i j t t' s _ _ hc ⟨.int (g i j),H,I.tok _,⟨_,rfl⟩,q⟩
theorem b2X {f:Value->Value->Sem Value}{g:Int->Int->Int}
  (rule:∀(i j:Int) (t u:Tok) (s:Shared) (Q:Value->Shared->Prop) (E:Value->Shared->Prop),Q (.int (g i j) s.toks) { s with toks:=s.toks+1 }->wpAny (model X.prog X.w) X.A (f (.int i t) (.int j u)) Q E s) :
  OpR X f (rI0 λi j=>.int (g i j)):=by
 intro pins s σ H x y v u Q I rx ry h
 obtain⟨i,j,rfl,rfl,q⟩:=h
 obtain⟨t,rfl⟩:=rx
 obtain⟨t',rfl⟩:=ry
 exact rule i j t t' s _ _ ⟨.int (g i j),H,I.tok _,⟨_,rfl⟩,q⟩
theorem b05 {f:Value->Value->Sem Value}{g:Int->Int->Bool}
  (rule:∀(i j:Int) (t u:Tok) (s:Shared) (Q:Value->Shared->Prop) (E:Value->Shared->Prop),Q (.bool (g i j)) s->wpAny (model X.prog X.w) X.A (f (.int i t) (.int j u)) Q E s) :
  OpR X f (rI0 λi j=>.bl (g i j)):=by
 intro pins s σ H x y v u Q I rx ry h
 obtain⟨i,j,rfl,rfl,q⟩:=h
 obtain⟨t,rfl⟩:=rx
 obtain⟨t',rfl⟩:=ry
 exact rule i j t t' s _ _ ⟨.bl (g i j),H,I,rfl,q⟩
noncomputable def b3S (i j:Int):Prop:=0<j∧j<1073741824
noncomputable def a9p (i j:Int):Prop:=0≤j∧j≤1000000∧i.natAbs<2 ^ 64
noncomputable def a8b (i j:Int):Prop:=(-(2 ^ 64)<i∧i<2 ^ 64)∨(-(2 ^ 64)<j∧j<2 ^ 64)
theorem a8b.ok {i j:Int}(h:a8b i j):IntMulOk i j:=by
 rcases h with ⟨h1,h2⟩ | ⟨h1,h2⟩
 ·exact .of_left (intBits_le_64 h1 h2)
 ·exact .of_right (intBits_le_64 h1 h2)
theorem Y5:OpR X (binaryOp .Add) (rI0 λi j=>.int (i+j)):=b2X λ_ _ _ _ _ _ _ q=>add_int q
theorem b1N:OpR X (binaryOp .Sub) (rI0 λi j=>.int (i-j)):=b2X λ_ _ _ _ _ _ _ q=>sub_int q
theorem Z0:OpR X (binaryOp .Mult) (rI a8b λi j=>.int (i*j)):=opI λ_ _ _ _ _ _ _ hc q=>mul_int q hc.ok
theorem a3d:OpR X (binaryOp .FloorDiv) (rI b3S λi j=>.int (i / j)):=opI λi j _ _ _ _ _ hc q=>by
 have h1:(0:Int)<j:=hc.1
 have h2:j<1073741824:=hc.2
 exact floordiv_int (by omega) (by rw[Int.fdiv_eq_ediv_of_nonneg i (by omega)];exact q) (.inl (PyProof.noPylong_small (by omega)))
theorem V1:OpR X (binaryOp .Mod) (rI (λ_ j=>0<j) λi j=>.int (i % j)):=opI λi j _ _ _ _ _ hc q=>by
 have h1:(0:Int)<j:=hc
 exact mod_int' (by omega) (by rw[Int.fmod_eq_emod_of_nonneg i (by omega)];exact q)
theorem a8N:OpR X (binaryOp .Pow) (rI a9p λi j=>.int (i ^ j.toNat)):=opI λ_ _ _ _ _ _ _ hc q=>pow_int_small hc.1 hc.2.1 hc.2.2 q
theorem unI {f:Value->Sem Value}{g:Int->Int}
  (rule:∀(i:Int) (t:Tok) (s:Shared) (Q:Value->Shared->Prop) (E:Value->Shared->Prop),Q (.int (g i) s.toks) { s with toks:=s.toks+1 }->wpAny (model X.prog X.w) X.A (f (.int i t)) Q E s) :
  UnR X f (rU λi=>.int (g i)):=by
 intro pins s σ H x v Q I rx h
 obtain⟨i,rfl,q⟩:=h
 obtain⟨t,rfl⟩:=rx
 exact rule i t s _ _ ⟨.int (g i),H,I.tok _,⟨_,rfl⟩,q⟩
theorem a5i:UnR X (unaryOp .USub) (rU λi=>.int (-i)):=unI λ_ _ _ _ _ q=>neg_int q
end
noncomputable def b3g:V->V->Bool
 | .non,.non=>true | .non,.int _=>true | .int _,.non=>true | .non,.bl _=>true | .bl _,.non=>true | .non,.str _=>true | .str _,.non=>true
 | .int _,.int _=>true | .bl _,.bl _=>true | .str _,.str _=>true | .byt _,.byt _=>true
 | .int _,.str _=>true | .str _,.int _=>true | .bl _,.str _=>true | .str _,.bl _=>true
 | _,_=>false
noncomputable def rEq:R2:=λx y H Q=>b3g x y=true∧Q (.bl (decide (x=y))) H
noncomputable def rNe:R2:=λx y H Q=>b3g x y=true∧Q (.bl (!decide (x=y))) H
theorem a6u {i j:Int}:decide (V.int i=V.int j)=(i == j):=by
 rw[Bool.eq_iff_iff]
 simp
theorem a83 {i j:Bool}:decide (V.bl i=V.bl j)=(i == j):=by
 rw[Bool.eq_iff_iff]
 simp
theorem a6f {i j:Str}:decide (V.str i=V.str j)=(i == j):=by
 rw[Bool.eq_iff_iff]
 simp
theorem a5I {i j:Array UInt8}:decide (V.byt i=V.byt j)=(i.toList == j.toList):=by
 rw[Bool.eq_iff_iff]
 cases i
 cases j
 simp
section
variable {X:Cx}{a b c:Expr}{ta tb tc:TE}{pos:Pos}
theorem n9 {pins:List (Addr×Obj)}{σ:St}{H:Hp}{s:Shared}{Q:VK}{k k':Bool}(I:Inv X pins σ H s)(q:Q (.bl k) H)(e:k=k'):EP X pins σ Q (.bool k') s:=by
 subst e
 exact⟨.bl k,H,I,rfl,q⟩
theorem b3t:OpR X (compareOp .Eq) rEq:=by
 intro pins s σ H x y v u Q I rx ry h
 obtain⟨hs,q⟩:=h
 cases x with
 | non =>
  cases rx
  cases y with
  | non=>cases ry;exact PySem.EqNone.eq_none_none (n9 I q (by simp))
  | bl j=>cases ry;exact PySem.EqNone.eq_none_bool (n9 I q (by simp))
  | int j=>obtain⟨t',rfl⟩:=ry;exact PySem.EqNone.eq_none_int (n9 I q (by simp))
  | str j=>obtain⟨t',rfl⟩:=ry;exact PySem.EqNone.eq_none_str (n9 I q (by simp))
  | _=>exact absurd (show false=true from hs) Bool.false_ne_true
 | bl i =>
  cases rx
  cases y with
  | non=>cases ry;exact PySem.EqNone.eq_bool_none (n9 I q (by simp))
  | bl j=>cases ry;exact eq_bool (n9 I q a83)
  | str j=>obtain⟨t',rfl⟩:=ry;exact PySem.EqMixed.eq_bool_str (n9 I q (by simp))
  | _=>exact absurd (show false=true from hs) Bool.false_ne_true
 | int i =>
  obtain⟨t,rfl⟩:=rx
  cases y with
  | non=>cases ry;exact PySem.EqNone.eq_int_none (n9 I q (by simp))
  | int j=>obtain⟨t',rfl⟩:=ry;exact eq_int (n9 I q a6u)
  | str j=>obtain⟨t',rfl⟩:=ry;exact PySem.EqMixed.eq_int_str (n9 I q (by simp))
  | _=>exact absurd (show false=true from hs) Bool.false_ne_true
 | str i =>
  obtain⟨t,rfl⟩:=rx
  cases y with
  | non=>cases ry;exact PySem.EqNone.eq_str_none (n9 I q (by simp))
  | bl j=>cases ry;exact PySem.EqMixed.eq_str_bool (n9 I q (by simp))
  | int j=>obtain⟨t',rfl⟩:=ry;exact PySem.EqMixed.eq_str_int (n9 I q (by simp))
  | str j=>obtain⟨t',rfl⟩:=ry;exact eq_str (n9 I q a6f)
  | _=>exact absurd (show false=true from hs) Bool.false_ne_true
 | byt i =>
  obtain⟨t,rfl⟩:=rx
  cases y with
  | byt j=>obtain⟨t',rfl⟩:=ry;exact PySem.W.eq_bytes (n9 I q a5I)
  | _=>exact absurd (show false=true from hs) Bool.false_ne_true
 | _=>cases y <;> exact absurd (show false=true from hs) Bool.false_ne_true
theorem b3x:OpR X (compareOp .NotEq) rNe:=by
 intro pins s σ H x y v u Q I rx ry h
 obtain⟨hs,q⟩:=h
 cases x with
 | non =>
  cases rx
  cases y with
  | non=>cases ry;exact PySem.EqNone.ne_none_none (n9 I q (by simp))
  | bl j=>cases ry;exact PySem.EqNone.ne_none_bool (n9 I q (by simp))
  | int j=>obtain⟨t',rfl⟩:=ry;exact PySem.EqNone.ne_none_int (n9 I q (by simp))
  | str j=>obtain⟨t',rfl⟩:=ry;exact PySem.EqNone.ne_none_str (n9 I q (by simp))
  | _=>exact absurd (show false=true from hs) Bool.false_ne_true
 | bl i =>
  cases rx
  cases y with
  | non=>cases ry;exact PySem.EqNone.ne_bool_none (n9 I q (by simp))
  | bl j=>cases ry;exact ne_bool (n9 I q (congrArg not a83))
  | str j=>obtain⟨t',rfl⟩:=ry;exact PySem.EqMixed.ne_bool_str (n9 I q (by simp))
  | _=>exact absurd (show false=true from hs) Bool.false_ne_true
 | int i =>
  obtain⟨t,rfl⟩:=rx
  cases y with
  | non=>cases ry;exact PySem.EqNone.ne_int_none (n9 I q (by simp))
  | int j=>obtain⟨t',rfl⟩:=ry;exact ne_int (n9 I q (congrArg not a6u))
  | str j=>obtain⟨t',rfl⟩:=ry;exact PySem.EqMixed.ne_int_str (n9 I q (by simp))
  | _=>exact absurd (show false=true from hs) Bool.false_ne_true
 | str i =>
  obtain⟨t,rfl⟩:=rx
  cases y with
  | non=>cases ry;exact PySem.EqNone.ne_str_none (n9 I q (by simp))
  | bl j=>cases ry;exact PySem.EqMixed.ne_str_bool (n9 I q (by simp))
  | int j=>obtain⟨t',rfl⟩:=ry;exact PySem.EqMixed.ne_str_int (n9 I q (by simp))
  | str j=>obtain⟨t',rfl⟩:=ry;exact ne_str (n9 I q (congrArg not a6f))
  | _=>exact absurd (show false=true from hs) Bool.false_ne_true
 | byt i =>
  obtain⟨t,rfl⟩:=rx
  cases y with
  | byt j=>obtain⟨t',rfl⟩:=ry;exact PySem.W.ne_bytes (n9 I q (congrArg not a5I))
  | _=>exact absurd (show false=true from hs) Bool.false_ne_true
 | _=>cases y <;> exact absurd (show false=true from hs) Bool.false_ne_true
theorem b0M:OpR X (compareOp .Lt) (rI0 λi j=>.bl (decide (i<j))):=b05 λ_ _ _ _ _ _ _ q=>lt_int q
theorem b3v:OpR X (compareOp .LtE) (rI0 λi j=>.bl (decide (i≤j))):=b05 λ_ _ _ _ _ _ _ q=>le_int q
theorem b16:OpR X (compareOp .Gt) (rI0 λi j=>.bl (decide (j<i))):=b05 λ_ _ _ _ _ _ _ q=>gt_int q
theorem b0G:OpR X (compareOp .GtE) (rI0 λi j=>.bl (decide (j≤i))):=b05 λ_ _ _ _ _ _ _ q=>ge_int q
theorem b1m:OpR X (compareOp .Is) (λx y H Q=>y = .non∧Q (.bl (decide (x = .non))) H):=by
 intro pins s σ H x y v u Q I rx ry h
 obtain⟨rfl,q⟩:=h
 cases ry
 refine is_none_gen (n9 I q ?_)
 cases x <;> first
  | (cases rx;rfl)
  | (obtain⟨t,rfl⟩:=rx;rfl)
theorem a0y (b:Expr){op:CmpOp}(h:op ≠ .In:=by decide)(h2:op ≠ .NotIn:=by decide):behindInMarks op b=false:=by
 have e1:(op == CmpOp.In)=false:=by cases op <;> first | rfl | exact absurd rfl h
 have e2:(op == CmpOp.NotIn)=false:=by cases op <;> first | rfl | exact absurd rfl h2
 cases b <;> simp[behindInMarks,e1,e2]
theorem b01 {op:CmpOp}{r:R2}(ho:OpR X (compareOp op) r)(ha:PE X a ta)(hb:PE X b tb)(hm:behindInMarks op b=false):PE X (.Compare a [op] [b] pos) (tOp r ta tb):=by
 intro pins s σ H Q I h
 exact wpAny_Compare1 (b1S ha hb I h λv u s2 x y H2 I2 rx ry q=>ho pins s2 σ H2 x y v u Q I2 rx ry q) hm
noncomputable def a6x (t:TE):TT:=λσ H Q=>t σ H λx H'=>∃k,x = .bl k∧Q k H'
theorem a02 {op:CmpOp}{r:R2}(ho:OpR X (compareOp op) r)(ha:PE X a ta)(hb:PE X b tb)(hm:behindInMarks op b=false):PT X (.Compare a [op] [b] pos) (a6x (tOp r ta tb)):=by
 intro pins s σ H Q I h
 refine wpAny_isTrue_Compare1 (thn (ha pins s σ H _ I h) λv s1 ⟨x,H1,I1,r1,q1⟩=>thn (hb pins s1 σ H1 _ I1 q1) λu s2 ⟨y,H2,I2,r2,q2⟩ =>
  thn (ho pins s2 σ H2 x y v u _ I2 r1 r2 q2) λc s3 ⟨z,H3,I3,r3,k,e,q3⟩=>?_) hm
 subst e
 cases r3
 exact wpAny_truthy_bool ⟨H3,I3,q3⟩
noncomputable def a5o (r r':R2)(ta tb tc:TE):TE:=λσ H Q=>ta σ H λx H1=>tb σ H1 λy H2=>r x y H2 λz H3=>∃k,z = .bl k ∧
 (if k=true then tc σ H3 λw' H4=>r' y w' H4 Q else Q (.bl false) H3)
theorem a8A {op op':CmpOp}{r r':R2}(ho:OpR X (compareOp op) r)(ho':OpR X (compareOp op') r')(ha:PE X a ta)(hb:PE X b tb)(hc:PE X c tc)
  (hm:lastMarks [op,op'] [b,c]=false:=by with_unfolding_all rfl):PT X (.Compare a [op,op'] [b,c] pos) (a6x (a5o r r' ta tb tc)):=by
 intro pins s σ H Q I h
 refine isTrue_chain (thn (ha pins s σ H _ I h) λv s1 ⟨x,H1,I1,r1,q1⟩=>test_link (thn (hb pins s1 σ H1 _ I1 q1) λu s2 ⟨y,H2,I2,r2,q2⟩ =>
  thn (ho pins s2 σ H2 x y v u _ I2 r1 r2 q2) λd s3 ⟨z,H3,I3,r3,k,e,q3⟩=>?_)) hm
 subst e
 cases r3
 refine wpAny_truthy_bool ?_
 cases k with
 | false =>
  obtain⟨k',e',q'⟩:=q3
  cases e'
  exact ite_ff ⟨H3,I3,q'⟩
 | true =>
  refine ite_tt (test_last (thn (hc pins s3 σ H3 _ I3 q3) λw' s4 ⟨z',H4,I4,r4,q4⟩=>thn (ho' pins s4 σ H4 y z' u w' _ I4 r2 r4 q4) λd' s5 ⟨z2,H5,I5,r5,k2,e2,q5⟩=>?_))
  subst e2
  cases r5
  exact wpAny_truthy_bool ⟨H5,I5,q5⟩
noncomputable def a96 (K:PySem.W.Frag)(x:V)(H:Hp)(k:Bool):Prop :=
 match x with
 | .non=>k=false
 | .bl b=>k=b
 | .int i=>k=(i != 0)
 | .str y=>y.length≤sizeLine∧k=((y.length:Int) != 0)
 | .byt y=>y.size≤sizeLine∧k=((y.size:Int) != 0)
 | .ref p=>(∃xs,SqL K H p xs∧k = !xs.isEmpty)∨(∃xs,SqT K H p xs∧k = !xs.isEmpty)∨∃kvs,H p=some (.dK kvs)∧k = !kvs.isEmpty
 | _=>False
theorem a4L {κ:Type}{kvs:List (κ×V)}{vs:List (κ×Value)}(r:KV kvs vs):(!vs.isEmpty) = !kvs.isEmpty:=by
 cases r <;> rfl
theorem a1P {xs:List V}{its:List Value}(r:k9 xs its):(!its.toArray.isEmpty) = !xs.isEmpty:=by
 cases r <;> simp
theorem Y6:(sizeLine:Nat)<2 ^ 63:=by rw[sizeLine_eq];decide
theorem b1Q:b3L X (λx H Q=>∃k,a96 X.K x H k∧Q k H):=by
 intro pins s σ H x v Q I rx h
 obtain⟨k,e,q⟩:=h
 have hl:=Y6
 have hs:sizeLine=16777216:=sizeLine_eq
 cases x with
 | non =>
  cases rx
  have e':k=false:=e
  subst e'
  exact truthy_none ⟨H,I,q⟩
 | bl b =>
  cases rx
  have e':k=b:=e
  subst e'
  exact wpAny_truthy_bool ⟨H,I,q⟩
 | int i =>
  obtain⟨t,rfl⟩:=rx
  have e':k=(i != 0):=e
  subst e'
  exact PySem.P.truthy_int ⟨H,I,q⟩
 | str y =>
  obtain⟨t,rfl⟩:=rx
  obtain⟨hy,e'⟩:y.length≤sizeLine∧k=((y.length:Int) != 0):=e
  subst e'
  exact PySem.P.truthy_str (by omega) ⟨H,I.tok _,q⟩
 | byt y =>
  obtain⟨t,rfl⟩:=rx
  obtain⟨hy,e'⟩:y.size≤sizeLine∧k=((y.size:Int) != 0):=e
  subst e'
  exact PySem.W.truthy_bytes (by omega) ⟨H,I.tok _,q⟩
 | ref p =>
  cases rx
  have e':(∃xs,SqL X.K H p xs∧k = !xs.isEmpty)∨(∃xs,SqT X.K H p xs∧k = !xs.isEmpty)∨∃kvs,H p=some (.dK kvs)∧k = !kvs.isEmpty:=e
  rcases e' with ⟨xs,hx,e'⟩ | ⟨xs,hx,e'⟩ | ⟨kvs,hx,e'⟩
  ·subst e'
   obtain⟨its,r,pl,hz⟩:=I.list hx
   have hlen:=r.length
   exact wpAny_truthy_list pl.isList (by simp only[List.size_toArray];omega) ⟨H,I.tok _,by rw[a1P r];exact q⟩
  ·subst e'
   obtain⟨its,r,pl,hz⟩:=I.tuple hx
   have hlen:=r.length
   exact truthy_tuple pl (by simp only[List.size_toArray];omega) ⟨H,I.tok _,by rw[a1P r];exact q⟩
  ·subst e'
   obtain⟨hz,hS,vs,r,m⟩:kvs.length≤sizeLine∧(p == sysModules)=false∧∃vs,KV kvs vs∧s.heap.DictOf (a3f X.prog X.w) p vs:=I.hok p _ hx
   have hlen:kvs.length=vs.length:=Paired.length r
   exact wpAny_truthy_dict hS m (by omega) ⟨H,I.tok _,by rw[a4L r];exact q⟩
 | _=>exact(show False from e).elim
theorem a9f (ha:PE X a ta)(he:∀whole,isTrue a X.env whole=(do let v ←whole;standAt a.pos;holding [v] (truthy v))) :
  PT X a (λσ H Q=>ta σ H λx H'=>∃k,a96 X.K x H' k∧Q k H'):=by
 intro pins s σ H Q I h
 exact isTrue_plain (thn (ha pins s σ H _ I h) λv s1 ⟨x,H1,I1,r1,q1⟩=>b1Q pins s1 σ H1 x v Q I1 r1 q1) (he _)
theorem a4P:OpR X (binaryOp .Add) (λx y H Q=>∃i j,x = .str i∧y = .str j∧i.length+j.length≤sizeLine∧Q (.str (i++j)) H):=by
 intro pins s σ H x y v u Q I rx ry h
 obtain⟨i,j,rfl,rfl,hz,q⟩:=h
 obtain⟨t,rfl⟩:=rx
 obtain⟨t',rfl⟩:=ry
 exact add_str (λt' tk=>⟨.str (i++j),H,I.tok _,⟨_,rfl⟩,q⟩) hz
theorem U0 {x:V}{us:List Value}(r:k9 [x] us):∃u,us=[u]∧v4 x u:=by
 cases r with
 | cons r1 r2=>cases r2;exact⟨_,rfl,r1⟩
end
end L2
namespace L2
open PySem PySem.Spec PyProof.Rows
section
variable {prog:Program}{w:World}{A:Around}{E:Value->Shared->Prop}{s:Shared}{K:PySem.W.Frag}{x dx C f:Addr}{mA:Str->Option Value}{name:Str}{v:Value}
end
section
variable {P:Program}{w:World}{H H':Hp}{h h':Heap}{a C dx:Addr}{fs fs':List (Str×V)}
end
section
variable {X:Cx}{pins:List (Addr×Obj)}{σ:St}{H:Hp}{s:Shared}{a C dx:Addr}{fs:List (Str×V)}{f:Str}{v:V}{A:Around}{E:Value->Shared->Prop}
end
section
variable {X:Cx}{o e value:Expr}{f:Str}{pos pos' tpos:Pos}{ta tv:TE}
end
section
variable {X:Cx}{pins:List (Addr×Obj)}{σ:St}{H:Hp}{s:Shared}{A:Around}{E:Value->Shared->Prop}{Q:Value->Shared->Prop}{c:Value}{b:Bool}
end
end L2
namespace L2
open PySem PySem.Spec PyProof.Rows
structure Room (k:Nat) (A:Around):Prop where
 hd:A.handled=none
 dp:A.depth+3*k+5<recursionLimit
 un:A.units+16*k+200<cLine
 gd:A.guards=some []
theorem Room.mono {j k:Nat}{A:Around}(r:Room k A)(h:j≤k):Room j A:=⟨r.hd,by have:=r.dp;omega,by have:=r.un;omega,r.gd⟩
theorem Room.deeper {k:Nat}{A:Around}(r:Room (k+1) A)(env:Env):Room k (A.deeper env) :=
 ⟨r.hd,by have:=r.dp;show A.depth+1+3*k+5<_;omega,by have:=r.un;show A.units+3+16*k+200<_;omega,r.gd⟩
theorem Room.depth {k:Nat}{A:Around}(r:Room k A):A.depth<recursionLimit:=by have:=r.dp;omega
theorem Room.units {k:Nat}{A:Around}(r:Room k A):A.units+64<cLine:=by have:=r.un;omega
noncomputable def X2:TA:=λ_ H Q=>Q [] H
noncomputable def C4 (ta:TE)(tr:TA):TA:=λσ H Q=>ta σ H λx H1=>tr σ H1 λxs H2=>Q (x::xs) H2
section
variable {X:Cx}{e:Expr}{es:List Expr}{te:TE}{t:TA}{pos:Pos}
theorem A2:PA X [] X2:=λ_ _ _ _ H Q I h=>Calls.spliced_nil ⟨[],H,I,.nil,h⟩
theorem p8 (ha:PE X e te)(hr:PA X es t)(hs:starEach (e::es) X.env=(false,eval e X.env)::starEach es X.env:=by rfl):PA X (e::es) (C4 te t):=by
 intro pos pins s σ H Q I h
 rw[hs]
 show wpAny _ _ (spliced ((false,eval e X.env)::backTo pos (starEach es X.env))) _ _ s
 refine Calls.spliced_cons (thn (ha pins s σ H _ I h) λu s1 ⟨x,H1,I1,r1,q1⟩=>?_)
 exact thn (hr pos pins s1 σ H1 _ I1 q1) λus s2 ⟨xs,H2,I2,r2,q2⟩=>⟨x::xs,H2,I2,.cons r1 r2,q2⟩
noncomputable def b0t (t:TA):TE:=λσ H Q=>t σ H λxs H1=>xs.length≤sizeLine∧∀p,H1 p=none->Q (.ref p) (upd H1 p (.tup xs))
noncomputable def b0p (t:TA):TE:=λσ H Q=>t σ H λxs H1=>xs.length≤sizeLine∧∀p,H1 p=none->Q (.ref p) (upd H1 p (.lst xs))
theorem a4y {x1}(h:PA X es t):PE X (.Tuple es x1 pos) (b0t t):=by
 intro pins s σ H Q I hq
 refine wpAny_Tuple_spliced (thn (h pos pins s σ H _ I hq) λus s1 ⟨xs,H1,I1,r,z,q⟩=>⟨by rw[←r.length];exact z,?_⟩)
 have hf:H1 s1.heap.objs.size=none:=I1.hok.fresh (Nat.le_refl _)
 refine⟨.ref s1.heap.objs.size,upd H1 s1.heap.objs.size (.tup xs),I1.laid (t':=s1.toks) (λb u e=>Heap.get?_push_of_some _ e) (Nat.le_refl _) ?_,rfl,q _ hf⟩
 exact⟨z,us,r,⟨_,Heap.get?_push_size _ rfl,rfl,_,rfl⟩⟩
theorem a1I (h:PA X es t):PE X (.List es pos) (b0p t):=by
 intro pins s σ H Q I hq
 refine wpAny_List_spliced (thn (h pos pins s σ H _ I hq) λus s1 ⟨xs,H1,I1,r,z,q⟩=>⟨by rw[←r.length];exact z,?_⟩)
 have hf:H1 s1.heap.objs.size=none:=I1.hok.fresh (Nat.le_refl _)
 refine⟨.ref s1.heap.objs.size,upd H1 s1.heap.objs.size (.lst xs),I1.laid (t':=s1.toks) (λb u e=>Heap.get?_push_of_some _ e) (Nat.le_refl _) ?_,rfl,q _ hf⟩
 exact⟨z,us,0,r,Heap.get?_push_size _ rfl⟩
end
noncomputable abbrev Sp:=List V->Hp->VK->XK->Prop
noncomputable abbrev CXT:=List Env->Hp->Shared->XK->Value->Shared->Prop
structure Env0 (P:Program) (w:World) (K:PySem.W.Frag) (mg:Str->Option Value) (base:Heap) (A:Around) (outer:List Env) (s:Shared) (H:Hp):Prop where
 frames:A.frames=some outer
 mod:Mod K mg base
 bs:∀b o,base.get? b=some o->s.heap.get? b=some o∧H b=none
 bsz:base.objs.size≤s.heap.objs.size
 funs:s.heap.FunFrames base outer
 frf:∀b∈frs outer,H b=none
 hok:HOk P w H s.heap
 bare:AllBare s.gens
noncomputable def CE (outer:List Env)(P:Program)(w:World)(H:Hp)(s:Shared)(Q:VK)(u:Value)(s':Shared):Prop :=
 ∃v H',s'.os=s.os∧AllBare s'.gens∧Un (frs outer) [] H H' s.heap s'.heap∧HOk P w H' s'.heap∧v4 v u∧Q v H'
noncomputable def CR (CX:CXT)(outer:List Env)(P:Program)(w:World)(H:Hp)(s:Shared)(Q:VK)(E:XK)(r:Result)(s':Shared):Prop :=
 match r with
 | .ok (.ret u)=>CE outer P w H s Q u s'
 | .ok _=>False
 | .error e=>CX outer H s E e s'
structure FnOk (P:Program) (w:World) (K:PySem.W.Frag) (mg:Str->Option Value) (base:Heap) (CX:CXT) (k:Nat) (f:Addr) (fd:FuncData) (ps:List Str) (sp:Sp):Prop where
 len:∀vs H Q E,sp vs H Q E->vs.length=ps.length
 run:∀(A:Around) (outer:List Env) (s:Shared) (H:Hp) (args:Args) (us:List Value) (vs:List V) (Q:VK) (E:XK),Room k A->Env0 P w K mg base A outer s H->BindsTo s fd args (ps.zip us)->k9 vs us->sp vs H Q E ->
  codeAny (model P w) A (.call (.ref f) args) (CR CX outer P w H s Q E) s
section
variable {X:Cx}{pins:List (Addr×Obj)}{σ:St}{H:Hp}{s s':Shared}
theorem Inv.env0 (I:Inv X pins σ H s):Env0 X.prog X.w X.K X.mg X.base X.A X.stack s H :=
 ⟨I.ok.frames,I.ok.mod,I.bs,Nat.le_trans I.ok.bsz I.sz,I.stack,I.stkFree,I.hok,I.bare⟩
theorem Inv.after {Q:VK}{u:Value}(I:Inv X pins σ H s)(h:CE X.stack X.prog X.w H s Q u s'):EP X pins σ Q u s':=by
 obtain⟨v,H',os,bare,un,hok,r,q⟩:=h
 obtain⟨hh,g,d,t,os'⟩:=s'
 obtain rfl:os'=s.os:=os
 exact⟨v,H',I.call (h':=hh) (g':=g) (d':=d) (t':=t) (ch:=[]) un hok bare (λb z=>absurd z (by simp)),r,q⟩
end
noncomputable def a1J (sp:Sp)(dvs:List V)(E:XK)(t:TA):TE:=λσ H Q=>t σ H λvs H1=>sp (vs++dvs) H1 Q E
noncomputable def a2y (K:PySem.W.Frag)(fd:FuncData)(ps:List Str)(ds:List Value):Prop :=
 ∀(s:Shared) (us:List Value),K.In s.heap->(us++ds).length=ps.length->BindsTo s fd ⟨us,[]⟩ (ps.zip (us++ds))
theorem a2y.all {K:PySem.W.Frag}{fd:FuncData}{ps:List Str}(h:∀us:List Value,us.length=ps.length->bindArgs fd ⟨us,[]⟩=pure (ps.zip us)):a2y K fd ps []:=λs us _ hl=>by
 rw[List.append_nil]at hl ⊢
 exact .of_eq (h us hl)
noncomputable def a4Q (CX:CXT)(X:Cx)(E:XK):Prop:=∀(pins:List (Addr×Obj)) (σ:St) (H:Hp) (s:Shared) (e:Value) (s':Shared),Inv X pins σ H s->CX X.stack H s E e s'->X.xe e s'
section
variable {X:Cx}{CX:CXT}{k:Nat}{f C:Addr}{fd:FuncData}{ps:List Str}{sp:Sp}{dvs:List V}{ds:List Value}{E:XK}{x m:Str}{p pos apos:Pos}{e o:Expr}{es:List Expr}{ta:TE}{t:TA}
theorem b2x {pins:List (Addr×Obj)}{σ:St}{H:Hp}{s:Shared}{Q:VK}{us:List Value}{vs:List V}(F:FnOk X.prog X.w X.K X.mg X.base CX k f fd ps sp)(hr:Room k X.A)(hb:a2y X.K fd ps ds)(hd:k9 dvs ds)(hx:a4Q CX X E)
  (I:Inv X pins σ H s) (r:k9 vs us) (h:sp (vs++dvs) H Q E):wpAny (model X.prog X.w) X.A (call (.ref f) us) (EP X pins σ Q) X.xe s:=by
 have r2:k9 (vs++dvs) (us++ds):=r.append hd
 have hl:(us++ds).length=ps.length:=by rw[←r2.length];exact F.len _ _ _ _ h
 refine wpAny_call (codeAny_mono (F.run X.A X.stack s H ⟨us,[]⟩ (us++ds) (vs++dvs) Q E hr I.env0 (hb s us I.kIn hl) r2 h) λr s' hq=>?_)
 cases r with
 | error e=>exact hx pins σ H s e s' I hq
 | ok fl =>
  cases fl with
  | ret u=>exact I.after hq
  | next=>exact False.elim hq
  | brk=>exact False.elim hq
  | cont=>exact False.elim hq
theorem b0q (F:FnOk X.prog X.w X.K X.mg X.base CX k f fd ps sp)(hr:Room k X.A)(hg:Gl X x)(hm:X.mg x=some (.ref f))(hk:PySem.W.keepIn X.K (.ref f)=true)(hb:a2y X.K fd ps ds)(hd:k9 dvs ds)(hx:a4Q CX X E)
  (ha:PA X (e::es) t) (hdb:(x == ("__debug__":Str))=false:=by decide) (he:starEach (e::es) X.env=(false,eval e X.env)::starEach es X.env:=by rfl) (hpl:(backTo pos (starEach es X.env)).any (·.1)=false:=by rfl) :
  PE X (.Call (.Name x p) (e::es) [] pos) (a1J sp dvs E t):=by
 intro pins s σ H Q I h
 refine wpAny_Call_Name_kw (a5B I hg hm ?_ hdb)
 refine PySem.W.callWith_K (h₀:=X.base) I.ok.mod.kin hk (thn (ha pos pins s σ H _ I h) λus s1 ⟨vs,H1,I1,r,q⟩=>⟨I1.kIn,?_⟩) he hpl
 exact b2x F hr hb hd hx I1 r q
end
section
variable {X:Cx}{CX:CXT}{k:Nat}{f C:Addr}{fd:FuncData}{ps ks:List Str}{sp:Sp}{E:XK}{x m:Str}{p pos apos kpos:Pos}{e o:Expr}{es:List Expr}{kws:List Keyword}{te ta:TE}{t tk:TA}{nm:Option Str}
variable {g:List Value->List Value->List Value}{gV:List V->List V->List V}
end
structure FnScope (N P:List Str) (sc:Scope):Prop where
 kind:sc.kind = .function
 co:sc.isCoroutine=false
 gen:sc.isGenerator=false
 nd:N.Nodup
 pre:N.take P.length=P
 par:∀x∈P,sc.names.lookup x=some .local∨sc.names.lookup x=some .cell
 nofree:∀y∈sc.names,y.2 ≠ .free
theorem a2D {kindOf:Str->Option NameKind}{x:Str}:∀{binds:List (Str×Value)} {m:Str->Option Value},(∀v,(x,v) ∉ binds)->bindL kindOf binds m x=m x
 | [],_,_=>rfl
 | (n,v)::r,m,h=>by
  unfold bindL
  rw[a2D λw hw=>h w (List.mem_cons_of_mem _ hw)]
  split
  ·have:x≠n:=by rintro rfl;exact h v List.mem_cons_self
   simp[this]
  ·rfl
theorem a2C {kindOf:Str->Option NameKind}{x:Str}:∀{binds:List (Str×Value)} {m:Str->Option Value},(∀v,(x,v) ∉ binds)->bindC kindOf binds m x=m x
 | [],_,_=>rfl
 | (n,v)::r,m,h=>by
  unfold bindC
  rw[a2C λw hw=>h w (List.mem_cons_of_mem _ hw)]
  split
  ·rfl
  ·have:x≠n:=by rintro rfl;exact h v List.mem_cons_self
   simp[this]
theorem a2P {kindOf:Str->Option NameKind}{x:Str}{v:Value}:∀{P:List Str} {vs:List Value} {i:Nat} {m:Str->Option Value},P.Nodup->P[i]? = some x->vs[i]? = some v->kindOf x=some .local ->
  bindL kindOf (P.zip vs) m x=some v
 | [],_,_,_,_,h,_,_=>by simp at h
 | _::_,[],_,_,_,_,h,_=>by simp at h
 | p::P,w::vs,0,m,nd,h1,h2,hk=>by
  simp at h1 h2;subst h1;subst h2
  show bindL kindOf ((p,w)::P.zip vs) m p=_
  unfold bindL
  rw[a2D λv hv=>(List.nodup_cons.mp nd).1 (List.of_mem_zip hv).1,if_pos hk]
  simp
 | p::P,w::vs,i+1,m,nd,h1,h2,hk=>by
  show bindL kindOf ((p,w)::P.zip vs) m x=_
  unfold bindL
  exact a2P (i:=i) (List.nodup_cons.mp nd).2 (by simpa using h1) (by simpa using h2) hk
theorem a2M {kindOf:Str->Option NameKind}{x:Str}{v:Value}:∀{P:List Str} {vs:List Value} {i:Nat} {m:Str->Option Value},P.Nodup->P[i]? = some x->vs[i]? = some v->kindOf x≠some .local ->
  bindC kindOf (P.zip vs) m x=some v
 | [],_,_,_,_,h,_,_=>by simp at h
 | _::_,[],_,_,_,_,h,_=>by simp at h
 | p::P,w::vs,0,m,nd,h1,h2,hk=>by
  simp at h1 h2;subst h1;subst h2
  show bindC kindOf ((p,w)::P.zip vs) m p=_
  unfold bindC
  rw[a2C λv hv=>(List.nodup_cons.mp nd).1 (List.of_mem_zip hv).1,if_neg hk]
  simp
 | p::P,w::vs,i+1,m,nd,h1,h2,hk=>by
  show bindC kindOf ((p,w)::P.zip vs) m x=_
  unfold bindC
  exact a2M (i:=i) (List.nodup_cons.mp nd).2 (by simpa using h1) (by simpa using h2) hk
noncomputable def K5 (N:List Str)(vs:List V):St:=vs.map some++List.replicate (N.length-vs.length) none
noncomputable def K1 (CX:CXT)(P:Program)(w:World)(K:PySem.W.Frag)(mg:Str->Option Value)(base:Heap)(N:List Str)(qual:Str)(scope:Scope)(f:Addr)(cd:Value)(A:Around)(outer:List Env)(s:Shared)(H:Hp)(E:XK):Cx where
 prog:=P
 w:=w
 K:=K
 mg:=mg
 base:=base
 A:=A.deeper (envOfC qual scope s.heap.objs.size f cd)
 N:=N
 s₀:=s
 H₀:=H
 env:=envOfC qual scope s.heap.objs.size f cd
 outer:=outer
 stack:=envOfC qual scope s.heap.objs.size f cd::outer
 ex:=[]
 calm:=true
 fn:=λ_=>true
 pn:=[]
 xe:=λe s'=>wpAny (model P w) (A.deeper (envOfC qual scope s.heap.objs.size f cd)) (leaving (envOfC qual scope s.heap.objs.size f cd) e) (λ_ s''=>CX outer H s E e s'') (λe' s''=>CX outer H s E e' s'') s'
theorem a3z {sc:Scope}{n:Nat}{x:Str}(h:sc.names.lookup x=some .cell):∃c,(cellsFrom n sc.names []).lookup x=some c:=by
 have q:=PySem.W.cellsFrom_some sc.names n [] (.inl h)
 exact Option.isSome_iff_exists.mp q
theorem a6X {CX:CXT}{P:Program}{w:World}{K:PySem.W.Frag}{mg:Str->Option Value}{base:Heap}{N ps:List Str}{qual:Str}{scope:Scope}{f:Addr}{cd:Value}{A:Around}{outer:List Env}{s s1:Shared}{H:Hp}{E:XK}{us:List Value}{vs:List V}
  (S:FnScope N ps scope) (hd:A.handled=none) (e0:Env0 P w K mg base A outer s H) (hl:vs.length=ps.length) (r:k9 vs us)
  (x:InCallC s s.heap.objs.size (bindL (envOfC qual scope s.heap.objs.size f cd).kindOf (ps.zip us) λ_=>none) (cellsFrom (s.heap.objs.size+1) scope.names []) (bindC (envOfC qual scope s.heap.objs.size f cd).kindOf (ps.zip us) λ_=>none) s1) :
  Inv (K1 CX P w K mg base N qual scope f cd A outer s H E) [] (K5 N vs) H s1:=by
 have hpl:ps.length≤N.length:=by have:=congrArg List.length S.pre;rw[List.length_take]at this;omega
 obtain⟨h1,tk,rfl,hk⟩:=x.done
 have noA:∀b:Addr,b ∉ (K1 CX P w K mg base N qual scope f cd A outer s H E).ex:=λb z=>absurd (show b∈([]:List Addr) from z) (by simp)
 refine⟨⟨e0.mod,S.kind,rfl,rfl,Nat.le_refl _,λy z c h1 h2=>?_,λy hy=>?_,λy c _ h=>?_,λ_=>hd,Around.frames_deeper e0.frames,.inr ⟨rfl,rfl⟩,λb z=>absurd z (noA b),e0.bs,e0.bsz,λb _ _=>noA b,λb z=>absurd z (noA b),e0.funs,e0.frf⟩,
  rfl,e0.bare,Un.kept hk,⟨_,x.toInCall.ns,λi y v h1 h2 h3=>?_⟩,λy c h=>⟨_,x.cell y c h⟩,e0.hok.fresh (Nat.le_refl _),λy c h=>?_,λp hp=>absurd (show p∈([]:List (Addr×Obj)) from hp) (by simp),e0.hok.kept hk,?_⟩
 ·exact name_of_addr x.apart (PySem.mem_of_lookup h1) (PySem.mem_of_lookup h2)
 ·have hy:scope.names.lookup y=some .cell∨scope.names.lookup y=some .free:=hy
  rcases hy with hy | hy
  ·exact a3z hy
  ·exact absurd rfl (S.nofree _ (PySem.mem_of_lookup hy))
 ·exact Nat.le_of_lt (x.above y c (PySem.mem_of_lookup h))
 ·have hi:i<vs.length:=by
   unfold K5 at h2
   by_cases hi:i<vs.length
   ·exact hi
   ·rw[List.getElem?_append_right (by simpa using hi)]at h2
    rw[List.getElem?_replicate]at h2
    split at h2 <;> cases h2
  have ha:vs[i]? = some v:=by
   unfold K5 at h2
   rw[List.getElem?_append_left (by simpa using hi),List.getElem?_map]at h2
   cases e:vs[i]? with
   | none=>rw[e]at h2;cases h2
   | some a=>rw[e]at h2;cases h2;rfl
  obtain⟨u,hu,rv⟩:=r.get ha
  have hp:ps[i]? = some y:=by
   rw[←S.pre,List.getElem?_take_of_lt (by omega)];exact h1
  have ndP:ps.Nodup:=by rw[←S.pre];exact S.nd.sublist (List.take_sublist _ _)
  refine⟨u,rv,?_⟩
  rcases S.par y (List.mem_of_getElem? hp) with k | k
  ·exact .inl ⟨k,a2P ndP hp hu k⟩
  ·obtain⟨c,e⟩:=a3z (n:=s.heap.objs.size+1) k
   refine .inr ⟨.inl k,c,e,?_⟩
   have q:=x.cell y c e
   rw[a2M ndP hp hu (by show scope.names.lookup y≠_;rw[k];decide)]at q
   exact q
 ·exact e0.hok.fresh (Nat.le_of_lt (x.above y c (PySem.mem_of_lookup h)))
 ·unfold K5
  show _=N.length
  rw[List.length_append,List.length_map,List.length_replicate]
  omega
theorem b15 {CX:CXT}{P:Program}{w:World}{K:PySem.W.Frag}{mg:Str->Option Value}{base:Heap}{k:Nat}{f:Addr}{name qual:Str}{params:Arguments}{body:List Stmt}{scope:Scope}{dV kV doc pm cdv ct oc:Value}{an od:Option Addr}
  {osl:Array (Option Value)} {N ps:List Str} {sp:Sp} (lk:K.lookup f=some ⟨oc,od,.func (PySem.W.fnOf name qual params body scope dV kV doc pm an cdv ct),osl⟩) (hcd:PySem.W.codeIn K cdv qual=true) (S:FnScope N ps scope)
  (len:∀vs H Q E,sp vs H Q E->vs.length=ps.length)
  (hbody:∀(A:Around) (outer:List Env) (s:Shared) (H:Hp) (vs:List V) (Q:VK) (E:XK),Room k (A.deeper (envOfC qual scope s.heap.objs.size f cdv))->sp vs H Q E ->
   ∃t,PSs (K1 CX P w K mg base N qual scope f cdv A outer s H E) body t∧t { nx:=λ_ H'=>Q .non H',rt:=Q } (K5 N vs) H) :
  FnOk P w K mg base CX (k+1) f (PySem.W.fnOf name qual params body scope dV kV doc pm an cdv ct) ps sp:=by
 refine⟨len,λA outer s H args us vs Q E hr e0 hb r hsp=>?_⟩
 have hl:=len _ _ _ _ hsp
 have KX:K.In s.heap:=e0.mod.kin.keeps λb o e=>(e0.bs b o e).1
 have lim:s.heap.NoLimit:=e0.mod.nolimit.keeps λb o e=>(e0.bs b o e).1
 have hkind:∀y∈ps.zip us,scope.names.lookup y.1=some .local∨(scope.names.lookup y.1=some .cell∧((cellsFrom (s.heap.objs.size+1) scope.names []).lookup y.1).isSome=true):=λ⟨n,v⟩ hy=>by
  rcases S.par n (List.of_mem_zip hy).1 with q | q
  ·exact .inl q
  ·exact .inr ⟨q,PySem.W.cellsFrom_some _ _ _ (.inl q)⟩
 refine codeAny_call_function hr.depth (KX _ _ lk) rfl S.co S.gen rfl (PySem.W.codeRec_of KX hcd) (hb _ _ _ _ ?_)
 refine wpAny_newFunctionEnv_cells S.kind hkind λenv he s1 x=>?_
 subst he
 refine⟨lim.keeps x.toInCall.keep,codeAny_func ?_⟩
 obtain⟨t,ht,hq⟩:=hbody A outer s H vs Q E (hr.deeper _) hsp
 have I:Inv (K1 CX P w K mg base N qual scope f cdv A outer s H E) [] (K5 N vs) H s1:=a6X S hr.hd e0 hl r x
 refine wpAny_mono (ht [] s1 (K5 N vs) H _ I hq) (λfl s' hs=>?_) λe s' hs=>hs
 have fin:∀{σ':St} {H':Hp} {v:V} {u:Value},Inv (K1 CX P w K mg base N qual scope f cdv A outer s H E) [] σ' H' s'->v4 v u->Q v H'->CE outer P w H s Q u s' :=
  λ{σ' H' v u} J rv q=>⟨v,H',J.os,J.bare,J.base,J.hok,rv,q⟩
 cases fl with
 | ret u =>
  obtain⟨v,σ',H',J,rv,q⟩:=hs
  exact fin J rv q
 | next =>
  obtain⟨σ',H',J,q⟩:=hs
  exact fin (v:=V.non) (u:=Value.none) J rfl q
 | brk =>
  obtain⟨_,_,_,q⟩:=hs
  exact False.elim q
 | cont =>
  obtain⟨_,_,_,q⟩:=hs
  exact False.elim q
end L2
namespace L2
open PySem PySem.Spec PyProof.Rows
section
variable {X:Cx}{x:Str}{p pos:Pos}{e:Expr}{es:List Expr}{t:TA}{id T:String}{r:List V->Hp->VK->Prop}
noncomputable def tCB (r:List V->Hp->VK->Prop)(t:TA):TE:=λσ H Q=>t σ H λvs H1=>r vs H1 Q
theorem a1F (hc:C2 X (.builtin id) r)(hg:Gl X x)(hm:X.mg x=none)(hv:bootBuiltins x=some (.builtin id))(ha:PA X (e::es) t)(hn:x ≠ "__name__":=by decide)(hdb:(x == ("__debug__":Str))=false:=by decide)
  (he:starEach (e::es) X.env=(false,eval e X.env)::starEach es X.env:=by rfl) (hpl:(backTo pos (starEach es X.env)).any (·.1)=false:=by rfl):PE X (.Call (.Name x p) (e::es) [] pos) (tCB r t):=by
 intro pins s σ H Q I h
 refine wpAny_Call_Name_kw (Y3 I hg hm hv ?_ hn hdb)
 exact PyProof.Rows.callWith_builtin1 (thn (ha pos pins s σ H _ I h) λus s1 ⟨vs,H1,I1,r1,q1⟩=>hc pins s1 σ H1 vs us Q I1 r1 q1) he hpl
theorem Q5 (hc:C2 X (.type T) r)(hg:Gl X x)(hm:X.mg x=none)(hv:bootBuiltins x=some (.type T))(ha:PA X (e::es) t)(hn:x ≠ "__name__":=by decide)(hdb:(x == ("__debug__":Str))=false:=by decide)
  (he:starEach (e::es) X.env=(false,eval e X.env)::starEach es X.env:=by rfl) (hpl:(backTo pos (starEach es X.env)).any (·.1)=false:=by rfl):PE X (.Call (.Name x p) (e::es) [] pos) (tCB r t):=by
 intro pins s σ H Q I h
 refine wpAny_Call_Name_kw (Y3 I hg hm hv ?_ hn hdb)
 exact PyProof.Rows.callWith_type1 (thn (ha pos pins s σ H _ I h) λus s1 ⟨vs,H1,I1,r1,q1⟩=>hc pins s1 σ H1 vs us Q I1 r1 q1) he hpl
end
end L2
namespace HT
open PySem PyProof.Rows
section
open PySem.SeqAt
open PySem.AutoSeq1 (wpAny_loadPart')
open PySem.MeetsSeq PySem.MeetsSeq2 PySem.MeetsSeq3
end
section
variable {prog:Program}{w:World}{A:Around}{E:Value->Shared->Prop}{s:Shared}
theorem cat_tup {t b:Addr}{vs ws:List Value}{Q:Value->Shared->Prop}(ht:IsTup s.heap t vs.toArray)(hb:IsTup s.heap b ws.toArray)(hv:vs≠[])
  (h1:ws=[]->Q (.ref t) s) (h2:ws≠[]->Q (.ref s.heap.objs.size) { s with heap:=s.heap.push { cls:=.type "tuple",data:=.seq (vs++ws).toArray } })
  (hsz:vs.length+ws.length≤sizeLine):wpAny (model prog w) A (binaryOp .Add (.ref t) (.ref b)) Q E s:=by
 obtain⟨⟨cls,dd,data,sl⟩,ho,hc,n,hd⟩:=id ht
 obtain⟨⟨cls2,dd2,data2,sl2⟩,ho2,hc2,n2,hd2⟩:=id hb
 simp only at hc hd hc2 hd2
 subst hc hd hc2 hd2
 have e:vs.toArray++ws.toArray=(vs++ws).toArray:=by simp
 by_cases hw:ws=[]
 ·exact concat_meets ⟨_,ho,rfl⟩ ⟨_,ho2,rfl⟩ noFill_tuple_add seq_tuple_add PySem.F.slot_tuple_add PySem.F.entry_tuple_add (PySem.F.args_tuple_add_2 _ _)
   (tuple_addW1 t b vs.toArray ws.toArray n n2 dd dd2 sl sl2 (by simpa using hv) (by simp[hw])) ⟨ho,ho2,h1 hw⟩
 ·refine concat_meets ⟨_,ho,rfl⟩ ⟨_,ho2,rfl⟩ noFill_tuple_add seq_tuple_add PySem.F.slot_tuple_add PySem.F.entry_tuple_add (PySem.F.args_tuple_add_2 _ _)
   (tuple_addW2 t b vs.toArray ws.toArray n n2 dd dd2 sl sl2 (by simpa using hv) (by simpa using hw) (by rw[List.size_toArray,List.size_toArray];exact hsz)) ⟨ho,ho2,?_⟩
  rw[e]
  exact h2 hw
noncomputable def sIx (n d:Nat):Option Int->Nat
 | none=>d
 | some v=>if v<0 then(v+(n:Int)).toNat else min v.toNat n
theorem sIx_none (n d:Nat):sIx n d none=d:=rfl
theorem sIx_nat (n d k:Nat):sIx n d (some (k:Int))=min k n:=by
 show(if (k:Int)<0 then((k:Int)+(n:Int)).toNat else min (k:Int).toNat n)=min k n
 rw[if_neg (by omega),Int.toNat_natCast]
theorem b1d (n d:Nat)(hd:d≤n)(o:Option Int):sIx n d o≤n:=by
 cases o with
 | none=>exact hd
 | some v =>
  show(if v<0 then(v+(n:Int)).toNat else min v.toNat n)≤n
  by_cases hv:v<0
  ·rw[if_pos hv];omega
  ·rw[if_neg hv];exact Nat.min_le_right _ _
theorem a5H (v:Int)(n d:Nat):(if v<0 then max (v+(n:Int)) 0 else min v (n:Int))=((sIx n d (some v):Nat):Int):=by
 show(if v<0 then max (v+(n:Int)) 0 else min v (n:Int))=(((if v<0 then(v+(n:Int)).toNat else min v.toNat n):Nat):Int)
 by_cases hv:v<0
 ·simp only[if_pos hv];omega
 ·simp only[if_neg hv];omega
theorem a4O (lo hi:Option Int)(n:Nat):Builtin.Slice.sliceAdjust lo hi 1 (n:Int)=(((sIx n 0 lo:Nat):Int),((sIx n n hi:Nat):Int)):=by
 have h1:¬((1:Int)<0):=by omega
 unfold Builtin.Slice.sliceAdjust
 simp only[h1,if_false]
 refine Prod.ext ?_ ?_
 ·cases lo with
  | none=>rfl
  | some v=>exact a5H v n 0
 ·cases hi with
  | none=>rfl
  | some v=>exact a5H v n n
theorem a58 (i j:Nat):Builtin.Slice.slicePlaces (i:Int) (j:Int) 1=j-i:=by
 unfold Builtin.Slice.slicePlaces
 have h1:(1:Int) > 0:=by omega
 simp only[h1,if_true,Int.ediv_one]
 split <;> omega
theorem Z7 {v:Value}{o:Option Int}{Q:Option Int->Shared->Prop}(p:IsPart v o)(h:Q o s):wpAny (model prog w) A (Builtin.Slice.slicePartIndex v) Q E s:=by
 cases p with
 | none=>exact slicePart_none h
 | int i t=>exact slicePart_int h
theorem O6 {sl:Addr}{vl vu:Value}{lo hi:Option Int}{n:Nat}{Q:Int×Int×Nat->Shared->Prop}(hs:s.heap.IsSliceOf sl vl vu .none)(pl:IsPart vl lo)(pu:IsPart vu hi)
  (h:Q (((sIx n 0 lo:Nat):Int),1,sIx n n hi-sIx n 0 lo) s):wpAny (model prog w) A (Builtin.Slice.sliceApplied (.ref sl) (pure (n:Int))) Q E s:=by
 obtain⟨os,hos,hcs,hds⟩:=id hs
 unfold Builtin.Slice.sliceApplied Builtin.Slice.sliceFields
 refine wpAny_bind (wpAny_bind (wpAny_field hos hds (x:=vl) rfl (wpAny_bind (wpAny_field hos hds (x:=vu) rfl (wpAny_bind (wpAny_field hos hds (x:=.none) rfl (wpAny_pure ?_)))))))
 refine wpAny_bind (slicePart_none ?_)
 show wpAny _ _ (if ((1:Int) == 0)=true then _ else _) _ _ s
 rw[if_neg (by decide)]
 refine wpAny_bind (Z7 pl (wpAny_bind (Z7 pu (wpAny_bind (wpAny_pure ?_)))))
 show wpAny _ _ (match Builtin.Slice.sliceAdjust lo hi 1 (n:Int) with | (lo,hi)=>pure (lo,(1:Int),Builtin.Slice.slicePlaces lo hi 1)) _ _ s
 rw[a4O lo hi n]
 show wpAny _ _ (pure (((sIx n 0 lo:Nat):Int),(1:Int),Builtin.Slice.slicePlaces ((sIx n 0 lo:Nat):Int) ((sIx n n hi:Nat):Int) 1)) _ _ s
 rw[a58]
 exact wpAny_pure h
theorem a8J (xs:Array Value)(i k:Nat):((List.range k).filterMap λ(m:Nat)=>xs[((i:Int)+(m:Int)*1).toNat]?).toArray=((xs.toList.drop i).take k).toArray:=by
 have e:(λ(m:Nat)=>xs[((i:Int)+(m:Int)*1).toNat]?) = λm=>xs[i+m]?:=by
  funext m
  have:((i:Int)+(m:Int)*1).toNat=i+m:=by omega
  rw[this]
 rw[e]
 have:=pick_run xs i k
 rw[List.filterMap_map]at this
 have e2:((λx=>xs[x]?) ∘ λx=>i+x) = λm=>xs[i+m]?:=rfl
 rw[e2]at this
 rw[this]
theorem getItem_tuple_cut {t sl:Addr}{items:Array Value}{vl vu:Value}{lo hi:Option Int}{Q:Value->Shared->Prop}(ht:IsTup s.heap t items)(hs:s.heap.IsSliceOf sl vl vu .none)(pl:IsPart vl lo)(pu:IsPart vu hi)
  (hw:¬(sIx items.size 0 lo=0∧sIx items.size items.size hi=items.size))
  (h:Q (.ref s.heap.objs.size) { s with heap:=s.heap.push { cls:=.type "tuple",data:=.seq ((items.toList.drop (sIx items.size 0 lo)).take (sIx items.size items.size hi-sIx items.size 0 lo)).toArray } })
  (hsz:items.size≤sizeLine):wpAny (model prog w) A (getItem (.ref t) (.ref sl)) Q E s:=by
 have htake:sizeOk (.seq ((items.toList.drop (sIx items.size 0 lo)).take (sIx items.size items.size hi-sIx items.size 0 lo)).toArray):=by
  show((items.toList.drop (sIx items.size 0 lo)).take (sIx items.size items.size hi-sIx items.size 0 lo)).toArray.size≤sizeLine
  rw[List.size_toArray,List.length_take,List.length_drop,Array.length_toList]
  omega
 have hj:sIx items.size items.size hi≤items.size:=b1d _ _ (Nat.le_refl _) hi
 obtain⟨os,hos,hcs,hds⟩:=id hs
 have hTs:s.TypeIs (.ref sl) "slice":=⟨os,hos,hcs⟩
 unfold getItem
 try with_reducible refine wpAny_holding ?_
 first | refine wpAny_bind (wpAny_pure ?_) | skip
 refine wpAny_bind (wpAny_sequenceKey ht.typeIs (by decide) ?_)
 refine wpAny_bind (wpAny_callSpecial?_slot (name:=Str.ofString "__getitem__") ht.typeIs PyProof.Rows.slot_tuple_getitem
  (wpAny_call_entry PyProof.Rows.slot_tuple_getitem ht.typeIs entry_tuple_getitem ?_ (args_tuple_getitem _ _)))
 show wpAny _ _ (Builtin.Tuple.tupleItemsOf (.ref t) >>= _) _ _ s
 refine wpAny_bind (tupleItemsOf_ ht ?_)
 refine wpAny_bind (wpAny_typeOf hTs ?_)
 rw[if_pos (by decide)]
 refine wpAny_bind (O6 hs pl pu ?_)
 have hno:¬((((sIx items.size 0 lo:Nat):Int) == 0&&(1:Int) == 1&&(sIx items.size items.size hi-sIx items.size 0 lo) == items.size)=true):=by
  intro q
  rw[Bool.and_eq_true,Bool.and_eq_true]at q
  have q1:((sIx items.size 0 lo:Nat):Int)=0:=eq_of_beq q.1.1
  have q2:sIx items.size items.size hi-sIx items.size 0 lo=items.size:=eq_of_beq q.2
  exact hw ⟨by omega,by omega⟩
 show wpAny _ _ (if (((sIx items.size 0 lo:Nat):Int) == 0&&(1:Int) == 1&&(sIx items.size items.size hi-sIx items.size 0 lo) == items.size)=true then _ else _) _ _ s
 rw[if_neg hno,a8J]
 first
  | exact wpAny_bind (m:=Builtin.Tuple.tupleExact _) (wpAny_newObj_type (wpAny_pure ⟨_,rfl,wpAny_pure h⟩) htake)
  | exact wpAny_bind (m:=Builtin.Tuple.tupleExact _) (wpAny_newObj_type (wpAny_bind (wpAny_pure (wpAny_pure ⟨_,rfl,wpAny_pure h⟩))) htake)
  | exact wpAny_bind (wpAny_bind (m:=Builtin.Tuple.tupleExact _) (wpAny_newObj_type (wpAny_pure (wpAny_pure ⟨_,rfl,wpAny_pure h⟩)) htake))
  | exact wpAny_bind (wpAny_bind (m:=Builtin.Tuple.tupleExact _) (wpAny_newObj_type (wpAny_pure ⟨_,rfl,wpAny_pure h⟩) htake))
end
end HT
namespace L2
open PySem PySem.Spec PyProof.Rows
noncomputable abbrev TO:=St->Hp->(Option Int->Hp->Prop)->Prop
noncomputable def PO (X:Cx)(e:Option Expr)(t:TO):Prop :=
 ∀(pins:List (Addr×Obj)) (s:Shared) (σ:St) (H:Hp) (Q:Option Int->Hp->Prop),Inv X pins σ H s->t σ H Q ->
  wpAny (model X.prog X.w) X.A (evalPart e X.env) (λu s'=>∃o H',Inv X pins σ H' s'∧IsPart u o∧Q o H') X.xe s
noncomputable def a5R:TO:=λ_ H Q=>Q none H
noncomputable def b0H (t:TE):TO:=λσ H Q=>t σ H λx H1=>∃i,x = .int i∧Q (some i) H1
theorem R9 {ns:List Int}:∀{us:List Value},k9 (ns.map V.int) us->IntsAre us ns:=by
 induction ns with
 | nil=>intro us r;rw[List.map_nil]at r;cases r;exact .nil
 | cons n ns ih =>
  intro us r
  rw[List.map_cons]at r
  cases r with
  | cons r1 r2 =>
   obtain⟨t,e⟩:=r1
   subst e
   exact .cons n t (ih r2)
section
variable {X:Cx}{e:Expr}{te:TE}{lo hi:Option Expr}{tl th:TO}{pos p2:Pos}
theorem a6A:PO X none a5R:=by
 intro pins s σ H Q I h
 rw[evalPart_none]
 exact wpAny_pure ⟨none,H,I,.none,h⟩
theorem a30 (h:PE X e te):PO X (some e) (b0H te):=by
 intro pins s σ H Q I hw
 rw[evalPart_some]
 refine thn (h pins s σ H _ I hw) λu s1 ⟨x,H1,I1,r1,q1⟩=>?_
 obtain⟨i,rfl,q⟩:=q1
 obtain⟨t,rfl⟩:=r1
 exact⟨some i,H1,I1,.int i t,q⟩
noncomputable def SlR (X:Cx)(r:V->Option Int->Option Int->Hp->VK->Prop):Prop :=
 ∀(pins:List (Addr×Obj)) (s:Shared) (σ:St) (H:Hp) (x:V) (v vl vu:Value) (lo hi:Option Int) (sl:Addr) (Q:VK),Inv X pins σ H s->v4 x v->s.heap.IsSliceOf sl vl vu .none->IsPart vl lo->IsPart vu hi->r x lo hi H Q ->
  ∃T id,typeLookup (.type T) "__getitem__" = pure (some (.builtin id))∧s.TypeIs v T∧wpAny (model X.prog X.w) X.A (getItem v (.ref sl)) (EP X pins σ Q) X.xe s
noncomputable def tSl (r:V->Option Int->Option Int->Hp->VK->Prop)(te:TE)(tl th:TO):TE:=λσ H Q=>te σ H λx H1=>tl σ H1 λl H2=>th σ H2 λu H3=>r x l u H3 Q
theorem a3I {r:V->Option Int->Option Int->Hp->VK->Prop}(hr:SlR X r)(he:PE X e te)(hl:PO X lo tl)(hu:PO X hi th):PE X (.Subscript e (.Slice lo hi none p2) pos) (tSl r te tl th):=by
 intro pins s σ H Q I h
 refine Subscript_ (thn (he pins s σ H _ I h) λv s1 ⟨x,H1,I1,r1,q1⟩=>?_)
 refine wpAny_Slice (thn (hl pins s1 σ H1 _ I1 q1) λvl s2 ⟨l,H2,I2,pl,q2⟩=>thn (hu pins s2 σ H2 _ I2 q2) λvu s3 ⟨u,H3,I3,pu,q3⟩=>?_)
 rw[evalPart_none]
 refine wpAny_pure ?_
 have I4:Inv X pins σ H3 { s3 with heap:=s3.heap.push { cls:=.type "slice",data:=.fields #[vl,vu,.none] } }:=I3.kept (t':=s3.toks) λb ob q=>Heap.get?_push_of_some _ q
 obtain⟨T,id,hT,ht,hg⟩:=hr pins { s3 with heap:=s3.heap.push { cls:=.type "slice",data:=.fields #[vl,vu,.none] } } σ H3 x v vl vu l u s3.heap.objs.size Q I4 r1 (Heap.IsSliceOf.new ..) pl pu q3
 show wpAny (model X.prog X.w) X.A (subscriptTail e (.Slice lo hi none p2) v (.ref s3.heap.objs.size)) (EP X pins σ Q) X.xe { s3 with heap:=s3.heap.push { cls:=.type "slice",data:=.fields #[vl,vu,.none] } }
 exact tail_any (ops:=[.ref s3.heap.objs.size,v]) ht hT hg (by with_unfolding_all rfl)
noncomputable def a0T (xs:List V)(lo hi:Option Int):List V:=(xs.drop (HT.sIx xs.length 0 lo)).take (HT.sIx xs.length xs.length hi-HT.sIx xs.length 0 lo)
theorem a10 (xs:List V)(lo hi:Option Int):(a0T xs lo hi).length≤xs.length:=by
 unfold a0T
 rw[List.length_take,List.length_drop]
 omega
noncomputable def b3J (K:PySem.W.Frag):V->Option Int->Option Int->Hp->VK->Prop:=λx lo hi H Q=>∃a xs,x = .ref a∧SqT K H a xs ∧
 ¬(HT.sIx xs.length 0 lo=0∧HT.sIx xs.length xs.length hi=xs.length)∧∀p,H p=none->Q (.ref p) (upd H p (.tup (a0T xs lo hi)))
theorem b2t:SlR X (b3J X.K):=by
 intro pins s σ H x v vl vu lo hi sl Q I rx hs pl pu h
 obtain⟨a,xs,rfl,hx,hw,q⟩:=h
 cases rx
 obtain⟨its,r,ht,hz⟩:=I.tuple hx
 have hlen:its.toArray.size=xs.length:=by rw[List.size_toArray];exact r.length.symm
 refine⟨"tuple",_,PyProof.Rows.slot_tuple_getitem.lookup,ht.typeIs,?_⟩
 refine HT.getItem_tuple_cut ht hs pl pu (by rw[hlen];exact hw) ?_ (by rw[hlen];exact hz)
 rw[hlen]
 refine⟨.ref s.heap.objs.size,_,I.laid (t':=s.toks) (o:=.tup (a0T xs lo hi)) (λb ob q=>Heap.get?_push_of_some _ q) (Nat.le_refl _) ?_,rfl,q _ (I.hok.fresh (Nat.le_refl _))⟩
 exact⟨Nat.le_trans (a10 xs lo hi) hz,_,(r.drop (HT.sIx xs.length 0 lo)).take (HT.sIx xs.length xs.length hi-HT.sIx xs.length 0 lo),IsTup.new _ _⟩
noncomputable def b3l (K:PySem.W.Frag):R2:=λx y H Q=>∃a b xs ys,x = .ref a∧y = .ref b∧SqT K H a xs∧SqT K H b ys∧xs≠[]∧xs.length+ys.length≤sizeLine ∧
 (ys=[]->Q (.ref a) H)∧(ys≠[]->∀p,H p=none->Q (.ref p) (upd H p (.tup (xs++ys))))
theorem k9.nil_iff {xs:List V}{us:List Value}(r:k9 xs us):us=[]↔xs=[]:=by
 cases r with
 | nil=>simp
 | cons _ _=>simp
theorem b0i:OpR X (binaryOp .Add) (b3l X.K):=by
 intro pins s σ H x y v u Q I rx ry h
 obtain⟨a,b,xs,ys,rfl,rfl,ha,hb,hx,hz,q1,q2⟩:=h
 cases rx
 cases ry
 obtain⟨its,r1,p1,_⟩:=I.tuple ha
 obtain⟨its2,r2,p2,_⟩:=I.tuple hb
 refine HT.cat_tup p1 p2 (λz=>hx (r1.nil_iff.mp z)) (λz=>⟨.ref a,H,I,rfl,q1 (r2.nil_iff.mp z)⟩) (λz=>?_) (by rw[←r1.length,←r2.length];exact hz)
 refine⟨.ref s.heap.objs.size,_,I.laid (t':=s.toks) (o:=.tup (xs++ys)) (λb ob q=>Heap.get?_push_of_some _ q) (Nat.le_refl _) ?_,rfl,q2 (λw=>z (r2.nil_iff.mpr w)) _ (I.hok.fresh (Nat.le_refl _))⟩
 exact⟨by rw[List.length_append];exact hz,_,r1.append r2,IsTup.new _ _⟩
end
end L2
namespace L2
open PySem PySem.Spec PyProof.Rows
noncomputable def ixN (n:Nat)(i:Int):Option Nat:=if 0≤i then(if i<n then some i.toNat else none) else if -(n:Int)≤i then some (i+n).toNat else none
noncomputable def atI {α:Type}(xs:List α)(i:Int):Option α:=(ixN xs.length i).bind λj=>xs[j]?
theorem a6r {n:Nat}{i:Int}{j:Nat}(h:ixN n i=some j):seqIndex? i n=some j∧j<n ∧ -(n:Int)≤i∧i<n:=by
 unfold ixN at h
 by_cases h0:0≤i
 ·rw[if_pos h0]at h
  by_cases h1:i<n
  ·rw[if_pos h1]at h
   have e:i.toNat=j:=Option.some.inj h
   exact⟨by rw[seqIndex_of h0 h1,e],by omega,by omega,h1⟩
  ·rw[if_neg h1]at h;cases h
 ·rw[if_neg h0]at h
  by_cases h1:-(n:Int)≤i
  ·rw[if_pos h1]at h
   have e:(i+n).toNat=j:=Option.some.inj h
   exact⟨by rw[seqIndex_neg (by omega) h1,e],by omega,h1,by omega⟩
  ·rw[if_neg h1]at h;cases h
theorem a3r {α:Type}{xs:List α}{i:Int}{v:α}(h:atI xs i=some v):∃j,seqIndex? i xs.length=some j∧xs[j]? = some v∧j<xs.length ∧ -(xs.length:Int)≤i∧i<xs.length:=by
 unfold atI at h
 cases e:ixN xs.length i with
 | none=>rw[e]at h;cases h
 | some j =>
  rw[e]at h
  obtain⟨h1,h2,h3,h4⟩:=a6r e
  exact⟨j,h1,h,h2,h3,h4⟩
theorem a1y {α:Type}{xs:List α}{j:Nat}{v:α}(h:xs[j]? = some v):atI xs (j:Int)=some v:=by
 have hj:j<xs.length:=(List.getElem?_eq_some_iff.mp h).1
 have e:ixN xs.length (j:Int)=some j:=by
  unfold ixN
  rw[if_pos (by omega),if_pos (by omega)];simp
 unfold atI;rw[e];exact h
noncomputable def a5G (b:Expr):Prop:=∀o i,subscripted b false o i=operate [o,i] (getItem o i)
noncomputable def IxR (X:Cx)(r:R2):Prop :=
 ∀(value slice:Expr) (pins:List (Addr×Obj)) (s:Shared) (σ:St) (H:Hp) (x y:V) (v u:Value) (Q:VK),Inv X pins σ H s->v4 x v->v4 y u->r x y H Q ->
  subscripted slice false v u=operate [v,u] (getItem v u)->wpAny (model X.prog X.w) X.A (subscriptTail value slice v u) (EP X pins σ Q) X.xe s
noncomputable def MtR (X:Cx)(id:String)(r:V->List V->Hp->VK->Prop):Prop :=
 ∀(pins:List (Addr×Obj)) (s:Shared) (σ:St) (H:Hp) (x:V) (xs:List V) (v:Value) (us:List Value) (Q:VK),Inv X pins σ H s->v4 x v->k9 xs us->r x xs H Q ->
  wpAny (model X.prog X.w) X.A (call (.builtin id) (v::us)) (EP X pins σ Q) X.xe s
section
variable {X:Cx}{a b:Expr}{ta tb:TE}{pos:Pos}
theorem X4 {r:R2}(hr:IxR X r)(ha:PE X a ta)(hb:PE X b tb)(hs:a5G b):PE X (.Subscript a b pos) (tOp r ta tb):=by
 intro pins s σ H Q I h
 exact Subscript_ (b1S ha hb I h λv u s2 x y H2 I2 rx ry q=>hr a b pins s2 σ H2 x y v u Q I2 rx ry q (hs _ _))
noncomputable def b3B (K:PySem.W.Frag):R2:=λx y H Q=>∃p xs i v,x = .ref p∧y = .int i∧SqL K H p xs∧atI xs i=some v∧Q v H
noncomputable def b2N (K:PySem.W.Frag):R2:=λx y H Q=>∃p xs i v,x = .ref p∧y = .int i∧SqT K H p xs∧atI xs i=some v∧Q v H
noncomputable def b3Z:R2:=λx y H Q=>∃z i c,x = .str z∧y = .int i∧z.length≤sizeLine∧atI z.cps.toList i=some c∧Q (.str ⟨#[c]⟩) H
theorem J4:IxR X (b3B X.K):=by
 intro value slice pins s σ H x y v u Q I rx ry h hs
 obtain⟨p,xs,i,z,rfl,rfl,hq,he,q⟩:=h
 cases rx
 obtain⟨t,rfl⟩:=ry
 obtain⟨its,r,pl,hz⟩:=I.list hq
 obtain⟨j,h1,h2,h3,h4,h5⟩:=a3r he
 obtain⟨w,ew,rw'⟩:=r.get h2
 have hl:=r.length
 have hn:=Y6
 have fin:EP X pins σ Q w s:=⟨z,H,I,rw',q⟩
 by_cases h0:0≤i
 ·have hj:i.toNat=j:=by
   rw[seqIndex_of h0 h5]at h1
   exact Option.some.inj h1
  exact item_listR pl.isList h0 (by omega) (by rw[hj];simpa using ew) fin hs
 ·have hj:(i+(its.toArray.size:Int)).toNat=j:=by
   rw[seqIndex_neg (by omega) h4]at h1
   rw[List.size_toArray,←hl]
   exact Option.some.inj h1
  exact subscriptTail_builtinR (x:=w) pl.isList.typeIs slot_list_getitem.lookup
   (wpAny_getItem_list_neg (Q:=λr s'=>r=w∧EP X pins σ Q r s') pl.isList (by omega) (by rw[List.size_toArray] <;> omega) (by omega) (by rw[hj];simpa using ew) ⟨rfl,fin⟩) hs
theorem b1g:IxR X (b2N X.K):=by
 intro value slice pins s σ H x y v u Q I rx ry h hs
 obtain⟨p,xs,i,z,rfl,rfl,hq,he,q⟩:=h
 cases rx
 obtain⟨t,rfl⟩:=ry
 obtain⟨its,r,pl,hz⟩:=I.tuple hq
 obtain⟨j,h1,h2,h3,h4,h5⟩:=a3r he
 obtain⟨w,ew,rw'⟩:=r.get h2
 have hl:=r.length
 have hn:=Y6
 have fin:EP X pins σ Q w s:=⟨z,H,I,rw',q⟩
 exact subscriptTail_builtinR (x:=w) pl.typeIs slot_tuple_getitem.lookup
  (getItem_tuple (j:=j) (Q:=λr s'=>r=w∧EP X pins σ Q r s') pl (by omega) (by omega) (by rw[List.size_toArray,←hl];exact h1) (by simpa using ew) ⟨rfl,fin⟩) hs
theorem b23:IxR X b3Z:=by
 intro value slice pins s σ H x y v u Q I rx ry h hs
 obtain⟨z,i,c,rfl,rfl,hz,he,q⟩:=h
 obtain⟨t,rfl⟩:=rx
 obtain⟨t',rfl⟩:=ry
 obtain⟨j,h1,h2,h3,h4,h5⟩:=a3r he
 have hl:z.cps.toList.length=z.length:=by simp[Str.length]
 rw[hl]at h1 h4 h5
 have hn:=Y6
 exact tail_any (typeIs_str s z t) slot_str_getitem.lookup (getItem_str (c:=c) (by
  have e1:decide (i < -(2 ^ 63:Int))=false:=decide_eq_false (by omega)
  have e2:decide (i ≥ 2 ^ 63)=false:=decide_eq_false (by omega)
  rw[e1,e2,Bool.or_false]) (by rw[h1];simpa using h2) ⟨.str ⟨#[c]⟩,H,I.tok _,⟨_,rfl⟩,q⟩) hs
theorem a4V (its:List Value)(n j:Nat)(u:Value):Obj.mapSeq (·.setIfInBounds j u) { cls:=.type "list",data:=.seq its.toArray n }={ cls:=.type "list",data:=.seq (its.set j u).toArray n }:=by
 simp[Obj.mapSeq]
theorem Inv.lst {pins:List (Addr×Obj)}{σ:St}{H:Hp}{s:Shared}{p:Addr}{xs:List V}(I:Inv X pins σ H s)(h:H p=some (.lst xs)) :
  ∃(its:List Value) (n:Nat),k9 xs its∧s.heap.get? p=some { cls:=.type "list",data:=.seq its.toArray n }∧xs.length≤sizeLine:=by
 obtain⟨z,its,n,r,e⟩:=I.hok p _ h
 exact⟨its,n,r,e,z⟩
theorem Inv.lstUpd {pins:List (Addr×Obj)}{σ:St}{H:Hp}{s:Shared}{p:Addr}{xs ys:List V}{its its':List Value}{n n':Nat}{f:Obj->Obj}(I:Inv X pins σ H s)(h:H p=some (.lst xs))
  (ho:s.heap.get? p=some { cls:=.type "list",data:=.seq its.toArray n }) (hf:f { cls:=.type "list",data:=.seq its.toArray n }={ cls:=.type "list",data:=.seq its'.toArray n' }) (r:k9 ys its') (hz:ys.length≤sizeLine) (t:Nat) :
  Inv X pins σ (upd H p (.lst ys)) { s with heap:=s.heap.update p f,toks:=t }:=by
 have e:(s.heap.update p f).get? p=some { cls:=.type "list",data:=.seq its'.toArray n' }:=by
  rw[Heap.get?_update_self f ho (by rw[hf] <;> rfl),hf]
 refine I.write (x:=p) (e:=p) (by rw[h];trivial) (.inl rfl) (λb u hb q=>(Heap.get?_update_other _ _ (Ne.symm hb)).trans q) ⟨_,e⟩ ?_
 exact⟨hz,its',n',r,e⟩
noncomputable def b0C:V->V->V->Hp->(Hp->Prop)->Prop:=λo i v H Q=>∃p xs k j,o = .ref p∧i = .int k∧H p=some (.lst xs)∧ixN xs.length k=some j∧Q (upd H p (.lst (xs.set j v)))
theorem a0b:b2D X b0C:=by
 intro pins s σ H o i v ov iv u Q I ro ri rv h
 obtain⟨p,xs,k,j,rfl,rfl,hp,hj,q⟩:=h
 cases ro
 obtain⟨t,rfl⟩:=ri
 obtain⟨its,n,r,ho,hz⟩:=I.lst hp
 obtain⟨h1,h2,h3,h4⟩:=a6r hj
 have hl:=r.length
 have hn:=Y6
 have I':Inv X pins σ (upd H p (.lst (xs.set j v))) { s with heap:=s.heap.update p (Obj.mapSeq (·.setIfInBounds j u)) } :=
  I.lstUpd hp ho (a4V its n j u) (r.set rv j) (by rw[List.length_set];exact hz) s.toks
 by_cases h0:0≤k
 ·have hk:k.toNat=j:=by
   rw[seqIndex_of h0 h4]at h1
   exact Option.some.inj h1
  exact PySem.W.ki_setAt ho h0 (by omega) (by rw[List.size_toArray,←hl];exact h4) (by rw[hk];exact⟨_,I',q⟩)
 ·have hk:(k+(its.toArray.size:Int)).toNat=j:=by
   rw[seqIndex_neg (by omega) h3]at h1
   rw[List.size_toArray,←hl]
   exact Option.some.inj h1
  exact PySem.W.ki_setBack ho (by omega) (by rw[List.size_toArray,←hl];exact h3) (by omega) (by rw[hk];exact⟨_,I',q⟩)
theorem a31 (lo hi:Option Int)(n:Nat):(sliceBounds lo hi none n).1=((HT.sIx n 0 lo:Nat):Int)∧(sliceBounds lo hi none n).2.1=((HT.sIx n n hi:Nat):Int)∧(sliceBounds lo hi none n).2.2=1:=by
 refine⟨?_,?_,rfl⟩
 ·cases lo with
  | none=>simp[sliceBounds,HT.sIx]
  | some i =>
   simp only[sliceBounds,HT.sIx,Option.getD_none,show(1:Int) > 0 by decide,if_true]
   by_cases h:i<0
   ·simp only[h,if_true] <;> omega
   ·simp only[h,if_false] <;> omega
 ·cases hi with
  | none=>simp[sliceBounds,HT.sIx]
  | some i =>
   simp only[sliceBounds,HT.sIx,Option.getD_none,show(1:Int) > 0 by decide,if_true]
   by_cases h:i<0
   ·simp only[h,if_true] <;> omega
   ·simp only[h,if_false] <;> omega
theorem a2n (its:List Value)(lo hi:Option Int):slicePick its.toArray lo hi none=((its.drop (HT.sIx its.length 0 lo)).take (HT.sIx its.length its.length hi-HT.sIx its.length 0 lo)).toArray:=by
 obtain⟨h1,h2,h3⟩:=a31 lo hi its.toArray.size
 unfold slicePick
 rw[h1,h2,h3]
 simp only[sliceRange_one,pick_run,List.size_toArray] <;> rfl
noncomputable def b3Q (K:PySem.W.Frag):V->Option Int->Option Int->Hp->VK->Prop:=λx lo hi H Q=>∃a xs,x = .ref a∧SqL K H a xs∧∀p,H p=none->Q (.ref p) (upd H p (.lst (a0T xs lo hi)))
theorem a60:SlR X (b3Q X.K):=by
 intro pins s σ H x v vl vu lo hi sl Q I rx hs pl pu h
 obtain⟨a,xs,rfl,hx,q⟩:=h
 cases rx
 obtain⟨its,r,ht,hz⟩:=I.list hx
 have hlen:=r.length
 refine⟨"list",_,slot_list_getitem.lookup,ht.isList.typeIs,?_⟩
 refine wpAny_getItem_list_slice ht.isList hs pl pu .none (by simp) ?_ (by rw[List.size_toArray] <;> omega)
 rw[a2n,←hlen]
 refine⟨.ref s.heap.objs.size,_,I.laid (t':=s.toks) (o:=.lst (a0T xs lo hi)) (λb ob q=>Heap.get?_push_of_some _ q) (Nat.le_refl _) ?_,rfl,q _ (I.hok.fresh (Nat.le_refl _))⟩
 exact⟨Nat.le_trans (a10 xs lo hi) hz,_,0,(r.drop (HT.sIx xs.length 0 lo)).take (HT.sIx xs.length xs.length hi-HT.sIx xs.length 0 lo),Heap.get?_push_size _ rfl⟩
theorem R8:C2 X (.builtin "len") (λxs H Q=>∃p ys,xs=[.ref p]∧(SqL X.K H p ys∨SqT X.K H p ys)∧Q (.int ys.length) H):=by
 intro pins s σ H xs us Q I r h
 obtain⟨p,ys,rfl,hq,q⟩:=h
 obtain⟨u,rfl,rx⟩:=U0 r
 cases rx
 have hn:=Y6
 rcases hq with hq | hq
 ·obtain⟨its,r',pl,hz⟩:=I.list hq
  have hlen:=r'.length
  exact Calls.call_len_list pl.isList (by simp only[List.size_toArray] <;> omega) ⟨.int ys.length,H,I.tok _,⟨s.toks+1,by rw[List.size_toArray,hlen]⟩,q⟩
 ·obtain⟨its,r',pl,hz⟩:=I.tuple hq
  have hlen:=r'.length
  exact len_tuple pl (by simp only[List.size_toArray] <;> omega) ⟨.int ys.length,H,I.tok _,⟨s.toks+1,by rw[List.size_toArray,hlen]⟩,q⟩
theorem a2S:C2 X (.builtin "len") (λxs H Q=>∃z,xs=[.str z]∧z.length≤sizeLine∧Q (.int z.length) H):=by
 intro pins s σ H xs us Q I r h
 obtain⟨z,rfl,hz,q⟩:=h
 obtain⟨u,rfl,t,rfl⟩:=U0 r
 have hn:=Y6
 exact len_str (by omega) ⟨.int z.length,H,I.tok _,⟨_,rfl⟩,q⟩
theorem K8:C2 X (.type "list") (λxs H Q=>∃p ys,xs=[.ref p]∧(SqL X.K H p ys∨SqT X.K H p ys)∧∀l,H l=none->Q (.ref l) (upd H l (.lst ys))):=by
 intro pins s σ H xs us Q I r h
 obtain⟨p,ys,rfl,hq,q⟩:=h
 obtain⟨u,rfl,rx⟩:=U0 r
 cases rx
 have fin:∀(its:List Value),k9 ys its->ys.length≤sizeLine->∀(h':Heap) (c':Nat),(∀b o',s.heap.get? b=some o'->h'.get? b=some o') ->
   h'.get? s.heap.objs.size=some { cls:=.type "list",dict:=none,data:=.seq its.toArray c',slots:=#[] }->EP X pins σ Q (.ref s.heap.objs.size) { s with heap:=h' }:=λits r' hz h' c' kp e =>
  ⟨.ref s.heap.objs.size,_,I.laid (t':=s.toks) kp (Nat.le_refl _) (show L9 X.prog X.w _ h' _ (.lst ys) from⟨hz,its,c',r',e⟩),rfl,q _ (I.hok.fresh (Nat.le_refl _))⟩
 rcases hq with hq | hq
 ·obtain⟨its,r',pl,hz⟩:=I.list hq
  have hlen:=r'.length
  obtain⟨o,ho,hc,n,hd⟩:=pl.isList
  exact call_list_seq p (.inl rfl) ho hc hd (λh' c' kp e=>fin its r' hz h' c' kp e) (by simp only[List.size_toArray] <;> omega)
 ·obtain⟨its,r',pl,hz⟩:=I.tuple hq
  have hlen:=r'.length
  obtain⟨o,ho,hc,n,hd⟩:=pl
  exact call_list_seq p (.inr rfl) ho hc hd (λh' c' kp e=>fin its r' hz h' c' kp e) (by simp only[List.size_toArray] <;> omega)
theorem a2t:C2 X (.type "tuple") (λxs H Q=>∃p ys,xs=[.ref p]∧((SqL X.K H p ys∧∀l,H l=none->Q (.ref l) (upd H l (.tup ys)))∨(SqT X.K H p ys∧Q (.ref p) H))):=by
 intro pins s σ H xs us Q I r h
 obtain⟨p,ys,rfl,h⟩:=h
 obtain⟨u,rfl,rx⟩:=U0 r
 cases rx
 rcases h with ⟨hq,q⟩ | ⟨hq,q⟩
 ·obtain⟨its,r',pl,hz⟩:=I.list hq
  have hlen:=r'.length
  refine call_tuple_list pl.isList (λh' kp=>?_) (by simp only[List.size_toArray] <;> omega)
  have I1:Inv X pins σ H { s with heap:=h' }:=I.kept (t':=s.toks) kp
  have I2:Inv X pins σ (upd H h'.objs.size (.tup ys)) { s with heap:=h'.push { cls:=.type "tuple",data:=.seq its.toArray } } :=
   I1.laid (t':=s.toks) (λb o e=>Heap.get?_push_of_some _ e) (Nat.le_refl _) (show L9 X.prog X.w _ _ _ (.tup ys) from⟨hz,its,r',IsTup.new _ _⟩)
  exact⟨.ref h'.objs.size,_,I2,rfl,q _ (I1.hok.fresh (Nat.le_refl _))⟩
 ·obtain⟨its,r',pl,hz⟩:=I.tuple hq
  exact call_tuple_same pl ⟨.ref p,H,I,rfl,q⟩
noncomputable def tyV (K:PySem.W.Frag)(T:String)(x:V)(H:Hp):Prop:=match x with
 | .str _=>T = "str"
 | .int _=>T = "int"
 | .ref p=>(T = "list" ∧ ∃xs,SqL K H p xs)∨(T = "tuple" ∧ ∃o,K.lookup p=some o∧o.cls = .type "tuple" ∧ o.dict=none) ∨
   (T = "dict" ∧ ((∃kvs,H p=some (.dK kvs))∨∃kvs,H p=some (.dT kvs)))∨(T = "set" ∧ ∃S n,H p=some (.set S n))
 | _=>False
theorem b2u {pins:List (Addr×Obj)}{σ:St}{H:Hp}{s:Shared}{T:String}{x:V}{v:Value}(I:Inv X pins σ H s)(r:v4 x v)(ty:tyV X.K T x H) :
  s.TypeIs v T∧∀a,v = .ref a->∃ob,s.heap.get? a=some ob∧ob.dict=none:=by
 cases x with
 | str z =>
  obtain⟨t,rfl⟩:=r
  cases(show T = "str" from ty)
  exact⟨typeIs_str s z t,λ_ e=>nomatch e⟩
 | int i =>
  obtain⟨t,rfl⟩:=r
  cases(show T = "int" from ty)
  exact⟨typeIs_int s i t,λ_ e=>nomatch e⟩
 | ref p =>
  cases r
  rcases ty with ⟨rfl,xs,hq⟩ | ⟨rfl,o,hk,hc,hd⟩ | ⟨rfl,hk⟩ | ⟨rfl,S,n,hk⟩
  ·obtain⟨its,_,pl,_⟩:=I.list hq
   refine⟨pl.isList.typeIs,λa e=>?_⟩
   cases e
   obtain⟨o,n,e,c,hd,_⟩:=pl
   exact⟨o,e,hd⟩
  ·refine⟨⟨o,I.kIn p o hk,hc⟩,λa e=>?_⟩
   cases e
   exact⟨o,I.kIn _ o hk,hd⟩
  ·have z:∃o,s.heap.get? p=some o∧o.ExactDict:=by
    rcases hk with ⟨kvs,hk⟩ | ⟨kvs,hk⟩
    ·obtain⟨_,_,_,_,o,_,_,e,ex,_⟩:=I.hok p _ hk
     exact⟨o,e,ex⟩
    ·obtain⟨_,_,_,_,o,_,_,e,ex,_⟩:=I.hok p _ hk
     exact⟨o,e,ex⟩
   obtain⟨o,e,ex⟩:=z
   refine⟨⟨o,e,ex.1⟩,λa e2=>?_⟩
   cases e2
   exact⟨o,e,ex.2.1⟩
  ·obtain⟨o,_,_,_,e,ex,_⟩:=I.hok p _ hk
   refine⟨⟨o,e,ex.1⟩,λa e2=>?_⟩
   cases e2
   exact⟨o,e,ex.2.1⟩
 | _=>exact False.elim ty
noncomputable def tBM (K:PySem.W.Frag)(T:String)(r:V->List V->Hp->VK->Prop)(to:TE)(t:TA):TE:=λσ H Q=>to σ H λx H1=>tyV K T x H1∧t σ H1 λxs H2=>r x xs H2 Q
variable {o e:Expr}{es:List Expr}{to:TE}{t:TA}{name:Str}{apos cpos:Pos}{T id:String}{r:V->List V->Hp->VK->Prop}
theorem b35 (pa:PlainAttrs T)(slot:Slot T name id)(hty:typeOf (.builtin id)=pure (.type "method_descriptor"))(hm:MtR X id r)(ho:PE X o to)(ha:PA X (e::es) t)
  (hbase:attributeBase o name X.env (eval o X.env)=eval o X.env:=by rfl)
  (hfew:((backTo cpos (starEach (e::es) X.env)).all (λx=>!x.1)&&(backToKw cpos (keywordEach [] X.env)).all (λx=>x.1.isSome)
   && decide ((e::es).length+([]:List Keyword).length+(if ([]:List Keyword).isEmpty then 0 else 1)<30))=true:=by rfl)
  (hline:(apos.endLine == cpos.line)=true:=by rfl) (hs:starEach (e::es) X.env=(false,eval e X.env)::starEach es X.env:=by rfl) (hplain:(backTo cpos (starEach es X.env)).any (·.1)=false:=by rfl) :
  PE X (.Call (.Attribute o name apos) (e::es) [] cpos) (tBM X.K T r to t):=by
 intro pins s σ H Q I h
 refine wpAny_Call_method_late hbase hfew hline rfl (thn (ho pins s σ H _ I h) λv s1 ⟨x,H1,I1,r1,ty,q1⟩=>?_)
 obtain⟨h1,h2⟩:=b2u I1 r1 ty
 refine⟨T,id,pa,slot,hty,h1,h2,?_⟩
 have hA:=ha cpos pins s1 σ H1 _ I1 q1
 rw[hs]at hA ⊢
 refine Calls.callWith_builtin (by show(false||(backTo cpos (starEach es X.env)).any (·.1))=false;rw[hplain] <;> rfl) (Calls.evalArgs_plain ?_)
 exact thn hA λus s2 ⟨vs,H2,I2,r2,q2⟩=>hm pins s2 σ H2 x vs v us Q I2 r1 r2 q2
/- xs.append(e),list.index on a module's tuple .. are MtR facts of 06m -/
end
end L2
namespace L2
open PySem PySem.Spec PyProof.Rows
noncomputable def MtM (X:Cx)(id:String)(r:V->List V->Hp->VK->Prop):Prop :=
 ∀(pins:List (Addr×Obj)) (s:Shared) (σ:St) (H:Hp) (x:V) (xs:List V) (v:Value) (us:List Value) (Q:VK),Inv X pins σ H s->v4 x v->k9 xs us->r x xs H Q ->
  wpAny (model X.prog X.w) X.A (call (.builtin id) (v::us)) (EP X pins σ Q) X.xe s
theorem k9.one:∀{x:V} {us:List Value},k9 [x] us->∃u,us=[u]∧v4 x u
 | _,_,.cons r .nil=>⟨_,rfl,r⟩
theorem k9.reverse {xs:List V}{us:List Value}(h:k9 xs us):k9 xs.reverse us.reverse:=by
 induction h with
 | nil=>exact .nil
 | cons r t ih=>rw[List.reverse_cons,List.reverse_cons];exact k9.append ih (.cons r .nil)
theorem k9.rep {xs:List V}{us:List Value}(h:k9 xs us):∀k:Nat,k9 (List.replicate k xs).flatten (List.replicate k us).flatten
 | 0=>.nil
 | k+1=>by
  rw[List.replicate_succ,List.replicate_succ,List.flatten_cons,List.flatten_cons]
  exact k9.append h (k9.rep h k)
theorem a0v (its:List Value):∀(k:Nat) (acc:List Value),
  List.foldl (λx1 x2=>x1++x2) acc.toArray (List.replicate k its.toArray)=(acc++(List.replicate k its).flatten).toArray
 | 0,acc=>by simp
 | k+1,acc=>by
  have e:acc.toArray++its.toArray=(acc++its).toArray:=by simp
  have e2:(acc++its)++(List.replicate k its).flatten=acc++(List.replicate (k+1) its).flatten:=by
   rw[List.replicate_succ,List.flatten_cons,List.append_assoc]
  rw[←e2,←a0v its k (acc++its),←e,List.replicate_succ,List.foldl_cons]
section
variable {X:Cx}{pins:List (Addr×Obj)}{σ:St}{H:Hp}{s:Shared}{l b:Addr}{xs ys zs:List V}
theorem Inv.lset {its its':List Value}{n:Nat}{f:Array Value->Array Value}{t':Nat}(I:Inv X pins σ H s)(hH:H l=some (.lst xs))
  (e:s.heap.get? l=some { cls:=.type "list",data:=.seq its.toArray n }) (hf:f its.toArray=its'.toArray) (hv:k9 ys its') (hz:ys.length≤sizeLine) :
  Inv X pins σ (upd H l (.lst ys)) { s with heap:=s.heap.update l (Obj.mapSeq f),toks:=t' }:=by
 have q:=PySem.IsL.update e f
 rw[hf]at q
 refine I.write (x:=l) (e:=l) (by rw[hH];exact trivial) (.inl rfl) (λb' u hb hu=>(Heap.get?_update_other s.heap (Obj.mapSeq f) (Ne.symm hb)).trans hu) ⟨_,q⟩ ?_
 exact⟨hz,its',_,hv,q⟩
theorem Inv.lnew {its:List Value}{t':Nat}(I:Inv X pins σ H s)(hv:k9 ys its)(hz:ys.length≤sizeLine) :
  Inv X pins σ (upd H s.heap.objs.size (.lst ys)) { s with heap:=s.heap.push { cls:=.type "list",data:=.seq its.toArray },toks:=t' } :=
 I.laid (λ_ _ q=>Heap.get?_push_of_some _ q) (Nat.le_refl _) ⟨hz,its,0,hv,Heap.get?_push_size _ rfl⟩
theorem Inv.fresh (I:Inv X pins σ H s):H s.heap.objs.size=none:=I.hok.fresh (Nat.le_refl _)
theorem Inv.lstM (I:Inv X pins σ H s)(hH:H l=some (.lst xs)):xs.length≤sizeLine∧∃(its:List Value) (n:Nat),k9 xs its∧xs.length=its.length∧s.heap.get? l=some { cls:=.type "list",data:=.seq its.toArray n }:=by
 obtain⟨z,its,n,r,e⟩:=I.hok l _ hH
 exact⟨z,its,n,r,r.length,e⟩
theorem a42 {n:Nat}(h:n≤sizeLine):Builtin.List.listTooLong n=false:=by
 unfold Builtin.List.listTooLong
 exact decide_eq_false (by omega)
end
section
variable {X:Cx}
noncomputable def a3i:V->List V->Hp->VK->Prop:=λx vs H Q=>∃l xs y,x = .ref l∧vs=[y]∧H l=some (.lst xs)∧xs.length<sizeLine∧Q .non (upd H l (.lst (xs++[y])))
theorem V8:MtM X "list.append" a3i:=by
 intro pins s σ H x vs v us Q I rx rv h
 obtain⟨l,xs,y,rfl,rfl,hH,hz,q⟩:=h
 cases rx
 obtain⟨u,rfl,ru⟩:=rv.one
 obtain⟨z,its,n,r,hl,e⟩:=I.lstM hH
 refine call_meets F.slot_list_append ⟨_,e,rfl⟩ F.entry_list_append (F.args_list_append_2 _ _) (PySem.list_append l its.toArray n u (by rw[List.size_toArray];omega)) ⟨e,?_⟩
 refine⟨.non,_,I.lset (its':=its++[u]) hH e (by simp) (r.append (.cons ru .nil)) ?_,rfl,q⟩
 rw[List.length_append,List.length_singleton]
 omega
noncomputable def b43:R2:=λx y H Q=>∃l b xs zs,x = .ref l∧y = .ref b∧H l=some (.lst xs)∧H b=some (.lst zs)∧xs.length+zs.length≤sizeLine∧∀p,H p=none->Q (.ref p) (upd H p (.lst (xs++zs)))
theorem b2n:OpR X (binaryOp .Add) b43:=by
 intro pins s σ H x y v u Q I rx ry h
 obtain⟨l,b,xs,zs,rfl,rfl,hH,hB,hz,q⟩:=h
 cases rx
 cases ry
 obtain⟨z,its,n,r,hl,e⟩:=I.lstM hH
 obtain⟨z2,its2,n2,r2,hl2,e2⟩:=I.lstM hB
 refine PySem.P.add_list e e2 ?_ (by rw[List.size_toArray,List.size_toArray];omega)
 have ea:its.toArray++its2.toArray=(its++its2).toArray:=by simp
 rw[ea]
 exact⟨.ref _,_,I.lnew (t':=s.toks) (r.append r2) (by rw[List.length_append];omega),rfl,q _ I.fresh⟩
noncomputable def b3X:R2:=λx y H Q=>∃l k xs,x = .ref l∧y = .int k∧H l=some (.lst xs) ∧ -(2 ^ 63)≤k∧k<2 ^ 63∧xs.length*k.toNat≤sizeLine ∧
 ∀p,H p=none->Q (.ref p) (upd H p (.lst (List.replicate k.toNat xs).flatten))
theorem a3m {α:Type}(xs:List α)(k:Nat):(List.replicate k xs).flatten.length=k*xs.length:=by
 induction k with
 | zero=>simp
 | succ k ih=>rw[List.replicate_succ,List.flatten_cons,List.length_append,ih,Nat.succ_mul,Nat.add_comm]
theorem b2c:OpR X (binaryOp .Mult) b3X:=by
 intro pins s σ H x y v u Q I rx ry h
 obtain⟨l,k,xs,rfl,rfl,hH,h1,h2,hz,q⟩:=h
 cases rx
 obtain⟨t,rfl⟩:=ry
 obtain⟨z,its,n,r,hl,e⟩:=I.lstM hH
 have hlen:its.toArray.size*k.toNat≤sizeLine:=by rw[List.size_toArray,←hl];exact hz
 have hcap:¬its.toArray.size*k.toNat > (2 ^ 63-1) / 8:=by
  have:(sizeLine:Nat)≤(2 ^ 63-1) / 8:=by decide
  omega
 have hfit:¬(!Builtin.List.listFitsIndex k)=true:=by
  rw[fitsIndex_both h1 h2]
  exact Bool.false_ne_true
 have hlong:¬Builtin.List.listTooLong (its.toArray.size*k.toNat)=true:=by
  rw[a42 hlen]
  exact Bool.false_ne_true
 have hnew:List.foldl (λx1 x2=>x1++x2) #[] (List.replicate (if its.toArray.isEmpty=true then 0 else k.toNat) its.toArray)=(List.replicate k.toNat its).flatten.toArray:=by
  have f0:∀m:Nat,List.foldl (λx1 x2=>x1++x2) #[] (List.replicate m its.toArray)=(List.replicate m its).flatten.toArray:=λm=>by
   have:=a0v its m []
   rw[List.nil_append]at this
   exact this
  rw[f0]
  cases its with
  | nil=>simp
  | cons a r'=>rw[if_neg (by simp)]
 refine wpAny_binaryOp_repeat_ref (T:="list") (U:="int") (by decide) ⟨_,e,rfl⟩ (λs'=>typeIs_int s' k t) noFill_list_mul F.fills_int_mul F.slot_int_rmul repeat_list F.slot_int_index.lookup
  (call_meets F.slot_int_rmul (typeIs_int s k t) F.entry_int_rmul (F.args_int_rmul_2 _ _) (int___rmul___int_list k t l its.toArray n)
   ⟨e,rfl,⟨_,e,rfl⟩,call_meets F.slot_list_mul ⟨_,e,rfl⟩ F.entry_list_mul (F.args_list_mul_2 _ _) (AutoListH.list___mul___list_int_3 l its.toArray n k t hfit hcap hlong) ⟨e,?_⟩⟩)
 rw[hnew]
 exact⟨.ref _,_,I.lnew (t':=s.toks) (r.rep k.toNat) (by rw[a3m,Nat.mul_comm];exact hz),rfl,q _ I.fresh⟩
end
section
variable {prog:Program}{w:World}{A:Around}{E:Value->Shared->Prop}{s:Shared}
end
section
variable {X:Cx}
end
end L2
namespace L2
open PySem PySem.Spec PyProof.Rows
section
variable {κ:Type}[DecidableEq κ]
end
section
variable {P:Program}{w:World}{H:Hp}{h:Heap}{a:Addr}
end
section
variable {X:Cx}{pins:List (Addr×Obj)}{σ:St}{H:Hp}{s:Shared}{a:Addr}{y v:V}{u r:Value}{o:Option V}{A:Around}{E:Value->Shared->Prop}
end
section
variable {X:Cx}{pins:List (Addr×Obj)}{σ:St}{H:Hp}{s:Shared}{a:Addr}{kvs:List (Key×V)}{k:Key}{u:Value}{A:Around}{E:Value->Shared->Prop}
end
section
variable {X:Cx}{o i e value:Expr}{pos pos' tpos:Pos}{td ty tv:TE}
end
section
variable {X:Cx}{pos:Pos}
end
section
variable {X:Cx}{pins:List (Addr×Obj)}{σ:St}{H:Hp}{s:Shared}{a:Addr}{y d:V}{u r:Value}{o:Option V}{A:Around}{E:Value->Shared->Prop}
end
section
variable {X:Cx}{o e f:Expr}{apos cpos:Pos}{td ty tx:TE}
end
section
variable {X:Cx}{pins:List (Addr×Obj)}{σ:St}{H:Hp}{s:Shared}{a:Addr}{kvs:List (Key×V)}{A:Around}{E:Value->Shared->Prop}
end
section
variable {X:Cx}{pins:List (Addr×Obj)}{σ:St}{H:Hp}{s:Shared}{a:Addr}{y:V}{u:Value}{A:Around}{E:Value->Shared->Prop}
end
end L2
namespace Att
open PySem PySem.W PySem.Calls PyProof.Rows
theorem a1j {P:Params}{h:Heap}:∀(ns:List Int) (vs:List Value),WellAll P h vs (ns.map WData.int)->IntsAre vs ns:=by
 intro ns
 induction ns with
 | nil =>
  intro vs w
  rw[List.map_nil]at w
  cases w
  exact .nil
 | cons n ns ih =>
  intro vs w
  rw[List.map_cons]at w
  cases w with
  | cons a b =>
   cases a
   exact .cons _ _ (ih _ b)
theorem a6C {l:OpenLaw}{n:Nat}(hn:l.most=some n){P:Params}{h:Heap}{args:List WData}{vals:List Value}
  (hpre:l.row.toRowW.claim.pre args=true) (hwl:WellAll P h vals args) :
  ∃a vs ns,vals=[Value.ref a]∧args=[WData.list (ns.map WData.int)]∧h.get? a=some { cls:=.type "list",data:=.seq vs.toArray }∧IntsAre vs ns∧ns.length≤n:=by
 have hsh:WShape.hasAll [] args [.list .int]=true:=(pre_splitW hpre).1
 have hc:l.pre.holds [] { args:=args }=true:=(pre_splitW hpre).2
 obtain⟨d,r,rfl,h1,h2⟩:=hasAllW_cons hsh
 obtain rfl:=hasAllW_nil h2
 obtain⟨xs,rfl,h3⟩:=hasW_list h1
 obtain⟨ns,rfl⟩:=items_int h3
 have hlen:ns.length≤n:=by
  unfold OpenLaw.pre at hc
  have h4:(WTm.not (.lt (.lit (.int (n:Int))) (.len (.arg 0)))).holds [] { args:=[.list (ns.map .int)] }=true:=by
   have h4:=(holds_andW hc).1
   rw[hn]at h4
   exact h4
  have h5:=condW_of h4 (w_not (w_lt w_lit (w_len_list (w_arg rfl))))
  rw[List.length_map]at h5
  refine Nat.le_of_not_lt λq=>?_
  have q':(n:Int)<((ns.length:Nat):Int):=by omega
  first
   | (rw[decide_eq_true q']at h5;exact absurd h5 (by decide))
   | (simp at h5;omega)
 cases hwl with
 | cons w1 w2 =>
  cases w2
  cases w1 with
  | list ho hall=>exact⟨_,_,ns,rfl,rfl,ho,a1j ns _ hall,hlen⟩
theorem a72 (l:OpenLaw)(args:List WData):l.row.toRowW.claim.post args (.bool true) args=true :=
 postW_of (r:=l.row.toRowW) (X:=(true == true))
  (show WShape.has [] (.bool true) .bool=true by first | rfl | decide | simp[WShape.has,WShape.arms,WShape.armsAll])
  (show(WTm.eq .res (.lit (.bool true))).value [] { args:=args,res:=some (.bool true),after:=args }=some (.bool (true == true)) from w_eq_bool (w_res rfl) w_lit) rfl
theorem attach_call {l:OpenLaw}{n:Nat}{q:Program}{loose:List Str}{XP:(Str->Option Value)->Heap->Prop}{YP:World->Heap->Prop}{d:DefRec}
  (hn:l.most=some n) (hdf:d.params.defaults=[])
  (call:∀(w:World) (s₀ s₁:Shared) (mg mb:Str->Option Value) (fa:Addr) (o:Obj) (pm cd doc:Value) (a:Addr) (vs:List Value) (ns:List Int),
   Ground q loose [] XP w s₀ mg mb s₁.heap->YP w s₁.heap ->
   s₁.heap.get? fa=some o->o.data = .func (docDef d.name d.params d.body d.scope pm cd doc)->s₁.heap.CodeRec cd d.name->mg d.name=some (.ref fa) ->
   s₁.heap.get? a=some { cls:=.type "list",data:=.seq vs.toArray }->IntsAre vs ns->ns.length≤n->s₁.gens = #[] ->
   codeAny (model l.prog w) callerA (.call (.ref fa) ⟨[.ref a],[]⟩) (λr s'=>r = .ok (.ret (.bool true))∧OldK s₁.heap s'.heap∧s'.os=s₁.os∧AllBare s'.gens) s₁) :
  WalkO q loose XP YP l.row.toRowW d [] (λf vs=>PySem.call f vs):=by
 intro w s₀ s₁ mg mb G Y fa o pm cd doc dV kV ho hd hcd hD hmg hg args vals as hpre hlay hrd hwl hlo
 obtain rfl:dV = .none:=Dflts.none hD hdf
 obtain rfl:kV = .none:=Dflts.noKw hD
 obtain⟨a,vs,ns,rfl,rfl,hobj,hints,hlen⟩:=a6C hn hpre hwl
 refine enter_call (codeAny_mono (call w s₀ s₁ mg mb fa o pm cd doc a vs ns G Y ho (fd_plain hd) hcd hmg hobj hints hlen hg) λr s' hq=>?_)
 obtain⟨rfl,h2,h3,h4⟩:=hq
 exact⟨.inl ⟨.bool true,.bool true,[],rfl,λ_=>rfl,.bool true,a72 l _,λ_=>⟨List.Pairwise.nil,λ_ hm=>(nomatch hm)⟩⟩,h2,h3,h4⟩
section
variable {prog:Program}{w:World}{A:Around}{E:Value->Shared->Prop}{s:Shared}{K:Frag}
end
end Att
namespace L2
open PySem PySem.Spec PyProof.Rows
theorem W1:∀{vs:List Value} {ns:List Int},IntsAre vs ns->k9 (ns.map V.int) vs
 | _,_,.nil=>.nil
 | _,_,.cons n t h=>.cons ⟨t,rfl⟩ (W1 h)
end L2
namespace L2
open PySem PySem.Spec PyProof.Rows
end L2
/- THE LAST THEOREM (shape;LID,My.* are yours):
   My.Adr: a structure of the addresses that your layer names (classes,functions);My.Txt K t: a structure (Prop) of the equations over K;
   My.txt_mk:{K} {implicit addresses ..} (e1:nsIn K mainGlobals "law" = some (some (.ref f))) (e2:K.lookup f=some ⟨oc,od,.func (fnOf "law" "law" params body scope dV kV doc pm an cdv ct),sl⟩) (e3:codeIn K cdv "law" = true) ..:∃t,My.Txt K t
set_option maxRecDepth 100000 in
set_option maxHeartbeats 0 in
theorem PySem.Challenge.cw_LID_holds:PySem.Challenge.rw_LID.Holds:=by
 w_on;o_law;k_head;(case hw=>w_witness2)
 k_fill
 refine L2.walk_of (l:=PySem.Challenge.rw_LID) (n:=63) (k:=40) (x:="script") (CX:=λw=>..) (sp:=λ_=>My.sp_law) rfl (by decide) rfl ⟨rfl,by decide,by decide⟩ (λw h Y=>PySem.W.kIn_of Y) ?F ?S ?C
 case F =>
  intro w mg fa h KX G hmg
  have T:∃t,My.Txt (L2.KOf KX) t:=by
   dsimp only[L2.KOf]                          -- K must stand as «<heap const> w.params» for k_is
   refine' My.txt_mk ?e1 ?e2 ?e3 ..
   (case e1=>PySem.W.k_is)                    -- in the order: a name -> its address -> its object -> its parts
   (case e2=>PySem.W.k_is)
   ..
  obtain⟨t,T⟩:=T
  have e0:=hmg.symm.trans (PySem.W.mg_of KX G T.law)
  cases e0                                       -- fa is the law's own address
  exact⟨_,λs u=>.of_eq rfl,λbase kb nb=>My.law_fn T kb nb⟩     -- if «.of_eq rfl» comes too early: refine' ⟨_,?b,λbase kb nb=>My.law_fn T kb nb⟩;exact λs u=>.of_eq rfl
 case S=>exact λw H a ns hl hO hS=>..
 case C=>exact ..
(the tactic k_is has no namespace: write k_is) -/
namespace L2
open PySem PySem.Spec PyProof.Rows
noncomputable def defArgs (s:Stmt):Arguments:=match s with
 | .FunctionDef _ a _ _ _ _ _ _ _ _=>a
 | _=>{ posonlyargs:=[],args:=[],vararg:=none,kwonlyargs:=[],kw_defaults:=[],kwarg:=none,defaults:=[] }
noncomputable def defBody (s:Stmt):List Stmt:=match s with
 | .FunctionDef _ _ b _ _ _ _ _ _ _=>b
 | _=>[]
noncomputable def defScope (s:Stmt):Scope:=match s with
 | .FunctionDef _ _ _ _ _ _ sc _ _ _=>sc
 | _=>{ kind:=.function,names:=[],isGenerator:=false,isCoroutine:=false }
noncomputable abbrev CX0:CXT:=λ_ _ _ _ _ _=>False
noncomputable abbrev E0:XK:=λ_ _ _=>False
theorem b3r {X:Cx}:a4Q CX0 X E0:=λ_ _ _ _ _ _ _ h=>h.elim
structure Fun (K:PySem.W.Frag) (x qual:Str) (st:Stmt) (f:Addr) (fd:FuncData):Prop where
 ex:∃(oc:Value) (od:Option Addr) (kV doc pm:Value) (an:Option Addr) (cdv ct:Value) (osl:Array (Option Value)),
  fd=PySem.W.fnOf x qual (defArgs st) (defBody st) (defScope st) .none kV doc pm an cdv ct∧K.lookup f=some ⟨oc,od,.func fd,osl⟩∧PySem.W.codeIn K cdv qual=true
 kp:PySem.W.keepIn K (.ref f)=true
section
variable {P:Program}{w:World}{K:PySem.W.Frag}{mg:Str->Option Value}{base:Heap}
theorem Fun.ok {x qual:Str}{st:Stmt}{f:Addr}{fd:FuncData}{N ps:List Str}{k:Nat}{sp:Sp}(F:Fun K x qual st f fd)(S:FnScope N ps (defScope st))(len:∀vs H Q E,sp vs H Q E->vs.length=ps.length)
  (hbody:∀(cdv:Value) (A:Around) (outer:List Env) (s:Shared) (H:Hp) (vs:List V) (Q:VK) (E:XK),Room k (A.deeper (envOfC qual (defScope st) s.heap.objs.size f cdv))->sp vs H Q E ->
   ∃t,PSs (K1 CX0 P w K mg base N qual (defScope st) f cdv A outer s H E).nox (defBody st) t∧t { nx:=λ_ H'=>Q .non H',rt:=Q } (K5 N vs) H):FnOk P w K mg base CX0 (k+1) f fd ps sp:=by
 obtain⟨oc,od,kV,doc,pm,an,cdv,ct,osl,rfl,lk,hcd⟩:=F.ex
 refine b15 lk hcd S len λA outer s H vs Q E hr hsp=>?_
 obtain⟨t,h,q⟩:=hbody cdv A outer s H vs Q E hr hsp
 exact⟨t,h.nox,q⟩
theorem Fun.binds {x qual:Str}{st:Stmt}{f:Addr}{fd:FuncData}{ps:List Str}(F:Fun K x qual st f fd)
  (h:∀(kV doc pm:Value) (an:Option Addr) (cdv ct:Value) (us:List Value),us.length=ps.length->bindArgs (PySem.W.fnOf x qual (defArgs st) (defBody st) (defScope st) .none kV doc pm an cdv ct) ⟨us,[]⟩=pure (ps.zip us)):a2y K fd ps []:=by
 obtain⟨oc,od,kV,doc,pm,an,cdv,ct,osl,rfl,lk,hcd⟩:=F.ex
 exact .all (h kV doc pm an cdv ct)
theorem fun_mk {x qual:Str}{st:Stmt}{f:Addr}{oc:Value}{od an:Option Addr}{osl:Array (Option Value)}{kV doc pm cdv ct:Value}(l:K.lookup f=some ⟨oc,od,.func (PySem.W.fnOf x qual (defArgs st) (defBody st) (defScope st) .none kV doc pm an cdv ct),osl⟩)
  (c:PySem.W.codeIn K cdv qual=true) (k:PySem.W.keepIn K (.ref f)=true):Fun K x qual st f (PySem.W.fnOf x qual (defArgs st) (defBody st) (defScope st) .none kV doc pm an cdv ct):=⟨⟨oc,od,kV,doc,pm,an,cdv,ct,osl,rfl,l,c⟩,k⟩
end
theorem a0U {n:Nat}(h:n≤1000):n<sizeLine:=Nat.lt_of_le_of_lt h (by decide)
section
variable {X:Cx}
theorem pv (i:Nat){x:Str}{pos:Pos}(hN:X.N[i]? = some x:=by rfl)(hv:Vis X.env.scope x:=by first | exact Or.inl rfl | exact Or.inr (Or.inl rfl) | exact Or.inr (Or.inr rfl))(hd:(x == ("__debug__":Str))=false:=by decide)
  (hcd:(x == ("__classdict__":Str))=false:=by decide):PE X (.Name x pos) (a0D i):=U8 hN hv hd hcd
end
theorem b32 {A B:Prop}(h:B):if false=true then A else B:=by
 rw[if_neg Bool.false_ne_true]
 exact h
theorem a6T {c A B:Prop}[Decidable c](h1:c->A)(h2:¬c->B):if c then A else B:=by
 by_cases h:c
 ·rw[if_pos h]
  exact h1 h
 ·rw[if_neg h]
  exact h2 h
noncomputable def i5 (H H':Hp):Prop:=∀b o,H b=some o->H' b=some o
theorem i5.refl (H:Hp):i5 H H:=λ_ _ h=>h
section
variable {X:Cx}
end
section
variable {κ:Type}[DecidableEq κ]
end
end L2
set_option maxHeartbeats 4000000
namespace L2
open PySem PySem.Spec PyProof.Rows
noncomputable def z9 (f:Str->Addr):List (Str×NameKind)->List (Str×Addr)->List (Str×Addr)
 | [],acc=>acc
 | (n,kd)::r,acc=>z9 f r (if (kd == NameKind.free)=true then(n,f n)::acc else acc)
theorem B9 {scope:Scope}{env:Env}{f:Str->Addr}(h:∀y∈scope.names,y.2 = .free->cellOf env y.1=pure (f y.1)) :
  closureFor scope env=pure (z9 f scope.names []):=by
 have key:∀(l:List (Str×NameKind)) (acc:List (Str×Addr)),(∀y∈l,y.2 = .free->cellOf env y.1=pure (f y.1)) ->
   (forIn l acc (λ(x:Str×NameKind) (cs:List (Str×Addr))=>if (x.2 == NameKind.free)=true then(do let c ←cellOf env x.1;pure (ForInStep.yield ((x.1,c)::cs))) else pure (ForInStep.yield cs)):Sem (List (Str×Addr)))=pure (z9 f l acc):=by
  intro l
  induction l with
  | nil=>intro acc _;rfl
  | cons y r ih =>
   intro acc hy
   obtain⟨n,kd⟩:=y
   rw[List.forIn_cons]
   by_cases hk:(kd == NameKind.free)=true
   ·have e:kd = .free:=by simpa using hk
    have hc:=hy (n,kd) List.mem_cons_self e
    simp only[hk,if_true]
    dsimp only at hc
    rw[hc]
    show(forIn r ((n,f n)::acc) _:Sem _)=_
    rw[ih _ λz hz=>hy z (List.mem_cons_of_mem _ hz)]
    simp only[z9,hk,if_true]
   ·simp only[hk,if_false]
    show(forIn r acc _:Sem _)=_
    rw[ih _ λz hz=>hy z (List.mem_cons_of_mem _ hz)]
    simp only[z9,hk,if_false]
    rfl
 have:=key scope.names [] h
 unfold closureFor
 show(forIn scope.names [] _ >>= λr=>pure r)=_
 rw[show(forIn scope.names ([]:List (Str×Addr)) _:Sem _)=_ from this]
 rfl
theorem E8 {f:Str->Addr}:∀(l:List (Str×NameKind)) (acc:List (Str×Addr)) {x:Str} {c:Addr},(z9 f l acc).lookup x=some c->((x,NameKind.free)∈l∧c=f x)∨acc.lookup x=some c
 | [],_,_,_,h=>.inr h
 | (n,kd)::r,acc,x,c,h=>by
  rw[z9]at h
  rcases E8 r _ h with ⟨h1,h2⟩ | h1
  ·exact .inl ⟨List.mem_cons_of_mem _ h1,h2⟩
  ·by_cases hk:(kd == NameKind.free)=true
   ·rw[if_pos hk]at h1
    have e:kd = .free:=by simpa using hk
    subst e
    by_cases hx:x=n
    ·subst hx
     simp at h1
     exact .inl ⟨List.mem_cons_self,h1.symm⟩
    ·have hb:(x == n)=false:=beq_eq_false_iff_ne.mpr hx
     rw[List.lookup_cons,hb]at h1
     exact .inr h1
   ·rw[if_neg hk]at h1
    exact .inr h1
theorem P6 {f:Str->Addr}:∀(l:List (Str×NameKind)) (acc:List (Str×Addr)) {x:Str},((x,NameKind.free)∈l∨acc.lookup x=some (f x))->(z9 f l acc).lookup x=some (f x)
 | [],_,_,h=>by
  rcases h with h | h
  ·exact absurd h (by simp)
  ·exact h
 | (n,kd)::r,acc,x,h=>by
  rw[z9]
  refine P6 r _ ?_
  by_cases hk:(kd == NameKind.free)=true
  ·rw[if_pos hk]
   have e:kd = .free:=by simpa using hk
   subst e
   by_cases hx:x=n
   ·subst hx
    exact .inr (by simp)
   ·have hb:(x == n)=false:=beq_eq_false_iff_ne.mpr hx
    rcases h with h | h
    ·rcases List.mem_cons.mp h with z | z
     ·cases z;exact absurd rfl hx
     ·exact .inl z
    ·exact .inr (by rw[List.lookup_cons,hb];exact h)
  ·rw[if_neg hk]
   rcases h with h | h
   ·rcases List.mem_cons.mp h with z | z
    ·cases z;exact absurd rfl hk
    ·exact .inl z
   ·exact .inr h
theorem V4 {scope:Scope}{env:Env}{x:Str}(hn:∀y∈scope.names,y.2 ≠ .cell)(h:(relabel scope env).names.lookup x=some .cell∨(relabel scope env).names.lookup x=some .free):(x,NameKind.free)∈scope.names:=by
 have go:∀kd,(relabel scope env).names.lookup x=some kd->kd = .cell∨kd = .free->(x,NameKind.free)∈scope.names:=by
  intro kd h hk
  have hm:=PySem.mem_of_lookup h
  unfold relabel at hm
  obtain⟨⟨n,k0⟩,hy,e⟩:=List.mem_map.mp hm
  by_cases hc:(k0 == NameKind.free&&env.scope.kind == .function&&env.kindOf n == some .cell)=true
  ·simp only[hc,if_true]at e
   cases e
   have:k0 = .free:=by
    simp only[Bool.and_eq_true]at hc
    simpa using hc.1.1
   subst this
   exact hy
  ·simp only[hc,if_false]at e
   cases e
   rcases hk with r | r
   ·subst r;exact absurd rfl (hn _ hy)
   ·subst r;exact hy
 rcases h with h | h
 ·exact go _ h (.inl rfl)
 ·exact go _ h (.inr rfl)
theorem X9 {φ:Str×NameKind->Str×NameKind}(hφ:∀n k,φ (n,k)=(n,k)∨(k = .free ∧ φ (n,k)=(n,.cell))):∀{names:List (Str×NameKind)} {x:Str},names.lookup x=some .free->(names.map φ).lookup x=some .cell∨(names.map φ).lookup x=some .free
 | [],_,h=>by simp at h
 | (n,k)::r,x,h=>by
  have ih:=@X9 φ hφ r x
  rw[List.map_cons]
  cases hx:x == n with
  | true =>
   simp only[List.lookup_cons,hx]at h
   cases h
   rcases hφ n .free with e | ⟨_,e⟩
   ·rw[e,List.lookup_cons,hx];exact .inr rfl
   ·rw[e,List.lookup_cons,hx];exact .inl rfl
  | false =>
   simp only[List.lookup_cons,hx]at h
   rcases hφ n k with e | ⟨_,e⟩
   ·rw[e,List.lookup_cons,hx];exact ih h
   ·rw[e,List.lookup_cons,hx];exact ih h
theorem R7 {scope:Scope}{env:Env}{x:Str}(h:scope.names.lookup x=some .free):(relabel scope env).names.lookup x=some .cell∨(relabel scope env).names.lookup x=some .free:=by
 unfold relabel
 refine X9 (λn k=>?_) h
 by_cases hc:(k == NameKind.free&&env.scope.kind == .function&&env.kindOf n == some .cell)=true
 ·refine .inr ⟨?_,if_pos hc⟩
  simp only[Bool.and_eq_true]at hc
  simpa using hc.1.1
 ·exact .inl (if_neg hc)
section
variable {prog:Program}{w:World}{A:Around}{R:Result->Shared->Prop}{s:Shared}
theorem a0k {elt target iter:Expr}{ifs:List Expr}{scope:Scope}{pos:Pos}{it acc:Value}{env:Env}(I:Nat->Shared->Prop)
  (turn:∀n s,I n s->wpAny (model prog w) A (pyNext it) (λr s₁=>match r with
   | none=>R (.ok .next) s₁
   | some v=>wpAny (model prog w) A (letOwnedTupleGo target it v) (λ_ s₀=>wpAny (model prog w) A (assign target env v) (λ_ s₂ =>
     wpAny (model prog w) A (forIn ifs true λc r=>if r=true then do let ok ←isTrue c env (eval c env);pure (ForInStep.yield ok) else pure (ForInStep.yield r)) (λok s₃ =>
      if ok=true then wpAny (model prog w) A (eval elt env) (λx s₄ =>
       wpAny (model prog w) A (call (.builtin "list.append") [acc,x]) (λ_ s₅=>∃m,m<n∧I m s₅) (λ_ _=>False) s₄) (λ_ _=>False) s₃
      else ∃m,m<n∧I m s₃) (λ_ _=>False) s₂) (λ_ _=>False) s₀) (λ_ _=>False) s₁) (λ_ _=>False) s)
  (n:Nat) (h:I n s) :
  codeAny (model prog w) A (.compLoop (.ListComp elt [⟨target,iter,ifs,0⟩] scope pos) 0 it acc env) R s:=by
 refine codeAny_loop rfl I (λn s hI=>?_) n h
 show wpAny _ A ((compTurn (.ListComp elt [⟨target,iter,ifs,0⟩] scope pos) 0 it acc env).onRaise (λx=>do noteFrame x env;theTreesLotGoes x)) _ _ s
 refine wpAny_noted ?_
 rw[compTurn_list]
 refine wpAny_bind (wpAny_standAt (wpAny_bind (wpAny_mono (turn n s hI) (λr s₁ h₁=>?_) λ_ _ h'=>h'.elim)))
 cases r with
 | none=>exact wpAny_pure h₁
 | some v =>
  refine wpAny_bind (wpAny_mono h₁ (λ_ s₀ h₀=>?_) λ_ _ h'=>h'.elim)
  refine wpAny_bind (wpAny_mono h₀ (λ_ s₂ h₂=>wpAny_bind (wpAny_mono h₂ (λok s₃ h₃=>?_) λ_ _ h'=>h'.elim)) λ_ _ h'=>h'.elim)
  cases ok with
  | false=>exact wpAny_pure ⟨rfl,h₃⟩
  | true =>
   exact wpAny_bind (wpAny_bind (wpAny_mono h₃ (λx s₄ h₄=>wpAny_bind (wpAny_mono h₄ (λ_ s₅ h₅=>wpAny_pure (wpAny_pure ⟨rfl,h₅⟩)) λ_ _ h'=>h'.elim)) λ_ _ h'=>h'.elim))
end
noncomputable def K7 (k:Nat)(cap:List Nat)(σ:St):St:=List.replicate k none++cap.map λj=>(σ[j]?).join
structure Caps (ON:List Str) (osc:Scope) (N:List Str) (k:Nat) (cap:List Nat) (scope:Scope):Prop where
 kind:scope.kind = .function
 nocell:∀y∈scope.names,y.2 ≠ .cell
 loc:∀y∈scope.names,y.2 = .local->scope.names.lookup y.1=some .local
 free:∀y∈scope.names,y.2 = .free->osc.names.lookup y.1=some .cell∨osc.names.lookup y.1=some .free
 len:N.length=k+cap.length
 capx:(cap.map λj=>ON[j]?)=(N.drop k).map some
 capf:∀x∈N.drop k,scope.names.lookup x=some .free
noncomputable def cxC (X:Cx)(N:List Str)(scope:Scope)(cl:List (Str×Addr))(C:Addr)(ex:List Addr)(pins:List (Addr×Obj))(s₀:Shared)(H₀:Hp):Cx where
 prog:=X.prog
 w:=X.w
 K:=X.K
 mg:=X.mg
 base:=X.base
 A:=X.A
 N:=N
 s₀:=s₀
 H₀:=H₀
 env:=compEnvC scope cl C X.env
 outer:=X.stack
 stack:=X.stack
 ex:=ex
 fn:=λ_=>false
 calm:=X.calm
 pn:=X.pn++pins
 xe:=λ_ _=>False
noncomputable def PTs (X:Cx)(ifs:List Expr)(t:TT):Prop :=
 ∀(pins:List (Addr×Obj)) (s:Shared) (σ:St) (H:Hp) (Q:Bool->Hp->Prop),Inv X pins σ H s->t σ H Q ->
  wpAny (model X.prog X.w) X.A (forIn ifs true λc r=>if r=true then do let ok ←isTrue c X.env (eval c X.env);pure (ForInStep.yield ok) else pure (ForInStep.yield r)) (TP X pins σ Q) X.xe s
noncomputable def b2C:TT:=λ_ H Q=>Q true H
theorem a9K {X:Cx}:PTs X [] b2C:=λ_ _ _ H _ I h=>wpAny_tests_nil ⟨H,I,h⟩
theorem b0r {X:Cx}{c:Expr}{t:TT}(h:PT X c t):PTs X [c] t:=λpins s σ H Q I q=>wpAny_tests_one (h pins s σ H Q I q)
noncomputable def tLC (wi:TI)(k:Nat)(cap:List Nat)(g:TG)(tt:TT)(te:TE):TE:=λσ H Q=>wi σ H λJ H1=>∀D,H1 D=none ->
 ∃W:Nat->Nat->St->List V->Hp->Prop,(∃m,W 0 m (K7 k cap σ) [] (upd H1 D (.lst [])))∧∀i m σ' acc H',W i m σ' acc H' ->
  (J.stop i H'∧Q (.ref D) H') ∨
  (J.go i H'∧∀x H2,J.yld i H' x H2->g x σ' H2 λσ2 H3=>tt σ2 H3 λok H4=>if ok=true then te σ2 H4 λy H5=>H5 D=some (.lst acc)∧acc.length<sizeLine∧∃m',m'<m∧W (i+1) m' σ2 (acc++[y]) (upd H5 D (.lst (acc++[y])))
   else H4 D=some (.lst acc)∧∃m',m'<m∧W (i+1) m' σ2 acc H4)
theorem a8L {X:Cx}{elt tg iter:Expr}{ifs:List Expr}{scope osc:Scope}{pos:Pos}{N:List Str}{k:Nat}{cap:List Nat}{g:TG}{tt:TT}{te:TE}{cl:List (Str×Addr)}
  {pins:List (Addr×Obj)} {σ:St} {H3:Hp} {s3:Shared} {D it:Addr} {fp:List Addr} {tn:Nat->Heap->Prop} {J:It} {Q:VK} {W:Nat->Nat->St->List V->Hp->Prop} {m0:Nat}
  (hc:X.calm=true) (hosc:X.env.scope=osc) (hcap:Caps X.N osc N k cap scope)
  (hcl:∀{x:Str} {c:Addr},cl.lookup x=some c->X.env.cells.lookup x=some c) (hhas:∀x,(x,NameKind.free)∈scope.names->∃c,cl.lookup x=some c)
  (hg:∀cl C ex pins s H,PG (cxC X N scope cl C ex pins s H) tg g)
  (ht:∀cl C ex pins s H,PTs (cxC X N scope cl C ex pins s H) ifs tt)
  (he:∀cl C ex pins s H,PE (cxC X N scope cl C ex pins s H) elt te)
  (I3:Inv X pins σ H3 s3) (hD:H3 D=some (.lst [])) (T:Turn X.prog X.w X.K tg J fp it tn) (st:tn 0 s3.heap) (f3:∀b∈fp,Z6 X pins H3 b) (w0:W 0 m0 (K7 k cap σ) [] H3)
  (turn:∀i m σ' acc H',W i m σ' acc H'->(J.stop i H'∧Q (.ref D) H') ∨
   (J.go i H'∧∀x H2,J.yld i H' x H2->g x σ' H2 λσ2 H3=>tt σ2 H3 λok H4=>if ok=true then te σ2 H4 λy H5=>H5 D=some (.lst acc)∧acc.length<sizeLine∧∃m',m'<m∧W (i+1) m' σ2 (acc++[y]) (upd H5 D (.lst (acc++[y])))
    else H4 D=some (.lst acc)∧∃m',m'<m∧W (i+1) m' σ2 acc H4)) :
  wpAny (model X.prog X.w) X.A (newFunctionEnv scope X.env.globals cl [] X.env.qual none .none (some X.env)) (λcenv s₄ =>
   codeAny (model X.prog X.w) X.A (.compStart (.ListComp elt [⟨tg,iter,ifs,0⟩] scope pos) 0 (.ref it) (.ref D) { cenv with scope:=relabel scope X.env }) (compPost (model X.prog X.w) X.A X.xe none (EP X pins σ Q) (.ref D) cenv.locals) s₄) X.xe s3:=by
 refine wpAny_newFunctionEnv hcap.nocell (by intro y hy;simp at hy) (λh₁ hns₁ hsb₁=>?_) hcap.kind
 have old:∀b o,s3.heap.get? b=some o->h₁.get? b=some o:=λb o e=>hsb₁.extBut b o (Nat.ne_of_lt (Heap.lt_size e)) (Heap.get?_push_of_some _ e)
 have neC:∀b∈fp,b≠s3.heap.objs.size:=λb hb=>by
  obtain⟨o,e,_⟩:=T.obj _ _ st b hb
  exact Nat.ne_of_lt (Heap.lt_size e)
 have nofs:∀{b:Addr},b≠X.env.locals->b ∉ X.fs->b ∉ frs X.stack:=λ{b} h1 h2 z=>(List.mem_cons.mp (I3.stkSub b z)).elim h1 h2
 have IY:Inv (cxC X N scope cl s3.heap.objs.size fp pins s3 H3) [] (K7 k cap σ) H3 { s3 with heap:=h₁,toks:=s3.toks+([]:List (Str×Value)).length }:=by
  refine⟨⟨I3.ok.mod,hcap.kind,I3.ok.glob,I3.ok.blt,Nat.le_refl _,λx y c h1 h2=>I3.ok.inj x y c (hcl h1) (hcl h2),λx hx=>hhas x (V4 hcap.nocell hx),λx c h=>absurd (show false=true from h) Bool.false_ne_true,I3.ok.hd,I3.ok.frames,.inl rfl,
   λb hb=>⟨neC b hb,λx c e=>(f3 b hb).2.2.2.2.1 x c (hcl e)⟩,I3.bs,Nat.le_trans I3.ok.bsz I3.sz,λb o e hb=>?_,λb hb=>nofs (f3 b hb).2.1 (f3 b hb).2.2.1,I3.stack,I3.stkFree⟩,
   rfl,I3.bare,Un.kept old,⟨_,hns₁,λi x v e1 e2 e3=>?_⟩,λx c e=>?_,I3.hok.fresh (Nat.le_refl _),λx c e=>I3.freeC x c (hcl e),λp hp=>?_,I3.hok.kept old,?_⟩
  ·rcases(f3 b hb).2.2.2.1 with z | z
   ·exact I3.ok.noex b o e z
   ·exact absurd (Nat.lt_of_lt_of_le (Heap.lt_size e) (Nat.le_trans I3.ok.bsz z)) (Nat.lt_irrefl _)
  ·by_cases hi:i<k
   ·unfold K7 at e2
    rw[List.getElem?_append_left (by simpa using hi),List.getElem?_replicate,if_pos hi]at e2
    cases e2
   ·obtain⟨d,rfl⟩:∃d,i=k+d:=⟨i-k,by omega⟩
    unfold K7 at e2
    rw[List.getElem?_append_right (by simp),List.length_replicate,Nat.add_sub_cancel_left,List.getElem?_map]at e2
    obtain⟨j,hj,hv⟩:=Option.map_eq_some_iff.mp e2
    have hσ:σ[j]? = some (some v):=by
     cases q:σ[j]? with
     | none=>rw[q]at hv;cases hv
     | some o=>rw[q]at hv;exact congrArg some hv
    have e1':(N.drop k)[d]? = some x:=by rw[List.getElem?_drop];exact e1
    have hx:X.N[j]? = some x:=by
     have z:=congrArg (λl=>l[d]?) hcap.capx
     simp only[List.getElem?_map,hj,e1',Option.map_some]at z
     exact Option.some.inj z
    have hfr:=hcap.capf x (List.mem_of_getElem? e1')
    have hfm:=PySem.mem_of_lookup hfr
    have hok:=hcap.free _ hfm rfl
    rw[←hosc]at hok
    obtain⟨m,hn,hl⟩:=I3.loc
    obtain⟨u,r,l⟩:=hl j x v hx hσ (.inr hok)
    refine⟨u,r,?_⟩
    rcases l with ⟨hk,_⟩ | ⟨hk,c,hc1,hc2⟩
    ·have hk:X.env.scope.names.lookup x=some .local:=hk
     rcases hok with z | z <;> (rw[hk]at z;cases z)
    ·obtain⟨c',hc'⟩:=hhas x hfm
     have:c'=c:=Option.some.inj ((hcl hc').symm.trans hc1)
     subst this
     exact .inr ⟨R7 hfr,c',hc',hc2.keeps old⟩
  ·obtain⟨v,z⟩:=I3.cell x c (hcl e)
   exact⟨v,z.keeps old⟩
  ·have hp:p∈(X.pn++pins)++[]:=hp
   rw[List.append_nil]at hp
   obtain⟨a1,a2,a3,a4,a5⟩:=I3.pin p hp
   exact⟨old _ _ a1,a2,Nat.ne_of_lt (Heap.lt_size a1),nofs a3 a4,a5⟩
  ·show(K7 k cap σ).length=N.length
   unfold K7
   rw[List.length_append,List.length_replicate,List.length_map,hcap.len]
 have stat:∀{H':Hp},(∀b∈fp,H' b=none)->∀b∈fp,Z6 (cxC X N scope cl s3.heap.objs.size fp pins s3 H3) [] H' b:=λ{H'} hn b hb=>by
  obtain⟨a0,a1,a2,a3,a4,a5⟩:=f3 b hb
  refine⟨hn b hb,neC b hb,nofs a1 a2,.inl hb,λx c e=>a4 x c (hcl e),λp hp=>a5 p ?_⟩
  have hp:p∈(X.pn++pins)++[]:=hp
  rwa [List.append_nil]at hp
 have loop:codeAny (model X.prog X.w) X.A (.compLoop (.ListComp elt [⟨tg,iter,ifs,0⟩] scope pos) 0 (.ref it) (.ref D) (compEnvC scope cl s3.heap.objs.size X.env))
   (compPost (model X.prog X.w) X.A X.xe none (EP X pins σ Q) (.ref D) s3.heap.objs.size) { s3 with heap:=h₁,toks:=s3.toks+([]:List (Str×Value)).length }:=by
  refine a0k (λn s'=>∃i σ' acc H',Inv (cxC X N scope cl s3.heap.objs.size fp pins s3 H3) [] σ' H' s'∧tn i s'.heap∧(∀b∈fp,H' b=none)∧H' D=some (.lst acc)∧W i n σ' acc H') ?_ m0
   ⟨0,_,[],H3,IY,T.keep _ _ _ st λb _ o e=>old b o e,λb hb=>(f3 b hb).1,hD,w0⟩
  rintro n s5 ⟨i,σ5,acc,H5,I5,st5,fr5,hD5,w5⟩
  rcases turn i n σ5 acc H5 w5 with ⟨stop,q⟩ | ⟨go,step⟩
  ·refine thn (T.done (cxC X N scope cl s3.heap.objs.size fp pins s3 H3) rfl rfl rfl hc i [] s5 σ5 H5 _ I5 (stat fr5) st5 stop) λr s6 ⟨hr,I6⟩=>?_
   subst hr
   obtain⟨m,hn,_⟩:=id I6.loc
   refine⟨m,hn,λh' hsb=>?_⟩
   have I7:Inv X pins σ H5 s6:=I3.call' I6.os I6.base I6.hok I6.bare λb hb=>by
    obtain⟨a0,a1,a2,a3,a4,a5⟩:=f3 b hb
    exact⟨a3,a1,a4,a5⟩
   obtain⟨g0,g1,g2,g3,g4,g5⟩:=I3.fpOk (H':=H5) (b:=s3.heap.objs.size) (Nat.le_refl _) I6.free
   exact⟨.ref D,H5,I7.turned (t':=s6.toks) (λb o hb e=>(hsb.2 b hb).trans e) g0 g1 g3 g4 g5,rfl,q⟩
  ·refine thn (T.item (cxC X N scope cl s3.heap.objs.size fp pins s3 H3) rfl rfl rfl hc i [] s5 σ5 H5 _ I5 (stat fr5) st5 go) λr s6 ⟨u,hr,h6⟩=>?_
   subst hr
   refine thn h6 λ_ s7 ⟨x,H7,I7,r7,y7,st7,fr7⟩=>?_
   have I7':=I7.pinned (stat fr7) (T.obj _ _ st7)
   have keepI:∀{s':Shared} {σ':St} {H':Hp},Inv (cxC X N scope cl s3.heap.objs.size fp pins s3 H3) ([]++U7 fp s7.heap) σ' H' s'->tn (i+1) s'.heap∧∀b∈fp,H' b=none:=λ{s' σ' H'} I'=>by
    refine⟨T.keep _ _ _ st7 λb hb o e=>(I'.pin (b,o) (List.mem_append_right _ (List.mem_append_right _ (x8 hb e)))).1,λb hb=>?_⟩
    obtain⟨o,e,d⟩:=T.obj _ _ st7 b hb
    exact(I'.pin (b,o) (List.mem_append_right _ (List.mem_append_right _ (x8 hb e)))).2.1
   refine thn (hg _ _ _ _ _ _ _ s7 σ5 H7 x u _ I7' r7 (step x H7 y7)) λ_ s8 ⟨σ8,H8,I8,q8⟩=>?_
   refine thn (ht _ _ _ _ _ _ _ s8 σ8 H8 _ I8 q8) λok s9 ⟨H9,I9,q9⟩=>?_
   cases ok with
   | false =>
    have q9:H9 D=some (.lst acc)∧∃m',m'<n∧W (i+1) m' σ8 acc H9:=q9
    obtain⟨hD9,m',hm,w9⟩:=q9
    obtain⟨k1,k2⟩:=keepI I9
    exact⟨m',hm,i+1,σ8,acc,H9,I9.unpinned,k1,k2,hD9,w9⟩
   | true =>
    refine thn (he _ _ _ _ _ _ _ s9 σ8 H9 _ I9 q9) λyv s10 ⟨y,H10,I10,r10,hD10,hz,m',hm,w10⟩=>?_
    refine thn (V8 (X:=cxC X N scope cl s3.heap.objs.size fp pins s3 H3) _ s10 σ8 H10 (.ref D) [y] (.ref D) [yv] (λ_ H'=>H'=upd H10 D (.lst (acc++[y]))) I10 rfl (.cons r10 .nil) ⟨D,acc,y,rfl,rfl,hD10,hz,rfl⟩)
     λ_ s11 ⟨_,H11,I11,_,e11⟩=>?_
    subst e11
    obtain⟨k1,k2⟩:=keepI I11
    exact⟨m',hm,i+1,σ8,acc++[y],_,I11.unpinned,k1,k2,g8,w10⟩
 exact codeAny_compStart_list loop (T.self X.A 0 _ _ _ (T.keep _ _ _ st λb _ o e=>old b o e) loop)
theorem b0Q {X:Cx}{elt tg iter:Expr}{ifs:List Expr}{scope osc:Scope}{pos:Pos}{N:List Str}{k:Nat}{cap:List Nat}{wi:TI}{g:TG}{tt:TT}{te:TE}
  (hc:X.calm=true) (hosc:X.env.scope=osc) (hcap:Caps X.N osc N k cap scope) (hi:PI X tg iter wi)
  (hg:∀cl C ex pins s H,PG (cxC X N scope cl C ex pins s H) tg g)
  (ht:∀cl C ex pins s H,PTs (cxC X N scope cl C ex pins s H) ifs tt)
  (he:∀cl C ex pins s H,PE (cxC X N scope cl C ex pins s H) elt te)
  (hs:∀x,foldedSetIterable iter X.env x=pure x:=by intro _;rfl) :
  PE X (.ListComp elt [⟨tg,iter,ifs,0⟩] scope pos) (tLC wi k cap g tt te):=by
 intro pins s σ H Q I h
 have hcell:∀y∈scope.names,y.2 = .free->∃c,X.env.cells.lookup y.1=some c:=λy hy hk=>I.ok.has y.1 (by
  show X.env.scope.names.lookup y.1=_∨X.env.scope.names.lookup y.1=_
  rw[hosc];exact hcap.free y hy hk)
 let f:Str->Addr:=λx=>(X.env.cells.lookup x).getD 0
 have hf:∀y∈scope.names,y.2 = .free->X.env.cells.lookup y.1=some (f y.1):=λy hy hk=>by
  obtain⟨c,e⟩:=hcell y hy hk
  show _=some ((X.env.cells.lookup y.1).getD 0)
  rw[e];rfl
 have hclos:closureFor scope X.env=pure (z9 f scope.names []):=B9 λy hy hk=>by
  unfold cellOf
  rw[hf y hy hk]
 have hcl:∀{x:Str} {c:Addr},(z9 f scope.names []).lookup x=some c->X.env.cells.lookup x=some c:=λ{x c} e=>by
  rcases E8 _ _ e with ⟨h1,h2⟩ | h1
  ·rw[h2];exact hf (x,.free) h1 rfl
  ·simp at h1
 have hhas:∀x,(x,NameKind.free)∈scope.names->∃c,(z9 f scope.names []).lookup x=some c:=λx hx=>⟨_,P6 _ _ (.inl hx)⟩
 generalize z9 f scope.names []=cl at hclos hcl hhas
 rw[eval_ListComp]
 refine wpAny_comprehension_free (use:=none) (cl:=cl) rfl hs hclos hcap.kind hcap.loc ?_
 refine thn (hi pins s σ H _ I h) λv s1 h1=>thn h1 λitv s2 h2=>?_
 obtain⟨it,fp,tn,J,H2,e,I2,T,st2,f2,q2⟩:=h2
 subst e
 obtain⟨W,⟨m0,w0⟩,turn⟩:=q2 s2.heap.objs.size (I2.hok.fresh (Nat.le_refl _))
 refine wpAny_newObj_type ?_
 have I3:Inv X pins σ (upd H2 s2.heap.objs.size (.lst [])) { s2 with heap:=s2.heap.push { cls:=.type "list",data:=.seq ([]:List Value).toArray } }:=I2.lnew (ys:=[]) (its:=[]) (t':=s2.toks) .nil (Nat.zero_le _)
 have lt2:∀b∈fp,b≠s2.heap.objs.size:=λb hb=>by
  obtain⟨o,e,_⟩:=T.obj _ _ st2 b hb
  exact Nat.ne_of_lt (Heap.lt_size e)
 exact a8L hc hosc hcap hcl hhas hg ht he I3 g8 T (T.keep _ _ (s2.heap.push { cls:=.type "list",data:=.seq ([]:List Value).toArray }) st2 λb _ o e=>Heap.get?_push_of_some _ e) (λb hb=>⟨by rw[f7 (lt2 b hb)];exact(f2 b hb).1,(f2 b hb).2⟩) w0 turn
end L2
namespace L2
open PySem PySem.Spec PyProof.Rows
mutual
noncomputable def b7 (K:PySem.W.Frag)(H:Hp):PyData->V->Prop
 | .none,v=>v = .non
 | .bool b,v=>v = .bl b
 | .int i,v=>v = .int i
 | .str x,v=>v = .str x
 | .tuple ds,v=>∃a xs,v = .ref a∧SqT K H a xs∧a8 K H ds xs
 | .list ds,v=>∃a xs,v = .ref a∧H a=some (.lst xs)∧a8 K H ds xs
 | .dict _,_=>False
noncomputable def a8 (K:PySem.W.Frag)(H:Hp):List PyData->List V->Prop
 | [],xs=>xs=[]
 | d::ds,xs=>∃x r,xs=x::r∧b7 K H d x∧a8 K H ds r
end
section
variable {X:Cx}{pins:List (Addr×Obj)}{σ:St}{H:Hp}{s:Shared}
mutual
theorem E7 (I:Inv X pins σ H s):∀(d:PyData) (v:V) (u:Value),b7 X.K H d v->v4 v u->∃as,Reads s.heap u d as
 | .none,v,u,h,r=>by
  simp only[b7]at h;subst h;cases(show u=Value.none from r);exact⟨_,.none⟩
 | .bool b,v,u,h,r=>by
  simp only[b7]at h;subst h;cases(show u=Value.bool b from r);exact⟨_,.bool b⟩
 | .int i,v,u,h,r=>by
  simp only[b7]at h;subst h;obtain⟨t,rfl⟩:=(show ∃t,u=Value.int i t from r);exact⟨_,.int i t⟩
 | .str x,v,u,h,r=>by
  simp only[b7]at h;subst h;obtain⟨t,rfl⟩:=(show ∃t,u=Value.str x t from r);exact⟨_,.str x t⟩
 | .tuple ds,v,u,h,r=>by
  simp only[b7]at h
  obtain⟨a,xs,rfl,hq,hd⟩:=h
  cases(show u=Value.ref a from r)
  obtain⟨its,rv,ht,_⟩:=I.tuple hq
  obtain⟨o,h1,h2,n,h3⟩:=ht
  obtain⟨as,ra⟩:=U9 I ds xs its hd rv
  exact⟨_,.tuple h1 h2 h3 ra⟩
 | .list ds,v,u,h,r=>by
  simp only[b7]at h
  obtain⟨a,xs,rfl,hq,hd⟩:=h
  cases(show u=Value.ref a from r)
  obtain⟨its,rv,ht,_⟩:=I.list (SqL.of hq)
  obtain⟨o,h1,h2,n,h3⟩:=ht.isList
  obtain⟨as,ra⟩:=U9 I ds xs its hd rv
  exact⟨_,.list h1 h2 h3 ra⟩
 | .dict kvs,v,u,h,r=>by
  simp only[b7]at h
theorem U9 (I:Inv X pins σ H s):∀(ds:List PyData) (xs:List V) (us:List Value),a8 X.K H ds xs->k9 xs us->∃as,ReadsAll s.heap us ds as
 | [],xs,us,h,r=>by
  simp only[a8]at h;subst h;cases r;exact⟨_,.nil⟩
 | d::ds,xs,us,h,r=>by
  simp only[a8]at h
  obtain⟨x,rr,rfl,h1,h2⟩:=h
  cases r with
  | cons r1 r2 =>
   obtain⟨as,ra⟩:=E7 I d x _ h1 r1
   obtain⟨bs,rb⟩:=U9 I ds rr _ h2 r2
   exact⟨_,.cons ra rb⟩
end
end
structure Shw (d:PyData) (dp n:Nat):Prop where
 sh:d.showable=true
 nd:d.hasDict=false
 de:d.depth≤dp
 ln:d.shown.length≤n
theorem Shw.int {i:Int}{k:Nat}(h:i.natAbs<2 ^ k)(hk:0<k)(hk2:k≤1900):Shw (.int i) 0 (k+20):=by
 have hlog:i.natAbs.log2<1920:=by
  by_cases h0:i.natAbs=0
  ·rw[h0];decide
  ·have:=(Nat.log2_lt h0).mpr h
   omega
 refine⟨by simp only[PyData.showable,hlog,decide_true],by simp only[PyData.hasDict],by simp only[PyData.depth];omega,?_⟩
 have hl2:i.natAbs.log2<k:=by
  by_cases h0:i.natAbs=0
  ·rw[h0];exact hk
  ·exact(Nat.log2_lt h0).mpr h
 have e:=int_text_length_le hk hl2
 simp only[PyData.shown]
 rw[PySem.ofString_length]
 omega
section
variable {X:Cx}
end
end L2
namespace HT
open PySem PyProof.Rows
section
variable {prog:Program}{w:World}{A:Around}{E:Value->Shared->Prop}{s:Shared}
theorem getItem_tuple_whole {t sl:Addr}{items:Array Value}{vl vu:Value}{lo hi:Option Int}{Q:Value->Shared->Prop}(ht:IsTup s.heap t items)(hs:s.heap.IsSliceOf sl vl vu .none)(pl:IsPart vl lo)(pu:IsPart vu hi)
  (h0:sIx items.size 0 lo=0) (h1:sIx items.size items.size hi=items.size) (h:Q (.ref t) s):wpAny (model prog w) A (getItem (.ref t) (.ref sl)) Q E s:=by
 obtain⟨os,hos,hcs,hds⟩:=id hs
 have hTs:s.TypeIs (.ref sl) "slice":=⟨os,hos,hcs⟩
 unfold getItem
 try with_reducible refine wpAny_holding ?_
 first | refine wpAny_bind (wpAny_pure ?_) | skip
 refine wpAny_bind (wpAny_sequenceKey ht.typeIs (by decide) ?_)
 refine wpAny_bind (wpAny_callSpecial?_slot (name:=Str.ofString "__getitem__") ht.typeIs PyProof.Rows.slot_tuple_getitem
  (wpAny_call_entry PyProof.Rows.slot_tuple_getitem ht.typeIs entry_tuple_getitem ?_ (args_tuple_getitem _ _)))
 show wpAny _ _ (Builtin.Tuple.tupleItemsOf (.ref t) >>= _) _ _ s
 refine wpAny_bind (tupleItemsOf_ ht ?_)
 refine wpAny_bind (wpAny_typeOf hTs ?_)
 rw[if_pos (by decide)]
 refine wpAny_bind (O6 hs pl pu ?_)
 have hyes:(((sIx items.size 0 lo:Nat):Int) == 0&&(1:Int) == 1&&(sIx items.size items.size hi-sIx items.size 0 lo) == items.size)=true:=by
  rw[h0,h1];simp
 show wpAny _ _ (if (((sIx items.size 0 lo:Nat):Int) == 0&&(1:Int) == 1&&(sIx items.size items.size hi-sIx items.size 0 lo) == items.size)=true then _ else _) _ _ s
 rw[if_pos hyes]
 unfold Builtin.Tuple.tupleIsExact
 refine wpAny_bind ?_
 refine wpAny_bind (wpAny_typeOf ht.typeIs (wpAny_pure ?_))
 rw[if_pos (by decide)]
 exact wpAny_bind (wpAny_rule (wpAny_pure ⟨_,rfl,wpAny_pure h⟩))
theorem a56 (n:Nat):Builtin.Slice.sliceAdjust none none (-1) (n:Int)=((n:Int)-1,-1):=by
 unfold Builtin.Slice.sliceAdjust
 simp
theorem a59 (n:Nat):Builtin.Slice.slicePlaces ((n:Int)-1) (-1) (-1)=n:=by
 unfold Builtin.Slice.slicePlaces
 rw[if_neg (by decide)]
 split
 ·rw[show(-(-1):Int)=1 by decide,Int.ediv_one];omega
 ·omega
theorem a0O {sl:Addr}{vst:Value}{n:Nat}{Q:Int×Int×Nat->Shared->Prop}(hs:s.heap.IsSliceOf sl .none .none vst)(pst:IsPart vst (some (-1)))
  (h:Q ((n:Int)-1,-1,n) s):wpAny (model prog w) A (Builtin.Slice.sliceApplied (.ref sl) (pure (n:Int))) Q E s:=by
 obtain⟨os,hos,hcs,hds⟩:=id hs
 unfold Builtin.Slice.sliceApplied Builtin.Slice.sliceFields
 refine wpAny_bind (wpAny_bind (wpAny_field hos hds (x:=.none) rfl (wpAny_bind (wpAny_field hos hds (x:=.none) rfl (wpAny_bind (wpAny_field hos hds (x:=vst) rfl (wpAny_pure ?_)))))))
 refine wpAny_bind (Z7 pst ?_)
 show wpAny _ _ (if ((-1:Int) == 0)=true then _ else _) _ _ s
 rw[if_neg (by decide)]
 refine wpAny_bind (slicePart_none (wpAny_bind (slicePart_none (wpAny_bind (wpAny_pure ?_)))))
 show wpAny _ _ (match Builtin.Slice.sliceAdjust none none (-1) (n:Int) with | (lo,hi)=>pure (lo,(-1:Int),Builtin.Slice.slicePlaces lo hi (-1))) _ _ s
 rw[a56 n]
 show wpAny _ _ (pure ((n:Int)-1,(-1:Int),Builtin.Slice.slicePlaces ((n:Int)-1) (-1) (-1))) _ _ s
 rw[a59]
 exact wpAny_pure h
theorem O9 {α β:Type}{f g:α->Option β}:∀{l:List α},(∀x∈l,f x=g x)->l.filterMap f=l.filterMap g
 | [],_=>rfl
 | x::r,h=>by
  rw[List.filterMap_cons,List.filterMap_cons,h x List.mem_cons_self,O9 λy hy=>h y (List.mem_cons_of_mem _ hy)]
theorem a8X (xs:Array Value):((List.range xs.size).filterMap λ(m:Nat)=>xs[(((xs.size:Int)-1)+(m:Int)*(-1)).toNat]?).toArray=xs.toList.reverse.toArray:=by
 congr 1
 have e:((List.range xs.size).filterMap λ(m:Nat)=>xs[(((xs.size:Int)-1)+(m:Int)*(-1)).toNat]?)=(List.range xs.size).filterMap λm=>xs.toList.reverse[m]?:=by
  refine O9 λm hm=>?_
  have hm:=List.mem_range.mp hm
  rw[List.getElem?_reverse (by simpa using hm)]
  have:(((xs.size:Int)-1)+(m:Int)*(-1)).toNat=xs.toList.length-1-m:=by
   rw[Array.length_toList];omega
  rw[this]
  simp
 rw[e]
 have:=PySem.W.krv_all xs.toList.reverse.toArray
 simpa using this
theorem getItem_tuple_rev {t sl:Addr}{items:Array Value}{vst:Value}{Q:Value->Shared->Prop}(ht:IsTup s.heap t items)(hs:s.heap.IsSliceOf sl .none .none vst)(pst:IsPart vst (some (-1)))
  (h:Q (.ref s.heap.objs.size) { s with heap:=s.heap.push { cls:=.type "tuple",data:=.seq items.toList.reverse.toArray } })
  (hsz:items.size≤sizeLine):wpAny (model prog w) A (getItem (.ref t) (.ref sl)) Q E s:=by
 have htake:sizeOk (.seq items.toList.reverse.toArray):=by
  show items.toList.reverse.toArray.size≤sizeLine
  rw[List.size_toArray,List.length_reverse,Array.length_toList];exact hsz
 obtain⟨os,hos,hcs,hds⟩:=id hs
 have hTs:s.TypeIs (.ref sl) "slice":=⟨os,hos,hcs⟩
 unfold getItem
 try with_reducible refine wpAny_holding ?_
 first | refine wpAny_bind (wpAny_pure ?_) | skip
 refine wpAny_bind (wpAny_sequenceKey ht.typeIs (by decide) ?_)
 refine wpAny_bind (wpAny_callSpecial?_slot (name:=Str.ofString "__getitem__") ht.typeIs PyProof.Rows.slot_tuple_getitem
  (wpAny_call_entry PyProof.Rows.slot_tuple_getitem ht.typeIs entry_tuple_getitem ?_ (args_tuple_getitem _ _)))
 show wpAny _ _ (Builtin.Tuple.tupleItemsOf (.ref t) >>= _) _ _ s
 refine wpAny_bind (tupleItemsOf_ ht ?_)
 refine wpAny_bind (wpAny_typeOf hTs ?_)
 rw[if_pos (by decide)]
 refine wpAny_bind (a0O hs pst ?_)
 have hno:¬(((items.size:Int)-1 == 0&&(-1:Int) == 1&&items.size == items.size)=true):=by simp
 show wpAny _ _ (if ((items.size:Int)-1 == 0&&(-1:Int) == 1&&items.size == items.size)=true then _ else _) _ _ s
 rw[if_neg hno,a8X]
 first
  | exact wpAny_bind (m:=Builtin.Tuple.tupleExact _) (wpAny_newObj_type (wpAny_pure ⟨_,rfl,wpAny_pure h⟩) htake)
  | exact wpAny_bind (m:=Builtin.Tuple.tupleExact _) (wpAny_newObj_type (wpAny_bind (wpAny_pure (wpAny_pure ⟨_,rfl,wpAny_pure h⟩))) htake)
  | exact wpAny_bind (wpAny_bind (m:=Builtin.Tuple.tupleExact _) (wpAny_newObj_type (wpAny_pure (wpAny_pure ⟨_,rfl,wpAny_pure h⟩)) htake))
  | exact wpAny_bind (wpAny_bind (m:=Builtin.Tuple.tupleExact _) (wpAny_newObj_type (wpAny_pure ⟨_,rfl,wpAny_pure h⟩) htake))
end
end HT
namespace L2
open PySem PySem.Spec PyProof.Rows
section
variable {X:Cx}
noncomputable def b12 (K:PySem.W.Frag):V->Option Int->Option Int->Hp->VK->Prop:=λx lo hi H Q=>∃a xs,x = .ref a∧SqT K H a xs∧((a0T xs lo hi=xs∧HT.sIx xs.length 0 lo=0∧HT.sIx xs.length xs.length hi=xs.length->Q (.ref a) H) ∧
 (¬(HT.sIx xs.length 0 lo=0∧HT.sIx xs.length xs.length hi=xs.length)->∀p,H p=none->Q (.ref p) (upd H p (.tup (a0T xs lo hi)))))
theorem a9Z:SlR X (b12 X.K):=by
 intro pins s σ H x v vl vu lo hi sl Q I rx hs pl pu h
 obtain⟨a,xs,rfl,hx,hw,hn⟩:=h
 by_cases hc:HT.sIx xs.length 0 lo=0∧HT.sIx xs.length xs.length hi=xs.length
 ·cases rx
  obtain⟨its,r,ht,hz⟩:=I.tuple hx
  have hlen:its.toArray.size=xs.length:=by rw[List.size_toArray];exact r.length.symm
  have hq:=hw ⟨by unfold a0T;rw[hc.1,hc.2];simp,hc.1,hc.2⟩
  exact⟨"tuple",_,PyProof.Rows.slot_tuple_getitem.lookup,ht.typeIs,HT.getItem_tuple_whole ht hs pl pu (by rw[hlen];exact hc.1) (by rw[hlen];exact hc.2) ⟨.ref a,H,I,rfl,hq⟩⟩
 ·exact b2t pins s σ H (.ref a) v vl vu lo hi sl Q I rx hs pl pu ⟨a,xs,rfl,hx,hc,hn hc⟩
theorem a8m (hc:X.calm=true):C2 X (.builtin "sum") (λxs H Q=>∃(a:Addr) (ns:List Int),xs=[.ref a]∧SqL X.K H a (ns.map V.int)∧Q (.int ns.sum) H):=by
 intro pins s σ H xs us Q I r h
 obtain⟨a,ns,rfl,hq,q⟩:=h
 obtain⟨u,rfl,ru⟩:=U0 r
 cases ru
 obtain⟨its,rv,p,hz⟩:=I.list hq
 have hi:=R9 rv
 obtain⟨zs,hzs⟩:=hi.allInts.items
 have hl:s.heap.IsList a (intItems zs):=hzs▸p.isList
 refine sum_intListG (I.ok.hd hc) hl λh' tk t' hk=>⟨.int ns.sum,H,I.kept hk,⟨t',?_⟩,q⟩
 have hn:=hi.numsOf
 have e:numsOf (intItems zs).toList=ns:=by rw[←hzs];exact hn
 rw[nums_intItems]at e
 rw[preSum_eq,List.take_of_length_le (by simp),e]
noncomputable def b2b (K:PySem.W.Frag):R2:=λx y H Q=>∃a b xs,x = .ref a∧y = .ref b∧SqL K H a xs∧SqL K H b []∧Q (.bl (!xs.isEmpty)) H
theorem a7o (hu:X.A.units<cLine):OpR X (compareOp .NotEq) (b2b X.K):=by
 intro pins s σ H x y v u Q I rx ry h
 obtain⟨a,b,xs,rfl,rfl,ha,hb,q⟩:=h
 cases rx
 cases ry
 obtain⟨its,rv,p,hz⟩:=I.list ha
 obtain⟨its2,rv2,p2,hz2⟩:=I.list hb
 cases rv2
 cases rv with
 | nil=>exact(SeqAt.RcNeAt.lists (e:=λ_=>true) p.isList p2.isList rfl hu λj h1 _=>absurd h1 (by simp)) _ _ _ _ ⟨.bl false,H,I,rfl,q⟩
 | cons r1 r2=>exact(SeqAt.RcNeAt.lists_lengths p.isList p2.isList (by simp) hu) _ _ _ _ ⟨.bl true,H,I,rfl,q⟩
noncomputable def b0E (i j k:Nat)(ta:TA):TS:=λD σ H=>ta σ H λvs H1=>∃u v w,vs=[u,v,w]∧D.nx (((σ.set i (some u)).set j (some v)).set k (some w)) H1
theorem a9t {i j k:Nat}{x y z:Str}{a b c:Expr}{ta:TA}{px py pz pt pos:Pos}{kt k2 pt2}(hc:X.calm=true)(hN:X.N.Nodup)(hi:X.N[i]? = some x)(hj:X.N[j]? = some y)(hk:X.N[k]? = some z)(hij:i≠j)(hik:i≠k)(hjk:j≠k)
  (hx:X.env.scope.names.lookup x=some .local) (hy:X.env.scope.names.lookup y=some .local) (hz:X.env.scope.names.lookup z=some .local) (ha:PA X [a,b,c] ta)
  (hw:swappedStores [.Tuple [.Name x px,.Name y py,.Name z pz] kt pt] (.Tuple [a,b,c] k2 pt2) X.env=pure (some [x,y,z]))
  (hs:swapsWithSole [.Tuple [.Name x px,.Name y py,.Name z pz] kt pt] (.Tuple [a,b,c] k2 pt2) pos.line X.env=pure false:=by rfl) :
  PS X (.Assign [.Tuple [.Name x px,.Name y py,.Name z pz] kt pt] (.Tuple [a,b,c] k2 pt2) pos) (b0E i j k ta):=by
 intro pins s σ H D I h
 rw[exec_Assign_arm]
 refine wpAny_bind (wpAny_standAt ?_)
 rw[hs]
 refine wpAny_bind (wpAny_pure ?_)
 rw[if_neg (by decide)]
 refine wpAny_bind (Tuple_ (thn (ha _ pins s σ H _ I h) λus s1 ⟨vs,H1,I1,r1,q1⟩=>?_))
 obtain⟨v,w,t,e1,q1⟩:=q1
 subst e1
 obtain⟨u1,u2,u3,rfl,rv,rw',rt⟩:∃u1 u2 u3,us=[u1,u2,u3]∧v4 v u1∧v4 w u2∧v4 t u3:=by
  cases r1 with
  | cons p q =>
   cases q with
   | cons p' q' =>
    cases q' with
    | cons p'' q'' =>
     cases q''
     exact⟨_,_,_,rfl,p,p',p''⟩
 refine wpAny_newObj_type ?_ (by show 3≤sizeLine;decide)
 have I2:Inv X pins σ H1 { s1 with heap:=s1.heap.push { cls:=.type "tuple",data:=.seq [u1,u2,u3].toArray } }:=I1.kept (t':=s1.toks) λb o e=>Heap.get?_push_of_some _ e
 rw[hw]
 refine wpAny_bind (wpAny_pure ?_)
 show wpAny (model X.prog X.w) X.A (do rule "assign.swapped-stores";let items ←unpackItems (.ref s1.heap.objs.size) 3 none;assignInOrder [λv=>bindName X.env z v,λv=>bindName X.env y v,λv=>bindName X.env x v] items.reverse;pure Flow.next) _ _ _
 refine wpAny_bind (wpAny_rule (wpAny_bind (unpackItems_tuple (items:=#[u1,u2,u3]) (I.ok.hd hc) (IsTup.new s1.heap _) λh' hx'=>?_)))
 have I3:=I2.kept (h':=h') (t':=s1.toks) λb o e=>hx' b o (Nat.ne_of_lt (Heap.lt_size e)) e
 show wpAny _ _ (assignInOrder [λv=>bindName X.env z v,λv=>bindName X.env y v,λv=>bindName X.env x v] [u3,u2,u1] >>= λ_=>pure Flow.next) _ _ _
 refine wpAny_bind (assignInOrder_cons (wpAny_bindName (E3 I3 hN hk (.inl hz) rt (λs2 I4=>?_) (.inr hz))))
 refine assignInOrder_cons (wpAny_bindName (E3 I4 hN hj (.inl hy) rw' (λs3 I5=>?_) (.inr hy)))
 refine assignInOrder_cons (wpAny_bindName (E3 I5 hN hi (.inl hx) rv (λs4 I6=>assignInOrder_nil (wpAny_pure ?_)) (.inr hx)))
 rw[List.set_comm _ _ (Ne.symm hjk),List.set_comm _ _ (Ne.symm hik),List.set_comm _ _ (Ne.symm hij)]at I6
 exact⟨_,H1,I6,q1⟩
end
end L2
namespace L2
open PySem PySem.Spec PyProof.Rows
noncomputable def Callee (P:Program)(w:World)(K:PySem.W.Frag)(mg:Str->Option Value)(base:Heap)(x:Str)(k:Nat)(ps:List Str)(sp:Sp):Prop :=
 ∃f fd,FnOk P w K mg base CX0 k f fd ps sp∧mg x=some (.ref f)∧PySem.W.keepIn K (.ref f)=true∧a2y K fd ps []
theorem a0S {X:Cx}{x:Str}{k:Nat}{ps:List Str}{sp:Sp}{p pos:Pos}{e:Expr}{es:List Expr}{t:TA}(C:Callee X.prog X.w X.K X.mg X.base x k ps sp)(hr:Room k X.A)(hg:Gl X x)(ha:PA X (e::es) t)
  (hdb:(x == ("__debug__":Str))=false:=by decide) (he:starEach (e::es) X.env=(false,eval e X.env)::starEach es X.env:=by rfl) (hpl:(backTo pos (starEach es X.env)).any (·.1)=false:=by rfl) :
  PE X (.Call (.Name x p) (e::es) [] pos) (a1J sp [] E0 t):=by
 obtain⟨f,fd,G,m,kp,b⟩:=C
 exact b0q G hr hg m kp b .nil b3r ha hdb he hpl
noncomputable def KpE (D:Addr->Prop)(H H':Hp):Prop:=∀b o,H b=some o->¬D b->H' b=some o
theorem SqT.kp {K:PySem.W.Frag}{H H':Hp}{a:Addr}{xs:List V}{D:Addr->Prop}(h:SqT K H a xs)(k:KpE D H H')(hD:∀b,D b->∃kvs,H b=some (.dK kvs)):SqT K H' a xs:=by
 rcases h with (h | ⟨o,h⟩) | h
 ·refine .inl (.inl (k _ _ h λz=>?_))
  obtain⟨kvs,e⟩:=hD _ z;rw[h]at e;cases e
 ·refine .inl (.inr ⟨o,k _ _ h λz=>?_⟩)
  obtain⟨kvs,e⟩:=hD _ z;rw[h]at e;cases e
 ·exact .inr h
section
variable {K:PySem.W.Frag}{H H':Hp}{D:Addr->Prop}
mutual
theorem b7.kp (k:KpE D H H')(hD:∀b,D b->∃kvs,H b=some (.dK kvs)):∀(d:PyData) (v:V),b7 K H d v->b7 K H' d v
 | .none,v,h=>by simpa only[b7] using h
 | .bool b,v,h=>by simpa only[b7] using h
 | .int i,v,h=>by simpa only[b7] using h
 | .str x,v,h=>by simpa only[b7] using h
 | .tuple ds,v,h=>by
  simp only[b7]at h ⊢
  obtain⟨a,xs,e,hq,hd⟩:=h
  exact⟨a,xs,e,hq.kp k hD,a8.kp k hD ds xs hd⟩
 | .list ds,v,h=>by
  simp only[b7]at h ⊢
  obtain⟨a,xs,e,hq,hd⟩:=h
  refine⟨a,xs,e,k _ _ hq λz=>?_,a8.kp k hD ds xs hd⟩
  obtain⟨kvs,e⟩:=hD _ z;rw[hq]at e;cases e
 | .dict kvs,v,h=>by simp only[b7]at h
theorem a8.kp (k:KpE D H H')(hD:∀b,D b->∃kvs,H b=some (.dK kvs)):∀(ds:List PyData) (xs:List V),a8 K H ds xs->a8 K H' ds xs
 | [],xs,h=>by simpa only[a8] using h
 | d::ds,xs,h=>by
  simp only[a8]at h ⊢
  obtain⟨x,r,e,h1,h2⟩:=h
  exact⟨x,r,e,b7.kp k hD d x h1,a8.kp k hD ds r h2⟩
end
end
theorem i5.kpE {H H':Hp}(s:i5 H H'):KpE (λ_=>False) H H':=λb o h _=>s b o h
theorem b7.same {K:PySem.W.Frag}{H H':Hp}{d:PyData}{v:V}(h:b7 K H d v)(s:i5 H H'):b7 K H' d v:=b7.kp s.kpE (λ_ z=>z.elim) d v h
theorem a8.same {K:PySem.W.Frag}{H H':Hp}{ds:List PyData}{xs:List V}(h:a8 K H ds xs)(s:i5 H H'):a8 K H' ds xs:=a8.kp s.kpE (λ_ z=>z.elim) ds xs h
theorem SqT.same {K:PySem.W.Frag}{H H':Hp}{a:Addr}{xs:List V}(h:SqT K H a xs)(s:i5 H H'):SqT K H' a xs:=h.kp s.kpE (λ_ z=>z.elim)
theorem i5.upd {H:Hp}{p:Addr}{o:HO}(hp:H p=none):i5 H (upd H p o):=λb u e=>by rw[f7 (l5 e hp)];exact e
section
variable {K:PySem.W.Frag}{H:Hp}
theorem a8.length:∀{ds:List PyData} {xs:List V},a8 K H ds xs->xs.length=ds.length
 | [],xs,h=>by simp only[a8]at h;subst h;rfl
 | d::ds,xs,h=>by
  simp only[a8]at h
  obtain⟨x,r,rfl,h1,h2⟩:=h
  rw[List.length_cons,List.length_cons,h2.length]
theorem a8.get:∀{ds:List PyData} {xs:List V} {i:Nat} {x:V},a8 K H ds xs->xs[i]? = some x->∃d,ds[i]? = some d∧b7 K H d x
 | [],xs,i,x,h,e=>by simp only[a8]at h;subst h;simp at e
 | d::ds,xs,i,x,h,e=>by
  simp only[a8]at h
  obtain⟨y,r,rfl,h1,h2⟩:=h
  cases i with
  | zero=>simp at e;subst e;exact⟨d,rfl,h1⟩
  | succ i=>simpa using h2.get (i:=i) (by simpa using e)
theorem a8.snoc:∀{ds:List PyData} {xs:List V} {d:PyData} {x:V},a8 K H ds xs->b7 K H d x->a8 K H (ds++[d]) (xs++[x])
 | [],xs,d,x,h,h'=>by simp only[a8]at h;subst h;simp only[List.nil_append,a8];exact⟨x,[],rfl,h',rfl⟩
 | e::ds,xs,d,x,h,h'=>by
  simp only[a8]at h
  obtain⟨y,r,rfl,h1,h2⟩:=h
  simp only[List.cons_append,a8]
  exact⟨y,r++[x],rfl,h1,h2.snoc h'⟩
theorem a8.append {ds':List PyData}{xs':List V}(h':a8 K H ds' xs'):∀{ds:List PyData} {xs:List V},a8 K H ds xs->a8 K H (ds++ds') (xs++xs')
 | [],xs,h=>by simp only[a8]at h;subst h;simpa using h'
 | e::ds,xs,h=>by
  simp only[a8]at h
  obtain⟨y,r,rfl,h1,h2⟩:=h
  simp only[List.cons_append,a8]
  exact⟨y,r++xs',rfl,h1,a8.append h' h2⟩
theorem a8.reverse:∀{ds:List PyData} {xs:List V},a8 K H ds xs->a8 K H ds.reverse xs.reverse
 | [],xs,h=>by simp only[a8]at h;subst h;simp[a8]
 | d::ds,xs,h=>by
  simp only[a8]at h
  obtain⟨y,r,rfl,h1,h2⟩:=h
  rw[List.reverse_cons,List.reverse_cons]
  exact(a8.reverse h2).snoc h1
theorem a8.take:∀{ds:List PyData} {xs:List V} (n:Nat),a8 K H ds xs->a8 K H (ds.take n) (xs.take n)
 | [],xs,n,h=>by simp only[a8]at h;subst h;simp[a8]
 | d::ds,xs,0,h=>by simp[a8]
 | d::ds,xs,n+1,h=>by
  simp only[a8]at h
  obtain⟨y,r,rfl,h1,h2⟩:=h
  simp only[List.take_succ_cons,a8]
  exact⟨y,r.take n,rfl,h1,a8.take n h2⟩
theorem b7.tup {ds:List PyData}{xs:List V}{a:Addr}(h:H a=some (.tup xs))(h2:a8 K H ds xs):b7 K H (.tuple ds) (.ref a):=by
 simp only[b7];exact⟨a,xs,rfl,SqT.of h,h2⟩
theorem b7.lst {ds:List PyData}{xs:List V}{a:Addr}(h:H a=some (.lst xs))(h2:a8 K H ds xs):b7 K H (.list ds) (.ref a):=by
 simp only[b7];exact⟨a,xs,rfl,h,h2⟩
theorem a8.nil:a8 K H [] []:=by simp only[a8]
theorem a8.cons {d:PyData}{x:V}{ds:List PyData}{xs:List V}(h:b7 K H d x)(h2:a8 K H ds xs):a8 K H (d::ds) (x::xs):=by
 simp only[a8];exact⟨x,xs,rfl,h,h2⟩
theorem b7.int {i:Int}:b7 K H (.int i) (.int i):=by simp only[b7]
theorem b7.bl {b:Bool}:b7 K H (.bool b) (.bl b):=by simp only[b7]
theorem b7.st {x:Str}:b7 K H (.str x) (.str x):=by simp only[b7]
theorem b7.non:b7 K H .none .non:=by simp only[b7]
theorem b7.ofTup {ds:List PyData}{v:V}(h:b7 K H (.tuple ds) v):∃a xs,v = .ref a∧SqT K H a xs∧a8 K H ds xs:=by simpa only[b7] using h
end
theorem a8v {J:It}{D:Addr}(n:Nat){g:TG}{tt:TT}{te:TE}{Q:Hp->Prop}{σ0:St}{H0:Hp}(Pv:Nat->St->List V->Hp->Prop)(h0:Pv 0 σ0 [] H0)
  (hgo:∀i σ acc H,i<n->Pv i σ acc H->J.go i H) (hstop:∀σ acc H,Pv n σ acc H->J.stop n H)
  (hs:∀i σ acc H,i<n->Pv i σ acc H->∀x H2,J.yld i H x H2->∀R:St->List V->Hp->Prop,(∀σ acc H,Pv (i+1) σ acc H->R σ acc H) ->
   g x σ H2 λσ2 H3=>tt σ2 H3 λok H4=>if ok=true then te σ2 H4 λy H5=>H5 D=some (.lst acc)∧acc.length<sizeLine∧R σ2 (acc++[y]) (upd H5 D (.lst (acc++[y]))) else H4 D=some (.lst acc)∧R σ2 acc H4)
  (hd:∀σ acc H,Pv n σ acc H->Q H) :
  ∃W:Nat->Nat->St->List V->Hp->Prop,(∃m,W 0 m σ0 [] H0)∧∀i m σ' acc H',W i m σ' acc H' ->
  (J.stop i H'∧Q H') ∨
  (J.go i H'∧∀x H2,J.yld i H' x H2->g x σ' H2 λσ2 H3=>tt σ2 H3 λok H4=>if ok=true then te σ2 H4 λy H5=>H5 D=some (.lst acc)∧acc.length<sizeLine∧∃m',m'<m∧W (i+1) m' σ2 (acc++[y]) (upd H5 D (.lst (acc++[y])))
   else H4 D=some (.lst acc)∧∃m',m'<m∧W (i+1) m' σ2 acc H4):=by
 refine⟨λi m σ acc H=>m=n-i∧i≤n∧Pv i σ acc H,⟨n,by simp,Nat.zero_le _,h0⟩,?_⟩
 rintro i m σ acc H ⟨rfl,hi,p⟩
 by_cases hlt:i<n
 ·exact .inr ⟨hgo i σ acc H hlt p,λx H2 y=>hs i σ acc H hlt p x H2 y (λσ acc H=>∃m',m'<n-i∧m'=n-(i+1)∧i+1≤n∧Pv (i+1) σ acc H) λσ acc H q=>⟨n-(i+1),by omega,rfl,hlt,q⟩⟩
 ·have e:i=n:=by omega
  subst e
  exact .inl ⟨hstop σ acc H p,hd σ acc H p⟩
end L2
namespace L2
open PySem PySem.Spec PyProof.Rows
section
variable {X:Cx}{K:PySem.W.Frag}
theorem a6d {es:List Expr}{k:Nat}{t:TGs}{n:Nat}{pos:Pos}(hK:X.K=K)(hc:X.calm=true)(h:PGs X es t)
  (hn:(assignEach es X.env).length=n:=by rfl) (hst:(assignEach es X.env).findIdx? (·.1)=none:=by rfl):PG X (.Tuple es k pos) (a9D K n t):=by
 subst hK;exact b1t hc h hn hst
theorem a9r (hK:X.K=K):IxR X (b2N K):=by subst hK;exact b1g
theorem a9a (hK:X.K=K):IxR X (b3B K):=by subst hK;exact J4
theorem X3 (hK:X.K=K):C2 X (.builtin "len") (λxs H Q=>∃p ys,xs=[.ref p]∧(SqL K H p ys∨SqT K H p ys)∧Q (.int ys.length) H):=by subst hK;exact R8
theorem U3 (hK:X.K=K):C2 X (.type "tuple") (λxs H Q=>∃p ys,xs=[.ref p]∧((SqL K H p ys∧∀l,H l=none->Q (.ref l) (upd H l (.tup ys)))∨(SqT K H p ys∧Q (.ref p) H))):=by subst hK;exact a2t
theorem a8x (hK:X.K=K):SlR X (b12 K):=by subst hK;exact a9Z
theorem a6S {a:Expr}{ta:TE}(hK:X.K=K)(ha:PE X a ta)(he:∀whole,isTrue a X.env whole=(do let v ←whole;standAt a.pos;holding [v] (truthy v))) :
  PT X a (λσ H Q=>ta σ H λx H'=>∃k,a96 K x H' k∧Q k H'):=by subst hK;exact a9f ha he
end
end L2
namespace L2
open PySem PySem.Spec PyProof.Rows
section
variable {X:Cx}{K:PySem.W.Frag}
noncomputable def b3m (K:PySem.W.Frag):R2:=λx y H Q=>∃a b xs ys,x = .ref a∧y = .ref b∧SqT K H a xs∧SqT K H b ys∧xs.length+ys.length≤sizeLine ∧
 (xs=[]->Q (.ref b) H)∧(ys=[]->Q (.ref a) H)∧∀p,H p=none->Q (.ref p) (upd H p (.tup (xs++ys)))
theorem a9J (hK:X.K=K):OpR X (binaryOp .Add) (b3m K):=by
 subst hK
 intro pins s σ H x y v u Q I rx ry h
 obtain⟨a,b,xs,ys,rfl,rfl,ha,hb,hz,q0,q1,q2⟩:=h
 by_cases hx:xs=[]
 ·cases rx
  cases ry
  obtain⟨its,r1,p1,_⟩:=I.tuple ha
  obtain⟨its2,r2,p2,_⟩:=I.tuple hb
  subst hx
  cases r1
  obtain⟨⟨cls,dd,data,sl⟩,ho,hc,n,hd⟩:=id p1
  obtain⟨⟨cls2,dd2,data2,sl2⟩,ho2,hc2,n2,hd2⟩:=id p2
  simp only at hc hd hc2 hd2
  subst hc hd hc2 hd2
  exact concat_meets ⟨_,ho,rfl⟩ ⟨_,ho2,rfl⟩ noFill_tuple_add seq_tuple_add PySem.F.slot_tuple_add PySem.F.entry_tuple_add (PySem.F.args_tuple_add_2 _ _)
   (tuple_addW0 a b #[] its2.toArray n n2 dd dd2 sl sl2 rfl) ⟨ho,ho2,⟨.ref b,H,I,rfl,q0 rfl⟩⟩
 ·exact b0i pins s σ H (.ref a) (.ref b) v u Q I rx ry ⟨a,b,xs,ys,rfl,rfl,ha,hb,hx,hz,q1,λ_=>q2⟩
end
end L2
namespace L2
open PySem PySem.Spec PyProof.Rows
theorem a6L {X:Cx}{y:Str}{py:Pos}{ix:Nat}{elt tg iter:Expr}{ifs:List Expr}{scope osc:Scope}{pos:Pos}{N:List Str}{k:Nat}{cap:List Nat}{g:TG}{tt:TT}{te:TE}{cl:List (Str×Addr)}
  {pins:List (Addr×Obj)} {σ:St} {H3:Hp} {s3:Shared} {D it:Addr} {fp:List Addr} {tn:Nat->Heap->Prop} {J:It} {Q:St->Hp->Prop} {W:Nat->Nat->St->List V->Hp->Prop} {m0:Nat}
  (hNd:X.N.Nodup) (hix:X.N[ix]? = some y) (hLy:Loc X.env.scope y) (hfy:X.fn y=true∨X.env.scope.names.lookup y=some .local)
  (hc:X.calm=true) (hosc:X.env.scope=osc) (hcap:Caps X.N osc N k cap scope)
  (hcl:∀{x:Str} {c:Addr},cl.lookup x=some c->X.env.cells.lookup x=some c) (hhas:∀x,(x,NameKind.free)∈scope.names->∃c,cl.lookup x=some c)
  (hg:∀cl C ex pins s H,PG (cxC X N scope cl C ex pins s H) tg g)
  (ht:∀cl C ex pins s H,PTs (cxC X N scope cl C ex pins s H) ifs tt)
  (he:∀cl C ex pins s H,PE (cxC X N scope cl C ex pins s H) elt te)
  (I3:Inv X pins σ H3 s3) (hD:H3 D=some (.lst [])) (T:Turn X.prog X.w X.K tg J fp it tn) (st:tn 0 s3.heap) (f3:∀b∈fp,Z6 X pins H3 b) (w0:W 0 m0 (K7 k cap σ) [] H3)
  (turn:∀i m σ' acc H',W i m σ' acc H'->(J.stop i H'∧Q (σ.set ix (some (.ref D))) H') ∨
   (J.go i H'∧∀x H2,J.yld i H' x H2->g x σ' H2 λσ2 H3=>tt σ2 H3 λok H4=>if ok=true then te σ2 H4 λy H5=>H5 D=some (.lst acc)∧acc.length<sizeLine∧∃m',m'<m∧W (i+1) m' σ2 (acc++[y]) (upd H5 D (.lst (acc++[y])))
    else H4 D=some (.lst acc)∧∃m',m'<m∧W (i+1) m' σ2 acc H4)) :
  wpAny (model X.prog X.w) X.A (newFunctionEnv scope X.env.globals cl [] X.env.qual none .none (some X.env)) (λcenv s₄ =>
   codeAny (model X.prog X.w) X.A (.compStart (.ListComp elt [⟨tg,iter,ifs,0⟩] scope pos) 0 (.ref it) (.ref D) { cenv with scope:=relabel scope X.env }) (compPost (model X.prog X.w) X.A X.xe (some (assign (.Name y py) X.env)) (λ_ s'=>∃σ' H',Inv X pins σ' H' s'∧Q σ' H') (.ref D) cenv.locals) s₄) X.xe s3:=by
 refine wpAny_newFunctionEnv hcap.nocell (by intro y hy;simp at hy) (λh₁ hns₁ hsb₁=>?_) hcap.kind
 have old:∀b o,s3.heap.get? b=some o->h₁.get? b=some o:=λb o e=>hsb₁.extBut b o (Nat.ne_of_lt (Heap.lt_size e)) (Heap.get?_push_of_some _ e)
 have neC:∀b∈fp,b≠s3.heap.objs.size:=λb hb=>by
  obtain⟨o,e,_⟩:=T.obj _ _ st b hb
  exact Nat.ne_of_lt (Heap.lt_size e)
 have nofs:∀{b:Addr},b≠X.env.locals->b ∉ X.fs->b ∉ frs X.stack:=λ{b} h1 h2 z=>(List.mem_cons.mp (I3.stkSub b z)).elim h1 h2
 have IY:Inv (cxC X N scope cl s3.heap.objs.size fp pins s3 H3) [] (K7 k cap σ) H3 { s3 with heap:=h₁,toks:=s3.toks+([]:List (Str×Value)).length }:=by
  refine⟨⟨I3.ok.mod,hcap.kind,I3.ok.glob,I3.ok.blt,Nat.le_refl _,λx y c h1 h2=>I3.ok.inj x y c (hcl h1) (hcl h2),λx hx=>hhas x (V4 hcap.nocell hx),λx c h=>absurd (show false=true from h) Bool.false_ne_true,I3.ok.hd,I3.ok.frames,.inl rfl,
   λb hb=>⟨neC b hb,λx c e=>(f3 b hb).2.2.2.2.1 x c (hcl e)⟩,I3.bs,Nat.le_trans I3.ok.bsz I3.sz,λb o e hb=>?_,λb hb=>nofs (f3 b hb).2.1 (f3 b hb).2.2.1,I3.stack,I3.stkFree⟩,
   rfl,I3.bare,Un.kept old,⟨_,hns₁,λi x v e1 e2 e3=>?_⟩,λx c e=>?_,I3.hok.fresh (Nat.le_refl _),λx c e=>I3.freeC x c (hcl e),λp hp=>?_,I3.hok.kept old,?_⟩
  ·rcases(f3 b hb).2.2.2.1 with z | z
   ·exact I3.ok.noex b o e z
   ·exact absurd (Nat.lt_of_lt_of_le (Heap.lt_size e) (Nat.le_trans I3.ok.bsz z)) (Nat.lt_irrefl _)
  ·by_cases hi:i<k
   ·unfold K7 at e2
    rw[List.getElem?_append_left (by simpa using hi),List.getElem?_replicate,if_pos hi]at e2
    cases e2
   ·obtain⟨d,rfl⟩:∃d,i=k+d:=⟨i-k,by omega⟩
    unfold K7 at e2
    rw[List.getElem?_append_right (by simp),List.length_replicate,Nat.add_sub_cancel_left,List.getElem?_map]at e2
    obtain⟨j,hj,hv⟩:=Option.map_eq_some_iff.mp e2
    have hσ:σ[j]? = some (some v):=by
     cases q:σ[j]? with
     | none=>rw[q]at hv;cases hv
     | some o=>rw[q]at hv;exact congrArg some hv
    have e1':(N.drop k)[d]? = some x:=by rw[List.getElem?_drop];exact e1
    have hx:X.N[j]? = some x:=by
     have z:=congrArg (λl=>l[d]?) hcap.capx
     simp only[List.getElem?_map,hj,e1',Option.map_some]at z
     exact Option.some.inj z
    have hfr:=hcap.capf x (List.mem_of_getElem? e1')
    have hfm:=PySem.mem_of_lookup hfr
    have hok:=hcap.free _ hfm rfl
    rw[←hosc]at hok
    obtain⟨m,hn,hl⟩:=I3.loc
    obtain⟨u,r,l⟩:=hl j x v hx hσ (.inr hok)
    refine⟨u,r,?_⟩
    rcases l with ⟨hk,_⟩ | ⟨hk,c,hc1,hc2⟩
    ·have hk:X.env.scope.names.lookup x=some .local:=hk
     rcases hok with z | z <;> (rw[hk]at z;cases z)
    ·obtain⟨c',hc'⟩:=hhas x hfm
     have:c'=c:=Option.some.inj ((hcl hc').symm.trans hc1)
     subst this
     exact .inr ⟨R7 hfr,c',hc',hc2.keeps old⟩
  ·obtain⟨v,z⟩:=I3.cell x c (hcl e)
   exact⟨v,z.keeps old⟩
  ·have hp:p∈(X.pn++pins)++[]:=hp
   rw[List.append_nil]at hp
   obtain⟨a1,a2,a3,a4,a5⟩:=I3.pin p hp
   exact⟨old _ _ a1,a2,Nat.ne_of_lt (Heap.lt_size a1),nofs a3 a4,a5⟩
  ·show(K7 k cap σ).length=N.length
   unfold K7
   rw[List.length_append,List.length_replicate,List.length_map,hcap.len]
 have stat:∀{H':Hp},(∀b∈fp,H' b=none)->∀b∈fp,Z6 (cxC X N scope cl s3.heap.objs.size fp pins s3 H3) [] H' b:=λ{H'} hn b hb=>by
  obtain⟨a0,a1,a2,a3,a4,a5⟩:=f3 b hb
  refine⟨hn b hb,neC b hb,nofs a1 a2,.inl hb,λx c e=>a4 x c (hcl e),λp hp=>a5 p ?_⟩
  have hp:p∈(X.pn++pins)++[]:=hp
  rwa [List.append_nil]at hp
 have loop:codeAny (model X.prog X.w) X.A (.compLoop (.ListComp elt [⟨tg,iter,ifs,0⟩] scope pos) 0 (.ref it) (.ref D) (compEnvC scope cl s3.heap.objs.size X.env))
   (compPost (model X.prog X.w) X.A X.xe (some (assign (.Name y py) X.env)) (λ_ s'=>∃σ' H',Inv X pins σ' H' s'∧Q σ' H') (.ref D) s3.heap.objs.size) { s3 with heap:=h₁,toks:=s3.toks+([]:List (Str×Value)).length }:=by
  refine a0k (λn s'=>∃i σ' acc H',Inv (cxC X N scope cl s3.heap.objs.size fp pins s3 H3) [] σ' H' s'∧tn i s'.heap∧(∀b∈fp,H' b=none)∧H' D=some (.lst acc)∧W i n σ' acc H') ?_ m0
   ⟨0,_,[],H3,IY,T.keep _ _ _ st λb _ o e=>old b o e,λb hb=>(f3 b hb).1,hD,w0⟩
  rintro n s5 ⟨i,σ5,acc,H5,I5,st5,fr5,hD5,w5⟩
  rcases turn i n σ5 acc H5 w5 with ⟨stop,q⟩ | ⟨go,step⟩
  ·refine thn (T.done (cxC X N scope cl s3.heap.objs.size fp pins s3 H3) rfl rfl rfl hc i [] s5 σ5 H5 _ I5 (stat fr5) st5 stop) λr s6 ⟨hr,I6⟩=>?_
   subst hr
   obtain⟨m,hn,_⟩:=id I6.loc
   have I7:Inv X pins σ H5 s6:=I3.call' I6.os I6.base I6.hok I6.bare λb hb=>by
    obtain⟨a0,a1,a2,a3,a4,a5⟩:=f3 b hb
    exact⟨a3,a1,a4,a5⟩
   obtain⟨g0,g1,g2,g3,g4,g5⟩:=I3.fpOk (H':=H5) (b:=s3.heap.objs.size) (Nat.le_refl _) I6.free
   obtain⟨o,es,ep,ho,hdat,rest⟩:=id hn
   have I7p:Inv X (pins++[(s3.heap.objs.size,o)]) σ H5 s6:=I7.pins_of λp hp=>by
    rcases List.mem_append.mp hp with z | z
    ·exact I7.pin p (List.mem_append_right _ z)
    ·rw[List.mem_singleton.mp z]
     exact⟨ho,g0,g1,g2,λv z=>by have z':o.data = .cell v:=z;rw[hdat]at z';cases z'⟩
   show wpAny (model X.prog X.w) X.A (assign (.Name y py) X.env (.ref D)) _ _ s6
   refine wpAny_assign_Name (E3 I7p hNd hix hLy (v:=.ref D) rfl (λs7 I8=>?_) hfy)
   have hC7:=(I8.pin (s3.heap.objs.size,o) (List.mem_append_right _ (List.mem_append_right _ (List.mem_singleton.mpr rfl)))).1
   refine⟨m,⟨o,es,ep,hC7,hdat,rest⟩,λh' hsb=>?_⟩
   exact⟨_,H5,I8.unpinned.turned (t':=s7.toks) (λb o hb e=>(hsb.2 b hb).trans e) g0 g1 g3 g4 g5,q⟩
  ·refine thn (T.item (cxC X N scope cl s3.heap.objs.size fp pins s3 H3) rfl rfl rfl hc i [] s5 σ5 H5 _ I5 (stat fr5) st5 go) λr s6 ⟨u,hr,h6⟩=>?_
   subst hr
   refine thn h6 λ_ s7 ⟨x,H7,I7,r7,y7,st7,fr7⟩=>?_
   have I7':=I7.pinned (stat fr7) (T.obj _ _ st7)
   have keepI:∀{s':Shared} {σ':St} {H':Hp},Inv (cxC X N scope cl s3.heap.objs.size fp pins s3 H3) ([]++U7 fp s7.heap) σ' H' s'->tn (i+1) s'.heap∧∀b∈fp,H' b=none:=λ{s' σ' H'} I'=>by
    refine⟨T.keep _ _ _ st7 λb hb o e=>(I'.pin (b,o) (List.mem_append_right _ (List.mem_append_right _ (x8 hb e)))).1,λb hb=>?_⟩
    obtain⟨o,e,d⟩:=T.obj _ _ st7 b hb
    exact(I'.pin (b,o) (List.mem_append_right _ (List.mem_append_right _ (x8 hb e)))).2.1
   refine thn (hg _ _ _ _ _ _ _ s7 σ5 H7 x u _ I7' r7 (step x H7 y7)) λ_ s8 ⟨σ8,H8,I8,q8⟩=>?_
   refine thn (ht _ _ _ _ _ _ _ s8 σ8 H8 _ I8 q8) λok s9 ⟨H9,I9,q9⟩=>?_
   cases ok with
   | false =>
    have q9:H9 D=some (.lst acc)∧∃m',m'<n∧W (i+1) m' σ8 acc H9:=q9
    obtain⟨hD9,m',hm,w9⟩:=q9
    obtain⟨k1,k2⟩:=keepI I9
    exact⟨m',hm,i+1,σ8,acc,H9,I9.unpinned,k1,k2,hD9,w9⟩
   | true =>
    refine thn (he _ _ _ _ _ _ _ s9 σ8 H9 _ I9 q9) λyv s10 ⟨y,H10,I10,r10,hD10,hz,m',hm,w10⟩=>?_
    refine thn (V8 (X:=cxC X N scope cl s3.heap.objs.size fp pins s3 H3) _ s10 σ8 H10 (.ref D) [y] (.ref D) [yv] (λ_ H'=>H'=upd H10 D (.lst (acc++[y]))) I10 rfl (.cons r10 .nil) ⟨D,acc,y,rfl,rfl,hD10,hz,rfl⟩)
     λ_ s11 ⟨_,H11,I11,_,e11⟩=>?_
    subst e11
    obtain⟨k1,k2⟩:=keepI I11
    exact⟨m',hm,i+1,σ8,acc++[y],_,I11.unpinned,k1,k2,g8,w10⟩
 exact codeAny_compStart_list loop (T.self X.A 0 _ _ _ (T.keep _ _ _ st λb _ o e=>old b o e) loop)
theorem a8i {X:Cx}{y:Str}{py spos:Pos}{ix:Nat}{elt tg iter:Expr}{ifs:List Expr}{scope osc:Scope}{pos:Pos}{N:List Str}{k:Nat}{cap:List Nat}{wi:TI}{g:TG}{tt:TT}{te:TE}
  (hNd:X.N.Nodup) (hix:X.N[ix]? = some y) (hLy:Loc X.env.scope y)
  (hc:X.calm=true) (hosc:X.env.scope=osc) (hcap:Caps X.N osc N k cap scope) (hi:PI X tg iter wi)
  (hg:∀cl C ex pins s H,PG (cxC X N scope cl C ex pins s H) tg g)
  (ht:∀cl C ex pins s H,PTs (cxC X N scope cl C ex pins s H) ifs tt)
  (he:∀cl C ex pins s H,PE (cxC X N scope cl C ex pins s H) elt te)
  (hs:∀x,foldedSetIterable iter X.env x=pure x:=by intro _;rfl) (hfy:X.fn y=true∨X.env.scope.names.lookup y=some .local:=by first | exact .inl rfl | exact .inr rfl | assumption)
  (hsw:swapsWith (.ListComp elt [⟨tg,iter,ifs,0⟩] scope pos) (some (.Name y py)) spos.line X.env=pure true:=by rfl) :
  PS X (.Assign [.Name y py] (.ListComp elt [⟨tg,iter,ifs,0⟩] scope pos) spos) (a1k (tLC wi k cap g tt te) (T2 ix)):=by
 intro pins s σ H D0 I h
 have hcell:∀y∈scope.names,y.2 = .free->∃c,X.env.cells.lookup y.1=some c:=λy hy hk=>I.ok.has y.1 (by
  show X.env.scope.names.lookup y.1=_∨X.env.scope.names.lookup y.1=_
  rw[hosc];exact hcap.free y hy hk)
 let f:Str->Addr:=λx=>(X.env.cells.lookup x).getD 0
 have hf:∀y∈scope.names,y.2 = .free->X.env.cells.lookup y.1=some (f y.1):=λy hy hk=>by
  obtain⟨c,e⟩:=hcell y hy hk
  show _=some ((X.env.cells.lookup y.1).getD 0)
  rw[e];rfl
 have hclos:closureFor scope X.env=pure (z9 f scope.names []):=B9 λy hy hk=>by
  unfold cellOf
  rw[hf y hy hk]
 have hcl:∀{x:Str} {c:Addr},(z9 f scope.names []).lookup x=some c->X.env.cells.lookup x=some c:=λ{x c} e=>by
  rcases E8 _ _ e with ⟨h1,h2⟩ | h1
  ·rw[h2];exact hf (x,.free) h1 rfl
  ·simp at h1
 have hhas:∀x,(x,NameKind.free)∈scope.names->∃c,(z9 f scope.names []).lookup x=some c:=λx hx=>⟨_,P6 _ _ (.inl hx)⟩
 generalize z9 f scope.names []=cl at hclos hcl hhas
 rw[exec_Assign_Name_used _ _ _ _ hsw]
 refine wpAny_bind (wpAny_standAt (wpAny_bind ?_))
 show wpAny _ X.A (do let _ ←comprehension (.ListComp elt [⟨tg,iter,ifs,0⟩] scope pos) scope X.env _ (newList []) false (eval iter X.env) (some (assign (.Name y py) X.env))) _ _ s
 refine wpAny_bind (wpAny_mono (wpAny_comprehension_free (use:=some (assign (.Name y py) X.env)) (cl:=cl) (Q:=λ_ s'=>∃σ' H',Inv X pins σ' H' s'∧D0.nx σ' H') rfl hs hclos hcap.kind hcap.loc ?_) (λ_ s' hq=>wpAny_pure (wpAny_pure hq)) λ_ _ e=>e)
 refine thn (hi pins s σ H _ I h) λv s1 h1=>thn h1 λitv s2 h2=>?_
 obtain⟨it,fp,tn,J,H2,e,I2,T,st2,f2,q2⟩:=h2
 subst e
 obtain⟨W,⟨m0,w0⟩,turn⟩:=q2 s2.heap.objs.size (I2.hok.fresh (Nat.le_refl _))
 refine wpAny_newObj_type ?_
 have I3:Inv X pins σ (upd H2 s2.heap.objs.size (.lst [])) { s2 with heap:=s2.heap.push { cls:=.type "list",data:=.seq ([]:List Value).toArray } }:=I2.lnew (ys:=[]) (its:=[]) (t':=s2.toks) .nil (Nat.zero_le _)
 have lt2:∀b∈fp,b≠s2.heap.objs.size:=λb hb=>by
  obtain⟨o,e,_⟩:=T.obj _ _ st2 b hb
  exact Nat.ne_of_lt (Heap.lt_size e)
 exact a6L hNd hix hLy hfy hc hosc hcap hcl hhas hg ht he I3 g8 T (T.keep _ _ (s2.heap.push { cls:=.type "list",data:=.seq ([]:List Value).toArray }) st2 λb _ o e=>Heap.get?_push_of_some _ e) (λb hb=>⟨by rw[f7 (lt2 b hb)];exact(f2 b hb).1,(f2 b hb).2⟩) w0 turn
end L2
namespace L2
open PySem PySem.Spec PyProof.Rows
section
variable {X:Cx}{K:PySem.W.Frag}
noncomputable def a9G (K:PySem.W.Frag):List V->Hp->VK->Prop:=λxs H Q=>∃(a:Addr) (ns:List Int),xs=[.ref a]∧SqL K H a (ns.map V.int)∧ns.length<64 ∧
 ∀(p:Addr) (ns':List Int),H p=none->ns'.Perm ns->ns'.Pairwise (· ≤ ·)->Q (.ref p) (upd H p (.lst (ns'.map V.int)))
theorem a3G (hK:X.K=K):C2 X (.builtin "sorted") (a9G K):=by
 subst hK
 intro pins s σ H xs us Q I r h
 obtain⟨a,ns,rfl,hq,h64,q⟩:=h
 obtain⟨u,rfl,ru⟩:=U0 r
 cases ru
 obtain⟨its,rv,p,hz⟩:=I.list hq
 have hi:=R9 rv
 have hlen:its.length=ns.length:=by rw[←rv.length,List.length_map]
 refine PyProof.Rows.sorted_ints p.isList hi (by omega) λout ns' a1 a2 a3=>?_
 obtain⟨e,he⟩:=sortedAll_at s.heap its out
 have I1:Inv X pins σ (upd H (s.heap.objs.size+1) (.lst (ns'.map V.int))) { s with heap:=sortedAll s.heap its out,toks:=s.toks } :=
  I.laid (a:=s.heap.objs.size+1) (λb o ho=>sortedAll_old ho) (Nat.le_succ _) ⟨by rw[List.length_map,a2.length_eq,←List.length_map (f:=V.int)];exact hz,out.toList,e,W1 a1,by rw[he]⟩
 exact⟨.ref (s.heap.objs.size+1),_,I1,rfl,q _ ns' (I.hok.fresh (Nat.le_succ _)) a2 a3⟩
noncomputable def b3z (ta:TA):TE:=λσ H Q=>ta σ H λvs H1=>∃j:Int,vs=[.int j]∧∀p,H1 p=none->Q (.ref p) (upd H1 p (.rng 0 j))
theorem a7t {a:Expr}{ta:TA}{p pos:Pos}(hg:Gl X "range")(hm:X.mg "range" = none)(ha:PA X [a] ta)(hs:starEach [a] X.env=[(false,eval a X.env)]:=by rfl):PE X (.Call (.Name "range" p) [a] [] pos) (b3z ta):=by
 intro pins s σ H Q I h
 refine Call_ (Y3 I hg hm boot_range (PyProof.Rows.callWith_type1 (thn (ha pos pins s σ H _ I h) λus s1 ⟨vs,H1,I1,r1,q1⟩=>?_) hs rfl))
 obtain⟨j,e,q⟩:=q1
 subst e
 cases r1 with
 | cons r rr =>
  cases rr
  obtain⟨t,rfl⟩:=r
  refine call_range_1 ?_
  exact⟨.ref s1.heap.objs.size,_,I1.laid (a:=s1.heap.objs.size) (o:=.rng 0 j) (λb o e=>Heap.get?_push_of_some _ e) (Nat.le_refl _) ⟨_,_,_,Heap.get?_push_size _ rfl⟩,rfl,q _ (I1.hok.fresh (Nat.le_refl _))⟩
theorem N2:∀{xs:List V} {us:List Value},xs.length=us.length->(∀(i:Nat) x u,xs[i]? = some x->us[i]? = some u->v4 x u)->k9 xs us
 | [],[],_,_=>.nil
 | [],_::_,e,_=>by simp at e
 | _::_,[],e,_=>by simp at e
 | x::xs,u::us,e,h=>.cons (h 0 x u rfl rfl) (N2 (by simpa using e) λi y v h1 h2=>h (i+1) y v (by simpa using h1) (by simpa using h2))
end
end L2
namespace L2
open PySem PySem.Spec PyProof.Rows
section
variable {X:Cx}{K:PySem.W.Frag}
end
end L2
namespace L2
open PySem PySem.Spec PyProof.Rows
section
variable {X:Cx}{K:PySem.W.Frag}
end
end L2
namespace L2
open PySem PySem.Spec PyProof.Rows
section
variable {X:Cx}{K:PySem.W.Frag}
end
end L2
namespace L2
open PySem PyProof.Rows
theorem a2Q {prog:Program}{w:World}{A:Around}{E:Value->Shared->Prop}{s:Shared}{a b:Bool}{Q:Value->Shared->Prop}(h:Q (.bool (decide ((if a then(1:Int) else 0)<if b then 1 else 0))) s) :
  wpAny (model prog w) A (call (.builtin "int.__lt__") [.bool a,.bool b]) Q E s:=by
 refine wpAny_call_entry PySem.F.slot_bool_lt (T:="bool") rfl entry_int_lt ?_ (args_int_lt _ _)
 show wpAny _ _ (ret (.bool (decide ((if a then(1:Int) else 0)<if b then 1 else 0)))) _ _ s
 exact wpAny_pure ⟨_,rfl,h⟩
theorem a53 {prog:Program}{w:World}{A:Around}{E:Value->Shared->Prop}{s:Shared}{a b:Bool}{Q:Bool->Shared->Prop}(h:Q (decide ((if a then(1:Int) else 0)<if b then 1 else 0)) s):wpAny (model prog w) A (oneLt' true (.bool a) (.bool b)) Q E s:=by
 rw[oneLt'_eq]
 simp only[if_true]
 refine wpAny_bind (wpAny_cRoomFor_byValue rfl ?_)
 refine wpAny_bind (wpAny_callSpecialIfBound?_slot (T:="bool") rfl PySem.F.slot_bool_lt (a2Q ?_))
 exact wpAny_truthy_bool h
noncomputable def Lx (κ:Nat->Int)(i j:Nat):Prop:=κ i < κ j∨(κ i = κ j∧i<j)
structure SB (kd:SortKind) (a0:Array Keyed) (st:SortSt):Prop where
 size:(arrOf st).size=a0.size
 kind:kindOf st=kd
 failed:failedOf st=none
 pend:pendingOf st = #[]
theorem SB.setArr {kd:SortKind}{a0:Array Keyed}{st:SortSt}(h:SB kd a0 st){xs:Array Keyed}(hp:xs.size=(arrOf st).size):SB kd a0 (PyProof.Rows.setArr st xs):=⟨hp.trans h.size,h.kind,h.failed,h.pend⟩
structure SG (kd:SortKind) (a0:Array Keyed) (st:SortSt) (p:Nat->Nat):Prop where
 base:SB kd a0 st
 inj:∀i j,i<a0.size->j<a0.size->p i=p j->i=j
 at_:∀i,i<a0.size->(arrOf st)[i]? = a0[p i]?
 lt:∀i,i<a0.size->p i<a0.size
noncomputable def a1V (prog:Program)(w:World)(A:Around)(s:Shared)(kd:SortKind)(a0:Array Keyed)(κ:Nat->Int):Prop :=
 ∀(i j:Nat) (x y:Keyed),i≠j->a0[i]? = some x->a0[j]? = some y->∀(E:Value->Shared->Prop) (Q:Bool->Shared->Prop),Q (decide (κ i < κ j)) s->wpAny (model prog w) A (keyLt' kd x.1 y.1) Q E s
noncomputable def SoK (κ:Nat->Int)(p:Nat->Nat)(n:Nat):Prop:=∀i j,i≤j->j<n->κ (p i) ≤ κ (p j)
noncomputable def SoS (κ:Nat->Int)(p:Nat->Nat)(n:Nat):Prop:=(∀i j,i<j->j<n->Lx κ (p i) (p j))∧(∀i,n≤i->p i=i)∧∀i,i<n->p i<n
theorem SoS.sorted {κ:Nat->Int}{p:Nat->Nat}{n:Nat}(h:SoS κ p n):SoK κ p n:=by
 intro i j hij hj
 by_cases e:i=j
 ·subst e;exact Int.le_refl _
 ·rcases h.1 i j (by omega) hj with q | q
  ·exact Int.le_of_lt q
  ·exact Int.le_of_eq q.1
theorem SoS.more {κ:Nat->Int}{p:Nat->Nat}{n m:Nat}(h:SoS κ p n)(hnm:n≤m)(hs:SoK κ p m):SoS κ p m:=by
 refine⟨λi j hij hj=>?_,λi hi=>h.2.1 i (by omega),λi hi=>?_⟩
 ·by_cases hjn:j<n
  ·exact h.1 i j hij hjn
  ·have q:=hs i j (by omega) hj
   have ej:=h.2.1 j (by omega)
   rcases Int.lt_or_eq_of_le q with q | q
   ·exact .inl q
   ·refine .inr ⟨q,?_⟩
    rw[ej]
    by_cases hin:i<n
    ·have:=h.2.2 i hin;omega
    ·rw[h.2.1 i (by omega)];exact hij
 ·by_cases hin:i<n
  ·have:=h.2.2 i hin;omega
  ·rw[h.2.1 i (by omega)];exact hi
section
variable {prog:Program}{w:World}{A:Around}{E:Value->Shared->Prop}{s:Shared}{a0:Array Keyed}{κ:Nat->Int}{kd:SortKind}
theorem a4r {st:SortSt}{p:Nat->Nat}{i j:Nat}{Q:Option Bool->SortSt->Prop}(g:SG kd a0 st p)(hL:a1V prog w A s kd a0 κ)(hi:i<a0.size)(hj:j<a0.size)(hij:i≠j)
  (h:Q (some (decide (κ (p i) < κ (p j)))) st):wpS (model prog w) A E s (ltAt' i j) Q st:=by
 have e1:=g.at_ i hi
 have e2:=g.at_ j hj
 have l1:=g.lt i hi
 have l2:=g.lt j hj
 have f1:a0[p i]? = some a0[p i]:=getElem?_pos a0 (p i) l1
 have f2:a0[p j]? = some a0[p j]:=getElem?_pos a0 (p j) l2
 rw[ltAt'_eq]
 refine wpS_bind (wpS_get ?_)
 show wpS _ _ _ _ (do let x ←elem' (arrOf st) i;let y ←elem' (arrOf st) j;lt' x y) Q st
 rw[elem'_eq,elem'_eq,e1,e2,f1,f2]
 refine wpS_bind (wpS_pure (wpS_bind (wpS_pure ?_)))
 rw[lt'_eq]
 refine wpS_bind (wpS_get ?_)
 rw[g.base.kind]
 refine wpS_bind (wpS_lift (wpAny_attempt (hL _ _ _ _ (λz=>hij (g.inj i j hi hj z)) f1 f2 _ _ ?_)))
 exact⟨rfl,wpS_pure h⟩
theorem SG.bub {st:SortSt}{p:Nat->Nat}(g:SG kd a0 st p){k l:Nat}(hk:k<a0.size)(hl:l≤k) :
  SG kd a0 (setArr st (bubble (arrOf st) k (k-l))) (λi=>if i=l then p k else if l<i∧i≤k then p (i-1) else p i):=by
 refine⟨g.base.setArr (bubble_size _ _ _),λi j hi hj e=>?_,λi hi=>?_,λi hi=>?_⟩
 ·have q:=g.inj
  try dsimp only at e
  repeat' split at e
  all_goals first
   | omega
   | (have:=q _ _ (by omega) (by omega) e;omega)
 ·have e:=getElem?_bubble (xs:=arrOf st) (src:=k) (by rw[g.base.size];exact hk) (k-l) (by omega) i
  rw[show k-(k-l)=l by omega]at e
  show(bubble (arrOf st) k (k-l))[i]? = _
  rw[e]
  repeat' split
  ·exact g.at_ _ hk
  ·exact g.at_ _ (by omega)
  ·exact g.at_ _ hi
 ·try dsimp only
  repeat' split
  ·exact g.lt _ hk
  ·exact g.lt _ (by omega)
  ·exact g.lt _ hi
theorem SG.mir {st:SortSt}{p:Nat->Nat}(g:SG kd a0 st p){u v:Nat}(hv:v≤a0.size) :
  SG kd a0 (setArr st (mirror (arrOf st) u v ((v-u) / 2))) (λi=>if u≤i∧i<v then p (u+v-1-i) else p i):=by
 refine⟨g.base.setArr (mirror_size _ _ _ _),λi j hi hj e=>?_,λi hi=>?_,λi hi=>?_⟩
 ·have q:=g.inj
  try dsimp only at e
  repeat' split at e
  all_goals first
   | omega
   | (have:=q _ _ (by omega) (by omega) e;omega)
 ·have e:=getElem?_mirror_all (xs:=arrOf st) (i:=u) (j:=v) (by rw[g.base.size];exact hv) i
  show(mirror (arrOf st) u v ((v-u) / 2))[i]? = _
  rw[e]
  repeat' split
  ·exact g.at_ _ (by omega)
  ·exact g.at_ _ hi
 ·try dsimp only
  split
  ·exact g.lt _ (by omega)
  ·exact g.lt _ hi
theorem a7h {st:SortSt}{p:Nat->Nat}{n ok:Nat}{Q:Bool->SortSt->Prop}(hL:a1V prog w A s kd a0 κ)(hn:n≤a0.size)(hok:ok≤n)(hB:SG kd a0 st p)(hs:SoS κ p ok)
  (h:∀st' p',SG kd a0 st' p'->SoS κ p' n->Q true st'):wpS (model prog w) A E s (binarySort' 0 n ok) Q st:=by
 rw[binarySort'_eq]
 simp only[Nat.zero_add]
 refine wpS_bind (wpS_mono (wpS_forRange (I:=λk c st'=>c=(none,())∧∃p',SG kd a0 st' p'∧SoS κ p' (min k n))
  (Q:=λc st'=>c=(none,())∧∃p',SG kd a0 st' p'∧SoS κ p' n) ?step ?fin ?init) ?post)
 case post =>
  rintro c st' ⟨rfl,p',hB',hs'⟩
  exact wpS_pure (h st' p' hB' hs')
 case init =>
  refine⟨rfl,p,hB,?_⟩
  by_cases h1:ok=0
  ·subst h1
   refine hs.more (by omega) λi j hij hj=>?_
   have:i=j:=by omega
   subst this;exact Int.le_refl _
  ·rw[show min (max ok 1) n=ok by omega];exact hs
 case fin =>
  rintro c st' ⟨hc,p',hB',hs'⟩
  refine⟨hc,p',hB',?_⟩
  rwa [show min (max (max ok 1) n) n=n by omega]at hs'
 case step =>
  rintro k c st' hak hkn ⟨rfl,p',hG',hS'⟩
  rw[show min k n=k by omega]at hS'
  have hk:k<a0.size:=by omega
  have hs':=hS'.sorted
  have hB':=hG'.base
  refine wpS_bind (wpS_mono (wpS_forRange (I:=λx c st''=>st''=st'∧∃l r,c=(none,l,r)∧l≤r∧r≤k∧r-l≤k-x ∧
    (∀i,i<l->κ (p' i) ≤ κ (p' k))∧(∀i,r≤i->i<k->κ (p' k) < κ (p' i)))
   (Q:=λc st''=>st''=st'∧∃l r,c=(none,l,r)∧l≤k ∧
    (∀i,i<l->κ (p' i) ≤ κ (p' k))∧(∀i,l≤i->i<k->κ (p' k) < κ (p' i))) ?istep ?ifin ?iinit) ?ipost)
  case iinit=>exact⟨rfl,0,k,rfl,by omega,by omega,by omega,λi hi=>by omega,λi h1 h2=>by omega⟩
  case ifin =>
   rintro c st'' ⟨rfl,l,r,rfl,hlr,hrk,hm,hlo,hhi⟩
   have:l=r:=by omega
   subst this
   exact⟨rfl,l,l,rfl,hrk,hlo,hhi⟩
  case istep =>
   rintro x c st'' _ hxk ⟨rfl,l,r,rfl,hlr,hrk,hm,hlo,hhi⟩
   dsimp only
   by_cases hge:l ≥ r
   ·rw[if_pos hge]
    have:l=r:=by omega
    subst this
    exact wpS_pure ⟨rfl,l,l,rfl,hrk,hlo,hhi⟩
   ·rw[if_neg hge]
    refine wpS_bind (a4r hG' hL hk (by omega) (by omega) ?_)
    by_cases hless:κ (p' k) < κ (p' ((l+r) / 2))
    ·simp only[hless,decide_true,if_true]
     refine wpS_pure ⟨rfl,l,(l+r) / 2,rfl,by omega,by omega,by omega,hlo,λi h1 h2=>?_⟩
     exact Int.lt_of_lt_of_le hless (hs' _ _ h1 h2)
    ·simp only[hless,decide_false,Bool.false_eq_true,if_false]
     refine wpS_pure ⟨rfl,(l+r) / 2+1,r,rfl,by omega,by omega,by omega,λi h1=>?_,hhi⟩
     exact Int.le_trans (hs' i ((l+r) / 2) (by omega) (by omega)) (Int.not_lt.mp hless)
  case ipost =>
   rintro c st'' ⟨rfl,l,r,rfl,hlk,hlo,hhi⟩
   show wpS _ _ _ _ (do moveDown' k l;pure (ForInStep.yield (none,()))) _ _
   rw[moveDown'_eq]
   refine wpS_bind (wpS_modify (wpS_pure ⟨rfl,_,hG'.bub hk hlk,?_⟩))
   rw[show min (k+1) n=k+1 by omega]
   have ek:=hS'.2.1 k (Nat.le_refl _)
   have lo':∀i,i<l->Lx κ (p' i) (p' k):=λi hi=>by
    have q:=hlo i hi
    rcases Int.lt_or_eq_of_le q with q | q
    ·exact .inl q
    ·refine .inr ⟨q,?_⟩
     rw[ek];exact hS'.2.2 i (by omega)
   have hi':∀i,l≤i->i<k->Lx κ (p' k) (p' i):=λi h1 h2=>by
    have q:=hhi i h1 h2
    exact .inl q
   refine⟨λi j hij hj=>?_,λi hi=>?_,λi hi=>?_⟩
   ·dsimp only
    repeat' split
    all_goals first
     | (exfalso;omega)
     | exact lo' _ (by omega)
     | exact hi' _ (by omega) (by omega)
     | exact hS'.1 _ _ (by omega) (by omega)
   ·dsimp only
    rw[if_neg (by omega),if_neg (by omega)]
    exact hS'.2.1 i (by omega)
   ·dsimp only
    repeat' split
    ·rw[ek];omega
    ·have:=hS'.2.2 (i-1) (by omega);omega
    ·have:=hS'.2.2 i (by omega);omega
theorem a7m {st:SortSt}{p:Nat->Nat}{a nrem:Nat}{Q:AscSt->SortSt->Prop}(hL:a1V prog w A s kd a0 κ)(hn:nrem≤a0.size)(ha:1≤a)(han:a≤nrem)(hG:SG kd a0 st p)
  (hs:SoK κ p a)
  (h:∀n,a≤n->n≤nrem->SoK κ p n->(n=nrem ∨ κ (p n) < κ (p (n-1)))->Q (none,n) st) :
  wpS (model prog w) A E s (ascLoop a nrem) Q st:=by
 unfold ascLoop
 refine wpS_forRange (I:=λx c st'=>st'=st∧c=(none,x)∧SoK κ p x) ?step ?fin ⟨rfl,rfl,hs⟩
 case fin =>
  rintro c st' ⟨rfl,rfl,hs'⟩
  rw[show max a nrem=nrem by omega]at hs' ⊢
  exact h nrem han (Nat.le_refl _) hs' (.inl rfl)
 case step =>
  rintro x c st' hax hxn ⟨rfl,rfl,hs'⟩
  dsimp only
  refine wpS_bind (a4r hG hL (by omega) (by omega) (by omega) ?_)
  by_cases hless:κ (p x) < κ (p (x-1))
  ·simp only[hless,decide_true,if_true]
   exact wpS_pure (h x hax (by omega) hs' (.inr hless))
  ·simp only[hless,decide_false,Bool.false_eq_true,if_false]
   refine wpS_pure ⟨rfl,rfl,λi j hij hj=>?_⟩
   by_cases hjx:j<x
   ·exact hs' i j hij hjx
   ·have hj':j=x:=by omega
    subst hj'
    by_cases hi':i=j
    ·subst hi';exact Int.le_refl _
    ·exact Int.le_trans (hs' i (j-1) (by omega) (by omega)) (Int.not_lt.mp hless)
noncomputable def DoS (κ:Nat->Int)(p:Nat->Nat)(n:Nat):Prop:=(∀i j,i<j->j<n->Lx κ (p j) (p i))∧(∀i,n≤i->p i=i)∧∀i,i<n->p i<n
theorem a4a {st:SortSt}{p:Nat->Nat}{n nrem:Nat}{Q:Option Nat->SortSt->Prop}(hL:a1V prog w A s kd a0 κ)(hn:nrem≤a0.size)(h1:1≤n)(hnn:n≤nrem)(hB:SG kd a0 st p)
  (hs:DoS κ p n) (h:∀m st' p',SG kd a0 st' p'->1≤m->m≤nrem->SoS κ p' m->Q (some m) st') :
  wpS (model prog w) A E s (tail3 n nrem) Q st:=by
 unfold tail3
 refine wpS_bind (wpS_reverse ?_)
 have hG:=hB.mir (u:=0) (v:=n) (by omega)
 have hS:SoS κ (λi=>if 0≤i∧i<n then p (0+n-1-i) else p i) n:=by
  refine⟨λi j hij hj=>?_,λi hi=>?_,λi hi=>?_⟩
  ·dsimp only
   rw[if_pos (by omega),if_pos (by omega)]
   exact hs.1 _ _ (by omega) (by omega)
  ·dsimp only
   rw[if_neg (by omega)]
   exact hs.2.1 i hi
  ·dsimp only
   rw[if_pos (by omega)]
   exact hs.2.2 _ (by omega)
 exact wpS_bind (a7m hL hn h1 hnn hG hS.sorted λm hm1 hm2 hsm _=>wpS_pure (h m _ _ hG (by omega) hm2 (hS.more hm1 hsm)))
noncomputable def GoS (κ:Nat->Int)(p:Nat->Nat)(g n:Nat):Prop :=
 DoS κ p g∧g<n∧(∀i,g≤i->i<n->κ i = κ (n-1))∧∀i,i<g->κ (n-1) < κ (p i)
theorem GoS.close {st:SortSt}{p:Nat->Nat}{g n:Nat}(hG:SG kd a0 st p)(h:GoS κ p g n)(hn:n≤a0.size):DoS κ (λi=>if g≤i∧i<n then p (g+n-1-i) else p i) n:=by
 obtain⟨hd,hg,he,hl⟩:=h
 refine⟨λi j hij hj=>?_,λi hi=>?_,λi hi=>?_⟩
 ·dsimp only
  by_cases h1:g≤i
  ·rw[if_pos (by omega),if_pos (by omega),hd.2.1 _ (by omega),hd.2.1 _ (by omega)]
   refine .inr ⟨?_,by omega⟩
   rw[he _ (by omega) (by omega),he (g+n-1-i) (by omega) (by omega)]
  ·by_cases h2:g≤j
   ·rw[if_pos (by omega),if_neg (by omega),hd.2.1 _ (by omega)]
    refine .inl ?_
    rw[he _ (by omega) (by omega)]
    exact hl i (by omega)
   ·rw[if_neg (by omega),if_neg (by omega)]
    exact hd.1 i j hij (by omega)
 ·dsimp only
  rw[if_neg (by omega)]
  exact hd.2.1 i (by omega)
 ·dsimp only
  split
  ·rw[hd.2.1 _ (by omega)];omega
  ·have:=hd.2.2 i (by omega);omega
theorem GoS.close1 {p:Nat->Nat}{g n:Nat}(h:GoS κ p g n)(e:n=g+1):DoS κ p n:=by
 obtain⟨hd,hg,he,hl⟩:=h
 subst e
 refine⟨λi j hij hj=>?_,λi hi=>hd.2.1 i (by omega),λi hi=>?_⟩
 ·by_cases h2:j<g
  ·exact hd.1 i j hij h2
  ·have:j=g:=by omega
   subst this
   rw[hd.2.1 j (Nat.le_refl _)]
   exact .inl (hl i hij)
 ·by_cases h2:i<g
  ·have:=hd.2.2 i h2;omega
  ·rw[hd.2.1 i (by omega)];exact hi
theorem b0h {st:SortSt}{p:Nat->Nat}{n nrem:Nat}{Q:DescSt->SortSt->Prop}(hL:a1V prog w A s kd a0 κ)(hn:nrem≤a0.size)(h1:1≤n)(hnn:n≤nrem)(hB:SG kd a0 st p)
  (hs:GoS κ p (n-1) n)
  (h:∀m neq st' p',SG kd a0 st' p'->n≤m->m≤nrem->neq+1≤m->GoS κ p' (m-(neq+1)) m->Q (none,m,neq) st') :
  wpS (model prog w) A E s (descLoop n nrem) Q st:=by
 unfold descLoop
 refine wpS_forRange (I:=λx c st'=>∃neq p',c=(none,x,neq)∧SG kd a0 st' p'∧neq+1≤x∧GoS κ p' (x-(neq+1)) x) ?step ?fin ⟨0,p,rfl,hB,by omega,hs⟩
 case fin =>
  rintro c st' ⟨neq,p',rfl,hG',hq,hS'⟩
  rw[show max n nrem=nrem by omega]at hq hS' ⊢
  exact h nrem neq st' p' hG' hnn (Nat.le_refl _) hq hS'
 case step =>
  rintro x c st' hax hxn ⟨neq,p',rfl,hG',hq,hS'⟩
  dsimp only
  refine wpS_bind (a4r hG' hL (by omega) (by omega) (by omega) ?_)
  have k1:p' x=x:=hS'.1.2.1 x (by omega)
  have k2:p' (x-1)=x-1:=hS'.1.2.1 (x-1) (by omega)
  rw[k1,k2]
  have put:∀{p2:Nat->Nat},κ x < κ (x-1)->DoS κ p2 x->(∀i,i<x->κ (x-1) ≤ κ (p2 i))->GoS κ p2 (x+1-(0+1)) (x+1):=by
   intro p2 hless d ge
   rw[show x+1-(0+1)=x by omega]
   refine⟨d,by omega,λi h1 h2=>?_,λi hi=>?_⟩
   ·rw[show i=x by omega];rfl
   ·exact Int.lt_of_lt_of_le hless (ge i hi)
  have ge0:∀i,i<x->κ (x-1) ≤ κ (p' i):=λi hi=>by
   by_cases hg:i<x-(neq+1)
   ·exact Int.le_of_lt (hS'.2.2.2 i hg)
   ·rw[hS'.1.2.1 i (by omega)]
    exact Int.le_of_eq (hS'.2.2.1 i (by omega) hi).symm
  by_cases hless:κ x < κ (x-1)
  ·simp only[hless,decide_true,if_true]
   by_cases hneq:neq > 0
   ·rw[if_pos hneq]
    have hG2:=hG'.mir (u:=x-(neq+1)) (v:=x) (by omega)
    refine wpS_bind (wpS_reverse (wpS_pure ⟨0,_,rfl,hG2,by omega,put hless (hS'.close hG' (by omega)) λi hi=>?_⟩))
    try dsimp only
    split
    ·exact ge0 _ (by omega)
    ·exact ge0 _ hi
   ·rw[if_neg hneq]
    exact wpS_pure ⟨0,p',rfl,hG',by omega,put hless (hS'.close1 (by omega)) ge0⟩
  ·simp only[hless,decide_false,Bool.false_eq_true,if_false]
   refine wpS_bind (a4r hG' hL (by omega) (by omega) (by omega) ?_)
   rw[k1,k2]
   by_cases hlarger:κ (x-1) < κ x
   ·simp only[hlarger,decide_true,if_true]
    exact wpS_pure (h x neq st' p' hG' hax (by omega) hq hS')
   ·simp only[hlarger,decide_false,Bool.false_eq_true,if_false]
    have heqx:κ x = κ (x-1):=by omega
    refine wpS_pure ⟨neq+1,p',rfl,hG',by omega,?_⟩
    rw[show x+1-(neq+1+1)=x-(neq+1) by omega]
    refine⟨hS'.1,by omega,λi h1 h2=>?_,λi hi=>?_⟩
    ·rw[show x+1-1=x by omega]
     by_cases hix:i=x
     ·subst hix;rfl
     ·rw[heqx];exact hS'.2.2.1 i h1 (by omega)
    ·rw[show x+1-1=x by omega,heqx];exact hS'.2.2.2 i hi
theorem a1b {st:SortSt}{p:Nat->Nat}{n nrem:Nat}{Q:Option Nat->SortSt->Prop}(hL:a1V prog w A s kd a0 κ)(hn:nrem≤a0.size)(hnn:n+1≤nrem)(hB:SG kd a0 st p)
  (hs:GoS κ p n (n+1)) (h:∀m st' p',SG kd a0 st' p'->1≤m->m≤nrem->SoS κ p' m->Q (some m) st') :
  wpS (model prog w) A E s (descPart n nrem) Q st:=by
 unfold descPart
 refine wpS_bind (wpS_lift (wpAny_rule ⟨rfl,?_⟩))
 refine wpS_bind (b0h hL hn (by omega) hnn hB hs λm neq st' p' hG' hm1 hm2 hq hS'=>?_)
 dsimp only
 by_cases hneq:neq > 0
 ·rw[if_pos hneq]
  exact wpS_bind (wpS_reverse (a4a hL hn (by omega) hm2 (hG'.mir (by omega)) (hS'.close hG' (by omega)) h))
 ·rw[if_neg hneq]
  exact a4a hL hn (by omega) hm2 hG' (hS'.close1 (by omega)) h
theorem a9g {st:SortSt}{nrem:Nat}{Q:Option Nat->SortSt->Prop}(hL:a1V prog w A s kd a0 κ)(hn:nrem≤a0.size)(h1:1≤nrem)(hB:SG kd a0 st id)
  (h:∀m st' p',SG kd a0 st' p'->1≤m->m≤nrem->SoS κ p' m->Q (some m) st') :
  wpS (model prog w) A E s (countRun' 0 nrem) Q st:=by
 rw[countRun0_eq]
 have S0:SoS κ id 0:=⟨λi j _ hj=>by omega,λi _=>rfl,λi hi=>by omega⟩
 have one:SoK κ id 1:=λi j hij hj=>by
  have:i=j:=by omega
  subst this;exact Int.le_refl _
 refine wpS_bind (a7m hL hn (Nat.le_refl 1) h1 hB one λn hn1 hn2 hsn hor=>?_)
 dsimp only
 by_cases hnn:n=nrem
 ·rw[if_pos (by simpa using hnn)]
  exact wpS_pure (h n st id hB hn1 hn2 (S0.more (by omega) hsn))
 ·rw[if_neg (by simpa using hnn)]
  have hlt:κ n < κ (n-1):=hor.resolve_left hnn
  by_cases hgt:n > 1
  ·rw[if_pos hgt]
   refine wpS_bind (a4r hB hL (by omega) (by omega) (by omega) ?_)
   simp only[id]
   by_cases hrose:κ 0 < κ (n-1)
   ·simp only[hrose,decide_true,if_true]
    exact wpS_pure (h n st id hB hn1 hn2 (S0.more (by omega) hsn))
   ·simp only[hrose,decide_false,Bool.false_eq_true,if_false]
    have hall:∀j,j<n->κ j = κ (n-1):=by
     intro j hk
     have a1:κ 0 ≤ κ j:=hsn 0 j (by omega) hk
     have a2:κ j ≤ κ (n-1):=hsn j (n-1) (by omega) (by omega)
     omega
    refine wpS_bind (wpS_reverse (a1b hL hn (by omega) (hB.mir (by omega)) ?_ h))
    refine⟨⟨λi j hij hj=>?_,λi hi=>?_,λi hi=>?_⟩,by omega,λi h1 h2=>?_,λi hi=>?_⟩
    ·dsimp only
     rw[if_pos (by omega),if_pos (by omega)]
     refine .inr ⟨?_,by simp only[id];omega⟩
     simp only[id]
     rw[hall _ (by omega),hall (0+n-1-i) (by omega)]
    ·dsimp only
     rw[if_neg (by omega)];rfl
    ·dsimp only
     rw[if_pos (by omega)];simp only[id];omega
    ·rw[show i=n by omega];rfl
    ·dsimp only
     rw[if_pos (by omega)];simp only[id]at hlt ⊢
     rw[hall (0+n-1-i) (by omega),show n+1-1=n by omega]
     exact hlt
  ·rw[if_neg hgt]
   have hn1':n=1:=by omega
   subst hn1'
   refine a1b hL hn (by omega) hB ⟨⟨λi j hij hj=>by omega,λi hi=>rfl,λi hi=>hi⟩,by omega,λi h1 h2=>?_,λi hi=>?_⟩ h
   ·rw[show i=1 by omega]
   ·rw[show i=0 by omega];exact hlt
noncomputable def a4w (κ:Nat->Int)(a0:Array Keyed)(st:SortSt):Prop :=
 failedOf st=none∧pendingOf st = #[(0,a0.size,0)]∧(arrOf st).size=a0.size∧∃p,(∀i,i<a0.size->(arrOf st)[i]? = a0[p i]?)∧SoS κ p a0.size
theorem SG.done {st:SortSt}{p:Nat->Nat}(g:SG kd a0 st p)(h:SoS κ p a0.size):a4w κ a0 (setPending st ((pendingOf st).push (0,a0.size,0))) :=
 ⟨g.base.failed,by show(pendingOf st).push _=_;rw[g.base.pend];rfl,g.base.size,p,g.at_,h⟩
theorem a5K {st:SortSt}{Q:Unit->SortSt->Prop}(hL:a1V prog w A s kd a0 κ)(hB:SG kd a0 st id)(h2:2≤a0.size)(h64:a0.size<64)
  (h:∀st',failedOf st'=none->(arrOf st').size=a0.size->(∃p,(∀i,i<a0.size->(arrOf st')[i]? = a0[p i]?)∧SoS κ p a0.size)->Q () st'):wpS (model prog w) A E s sortRuns' Q st:=by
 rw[sortRuns'_eq]
 refine wpS_bind (wpS_get ?_)
 dsimp only
 have hmr:minRun' a0.size a0.size 0=a0.size:=by
  obtain⟨f,hf⟩:∃f,a0.size=f+1:=⟨a0.size-1,by omega⟩
  have:minRun' (f+1) a0.size 0=a0.size:=by rw[minRun'_succ,if_pos h64];rfl
  rwa [←hf]at this
 simp only[hB.base.size,hmr]
 refine wpS_bind (wpS_mono (wpS_forRange
  (I:=λx c st'=>(x=0∧c=(none,0)∧SG kd a0 st' id)∨(1≤x∧c=(none,a0.size)∧a4w κ a0 st'))
  (Q:=λc st'=>c=(none,a0.size)∧a4w κ a0 st') ?step ?fin (.inl ⟨rfl,rfl,hB⟩)) ?post)
 case fin =>
  rintro c st' (⟨hx,_,_⟩ | ⟨_,hc,hD⟩)
  ·omega
  ·exact⟨hc,hD⟩
 case step =>
  rintro x c st' _ hx (⟨rfl,rfl,hB'⟩ | ⟨hx1,rfl,hD⟩)
  ·dsimp only
   rw[if_neg (by omega)]
   simp only[Nat.sub_zero,Nat.min_self,Nat.zero_add]
   refine wpS_bind (a9g hL (Nat.le_refl _) (by omega) hB' λm st2 p2 hB2 hm1 hm2 hs2=>?_)
   dsimp only
   by_cases hlt:m<a0.size
   ·rw[if_pos hlt]
    refine wpS_bind (wpS_lift (wpAny_rule ⟨rfl,?_⟩))
    refine wpS_bind (a7h hL (Nat.le_refl _) hm2 hB2 hs2 λst3 p3 hB3 hs3=>?_)
    simp only[Bool.not_true,Bool.false_eq_true,if_false]
    refine wpS_bind (wpS_get ?_)
    have hb:(pendingOf st3).back? = none:=by rw[hB3.base.pend];rfl
    rw[hb]
    dsimp only
    exact wpS_bind (wpS_modify (wpS_pure (.inr ⟨by omega,rfl,hB3.done hs3⟩)))
   ·rw[if_neg hlt]
    have hm:m=a0.size:=by omega
    subst hm
    refine wpS_bind (wpS_get ?_)
    have hb:(pendingOf st2).back? = none:=by rw[hB2.base.pend];rfl
    rw[hb]
    dsimp only
    exact wpS_bind (wpS_modify (wpS_pure (.inr ⟨by omega,rfl,hB2.done hs2⟩)))
  ·dsimp only
   rw[if_pos (Nat.le_refl _)]
   exact wpS_pure ⟨rfl,hD⟩
 case post =>
  rintro c st' ⟨rfl,hD⟩
  dsimp only
  refine wpS_bind (wpS_mono (wpS_forRange (I:=λ_ c st''=>st''=st'∧c=(none,())) (Q:=λc st''=>st''=st'∧c=(none,())) ?_ (λ_ _ hh=>hh) ⟨rfl,rfl⟩) ?_)
  ·rintro x c st'' _ _ ⟨rfl,rfl⟩
   refine wpS_bind (wpS_get ?_)
   rw[if_pos (by rw[hD.2.1];exact Nat.le_refl 1)]
   exact wpS_pure ⟨rfl,rfl⟩
  ·rintro c st'' ⟨rfl,rfl⟩
   exact wpS_pure (h _ hD.1 hD.2.2.1 hD.2.2.2)
end
end L2
namespace L2
open PySem PySem.Spec PyProof.Rows PySem.W
noncomputable def cdO (c:Addr)(q:Str):HO:=.ext λh=>h.CodeRec (.ref c) q
noncomputable def a2J (H:Hp)(P:Addr)(q:Str):Prop:=∃ps,H P=some (.tbl ps)∧TriplesOk ps.toList∧∀pos cv,codeAmong pos ps.toList=some cv->∃c,cv = .ref c∧H c=some (cdO c q)
theorem a57 {q p:Pos}{c cv:Value}:∀(l:List Value),TriplesOk l->codeAmong q (l++[rawInt p.line,rawInt p.col,c])=some cv->codeAmong q l=some cv∨cv=c:=by
 intro l h e
 fun_induction TriplesOk l with
 | case1 =>
  simp only[List.nil_append,codeAmong,rawInt]at e
  split at e
  ·exact .inr (Option.some.inj e).symm
  ·cases e
 | case2 a b c' d e' rest ih =>
  simp only[List.cons_append,codeAmong]at e ⊢
  split
  ·rename_i h1
   rw[if_pos h1]at e
   exact .inl e
  ·rename_i h1
   rw[if_neg h1]at e
   exact ih h e
 | case3=>exact h.elim
noncomputable def BMd (base:Heap)(mg:Str->Option Value):Prop:=∃bm ob,mg "__builtins__" = some (.ref bm)∧bm≠builtinsNs∧base.get? bm=some ob∧ob.cls = .type "module" ∧ ob.dict=some builtinsNs∧ob.data = .plain
noncomputable def b1G (P:Addr)(q:Str)(H H':Hp):Prop:=H'=H∨∃ps more c,H P=some (.tbl ps)∧H c=none∧c≠P∧H'=upd (upd H P (.tbl (ps++more))) c (cdO c q)
theorem a8n {c:Addr}{q:Str}:∀h1 h2:Heap,h1.CodeRec (.ref c) q->(∀o,h1.get? c=some o->h2.get? c=some o)->h2.CodeRec (.ref c) q:=λh1 h2 ⟨c',o,vs,t,e,g,r⟩ k=>by
 cases e
 exact⟨c,o,vs,t,rfl,k o g,r⟩
section
variable {X:Cx}{pins:List (Addr×Obj)}{σ:St}{H:Hp}{s:Shared}
theorem Inv.pin1 {a:Addr}{o:Obj}(I:Inv X pins σ H s)(ho:s.heap.get? a=some o)(hH:H a=none)(hL:a≠X.env.locals)(hf:a ∉ X.fs)(hd:∀v,o.data ≠ .cell v):Inv X ((a,o)::pins) σ H s :=
 I.pins_of λp hp=>by
  rcases List.mem_cons.mp hp with rfl | hp
  ·exact⟨ho,hH,hL,hf,hd⟩
  ·exact I.pin p (List.mem_append_right _ hp)
theorem Inv.pinFresh {a:Addr}{o:Obj}{s0:Shared}{pins0:List (Addr×Obj)}{σ0:St}{H0:Hp}(I:Inv X pins σ H s)(I0:Inv X pins0 σ0 H0 s0)(ho:s.heap.get? a=some o)(h:s0.heap.objs.size≤a)(hH:H a=none)(hd:∀v,o.data ≠ .cell v):Inv X ((a,o)::pins) σ H s :=
 I.pin1 ho hH (λe=>absurd (Nat.lt_of_lt_of_le I0.lt h) (by rw[e];exact Nat.lt_irrefl _)) (I0.nofs h) hd
theorem a7O {params:Arguments}{body:Expr}{scope:Scope}{lpos:Pos}{c P:Addr}{q:Str}{cl:List (Str×Addr)}{Q:Value->Shared->Prop}(I:Inv X pins σ H s)(hdef:defaultsOf params X.env=([],[]))(hcl:closureFor scope X.env=pure cl)
  (hcode:X.env.code = .ref c) (C:CodeHd X.base c P) (BM:BMd X.base X.mg) (T:a2J H P q) (hq:X.env.qual ++ "<lambda>" = q)
  (h:∀f c' ctv H' s',b1G P q H H'->a2J H' P q->H' c'=some (cdO c' q)->Inv X ((f,kla_obj "<lambda>" q params body scope cl ((X.mg "__name__").getD .none) c' ctv)::pins) σ H' s'->Q (.ref f) s') :
  wpAny (model X.prog X.w) X.A (eval (.Lambda params body scope lpos) X.env) Q X.xe s:=by
 subst hq
 obtain⟨ps,hP,ht,hall⟩:=T
 have hP':s.heap.get? P=some (tabObj ps):=I.hok P _ hP
 have hg:s.heap.Ns mainGlobals X.mg:=I.mod.glob.keeps I.bk
 obtain⟨bm,ob,b1,b2,b3,b4,b5,b6⟩:=BM
 have hgP:mainGlobals≠P:=λq=>by
  obtain⟨o,es,ep,e,hd,_⟩:=hg
  rw[q,hP']at e;cases e;cases hd
 have hbP:bm≠P:=λq=>by
  have e:=I.bk _ _ b3
  rw[q,hP']at e;cases e;cases b4
 have hbG:bm≠mainGlobals:=λq=>by
  obtain⟨o,es,ep,e,hd,_⟩:=I.mod.glob
  rw[q,e]at b3;cases b3;rw[hd]at b6;cases b6
 have hB:s.heap.BuiltinsAt X.mg P:=⟨bm,ob,b1,b2,hbG,hbP,I.bk _ _ b3,b4,b5,b6⟩
 refine kla_eval hdef ?_
 cases hf:codeAmong lpos ps.toList with
 | some cv =>
  obtain⟨c',rfl,hc'⟩:=hall _ _ hf
  refine kla_makeFunctionHit hcl I.ok.glob hg hcode (C.keeps I.bk) hP' ht hf hB λctv h' tk hk hsz=>?_
  have I1:Inv X pins σ H { s with heap:=h'.push (kla_obj "<lambda>" (X.env.qual ++ "<lambda>") params body scope cl ((X.mg "__name__").getD .none) c' ctv),toks:=tk }:=I.kept λb o e=>Heap.get?_push_of_some _ (hk b o e)
  exact h _ c' ctv H _ (.inl rfl) ⟨ps,hP,ht,hall⟩ hc' (I1.pinFresh I (Heap.get?_push_size _ rfl) hsz (I.hok.fresh hsz) (λv e=>nomatch e))
 | none =>
  refine kla_makeFunction hcl I.ok.glob hg hcode (C.keeps I.bk) hP' ht hf hgP hB λc' ctv h' tk hx hge hlt hrec htb=>?_
  have hcP:c'≠P:=λe=>absurd (Nat.lt_of_lt_of_le (Heap.lt_size hP') hge) (by rw[e];exact Nat.lt_irrefl _)
  have hcn:H c'=none:=I.hok.fresh hge
  have hk:∀b o,b≠P->s.heap.get? b=some o->(h'.push (kla_obj "<lambda>" (X.env.qual ++ "<lambda>") params body scope cl ((X.mg "__name__").getD .none) c' ctv)).get? b=some o:=λb o hb e=>Heap.get?_push_of_some _ (hx b o hb e)
  have hrec':=hrec.push (kla_obj "<lambda>" (X.env.qual ++ "<lambda>") params body scope cl ((X.mg "__name__").getD .none) c' ctv)
  have htb':=Heap.get?_push_of_some (kla_obj "<lambda>" (X.env.qual ++ "<lambda>") params body scope cl ((X.mg "__name__").getD .none) c' ctv) htb
  have hsz:s.heap.objs.size≤h'.objs.size:=Nat.le_trans hge (Nat.le_of_lt hlt)
  generalize hH':upd (upd H P (.tbl (ps ++ #[rawInt lpos.line,rawInt lpos.col,.ref c']))) c' (cdO c' (X.env.qual ++ "<lambda>"))=H'
  have a1:H' c'=some (cdO c' (X.env.qual ++ "<lambda>")):=by rw[←hH'];exact g8
  have a2:H' P=some (.tbl (ps ++ #[rawInt lpos.line,rawInt lpos.col,.ref c'])):=by rw[←hH',f7 hcP.symm];exact g8
  have a3:∀b,b≠c'->b≠P->H' b=H b:=λb h1 h2=>by rw[←hH',f7 h1,f7 h2]
  have ne:∀b o,H b=some o->b≠c':=λb o e z=>by rw[z,hcn]at e;cases e
  generalize hh2:h'.push (kla_obj "<lambda>" (X.env.qual ++ "<lambda>") params body scope cl ((X.mg "__name__").getD .none) c' ctv)=h2 at hk hrec' htb'
  have un:Un X.fs [] H H' s.heap h2:=by
   refine⟨λb o e n _ _=>hk b o (λz=>by rw[z,hP]at n;cases n) e,λb o e n _ _=>⟨o.slots,hk b o (λz=>by rw[z,hP]at n;cases n) e⟩,λb o e n _=>?_,λb o e _=>?_,λb xs e=>?_,λb o u e=>?_,λb qs e=>?_⟩
   ·rw[a3 b (λz=>absurd (Nat.lt_of_lt_of_le (Heap.lt_size e) hge) (by rw[z];exact Nat.lt_irrefl _)) λz=>by rw[z,hP]at n;cases n]
    exact n
   ·by_cases hb:b=P
    ·exact⟨_,by rw[hb];exact htb'⟩
    ·exact⟨o,hk b o hb e⟩
   ·rw[a3 b (ne b _ e) λz=>by rw[z,hP]at e;cases e];exact e
   ·rw[a3 b (ne b _ e) λz=>by rw[z,hP]at e;cases e];exact e
   ·by_cases hb:b=P
    ·subst hb
     rw[hP]at e;cases e
     exact⟨_,a2⟩
    ·exact⟨#[],by rw[a3 b (ne b _ e) hb,e];simp⟩
  have ok:HOk X.prog X.w H' h2:=by
   intro b u e
   by_cases hb:b=c'
   ·subst hb
    rw[a1]at e;cases e
    obtain⟨c2,o,vs,t,e2,g,r⟩:=id hrec'
    cases e2
    exact⟨hrec',⟨o,g⟩,a8n⟩
   ·by_cases hbP':b=P
    ·subst hbP'
     rw[a2]at e;cases e
     exact htb'
    ·rw[a3 b hb hbP']at e
     refine(I.hok b u e).stay (λb2 u2 hc q=>hk b2 u2 ?_ q) (λb2 q=>?_) λb2 xs q=>?_
     ·rcases hc with z | z
      ·rw[z];exact hbP'
      ·intro z2;rw[z2,hP]at z;cases z
     ·rw[a3 b2 (ne b2 _ q) λz=>by rw[z,hP]at q;cases q];exact q
     ·rw[a3 b2 (ne b2 _ q) λz=>by rw[z,hP]at q;cases q];exact q
  have I1:Inv X pins σ H' { s with heap:=h2,toks:=tk }:=I.un un ok
  have hfn:H' h'.objs.size=none:=by
   rw[a3 _ (Nat.ne_of_gt hlt) λz=>absurd (Nat.lt_of_lt_of_le (Heap.lt_size hP') hsz) (by rw[z];exact Nat.lt_irrefl _)]
   exact I.hok.fresh hsz
  refine h _ c' ctv H' _ (.inr ⟨ps,_,c',hP,hcn,hcP,hH'.symm⟩) ⟨_,a2,?_,λpos cv e=>?_⟩ a1 (I1.pinFresh I (by rw[←hh2];exact Heap.get?_push_size _ rfl) hsz hfn (λv e=>nomatch e))
  ·rw[Array.toList_append];exact TriplesOk_snoc _ _ _ _ ht
  ·rw[Array.toList_append]at e
   rcases a57 _ ht e with e | e
   ·obtain⟨c2,r1,r2⟩:=hall _ _ e
    refine⟨c2,r1,?_⟩
    by_cases hb:c2=c'
    ·subst hb;exact a1
    ·rw[a3 c2 hb λz=>by rw[z,hP]at r2;cases r2];exact r2
   ·exact⟨c',e,a1⟩
end
end L2
namespace L2
open PySem PySem.Spec PyProof.Rows PySem.W
noncomputable def cxL (X:Cx)(N:List Str)(q:Str)(scope:Scope)(cl:List (Str×Addr))(f c:Addr)(Y:Around)(s₀:Shared)(H₀:Hp):Cx where
 prog:=X.prog
 w:=X.w
 K:=X.K
 mg:=X.mg
 base:=X.base
 A:=Y.deeper (envX q scope s₀.heap.objs.size f (.ref c) cl)
 N:=N
 s₀:=s₀
 H₀:=H₀
 env:=envX q scope s₀.heap.objs.size f (.ref c) cl
 outer:=X.stack
 stack:=envX q scope s₀.heap.objs.size f (.ref c) cl::X.stack
 ex:=[]
 fn:=λ_=>false
 calm:=true
 pn:=[]
 xe:=λ_ _=>False
structure LamOk (ON:List Str) (osc:Scope) (x:Str) (N:List Str) (cap:List Nat) (scope:Scope):Prop where
 kind:scope.kind = .function
 co:scope.isCoroutine=false
 gen:scope.isGenerator=false
 nocell:∀y∈scope.names,y.2 ≠ .cell
 par:scope.names.lookup x=some .local
 first:N.head? = some x
 free:∀y∈scope.names,y.2 = .free->osc.names.lookup y.1=some .cell∨osc.names.lookup y.1=some .free
 len:N.length=1+cap.length
 capx:(cap.map λj=>ON[j]?)=(N.drop 1).map some
 capf:∀y∈N.drop 1,scope.names.lookup y=some .free
noncomputable def Y7 (v:V)(cap:List Nat)(σ:St):St:=some v::cap.map λj=>(σ[j]?).join
section
variable {X:Cx}{pins:List (Addr×Obj)}{σ:St}{H:Hp}{s:Shared}
theorem a90 {Y:Around}{E:Value->Shared->Prop}{params:Arguments}{body:Expr}{scope osc:Scope}{f c:Addr}{q x:Str}{cl:List (Str×Addr)}{pm ctv:Value}{N:List Str}{cap:List Nat}{te:TE}{v:V}{u:Value}{R:VK}
  (I:Inv X pins σ H s) (hY:Y.frames=some X.stack) (hd:Y.handled=none) (hdp:Y.depth<recursionLimit)
  (hf:(f,kla_obj "<lambda>" q params body scope cl pm c ctv)∈X.pn++pins) (hc:H c=some (cdO c q)) (hosc:X.env.scope=osc) (L:LamOk X.N osc x N cap scope)
  (hcl:∀{x:Str} {c:Addr},cl.lookup x=some c->X.env.cells.lookup x=some c) (hhas:∀x,(x,NameKind.free)∈scope.names->∃c,cl.lookup x=some c)
  (hbind:bindArgs (kla_fn "<lambda>" q params body scope cl pm (.ref c) ctv) ⟨[u],[]⟩=pure [(x,u)])
  (he:∀s H,PE (cxL X N q scope cl f c Y s H) body te) (ru:v4 v u) (h:te (Y7 v cap σ) H R) :
  wpAny (model X.prog X.w) Y (call (.ref f) [u]) (EP X pins σ R) E s:=by
 obtain⟨p1,p2,p3,p4,p5⟩:=I.pin _ hf
 obtain⟨hrec,_,_⟩:=I.hok c _ hc
 refine wpAny_call (kla_callFunE hdp p1 rfl L.co L.gen rfl hrec ?_)
 rw[hbind]
 refine wpAny_pure (wpAny_newFunctionEnv L.nocell (λy hy=>?_) (λh₁ hns hsb=>⟨I.nolimit.fresh _ hsb,?_⟩) L.kind)
 ·have e:y=(x,u):=by simpa using hy
  rw[e];exact L.par
 show codeAny _ _ (.expr body (envX q scope s.heap.objs.size f (.ref c) cl)) _ _
 have old:∀b o,s.heap.get? b=some o->h₁.get? b=some o:=λb o e=>hsb.extBut b o (Nat.ne_of_lt (Heap.lt_size e)) (Heap.get?_push_of_some _ e)
 have noA:∀b:Addr,b ∉ (cxL X N q scope cl f c Y s H).ex:=λb z=>absurd (show b∈([]:List Addr) from z) (by simp)
 have IY:Inv (cxL X N q scope cl f c Y s H) [] (Y7 v cap σ) H { s with heap:=h₁,toks:=s.toks+[(x,u)].length }:=by
  refine⟨⟨I.ok.mod,L.kind,rfl,rfl,Nat.le_refl _,λx y c h1 h2=>I.ok.inj x y c (hcl h1) (hcl h2),λy hy=>?_,λx c h=>absurd (show false=true from h) Bool.false_ne_true,λ_=>hd,Around.frames_deeper hY,.inr ⟨rfl,rfl⟩,
   λb z=>absurd z (noA b),I.bs,Nat.le_trans I.ok.bsz I.sz,λb _ _=>noA b,λb z=>absurd z (noA b),I.stack,I.stkFree⟩,
   rfl,I.bare,Un.kept old,⟨_,hns,λi y w e1 e2 e3=>?_⟩,λy c' e=>?_,I.hok.fresh (Nat.le_refl _),λy c' e=>I.freeC y c' (hcl e),λp hp=>absurd (show p∈([]:List (Addr×Obj)) from hp) (by simp),I.hok.kept old,?_⟩
  ·have hy:scope.names.lookup y=some .cell∨scope.names.lookup y=some .free:=hy
   rcases hy with hy | hy
   ·exact absurd rfl (L.nocell _ (PySem.mem_of_lookup hy))
   ·exact hhas y (PySem.mem_of_lookup hy)
  ·cases i with
   | zero =>
    have e2':some (some v)=some (some w):=e2
    cases e2'
    have ex:y=x:=by
     have z:=L.first
     have e1':N[0]? = some y:=e1
     rw[List.head?_eq_getElem?,e1']at z
     exact Option.some.inj z
    subst ex
    exact⟨u,ru,.inl ⟨L.par,by simp⟩⟩
   | succ d =>
    have e2':(cap.map λj=>(σ[j]?).join)[d]? = some (some w):=e2
    rw[List.getElem?_map]at e2'
    obtain⟨j,hj,hv⟩:=Option.map_eq_some_iff.mp e2'
    have hσ:σ[j]? = some (some w):=by
     cases r:σ[j]? with
     | none=>rw[r]at hv;cases hv
     | some o=>rw[r]at hv;exact congrArg some hv
    have e1':(N.drop 1)[d]? = some y:=by rw[List.getElem?_drop,Nat.add_comm];exact e1
    have hx:X.N[j]? = some y:=by
     have z:=congrArg (λl=>l[d]?) L.capx
     simp only[List.getElem?_map,hj,e1',Option.map_some]at z
     exact Option.some.inj z
    have hfr:=L.capf y (List.mem_of_getElem? e1')
    have hfm:=PySem.mem_of_lookup hfr
    have hok:=L.free _ hfm rfl
    rw[←hosc]at hok
    obtain⟨m,hn,hl⟩:=I.loc
    obtain⟨u',r,l⟩:=hl j y w hx hσ (.inr hok)
    refine⟨u',r,?_⟩
    rcases l with ⟨hk,_⟩ | ⟨hk,c1,hc1,hc2⟩
    ·have hk:X.env.scope.names.lookup y=some .local:=hk
     rcases hok with z | z <;> (rw[hk]at z;cases z)
    ·obtain⟨c',hc'⟩:=hhas y hfm
     have:c'=c1:=Option.some.inj ((hcl hc').symm.trans hc1)
     subst this
     exact .inr ⟨.inr hfr,c',hc',hc2.keeps old⟩
  ·obtain⟨w,z⟩:=I.cell y c' (hcl e)
   exact⟨w,z.keeps old⟩
  ·show(Y7 v cap σ).length=N.length
   unfold Y7
   rw[List.length_cons,List.length_map,L.len,Nat.add_comm]
 refine kla_codeExpr (wpAny_mono (he s H [] _ _ _ _ IY h) (λuv s' hs=>?_) λe s' hs=>hs.elim)
 obtain⟨w,H',J,rw',qw⟩:=hs
 exact⟨w,H',I.call' (ch:=[]) J.os J.base J.hok J.bare (λb hb=>nomatch hb),rw',qw⟩
end
end L2
namespace L2
open PySem PySem.Spec PyProof.Rows PySem.W
noncomputable def a2r:V->Int
 | .int i=>i
 | .bl b=>if b then 1 else 0
 | _=>0
noncomputable def a18 (ks:List V):Prop:=(∀k∈ks,∃i,k=V.int i)∨∀k∈ks,∃b,k=V.bl b
noncomputable def O4 (ks:List V)(i:Nat):Int:=a2r (ks.getD i .non)
noncomputable def a15 (ks xs ys:List V):Prop:=ys.length=xs.length∧∃p,SoS (O4 ks) p xs.length∧∀i,i<xs.length->ys[i]? = xs[p i]?
theorem O5:∀{vs:List Value},(∀v∈vs,∃b,v = .bool b)->vs.mapM firstOfTuple'=pure (vs.map λ_=>none)
 | [],_=>by simp
 | v::vs,h=>by
  obtain⟨b,rfl⟩:=h v List.mem_cons_self
  rw[List.mapM_cons,show firstOfTuple' (.bool b)=pure none from rfl,O5 λw hw=>h w (List.mem_cons_of_mem _ hw)];simp
theorem N8:∀{vs:List Value},(∀v∈vs,∃b,v = .bool b)->vs.mapM typeOf=pure (vs.map λ_=>Value.type "bool")
 | [],_=>by simp
 | v::vs,h=>by
  obtain⟨b,rfl⟩:=h v List.mem_cons_self
  rw[List.mapM_cons,N8 λw hw=>h w (List.mem_cons_of_mem _ hw)]
  show(pure (Value.type "bool") >>= λb=>pure _ >>= λbs=>pure (b::bs))=_
  simp
theorem a2o {v₁ v₂:Value}{vs:List Value}(hI:∀v∈(v₁::v₂::vs),∃b,v = .bool b):keyKind' (v₁::v₂::vs).toArray=pure oneType':=by
 rw[keyKind'_eq,List.mapM_toArray,O5 hI]
 simp only[map_pure,pure_bind]
 rw[if_neg (by simp),if_neg (by simp)]
 rw[oneTypeOnly'_eq,List.mapM_toArray,N8 hI]
 simp only[map_pure,pure_bind]
 have hall:((List.map (λ_=>Value.type "bool") (v₁::v₂::vs)).toArray.all λx=>x == Value.type "bool")=true:=by
  simp only[List.all_toArray,List.all_map,List.all_eq_true]
  intro _ _
  rfl
 have h0:(List.map (λ_=>Value.type "bool") (v₁::v₂::vs)).toArray[0]? = some (Value.type "bool"):=by simp
 rw[h0]
 simp only[hall,if_true,pure_bind,Option.isSome_some]
theorem a04:∀{ks:List V} {us:List Value},k9 ks us->(∀k∈ks,∃i,k=V.int i)->IntsAre us (ks.map a2r)
 | _,_,.nil,_=>.nil
 | k::ks,u::us,.cons r t,h=>by
  obtain⟨i,rfl⟩:=h k List.mem_cons_self
  obtain⟨t',rfl⟩:=r
  exact .cons i t' (a04 t λk hk=>h k (List.mem_cons_of_mem _ hk))
theorem a23:∀{ks:List V} {us:List Value},k9 ks us->(∀k∈ks,∃b,k=V.bl b)->∀u∈us,∃b,u = .bool b
 | _,_,.nil,_,u,hu=>by simp at hu
 | k::ks,u::us,.cons r t,h,w,hw=>by
  rcases List.mem_cons.mp hw with rfl | hw
  ·obtain⟨b,rfl⟩:=h k List.mem_cons_self
   exact⟨b,r⟩
  ·exact a23 t (λk hk=>h k (List.mem_cons_of_mem _ hk)) w hw
theorem a9S {ks:List V}{keys:Array Value}(r:k9 ks keys.toList)(h:a18 ks)(h2:2≤keys.size):keyKind' keys=pure oneType':=by
 obtain⟨v₁,v₂,rest,e⟩:∃v₁ v₂ rest,keys.toList=v₁::v₂::rest:=by
  have hl:2≤keys.toList.length:=by rw[Array.length_toList];exact h2
  cases q:keys.toList with
  | nil=>rw[q]at hl;simp at hl
  | cons v₁ r =>
   cases r with
   | nil=>rw[q]at hl;simp at hl
   | cons v₂ rest=>exact⟨v₁,v₂,rest,rfl⟩
 have ek:keys=(v₁::v₂::rest).toArray:=by rw[←e,Array.toArray_toList]
 rw[e]at r
 rw[ek]
 rcases h with h | h
 ·exact keyKind_ints (a04 r h)
 ·exact a2o (a23 r h)
theorem b3C {prog:Program}{w:World}{A:Around}{s:Shared}{ks:List V}{keys:Array Value}{its:List Value}(r:k9 ks keys.toList)(h:a18 ks):a1V prog w A s oneType' (keys.zip its.toArray) (O4 ks):=by
 have one:∀(i:Nat) (x:Keyed),(keys.zip its.toArray)[i]? = some x->∃k,ks[i]? = some k∧v4 k x.1:=λi x e=>by
  rw[←Array.getElem?_toList,ksk_zip,List.getElem?_zip_eq_some]at e
  cases q:ks[i]? with
  | none =>
   rw[r.none_of q]at e;exact absurd e.1 (by simp)
  | some k =>
   obtain⟨u,h1,h2⟩:=r.get q
   rw[h1]at e
   exact⟨k,rfl,by rw[←Option.some.inj e.1];exact h2⟩
 intro i j x y _ ex ey E Q hq
 rw[keyLt'_oneType]
 obtain⟨k1,a1,r1⟩:=one i x ex
 obtain⟨k2,a2,r2⟩:=one j y ey
 have n1:O4 ks i=a2r k1:=by unfold O4;rw[List.getD_eq_getElem?_getD,a1];rfl
 have n2:O4 ks j=a2r k2:=by unfold O4;rw[List.getD_eq_getElem?_getD,a2];rfl
 rw[n1,n2]at hq
 obtain⟨x1,x2⟩:=x
 obtain⟨y1,y2⟩:=y
 rcases h with h | h
 ·obtain⟨m,rfl⟩:=h k1 (List.mem_of_getElem? a1)
  obtain⟨n,rfl⟩:=h k2 (List.mem_of_getElem? a2)
  obtain⟨t,e⟩:=r1
  obtain⟨t',e'⟩:=r2
  dsimp only at e e'
  subst e;subst e'
  exact oneLt_int hq
 ·obtain⟨m,rfl⟩:=h k1 (List.mem_of_getElem? a1)
  obtain⟨n,rfl⟩:=h k2 (List.mem_of_getElem? a2)
  have e:x1 = .bool m:=r1
  have e':y1 = .bool n:=r2
  subst e;subst e'
  exact a53 hq
section
variable {X:Cx}{pins:List (Addr×Obj)}{σ:St}{H:Hp}{s:Shared}
noncomputable def New (X:Cx)(pins:List (Addr×Obj))(b:Addr):Prop:=X.s₀.heap.objs.size≤b∧b≠X.env.locals∧(∀x c,X.env.cells.lookup x=some c->c≠b)∧(∀p∈X.pn++pins,p.1≠b)∧b ∉ X.fs
theorem Inv.new {b:Addr}(I:Inv X pins σ H s)(h:s.heap.objs.size≤b):New X pins b:=by
 have ne:∀{c:Addr} {o:Obj},s.heap.get? c=some o->c≠b:=λe z=>absurd (Nat.lt_of_lt_of_le (Heap.lt_size e) h) (by rw[z];exact Nat.lt_irrefl _)
 refine⟨Nat.le_trans I.sz h,λz=>absurd (Nat.lt_of_lt_of_le I.lt h) (by rw[z];exact Nat.lt_irrefl _),λx c e=>?_,λp hp=>ne (I.pin p hp).1,I.nofs h⟩
 obtain⟨v,o,ho,_⟩:=I.cell x c e
 exact ne ho
theorem Inv.turn1 {b:Addr}{h':Heap}{t':Nat}(I:Inv X pins σ H s)(hb:New X pins b)(hn:H b=none)(k:∀c o,c≠b->s.heap.get? c=some o->h'.get? c=some o):Inv X pins σ H { s with heap:=h',toks:=t' } :=
 I.turned k hn hb.2.1 (.inr hb.1) hb.2.2.1 hb.2.2.2.1
theorem Inv.relay {a k:Addr}{ys:List V}{us:List Value}{n:Nat}{h':Heap}{t':Nat}(I:Inv X pins σ H s)(ha:New X pins a)(hk:New X pins k)(Ha:H a=none)(Hk:H k=none)
  (hs:∀c o,c≠a->c≠k->s.heap.get? c=some o->h'.get? c=some o) (hth:∃o,h'.get? k=some o) (hz:ys.length≤sizeLine) (r:k9 ys us) (ho:h'.get? a=some { cls:=.type "list",data:=.seq us.toArray n }) :
  Inv X pins σ (upd H a (.lst ys)) { s with heap:=h',toks:=t' }:=by
 have nin:∀{b:Addr},b ∉ [a,k]->b≠a∧b≠k:=λhb=>⟨λz=>hb (by simp[z]),λz=>hb (by simp[z])⟩
 have nu:∀{b:Addr} {u:HO},H b=some u->b≠a∧b≠k:=λe=>⟨λz=>(by rw[z,Ha]at e;cases e),λz=>(by rw[z,Hk]at e;cases e)⟩
 refine I.step (g':=s.gens) (d':=s.drawn) (ch:=[a,k]) (λb hb=>?_) (λb o _ _ hc e _=>hs b o (nin hc).1 (nin hc).2 e) (λb o _ _ hc e _=>⟨o.slots,hs b o (nin hc).1 (nin hc).2 e⟩) (λb o hc _ n=>by rw[f7 (nin hc).1];exact n)
  (λb o hc e=>⟨o,hs b o (nin hc).1 (nin hc).2 e⟩) (λb xs e=>by rw[f7 (nu e).1];exact e) (λb o u e=>by rw[f7 (nu e).1];exact e) (λb ps e=>⟨#[],by rw[f7 (nu e).1,e];simp⟩) (λm hm=>?_) (λb u e=>?_) I.bare
 ·have hb':b=a∨b=k:=by simpa using hb
  rcases hb' with rfl | rfl
  ·exact⟨.inr ha.1,ha.2.1,ha.2.2.1,ha.2.2.2.1⟩
  ·exact⟨.inr hk.1,hk.2.1,hk.2.2.1,hk.2.2.2.1⟩
 ·obtain⟨o,es,ep,ho',r'⟩:=hm
  exact⟨o,es,ep,hs _ o ha.2.1.symm hk.2.1.symm ho',r'⟩
 ·by_cases hb:b=a
  ·subst hb
   rw[g8]at e;cases e
   exact⟨hz,us,n,r,ho⟩
  ·rw[f7 hb]at e
   refine(I.hok b u e).stay (λc v hc q=>?_) (λc q=>by rw[f7 (nu q).1];exact q) λc xs q=>by rw[f7 (nu q).1];exact q
   rcases hc with rfl | z
   ·exact hs c v (nu e).1 (nu e).2 q
   ·exact hs c v (nu z).1 (nu z).2 q
end
end L2
namespace L2
open PySem PySem.Spec PyProof.Rows PySem.W
theorem atl {α:Type}(a:Array α):a.toList.length=a.size:=Array.length_toList
section
variable {X:Cx}{pins:List (Addr×Obj)}{σ:St}{H:Hp}{s:Shared}{Y:Around}{E:Value->Shared->Prop}{P:PySem.Fin->Shared->Prop}{a kS:Addr}{xs ks:List V}{its:List Value}{e1:Nat}
theorem a5W {keys:Array Value}{e:Nat}{st:SortSt}{p:Nat->Nat}(I:Inv X ((kS,seqObj "list" keys e)::(a,seqObj "list" #[] e1)::pins) σ H s)(ha:New X pins a)(hk:New X pins kS)(hka:kS≠a)
  (rx:k9 xs its) (hkl:keys.size≤64) (h64:its.length<64) (hfl:failedOf st=none) (hsz:(arrOf st).size=its.length) (hp:∀i,i<its.length->(arrOf st)[i]? = (keys.zip its.toArray)[p i]?) (hS:SoS (O4 ks) p its.length) (hke:keys.size=its.length)
  (h:∀s' ys,a15 ks xs ys->Inv X pins σ (upd H a (.lst ys)) s'->P (.done (.ret .none)) s') :
  wpAny (model X.prog X.w) Y (ksk_tail a false e1 (.ref kS) st) P E s:=by
 obtain⟨nk,Hk,_⟩:=I.pin (kS,seqObj "list" keys e) (List.mem_append_right _ (.head _))
 obtain⟨na,Ha,_⟩:=I.pin (a,seqObj "list" #[] e1) (List.mem_append_right _ (.tail _ (.head _)))
 have I0:Inv X pins σ H s:=I.pins_of λp hp=>I.pin p (List.mem_append_right _ (.tail _ (.tail _ hp)))
 have s1:=Heap.SameBut.update s.heap kS (Obj.mapSeq λ_=>(#[]:Array Value))
 have na1:(s.heap.update kS (Obj.mapSeq λ_=>(#[]:Array Value))).get? a=some (seqObj "list" #[] e1):=(s1.2 a hka.symm).trans na
 have s2:=Heap.SameBut.update (s.heap.update kS (Obj.mapSeq λ_=>(#[]:Array Value))) a (Obj.mapSeq λ_=>(arrOf st).map (·.2))
 obtain⟨c2,hc2⟩:∃c2,((s.heap.update kS (Obj.mapSeq λ_=>(#[]:Array Value))).update a (Obj.mapSeq λ_=>(arrOf st).map (·.2))).get? a=some (seqObj "list" ((arrOf st).map (·.2)) c2) :=
  ⟨_,get?_update_seq na1 λ_=>(arrOf st).map (·.2)⟩
 have hout:((arrOf st).map (·.2)).size=its.length:=by rw[Array.size_map];exact hsz
 unfold ksk_tail
 try dsimp only
 refine wpAny_bind (listUpdate_at nk rfl ?_ (by rw[sizeLine_eq];omega) (Nat.zero_le _))
 refine wpAny_bind (wpAny_letGo ?_)
 refine wpAny_bind (seqEpoch_at na1 rfl ?_)
 refine wpAny_bind (listUpdate_at na1 rfl ?_ (Nat.zero_le _) (by rw[if_neg Bool.false_ne_true,hout,sizeLine_eq];omega))
 rw[hfl]
 simp only[bne_self_eq_false,Bool.false_eq_true,if_false]
 have xl:xs.length=its.length:=rx.length
 have outv:∀i,i<its.length->((arrOf st).map (·.2)).toList[i]? = its[p i]?:=λi hi=>by
  rw[Array.getElem?_toList,Array.getElem?_map,hp i hi,←Array.getElem?_toList,ksk_zip]
  have hpi:=hS.2.2 i hi
  have e1:its[p i]? = some (its[p i]):=List.getElem?_eq_getElem hpi
  have e2:keys.toList[p i]? = some (keys.toList[p i]'(by rw[atl keys,hke];exact hpi)):=List.getElem?_eq_getElem _
  rw[show(keys.toList.zip its)[p i]? = some (keys.toList[p i]'(by rw[atl keys,hke];exact hpi),its[p i]) from List.getElem?_zip_eq_some.mpr ⟨e2,e1⟩,e1]
  rfl
 have ysl:((List.range its.length).map λi=>xs.getD (p i) .non).length=its.length:=by rw[List.length_map,List.length_range]
 have ysg:∀i,i<its.length->((List.range its.length).map λi=>xs.getD (p i) .non)[i]? = xs[p i]?:=λi hi=>by
  rw[List.getElem?_map,List.getElem?_range hi]
  have hpi:=hS.2.2 i hi
  show some (xs.getD (p i) .non)=_
  rw[List.getD_eq_getElem?_getD,List.getElem?_eq_getElem (by omega)]
  rfl
 refine wpAny_pure (h _ ((List.range its.length).map λi=>xs.getD (p i) .non) ⟨by rw[ysl,xl],p,by rw[xl];exact hS,λi hi=>ysg i (by omega)⟩ (I0.relay (k:=kS) (n:=c2) ha hk Ha Hk (λc o h1 h2 e=>(s2.2 c h1).trans ((s1.2 c h2).trans e)) ?_ (by rw[ysl,sizeLine_eq];omega)
  (us:=((arrOf st).map (·.2)).toList) ?_ (by rw[hc2])))
 ·obtain⟨c3,hc3⟩:∃c3,(s.heap.update kS (Obj.mapSeq λ_=>(#[]:Array Value))).get? kS=some (seqObj "list" #[] c3):=⟨_,get?_update_seq nk λ_=>(#[]:Array Value)⟩
  exact⟨_,(s2.2 kS hka).trans hc3⟩
 ·refine N2 (by rw[ysl,atl ((arrOf st).map (·.2)),hout]) λi x u hx hu=>?_
  have hi:i<its.length:=by
   have:=(List.getElem?_eq_some_iff.mp hx).1
   rwa [ysl]at this
  rw[ysg i hi]at hx
  rw[outv i hi]at hu
  obtain⟨u',h1,h2⟩:=rx.get hx
  rw[h1]at hu
  rw[←Option.some.inj hu]
  exact h2
theorem b1O {keys:Array Value}{e:Nat}(I:Inv X ((kS,seqObj "list" keys e)::(a,seqObj "list" #[] e1)::pins) σ H s)(ha:New X pins a)(hk:New X pins kS)(hka:kS≠a)
  (rx:k9 xs its) (rk:k9 ks keys.toList) (hl:ks.length=xs.length) (hko:a18 ks) (h64:its.length<64)
  (h:∀s' ys,a15 ks xs ys->Inv X pins σ (upd H a (.lst ys)) s'->P (.done (.ret .none)) s') :
  wpAny (model X.prog X.w) Y (ksk_end a false its.toArray e1 (.ref kS) keys) P E s:=by
 have xl:xs.length=its.length:=rx.length
 have hke:keys.size=its.length:=by
  have:=rk.length
  rw[atl keys]at this
  omega
 have hzs:(keys.zip its.toArray).size=its.length:=by rw[Array.size_zip,hke,List.size_toArray,Nat.min_self]
 unfold ksk_end
 simp only[Bool.false_eq_true,if_false]
 by_cases h2:its.toArray.size<2
 ·rw[if_pos h2,if_pos h2]
  refine wpAny_bind (wpAny_pure ?_)
  rw[StateT.run_pure]
  refine wpAny_bind (wpAny_pure ?_)
  try dsimp only
  rw[List.size_toArray]at h2
  refine a5W (st:=SortSt.mk' general' (keys.zip its.toArray) #[] 7 none) (p:=id) I ha hk hka rx (by omega) h64 rfl hzs (λi _=>rfl) ⟨λi j h1 h3=>by omega,λi _=>rfl,λi hi=>hi⟩ hke h
 ·rw[if_neg h2,if_neg h2]
  rw[List.size_toArray]at h2
  rw[a9S rk hko (by omega)]
  refine wpAny_bind (wpAny_pure ?_)
  refine wpAny_bind (wpAny_mono (a5K (a0:=keys.zip its.toArray) (κ:=O4 ks) (st:=SortSt.mk' oneType' (keys.zip its.toArray) #[] 7 none)
   (Q:=λ_ st'=>failedOf st'=none∧(arrOf st').size=(keys.zip its.toArray).size∧∃p,(∀i,i<(keys.zip its.toArray).size->(arrOf st')[i]? = (keys.zip its.toArray)[p i]?)∧SoS (O4 ks) p (keys.zip its.toArray).size)
   (b3C rk hko) ⟨⟨rfl,rfl,rfl,rfl⟩,λi j _ _ e=>e,λi _=>rfl,λi hi=>hi⟩ (by rw[hzs];omega) (by rw[hzs];exact h64) λst' a1 a2 a3=>⟨a1,a2,a3⟩) ?_ λ_ _ e=>e)
  rintro ⟨⟨⟩,st'⟩ s' ⟨rfl,hf,hsz,p,hp,hS⟩
  try dsimp only
  rw[hzs]at hsz hp hS
  exact a5W I ha hk hka rx (by omega) h64 hf hsz hp hS hke h
theorem a9y {f:Addr}{J:Nat->Hp->Prop}(I:Inv X ((kS,seqObj "list" #[] 0)::(a,seqObj "list" #[] e1)::pins) σ H s)(ha:New X pins a)(hk:New X pins kS)(hka:kS≠a)
  (rx:k9 xs its) (hl:ks.length=xs.length) (hko:a18 ks) (h64:its.length<64) (j0:J 0 H)
  (turn:∀(i:Nat) (v:V) (u:Value) (pn:List (Addr×Obj)) (H':Hp) (s':Shared),xs[i]? = some v->v4 v u->J i H'->Inv X (pn++pins) σ H' s' ->
   wpAny (model X.prog X.w) Y (call (.ref f) [u]) (EP X (pn++pins) σ λk H2=>ks[i]? = some k∧J (i+1) H2) (λ_ _=>False) s')
  (h:∀s' H' ys,J xs.length H'->H' a=none->a15 ks xs ys->Inv X pins σ (upd H' a (.lst ys)) s'->P (.done (.ret .none)) s') :
  wpAny (model X.prog X.w) Y (ksk_rest a (.ref f) false its.toArray e1 (.ref kS)) P E s:=by
 have xl:xs.length=its.length:=rx.length
 have hk2:New X ((a,seqObj "list" #[] e1)::pins) kS:=⟨hk.1,hk.2.1,hk.2.2.1,λp hp=>by
  rcases List.mem_append.mp hp with z | z
  ·exact hk.2.2.2.1 p (List.mem_append_left _ z)
  ·rcases List.mem_cons.mp z with rfl | z
   ·exact hka.symm
   ·exact hk.2.2.2.1 p (List.mem_append_right _ z),hk.2.2.2.2⟩
 unfold ksk_rest
 refine wpAny_bind (wpAny_rule ?_)
 first
  | rw[List.forIn_toArray]
  | (rw[←Array.forIn_toList];simp only[List.toList_toArray])
  | rw[←Array.forIn_toList]
 refine wpAny_bind (ksk_fold (λi s'=>∃H' kA e,Inv X ((kS,seqObj "list" kA e)::(a,seqObj "list" #[] e1)::pins) σ H' s'∧J i H'∧k9 (ks.take i) kA.toList) its 0 s ⟨H,#[],0,I,j0,by simpa using Paired.nil⟩ ?step ?done)
 case step =>
  rintro j x s' hx ⟨H',kA,e,I',hJ,hv⟩
  simp only[Nat.zero_add]at hJ hv ⊢
  have hj:j<its.length:=(List.getElem?_eq_some_iff.mp hx).1
  obtain⟨v,hxv⟩:∃v,xs[j]? = some v:=⟨_,List.getElem?_eq_getElem (by omega)⟩
  obtain⟨u,hu,ru⟩:=rx.get hxv
  rw[hx]at hu
  cases hu
  have hz:kA.size≤its.length:=by
   have h1:=hv.length
   rw[atl kA,List.length_take]at h1
   omega
  refine wpAny_bind (wpAny_attempt (wpAny_mono (turn j v x [(kS,seqObj "list" kA e),(a,seqObj "list" #[] e1)] H' s' hxv ru hJ I') (λkv s'' he=>?_) λ_ _ hF=>hF.elim))
  obtain⟨kk,H2,I2,rk,hkk,hJ2⟩:=he
  try dsimp only
  obtain⟨nk,Hk,_⟩:=I2.pin (kS,seqObj "list" kA e) (List.mem_append_right _ (.head _))
  have I3:Inv X ((a,seqObj "list" #[] e1)::pins) σ H2 s'':=I2.pins_of λp hp=>I2.pin p (List.mem_append_right _ (.tail _ hp))
  have s1:=Heap.SameBut.update s''.heap kS (Obj.mapSeq (·.push kv))
  obtain⟨c2,hc2⟩:∃c2,(s''.heap.update kS (Obj.mapSeq (·.push kv))).get? kS=some (seqObj "list" (kA.push kv) c2):=⟨_,get?_update_seq nk (·.push kv)⟩
  refine wpAny_bind (listUpdate_at nk rfl ?_ (by rw[sizeLine_eq];omega) (Nat.le_trans (Nat.le_of_eq (Array.size_push ..)) (by rw[sizeLine_eq];omega)))
  have I4:=I3.turn1 (h':=s''.heap.update kS (Obj.mapSeq (·.push kv))) (t':=s''.toks) hk2 Hk λc o hc e=>(s1.2 c hc).trans e
  have ek:ks.take (j+1)=ks.take j++[kk]:=by rw[List.take_add_one,hkk];simp
  have ea:(kA.push kv).toList=kA.toList++[kv]:=by simp
  exact wpAny_pure ⟨rfl,H2,kA.push kv,c2,I4.pin1 hc2 Hk hk.2.1 hk.2.2.2.2 (λv e=>nomatch e),hJ2,by rw[ea,ek];exact hv.append (.cons rk .nil)⟩
 case done =>
  rintro s' ⟨H',kA,e,I',hJ,hv⟩
  have e3:ks.take (0+its.length)=ks:=List.take_of_length_le (by omega)
  rw[e3]at hv
  rw[Nat.zero_add,←xl]at hJ
  obtain⟨nk,Hk,_⟩:=I'.pin (kS,seqObj "list" kA e) (List.mem_append_right _ (.head _))
  obtain⟨_,Ha,_⟩:=I'.pin (a,seqObj "list" #[] e1) (List.mem_append_right _ (.tail _ (.head _)))
  try dsimp only
  refine wpAny_bind (listItems_at nk rfl ?_)
  exact b1O I' ha hk hka rx hv hl hko h64 λs2 ys o J2=>h s2 H' ys hJ Ha o J2
end
end L2
namespace L2
open PySem PySem.Spec PyProof.Rows PySem.W
section
variable {X:Cx}{pins:List (Addr×Obj)}{σ:St}{H:Hp}{s:Shared}{Y:Around}{E:Value->Shared->Prop}{P:PySem.Fin->Shared->Prop}{a:Addr}{xs ks:List V}{its:List Value}
theorem a9M {f:Addr}{n:Nat}{J:Nat->Hp->Prop}(I:Inv X pins σ H s)(ho:s.heap.get? a=some (seqObj "list" its.toArray n))(ha:New X pins a)(Ha:H a=none)
  (rx:k9 xs its) (hl:ks.length=xs.length) (hko:a18 ks) (h64:its.length<64) (j0:J 0 H)
  (turn:∀(i:Nat) (v:V) (u:Value) (pn:List (Addr×Obj)) (H':Hp) (s':Shared),xs[i]? = some v->v4 v u->J i H'->Inv X (pn++pins) σ H' s' ->
   wpAny (model X.prog X.w) Y (call (.ref f) [u]) (EP X (pn++pins) σ λk H2=>ks[i]? = some k∧J (i+1) H2) (λ_ _=>False) s')
  (h:∀s' H' ys,J xs.length H'->H' a=none->a15 ks xs ys->Inv X pins σ (upd H' a (.lst ys)) s'->P (.done (.ret .none)) s') :
  wpAny (model X.prog X.w) Y (ksk_tree a (.ref f) false) P E s:=by
 have hlt:a<s.heap.objs.size:=Heap.lt_size ho
 have s1:=Heap.SameBut.update s.heap a (Obj.mapSeq λ_=>(#[]:Array Value))
 obtain⟨e1,ho1⟩:∃e1,(s.heap.update a (Obj.mapSeq λ_=>(#[]:Array Value))).get? a=some (seqObj "list" #[] e1):=⟨_,get?_update_seq ho λ_=>#[]⟩
 have hkS:((s.heap.update a (Obj.mapSeq λ_=>(#[]:Array Value))).push (seqObj "tuple" its.toArray 0)).objs.size=s.heap.objs.size+1:=by rw[size_push',Heap.size_update]
 have hz:s.heap.objs.size≤((s.heap.update a (Obj.mapSeq λ_=>(#[]:Array Value))).push (seqObj "tuple" its.toArray 0)).objs.size:=by rw[hkS];exact Nat.le_succ _
 unfold ksk_tree
 refine wpAny_bind (listItems_at ho rfl ?_)
 refine wpAny_bind (listUpdate_at ho rfl ?_ (by rw[List.size_toArray,sizeLine_eq];omega) (Nat.zero_le _))
 refine wpAny_bind (seqEpoch_at ho1 rfl ?_)
 refine wpAny_bind (wpAny_newTuple ?_ (by show its.length≤_;rw[sizeLine_eq];omega))
 refine wpAny_bind (wpAny_newList ?_ (Nat.zero_le _))
 refine wpAny_holding ?_
 have I1:Inv X pins σ H { s with heap:=((s.heap.update a (Obj.mapSeq λ_=>(#[]:Array Value))).push (seqObj "tuple" its.toArray 0)).push (seqObj "list" #[] 0),toks:=s.toks } :=
  I.turn1 ha Ha λc o hc e=>Heap.get?_push_of_some _ (Heap.get?_push_of_some _ ((s1.2 c hc).trans e))
 have hk:=I.new hz
 have Hk:=I.hok.fresh hz
 have hka:((s.heap.update a (Obj.mapSeq λ_=>(#[]:Array Value))).push (seqObj "tuple" its.toArray 0)).objs.size≠a:=by rw[hkS];exact Nat.ne_of_gt (Nat.lt_succ_of_lt hlt)
 have I2:=I1.pin1 (a:=a) (o:=seqObj "list" #[] e1) (Heap.get?_push_of_some _ (Heap.get?_push_of_some _ ho1)) Ha ha.2.1 ha.2.2.2.2 (λv e=>nomatch e)
 have I3:=I2.pin1 (a:=((s.heap.update a (Obj.mapSeq λ_=>(#[]:Array Value))).push (seqObj "tuple" its.toArray 0)).objs.size) (o:=seqObj "list" #[] 0) (Heap.get?_push_size _ rfl) Hk hk.2.1 hk.2.2.2.2 (λv e=>nomatch e)
 exact a9y I3 ha hk hka rx hl hko h64 j0 turn h
theorem a6J {l f:Addr}{J:Nat->Hp->Prop}{Q:Value->Shared->Prop}(I:Inv X pins σ H s)(hl':s.heap.IsList l its.toArray)
  (rx:k9 xs its) (hl:ks.length=xs.length) (hko:a18 ks) (h64:its.length<64) (j0:J 0 H)
  (turn:∀(i:Nat) (v:V) (u:Value) (pn:List (Addr×Obj)) (H':Hp) (s':Shared),xs[i]? = some v->v4 v u->J i H'->Inv X (pn++pins) σ H' s' ->
   wpAny (model X.prog X.w) X.A.in1.in1 (call (.ref f) [u]) (EP X (pn++pins) σ λk H2=>ks[i]? = some k∧J (i+1) H2) (λ_ _=>False) s')
  (h:∀a s' H' ys,J xs.length H'->H' a=none->a15 ks xs ys->Inv X pins σ (upd H' a (.lst ys)) s'->Q (.ref a) s') :
  wpAny (model X.prog X.w) X.A (call (.builtin "sorted") [.ref l] [(Str.ofString "key",.ref f)]) Q E s:=by
 refine call_function_entry_kw kind_sorted plain_sorted entry_sorted (ksk_s1 _ _) ?_
 unfold Builtin.«sorted»
 refine wpAny_bind (m:=checkCount "sorted" 1 1 _) (wpAny_pure ?_)
 refine wpAny_bind (collect_list hl' ?_ (by rw[sizeLine_eq];omega))
 refine wpAny_bind (wpAny_newList ?_ (by rw[sizeLine_eq];omega))
 have hsz:((s.heap.push (seqObj "list" #[] 0)).update s.heap.objs.size (Obj.mapSeq (· ++ its.toArray))).objs.size=s.heap.objs.size+1:=by
  rw[Heap.size_update,size_push']
 have hoL:(((s.heap.push (seqObj "list" #[] 0)).update s.heap.objs.size (Obj.mapSeq (· ++ its.toArray))).push (seqObj "list" its.toArray 0)).get? (s.heap.objs.size+1)=some (seqObj "list" its.toArray 0):=by
  rw[←hsz];exact Heap.get?_push_size _ rfl
 have keep:∀b o,s.heap.get? b=some o->(((s.heap.push (seqObj "list" #[] 0)).update s.heap.objs.size (Obj.mapSeq (· ++ its.toArray))).push (seqObj "list" its.toArray 0)).get? b=some o:=λb o q=>by
  have hlt:b<s.heap.objs.size:=Heap.lt_size q
  rw[Heap.get?_push_ne _ _ _ (by rw[hsz];exact Nat.ne_of_lt (Nat.lt_succ_of_lt hlt)),Heap.get?_update_ne _ _ _ _ (Nat.ne_of_lt hlt),Heap.get?_push_ne _ _ _ (Nat.ne_of_lt hlt)]
  exact q
 show wpAny _ _ _ _ _ { s with heap:=((s.heap.push (seqObj "list" #[] 0)).update s.heap.objs.size (Obj.mapSeq (· ++ its.toArray))).push (seqObj "list" its.toArray 0) }
 rw[hsz]
 refine wpAny_bind (wpAny_holding (wpAny_call_entry_kw slot_list_sort ⟨_,hoL,rfl⟩ entry_list_sort ?body (ksk_l1 _ _)))
 case body =>
  have ht':=ksk_t1 f (s.heap.objs.size+1)
  show wpAny (model X.prog X.w) X.A.in1.in1 (Builtin.«list.sort» ⟨[.ref (s.heap.objs.size+1)],[(Str.ofString "key",.ref f)]⟩) _ _ _
  rw[ht']
  have I1:Inv X pins σ H { s with heap:=((s.heap.push (seqObj "list" #[] 0)).update s.heap.objs.size (Obj.mapSeq (· ++ its.toArray))).push (seqObj "list" its.toArray 0),toks:=s.toks }:=I.kept keep
  refine a9M I1 hoL (I.new (Nat.le_succ _)) (I.hok.fresh (Nat.le_succ _)) rx hl hko h64 j0 turn λs' H' ys hJ Ha o I'=>⟨_,rfl,?_⟩
  exact wpAny_pure ⟨_,rfl,h _ s' H' ys hJ Ha o I'⟩
end
end L2
namespace L2
open PySem PySem.Spec PyProof.Rows PySem.W
noncomputable def tSK (K:Frag)(P:Addr)(q:Str)(cap:List Nat)(ta:TA)(te:TE):TE:=λσ H Q=>ta σ H λvs H1=>∃l xs,vs=[.ref l]∧SqL K H1 l xs∧xs.length<64∧a2J H1 P q ∧
 ∀H2,b1G P q H1 H2->a2J H2 P q->∀c,H2 c=some (cdO c q)->∃(J:Nat->Hp->Prop) (ks:List V),ks.length=xs.length∧a18 ks∧SqL K H2 l xs∧J 0 H2∧(∀i H',J i H'->H' c=some (cdO c q)) ∧
  (∀i v H',xs[i]? = some v->J i H'->te (Y7 v cap σ) H' λk H3=>ks[i]? = some k∧J (i+1) H3) ∧
  ∀a H' ys,J xs.length H'->H' a=none->a15 ks xs ys->Q (.ref a) (upd H' a (.lst ys))
theorem b0w {M:Model}{A:Around}{E:Value->Shared->Prop}{s:Shared}{env:Env}{x:Str}{p pos:Pos}{args:List Expr}{kws:List Keyword}{Q:Value->Shared->Prop}
  (h:wpAny M A (eval (.Name x p) env) (λf s₁=>wpAny M A (callWith pos f [] (backTo pos (starEach args env)) (backToKw pos (keywordEach kws env))) Q E s₁) E s):wpAny M A (eval (.Call (.Name x p) args kws pos) env) Q E s:=by
 rw[show eval (.Call (.Name x p) args kws pos) env=(do callWith pos (←eval (.Name x p) env) [] (backTo pos (starEach args env)) (backToKw pos (keywordEach kws env))) from rfl]
 exact wpAny_bind h
theorem b39 {X:Cx}{e:Expr}{params:Arguments}{body:Expr}{scope osc:Scope}{p pos lpos kp:Pos}{c P:Addr}{q x:Str}{N:List Str}{cap:List Nat}{ta:TA}{te:TE}{k:Nat}
  (hg:Gl X "sorted") (hm:X.mg "sorted" = none) (hr:Room k X.A) (hc:X.calm=true) (ha:PA X [e] ta) (hdef:defaultsOf params X.env=([],[])) (hosc:X.env.scope=osc) (L:LamOk X.N osc x N cap scope)
  (hcode:X.env.code = .ref c) (C:CodeHd X.base c P) (BM:BMd X.base X.mg) (hq:X.env.qual ++ "<lambda>" = q)
  (hbind:∀(cl:List (Str×Addr)) (pm:Value) (c':Addr) (ctv u:Value),bindArgs (kla_fn "<lambda>" q params body scope cl pm (.ref c') ctv) ⟨[u],[]⟩=pure [(x,u)])
  (he:∀cl f c' Y s H,PE (cxL X N q scope cl f c' Y s H) body te) (hs:starEach [e] X.env=[(false,eval e X.env)]:=by rfl) :
  PE X (.Call (.Name "sorted" p) [e] [⟨some "key",.Lambda params body scope lpos,kp⟩] pos) (tSK X.K P q cap ta te):=by
 intro pins s σ H Q I h
 have hcell:∀y∈scope.names,y.2 = .free->∃c,X.env.cells.lookup y.1=some c:=λy hy hk=>I.ok.has y.1 (by
  show X.env.scope.names.lookup y.1=_∨X.env.scope.names.lookup y.1=_
  rw[hosc];exact L.free y hy hk)
 let f:Str->Addr:=λx=>(X.env.cells.lookup x).getD 0
 have hf:∀y∈scope.names,y.2 = .free->X.env.cells.lookup y.1=some (f y.1):=λy hy hk=>by
  obtain⟨c,e⟩:=hcell y hy hk
  show _=some ((X.env.cells.lookup y.1).getD 0)
  rw[e];rfl
 have hclos:closureFor scope X.env=pure (z9 f scope.names []):=B9 λy hy hk=>by
  unfold cellOf
  rw[hf y hy hk]
 have hcl:∀{x:Str} {c:Addr},(z9 f scope.names []).lookup x=some c->X.env.cells.lookup x=some c:=λ{x c} e=>by
  rcases E8 _ _ e with ⟨h1,h2⟩ | h1
  ·rw[h2];exact hf (x,.free) h1 rfl
  ·simp at h1
 have hhas:∀x,(x,NameKind.free)∈scope.names->∃c,(z9 f scope.names []).lookup x=some c:=λx hx=>⟨_,P6 _ _ (.inl hx)⟩
 generalize z9 f scope.names []=cl at hclos hcl hhas
 refine b0w (Y3 I hg hm (by decide +kernel:bootBuiltins "sorted" = some (.builtin "sorted")) (callWith_kw (kws:=[⟨some "key",.Lambda params body scope lpos,kp⟩]) (thn (ha pos pins s σ H _ I h) λus s1 ⟨vs,H1,I1,r1,q1⟩=>?_) (by rw[hs];rfl) (by rw[hs];rfl)))
 obtain⟨l,xs,e0,hq0,h64,hT,q2⟩:=q1
 subst e0
 obtain⟨u,rfl,ru⟩:=U0 r1
 cases ru
 refine kws_cons (a7O I1 hdef hclos hcode C BM hT hq λf c' ctv H2 s2 gr hT2 hc2 I2=>kws_nil ?_)
 obtain⟨J,ks,hlk,hko,hq2,j0,jc,turn,fin⟩:=q2 H2 gr hT2 c' hc2
 obtain⟨its,rv,pl,hz⟩:=I2.list hq2
 have xl:xs.length=its.length:=rv.length
 show wpAny (model X.prog X.w) X.A (call (.builtin "sorted") [.ref l] [(Str.ofString "key",.ref f)]) _ X.xe s2
 refine a6J I2 pl.isList rv hlk hko (by omega) j0 (λi v u pn H' s' hx r hJ I'=>?_) λa s' H' ys hJ Ha o I'=>?_
 ·exact a90 I' I.ok.frames (I.ok.hd hc) (by have:=hr.dp;show X.A.depth<_;omega) (List.mem_append_right _ (List.mem_append_right _ (.head _))) (jc i H' hJ) hosc L hcl hhas (hbind _ _ _ _ _) (λs H=>he _ _ _ _ s H) r (turn i v H' hx hJ)
 ·exact⟨.ref a,_,I'.pins_of (λp hp=>I'.pin p (List.mem_append_right _ (.tail _ hp))),rfl,fin a H' ys hJ Ha o⟩
end L2
namespace L2
open PySem PySem.Spec PyProof.Rows PySem.W
section
variable {prog:Program}{w:World}{A:Around}{E:Value->Shared->Prop}{s:Shared}
theorem a37 {a:Addr}{vs:List Value}{n:Nat}{kd:SortKind}{κ:Nat->Int}{P:PySem.Fin->Shared->Prop}(ho:s.heap.get? a=some (seqObj "list" vs.toArray n))(h64:vs.length<64)
  (hkind:2≤vs.length->∀(h':Heap) (Q:SortKind->Shared->Prop),(∀b o,b≠a->s.heap.get? b=some o->h'.get? b=some o)->Q kd { s with heap:=h' }->wpAny (model prog w) A (keyKind' vs.toArray) Q E { s with heap:=h' })
  (hlt:∀h':Heap,(∀b o,b≠a->s.heap.get? b=some o->h'.get? b=some o)->a1V prog w A { s with heap:=h' } kd (pairsOf vs) κ)
  (h:∀(out:Array Value) (p:Nat->Nat),out.size=vs.length->(∀i,i<vs.length->out.toList[i]? = vs[p i]?)->SoS κ p vs.length->P (.done (.ret .none)) { s with heap:=sortedHeap s.heap a vs out }) :
  wpAny (model prog w) A (Builtin.«list.sort» ⟨[.ref a],[]⟩) P E s:=by
 rw[list_sort_plain]
 have ha:a<s.heap.objs.size:=Heap.lt_size ho
 refine wpAny_bind (listItems_at ho rfl ?_)
 refine wpAny_bind (listUpdate_at ho rfl ?_ (by rw[List.size_toArray,sizeLine_eq];omega) (Nat.zero_le _))
 obtain⟨e1,ho1⟩:∃e1,(s.heap.update a (Obj.mapSeq λ_=>#[])).get? a=some (seqObj "list" #[] e1):=⟨_,get?_update_seq ho (λ_=>#[])⟩
 refine wpAny_bind (seqEpoch_at ho1 rfl ?_)
 refine wpAny_bind (wpAny_newTuple ?_ (by show vs.length≤_;rw[sizeLine_eq];omega))
 refine wpAny_bind (wpAny_newList ?_ (Nat.zero_le _))
 refine wpAny_holding ?_
 have ho6:(((s.heap.update a (Obj.mapSeq λ_=>#[])).push (seqObj "tuple" vs.toArray 0)).push (seqObj "list" #[] 0)).get? a=some (seqObj "list" #[] e1):=by
  rw[Heap.get?_push_ne _ _ _ (by rw[size_push',Heap.size_update];exact Nat.ne_of_lt (Nat.lt_succ_of_lt ha)),Heap.get?_push_ne _ _ _ (by rw[Heap.size_update];exact Nat.ne_of_lt ha)]
  exact ho1
 have s1:=Heap.SameBut.update s.heap a (Obj.mapSeq λ_=>(#[]:Array Value))
 have kept:∀b o,b≠a->s.heap.get? b=some o->(((s.heap.update a (Obj.mapSeq λ_=>#[])).push (seqObj "tuple" vs.toArray 0)).push (seqObj "list" #[] 0)).get? b=some o:=λb o hb e=>Heap.get?_push_of_some _ (Heap.get?_push_of_some _ ((s1.2 b hb).trans e))
 show wpAny (model prog w) A _ P E { s with heap:=((s.heap.update a (Obj.mapSeq λ_=>#[])).push (seqObj "tuple" vs.toArray 0)).push (seqObj "list" #[] 0) }
 dsimp only
 have hsz:vs.toArray.size=vs.length:=by simp
 have fin:∀(st':SortSt) (p:Nat->Nat),(arrOf st').size=vs.length->(∀i,i<vs.length->(arrOf st')[i]? = (pairsOf vs)[p i]?)->SoS κ p vs.length->P (.done (.ret .none)) { s with heap:=sortedHeap s.heap a vs ((arrOf st').map (·.2)) }:=by
  intro st' p hz hp hS
  refine h _ p (by rw[Array.size_map];exact hz) (λi hi=>?_) hS
  rw[Array.getElem?_toList,Array.getElem?_map,hp i hi,←Array.getElem?_toList,pairsOf_toList]
  have hpi:=hS.2.2 i hi
  have e1:vs[p i]? = some vs[p i]:=List.getElem?_eq_getElem hpi
  rw[show(vs.zip vs)[p i]? = some (vs[p i],vs[p i]) from List.getElem?_zip_eq_some.mpr ⟨e1,e1⟩,e1]
  rfl
 by_cases h2:vs.toArray.size<2
 ·rw[if_pos h2,if_pos h2]
  refine wpAny_bind (wpAny_pure ?_)
  rw[StateT.run_pure]
  refine wpAny_bind (wpAny_pure ?_)
  dsimp only
  refine wpAny_bind (seqEpoch_at ho6 rfl ?_)
  refine wpAny_bind (listUpdate_at ho6 rfl ?_ (hsz2:=by rw[Array.size_map];show(pairsOf vs).size≤_;rw[pairsOf_size,sizeLine_eq];omega))
  simp only[bne_self_eq_false,Bool.false_eq_true,if_false]
  rw[hsz]at h2
  exact wpAny_pure (fin (SortSt.mk' general' (vs.toArray.zip vs.toArray) #[] 7 none) id (pairsOf_size vs) (λi _=>rfl) ⟨λi j h1 h3=>by omega,λi _=>rfl,λi hi=>hi⟩)
 ·rw[if_neg h2,if_neg h2]
  rw[hsz]at h2
  refine wpAny_bind (hkind (by omega) _ _ kept ?_)
  refine wpAny_bind (wpAny_mono (a5K (a0:=pairsOf vs) (κ:=κ) (kd:=kd) (st:=SortSt.mk' kd (vs.toArray.zip vs.toArray) #[] 7 none)
   (Q:=λ_ st'=>failedOf st'=none∧(arrOf st').size=(pairsOf vs).size∧∃p,(∀i,i<(pairsOf vs).size->(arrOf st')[i]? = (pairsOf vs)[p i]?)∧SoS κ p (pairsOf vs).size)
   (hlt _ kept) ⟨⟨rfl,rfl,rfl,rfl⟩,λi j _ _ e=>e,λi _=>rfl,λi hi=>hi⟩ (by rw[pairsOf_size];omega) (by rw[pairsOf_size];exact h64) λst' a1 a2 a3=>⟨a1,a2,a3⟩) ?_ λ_ _ e=>e)
  rintro ⟨⟨⟩,st'⟩ s' ⟨rfl,hf,hz,p,hp,hS⟩
  rw[pairsOf_size]at hz hp hS
  dsimp only
  refine wpAny_bind (seqEpoch_at ho6 rfl ?_)
  refine wpAny_bind (listUpdate_at ho6 rfl ?_ (hsz2:=by rw[Array.size_map,hz,sizeLine_eq];omega))
  rw[hf]
  simp only[bne_self_eq_false,Bool.false_eq_true,if_false]
  exact wpAny_pure (fin st' p hz hp hS)
theorem a7d {l:Addr}{vs:List Value}{kd:SortKind}{κ:Nat->Int}{Q:Value->Shared->Prop}(hl:s.heap.IsList l vs.toArray)(h64:vs.length<64)
  (hkind:2≤vs.length->∀(h':Heap) (Q:SortKind->Shared->Prop),(∀b o,s.heap.get? b=some o->h'.get? b=some o)->Q kd { s with heap:=h' }->wpAny (model prog w) A.in1.in1 (keyKind' vs.toArray) Q E { s with heap:=h' })
  (hlt:∀h':Heap,(∀b o,s.heap.get? b=some o->h'.get? b=some o)->a1V prog w A.in1.in1 { s with heap:=h' } kd (pairsOf vs) κ)
  (h:∀(out:Array Value) (p:Nat->Nat),out.size=vs.length->(∀i,i<vs.length->out.toList[i]? = vs[p i]?)->SoS κ p vs.length->Q (.ref (s.heap.objs.size+1)) { s with heap:=sortedAll s.heap vs out }) :
  wpAny (model prog w) A (call (.builtin "sorted") [.ref l]) Q E s:=by
 refine Calls.call_function_entry kind_sorted plain_sorted entry_sorted (args_sorted1 _) ?_
 unfold Builtin.«sorted»
 refine wpAny_bind (m:=checkCount "sorted" 1 1 _) (wpAny_pure ?_)
 refine wpAny_bind (collect_list hl ?_ (by rw[sizeLine_eq];omega))
 refine wpAny_bind (wpAny_newList ?_ (by rw[sizeLine_eq];omega))
 have hsz:((s.heap.push (seqObj "list" #[] 0)).update s.heap.objs.size (Obj.mapSeq (· ++ vs.toArray))).objs.size=s.heap.objs.size+1:=by
  rw[Heap.size_update,size_push']
 have hoL:(((s.heap.push (seqObj "list" #[] 0)).update s.heap.objs.size (Obj.mapSeq (· ++ vs.toArray))).push (seqObj "list" vs.toArray 0)).get? (s.heap.objs.size+1)=some (seqObj "list" vs.toArray 0):=by
  rw[←hsz];exact Heap.get?_push_size _ rfl
 have keep:∀b o,s.heap.get? b=some o->(((s.heap.push (seqObj "list" #[] 0)).update s.heap.objs.size (Obj.mapSeq (· ++ vs.toArray))).push (seqObj "list" vs.toArray 0)).get? b=some o∧b≠s.heap.objs.size+1:=λb o q=>by
  have hlt:b<s.heap.objs.size:=Heap.lt_size q
  refine⟨?_,Nat.ne_of_lt (Nat.lt_succ_of_lt hlt)⟩
  rw[Heap.get?_push_ne _ _ _ (by rw[hsz];exact Nat.ne_of_lt (Nat.lt_succ_of_lt hlt)),Heap.get?_update_ne _ _ _ _ (Nat.ne_of_lt hlt),Heap.get?_push_ne _ _ _ (Nat.ne_of_lt hlt)]
  exact q
 show wpAny _ _ _ _ _ { s with heap:=((s.heap.push (seqObj "list" #[] 0)).update s.heap.objs.size (Obj.mapSeq (· ++ vs.toArray))).push (seqObj "list" vs.toArray 0) }
 rw[hsz]
 refine wpAny_bind (wpAny_holding (wpAny_call_entry slot_list_sort ⟨_,hoL,rfl⟩ entry_list_sort (a37 (s:={ s with heap:=((s.heap.push (seqObj "list" #[] 0)).update s.heap.objs.size (Obj.mapSeq (· ++ vs.toArray))).push (seqObj "list" vs.toArray 0) }) hoL h64
  (λh2 h' Q hk hq=>hkind h2 h' Q (λb o e=>hk b o (keep b o e).2 (keep b o e).1) hq) (λh' hk=>hlt h' λb o e=>hk b o (keep b o e).2 (keep b o e).1) λout p a1 a2 a3=>⟨_,rfl,?_⟩) (args_list_sort _)))
 exact wpAny_pure ⟨_,rfl,h out p a1 a2 a3⟩
end
noncomputable def a4n (K:Frag)(H:Hp):List Int->List V->Prop
 | [],xs=>xs=[]
 | n::ns,xs=>∃t r ys,xs = .ref t::ys∧SqT K H t (.int n::r)∧a4n K H ns ys
theorem a4n.len {K:Frag}{H:Hp}:∀{ns:List Int} {xs:List V},a4n K H ns xs->xs.length=ns.length
 | [],_,h=>by cases h;rfl
 | n::ns,_,⟨t,r,ys,rfl,_,h⟩=>by simp[a4n.len h]
theorem a4n.get {K:Frag}{H:Hp}:∀{ns:List Int} {xs:List V} {i:Nat} {n:Int},a4n K H ns xs->ns[i]? = some n->∃t r,xs[i]? = some (.ref t)∧SqT K H t (.int n::r)
 | [],_,_,_,_,e=>by simp at e
 | m::ns,_,0,n,⟨t,r,ys,rfl,h1,h⟩,e=>by
  simp at e;subst e;exact⟨t,r,rfl,h1⟩
 | m::ns,_,i+1,n,⟨t,r,ys,rfl,h1,h⟩,e=>by
  obtain⟨t',r',a,b⟩:=h.get (i:=i) (by simpa using e)
  exact⟨t',r',by simpa using a,b⟩
section
variable {X:Cx}{K:PySem.W.Frag}
noncomputable def b2e (K:Frag):List V->Hp->VK->Prop:=λxs H Q=>∃(a:Addr) (zs:List V) (ns:List Int),xs=[.ref a]∧SqL K H a zs∧a4n K H ns zs∧ns.Nodup∧ns.length<64 ∧
 ∀(p:Addr) (ys:List V),H p=none->a15 (ns.map V.int) zs ys->Q (.ref p) (upd H p (.lst ys))
theorem a5c (hK:X.K=K):C2 X (.builtin "sorted") (b2e K):=by
 subst hK
 intro pins s σ H xs us Q I r h
 obtain⟨a,zs,ns,rfl,hq,hT,hnd,h64,q⟩:=h
 obtain⟨u,rfl,ru⟩:=U0 r
 cases ru
 obtain⟨its,rv,p,hz⟩:=I.list hq
 have hl1:=hT.len
 have hl2:its.length=zs.length:=rv.length.symm
 -- each item: a tuple in the heap with its int in front
 have item:∀(i:Nat) (n:Int),ns[i]? = some n->∃(t:Addr) (o:Obj) (ys:Array Value) (k:Nat) (tk:Tok),its[i]? = some (.ref t)∧s.heap.get? t=some o∧o.cls = .type "tuple" ∧ o.data = .seq ys k∧ys[0]? = some (.int n tk):=λi n e=>by
  obtain⟨t,r,e1,e2⟩:=hT.get e
  obtain⟨u,e3,e4⟩:=rv.get e1
  cases e4
  obtain⟨ys,ry,⟨o,ho,hc,k,hd⟩,_⟩:=I.tuple e2
  cases ry with
  | cons r1 r2 =>
   obtain⟨tk,rfl⟩:=r1
   exact⟨t,o,_,k,tk,e3,ho,hc,hd,by simp⟩
 have tups:∀(h':Heap),(∀b o,s.heap.get? b=some o->h'.get? b=some o)->∀(ms:List Int) (vs:List Value),ms.length=vs.length->(∀(i:Nat) (n:Int),ms[i]? = some n->∃(t:Addr) (o:Obj) (ys:Array Value) (k:Nat) (tk:Tok),vs[i]? = some (.ref t)∧s.heap.get? t=some o∧o.cls = .type "tuple" ∧ o.data = .seq ys k∧ys[0]? = some (.int n tk)) ->
   ∃fs:List Value,KatTups h' vs fs∧fs.length=vs.length∧∀v∈fs,∃n t,v=Value.int n t:=by
  intro h' hk ms
  induction ms with
  | nil =>
   intro vs hl _
   rw[List.length_eq_zero_iff.mp hl.symm]
   exact⟨[],KatTups.nil,rfl,λv hv=>by simp at hv⟩
  | cons m ms ih =>
   intro vs hl hi
   cases vs with
   | nil=>simp at hl
   | cons v vs =>
    obtain⟨t,o,ys,k,tk,e1,e2,e3,e4,e5⟩:=hi 0 m rfl
    have e1:some v=some (Value.ref t):=e1
    cases e1
    obtain⟨fs,f1,f2,f3⟩:=ih vs (by simpa using hl) λi n e=>by
     obtain⟨t,o,ys,k,tk,g1,g⟩:=hi (i+1) n (by simpa using e)
     exact⟨t,o,ys,k,tk,by simpa using g1,g⟩
    refine⟨.int m tk::fs,KatTups.cons (hk _ _ e2) e3 e4 e5 f1,by simp[f2],λv hv=>?_⟩
    rcases List.mem_cons.mp hv with rfl | hv
    ·exact⟨m,tk,rfl⟩
    ·exact f3 v hv
 refine a7d (kd:=tuples' true) (κ:=O4 (ns.map V.int)) p.isList (by omega) (λh2 h' Q' hk hQ=>?_) (λh' hk=>?_) λout p' a1 a2 a3=>?_
 ·obtain⟨fs,f1,f2,f3⟩:=tups h' hk ns its (by omega) item
  refine kat_kind (T:=.type "int") (s:={ s with heap:=h' }) f1 (by omega) (λv hv=>?_) rfl hQ
  obtain⟨n,t,rfl⟩:=f3 v hv
  exact .now
 ·intro i j x y hij ex ey E Q' hQ
  rw[←Array.getElem?_toList,pairsOf_toList,List.getElem?_zip_eq_some]at ex ey
  have hi:i<ns.length:=by have:=(List.getElem?_eq_some_iff.mp ex.1).1;omega
  have hj:j<ns.length:=by have:=(List.getElem?_eq_some_iff.mp ey.1).1;omega
  obtain⟨t1,o1,ys1,k1,tk1,b1,b2,b3,b4,b5⟩:=item i ns[i] (List.getElem?_eq_getElem hi)
  obtain⟨t2,o2,ys2,k2,tk2,c1,c2,c3,c4,c5⟩:=item j ns[j] (List.getElem?_eq_getElem hj)
  rw[b1]at ex
  rw[c1]at ey
  rw[←Option.some.inj ex.1,←Option.some.inj ey.1]
  have n1:O4 (ns.map V.int) i=ns[i]:=by
   unfold O4;rw[List.getD_eq_getElem?_getD,List.getElem?_map,List.getElem?_eq_getElem hi];rfl
  have n2:O4 (ns.map V.int) j=ns[j]:=by
   unfold O4;rw[List.getD_eq_getElem?_getD,List.getElem?_map,List.getElem?_eq_getElem hj];rfl
  rw[n1,n2]at hQ
  have hne:ns[i]≠ns[j]:=λe=>hij ((List.getElem_inj hnd).mp e)
  refine kat_lt (s:={ s with heap:=h' }) (hk _ _ b2) b4 (hk _ _ c2) c4 ?_
  obtain⟨r1,er1⟩:∃r1,ys1.toList = .int ns[i] tk1::r1:=by
   cases e:ys1.toList with
   | nil=>rw[←Array.getElem?_toList,e]at b5;simp at b5
   | cons z r=>rw[←Array.getElem?_toList,e]at b5;simp at b5;exact⟨r,by rw[b5]⟩
  obtain⟨r2,er2⟩:∃r2,ys2.toList = .int ns[j] tk2::r2:=by
   cases e:ys2.toList with
   | nil=>rw[←Array.getElem?_toList,e]at c5;simp at c5
   | cons z r=>rw[←Array.getElem?_toList,e]at c5;simp at c5;exact⟨r,by rw[c5]⟩
  rw[er1,er2,List.zip_cons_cons]
  refine kat_cons (wpAny_eqBool_int ?_)
  have hb:(ns[i] == ns[j])=false:=by simpa using hne
  rw[hb]
  refine kat_no ?_
  exact oneLt_int hQ
 ·have hlen:zs.length=its.length:=hl2.symm
  obtain⟨e,he⟩:=sortedAll_at s.heap its out
  have ysl:((List.range its.length).map λi=>zs.getD (p' i) .non).length=its.length:=by rw[List.length_map,List.length_range]
  have ysg:∀i,i<its.length->((List.range its.length).map λi=>zs.getD (p' i) .non)[i]? = zs[p' i]?:=λi hi=>by
   rw[List.getElem?_map,List.getElem?_range hi]
   have hpi:=a3.2.2 i hi
   show some (zs.getD (p' i) .non)=_
   rw[List.getD_eq_getElem?_getD,List.getElem?_eq_getElem (by omega)]
   rfl
  have I1:Inv X pins σ (upd H (s.heap.objs.size+1) (.lst ((List.range its.length).map λi=>zs.getD (p' i) .non))) { s with heap:=sortedAll s.heap its out,toks:=s.toks } :=
   I.laid (a:=s.heap.objs.size+1) (λb o ho=>sortedAll_old ho) (Nat.le_succ _) ⟨by rw[ysl,sizeLine_eq];omega,out.toList,e,N2 (by rw[ysl,atl out,a1]) (λi x u hx hu=>by
    have hi:i<its.length:=by
     have:=(List.getElem?_eq_some_iff.mp hx).1
     rwa [ysl]at this
    rw[ysg i hi]at hx
    rw[a2 i hi]at hu
    obtain⟨u',g1,g2⟩:=rv.get hx
    rw[g1]at hu
    rw[←Option.some.inj hu]
    exact g2),by rw[he]⟩
  exact⟨.ref (s.heap.objs.size+1),_,I1,rfl,q _ _ (I.hok.fresh (Nat.le_succ _)) ⟨by rw[ysl,hlen],p',by rw[hlen];exact a3,λi hi=>ysg i (by omega)⟩⟩
end
end L2
namespace L2
noncomputable def R5 {α:Type}(p:Int × α):List (Int × α)->List (Int × α)
 | []=>[p]
 | q::r=>if p.1≤q.1 then p::q::r else q::R5 p r
noncomputable def u9 {α:Type}:List (Int × α)->List (Int × α)
 | []=>[]
 | p::r=>R5 p (u9 r)
theorem a3Y {α β:Type}(f:α->β)(p:Int × α):∀l:List (Int × α),R5 (p.1,f p.2) (l.map λq=>(q.1,f q.2))=(R5 p l).map λq=>(q.1,f q.2)
 | []=>rfl
 | q::r=>by
  simp only[List.map_cons,R5]
  split
  ·rfl
  ·rw[List.map_cons,a3Y f p r]
theorem a00 {α β:Type}(f:α->β):∀l:List (Int × α),u9 (l.map λq=>(q.1,f q.2))=(u9 l).map λq=>(q.1,f q.2)
 | []=>rfl
 | p::r=>by
  rw[List.map_cons,u9,u9,a00 f r]
  exact a3Y f p _
theorem O7 {α:Type}(p:Int × α):∀l:List (Int × α),(R5 p l).Perm (p::l)
 | []=>.refl _
 | q::r=>by
  rw[R5]
  split
  ·exact .refl _
  ·exact((O7 p r).cons q).trans (.swap p q r)
theorem x6 {α:Type}:∀l:List (Int × α),(u9 l).Perm l
 | []=>.refl _
 | p::r=>(O7 p _).trans ((x6 r).cons p)
noncomputable def LxP (a b:Int×Nat):Prop:=a.1<b.1∨(a.1=b.1∧a.2<b.2)
theorem a6v {p:Int×Nat}:∀{l:List (Int×Nat)},l.Pairwise LxP->(∀q∈l,p.2<q.2)->(R5 p l).Pairwise LxP
 | [],_,_=>by simp[R5]
 | q::r,h,hl=>by
  rw[List.pairwise_cons]at h
  rw[R5]
  split
  ·rename_i hle
   refine List.pairwise_cons.mpr ⟨λz hz=>?_,List.pairwise_cons.mpr h⟩
   have h1:LxP p q:=by
    rcases Int.lt_or_eq_of_le hle with e | e
    ·exact .inl e
    ·exact .inr ⟨e,hl q List.mem_cons_self⟩
   rcases List.mem_cons.mp hz with rfl | hz
   ·exact h1
   ·have h2:=h.1 z hz
    unfold LxP at h1 h2 ⊢
    omega
  ·rename_i hgt
   refine List.pairwise_cons.mpr ⟨λz hz=>?_,a6v h.2 λz hz=>hl z (List.mem_cons_of_mem _ hz)⟩
   rcases List.mem_cons.mp ((O7 p r).mem_iff.mp hz) with rfl | hz
   ·exact .inl (by omega)
   ·exact h.1 z hz
theorem a2v:∀{l:List (Int×Nat)},l.Pairwise (λa b=>a.2<b.2)->(u9 l).Pairwise LxP
 | [],_=>.nil
 | p::r,h=>by
  rw[List.pairwise_cons]at h
  exact a6v (a2v h.2) λq hq=>h.1 q ((x6 r).mem_iff.mp hq)
theorem a2L:∀{l₁ l₂:List (Int×Nat)},l₁.Perm l₂->l₁.Pairwise LxP->l₂.Pairwise LxP->l₁=l₂
 | [],l₂,p,_,_=>p.nil_eq
 | a::r,[],p,_,_=>by have:=p.length_eq;simp at this
 | a::r,b::t,p,h1,h2=>by
  rw[List.pairwise_cons]at h1 h2
  have ab:a=b:=by
   rcases List.mem_cons.mp (p.mem_iff.mp (List.mem_cons_self (a:=a) (l:=r))) with e | e
   ·exact e
   ·rcases List.mem_cons.mp (p.mem_iff.mpr (List.mem_cons_self (a:=b) (l:=t))) with e2 | e2
    ·exact e2.symm
    ·have q1:=h2.1 a e
     have q2:=h1.1 b e2
     unfold LxP at q1 q2
     omega
  subst ab
  rw[a2L (p.cons_inv) h1.2 h2.2]
theorem a1Y:∀(n:Nat) (l:List Nat),l.Nodup->(∀x∈l,x<n)->l.length=n->l.Perm (List.range n)
 | 0,l,_,_,hl=>by rw[List.length_eq_zero_iff.mp hl];exact .refl _
 | n+1,l,hd,hb,hl=>by
  have short:∀(m:Nat) (l:List Nat),l.Nodup->(∀x∈l,x<m)->l.length≤m:=by
   intro m
   induction m with
   | zero =>
    intro l _ hb
    cases l with
    | nil=>simp
    | cons a r=>exact absurd (hb a List.mem_cons_self) (by omega)
   | succ m ih =>
    intro l hd hb
    by_cases hm:m∈l
    ·have e:=ih (l.erase m) (hd.erase m) λx hx=>by
      have h1:=hb x (List.mem_of_mem_erase hx)
      have h2:x≠m:=λz=>by subst z;exact(List.Nodup.not_mem_erase hd) hx
      omega
     rw[List.length_erase_of_mem hm]at e
     omega
    ·have e:=ih l hd λx hx=>by
      have h1:=hb x hx
      have h2:x≠m:=λz=>hm (z▸hx)
      omega
     omega
  have hn:n∈l:=by
   by_cases hm:n∈l
   ·exact hm
   ·have e:=short n l hd λx hx=>by
     have h1:=hb x hx
     have h2:x≠n:=λz=>hm (z▸hx)
     omega
    omega
  have ih:=a1Y n (l.erase n) (hd.erase n) (λx hx=>by
   have h1:=hb x (List.mem_of_mem_erase hx)
   have h2:x≠n:=λz=>by subst z;exact(List.Nodup.not_mem_erase hd) hx
   omega) (by rw[List.length_erase_of_mem hn];omega)
  refine(List.perm_cons_erase hn).trans ((ih.cons n).trans ?_)
  rw[List.range_succ]
  exact(List.perm_append_singleton n (List.range n)).symm
theorem a49 {ks xs ys:List V}(h:a15 ks xs ys)(hl:ks.length=xs.length):ys=(u9 ((ks.map a2r).zip xs)).map Prod.snd:=by
 obtain⟨hy,p,hS,hp⟩:=h
 generalize hn:xs.length=n at hy hS hp hl
 have nd:((List.range n).map p).Nodup:=by
  rw[List.nodup_iff_pairwise_ne,List.pairwise_iff_getElem]
  intro i j hi hj hij
  have hj':j<n:=by simpa using hj
  simp only[List.getElem_map,List.getElem_range]
  intro e
  have q:=hS.1 i j hij hj'
  rw[e]at q
  unfold Lx at q
  omega
 have pr:=a1Y n ((List.range n).map p) nd (λx hx=>by
  obtain⟨i,hi,rfl⟩:=List.mem_map.mp hx
  exact hS.2.2 i (List.mem_range.mp hi)) (by simp)
 have q1:(((List.range n).map p).map λi=>(O4 ks i,i)).Pairwise LxP:=by
  rw[List.pairwise_iff_getElem]
  intro i j hi hj hij
  have hj':j<n:=by simpa using hj
  simp only[List.getElem_map,List.getElem_range]
  exact hS.1 i j hij hj'
 have q2:(u9 ((List.range n).map λi=>(O4 ks i,i))).Pairwise LxP:=a2v (by
  rw[List.pairwise_iff_getElem]
  intro i j hi hj hij
  simpa using hij)
 have e:=a2L ((pr.map λi=>(O4 ks i,i)).trans (x6 _).symm) q1 q2
 have ez:(ks.map a2r).zip xs=((List.range n).map λi=>(O4 ks i,i)).map λq=>(q.1,xs.getD q.2 .non):=by
  refine List.ext_getElem? λi=>?_
  rw[List.map_map]
  by_cases hi:i<n
  ·have h1:(ks.map a2r)[i]? = some (O4 ks i):=by
    rw[List.getElem?_map]
    unfold O4
    rw[List.getD_eq_getElem?_getD,List.getElem?_eq_getElem (by omega)]
    rfl
   have h2:xs[i]? = some (xs.getD i .non):=by
    rw[List.getD_eq_getElem?_getD,List.getElem?_eq_getElem (by omega)]
    rfl
   rw[show((ks.map a2r).zip xs)[i]? = some (O4 ks i,xs.getD i .non) from List.getElem?_zip_eq_some.mpr ⟨h1,h2⟩,List.getElem?_map,List.getElem?_range hi]
   rfl
  ·rw[List.getElem?_eq_none (by rw[List.length_zip,List.length_map];omega),List.getElem?_eq_none (by simp;omega)]
 rw[ez,a00 (λi=>xs.getD i .non),←e,List.map_map,List.map_map,List.map_map]
 refine List.ext_getElem? λi=>?_
 by_cases hi:i<n
 ·rw[hp i hi,List.getElem?_map,List.getElem?_range hi]
  have hpi:=hS.2.2 i hi
  show xs[p i]? = some (xs.getD (p i) .non)
  rw[List.getD_eq_getElem?_getD,List.getElem?_eq_getElem (by omega)]
  rfl
 ·rw[List.getElem?_eq_none (by omega),List.getElem?_eq_none (by simp;omega)]
end L2
namespace L3
open PySem PySem.Spec PyProof.Rows L2
noncomputable abbrev St:=L2.St
noncomputable def hid (H:Hp)(B:List Addr):Hp:=λb=>if b∈B then none else H b
theorem l8 {H:Hp}{B:List Addr}{b:Addr}(h:b ∉ B):hid H B b=H b:=by unfold hid;rw[if_neg h]
theorem B3 {H:Hp}{B:List Addr}{b:Addr}(h:b∈B):hid H B b=none:=by unfold hid;rw[if_pos h]
theorem d6 {H:Hp}{B:List Addr}:i5 (hid H B) H:=λb o e=>by
 by_cases h:b∈B
 ·rw[B3 h]at e;cases e
 ·rwa [l8 h]at e
theorem N3 {H:Hp}{B B':List Addr}(s:∀b∈B',b∈B):i5 (hid H B) (hid H B'):=λb o e=>by
 by_cases h:b∈B
 ·rw[B3 h]at e;cases e
 ·rw[l8 h]at e;rw[l8 λz=>h (s b z)];exact e
noncomputable def Kp (fp:List Addr)(H H':Hp):Prop:=∀b o,H b=some o->b ∉ fp->H' b=some o
theorem Kp.refl {fp:List Addr}{H:Hp}:Kp fp H H:=λ_ _ e _=>e
theorem Kp.trans {fp:List Addr}{H H1 H2:Hp}(a:Kp fp H H1)(b:Kp fp H1 H2):Kp fp H H2:=λc o e n=>b c o (a c o e n) n
theorem Kp.same {fp:List Addr}{H H':Hp}(s:i5 H H'):Kp fp H H':=λb o e _=>s b o e
theorem Kp.upd {fp:List Addr}{H:Hp}{p:Addr}{o:HO}(hp:H p=none):Kp fp H (upd H p o):=Kp.same (i5.upd hp)
theorem Kp.hid {fp B:List Addr}{H H':Hp}(k:Kp fp H H')(s:∀b∈fp,b∈B):i5 (hid H B) (hid H' B):=λb o e=>by
 by_cases h:b∈B
 ·rw[B3 h]at e;cases e
 ·rw[l8 h]at e ⊢;exact k b o e λz=>h (s b z)
theorem W0 {H:Hp}{B:List Addr}{a:Addr}{o:HO}(h:a∈B):hid (upd H a o) B=hid H B:=by
 funext b
 by_cases hb:b∈B
 ·rw[B3 hb,B3 hb]
 ·rw[l8 hb,l8 hb,f7];intro e;subst e;exact hb h
noncomputable def D9 (K:PySem.W.Frag)(fp B:List Addr)(H:Hp):PyData->V->Prop
 | .tuple ds,v=>∃a xs,v = .ref a∧SqT K (hid H B) a xs∧a8 K (hid H B) ds xs
 | .list ds,v=>∃a xs,v = .ref a∧hid H fp a=some (.lst xs)∧a8 K (hid H B) ds xs
 | .none,v=>v = .non
 | .bool b,v=>v = .bl b
 | .int i,v=>v = .int i
 | .str x,v=>v = .str x
 | .dict _,_=>False
section
variable {K:PySem.W.Frag}{fp B:List Addr}{H H':Hp}{d:PyData}{v:V}
theorem b11 (h:b7 K (hid H B) d v)(s:∀b∈fp,b∈B):D9 K fp B H d v:=by
 cases d with
 | tuple ds =>
  simp only[b7]at h
  obtain⟨a,xs,e,hq,hd⟩:=h
  exact⟨a,xs,e,hq,hd⟩
 | list ds =>
  simp only[b7]at h
  obtain⟨a,xs,e,hq,hd⟩:=h
  exact⟨a,xs,e,N3 s _ _ hq,hd⟩
 | _=>simpa only[b7,D9] using h
theorem D9.dat (h:D9 K fp B H d v):b7 K H d v:=by
 cases d with
 | tuple ds =>
  obtain⟨a,xs,e,hq,hd⟩:=h
  simp only[b7]
  exact⟨a,xs,e,hq.same d6,hd.same d6⟩
 | list ds =>
  obtain⟨a,xs,e,hq,hd⟩:=h
  simp only[b7]
  exact⟨a,xs,e,d6 _ _ hq,hd.same d6⟩
 | _=>simpa only[b7,D9] using h
theorem D9.step (h:D9 K fp B H d v)(k:Kp fp H H')(s:∀b∈fp,b∈B):D9 K fp B H' d v:=by
 have sm:=k.hid s
 have sf:=k.hid (B:=fp) λ_ z=>z
 cases d with
 | tuple ds =>
  obtain⟨a,xs,e,hq,hd⟩:=h
  exact⟨a,xs,e,hq.same sm,hd.same sm⟩
 | list ds =>
  obtain⟨a,xs,e,hq,hd⟩:=h
  exact⟨a,xs,e,sf _ _ hq,hd.same sm⟩
 | _=>exact h
theorem D9.tup {ds:List PyData}(h:D9 K fp B H (.tuple ds) v):b7 K (hid H B) (.tuple ds) v:=by
 obtain⟨a,xs,e,hq,hd⟩:=h
 simp only[b7]
 exact⟨a,xs,e,hq,hd⟩
noncomputable def BOk (H:Hp)(B:List Addr):Prop:=∀b∈B,∃o,H b=some o
theorem BOk.nin (h:BOk H B){p:Addr}(hp:H p=none):p ∉ B:=λz=>by
 obtain⟨o,e⟩:=h p z;rw[hp]at e;cases e
theorem N5 {p:Addr}{ds:List PyData}{xs:List V}(bk:BOk H B)(hp:H p=none)(h:a8 K (hid H B) ds xs):b7 K (hid (upd H p (.tup xs)) B) (.tuple ds) (.ref p):=by
 have e:i5 (hid H B) (hid (upd H p (.tup xs)) B):=(Kp.upd (fp:=[]) hp).hid (by simp)
 refine b7.tup ?_ (h.same e)
 rw[l8 (bk.nin hp)];exact g8
theorem A5 {p:Addr}{ds:List PyData}{xs:List V}(bk:BOk H B)(hp:H p=none)(h:a8 K (hid H B) ds xs):b7 K (hid (upd H p (.lst xs)) B) (.list ds) (.ref p):=by
 have e:i5 (hid H B) (hid (upd H p (.lst xs)) B):=(Kp.upd (fp:=[]) hp).hid (by simp)
 refine b7.lst ?_ (h.same e)
 rw[l8 (bk.nin hp)];exact g8
end
noncomputable def NoT (o:HO):Prop:=(∀ps,o ≠ .tbl ps)∧∀φ,o ≠ .ext φ
class Feeds where
 S:Type
 At:Addr->Addr->Hp->S->Prop
 some1:∀{d c H F},At d c H F->∃o,H d=some o∧NoT o
 some2:∀{d c H F},At d c H F->∃o,H c=some o∧NoT o
 congr:∀{d c H H' F},At d c H F->H' d=H d->H' c=H c->At d c H' F
 lam:List Str
noncomputable abbrev GF:=Option (Addr×Addr)
noncomputable def tabsK (l:List Str)(K:PySem.W.Frag):List (Str×Addr×Addr):=l.filterMap λx=>(PySem.W.tabIn K x).map λp=>(x,p)
noncomputable def a3L (x:Str):Str:=x ++ ".<locals>." ++ "<lambda>"
noncomputable def L6 (ts:List (Str×Addr×Addr))(H:Hp):Prop:=∀t∈ts,a2J H t.2.2 (a3L t.1)
theorem L6.congr {ts:List (Str×Addr×Addr)}{H H':Hp}(h:L6 ts H)(e:∀b,(b∈ts.map (·.2.2)∨∃φ,H b=some (.ext φ))->H' b=H b):L6 ts H':=λt ht=>by
 obtain⟨ps,h1,h2,h3⟩:=h t ht
 refine⟨ps,(e _ (.inl (List.mem_map_of_mem ht))).trans h1,h2,λpos cv q=>?_⟩
 obtain⟨c,r1,r2⟩:=h3 pos cv q
 exact⟨c,r1,(e c (.inr ⟨_,r2⟩)).trans r2⟩
theorem L6.but {ts:List (Str×Addr×Addr)}{H H':Hp}{d:Addr}{o0:HO}(h:L6 ts H)(hd:H d=some o0)(hn:NoT o0)(kp:∀b o,H b=some o->b≠d->H' b=some o):L6 ts H':=h.congr λb hb=>by
 obtain⟨o,e,hne⟩:∃o,H b=some o∧b≠d:=by
  rcases hb with hb | ⟨φ,e⟩
  ·obtain⟨t,ht,rfl⟩:=List.mem_map.mp hb
   obtain⟨ps,e,_⟩:=h t ht
   exact⟨_,e,λz=>by rw[z,hd]at e;exact hn.1 ps (Option.some.inj e)⟩
  ·exact⟨_,e,λz=>by rw[z,hd]at e;exact hn.2 φ (Option.some.inj e)⟩
 rw[e];exact kp b o e hne
section
variable [Feeds]
noncomputable def tabP (K:PySem.W.Frag):List Addr:=(tabsK Feeds.lam K).map (·.2.2)
noncomputable def k8 (K:PySem.W.Frag):GF->List Addr
 | none=>tabP K
 | some (d,c)=>d::c::tabP K
theorem a86 {K:PySem.W.Frag}{G:GF}{b:Addr}(h:b∈tabP K):b∈k8 K G:=by
 cases G with
 | none=>exact h
 | some p=>exact List.mem_cons_of_mem _ (List.mem_cons_of_mem _ h)
noncomputable abbrev FS:=Feeds.S
noncomputable abbrev M (α:Type):=FS->Option (α×FS)
noncomputable def b3I (G:GF)(H:Hp)(F:FS):Prop:=match G with
 | none=>True
 | some (d,c)=>Feeds.At d c H F
noncomputable def FAt (K:PySem.W.Frag)(G:GF)(H:Hp)(F:FS):Prop:=b3I G H F∧L6 (tabsK Feeds.lam K) H
theorem FAt.bok {K:PySem.W.Frag}{G:GF}{H:Hp}{F:FS}(h:FAt K G H F):BOk H (k8 K G):=λb hb=>by
 have tb:b∈tabP K->∃o,H b=some o:=λz=>by
  obtain⟨t,ht,rfl⟩:=List.mem_map.mp z
  obtain⟨ps,h1,_⟩:=h.2 t ht
  exact⟨_,h1⟩
 cases G with
 | none=>exact tb hb
 | some p =>
  obtain⟨d,c⟩:=p
  simp only[k8,List.mem_cons]at hb
  rcases hb with rfl | rfl | hb
  ·obtain⟨o,e,_⟩:=Feeds.some1 h.1;exact⟨o,e⟩
  ·obtain⟨o,e,_⟩:=Feeds.some2 h.1;exact⟨o,e⟩
  ·exact tb hb
theorem FAt.congr {K:PySem.W.Frag}{G:GF}{H H':Hp}{F:FS}(h:FAt K G H F)(e:∀b,(b∈k8 K G∨∃φ,H b=some (.ext φ))->H' b=H b):FAt K G H' F:=by
 refine⟨?_,h.2.congr λb hb=>e b (hb.imp a86 id)⟩
 cases G with
 | none=>trivial
 | some p =>
  obtain⟨d,c⟩:=p
  exact Feeds.congr h.1 (e d (.inl (by simp[k8]))) (e c (.inl (by simp[k8])))
theorem FAt.same {K:PySem.W.Frag}{G:GF}{H H':Hp}{F:FS}(h:FAt K G H F)(s:i5 H H'):FAt K G H' F:=h.congr λb hb=>by
 rcases hb with hb | ⟨φ,e⟩
 ·obtain⟨o,e⟩:=h.bok b hb
  rw[e];exact s b o e
 ·rw[e];exact s b _ e
inductive DV where
 | dat (d:PyData) | feed | own (ds:List PyData) | fn (x:Str)
noncomputable abbrev DE:=List (Option DV)
noncomputable def DVr (K:PySem.W.Frag)(G:GF)(B:List Addr)(H:Hp):DV->V->Prop
 | .dat d,v=>b7 K (hid H B) d v
 | .feed,v=>∃d c,G=some (d,c)∧v = .ref d
 | .fn x,v=>∃a,v = .ref a∧PySem.W.nsIn K mainGlobals x=some (some (.ref a))
 | .own ds,v=>∃a xs,v = .ref a∧a∈B∧a ∉ k8 K G∧H a=some (.lst xs)∧a8 K (hid H B) ds xs
structure SitE (K:PySem.W.Frag) (G:GF) (B:List Addr) (E:DE) (F:FS) (σ:St) (H:Hp):Prop where
 fd:FAt K G H F
 fB:∀b∈k8 K G,b∈B
 bk:BOk H B
 ln:E.length = σ.length
 loc:∀(i:Nat) (x:DV),E[i]? = some (some x)->∃v,σ[i]? = some (some v)∧DVr K G B H x v
section
variable {K:PySem.W.Frag}{G:GF}{B:List Addr}{E:DE}{F F':FS}{σ:St}{H H':Hp}
theorem p6 (bk:BOk H B)(k:Kp (k8 K G) H H')(f:FAt K G H' F'):BOk H' B:=λb hb=>by
 by_cases h:b∈k8 K G
 ·exact f.bok b h
 ·obtain⟨o,e⟩:=bk b hb
  exact⟨o,k b o e h⟩
theorem DVr.step {x:DV}{v:V}(h:DVr K G B H x v)(k:Kp (k8 K G) H H')(fB:∀b∈k8 K G,b∈B):DVr K G B H' x v:=by
 cases x with
 | dat d=>exact b7.same (h:b7 _ _ _ _) (k.hid fB)
 | feed=>exact h
 | fn _=>exact h
 | own ds =>
  obtain⟨a,xs,e,hB,hf,ha,hd⟩:=h
  exact⟨a,xs,e,hB,hf,k a _ ha hf,hd.same (k.hid fB)⟩
theorem SitE.step (I:SitE K G B E F σ H)(k:Kp (k8 K G) H H')(f:FAt K G H' F'):SitE K G B E F' σ H' :=
 ⟨f,I.fB,p6 I.bk k f,I.ln,λi x e=>by
  obtain⟨v,h1,h2⟩:=I.loc i x e
  exact⟨v,h1,h2.step k I.fB⟩⟩
end
end
end L3
namespace L3
open PySem PySem.Spec PyProof.Rows L2
section
variable [Feeds]
noncomputable def TEd (K:PySem.W.Frag)(te:TE)(m:DE->M PyData):Prop:=∀(G:GF) (B:List Addr) (E:DE) (F:FS) (σ:St) (H:Hp) (Q:VK) (d:PyData) (F':FS),SitE K G B E F σ H->m E F=some (d,F') ->
 (∀v H',Kp (k8 K G) H H'->FAt K G H' F'->b7 K (hid H' B) d v->Q v H')->te σ H Q
noncomputable def TEs (K:PySem.W.Frag)(te:TE)(m:DE->M PyData):Prop:=∀(G:GF) (B:List Addr) (E:DE) (F:FS) (σ:St) (H:Hp) (Q:VK) (d:PyData) (F':FS),SitE K G B E F σ H->m E F=some (d,F') ->
 (∀v H',Kp (k8 K G) H H'->FAt K G H' F'->D9 K (k8 K G) B H' d v->Q v H')->te σ H Q
theorem TEd.sh {K:PySem.W.Frag}{te:TE}{m:DE->M PyData}(h:TEd K te m):TEs K te m:=λG B E F σ H Q d F' I e q=>h G B E F σ H Q d F' I e λv H' k f hd=>q v H' k f (b11 hd I.fB)
noncomputable def TTd (K:PySem.W.Frag)(tt:TT)(m:DE->M Bool):Prop:=∀(G:GF) (B:List Addr) (E:DE) (F:FS) (σ:St) (H:Hp) (Q:Bool->Hp->Prop) (b:Bool) (F':FS),SitE K G B E F σ H->m E F=some (b,F') ->
 (∀H',Kp (k8 K G) H H'->FAt K G H' F'->Q b H')->tt σ H Q
noncomputable def TAd (K:PySem.W.Frag)(ta:TA)(m:DE->M (List PyData)):Prop:=∀(G:GF) (B:List Addr) (E:DE) (F:FS) (σ:St) (H:Hp) (Q:List V->Hp->Prop) (ds:List PyData) (F':FS),SitE K G B E F σ H->m E F=some (ds,F') ->
 (∀vs H',Kp (k8 K G) H H'->FAt K G H' F'->a8 K (hid H' B) ds vs->Q vs H')->ta σ H Q
noncomputable def a3l (K:PySem.W.Frag)(fp B:List Addr)(H:Hp):List PyData->List V->Prop
 | [],vs=>vs=[]
 | d::ds,vs=>∃v r,vs=v::r∧D9 K fp B H d v∧a3l K fp B H ds r
noncomputable def TAs (K:PySem.W.Frag)(ta:TA)(m:DE->M (List PyData)):Prop:=∀(G:GF) (B:List Addr) (E:DE) (F:FS) (σ:St) (H:Hp) (Q:List V->Hp->Prop) (ds:List PyData) (F':FS),SitE K G B E F σ H->m E F=some (ds,F') ->
 (∀vs H',Kp (k8 K G) H H'->FAt K G H' F'->a3l K (k8 K G) B H' ds vs->Q vs H')->ta σ H Q
structure Ev (K:PySem.W.Frag) (X:Cx) (e:Expr) (te:TE) (m:DE->M PyData):Prop where
 pe:PE X e te
 ok:TEd K te m
structure Eb (K:PySem.W.Frag) (X:Cx) (e:Expr) (te:TE) (m:DE->M PyData):Prop where
 pe:PE X e te
 ok:TEs K te m
structure Et (K:PySem.W.Frag) (X:Cx) (e:Expr) (tt:TT) (m:DE->M Bool):Prop where
 pt:PT X e tt
 ok:TTd K tt m
structure Ew (K:PySem.W.Frag) (X:Cx) (e:Expr) (tt:TT) (m:DE->M Bool):Prop where
 pw:PW X e tt
 ok:TTd K tt m
structure Ea (K:PySem.W.Frag) (X:Cx) (es:List Expr) (ta:TA) (m:DE->M (List PyData)):Prop where
 pa:PA X es ta
 ok:TAd K ta m
structure Es (K:PySem.W.Frag) (X:Cx) (es:List Expr) (ta:TA) (m:DE->M (List PyData)):Prop where
 pa:PA X es ta
 ok:TAs K ta m
variable {K:PySem.W.Frag}{X:Cx}{a b c e:Expr}{es:List Expr}{ta tb tc te:TE}{ma mb mc m:DE->M PyData}{pos:Pos}
theorem Ev.bw (h:Ev K X e te m):Eb K X e te m:=⟨h.pe,h.ok.sh⟩
noncomputable def sC (d:PyData):DE->M PyData:=λ_ F=>some (d,F)
noncomputable def sV (i:Nat):DE->M PyData:=λE F=>match E[i]? with
 | some (some (.dat d))=>some (d,F)
 | _=>none
noncomputable def sW (i:Nat):DE->M PyData:=λE F=>match E[i]? with
 | some (some (.dat d))=>some (d,F)
 | some (some (.own ds))=>some (.list ds,F)
 | _=>none
theorem a8z {d:PyData}{v:V}(h:∀H,b7 K H d v):TEd K (tC v) (sC d):=λG B E F σ H Q d' F' I e q=>by
 cases e
 exact q v H Kp.refl I.fd (h _)
theorem i7 {i j}:Ev K X (.Constant (.int i) j pos) (tC (.int i)) (sC (.int i)):=⟨m6,a8z λ_=>b7.int⟩
theorem a0n {x j}:Ev K X (.Constant (.bool x) j pos) (tC (.bl x)) (sC (.bool x)):=⟨b3d,a8z λ_=>b7.bl⟩
theorem T8 {j}:Ev K X (.Constant .none j pos) (tC .non) (sC .none):=⟨b1A,a8z λ_=>b7.non⟩
theorem O2 {x j}:Ev K X (.Constant (.str x) j pos) (tC (.str x)) (sC (.str x)):=⟨b29,a8z λ_=>b7.st⟩
theorem b3e (i:Nat):TEd K (a0D i) (sV i):=λG B E F σ H Q d F' I e q=>by
 unfold sV at e
 split at e
 ·rename_i x hx
  cases e
  obtain⟨v,h1,h2⟩:=I.loc i _ hx
  exact⟨v,h1,q v H Kp.refl I.fd h2⟩
 ·cases e
theorem b2R (i:Nat):TEs K (a0D i) (sW i):=λG B E F σ H Q d F' I e q=>by
 unfold sW at e
 split at e
 ·rename_i x hx
  cases e
  obtain⟨v,h1,h2⟩:=I.loc i _ hx
  exact⟨v,h1,q v H Kp.refl I.fd (b11 h2 I.fB)⟩
 ·rename_i x hx
  cases e
  obtain⟨v,h1,h2⟩:=I.loc i _ hx
  refine⟨v,h1,q v H Kp.refl I.fd ?_⟩
  obtain⟨p,xs,rfl,hB,hf,hp,hd⟩:=h2
  exact⟨p,xs,rfl,by rw[l8 hf];exact hp,hd⟩
 ·cases e
theorem g7 (i:Nat){x:Str}(hN:X.N[i]? = some x:=by rfl)(hv:Vis X.env.scope x:=by first | exact Or.inl rfl | exact Or.inr (Or.inl rfl) | exact Or.inr (Or.inr rfl))(hd:(x == ("__debug__":Str))=false:=by decide)
  (hcd:(x == ("__classdict__":Str))=false:=by decide):Ev K X (.Name x pos) (a0D i) (sV i):=⟨U8 hN hv hd hcd,b3e i⟩
theorem d9 (i:Nat){x:Str}(hN:X.N[i]? = some x:=by rfl)(hv:Vis X.env.scope x:=by first | exact Or.inl rfl | exact Or.inr (Or.inl rfl) | exact Or.inr (Or.inr rfl))(hd:(x == ("__debug__":Str))=false:=by decide)
  (hcd:(x == ("__classdict__":Str))=false:=by decide):Eb K X (.Name x pos) (a0D i) (sW i):=⟨U8 hN hv hd hcd,b2R i⟩
noncomputable def rD1 (K:PySem.W.Frag)(f:PyData->Option PyData):V->Hp->VK->Prop:=λx H Q=>∃fp B d r,BOk H B∧D9 K fp B H d x∧f d=some r∧∀v H',i5 H H'->b7 K (hid H' B) r v->Q v H'
noncomputable def rD2 (K:PySem.W.Frag)(f:PyData->PyData->Option PyData):R2:=λx y H Q=>∃fp B d e r,BOk H B∧D9 K fp B H d x∧D9 K fp B H e y∧f d e=some r∧∀v H',i5 H H'->b7 K (hid H' B) r v->Q v H'
noncomputable def rDN (K:PySem.W.Frag)(f:List PyData->Option PyData):List V->Hp->VK->Prop:=λxs H Q=>∃fp B ds r,BOk H B∧a3l K fp B H ds xs∧f ds=some r∧∀v H',i5 H H'->b7 K (hid H' B) r v->Q v H'
noncomputable def s1 (f:PyData->Option PyData)(a:DE->M PyData):DE->M PyData:=λE F=>(a E F).bind λp=>(f p.1).bind λz=>some (z,p.2)
noncomputable def s2 (f:PyData->PyData->Option PyData)(a b:DE->M PyData):DE->M PyData:=λE F=>(a E F).bind λp=>(b E p.2).bind λq=>(f p.1 q.1).bind λz=>some (z,q.2)
noncomputable def sN (f:List PyData->Option PyData)(a:DE->M (List PyData)):DE->M PyData:=λE F=>(a E F).bind λp=>(f p.1).bind λz=>some (z,p.2)
theorem b13 {f:PyData->Option PyData}(ha:TEs K ta ma):TEd K (tUn (rD1 K f) ta) (s1 f ma):=λG B E F σ H Q d F' I e q=>by
 obtain⟨⟨x,F1⟩,e1,e⟩:=Option.bind_eq_some_iff.mp e
 obtain⟨z,e2,e⟩:=Option.bind_eq_some_iff.mp e
 cases e
 refine ha G B E F σ H _ x F1 I e1 λv H1 k1 f1 h1=>⟨k8 K G,B,x,_,p6 I.bk k1 f1,h1,e2,λw H2 s hw=>q w H2 (k1.trans (Kp.same s)) (f1.same s) hw⟩
theorem a5L {f:PyData->PyData->Option PyData}(ha:TEs K ta ma)(hb:TEs K tb mb):TEd K (tOp (rD2 K f) ta tb) (s2 f ma mb):=λG B E F σ H Q d F' I e q=>by
 obtain⟨⟨x,F1⟩,e1,e⟩:=Option.bind_eq_some_iff.mp e
 obtain⟨⟨y,F2⟩,e2,e⟩:=Option.bind_eq_some_iff.mp e
 obtain⟨z,e3,e⟩:=Option.bind_eq_some_iff.mp e
 cases e
 refine ha G B E F σ H _ x F1 I e1 λv H1 k1 f1 h1=>?_
 refine hb G B E F1 σ H1 _ y F2 (I.step k1 f1) e2 λw H2 k2 f2 h2=>⟨k8 K G,B,x,y,_,p6 I.bk (k1.trans k2) f2,h1.step k2 I.fB,h2,e3,λu H3 s hu=>q u H3 ((k1.trans k2).trans (Kp.same s)) (f2.same s) hu⟩
theorem b0Z {f:List PyData->Option PyData}{t:TA}{ms:DE->M (List PyData)}(ha:TAs K t ms):TEd K (tCB (rDN K f) t) (sN f ms):=λG B E F σ H Q d F' I e q=>by
 obtain⟨⟨x,F1⟩,e1,e⟩:=Option.bind_eq_some_iff.mp e
 obtain⟨z,e2,e⟩:=Option.bind_eq_some_iff.mp e
 cases e
 exact ha G B E F σ H _ x F1 I e1 λvs H1 k1 f1 h1=>⟨k8 K G,B,x,_,p6 I.bk k1 f1,h1,e2,λw H2 s hw=>q w H2 (k1.trans (Kp.same s)) (f1.same s) hw⟩
theorem A4 {op:Operator}{f:PyData->PyData->Option PyData}(ho:OpR X (binaryOp op) (rD2 K f))(ha:Eb K X a ta ma)(hb:Eb K X b tb mb):Ev K X (.BinOp a op b pos) (tOp (rD2 K f) ta tb) (s2 f ma mb):=⟨z4 ho ha.pe hb.pe,a5L ha.ok hb.ok⟩
theorem a99 {op:UnaryOp}{f:PyData->Option PyData}(ho:UnR X (unaryOp op) (rD1 K f))(ha:Eb K X a ta ma):Ev K X (.UnaryOp op a pos) (tUn (rD1 K f) ta) (s1 f ma):=⟨a8W ho ha.pe,b13 ha.ok⟩
theorem Z5 {op:CmpOp}{f:PyData->PyData->Option PyData}(ho:OpR X (compareOp op) (rD2 K f))(ha:Eb K X a ta ma)(hb:Eb K X b tb mb)(hm:behindInMarks op b=false:=by first | exact a0y _ | rfl):Ev K X (.Compare a [op] [b] pos) (tOp (rD2 K f) ta tb) (s2 f ma mb):=⟨b01 ho ha.pe hb.pe hm,a5L ha.ok hb.ok⟩
theorem u0 {f:PyData->PyData->Option PyData}(hr:IxR X (rD2 K f))(ha:Eb K X a ta ma)(hb:Eb K X b tb mb)(hs:a5G b:=by intro _ _;rfl):Ev K X (.Subscript a b pos) (tOp (rD2 K f) ta tb) (s2 f ma mb):=⟨X4 hr ha.pe hb.pe hs,a5L ha.ok hb.ok⟩
theorem l6 {f:List PyData->Option PyData}{id:String}{x:Str}{p:Pos}{t:TA}{ms:DE->M (List PyData)}(hc:C2 X (.builtin id) (rDN K f))(hm:X.mg x=none)(hv:bootBuiltins x=some (.builtin id))(ha:Es K X (e::es) t ms)(hg:Gl X x:=by rfl)(hn:x ≠ "__name__":=by decide)(hdb:(x == ("__debug__":Str))=false:=by decide)
  (he:starEach (e::es) X.env=(false,eval e X.env)::starEach es X.env:=by rfl) (hpl:(backTo pos (starEach es X.env)).any (·.1)=false:=by rfl):Ev K X (.Call (.Name x p) (e::es) [] pos) (tCB (rDN K f) t) (sN f ms):=⟨a1F hc hg hm hv ha.pa hn hdb he hpl,b0Z ha.ok⟩
theorem x5 {f:List PyData->Option PyData}{T:String}{x:Str}{p:Pos}{t:TA}{ms:DE->M (List PyData)}(hc:C2 X (.type T) (rDN K f))(hm:X.mg x=none)(hv:bootBuiltins x=some (.type T))(ha:Es K X (e::es) t ms)(hg:Gl X x:=by rfl)(hn:x ≠ "__name__":=by decide)(hdb:(x == ("__debug__":Str))=false:=by decide)
  (he:starEach (e::es) X.env=(false,eval e X.env)::starEach es X.env:=by rfl) (hpl:(backTo pos (starEach es X.env)).any (·.1)=false:=by rfl):Ev K X (.Call (.Name x p) (e::es) [] pos) (tCB (rDN K f) t) (sN f ms):=⟨Q5 hc hg hm hv ha.pa hn hdb he hpl,b0Z ha.ok⟩
noncomputable def d7:DE->M (List PyData):=λ_ F=>some ([],F)
noncomputable def a9 (a:DE->M PyData)(r:DE->M (List PyData)):DE->M (List PyData):=λE F=>(a E F).bind λp=>(r E p.2).bind λq=>some (p.1::q.1,q.2)
theorem i3:Ea K X [] X2 d7:=⟨A2,λG B E F σ H Q ds F' I e q=>by cases e;exact q [] H Kp.refl I.fd a8.nil⟩
theorem d0 {t:TA}{ms:DE->M (List PyData)}(ha:Ev K X e te m)(hr:Ea K X es t ms)(hs:starEach (e::es) X.env=(false,eval e X.env)::starEach es X.env:=by rfl):Ea K X (e::es) (C4 te t) (a9 m ms) :=
 ⟨p8 ha.pe hr.pa hs,λG B E F σ H Q ds F' I e q=>by
  obtain⟨⟨x,F1⟩,e1,e⟩:=Option.bind_eq_some_iff.mp e
  obtain⟨⟨ys,F2⟩,e2,e⟩:=Option.bind_eq_some_iff.mp e
  cases e
  refine ha.ok G B E F σ H _ x F1 I e1 λv H1 k1 f1 h1=>?_
  refine hr.ok G B E F1 σ H1 _ ys F2 (I.step k1 f1) e2 λvs H2 k2 f2 h2=>q _ H2 (k1.trans k2) f2 (.cons (h1.same (k2.hid I.fB)) h2)⟩
theorem l7:Es K X [] X2 d7:=⟨A2,λG B E F σ H Q ds F' I e q=>by cases e;exact q [] H Kp.refl I.fd rfl⟩
theorem h8 {t:TA}{ms:DE->M (List PyData)}(ha:Eb K X e te m)(hr:Es K X es t ms)(hs:starEach (e::es) X.env=(false,eval e X.env)::starEach es X.env:=by rfl):Es K X (e::es) (C4 te t) (a9 m ms) :=
 ⟨p8 ha.pe hr.pa hs,λG B E F σ H Q ds F' I e q=>by
  obtain⟨⟨x,F1⟩,e1,e⟩:=Option.bind_eq_some_iff.mp e
  obtain⟨⟨ys,F2⟩,e2,e⟩:=Option.bind_eq_some_iff.mp e
  cases e
  refine ha.ok G B E F σ H _ x F1 I e1 λv H1 k1 f1 h1=>?_
  refine hr.ok G B E F1 σ H1 _ ys F2 (I.step k1 f1) e2 λvs H2 k2 f2 h2=>q _ H2 (k1.trans k2) f2 ⟨v,vs,rfl,h1.step k2 I.fB,h2⟩⟩
noncomputable def x9 (a:DE->M (List PyData)):DE->M PyData:=λE F=>(a E F).bind λp=>if p.1.length≤sizeLine then some (.tuple p.1,p.2) else none
noncomputable def a46 (a:DE->M (List PyData)):DE->M PyData:=λE F=>(a E F).bind λp=>if p.1.length≤sizeLine then some (.list p.1,p.2) else none
theorem w8 {k}{t:TA}{ms:DE->M (List PyData)}(h:Ea K X es t ms):Ev K X (.Tuple es k pos) (b0t t) (x9 ms):=⟨a4y h.pa,λG B E F σ H Q d F' I e q=>by
 obtain⟨⟨x,F1⟩,e1,e⟩:=Option.bind_eq_some_iff.mp e
 split at e
 ·rename_i hl
  cases e
  refine h.ok G B E F σ H _ x F1 I e1 λvs H1 k1 f1 h1=>⟨by rw[h1.length];exact hl,λp hp=>q _ _ (k1.trans (Kp.upd hp)) (f1.same (i5.upd hp)) (N5 (p6 I.bk k1 f1) hp h1)⟩
 ·cases e⟩
theorem a4A {t:TA}{ms:DE->M (List PyData)}(h:Ea K X es t ms):Ev K X (.List es pos) (b0p t) (a46 ms):=⟨a1I h.pa,λG B E F σ H Q d F' I e q=>by
 obtain⟨⟨x,F1⟩,e1,e⟩:=Option.bind_eq_some_iff.mp e
 split at e
 ·rename_i hl
  cases e
  refine h.ok G B E F σ H _ x F1 I e1 λvs H1 k1 f1 h1=>⟨by rw[h1.length];exact hl,λp hp=>q _ _ (k1.trans (Kp.upd hp)) (f1.same (i5.upd hp)) (A5 (p6 I.bk k1 f1) hp h1)⟩
 ·cases e⟩
noncomputable def L4:PyData->Option Bool
 | .bool b=>some b
 | _=>none
theorem D3 {d:PyData}{b:Bool}(h:L4 d=some b):d = .bool b:=by
 cases d <;> simp[L4]at h
 rw[h]
noncomputable def a6M (a b:DE->M PyData):DE->M PyData:=λE F=>(a E F).bind λp=>(L4 p.1).bind λc=>if c=true then b E p.2 else some (.bool false,p.2)
noncomputable def sOr (a b:DE->M PyData):DE->M PyData:=λE F=>(a E F).bind λp=>(L4 p.1).bind λc=>if c=true then some (.bool true,p.2) else b E p.2
noncomputable def a8d (a:DE->M PyData):DE->M PyData:=λE F=>(a E F).bind λp=>(L4 p.1).bind λc=>some (.bool (!c),p.2)
theorem a5q {op}(h:Ev K X a te m):Ev K X (.BoolOp op [a] pos) te m:=⟨b1x h.pe,h.ok⟩
theorem a82 {rest:List Expr}(ha:Ev K X a ta ma)(hb:Ev K X (.BoolOp .And (b::rest) pos) tb mb):Ev K X (.BoolOp .And (a::b::rest) pos) (b0J ta tb) (a6M ma mb):=⟨b26 ha.pe hb.pe,λG B E F σ H Q d F' I e q=>by
 obtain⟨⟨x,F1⟩,e1,e⟩:=Option.bind_eq_some_iff.mp e
 obtain⟨c,e2,e⟩:=Option.bind_eq_some_iff.mp e
 refine ha.ok G B E F σ H _ x F1 I e1 λv H1 k1 f1 h1=>?_
 have:=D3 e2
 simp only at this
 subst this
 simp only[b7]at h1
 refine⟨c,h1,?_⟩
 cases c with
 | true=>exact hb.ok G B E F1 σ H1 _ d F' (I.step k1 f1) e λw H2 k2 f2 h2=>q w H2 (k1.trans k2) f2 h2
 | false=>cases e;exact q _ H1 k1 f1 b7.bl⟩
theorem b3o {rest:List Expr}(ha:Ev K X a ta ma)(hb:Ev K X (.BoolOp .Or (b::rest) pos) tb mb):Ev K X (.BoolOp .Or (a::b::rest) pos) (b2L ta tb) (sOr ma mb):=⟨b34 ha.pe hb.pe,λG B E F σ H Q d F' I e q=>by
 obtain⟨⟨x,F1⟩,e1,e⟩:=Option.bind_eq_some_iff.mp e
 obtain⟨c,e2,e⟩:=Option.bind_eq_some_iff.mp e
 refine ha.ok G B E F σ H _ x F1 I e1 λv H1 k1 f1 h1=>?_
 have:=D3 e2
 simp only at this
 subst this
 simp only[b7]at h1
 refine⟨c,h1,?_⟩
 cases c with
 | false=>exact hb.ok G B E F1 σ H1 _ d F' (I.step k1 f1) e λw H2 k2 f2 h2=>q w H2 (k1.trans k2) f2 h2
 | true=>cases e;exact q _ H1 k1 f1 b7.bl⟩
theorem b2a (ha:Ev K X a ta ma):Ev K X (.UnaryOp .Not a pos) (b0N ta) (a8d ma):=⟨b2i ha.pe,λG B E F σ H Q d F' I e q=>by
 obtain⟨⟨x,F1⟩,e1,e⟩:=Option.bind_eq_some_iff.mp e
 obtain⟨c,e2,e⟩:=Option.bind_eq_some_iff.mp e
 cases e
 refine ha.ok G B E F σ H _ x F1 I e1 λv H1 k1 f1 h1=>?_
 have:=D3 e2
 simp only at this
 subst this
 simp only[b7]at h1
 exact⟨_,h1,q _ H1 k1 f1 b7.bl⟩⟩
noncomputable def sIf (c:DE->M Bool)(a b:DE->M PyData):DE->M PyData:=λE F=>(c E F).bind λp=>if p.1=true then a E p.2 else b E p.2
theorem a2O {tt:TT}{mt:DE->M Bool}(hc:Et K X c tt mt)(ha:Ev K X a ta ma)(hb:Ev K X b tb mb):Ev K X (.IfExp c a b pos) (tIf tt ta tb) (sIf mt ma mb):=⟨a4h hc.pt ha.pe hb.pe,λG B E F σ H Q d F' I e q=>by
 obtain⟨⟨x,F1⟩,e1,e⟩:=Option.bind_eq_some_iff.mp e
 refine hc.ok G B E F σ H _ x F1 I e1 λH1 k1 f1=>?_
 cases x with
 | true=>exact ha.ok G B E F1 σ H1 _ d F' (I.step k1 f1) e λw H2 k2 f2 h2=>q w H2 (k1.trans k2) f2 h2
 | false=>exact hb.ok G B E F1 σ H1 _ d F' (I.step k1 f1) e λw H2 k2 f2 h2=>q w H2 (k1.trans k2) f2 h2⟩
variable {tA tB:TT}{na nb:DE->M Bool}
noncomputable def uB (a:DE->M PyData):DE->M Bool:=λE F=>(a E F).bind λp=>(L4 p.1).bind λc=>some (c,p.2)
noncomputable def uOr (a b:DE->M Bool):DE->M Bool:=λE F=>(a E F).bind λp=>if p.1=true then some (true,p.2) else b E p.2
noncomputable def a4u (a:DE->M Bool):DE->M Bool:=λE F=>(a E F).bind λp=>some (!p.1,p.2)
theorem v9 {op:CmpOp}{f:PyData->PyData->Option PyData}(ho:OpR X (compareOp op) (rD2 K f))(ha:Eb K X a ta ma)(hb:Eb K X b tb mb)(hm:behindInMarks op b=false:=by first | exact a0y _ | rfl):Et K X (.Compare a [op] [b] pos) (a6x (tOp (rD2 K f) ta tb)) (uB (s2 f ma mb)) :=
 ⟨a02 ho ha.pe hb.pe hm,λG B E F σ H Q d F' I e q=>by
  obtain⟨⟨x,F1⟩,e1,e⟩:=Option.bind_eq_some_iff.mp e
  obtain⟨c,e2,e⟩:=Option.bind_eq_some_iff.mp e
  cases e
  refine a5L ha.ok hb.ok G B E F σ H _ x F1 I e1 λv H1 k1 f1 h1=>?_
  have:=D3 e2
  simp only at this
  subst this
  simp only[b7]at h1
  exact⟨_,h1,q H1 k1 f1⟩⟩
theorem a9k (ha:Et K X a tA na):Ew K X (.BoolOp .Or [a] pos) tA na:=⟨b1l ha.pt,ha.ok⟩
theorem a80 {rest:List Expr}(ha:Et K X a tA na)(hb:Ew K X (.BoolOp .Or (b::rest) pos) tB nb):Ew K X (.BoolOp .Or (a::b::rest) pos) (tOr tA tB) (uOr na nb):=⟨b3n ha.pt hb.pw,λG B E F σ H Q d F' I e q=>by
 obtain⟨⟨x,F1⟩,e1,e⟩:=Option.bind_eq_some_iff.mp e
 refine ha.ok G B E F σ H _ x F1 I e1 λH1 k1 f1=>?_
 cases x with
 | false=>exact hb.ok G B E F1 σ H1 _ d F' (I.step k1 f1) e λH2 k2 f2=>q H2 (k1.trans k2) f2
 | true=>cases e;exact q H1 k1 f1⟩
theorem Ew.t (h:Ew K X a tA na):Et K X a tA na:=⟨h.pw.pt,h.ok⟩
theorem a33 (ha:Et K X a tA na):Et K X (.UnaryOp .Not a pos) (b3h tA) (a4u na):=⟨b1U ha.pt,λG B E F σ H Q d F' I e q=>by
 obtain⟨⟨x,F1⟩,e1,e⟩:=Option.bind_eq_some_iff.mp e
 cases e
 exact ha.ok G B E F σ H _ x F1 I e1 λH1 k1 f1=>q H1 k1 f1⟩
noncomputable def b06:PyData->Option Bool
 | .none=>some false
 | .bool b=>some b
 | .int i=>some (i != 0)
 | .str x=>if x.length≤sizeLine then some ((x.length:Int) != 0) else none
 | .tuple ds=>some (!ds.isEmpty)
 | .list ds=>some (!ds.isEmpty)
 | .dict _=>none
noncomputable def uT (a:DE->M PyData):DE->M Bool:=λE F=>(a E F).bind λp=>(b06 p.1).bind λc=>some (c,p.2)
theorem a07 {H:Hp}{ds:List PyData}{xs:List V}(h:a8 K H ds xs):xs.isEmpty=ds.isEmpty:=by
 cases ds with
 | nil=>simp only[a8]at h;subst h;rfl
 | cons d r=>simp only[a8]at h;obtain⟨x,r,rfl,_⟩:=h;rfl
theorem b20 {fp B:List Addr}{H:Hp}{d:PyData}{v:V}{c:Bool}(h:D9 K fp B H d v)(e:b06 d=some c):a96 K v H c:=by
 cases d with
 | none=>cases h;cases e;rfl
 | bool b=>cases h;cases e;rfl
 | int i=>cases h;cases e;rfl
 | str x =>
  cases h
  simp only[b06]at e
  split at e
  ·rename_i hl;cases e;exact⟨hl,rfl⟩
  ·cases e
 | tuple ds =>
  obtain⟨p,xs,rfl,hq,hd⟩:=h
  cases e
  exact .inr (.inl ⟨xs,hq.same d6,by rw[a07 hd]⟩)
 | list ds =>
  obtain⟨p,xs,rfl,hq,hd⟩:=h
  cases e
  exact .inl ⟨xs,SqL.of (d6 _ _ hq),by rw[a07 hd]⟩
 | dict kvs=>exact(show False from h).elim
theorem a27 (ha:Eb K X a ta ma)(hK:X.K=K:=by rfl)(he:∀whole,isTrue a X.env whole=(do let v ←whole;standAt a.pos;holding [v] (truthy v)):=by intro _;rfl) :
  Et K X a (λσ H Q=>ta σ H λx H'=>∃k,a96 K x H' k∧Q k H') (uT ma):=⟨a6S hK ha.pe he,λG B E F σ H Q d F' I e q=>by
 obtain⟨⟨x,F1⟩,e1,e⟩:=Option.bind_eq_some_iff.mp e
 obtain⟨c,e2,e⟩:=Option.bind_eq_some_iff.mp e
 cases e
 exact ha.ok G B E F σ H _ x F1 I e1 λv H1 k1 f1 h1=>⟨_,b20 h1 e2,q H1 k1 f1⟩⟩
end
end L3
namespace L3
open PySem PySem.Spec PyProof.Rows L2
section
variable {K:PySem.W.Frag}{X:Cx}
theorem a1g {fp B:List Addr}{H:Hp}{ds:List PyData}{d:PyData}{vs:List V}(h:a3l K fp B H ds vs)(e:ds=[d]):∃v,vs=[v]∧D9 K fp B H d v:=by
 subst e
 obtain⟨v,r,rfl,h1,h2⟩:=h
 cases h2
 exact⟨v,rfl,h1⟩
noncomputable def i2 (C:Int->Int->Prop)[∀i j,Decidable (C i j)](g:Int->Int->PyData):PyData->PyData->Option PyData
 | .int i,.int j=>if C i j then some (g i j) else none
 | _,_=>none
theorem a9T {C:Int->Int->Prop}[∀i j,Decidable (C i j)]{g:Int->Int->PyData}{d e r:PyData}(h:i2 C g d e=some r):∃i j,d = .int i∧e = .int j∧C i j∧r=g i j:=by
 cases d <;> cases e <;> simp only[i2]at h <;> try cases h
 split at h
 ·rename_i hc;cases h;exact⟨_,_,rfl,rfl,hc,rfl⟩
 ·cases h
theorem a1U {f:Value->Value->Sem Value}{g:Int->Int->V}{gd:Int->Int->PyData}(ho:OpR X f (rI0 g))(hg:∀H i j,b7 K H (gd i j) (g i j)):OpR X f (rD2 K (i2 (λ_ _=>True) gd)):=by
 intro pins s σ H x y v u Q I rx ry h
 obtain⟨fp,B,d,e,r,bk,h1,h2,hf,q⟩:=h
 obtain⟨i,j,rfl,rfl,hc,rfl⟩:=a9T hf
 cases h1
 cases h2
 exact ho pins s σ H _ _ v u Q I rx ry ⟨i,j,rfl,rfl,q _ H (i5.refl H) (hg _ i j)⟩
noncomputable abbrev a1T:=i2 (λ_ _=>True) λi j=>.int (i-j)
theorem a32:OpR X (binaryOp .Sub) (rD2 K a1T):=a1U b1N λ_ _ _=>b7.int
noncomputable instance:∀i j,Decidable (a9p i j):=λi j=>inferInstanceAs (Decidable (_∧_∧_))
noncomputable instance:∀i j,Decidable (a8b i j):=λi j=>inferInstanceAs (Decidable ((_∧_)∨(_∧_)))
@[irreducible] def a9P:Nat:=2 ^ 400000
theorem b0d:a9P=2 ^ 400000:=by unfold a9P;rfl
noncomputable def Big (i j:Int):Prop:=a8b i j∨(i.natAbs<a9P∧j.natAbs<a9P)
noncomputable instance {i j:Int}:Decidable (Big i j):=inferInstanceAs (Decidable (_∨_))
theorem a5C {n:Nat}{i:Int}(h:i.natAbs<2 ^ n):Builtin.Int.intBits i≤n:=by
 unfold Builtin.Int.intBits
 split
 ·exact Nat.zero_le _
 ·rename_i h0
  have h0:i.natAbs≠0:=λz=>h0 (by simpa using z)
  exact(Nat.log2_lt h0).mpr h
theorem Big.ok {i j:Int}(h:Big i j):IntMulOk i j:=by
 rcases h with h | ⟨h1,h2⟩
 ·exact h.ok
 ·unfold IntMulOk
  have e:Builtin.Int.intTooBig ((Builtin.Int.intBits i:Int)+Builtin.Int.intBits j)=false:=by
   unfold Builtin.Int.intTooBig
   rw[b0d]at h1 h2
   have a:=a5C h1
   have b:=a5C h2
   have c:(bitsLine:Nat)=134217728:=by decide
   refine decide_eq_false ?_
   rw[c]
   omega
  rw[e,Bool.and_false]
  exact Bool.false_ne_true
theorem b0o:OpR X (binaryOp .Mult) (rI Big λi j=>.int (i*j)):=opI λ_ _ _ _ _ _ _ hc q=>mul_int q hc.ok
noncomputable abbrev ltD:=i2 (λ_ _=>True) λi j=>.bool (decide (i<j))
noncomputable abbrev leD:=i2 (λ_ _=>True) λi j=>.bool (decide (i≤j))
noncomputable abbrev gtD:=i2 (λ_ _=>True) λi j=>.bool (decide (j<i))
noncomputable abbrev geD:=i2 (λ_ _=>True) λi j=>.bool (decide (j≤i))
theorem a5x:OpR X (compareOp .Lt) (rD2 K ltD):=a1U b0M λ_ _ _=>b7.bl
theorem b0U:OpR X (compareOp .LtE) (rD2 K leD):=a1U b3v λ_ _ _=>b7.bl
theorem a68:OpR X (compareOp .Gt) (rD2 K gtD):=a1U b16 λ_ _ _=>b7.bl
theorem b2V:OpR X (compareOp .GtE) (rD2 K geD):=a1U b0G λ_ _ _=>b7.bl
noncomputable def B5:PyData->PyData->Option PyData
 | .int i,.int j=>some (.int (i+j))
 | .str x,.str y=>if x.length+y.length≤sizeLine then some (.str (x++y)) else none
 | .tuple xs,.tuple ys=>if xs.length+ys.length≤sizeLine then some (.tuple (xs++ys)) else none
 | .list xs,.list ys=>if xs.length+ys.length≤sizeLine then some (.list (xs++ys)) else none
 | _,_=>none
theorem a8.nil_of {H:Hp}{ds:List PyData}{xs:List V}(h:a8 K H ds xs)(e:xs=[]):ds=[]:=by
 subst e;exact List.length_eq_zero_iff.mp (by rw[←h.length];rfl)
theorem A9 (hK:X.K=K):OpR X (binaryOp .Add) (rD2 K B5):=by
 intro pins s σ H x y v u Q I rx ry h
 obtain⟨fp,B,d,e,r,bk,h1,h2,hf,q⟩:=h
 cases d <;> cases e <;> simp only[B5]at hf <;> try cases hf
 ·cases h1
  cases h2
  exact Y5 pins s σ H _ _ v u Q I rx ry ⟨_,_,rfl,rfl,q _ H (i5.refl H) b7.int⟩
 ·cases h1
  cases h2
  split at hf
  ·rename_i hl
   cases hf
   exact a4P pins s σ H _ _ v u Q I rx ry ⟨_,_,rfl,rfl,hl,q _ H (i5.refl H) b7.st⟩
  ·cases hf
 ·obtain⟨a,xs,rfl,ha,hd⟩:=h1
  obtain⟨b,ys,rfl,hb,he⟩:=h2
  split at hf
  ·rename_i hl
   cases hf
   refine b2n pins s σ H _ _ v u Q I rx ry ⟨a,b,xs,ys,rfl,rfl,d6 _ _ ha,d6 _ _ hb,by rw[hd.length,he.length];exact hl,λp hp=>q _ _ (i5.upd hp) (A5 bk hp (a8.append he hd))⟩
  ·cases hf
 ·obtain⟨a,xs,rfl,ha,hd⟩:=h1
  obtain⟨b,ys,rfl,hb,he⟩:=h2
  split at hf
  ·rename_i hl
   cases hf
   refine a9J hK pins s σ H _ _ v u Q I rx ry ⟨a,b,xs,ys,rfl,rfl,ha.same d6,hb.same d6,by rw[hd.length,he.length];exact hl,λz=>q _ H (i5.refl H) ?_,λz=>q _ H (i5.refl H) ?_,λp hp=>q _ _ (i5.upd hp) (N5 bk hp (a8.append he hd))⟩
   ·cases a8.nil_of hd z
    simp only[b7,List.nil_append]
    exact⟨b,ys,rfl,hb,he⟩
   ·cases a8.nil_of he z
    simp only[b7,List.append_nil]
    exact⟨a,xs,rfl,ha,hd⟩
  ·cases hf
noncomputable def b2j:PyData->PyData->Option PyData
 | .int i,.int j=>if Big i j then some (.int (i*j)) else none
 | .list xs,.int k=>if -(2 ^ 63)≤k∧k<2 ^ 63∧xs.length*k.toNat≤sizeLine then some (.list (List.replicate k.toNat xs).flatten) else none
 | _,_=>none
theorem a8.rep {H:Hp}{ds:List PyData}{xs:List V}(h:a8 K H ds xs):∀n,a8 K H (List.replicate n ds).flatten (List.replicate n xs).flatten
 | 0=>a8.nil
 | n+1=>by
  rw[List.replicate_succ,List.replicate_succ,List.flatten_cons,List.flatten_cons]
  exact a8.append (a8.rep h n) h
theorem b1I:OpR X (binaryOp .Mult) (rD2 K b2j):=by
 intro pins s σ H x y v u Q I rx ry h
 obtain⟨fp,B,d,e,r,bk,h1,h2,hf,q⟩:=h
 cases d <;> cases e <;> simp only[b2j]at hf <;> try cases hf
 ·cases h1
  cases h2
  split at hf
  ·rename_i hc
   cases hf
   exact b0o pins s σ H _ _ v u Q I rx ry ⟨_,_,rfl,rfl,hc,q _ H (i5.refl H) b7.int⟩
  ·cases hf
 ·obtain⟨a,xs,rfl,ha,hd⟩:=h1
  cases h2
  split at hf
  ·rename_i hc
   cases hf
   exact b2c pins s σ H _ _ v u Q I rx ry ⟨a,_,xs,rfl,rfl,d6 _ _ ha,hc.1,hc.2.1,by rw[hd.length];exact hc.2.2,λp hp=>q _ _ (i5.upd hp) (A5 bk hp (a8.rep hd _))⟩
  ·cases hf
open PySem.SeqAt in
noncomputable def eqD (neg:Bool):PyData->PyData->Option PyData
 | .str x,.str y=>some (.bool (if neg then !decide (x=y) else decide (x=y)))
 | d,e=>if shaped d=true∧shaped e=true then some (.bool (if neg then !PyData.eqv d e else PyData.eqv d e)) else none
theorem a13 (hK:X.K=K)(hu:X.A.units+64<cLine):OpR X (compareOp .Eq) (rD2 K (eqD false)):=by
 subst hK
 intro pins s σ H x y v u Q I rx ry h
 obtain⟨fp,B,d,e,r,bk,h1,h2,hf,q⟩:=h
 unfold eqD at hf
 split at hf
 ·cases hf
  cases h1
  cases h2
  have z:=q _ H (i5.refl H) b7.bl
  rename_i a b
  have e:decide (V.str a=V.str b)=decide (a=b):=by simp
  exact b3t pins s σ H _ _ v u Q I rx ry ⟨rfl,by rw[e];exact z⟩
 ·split at hf
  ·rename_i hs
   cases hf
   obtain⟨as,ra⟩:=E7 I _ x v h1.dat rx
   obtain⟨bs,rb⟩:=E7 I _ y u h2.dat ry
   exact eq_dataH ra rb hs.1 hs.2 hu ⟨.bl _,H,I,rfl,q _ H (i5.refl H) b7.bl⟩
  ·cases hf
theorem a6e (hK:X.K=K)(hu:X.A.units+64<cLine):OpR X (compareOp .NotEq) (rD2 K (eqD true)):=by
 subst hK
 intro pins s σ H x y v u Q I rx ry h
 obtain⟨fp,B,d,e,r,bk,h1,h2,hf,q⟩:=h
 unfold eqD at hf
 split at hf
 ·cases hf
  cases h1
  cases h2
  have z:=q _ H (i5.refl H) b7.bl
  rename_i a b
  have e:decide (V.str a=V.str b)=decide (a=b):=by simp
  exact b3x pins s σ H _ _ v u Q I rx ry ⟨rfl,by rw[e];exact z⟩
 ·split at hf
  ·rename_i hs
   cases hf
   obtain⟨as,ra⟩:=E7 I _ x v h1.dat rx
   obtain⟨bs,rb⟩:=E7 I _ y u h2.dat ry
   exact ne_dataH ra rb hs.1 hs.2 hu ⟨.bl _,H,I,rfl,q _ H (i5.refl H) b7.bl⟩
  ·cases hf
open PySem.SeqAt in
noncomputable def inD (neg:Bool):PyData->PyData->Option PyData
 | d,.list xs=>if shaped (.list xs)=true∧shaped d=true then some (.bool (if neg then !(xs.any λy=>PyData.eqv y d) else xs.any λy=>PyData.eqv y d)) else none
 | d,.tuple xs=>if shaped (.tuple xs)=true∧shaped d=true then some (.bool (if neg then !(xs.any λy=>PyData.eqv y d) else xs.any λy=>PyData.eqv y d)) else none
 | _,_=>none
theorem a1Z (hK:X.K=K)(hu:X.A.units+65<cLine):OpR X (compareOp .In) (rD2 K (inD false)):=by
 subst hK
 intro pins s σ H x y v u Q I rx ry h
 obtain⟨fp,B,d,e,r,bk,h1,h2,hf,q⟩:=h
 obtain⟨as,ra⟩:=E7 I _ x v h1.dat rx
 obtain⟨bs,rb⟩:=E7 I _ y u h2.dat ry
 cases e <;> simp only[inD]at hf <;> try cases hf
 ·split at hf
  ·rename_i hs
   cases hf
   exact PySem.SeqAt.in_list_reads rb ra (by have:=PySem.SeqAt.canLay_of_shaped hs.1;simpa only[PyData.canLay0] using this) (PySem.SeqAt.canLay_of_shaped hs.2) (room_in_shaped hs.2 hu) ⟨.bl _,H,I,rfl,q _ H (i5.refl H) b7.bl⟩
  ·cases hf
 ·split at hf
  ·rename_i hs
   cases hf
   exact PySem.SeqAt.in_tuple_reads rb ra (by have:=PySem.SeqAt.canLay_of_shaped hs.1;simpa only[PyData.canLay0] using this) (PySem.SeqAt.canLay_of_shaped hs.2) (room_in_shaped hs.2 hu) ⟨.bl _,H,I,rfl,q _ H (i5.refl H) b7.bl⟩
  ·cases hf
theorem a4f (hK:X.K=K)(hu:X.A.units+65<cLine):OpR X (compareOp .NotIn) (rD2 K (inD true)):=by
 subst hK
 intro pins s σ H x y v u Q I rx ry h
 obtain⟨fp,B,d,e,r,bk,h1,h2,hf,q⟩:=h
 obtain⟨as,ra⟩:=E7 I _ x v h1.dat rx
 obtain⟨bs,rb⟩:=E7 I _ y u h2.dat ry
 cases e <;> simp only[inD]at hf <;> try cases hf
 ·split at hf
  ·rename_i hs
   cases hf
   exact PySem.SeqAt.notIn_list_reads rb ra (by have:=PySem.SeqAt.canLay_of_shaped hs.1;simpa only[PyData.canLay0] using this) (PySem.SeqAt.canLay_of_shaped hs.2) (room_in_shaped hs.2 hu) ⟨.bl _,H,I,rfl,q _ H (i5.refl H) b7.bl⟩
  ·cases hf
 ·split at hf
  ·rename_i hs
   cases hf
   exact PySem.SeqAt.notIn_tuple_reads rb ra (by have:=PySem.SeqAt.canLay_of_shaped hs.1;simpa only[PyData.canLay0] using this) (PySem.SeqAt.canLay_of_shaped hs.2) (room_in_shaped hs.2 hu) ⟨.bl _,H,I,rfl,q _ H (i5.refl H) b7.bl⟩
  ·cases hf
end
end L3
namespace L3
open PySem PySem.Spec PyProof.Rows L2
section
variable {K:PySem.W.Frag}{X:Cx}
theorem a8.at {H:Hp}{ds:List PyData}{xs:List V}{i:Int}{d:PyData}(h:a8 K H ds xs)(e:atI ds i=some d):∃v,atI xs i=some v∧b7 K H d v:=by
 unfold atI at e ⊢
 rw[h.length]
 cases q:ixN ds.length i with
 | none=>rw[q]at e;cases e
 | some j =>
  rw[q]at e
  have e:ds[j]? = some d:=e
  obtain⟨hj,_⟩:=List.getElem?_eq_some_iff.mp e
  have hx:xs[j]? = some (xs[j]'(by rw[h.length];exact hj)):=by simp
  obtain⟨d',h1,h2⟩:=h.get hx
  rw[e]at h1;cases h1
  exact⟨_,hx,h2⟩
noncomputable def ixD:PyData->PyData->Option PyData
 | .list ds,.int i=>atI ds i
 | .tuple ds,.int i=>atI ds i
 | .str x,.int i=>if x.length≤sizeLine then(atI x.cps.toList i).map λc=>.str ⟨#[c]⟩ else none
 | _,_=>none
theorem u7 (hK:X.K=K):IxR X (rD2 K ixD):=by
 intro value slice pins s σ H x y v u Q I rx ry h hs
 obtain⟨fp,B,d,e,r,bk,h1,h2,hf,q⟩:=h
 cases d <;> cases e <;> simp only[ixD]at hf <;> try cases hf
 ·cases h1
  cases h2
  split at hf
  ·rename_i hl
   obtain⟨c,e1,rfl⟩:=Option.map_eq_some_iff.mp hf
   exact b23 value slice pins s σ H _ _ v u Q I rx ry ⟨_,_,c,rfl,rfl,hl,e1,q _ H (i5.refl H) b7.st⟩ hs
  ·cases hf
 ·obtain⟨a,xs,rfl,ha,hd⟩:=h1
  cases h2
  obtain⟨w,e1,e2⟩:=a8.at hd hf
  exact a9a hK value slice pins s σ H _ _ v u Q I rx ry ⟨a,xs,_,w,rfl,rfl,SqL.of (d6 _ _ ha),e1,q w H (i5.refl H) e2⟩ hs
 ·obtain⟨a,xs,rfl,ha,hd⟩:=h1
  cases h2
  obtain⟨w,e1,e2⟩:=a8.at hd hf
  exact a9r hK value slice pins s σ H _ _ v u Q I rx ry ⟨a,xs,_,w,rfl,rfl,ha.same d6,e1,q w H (i5.refl H) e2⟩ hs
noncomputable def T7 {α:Type}(xs:List α)(lo hi:Option Int):List α:=(xs.drop (HT.sIx xs.length 0 lo)).take (HT.sIx xs.length xs.length hi-HT.sIx xs.length 0 lo)
noncomputable def a6H (lo hi:Option Int):PyData->Option PyData
 | .list ds=>some (.list (T7 ds lo hi))
 | .tuple ds=>some (.tuple (T7 ds lo hi))
 | .str x=>if x.length≤sizeLine then some (.str (Txt.slice x lo hi)) else none
 | _=>none
theorem a8.drop {H:Hp}:∀{ds:List PyData} {xs:List V} (n:Nat),a8 K H ds xs->a8 K H (ds.drop n) (xs.drop n)
 | ds,xs,0,h=>h
 | [],xs,n+1,h=>by simp only[a8]at h;subst h;simp[a8]
 | d::ds,xs,n+1,h=>by
  simp only[a8]at h
  obtain⟨y,r,rfl,h1,h2⟩:=h
  simp only[List.drop_succ_cons]
  exact a8.drop n h2
theorem a8.cut {H:Hp}{ds:List PyData}{xs:List V}(h:a8 K H ds xs)(lo hi:Option Int):a8 K H (T7 ds lo hi) (a0T xs lo hi):=by
 unfold T7 a0T
 rw[h.length]
 exact a8.take _ (a8.drop _ h)
noncomputable def b2K (K:PySem.W.Frag):V->Option Int->Option Int->Hp->VK->Prop:=λx lo hi H Q=>∃fp B d r,BOk H B∧D9 K fp B H d x∧a6H lo hi d=some r∧∀v H',i5 H H'->b7 K (hid H' B) r v->Q v H'
theorem a2W {v:Value}{o:Option Int}(h:IsPart v o):∃p:Option (Int×Tok),v=partValue p∧p.map (·.1)=o:=by
 cases h with
 | none=>exact⟨none,rfl,rfl⟩
 | int i t=>exact⟨some (i,t),rfl,rfl⟩
theorem b2k (hK:X.K=K):SlR X (b2K K):=by
 intro pins s σ H x v vl vu lo hi sl Q I rx hs pl pu h
 obtain⟨fp,B,d,r,bk,h1,hf,q⟩:=h
 cases d <;> simp only[a6H]at hf <;> try cases hf
 ·rename_i x0
  cases h1
  split at hf
  ·rename_i hl
   cases hf
   obtain⟨t,rfl⟩:=rx
   obtain⟨l,rfl,rfl⟩:=a2W pl
   obtain⟨m,rfl,rfl⟩:=a2W pu
   refine⟨"str",_,F.slot_str_getitem.lookup,typeIs_str _ _ _,getItem_meets (typeIs_str _ _ _) (by decide) F.slot_str_getitem F.entry_str_getitem (F.args_str_getitem_2 _ _) (meets_str_getitem_slice _ t sl l m none rfl) ⟨hs,?_⟩⟩
   have z:=q _ H (i5.refl H) b7.st
   unfold sliceMade
   unfold Txt.slice at z
   have e:slicePicked x0 l m none=Builtin.Str.strSliceIndices (l.map (·.1)) (m.map (·.1)) 1 x0.length:=rfl
   rw[e]
   simp only[Option.map_none,Option.getD_none]
   split
   ·rename_i hc
    rw[if_pos hc]at z
    exact⟨.str x0,H,I,⟨t,rfl⟩,z⟩
   ·rename_i hc
    rw[if_neg hc]at z
    refine⟨?_,⟨.str _,H,I.tok _,⟨_,rfl⟩,z⟩⟩
    have:=Txt.slice_le x0 (l.map (·.1)) (m.map (·.1))
    unfold Txt.slice at this
    rw[if_neg hc]at this
    exact Nat.le_trans this hl
  ·cases hf
 ·obtain⟨a,xs,rfl,ha,hd⟩:=h1
  subst hK
  exact a60 pins s σ H _ v vl vu lo hi sl Q I rx hs pl pu ⟨a,xs,rfl,SqL.of (d6 _ _ ha),λp hp=>q _ _ (i5.upd hp) (A5 bk hp (a8.cut hd lo hi))⟩
 ·obtain⟨a,xs,rfl,ha,hd⟩:=h1
  refine a8x hK pins s σ H _ v vl vu lo hi sl Q I rx hs pl pu ⟨a,xs,rfl,ha.same d6,λz=>q _ H (i5.refl H) ?_,λ_ p hp=>q _ _ (i5.upd hp) (N5 bk hp (a8.cut hd lo hi))⟩
  have:=a8.cut hd lo hi
  rw[z.1]at this
  simp only[b7]
  exact⟨a,xs,rfl,ha,this⟩
end
section
variable [Feeds]{K:PySem.W.Frag}{X:Cx}{e:Expr}{te:TE}{m:DE->M PyData}{pos p2:Pos}
noncomputable def TOd (K:PySem.W.Frag)(to:TO)(m:DE->M (Option Int)):Prop:=∀(G:GF) (B:List Addr) (E:DE) (F:FS) (σ:St) (H:Hp) (Q:Option Int->Hp->Prop) (d:Option Int) (F':FS),SitE K G B E F σ H->m E F=some (d,F') ->
 (∀H',Kp (k8 K G) H H'->FAt K G H' F'->Q d H')->to σ H Q
structure Eo (K:PySem.W.Frag) (X:Cx) (e:Option Expr) (to:TO) (m:DE->M (Option Int)):Prop where
 po:PO X e to
 ok:TOd K to m
noncomputable def oNo:DE->M (Option Int):=λ_ F=>some (none,F)
noncomputable def a06:PyData->Option Int
 | .int i=>some i
 | _=>none
theorem Y2 {d:PyData}{i:Int}(h:a06 d=some i):d = .int i:=by
 cases d <;> simp[a06]at h
 rw[h]
noncomputable def oI (a:DE->M PyData):DE->M (Option Int):=λE F=>(a E F).bind λp=>(a06 p.1).bind λi=>some (some i,p.2)
theorem a6p:Eo K X none a5R oNo:=⟨a6A,λG B E F σ H Q d F' I e q=>by cases e;exact q H Kp.refl I.fd⟩
theorem b0z (h:Ev K X e te m):Eo K X (some e) (b0H te) (oI m):=⟨a30 h.pe,λG B E F σ H Q d F' I e q=>by
 obtain⟨⟨x,F1⟩,e1,e⟩:=Option.bind_eq_some_iff.mp e
 obtain⟨i,e2,e⟩:=Option.bind_eq_some_iff.mp e
 cases e
 refine h.ok G B E F σ H _ x F1 I e1 λv H1 k1 f1 h1=>?_
 have:=Y2 e2
 simp only at this
 subst this
 simp only[b7]at h1
 exact⟨i,h1,q H1 k1 f1⟩⟩
noncomputable def a1G (a:DE->M PyData)(l u:DE->M (Option Int)):DE->M PyData:=λE F=>(a E F).bind λp=>(l E p.2).bind λx=>(u E x.2).bind λy=>(a6H x.1 y.1 p.1).bind λz=>some (z,y.2)
theorem a38 {lo hi:Option Expr}{tl th:TO}{ml mh:DE->M (Option Int)}(he:Eb K X e te m)(hl:Eo K X lo tl ml)(hh:Eo K X hi th mh)(hK:X.K=K:=by rfl):Ev K X (.Subscript e (.Slice lo hi none p2) pos) (tSl (b2K K) te tl th) (a1G m ml mh) :=
 ⟨a3I (b2k hK) he.pe hl.po hh.po,λG B E F σ H Q d F' I e q=>by
  obtain⟨⟨x,F1⟩,e1,e⟩:=Option.bind_eq_some_iff.mp e
  obtain⟨⟨l,F2⟩,e2,e⟩:=Option.bind_eq_some_iff.mp e
  obtain⟨⟨h,F3⟩,e3,e⟩:=Option.bind_eq_some_iff.mp e
  obtain⟨z,e4,e⟩:=Option.bind_eq_some_iff.mp e
  cases e
  refine he.ok G B E F σ H _ x F1 I e1 λv H1 k1 f1 h1=>?_
  refine hl.ok G B E F1 σ H1 _ l F2 (I.step k1 f1) e2 λH2 k2 f2=>?_
  refine hh.ok G B E F2 σ H2 _ h F3 (I.step (k1.trans k2) f2) e3 λH3 k3 f3=>?_
  exact⟨k8 K G,B,x,_,p6 I.bk ((k1.trans k2).trans k3) f3,h1.step (k2.trans k3) I.fB,e4,λu H4 s hu=>q u H4 (((k1.trans k2).trans k3).trans (Kp.same s)) (f3.same s) hu⟩⟩
end
section
variable {K:PySem.W.Frag}{X:Cx}
noncomputable def z7:List PyData->Option PyData
 | [.list ds]=>some (.int ds.length)
 | [.tuple ds]=>some (.int ds.length)
 | [.str x]=>if x.length≤sizeLine then some (.int x.length) else none
 | _=>none
theorem w6 (hK:X.K=K):C2 X (.builtin "len") (rDN K z7):=by
 intro pins s σ H xs us Q I r h
 obtain⟨fp,B,ds,z,bk,h1,hf,q⟩:=h
 unfold z7 at hf
 split at hf <;> try cases hf
 ·obtain⟨v,rfl,a,xs,rfl,ha,hd⟩:=a1g h1 rfl
  have:=q _ H (i5.refl H) b7.int
  rw[←hd.length]at this
  exact X3 hK pins s σ H _ us Q I r ⟨a,xs,rfl,.inl (SqL.of (d6 _ _ ha)),this⟩
 ·obtain⟨v,rfl,a,xs,rfl,ha,hd⟩:=a1g h1 rfl
  have:=q _ H (i5.refl H) b7.int
  rw[←hd.length]at this
  exact X3 hK pins s σ H _ us Q I r ⟨a,xs,rfl,.inr (ha.same d6),this⟩
 ·rename_i x0
  obtain⟨v,rfl,hv⟩:=a1g h1 rfl
  have hv:v = .str x0:=hv
  subst hv
  split at hf
  ·rename_i hl
   cases hf
   exact a2S pins s σ H _ us Q I r ⟨_,rfl,hl,q _ H (i5.refl H) b7.int⟩
  ·cases hf
noncomputable def r9:List PyData->Option PyData
 | [.list ds]=>some (.tuple ds)
 | [.tuple ds]=>some (.tuple ds)
 | _=>none
theorem z5 (hK:X.K=K):C2 X (.type "tuple") (rDN K r9):=by
 intro pins s σ H xs us Q I r h
 obtain⟨fp,B,ds,z,bk,h1,hf,q⟩:=h
 unfold r9 at hf
 split at hf <;> try cases hf
 ·obtain⟨v,rfl,a,xs,rfl,ha,hd⟩:=a1g h1 rfl
  exact U3 hK pins s σ H _ us Q I r ⟨a,xs,rfl,.inl ⟨SqL.of (d6 _ _ ha),λl hl=>q _ _ (i5.upd hl) (N5 bk hl hd)⟩⟩
 ·obtain⟨v,rfl,hv⟩:=a1g h1 rfl
  have hv':=hv.tup
  obtain⟨a,xs,rfl,ha,hd⟩:=hv
  exact U3 hK pins s σ H _ us Q I r ⟨a,xs,rfl,.inr ⟨ha.same d6,q _ H (i5.refl H) hv'⟩⟩
noncomputable def a7C:List PyData->Option PyData
 | [.list ds]=>some (.list ds)
 | [.tuple ds]=>some (.list ds)
 | _=>none
theorem b0s (hK:X.K=K):C2 X (.type "list") (rDN K a7C):=by
 subst hK
 intro pins s σ H xs us Q I r h
 obtain⟨fp,B,ds,z,bk,h1,hf,q⟩:=h
 unfold a7C at hf
 split at hf <;> try cases hf
 ·obtain⟨v,rfl,a,xs,rfl,ha,hd⟩:=a1g h1 rfl
  exact K8 pins s σ H _ us Q I r ⟨a,xs,rfl,.inl (SqL.of (d6 _ _ ha)),λl hl=>q _ _ (i5.upd hl) (A5 bk hl hd)⟩
 ·obtain⟨v,rfl,a,xs,rfl,ha,hd⟩:=a1g h1 rfl
  exact K8 pins s σ H _ us Q I r ⟨a,xs,rfl,.inr (ha.same d6),λl hl=>q _ _ (i5.upd hl) (A5 bk hl hd)⟩
noncomputable def G9:List PyData->Option (List Int)
 | []=>some []
 | .int i::r=>(G9 r).map (i :: ·)
 | _=>none
theorem J7:∀{ds:List PyData} {ns:List Int},G9 ds=some ns->ds=ns.map .int
 | [],ns,h=>by cases h;rfl
 | d::r,ns,h=>by
  cases d <;> simp only[G9]at h <;> try cases h
  obtain⟨m,e,rfl⟩:=Option.map_eq_some_iff.mp h
  rw[J7 e];rfl
theorem a2c {H:Hp}:∀{ns:List Int} {xs:List V},a8 K H (ns.map .int) xs->xs=ns.map V.int
 | [],xs,h=>by simpa only[List.map_nil,a8] using h
 | n::ns,xs,h=>by
  simp only[List.map_cons,a8]at h
  obtain⟨x,r,rfl,h1,h2⟩:=h
  simp only[b7]at h1
  rw[h1,a2c h2];rfl
end
end L3
namespace L3
open PySem PySem.Spec PyProof.Rows L2
section
variable {K:PySem.W.Frag}{X:Cx}
noncomputable def a5h:PyData->Option PyData
 | .int i=>some (.int (-i))
 | _=>none
theorem a55:UnR X (unaryOp .USub) (rD1 K a5h):=by
 intro pins s σ H x v Q I rx h
 obtain⟨fp,B,d,r,bk,h1,hf,q⟩:=h
 cases d <;> simp only[a5h]at hf <;> try cases hf
 rename_i i
 cases(show x = .int i from h1)
 exact a5i pins s σ H _ v Q I rx ⟨i,rfl,q _ H (i5.refl H) b7.int⟩
end
section
variable [Feeds]{K:PySem.W.Frag}{X:Cx}{e:Expr}{te:TE}{m:DE->M PyData}{pos p p2 p3:Pos}
end
section
variable {K:PySem.W.Frag}{X:Cx}
noncomputable def isD (neg:Bool):PyData->PyData->Option PyData
 | d,.none=>some (.bool (match d with | .none=>!neg | _=>neg))
 | _,_=>none
theorem a9V {fp B:List Addr}{H:Hp}{d:PyData}{x:V}(h:D9 K fp B H d x):decide (x = .non)=(match d with | .none=>true | _=>false):=by
 cases d with
 | none=>cases(show x = .non from h);rfl
 | bool b=>cases(show x = .bl b from h);rfl
 | int b=>cases(show x = .int b from h);rfl
 | str b=>cases(show x = .str b from h);rfl
 | tuple ds=>obtain⟨a,xs,rfl,_⟩:=h;rfl
 | list ds=>obtain⟨a,xs,rfl,_⟩:=h;rfl
 | dict b=>exact(show False from h).elim
theorem b0I:OpR X (compareOp .Is) (rD2 K (isD false)):=by
 intro pins s σ H x y v u Q I rx ry h
 obtain⟨fp,B,d,e,r,bk,h1,h2,hf,q⟩:=h
 cases e <;> simp only[isD]at hf <;> try cases hf
 cases(show y = .non from h2)
 have z:=q (.bl (decide (x = .non))) H (i5.refl H) (by rw[a9V h1];cases d <;> exact b7.bl)
 exact b1m pins s σ H _ _ v u Q I rx ry ⟨rfl,z⟩
end
end L3
namespace L3
open PySem PySem.Spec PyProof.Rows L2
section
variable [Feeds]{K:PySem.W.Frag}{X:Cx}{e:Expr}{te:TE}{m:DE->M PyData}{pos p p2 p3:Pos}
noncomputable def a95 (x:Str):Str:=⟨((Builtin.Str.strSliceIndices none none (-1) x.length).filterMap (x.cps[·]?)).toArray⟩
theorem a8O (x:Str):(a95 x).length≤x.length:=by
 have h:=sliceIndicesBy_le none none (-1) (by decide) x.length
 have h2:=List.length_filterMap_le (λ(i:Nat)=>x.cps[i]?) (Builtin.Str.strSliceIndices none none (-1) x.length)
 have e:(a95 x).length=((Builtin.Str.strSliceIndices none none (-1) x.length).filterMap (x.cps[·]?)).length:=by simp[a95,Str.length]
 rw[e]
 exact Nat.le_trans h2 h
noncomputable def a6K:PyData->Option PyData
 | .list ds=>some (.list ds.reverse)
 | .tuple ds=>some (.tuple ds.reverse)
 | .str x=>if x.length≤sizeLine then some (.str (a95 x)) else none
 | _=>none
theorem a9x {j}(hK:X.K=K)(he:PE X e te):PE X (.Subscript e (.Slice none none (some (.UnaryOp .USub (.Constant (.int 1) j p) p3)) p2) pos) (tUn (rD1 K a6K) te):=by
 subst hK
 intro pins s σ H Q I h
 refine Subscript_ (thn (he pins s σ H _ I h) λv s1 ⟨x,H1,I1,r1,q1⟩=>?_)
 refine wpAny_Slice ?_
 rw[evalPart_none]
 refine wpAny_pure (wpAny_pure ?_)
 refine thn (a30 (a8W a5i m6) pins s1 σ H1 (λo H2=>o=some (-1)∧H2=H1) I1 ⟨1,rfl,_,rfl,rfl,rfl⟩) λvst s2 ⟨o,H2,I2,ps,ho,hH⟩=>?_
 subst ho hH
 obtain⟨fp,B,d,r,bk,h1,hf,q⟩:=q1
 have I4:Inv X pins σ H2 { s2 with heap:=s2.heap.push { cls:=.type "slice",data:=.fields #[.none,.none,vst] } }:=I2.kept (t':=s2.toks) λb ob q=>Heap.get?_push_of_some _ q
 show wpAny (model X.prog X.w) X.A (subscriptTail e (.Slice none none (some (.UnaryOp .USub (.Constant (.int 1) j p) p3)) p2) v (.ref s2.heap.objs.size)) (EP X pins σ Q) X.xe { s2 with heap:=s2.heap.push { cls:=.type "slice",data:=.fields #[.none,.none,vst] } }
 cases d <;> simp only[a6K]at hf <;> try cases hf
 ·rename_i x0
  cases(show x = .str x0 from h1)
  split at hf
  ·rename_i hl
   cases hf
   obtain⟨t,rfl⟩:=r1
   obtain⟨l,rfl,e2⟩:=a2W ps
   obtain⟨⟨i0,t0⟩,rfl⟩:∃z,l=some z:=by
    cases l with
    | none=>cases e2
    | some z=>exact⟨z,rfl⟩
   simp at e2
   subst e2
   have z:=q _ H2 (i5.refl H2) b7.st
   refine tail_any (ops:=[.str x0 t,.ref s2.heap.objs.size]) (typeIs_str _ _ _) F.slot_str_getitem.lookup (getItem_meets (typeIs_str _ _ _) (by decide) F.slot_str_getitem F.entry_str_getitem (F.args_str_getitem_2 _ _) (meets_str_getitem_slice x0 t s2.heap.objs.size none none (some (-1,t0)) rfl) ⟨⟨_,Heap.get?_push_size _ rfl,rfl,rfl⟩,?_⟩) (by with_unfolding_all rfl)
   unfold sliceMade
   rw[if_neg (by simp)]
   exact⟨Nat.le_trans (a8O x0) hl,⟨.str (a95 x0),H2,I4.tok _,⟨_,rfl⟩,z⟩⟩
  ·cases hf
 ·obtain⟨a,xs,rfl,ha,hd⟩:=h1
  cases r1
  obtain⟨its,r,ht,hz⟩:=I4.list (SqL.of (K:=X.K) (d6 _ _ ha))
  have hlen:=r.length
  refine tail_any (ops:=[.ref a,.ref s2.heap.objs.size]) ht.isList.typeIs slot_list_getitem.lookup (wpAny_getItem_list_slice ht.isList (Heap.IsSliceOf.new ..) .none .none ps (by decide) ?_ (by rw[List.size_toArray] <;> omega)) (by with_unfolding_all rfl)
  rw[PySem.W.krv_pick]
  refine⟨.ref _,_,I4.laid (t':=s2.toks) (o:=.lst xs.reverse) (λb ob q=>Heap.get?_push_of_some _ q) (Nat.le_refl _) ?_,rfl,?_⟩
  ·exact⟨by rw[List.length_reverse];exact hz,its.reverse,0,r.reverse,Heap.get?_push_size _ rfl⟩
  ·have hf:=I4.hok.fresh (Nat.le_refl _)
   exact q _ _ (i5.upd hf) (A5 bk hf (a8.reverse hd))
 ·obtain⟨a,xs,rfl,ha,hd⟩:=h1
  cases r1
  obtain⟨its,r,ht,hz⟩:=I4.tuple (ha.same d6)
  have hlen:its.toArray.size=xs.length:=by rw[List.size_toArray];exact r.length.symm
  refine tail_any (ops:=[.ref a,.ref s2.heap.objs.size]) ht.typeIs PyProof.Rows.slot_tuple_getitem.lookup (HT.getItem_tuple_rev ht (Heap.IsSliceOf.new ..) ps ?_ (by rw[hlen];exact hz)) (by with_unfolding_all rfl)
  refine⟨.ref _,_,I4.laid (t':=s2.toks) (o:=.tup xs.reverse) (λb ob q=>Heap.get?_push_of_some _ q) (Nat.le_refl _) ?_,rfl,?_⟩
  ·exact⟨by rw[List.length_reverse];exact hz,_,r.reverse,IsTup.new _ _⟩
  ·have hf:=I4.hok.fresh (Nat.le_refl _)
   exact q _ _ (i5.upd hf) (N5 bk hf (a8.reverse hd))
theorem b1P {j}(h:Eb K X e te m)(hK:X.K=K:=by rfl):Ev K X (.Subscript e (.Slice none none (some (.UnaryOp .USub (.Constant (.int 1) j p) p3)) p2) pos) (tUn (rD1 K a6K) te) (s1 a6K m):=⟨a9x hK h.pe,b13 h.ok⟩
end
end L3
namespace L3
open PySem PySem.Spec L2
theorem a0Z:fillsNumberSlot (.type "tuple") "mul" = pure false :=
 fillsNumberSlot_seq (id:="tuple.__mul__") (r:=some (.builtin "tuple.__rmul__")) F.slot_tuple_mul.lookup (by decide +kernel) F.slot_tuple_rmul.lookup (by decide +kernel)
theorem a2T:seqRepeat? (.type "tuple")=pure (some (.builtin "tuple.__mul__")):=by
 unfold seqRepeat?
 rw[seqSlot_of (T:="tuple") (name:="__mul__") (id:="tuple.__mul__") F.slot_tuple_mul.lookup (by decide +kernel),seqSlot_of (T:="tuple") (name:="__rmul__") (id:="tuple.__rmul__") F.slot_tuple_rmul.lookup (by decide +kernel)]
 rfl
theorem a1H (a:Int)(t:Tok)(l:Addr)(items:Array Value)(n:Nat)(dd:Option Addr)(sl:Array (Option Value)) :
  Meets (Builtin.«int.__rmul__» ⟨[.int a t,.ref l],[]⟩) (λ_ R s=>s.heap.get? l=some { cls:=.type "tuple",dict:=dd,data:=.seq items n,slots:=sl }∧R (.ok (.ret Value.notImplemented)) s) :=
 .of_wp λprog w A R s h=>by obtain⟨hp,g,d,tk,os⟩:=s;obtain⟨hl,h⟩:=h;wp_walk;exact⟨_,rfl,h⟩
theorem a5l (l:Addr)(items:Array Value)(n:Nat)(dd:Option Addr)(sl:Array (Option Value))(k:Int)(u:Tok)(hc0:(decide (k < -(2 ^ 63))||decide (k ≥ 2 ^ 63))=false)(hc1:(items.isEmpty||k == 1)=true) :
  Meets (Builtin.«tuple.__mul__» ⟨[.ref l,.int k u],[]⟩) (λ_ R s=>s.heap.get? l=some { cls:=.type "tuple",dict:=dd,data:=.seq items n,slots:=sl }∧R (.ok (.ret (.ref l))) s) :=
 .of_wp λprog w A R s h=>by
  obtain⟨hp,g,d,tk,os⟩:=s;obtain⟨hl,h⟩:=h
  have f1:=AutoSeq1.idx_int;have f2:=AutoSeq1.sub_tuple_tuple;have f3:=AutoSeq1.sub_list_list;have f4:=AutoSeq1.sub_tuple_list;have f5:=AutoSeq1.sub_list_tuple
  wp_walk
  refine wpAny_ite_false (by rw[hc0];rfl) ?_
  wp_walk
  exact⟨_,rfl,h⟩
theorem a4Z (l:Addr)(items:Array Value)(n:Nat)(dd:Option Addr)(sl:Array (Option Value))(k:Int)(u:Tok)(hc0:(decide (k < -(2 ^ 63))||decide (k ≥ 2 ^ 63))=false)(hc1:(items.isEmpty||k == 1)=false)(hc2:(decide (k≤0)||items.isEmpty)=true) :
  Meets (Builtin.«tuple.__mul__» ⟨[.ref l,.int k u],[]⟩) (λ_ R s=>s.heap.get? l=some { cls:=.type "tuple",dict:=dd,data:=.seq items n,slots:=sl }∧R (.ok (.ret (.ref s.heap.objs.size))) { s with heap:=s.heap.push { cls:=.type "tuple",data:=.seq #[] } }) :=
 .of_wp λprog w A R s h=>by
  obtain⟨hp,g,d,tk,os⟩:=s;obtain⟨hl,h⟩:=h
  have f1:=AutoSeq1.idx_int;have f2:=AutoSeq1.sub_tuple_tuple;have f3:=AutoSeq1.sub_list_list;have f4:=AutoSeq1.sub_tuple_list;have f5:=AutoSeq1.sub_list_tuple
  wp_walk
  refine wpAny_ite_false (by rw[hc0];rfl) ?_
  wp_walk
  exact⟨_,rfl,h⟩
theorem a4W (l:Addr)(items:Array Value)(n:Nat)(dd:Option Addr)(sl:Array (Option Value))(k:Int)(u:Tok)(hc0:(decide (k < -(2 ^ 63))||decide (k ≥ 2 ^ 63))=false)(hc1:(items.isEmpty||k == 1)=false)(hc2:(decide (k≤0)||items.isEmpty)=false)(hc3:decide ((items.size:Int)*k > (2 ^ 63-1) / 8)=false)(hc4:Builtin.Tuple.tupleTooMany ((items.size:Int)*k)=false)
  (hsz:(List.foldl (λx1 x2=>x1++x2) #[] (List.replicate k.toNat items)).size≤sizeLine) :
  Meets (Builtin.«tuple.__mul__» ⟨[.ref l,.int k u],[]⟩) (λ_ R s=>s.heap.get? l=some { cls:=.type "tuple",dict:=dd,data:=.seq items n,slots:=sl }∧R (.ok (.ret (.ref s.heap.objs.size))) { s with heap:=s.heap.push { cls:=.type "tuple",data:=.seq (List.foldl (λx1 x2=>x1++x2) #[] (List.replicate k.toNat items)) } }) :=
 .of_wp λprog w A R s h=>by
  obtain⟨hp,g,d,tk,os⟩:=s;obtain⟨hl,h⟩:=h
  have f1:=AutoSeq1.idx_int;have f2:=AutoSeq1.sub_tuple_tuple;have f3:=AutoSeq1.sub_list_list;have f4:=AutoSeq1.sub_tuple_list;have f5:=AutoSeq1.sub_list_tuple
  wp_walk
  refine wpAny_ite_false (by rw[hc0];rfl) ?_
  wp_walk
  refine wpAny_ite_false hc3 ?_
  wp_walk
  exact⟨_,rfl,h⟩
section
open PyProof.Rows
variable {K:PySem.W.Frag}{X:Cx}
noncomputable def X5:PyData->PyData->Option PyData
 | .tuple xs,.int k=>if -(2 ^ 63)≤k∧k<2 ^ 63∧xs.length*k.toNat≤sizeLine then some (.tuple (List.replicate k.toNat xs).flatten) else none
 | d,e=>b2j d e
theorem b0c (hK:X.K=K):OpR X (binaryOp .Mult) (λx y H Q=>∃l k xs,x = .ref l∧y = .int k∧SqT K H l xs ∧ -(2 ^ 63)≤k∧k<2 ^ 63∧xs.length*k.toNat≤sizeLine ∧
  ((List.replicate k.toNat xs).flatten=xs->Q (.ref l) H)∧∀p,H p=none->Q (.ref p) (upd H p (.tup (List.replicate k.toNat xs).flatten))):=by
 subst hK
 intro pins s σ H x y v u Q I rx ry h
 obtain⟨l,k,xs,rfl,rfl,hq,h1,h2,hz,q0,q1⟩:=h
 cases rx
 obtain⟨t,rfl⟩:=ry
 obtain⟨its,r,p,hl⟩:=I.tuple hq
 have hlen:=r.length
 obtain⟨⟨cls,dd,data,sl⟩,ho,hc,n,hd⟩:=id p
 simp only at hc hd
 subst hc hd
 have hc0:(decide (k < -(2 ^ 63))||decide (k ≥ 2 ^ 63))=false:=by
  rw[decide_eq_false (by omega),decide_eq_false (by omega)];rfl
 have e1:s.TypeIs (.ref l) "tuple":=⟨_,ho,rfl⟩
 refine wpAny_binaryOp_repeat_ref (T:="tuple") (U:="int") (by decide) e1 (λs'=>typeIs_int s' k t) a0Z F.fills_int_mul F.slot_int_rmul a2T F.slot_int_index.lookup
  (call_meets F.slot_int_rmul (typeIs_int s k t) F.entry_int_rmul (F.args_int_rmul_2 _ _) (a1H k t l its.toArray n dd sl) ⟨ho,rfl,e1,?_⟩)
 by_cases c1:(its.toArray.isEmpty||k == 1)=true
 ·refine call_meets F.slot_tuple_mul e1 F.entry_tuple_mul (F.args_tuple_mul_2 _ _) (a5l l its.toArray n dd sl k t hc0 c1) ⟨ho,⟨.ref l,H,I,rfl,q0 ?_⟩⟩
  simp only[Bool.or_eq_true,beq_iff_eq]at c1
  rcases c1 with c1 | c1
  ·have:xs=[]:=by
    cases r with
    | nil=>rfl
    | cons a b=>simp at c1
   subst this
   simp
  ·subst c1
   simp
 ·have c1:(its.toArray.isEmpty||k == 1)=false:=by simpa using c1
  by_cases c2:(decide (k≤0)||its.toArray.isEmpty)=true
  ·refine call_meets F.slot_tuple_mul e1 F.entry_tuple_mul (F.args_tuple_mul_2 _ _) (a4Z l its.toArray n dd sl k t hc0 c1 c2) ⟨ho,?_⟩
   have ez:(List.replicate k.toNat xs).flatten=[]:=by
    rw[Bool.or_eq_false_iff]at c1
    rw[c1.1,Bool.or_false]at c2
    have:k.toNat=0:=by have:=of_decide_eq_true c2;omega
    rw[this];rfl
   have z:=q1 _ I.fresh
   rw[ez]at z
   exact⟨.ref _,_,I.laid (t':=s.toks) (o:=.tup []) (λb ob q=>Heap.get?_push_of_some _ q) (Nat.le_refl _) ⟨Nat.zero_le _,[],.nil,IsTup.new _ _⟩,rfl,z⟩
  ·have c2:(decide (k≤0)||its.toArray.isEmpty)=false:=by simpa using c2
   have hk0:0<k:=by
    rw[Bool.or_eq_false_iff]at c2
    have:=of_decide_eq_false c2.1
    omega
   have hm:(its.toArray.size:Int)*k≤sizeLine:=by
    obtain⟨j,rfl⟩:∃j:Nat,k=j:=⟨k.toNat,by omega⟩
    rw[List.size_toArray,←hlen]
    simp only[Int.toNat_natCast]at hz
    exact_mod_cast hz
   have hfold:List.foldl (λx1 x2=>x1++x2) #[] (List.replicate k.toNat its.toArray)=(List.replicate k.toNat its).flatten.toArray:=by
    have:=a0v its k.toNat []
    rw[List.nil_append]at this
    exact this
   have hsl:(sizeLine:Int)≤(2 ^ 63-1) / 8:=by rw[sizeLine_eq];decide
   refine call_meets F.slot_tuple_mul e1 F.entry_tuple_mul (F.args_tuple_mul_2 _ _) (a4W l its.toArray n dd sl k t hc0 c1 c2 (decide_eq_false (by omega)) (decide_eq_false (by omega)) ?_) ⟨ho,?_⟩
   ·rw[hfold,List.size_toArray,a3m,←hlen,Nat.mul_comm];exact hz
   ·rw[hfold]
    exact⟨.ref _,_,I.laid (t':=s.toks) (o:=.tup (List.replicate k.toNat xs).flatten) (λb ob q=>Heap.get?_push_of_some _ q) (Nat.le_refl _) ⟨by rw[a3m,Nat.mul_comm];exact hz,_,r.rep k.toNat,IsTup.new _ _⟩,rfl,q1 _ I.fresh⟩
theorem a39 (hK:X.K=K):OpR X (binaryOp .Mult) (rD2 K X5):=by
 intro pins s σ H x y v u Q I rx ry h
 obtain⟨fp,B,d,e,r,bk,h1,h2,hf,q⟩:=h
 unfold X5 at hf
 split at hf
 ·rename_i ds k
  obtain⟨a,xs,rfl,ha,hd⟩:=h1
  cases(show y = .int k from h2)
  split at hf
  ·rename_i hc
   cases hf
   refine b0c hK pins s σ H _ _ v u Q I rx ry ⟨a,k,xs,rfl,rfl,ha.same d6,hc.1,hc.2.1,by rw[hd.length];exact hc.2.2,λe=>q _ H (i5.refl H) ?_,λp hp=>q _ _ (i5.upd hp) (N5 bk hp (a8.rep hd _))⟩
   have:=a8.rep hd k.toNat
   rw[e]at this
   simp only[b7]
   exact⟨a,xs,rfl,ha,this⟩
  ·cases hf
 ·exact b1I pins s σ H x y v u Q I rx ry ⟨fp,B,d,e,r,bk,h1,h2,hf,q⟩
end
end L3
namespace L3
open PySem PySem.Spec PyProof.Rows L2
section
variable [Feeds]
noncomputable def a0N (K:PySem.W.Frag)(P:Hp->List Addr->Prop)(J:It)(items:List PyData):Prop:=∀H B,P H B ->
 (∀i d,items[i]? = some d->J.go i H∧∀x H2,J.yld i H x H2->i5 H H2∧(BOk H B->b7 K (hid H2 B) d x))∧J.stop items.length H
noncomputable def TId (K:PySem.W.Frag)(wi:TI)(mi:DE->M (List PyData)):Prop:=∀(G:GF) (B:List Addr) (E:DE) (F:FS) (σ:St) (H:Hp) (R:It->Hp->Prop) (ds:List PyData) (F':FS),SitE K G B E F σ H->mi E F=some (ds,F') ->
 (∀J H',Kp (k8 K G) H H'->FAt K G H' F'->a0N K (λH2 B2=>i5 (hid H' B) (hid H2 B2)) J ds->R J H')->wi σ H R
noncomputable def TIs (K:PySem.W.Frag)(wi:TI)(mi:DE->M (List PyData)):Prop:=∀(G:GF) (B:List Addr) (E:DE) (F:FS) (σ:St) (H:Hp) (R:It->Hp->Prop) (ds:List PyData) (F':FS),SitE K G B E F σ H->mi E F=some (ds,F') ->
 (∀J H',Kp (k8 K G) H H'->FAt K G H' F'->a0N K (λH2 B2=>Kp (k8 K G) H' H2∧i5 (hid H' B) (hid H2 B2)) J ds->R J H')->wi σ H R
structure Ei (K:PySem.W.Frag) (X:Cx) (tg iter:Expr) (wi:TI) (mi:DE->M (List PyData)):Prop where
 pi:PI X tg iter wi
 ok:TId K wi mi
structure Eib (K:PySem.W.Frag) (X:Cx) (tg iter:Expr) (wi:TI) (mi:DE->M (List PyData)):Prop where
 pi:PI X tg iter wi
 ok:TIs K wi mi
variable {K:PySem.W.Frag}{X:Cx}{tg iter e:Expr}{te:TE}{m:DE->M PyData}{pos p:Pos}
noncomputable def b22 (K:PySem.W.Frag)(tl:TE):TI:=λσ H R=>tl σ H λx H1=>∃a,x = .ref a∧(((∃xs,SqL K H1 a xs)∧R (Itl K a) H1)∨((∃xs,SqT K H1 a xs)∧R (Itt K a) H1))
theorem a7B {l:Expr}{tl:TE}(hK:X.K=K)(hl:PE X l tl):PI X tg l (b22 K tl):=by
 subst hK
 intro pins s σ H R I h
 refine thn (hl pins s σ H _ I h) λv s1 ⟨x,H1,I1,r1,q1⟩=>?_
 obtain⟨a,e,q⟩:=q1
 subst e
 cases r1
 rcases q with ⟨⟨xs,hq⟩,q⟩ | ⟨⟨xs,hq⟩,q⟩
 ·obtain⟨its,rv,p,hz⟩:=I1.list hq
  refine wpAny_pyIter_list p.isList ?_
  refine⟨s1.heap.objs.size,[s1.heap.objs.size],_,_,H1,rfl,I1.kept (t':=s1.toks) λb o e=>Heap.get?_push_of_some _ e,a7b a _,⟨_,Heap.get?_push_size _ rfl,rfl,rfl⟩,λb hb=>?_,q⟩
  have e:b=s1.heap.objs.size:=by simpa using hb
  subst e
  exact I1.fpOk (Nat.le_refl _) (I1.hok.fresh (Nat.le_refl _))
 ·obtain⟨its,rv,p,hz⟩:=I1.tuple hq
  refine wpAny_pyIter_tuple (show s1.heap.IsTuple a its.toArray from p) ?_
  refine⟨s1.heap.objs.size,[s1.heap.objs.size],_,_,H1,rfl,I1.kept (t':=s1.toks) λb o e=>Heap.get?_push_of_some _ e,a5j a _,⟨_,Heap.get?_push_size _ rfl,rfl,rfl⟩,λb hb=>?_,q⟩
  have e:b=s1.heap.objs.size:=by simpa using hb
  subst e
  exact I1.fpOk (Nat.le_refl _) (I1.hok.fresh (Nat.le_refl _))
noncomputable def a2u:PyData->Option (List PyData)
 | .list ds=>some ds
 | .tuple ds=>some ds
 | _=>none
noncomputable def D4 (a:DE->M PyData):DE->M (List PyData):=λE F=>(a E F).bind λp=>(a2u p.1).bind λds=>some (ds,p.2)
theorem a8.item {H:Hp}{ds:List PyData}{xs:List V}{i:Nat}{d:PyData}(h:a8 K H ds xs)(e:ds[i]? = some d):∃v,xs[i]? = some v∧b7 K H d v:=by
 obtain⟨hj,_⟩:=List.getElem?_eq_some_iff.mp e
 have hx:xs[i]? = some (xs[i]'(by rw[h.length];exact hj)):=by simp
 obtain⟨d',h1,h2⟩:=h.get hx
 rw[e]at h1;cases h1
 exact⟨_,hx,h2⟩
theorem a6i {P:Hp->List Addr->Prop}{a:Addr}{ds:List PyData}{xs:List V}(h:∀H B,P H B->H a=some (.lst xs)∧a8 K (hid H B) ds xs):a0N K P (Itl K a) ds:=λH B hp=>by
 obtain⟨h1,h2⟩:=h H B hp
 refine⟨λi d e=>?_,⟨xs,SqL.of h1,by rw[h2.length];exact Nat.le_refl _⟩⟩
 obtain⟨v,e1,e2⟩:=a8.item h2 e
 refine⟨⟨xs,v,SqL.of h1,e1⟩,λx H2 y=>?_⟩
 obtain⟨rfl,y⟩:=y
 have:=y xs (SqL.of h1)
 rw[e1]at this;cases this
 exact⟨i5.refl _,λ_=>e2⟩
theorem a8s {P:Hp->List Addr->Prop}{a:Addr}{ds:List PyData}{xs:List V}(h:∀H B,P H B->SqT K H a xs∧a8 K (hid H B) ds xs):a0N K P (Itt K a) ds:=λH B hp=>by
 obtain⟨h1,h2⟩:=h H B hp
 refine⟨λi d e=>?_,⟨xs,h1,by rw[h2.length];exact Nat.le_refl _⟩⟩
 obtain⟨v,e1,e2⟩:=a8.item h2 e
 refine⟨⟨xs,v,h1,e1⟩,λx H2 y=>?_⟩
 obtain⟨rfl,y⟩:=y
 have:=y xs h1
 rw[e1]at this;cases this
 exact⟨i5.refl _,λ_=>e2⟩
theorem a0A (h:Ev K X e te m)(hK:X.K=K:=by rfl):Ei K X tg e (b22 K te) (D4 m):=⟨a7B hK h.pe,λG B E F σ H R ds F' I e q=>by
 obtain⟨⟨y,F1⟩,e1,e⟩:=Option.bind_eq_some_iff.mp e
 obtain⟨z,e2,e⟩:=Option.bind_eq_some_iff.mp e
 cases e
 refine h.ok G B E F σ H _ y F1 I e1 λv H1 k1 f1 h1=>?_
 cases y with
 | list ys =>
  cases e2
  simp only[b7]at h1
  obtain⟨a,xs,rfl,ha,hd⟩:=h1
  refine⟨a,rfl,.inl ⟨⟨xs,SqL.of (d6 _ _ ha)⟩,q _ H1 k1 f1 (a6i λH2 B2 s=>⟨d6 _ _ (s _ _ ha),hd.same s⟩)⟩⟩
 | tuple ys =>
  cases e2
  simp only[b7]at h1
  obtain⟨a,xs,rfl,ha,hd⟩:=h1
  refine⟨a,rfl,.inr ⟨⟨xs,ha.same d6⟩,q _ H1 k1 f1 (a8s λH2 B2 s=>⟨(ha.same s).same d6,hd.same s⟩)⟩⟩
 | _=>cases e2⟩
theorem D5 (h:Eb K X e te m)(hK:X.K=K:=by rfl):Eib K X tg e (b22 K te) (D4 m):=⟨a7B hK h.pe,λG B E F σ H R ds F' I e q=>by
 obtain⟨⟨y,F1⟩,e1,e⟩:=Option.bind_eq_some_iff.mp e
 obtain⟨z,e2,e⟩:=Option.bind_eq_some_iff.mp e
 cases e
 refine h.ok G B E F σ H _ y F1 I e1 λv H1 k1 f1 h1=>?_
 cases y with
 | list ys =>
  cases e2
  obtain⟨a,xs,rfl,ha,hd⟩:=h1
  refine⟨a,rfl,.inl ⟨⟨xs,SqL.of (d6 _ _ ha)⟩,q _ H1 k1 f1 (a6i λH2 B2 k=>⟨d6 _ _ (k.1.hid (B:=k8 K G) (λ_ z=>z) _ _ ha),hd.same k.2⟩)⟩⟩
 | tuple ys =>
  cases e2
  obtain⟨a,xs,rfl,ha,hd⟩:=h1
  refine⟨a,rfl,.inr ⟨⟨xs,ha.same d6⟩,q _ H1 k1 f1 (a8s λH2 B2 k=>⟨(ha.same k.2).same d6,hd.same k.2⟩)⟩⟩
 | _=>cases e2⟩
noncomputable def T6 (lo:Int)(n:Nat):List PyData:=(List.range n).map λ(i:Nat)=>.int (lo+i)
theorem b1Z {P:Hp->List Addr->Prop}{lo:Int}{n:Nat}:a0N K P (Itr lo n) (T6 lo n):=λH B _=>by
 refine⟨λi d e=>?_,by show n≤_;simp[T6]⟩
 unfold T6 at e
 rw[List.getElem?_map]at e
 obtain⟨j,e1,rfl⟩:=Option.map_eq_some_iff.mp e
 obtain⟨hj,e2⟩:=List.getElem?_eq_some_iff.mp e1
 simp at hj e2
 subst e2
 refine⟨hj,λx H2 y=>?_⟩
 obtain⟨rfl,rfl⟩:=y
 exact⟨i5.refl _,λ_=>b7.int⟩
noncomputable def U6:List PyData->Option (List PyData)
 | [.int j]=>if -(2 ^ 62)≤j∧j<2 ^ 62 then some (T6 0 j.toNat) else none
 | _=>none
noncomputable def a1O:List PyData->Option (List PyData)
 | [.int i,.int j]=>if -(2 ^ 62)≤i∧i<2 ^ 62 ∧ -(2 ^ 62)≤j∧j<2 ^ 62 then some (T6 i (j-i).toNat) else none
 | _=>none
noncomputable def X8 (a:DE->M (List PyData)):DE->M (List PyData):=λE F=>(a E F).bind λp=>(U6 p.1).bind λds=>some (ds,p.2)
theorem a08 {a:Expr}{ta:TA}{ms:DE->M (List PyData)}(h:Ea K X [a] ta ms)(hm:X.mg "range" = none)(hg:Gl X "range":=by rfl)(hs:starEach [a] X.env=[(false,eval a X.env)]:=by rfl):Ei K X tg (.Call (.Name "range" p) [a] [] pos) (b0P ta) (X8 ms):=⟨a7j hg hm h.pa hs,λG B E F σ H R ds F' I e q=>by
 obtain⟨⟨ys,F1⟩,e1,e⟩:=Option.bind_eq_some_iff.mp e
 obtain⟨z,e2,e⟩:=Option.bind_eq_some_iff.mp e
 cases e
 refine h.ok G B E F σ H _ ys F1 I e1 λvs H1 k1 f1 h1=>?_
 unfold U6 at e2
 split at e2
 ·rename_i j hj
  split at e2
  ·rename_i hc
   cases e2
   have hj:ys=[.int j]:=hj
   subst hj
   simp only[a8]at h1
   obtain⟨x,r,rfl,h2,rfl⟩:=h1
   simp only[b7]at h2
   subst h2
   exact⟨j,rfl,hc.1,hc.2,q _ H1 k1 f1 b1Z⟩
  ·cases e2
 ·cases e2⟩
noncomputable def TGd (K:PySem.W.Frag)(g:TG)(bd:PyData->DE->Option DE):Prop:=∀(G:GF) (B:List Addr) (E:DE) (F:FS) (σ:St) (H:Hp) (x:V) (d:PyData) (E':DE) (Q:St->Hp->Prop),SitE K G B E F σ H->b7 K (hid H B) d x->bd d E=some E' ->
 (∀σ',SitE K G B E' F σ' H->(∀i:Nat,(∀y,E'[i]? ≠ some (some (.dat y)))->E'[i]? = E[i]? ∧ σ'[i]? = σ[i]?)->Q σ' H)->g x σ H Q
noncomputable def b3O (K:PySem.W.Frag)(g:TGs)(bd:List PyData->DE->Option DE):Prop:=∀(G:GF) (B:List Addr) (E:DE) (F:FS) (σ:St) (H:Hp) (xs:List V) (ds:List PyData) (E':DE) (Q:St->Hp->Prop),SitE K G B E F σ H->a8 K (hid H B) ds xs->bd ds E=some E' ->
 (∀σ',SitE K G B E' F σ' H->(∀i:Nat,(∀y,E'[i]? ≠ some (some (.dat y)))->E'[i]? = E[i]? ∧ σ'[i]? = σ[i]?)->Q σ' H)->g xs σ H Q
structure Eg (K:PySem.W.Frag) (X:Cx) (tg:Expr) (g:TG) (bd:PyData->DE->Option DE):Prop where
 pg:PG X tg g
 ok:TGd K g bd
structure Egs (K:PySem.W.Frag) (X:Cx) (tgs:List Expr) (g:TGs) (bd:List PyData->DE->Option DE):Prop where
 pg:PGs X tgs g
 ok:b3O K g bd
noncomputable def bN (i:Nat):PyData->DE->Option DE:=λd E=>if i<E.length then some (E.set i (some (.dat d))) else none
theorem SitE.set {G:GF}{B:List Addr}{E:DE}{F:FS}{σ:St}{H:Hp}{i:Nat}{d:PyData}{v:V}(I:SitE K G B E F σ H)(h:b7 K (hid H B) d v)(hi:i<E.length):SitE K G B (E.set i (some (.dat d))) F (σ.set i (some v)) H:=by
 refine⟨I.fd,I.fB,I.bk,by rw[List.length_set,List.length_set];exact I.ln,λj x e=>?_⟩
 have hs:i < σ.length:=by rw[←I.ln];exact hi
 by_cases hj:i=j
 ·subst hj
  rw[List.getElem?_set_self hi]at e
  cases e
  exact⟨v,by rw[List.getElem?_set_self hs],h⟩
 ·rw[List.getElem?_set_ne hj]at e
  rw[List.getElem?_set_ne hj]
  exact I.loc j x e
theorem m7 {i:Nat}{x:Str}(hN:X.N.Nodup)(hi:X.N[i]? = some x:=by rfl)(hx:Loc X.env.scope x:=by first | exact Or.inl rfl | exact Or.inr rfl)(hf:X.fn x=true∨X.env.scope.names.lookup x=some .local:=by first | exact .inl rfl | exact .inr rfl | assumption):Eg K X (.Name x pos) (T2 i) (bN i):=⟨a3w hN hi hx hf,λG B E F σ H x d E' Q I h e q=>by
 unfold bN at e
 split at e
 ·rename_i hl
  cases e
  refine q _ (I.set h hl) λj hj=>?_
  by_cases hij:i=j
  ·subst hij
   exact absurd (List.getElem?_set_self hl) (hj d)
  ·rw[List.getElem?_set_ne hij,List.getElem?_set_ne hij]
   exact⟨rfl,rfl⟩
 ·cases e⟩
noncomputable def u8:List PyData->DE->Option DE:=λds E=>if ds.isEmpty then some E else none
noncomputable def d4 (a:PyData->DE->Option DE)(r:List PyData->DE->Option DE):List PyData->DE->Option DE
 | d::ds,E=>(a d E).bind λE1=>r ds E1
 | [],_=>none
theorem n4:Egs K X [] b1H u8:=⟨a61,λG B E F σ H xs ds E' Q I h e q=>by
 cases ds with
 | nil=>cases e;simp only[a8]at h;exact⟨h,q σ I λ_ _=>⟨rfl,rfl⟩⟩
 | cons d r=>cases e⟩
theorem d5 {es:List Expr}{t:TG}{u:TGs}{ba:PyData->DE->Option DE}{br:List PyData->DE->Option DE}(h1:Eg K X e t ba)(h2:Egs K X es u br)
  (hs:(assignEach (e::es) X.env).map (·.2)=assign e X.env::(assignEach es X.env).map (·.2):=by rfl):Egs K X (e::es) (a6y t u) (d4 ba br):=⟨a1S h1.pg h2.pg hs,λG B E F σ H xs ds E' Q I h e q=>by
 cases ds with
 | nil=>cases e
 | cons d r =>
  obtain⟨E1,e1,e⟩:=Option.bind_eq_some_iff.mp e
  simp only[a8]at h
  obtain⟨x,rr,rfl,hx,hr⟩:=h
  refine⟨x,rr,rfl,h1.ok G B E F σ H x d E1 _ I hx e1 λσ1 I1 k1=>?_⟩
  refine h2.ok G B E1 F σ1 H rr r E' _ I1 hr e λσ2 I2 k2=>q σ2 I2 λi hi=>?_
  obtain⟨a1,a2⟩:=k2 i hi
  obtain⟨b1,b2⟩:=k1 i (λy z=>hi y (a1.trans z))
  exact⟨a1.trans b1,a2.trans b2⟩⟩
noncomputable def t9 (n:Nat)(r:List PyData->DE->Option DE):PyData->DE->Option DE
 | .tuple ds,E=>if ds.length=n then r ds E else none
 | _,_=>none
theorem u4 {es:List Expr}{k:Nat}{t:TGs}{n:Nat}{br:List PyData->DE->Option DE}(hc:X.calm=true)(h:Egs K X es t br)(hK:X.K=K:=by rfl)
  (hn:(assignEach es X.env).length=n:=by rfl) (hst:(assignEach es X.env).findIdx? (·.1)=none:=by rfl):Eg K X (.Tuple es k pos) (a9D K n t) (t9 n br):=⟨a6d hK hc h.pg hn hst,λG B E F σ H x d E' Q I hd e q=>by
 cases d <;> simp only[t9]at e <;> try cases e
 split at e
 ·rename_i hl
  simp only[b7]at hd
  obtain⟨a,xs,rfl,ha,hx⟩:=hd
  exact⟨a,xs,rfl,ha.same d6,by rw[hx.length];exact hl,h.ok G B E F σ H xs _ E' Q I hx e q⟩
 ·cases e⟩
noncomputable def a26 (k:Nat)(cap:List Nat)(E:DE):DE:=List.replicate k none++cap.map λj=>(E[j]?).join
theorem SitE.cap {G:GF}{B:List Addr}{E:DE}{F:FS}{σ:St}{H:Hp}(I:SitE K G B E F σ H)(k:Nat)(cap:List Nat):SitE K G B (a26 k cap E) F (K7 k cap σ) H:=by
 refine⟨I.fd,I.fB,I.bk,by simp[a26,K7],λi x e=>?_⟩
 unfold a26 at e
 by_cases hi:i<k
 ·rw[List.getElem?_append_left (by simpa using hi),List.getElem?_replicate,if_pos hi]at e
  cases e
 ·rw[List.getElem?_append_right (by simpa using hi),List.length_replicate,List.getElem?_map]at e
  obtain⟨j,hj,hv⟩:=Option.map_eq_some_iff.mp e
  have hE:E[j]? = some (some x):=by
   cases q:E[j]? with
   | none=>rw[q]at hv;cases hv
   | some o=>rw[q]at hv;exact congrArg some hv
  obtain⟨v,h1,h2⟩:=I.loc j x hE
  refine⟨v,?_,h2⟩
  unfold K7
  rw[List.getElem?_append_right (by simpa using hi),List.length_replicate,List.getElem?_map,hj,Option.map_some,h1]
  rfl
theorem SitE.more {G:GF}{B:List Addr}{E:DE}{F:FS}{σ:St}{H:Hp}{D:Addr}{o:HO}(I:SitE K G B E F σ H)(hD:H D=none):SitE K G (D::B) E F σ (upd H D o):=by
 have hn:D ∉ B:=I.bk.nin hD
 have e1:hid (upd H D o) (D::B)=hid H B:=by
  funext b
  by_cases hb:b=D
  ·subst hb;rw[B3 List.mem_cons_self,l8 hn,hD]
  ·by_cases hB:b∈B
   ·rw[B3 hB,B3 (List.mem_cons_of_mem _ hB)]
   ·rw[l8 hB,l8 (by simp[hb,hB]),f7 hb]
 refine⟨I.fd.same (i5.upd hD),λb hb=>List.mem_cons_of_mem _ (I.fB b hb),λb hb=>?_,I.ln,λi x e=>?_⟩
 ·rcases List.mem_cons.mp hb with rfl | hb
  ·exact⟨o,g8⟩
  ·obtain⟨u,e⟩:=I.bk b hb
   exact⟨u,by rw[f7 (l5 e hD)];exact e⟩
 ·obtain⟨v,h1,h2⟩:=I.loc i x e
  refine⟨v,h1,?_⟩
  cases x with
  | dat d=>show b7 K (hid (upd H D o) (D::B)) d v;rw[e1];exact h2
  | feed=>exact h2
  | fn _=>exact h2
  | own ds =>
   obtain⟨a,xs,ea,hB,hf,ha,hd⟩:=h2
   exact⟨a,xs,ea,List.mem_cons_of_mem _ hB,hf,by rw[f7 (l5 ha hD)];exact ha,by rw[e1];exact hd⟩
theorem SitE.wr {G:GF}{B:List Addr}{E:DE}{F:FS}{σ:St}{H:Hp}{D:Addr}{o:HO}(I:SitE K G (D::B) E F σ H)(hf:D ∉ k8 K G)(hown:∀(i:Nat) (ds:List PyData),E[i]? = some (some (DV.own ds))->σ[i]? ≠ some (some (V.ref D))){acc:List V}(hD:H D=some (.lst acc)):SitE K G (D::B) E F σ (upd H D o):=by
 have e1:hid (upd H D o) (D::B)=hid H (D::B):=W0 List.mem_cons_self
 refine⟨I.fd.congr λb hb=>f7 (λe=>hb.elim (λhb=>hf (e▸hb)) λ⟨φ,q⟩=>by rw[e,hD]at q;cases q),I.fB,λb hb=>?_,I.ln,λi x e=>?_⟩
 ·by_cases h:b=D
  ·subst h;exact⟨o,g8⟩
  ·rw[f7 h];exact I.bk b hb
 ·obtain⟨v,h1,h2⟩:=I.loc i x e
  refine⟨v,h1,?_⟩
  cases x with
  | dat d=>show b7 K (hid (upd H D o) (D::B)) d v;rw[e1];exact h2
  | feed=>exact h2
  | fn _=>exact h2
  | own ds =>
   obtain⟨a,xs,rfl,hB,hfa,ha,hd⟩:=h2
   have hne:a≠D:=λz=>hown i ds e (by rw[←z];exact h1)
   exact⟨a,xs,rfl,hB,hfa,by rw[f7 hne];exact ha,by rw[e1];exact hd⟩
structure Ets (K:PySem.W.Frag) (X:Cx) (ifs:List Expr) (tt:TT) (m:DE->M Bool):Prop where
 pts:PTs X ifs tt
 ok:TTd K tt m
noncomputable def E9:DE->M Bool:=λ_ F=>some (true,F)
theorem A6:Ets K X [] b2C E9:=⟨a9K,λG B E F σ H Q b F' I e q=>by cases e;exact q H Kp.refl I.fd⟩
theorem a6h {c:Expr}{tt:TT}{mt:DE->M Bool}(h:Et K X c tt mt):Ets K X [c] tt mt:=⟨b0r h.pt,h.ok⟩
noncomputable def Q0 (bd:PyData->DE->Option DE)(mt:DE->M Bool)(me:DE->M PyData):List PyData->DE->M (List PyData)
 | [],_,F=>some ([],F)
 | d::r,E,F=>(bd d E).bind λE1=>(mt E1 F).bind λp=>if p.1=true then(me E1 p.2).bind λy=>(Q0 bd mt me r E1 y.2).bind λz=>some (y.1::z.1,z.2) else Q0 bd mt me r E1 p.2
noncomputable def sLC (mi:DE->M (List PyData))(k:Nat)(cap:List Nat)(bd:PyData->DE->Option DE)(mt:DE->M Bool)(me:DE->M PyData):DE->M PyData:=λE F =>
 (mi E F).bind λp=>if p.1.length≤sizeLine then(Q0 bd mt me p.1 (a26 k cap E) p.2).bind λz=>some (.list z.1,z.2) else none
noncomputable def b0F (K:PySem.W.Frag)(G:GF)(B:List Addr)(D:Addr)(H1:Hp)(bd:PyData->DE->Option DE)(mt:DE->M Bool)(me:DE->M PyData)(items whole:List PyData)(Fz:FS)(i:Nat)(σ:St)(acc:List V)(H:Hp):Prop :=
 ∃E F done rest,SitE K G (D::B) E F σ H∧H D=some (.lst acc)∧Kp (k8 K G) H1 H∧(∀(j:Nat) (ds:List PyData),E[j]? = some (some (DV.own ds))->σ[j]? ≠ some (some (V.ref D)))∧a8 K (hid H (D::B)) done acc∧Q0 bd mt me (items.drop i) E F=some (rest,Fz)∧whole=done++rest∧done.length≤i
theorem b3H {wi:TI}{mi:DE->M (List PyData)}{k:Nat}{cap:List Nat}{g:TG}{bd:PyData->DE->Option DE}{tt:TT}{mt:DE->M Bool}{me:DE->M PyData}(hi:TIs K wi mi)(hg:TGd K g bd)(ht:TTd K tt mt)(he:TEd K te me) :
  TEd K (tLC wi k cap g tt te) (sLC mi k cap bd mt me):=λG B E F σ H Q d F' I e q=>by
 obtain⟨⟨items,F1⟩,e1,e⟩:=Option.bind_eq_some_iff.mp e
 split at e
 ·rename_i hsz
  obtain⟨⟨whole,F2⟩,e2,e⟩:=Option.bind_eq_some_iff.mp e
  cases e
  refine hi G B E F σ H _ items F1 I e1 λJ H1 k1 f1 ok D hD=>?_
  have I1:SitE K G B E F1 σ H1:=I.step k1 f1
  have hBD:D ∉ B:=I1.bk.nin hD
  have hfD:D ∉ k8 K G:=λz=>hBD (I.fB D z)
  have hsz:items.length≤sizeLine:=hsz
  have stab:∀{H':Hp},Kp (k8 K G) H1 H'->Kp (k8 K G) H1 H'∧i5 (hid H1 B) (hid H' (D::B)):=λ{H'} k=>⟨k,λb o eb=>by
   by_cases hb:b∈B
   ·rw[B3 hb]at eb;cases eb
   ·rw[l8 hb]at eb
    rw[l8 (by
     intro z
     rcases List.mem_cons.mp z with rfl | z
     ·rw[hD]at eb;cases eb
     ·exact hb z)]
    exact k b o eb λz=>hb (I.fB b z)⟩
  refine a8v items.length (b0F K G B D H1 bd mt me items whole F2) ?_ ?_ ?_ ?_ ?_
  ·refine⟨a26 k cap E,F1,[],whole,(I1.cap k cap).more hD,g8,Kp.upd hD,λj ds ej z=>?_,a8.nil,e2,rfl,Nat.le_refl _⟩
   obtain⟨v,v1,a,xs,rfl,_,_,ha,_⟩:=(I1.cap k cap).loc j _ ej
   rw[v1]at z
   cases z
   rw[hD]at ha;cases ha
  ·rintro i σ' acc H' hlt ⟨E',F3,done,rest,I2,hD2,k2,ow,hd2,e3,ew,hdi⟩
   exact((ok H' (D::B) (stab k2)).1 i items[i] (by simp[hlt])).1
  ·rintro σ' acc H' ⟨E',F3,done,rest,I2,hD2,k2,ow,hd2,e3,ew,hdi⟩
   exact(ok H' (D::B) (stab k2)).2
  ·rintro i σ' acc H' hlt ⟨E',F3,done,rest,I2,hD2,k2,ow,hd2,e3,ew,hdi⟩ x H2 y R hR
   obtain⟨s2,hx⟩:=((ok H' (D::B) (stab k2)).1 i items[i] (by simp[hlt])).2 x H2 y
   have hx':=hx I2.bk
   rw[List.drop_eq_getElem_cons hlt,Q0]at e3
   obtain⟨E4,e4,e3⟩:=Option.bind_eq_some_iff.mp e3
   obtain⟨⟨b,F5⟩,e5,e3⟩:=Option.bind_eq_some_iff.mp e3
   have I3:SitE K G (D::B) E' F3 σ' H2:=I2.step (Kp.same s2) (I2.fd.same s2)
   refine hg G (D::B) E' F3 σ' H2 x items[i] E4 _ I3 hx' e4 λσ4 I4 fr=>?_
   have ow4:∀(j:Nat) (ds:List PyData),E4[j]? = some (some (DV.own ds))->σ4[j]? ≠ some (some (V.ref D)):=λj ds ej=>by
    obtain⟨a1,a2⟩:=fr j λy z=>by rw[ej]at z;cases z
    rw[a2];exact ow j ds (a1▸ej)
   refine ht G (D::B) E4 F3 σ4 H2 _ b F5 I4 e5 λH5 k5 f5=>?_
   have kall:Kp (k8 K G) H1 H5:=(k2.trans (Kp.same s2)).trans k5
   have I5:SitE K G (D::B) E4 F5 σ4 H5:=I4.step k5 f5
   have hD5:H5 D=some (.lst acc):=k5 D _ (s2 D _ hD2) hfD
   have hd5:a8 K (hid H5 (D::B)) done acc:=(hd2.same ((Kp.same s2).hid (fp:=[]) (by simp))).same (k5.hid I4.fB)
   cases b with
   | false =>
    exact⟨hD5,hR _ _ _ ⟨E4,F5,done,rest,I5,hD5,kall,ow4,hd5,e3,ew,by omega⟩⟩
   | true =>
    obtain⟨⟨yd,F6⟩,e6,e3⟩:=Option.bind_eq_some_iff.mp e3
    obtain⟨⟨zs,F7⟩,e7,e3⟩:=Option.bind_eq_some_iff.mp e3
    cases e3
    refine he G (D::B) E4 F5 σ4 H5 _ yd F6 I5 e6 λv H6 k6 f6 h6=>?_
    have hD6:H6 D=some (.lst acc):=k6 D _ hD5 hfD
    have I6:SitE K G (D::B) E4 F6 σ4 H6:=I5.step k6 f6
    have hd6:=hd5.same (k6.hid I5.fB)
    have hlen:acc.length<sizeLine:=by rw[hd2.length];omega
    refine⟨hD6,hlen,hR _ _ _ ⟨E4,F6,done++[yd],zs,I6.wr hfD ow4 hD6,g8,λb o eb nb=>?_,ow4,?_,e7,by rw[ew];simp,by simp;omega⟩⟩
    ·have:=k6 b o (kall b o eb nb) nb
     rw[f7];exact this
     intro z;subst z;rw[hD]at eb;cases eb
    ·rw[W0 List.mem_cons_self]
     exact hd6.snoc h6
  ·rintro σ' acc H' ⟨E',F3,done,rest,I2,hD2,k2,ow,hd2,e3,ew,hdi⟩
   rw[List.drop_length,Q0]at e3
   cases e3
   rw[List.append_nil]at ew
   subst ew
   refine q _ H' (k1.trans k2) I2.fd ?_
   refine b7.lst (by rw[l8 hBD];exact hD2) (hd2.same (N3 λb hb=>List.mem_cons_of_mem _ hb))
 ·cases e
theorem T9 {elt:Expr}{ifs:List Expr}{scope osc:Scope}{N:List Str}{k:Nat}{cap:List Nat}{wi:TI}{g:TG}{tt:TT}{mi:DE->M (List PyData)}{bd:PyData->DE->Option DE}{mt:DE->M Bool}{me:DE->M PyData}
  (hc:X.calm=true) (hosc:X.env.scope=osc) (hcap:Caps X.N osc N k cap scope) (hi:Eib K X tg iter wi mi)
  (hg:∀cl C ex pins s H,Eg K (cxC X N scope cl C ex pins s H) tg g bd)
  (ht:∀cl C ex pins s H,Ets K (cxC X N scope cl C ex pins s H) ifs tt mt)
  (he:∀cl C ex pins s H,Ev K (cxC X N scope cl C ex pins s H) elt te me)
  (hs:∀x,foldedSetIterable iter X.env x=pure x:=by intro _;rfl) :
  Ev K X (.ListComp elt [⟨tg,iter,ifs,0⟩] scope pos) (tLC wi k cap g tt te) (sLC mi k cap bd mt me) :=
 ⟨b0Q hc hosc hcap hi.pi (λcl C ex pins s H=>(hg cl C ex pins s H).pg) (λcl C ex pins s H=>(ht cl C ex pins s H).pts) (λcl C ex pins s H=>(he cl C ex pins s H).pe) hs,
  b3H hi.ok (hg [] 0 [] [] X.s₀ X.H₀).ok (ht [] 0 [] [] X.s₀ X.H₀).ok (he [] 0 [] [] X.s₀ X.H₀).ok⟩
end
end L3
namespace L3
open PySem PySem.Spec PyProof.Rows L2
section
variable [Feeds]
inductive Out where
 | nx (E:DE) | rt (d:PyData) | bk (E:DE) | ct (E:DE)
structure Sit (K:PySem.W.Frag) (G:GF) (B0:List Addr) (H0:Hp) (E:DE) (F:FS) (σ:St) (H:Hp):Prop where
 ex:∃B,(∀b∈B0,b∈B)∧(∀b∈B,b∈B0∨H0 b=none)∧SitE K G B E F σ H
 fB:∀b∈k8 K G,b∈B0
 kp:Kp (k8 K G) H0 H
 own:∀(i:Nat) (ds:List PyData) (a:Addr),E[i]? = some (some (DV.own ds))->σ[i]? = some (some (V.ref a))->H0 a=none∧a ∉ B0
 inj:∀(i j:Nat) (ds es:List PyData) (a:Addr),E[i]? = some (some (DV.own ds))->E[j]? = some (some (DV.own es))->σ[i]? = some (some (V.ref a))->σ[j]? = some (some (V.ref a))->i=j
noncomputable def b2G (K:PySem.W.Frag)(G:GF)(B0:List Addr)(H0:Hp)(F:FS)(D:Ends):Out->Prop
 | .nx E=>∀σ H,Sit K G B0 H0 E F σ H->D.nx σ H
 | .bk E=>∀σ H,Sit K G B0 H0 E F σ H->D.bk σ H
 | .ct E=>∀σ H,Sit K G B0 H0 E F σ H->D.ct σ H
 | .rt d=>∀v H,Kp (k8 K G) H0 H->FAt K G H F->b7 K (hid H B0) d v->D.rt v H
noncomputable def TSd (K:PySem.W.Frag)(ts:TS)(m:DE->M Out):Prop:=∀(G:GF) (B0:List Addr) (H0:Hp) (E:DE) (F:FS) (σ:St) (H:Hp) (D:Ends) (r:Out) (F':FS),Sit K G B0 H0 E F σ H->m E F=some (r,F')->b2G K G B0 H0 F' D r->ts D σ H
structure Ss (K:PySem.W.Frag) (X:Cx) (st:Stmt) (ts:TS) (m:DE->M Out):Prop where
 ps:PS X st ts
 ok:TSd K ts m
structure Sss (K:PySem.W.Frag) (X:Cx) (sts:List Stmt) (ts:TS) (m:DE->M Out):Prop where
 ps:PSs X sts ts
 ok:TSd K ts m
variable {K:PySem.W.Frag}{X:Cx}{a b c e tg iter:Expr}{es:List Expr}{st:Stmt}{sts rest:List Stmt}{ta tb te:TE}{ma mb m:DE->M PyData}{t u:TS}{mt mu:DE->M Out}{pos pos' p p2:Pos}
theorem Sit.step {G:GF}{B0:List Addr}{H0:Hp}{E:DE}{F F':FS}{σ:St}{H H':Hp}(S:Sit K G B0 H0 E F σ H)(k:Kp (k8 K G) H H')(f:FAt K G H' F'):Sit K G B0 H0 E F' σ H':=by
 obtain⟨B,s,sn,I⟩:=S.ex
 exact⟨⟨B,s,sn,I.step k f⟩,S.fB,S.kp.trans k,S.own,S.inj⟩
noncomputable def mNx:DE->M Out:=λE F=>some (.nx E,F)
noncomputable def mSq (a b:DE->M Out):DE->M Out:=λE F=>(a E F).bind λp=>match p.1 with
 | .nx E1=>b E1 p.2
 | o=>some (o,p.2)
theorem B1:Sss K X [] b0L mNx:=⟨a3c,λG B0 H0 E F σ H D r F' S e q=>by cases e;exact q σ H S⟩
theorem c7 (h1:Ss K X st t mt)(h2:Sss K X rest u mu):Sss K X (st::rest) (a9W t u) (mSq mt mu):=⟨z8 h1.ps h2.ps,λG B0 H0 E F σ H D r F' S e q=>by
 obtain⟨⟨o,F1⟩,e1,e⟩:=Option.bind_eq_some_iff.mp e
 refine h1.ok G B0 H0 E F σ H _ o F1 S e1 ?_
 cases o with
 | nx E1=>exact λσ' H' S'=>h2.ok G B0 H0 E1 F1 σ' H' D r F' S' e q
 | rt d=>cases e;exact q
 | bk E1=>cases e;exact q
 | ct E1=>cases e;exact q⟩
theorem g6 (h1:Ss K X st t mt):Sss K X [st] t mt:=⟨W9 h1.ps,h1.ok⟩
noncomputable def mRt (a:DE->M PyData):DE->M Out:=λE F=>(a E F).bind λp=>some (.rt p.1,p.2)
theorem r6 (h:Ev K X e te m):Ss K X (.Return (some e) pos) (a9R te) (mRt m):=⟨Z9 h.pe,λG B0 H0 E F σ H D r F' S e q=>by
 obtain⟨⟨d,F1⟩,e1,e⟩:=Option.bind_eq_some_iff.mp e
 cases e
 obtain⟨B,s,sn,I⟩:=S.ex
 exact h.ok G B E F σ H _ d F1 I e1 λv H1 k1 f1 h1=>q v H1 (S.kp.trans k1) f1 (h1.same (N3 s))⟩
theorem a5Z (i:Nat){x:Str}(hN:X.N[i]? = some x:=by rfl)(hv:Vis X.env.scope x:=by first | exact Or.inl rfl | exact Or.inr (Or.inl rfl) | exact Or.inr (Or.inr rfl))(hd:(x == ("__debug__":Str))=false:=by decide)
  (hcd:(x == ("__classdict__":Str))=false:=by decide):Ss K X (.Return (some (.Name x p)) pos) (a9R (a0D i)) (mRt (sW i)):=⟨Z9 (U8 hN hv hd hcd),λG B0 H0 E F σ H D r F' S e q=>by
 obtain⟨⟨d,F1⟩,e1,e⟩:=Option.bind_eq_some_iff.mp e
 cases e
 obtain⟨B,s,sn,I⟩:=S.ex
 unfold sW at e1
 split at e1
 ·rename_i x hx
  cases e1
  obtain⟨v,h1,h2⟩:=I.loc i _ hx
  exact⟨v,h1,q v H S.kp I.fd (b7.same h2 (N3 s))⟩
 ·rename_i x hx
  cases e1
  obtain⟨v,h1,p,xs,rfl,hB,hf,hp,hd⟩:=I.loc i _ hx
  obtain⟨n1,n2⟩:=S.own i x p hx h1
  exact⟨_,h1,q _ H S.kp I.fd (b7.lst (by rw[l8 n2];exact hp) (hd.same (N3 s)))⟩
 ·cases e1⟩
noncomputable def v5 (i:Nat)(a:DE->M PyData):DE->M Out:=λE F=>(a E F).bind λp=>(bN i p.1 E).bind λE1=>some (.nx E1,p.2)
theorem Sit.bind {G:GF}{B0 B:List Addr}{H0:Hp}{E E':DE}{F F':FS}{σ σ':St}{H:Hp}(S:Sit K G B0 H0 E F σ H)(s:∀b∈B0,b∈B)(sn:∀b∈B,b∈B0∨H0 b=none)(I:SitE K G B E' F' σ' H)(fr:∀i:Nat,(∀y,E'[i]? ≠ some (some (.dat y)))->E'[i]? = E[i]? ∧ σ'[i]? = σ[i]?):Sit K G B0 H0 E' F' σ' H:=by
 refine⟨⟨B,s,sn,I⟩,S.fB,S.kp,λi ds a ei si=>?_,λi j ds es a ei ej si sj=>?_⟩
 ·obtain⟨a1,a2⟩:=fr i λy z=>by rw[ei]at z;cases z
  exact S.own i ds a (a1▸ei) (a2▸si)
 ·obtain⟨a1,a2⟩:=fr i λy z=>by rw[ei]at z;cases z
  obtain⟨b1,b2⟩:=fr j λy z=>by rw[ej]at z;cases z
  exact S.inj i j ds es a (a1▸ei) (b1▸ej) (a2▸si) (b2▸sj)
theorem a8y {g:TG}{bd:PyData->DE->Option DE}(he:TEd K te m)(hg:TGd K g bd):TSd K (a1k te g) (λE F=>(m E F).bind λp=>(bd p.1 E).bind λE1=>some (.nx E1,p.2)):=λG B0 H0 E F σ H D r F' S e q=>by
 obtain⟨⟨d,F1⟩,e1,e⟩:=Option.bind_eq_some_iff.mp e
 obtain⟨E1,e2,e⟩:=Option.bind_eq_some_iff.mp e
 cases e
 obtain⟨B,s,sn,I⟩:=S.ex
 refine he G B E F σ H _ d F1 I e1 λv H1 k1 f1 h1=>?_
 have S1:=S.step k1 f1
 exact hg G B E F1 σ H1 v d E1 _ (I.step k1 f1) h1 e2 λσ' I' fr=>q σ' H1 (S1.bind s sn I' fr)
theorem a54 (i:Nat):TGd K (T2 i) (bN i):=λG B E F σ H x d E' Q I h e q=>by
 unfold bN at e
 split at e
 ·rename_i hl
  cases e
  refine q _ (I.set h hl) λj hj=>?_
  by_cases hij:i=j
  ·subst hij
   exact absurd (List.getElem?_set_self hl) (hj d)
  ·rw[List.getElem?_set_ne hij,List.getElem?_set_ne hij]
   exact⟨rfl,rfl⟩
 ·cases e
theorem t8 (i:Nat){x:Str}(hN:X.N.Nodup)(he:Ev K X e te m)(hi:X.N[i]? = some x:=by rfl)(hx:Loc X.env.scope x:=by first | exact Or.inl rfl | exact Or.inr rfl)(hs:swapsWith e (some (.Name x pos')) pos.line X.env=pure false:=by rfl)(hf:X.fn x=true∨X.env.scope.names.lookup x=some .local:=by first | exact .inl rfl | exact .inr rfl | assumption) :
  Ss K X (.Assign [.Name x pos'] e pos) (a1k te (T2 i)) (v5 i m):=⟨Z2 hN hi hx he.pe hs hf,a8y he.ok (a54 i)⟩
noncomputable def M4 (bd:PyData->DE->Option DE)(a:DE->M PyData):DE->M Out:=λE F=>(a E F).bind λp=>(bd p.1 E).bind λE1=>some (.nx E1,p.2)
theorem K0 {g:TG}{bd:PyData->DE->Option DE}(he:Ev K X e te m)(hg:Eg K X tg g bd)(hs:swapsWithSole [tg] e pos.line X.env=pure false:=by rfl)(hw:swappedStores [tg] e X.env=pure none:=by rfl)
  (h1:(assignEach [tg] X.env).map (·.2)=[assign tg X.env]:=by rfl):Ss K X (.Assign [tg] e pos) (a1k te g) (M4 bd m):=⟨a0Y he.pe hg.pg hs hw h1,a8y he.ok hg.ok⟩
theorem a3V (i:Nat){y:Str}{py:Pos}{elt:Expr}{ifs:List Expr}{scope osc:Scope}{N:List Str}{k:Nat}{cap:List Nat}{wi:TI}{g:TG}{tt:TT}{mi:DE->M (List PyData)}{bd:PyData->DE->Option DE}{mt:DE->M Bool}{me:DE->M PyData}
  (hN:X.N.Nodup) (hc:X.calm=true) (hosc:X.env.scope=osc) (hcap:Caps X.N osc N k cap scope) (hi:Eib K X tg iter wi mi)
  (hg:∀cl C ex pins s H,Eg K (cxC X N scope cl C ex pins s H) tg g bd)
  (ht:∀cl C ex pins s H,Ets K (cxC X N scope cl C ex pins s H) ifs tt mt)
  (he:∀cl C ex pins s H,Ev K (cxC X N scope cl C ex pins s H) elt te me)
  (hix:X.N[i]? = some y:=by rfl) (hLy:Loc X.env.scope y:=by first | exact Or.inl rfl | exact Or.inr rfl)
  (hs:∀x,foldedSetIterable iter X.env x=pure x:=by intro _;rfl) (hfy:X.fn y=true∨X.env.scope.names.lookup y=some .local:=by first | exact .inl rfl | exact .inr rfl | assumption)
  (hsw:swapsWith (.ListComp elt [⟨tg,iter,ifs,0⟩] scope p) (some (.Name y py)) pos.line X.env=pure true:=by rfl) :
  Ss K X (.Assign [.Name y py] (.ListComp elt [⟨tg,iter,ifs,0⟩] scope p) pos) (a1k (tLC wi k cap g tt te) (T2 i)) (v5 i (sLC mi k cap bd mt me)) :=
 ⟨a8i hN hix hLy hc hosc hcap hi.pi (λcl C ex pins s H=>(hg cl C ex pins s H).pg) (λcl C ex pins s H=>(ht cl C ex pins s H).pts) (λcl C ex pins s H=>(he cl C ex pins s H).pe) hs hfy hsw,
  a8y (b3H hi.ok (hg [] 0 [] [] X.s₀ X.H₀).ok (ht [] 0 [] [] X.s₀ X.H₀).ok (he [] 0 [] [] X.s₀ X.H₀).ok) (a54 i)⟩
noncomputable def mIf (c:DE->M Bool)(a b:DE->M Out):DE->M Out:=λE F=>(c E F).bind λp=>if p.1=true then a E p.2 else b E p.2
theorem G6 {x y:List Stmt}{tt:TT}{mc:DE->M Bool}(hc:Et K X c tt mc)(ha:Sss K X x t mt)(hb:Sss K X y u mu):Ss K X (.If c x y pos) (b37 tt t u) (mIf mc mt mu):=⟨a8p hc.pt ha.ps hb.ps,λG B0 H0 E F σ H D r F' S e q=>by
 obtain⟨⟨d,F1⟩,e1,e⟩:=Option.bind_eq_some_iff.mp e
 obtain⟨B,s,sn,I⟩:=S.ex
 refine hc.ok G B E F σ H _ d F1 I e1 λH1 k1 f1=>?_
 cases d with
 | true=>exact ha.ok G B0 H0 E F1 σ H1 D r F' (S.step k1 f1) e q
 | false=>exact hb.ok G B0 H0 E F1 σ H1 D r F' (S.step k1 f1) e q⟩
end
end L3
namespace L3
open PySem PySem.Spec PyProof.Rows L2
section
variable [Feeds]{K:PySem.W.Frag}{X:Cx}{a b c e tg iter:Expr}{es:List Expr}{st:Stmt}{sts rest:List Stmt}{ta tb te:TE}{ma mb m:DE->M PyData}{t u:TS}{mt mu:DE->M Out}{pos pos' p p2:Pos}
noncomputable def a0w (H:Hp)(B B0:List Addr):Hp:=hid H (B.filter λb=>decide (b ∉ B0))
theorem a2B {H:Hp}{B B0:List Addr}{b:Addr}(h1:b∈B)(h2:b ∉ B0):a0w H B B0 b=none:=B3 (List.mem_filter.mpr ⟨h1,by simpa using h2⟩)
theorem a0I {H:Hp}{B B0:List Addr}{b:Addr}(h:b ∉ B∨b∈B0):a0w H B B0 b=H b:=l8 λz=>by
 obtain⟨z1,z2⟩:=List.mem_filter.mp z
 rcases h with h | h
 ·exact h z1
 ·simp at z2;exact z2 h
section
variable {G:GF}{B0 B:List Addr}{H0:Hp}{E E2:DE}{F F2:FS}{σ σ2:St}{H H2:Hp}
theorem Sit.base (S:Sit K G B0 H0 E F σ H)(s:∀b∈B0,b∈B)(sn:∀b∈B,b∈B0∨H0 b=none)(I:SitE K G B E F σ H):Sit K G B0 (a0w H B B0) E F σ H:=by
 refine⟨⟨B,s,λb hb=>?_,I⟩,S.fB,Kp.same d6,λi ds a ei si=>?_,S.inj⟩
 ·by_cases h:b∈B0
  ·exact .inl h
  ·exact .inr (a2B hb h)
 ·obtain⟨v,v1,a',xs,rfl,hB,_⟩:=I.loc i _ ei
  rw[v1]at si;cases si
  exact⟨a2B hB (S.own i ds _ ei v1).2,(S.own i ds _ ei v1).2⟩
theorem a7n (S:Sit K G B0 H0 E F σ H)(sn:∀b∈B,b∈B0∨H0 b=none)(k:Kp (k8 K G) (a0w H B B0) H2):Kp (k8 K G) H0 H2:=λb o e n=>by
 refine k b o ?_ n
 rw[a0I]
 ·exact S.kp b o e n
 ·by_cases hb:b∈B
  ·rcases sn b hb with h | h
   ·exact .inr h
   ·rw[h]at e;cases e
  ·exact .inl hb
theorem Sit.unbase (S:Sit K G B0 H0 E F σ H)(sn:∀b∈B,b∈B0∨H0 b=none)(S2:Sit K G B0 (a0w H B B0) E2 F2 σ2 H2):Sit K G B0 H0 E2 F2 σ2 H2:=by
 have no:∀b,a0w H B B0 b=none->b∈B0∨H0 b=none:=λb e=>by
  by_cases hb:b∈B
  ·exact sn b hb
  ·rw[a0I (.inl hb)]at e
   by_cases hf:b∈k8 K G
   ·exact .inl (S.fB b hf)
   ·cases q:H0 b with
    | none=>exact .inr rfl
    | some o=>rw[S.kp b o q hf]at e;cases e
 obtain⟨B2,s2,sn2,I2⟩:=S2.ex
 refine⟨⟨B2,s2,λb hb=>?_,I2⟩,S.fB,a7n S sn S2.kp,λi ds a ei si=>?_,S2.inj⟩
 ·rcases sn2 b hb with h | h
  ·exact .inl h
  ·exact no b h
 ·obtain⟨h1,h2⟩:=S2.own i ds a ei si
  exact⟨(no a h1).resolve_left h2,h2⟩
end
noncomputable def U1 (bd:PyData->DE->Option DE)(body:DE->M Out):List PyData->DE->M Out
 | [],E,F=>some (.nx E,F)
 | d::r,E,F=>(bd d E).bind λE1=>(body E1 F).bind λp=>match p.1 with
  | .nx E2=>U1 bd body r E2 p.2
  | .ct E2=>U1 bd body r E2 p.2
  | .bk E2=>some (.nx E2,p.2)
  | .rt d=>some (.rt d,p.2)
noncomputable def M8 (mi:DE->M (List PyData))(bd:PyData->DE->Option DE)(body:DE->M Out):DE->M Out:=λE F=>(mi E F).bind λp=>U1 bd body p.1 E p.2
theorem b3s {wi:TI}{g:TG}{tb:TS}{mi:DE->M (List PyData)}{bd:PyData->DE->Option DE}{mb:DE->M Out}(hi:TId K wi mi)(hg:TGd K g bd)(hb:TSd K tb mb):TSd K (b1r wi g tb) (M8 mi bd mb):=λG B0 H0 E F σ H D r F' S e q=>by
 obtain⟨⟨items,F1⟩,e1,e⟩:=Option.bind_eq_some_iff.mp e
 obtain⟨B,s,sn,I⟩:=S.ex
 refine hi G B E F σ H _ items F1 I e1 λJ H1 k1 f1 ok=>?_
 have S1:=S.step k1 f1
 have I1:=I.step k1 f1
 have S1':=S1.base s sn I1
 have qn:∀{E2:DE} {F2:FS},r = .nx E2->F'=F2->∀σ2 H2,Sit K G B0 (a0w H1 B B0) E2 F2 σ2 H2->D.nx σ2 H2:=λ{E2 F2} er ef σ2 H2 S2=>by
  subst er ef
  exact q σ2 H2 (S1.unbase sn S2)
 have stab:∀{E2:DE} {F2:FS} {σ2:St} {H2:Hp} {B2:List Addr},Sit K G B0 (a0w H1 B B0) E2 F2 σ2 H2->(∀b∈B2,b∈B0∨a0w H1 B B0 b=none)->i5 (hid H1 B) (hid H2 B2):=λ{E2 F2 σ2 H2 B2} S2 sn2 b o eb=>by
  by_cases hB:b∈B
  ·rw[B3 hB]at eb;cases eb
  ·rw[l8 hB]at eb
   have ec:a0w H1 B B0 b=some o:=by rw[a0I (.inl hB)];exact eb
   rw[l8 λz=>(sn2 b z).elim (λh=>hB (s b h)) λh=>by rw[h]at ec;cases ec]
   exact S2.kp b o ec λz=>hB (s b (S.fB b z))
 refine⟨λi m σ H=>m=items.length-i∧i≤items.length∧∃E F,Sit K G B0 (a0w H1 B B0) E F σ H∧U1 bd mb (items.drop i) E F=some (r,F'),⟨items.length,by simp,Nat.zero_le _,E,F1,S1',e⟩,?_⟩
 rintro i mm σ2 H2 ⟨rfl,hi2,E2,F2,S2,e2⟩
 obtain⟨B2,s2,sn2,I2⟩:=S2.ex
 have st2:=stab S2 sn2
 by_cases hlt:i<items.length
 ·refine .inr ⟨((ok H2 B2 st2).1 i items[i] (by simp[hlt])).1,λσ' H'=>i+1≤items.length∧∃E F,Sit K G B0 (a0w H1 B B0) E F σ' H'∧U1 bd mb (items.drop (i+1)) E F=some (r,F'),λσ' H' ⟨h1,h2⟩=>⟨items.length-(i+1),by omega,rfl,h1,h2⟩,λx H3 y=>?_⟩
  obtain⟨s3,hx⟩:=((ok H2 B2 st2).1 i items[i] (by simp[hlt])).2 x H3 y
  have hx:=hx I2.bk
  rw[List.drop_eq_getElem_cons hlt,U1]at e2
  obtain⟨E4,e4,e2⟩:=Option.bind_eq_some_iff.mp e2
  obtain⟨⟨o,F5⟩,e5,e2⟩:=Option.bind_eq_some_iff.mp e2
  have S3:=S2.step (Kp.same s3) (I2.fd.same s3)
  have I3:SitE K G B2 E2 F2 σ2 H3:=I2.step (Kp.same s3) (I2.fd.same s3)
  refine hg G B2 E2 F2 σ2 H3 x items[i] E4 _ I3 hx e4 λσ4 I4 fr=>?_
  refine hb G B0 (a0w H1 B B0) E4 F2 σ4 H3 _ o F5 (S3.bind s2 sn2 I4 fr) e5 ?_
  cases o with
  | nx E6=>exact λσ6 H6 S6=>⟨hlt,E6,F5,S6,e2⟩
  | ct E6=>exact λσ6 H6 S6=>⟨hlt,E6,F5,S6,e2⟩
  | bk E6=>cases e2;exact λσ6 H6 S6=>qn rfl rfl σ6 H6 S6
  | rt d=>cases e2;exact λv H6 k6 f6 h6=>q v H6 (a7n S1 sn k6) f6 h6
 ·have ei:i=items.length:=by omega
  subst ei
  rw[List.drop_length,U1]at e2
  cases e2
  exact .inl ⟨(ok H2 B2 st2).2,qn rfl rfl σ2 H2 S2⟩
theorem J9 {body:List Stmt}{wi:TI}{g:TG}{tb:TS}{mi:DE->M (List PyData)}{bd:PyData->DE->Option DE}{mb:DE->M Out}(hc:X.calm=true)(hi:Ei K X tg iter wi mi)(hg:Eg K X tg g bd)(hb:Sss K X body tb mb)(hp:PassesOwn (model X.prog X.w) X.A X.env X.xe:=by exact PassesOwn.never)
  (hs:∀x,foldedSetIterable iter X.env x=pure x:=by intro _;rfl):Ss K X (.For tg iter body [] pos) (b1r wi g tb) (M8 mi bd mb):=⟨b1o hp hc hi.pi hg.pg hb.ps hs,b3s hi.ok hg.ok hb.ok⟩
noncomputable def TFd (K:PySem.W.Frag)(te:TE)(m:DE->M (List PyData)):Prop:=∀(G:GF) (B:List Addr) (E:DE) (F:FS) (σ:St) (H:Hp) (Q:VK) (ds:List PyData) (F':FS),SitE K G B E F σ H->m E F=some (ds,F') ->
 (∀a vs H',H a=none->H' a=some (.lst vs)->Kp (k8 K G) H H'->FAt K G H' F'->a8 K (hid H' (a::B)) ds vs->Q (.ref a) H')->te σ H Q
structure Ef (K:PySem.W.Frag) (X:Cx) (e:Expr) (te:TE) (m:DE->M (List PyData)):Prop where
 pe:PE X e te
 ok:TFd K te m
theorem Kp.none {fp:List Addr}{H H':Hp}{b:Addr}(k:Kp fp H H')(h:H' b=none)(n:b ∉ fp):H b=none:=by
 cases q:H b with
 | none=>rfl
 | some o=>rw[k b o q n]at h;cases h
theorem a2h {H:Hp}{B:List Addr}{p:Addr}{o:HO}(hp:H p=none):i5 (hid H B) (hid (upd H p o) (p::B)):=λb u e=>by
 by_cases hb:b∈B
 ·rw[B3 hb]at e;cases e
 ·rw[l8 hb]at e
  have hne:=l5 e hp
  rw[l8 (by simp[hne,hb]),f7 hne];exact e
noncomputable def J8 (a:DE->M (List PyData)):DE->M (List PyData):=λE F=>(a E F).bind λp=>if p.1.length≤sizeLine then some (p.1,p.2) else none
theorem J0 {t:TA}{ms:DE->M (List PyData)}(h:Ea K X es t ms):Ef K X (.List es pos) (b0p t) (J8 ms):=⟨a1I h.pa,λG B E F σ H Q d F' I e q=>by
 obtain⟨⟨x,F1⟩,e1,e⟩:=Option.bind_eq_some_iff.mp e
 split at e
 ·rename_i hl
  cases e
  refine h.ok G B E F σ H _ x F1 I e1 λvs H1 k1 f1 h1=>⟨by rw[h1.length];exact hl,λp hp=>?_⟩
  have hnf:p ∉ k8 K G:=λz=>(p6 I.bk k1 f1).nin hp (I.fB p z)
  exact q p vs _ (k1.none hp hnf) g8 (k1.trans (Kp.upd hp)) (f1.same (i5.upd hp)) (h1.same (a2h hp))
 ·cases e⟩
noncomputable def T5 (i:Nat)(a:DE->M (List PyData)):DE->M Out:=λE F=>(a E F).bind λp=>if i<E.length then some (.nx (E.set i (some (.own p.1))),p.2) else none
theorem b3a {i:Nat}{mf:DE->M (List PyData)}(he:TFd K te mf):TSd K (a1k te (T2 i)) (T5 i mf):=λG B0 H0 E F σ H D r F' S e q=>by
 obtain⟨⟨ds,F1⟩,e1,e⟩:=Option.bind_eq_some_iff.mp e
 split at e
 ·rename_i hl
  cases e
  obtain⟨B,s,sn,I⟩:=S.ex
  refine he G B E F σ H _ ds _ I e1 λa vs H1 hn ha k1 f1 h1=>?_
  have I1:=I.step k1 f1
  have hsl:i < σ.length:=by rw[←I.ln];exact hl
  have haB:a ∉ B:=I.bk.nin hn
  have haf:a ∉ k8 K G:=λz=>haB (I.fB a z)
  have h0:H0 a=none:=S.kp.none hn haf
  have sm:i5 (hid H B) (hid H1 (a::B)):=λb o eb=>by
   by_cases hb:b∈B
   ·rw[B3 hb]at eb;cases eb
   ·rw[l8 hb]at eb
    have hne:=l5 eb hn
    rw[l8 (by simp[hne,hb])]
    exact k1 b o eb λz=>hb (I.fB b z)
  refine q _ H1 ⟨⟨a::B,λb hb=>List.mem_cons_of_mem _ (s b hb),λb hb=>?_,⟨f1,λb hb=>List.mem_cons_of_mem _ (I.fB b hb),λb hb=>?_,by rw[List.length_set,List.length_set];exact I.ln,λj x ej=>?_⟩⟩,S.fB,S.kp.trans k1,λj es a' ej sj=>?_,λj k es es' a' ej ek sj sk=>?_⟩
  ·rcases List.mem_cons.mp hb with rfl | hb
   ·exact .inr h0
   ·exact sn b hb
  ·rcases List.mem_cons.mp hb with rfl | hb
   ·exact⟨_,ha⟩
   ·exact I1.bk b hb
  ·by_cases hj:i=j
   ·subst hj
    rw[List.getElem?_set_self hl]at ej
    cases ej
    exact⟨.ref a,by rw[List.getElem?_set_self hsl],a,vs,rfl,List.mem_cons_self,haf,ha,h1⟩
   ·rw[List.getElem?_set_ne hj]at ej
    obtain⟨v,v1,v2⟩:=I.loc j x ej
    refine⟨v,by rw[List.getElem?_set_ne hj];exact v1,?_⟩
    cases x with
    | dat d=>exact b7.same (show b7 K (hid H B) d v from v2) sm
    | feed=>exact v2
    | fn _=>exact v2
    | own es =>
     obtain⟨a',xs',rfl,hB',hf',ha',hd'⟩:=v2
     exact⟨a',xs',rfl,List.mem_cons_of_mem _ hB',hf',k1 _ _ ha' hf',hd'.same sm⟩
  ·by_cases hj:i=j
   ·subst hj
    rw[List.getElem?_set_self hsl]at sj
    cases sj
    exact⟨h0,λz=>haB (s a z)⟩
   ·rw[List.getElem?_set_ne hj]at ej sj
    exact S.own j es a' ej sj
  ·have other:∀(j:Nat) (es:List PyData),i≠j->E[j]? = some (some (DV.own es))->σ[j]? ≠ some (some (V.ref a)):=λj es _ ej z=>by
    obtain⟨v,v1,a',xs',rfl,hB',_⟩:=I.loc j _ ej
    rw[v1]at z;cases z
    exact haB hB'
   by_cases hj:i=j
   ·by_cases hk:i=k
    ·exact hj.symm.trans hk
    ·subst hj
     rw[List.getElem?_set_self hsl]at sj
     cases sj
     rw[List.getElem?_set_ne hk]at ek sk
     exact absurd sk (other k es' hk ek)
   ·rw[List.getElem?_set_ne hj]at ej sj
    by_cases hk:i=k
    ·subst hk
     rw[List.getElem?_set_self hsl]at sk
     cases sk
     exact absurd sj (other j es hj ej)
    ·rw[List.getElem?_set_ne hk]at ek sk
     exact S.inj j k es es' a' ej ek sj sk
 ·cases e
theorem O1 (i:Nat){x:Str}{mf:DE->M (List PyData)}(hN:X.N.Nodup)(he:Ef K X e te mf)(hi:X.N[i]? = some x:=by rfl)(hx:Loc X.env.scope x:=by first | exact Or.inl rfl | exact Or.inr rfl)(hs:swapsWith e (some (.Name x pos')) pos.line X.env=pure false:=by rfl)(hf:X.fn x=true∨X.env.scope.names.lookup x=some .local:=by first | exact .inl rfl | exact .inr rfl | assumption) :
  Ss K X (.Assign [.Name x pos'] e pos) (a1k te (T2 i)) (T5 i mf):=⟨Z2 hN hi hx he.pe hs hf,b3a he.ok⟩
end
end L3
namespace L3
open PySem PySem.Spec PyProof.Rows L2
section
variable [Feeds]{K:PySem.W.Frag}{X:Cx}{a b c e tg iter:Expr}{es:List Expr}{st:Stmt}{sts rest:List Stmt}{ta tb te:TE}{ma mb m:DE->M PyData}{t u:TS}{mt mu:DE->M Out}{pos pos' p p2:Pos}
section
variable {G:GF}{B0 B:List Addr}{H0:Hp}{E:DE}{F:FS}{σ:St}{H:Hp}
theorem Sit.write {i:Nat}{ds ds':List PyData}{x:Addr}{vs':List V}(S:Sit K G B0 H0 E F σ H)(s:∀b∈B0,b∈B)(sn:∀b∈B,b∈B0∨H0 b=none)(I:SitE K G B E F σ H)(ei:E[i]? = some (some (DV.own ds)))(si:σ[i]? = some (some (V.ref x)))
  (hd:a8 K (hid H B) ds' vs'):Sit K G B0 H0 (E.set i (some (.own ds'))) F σ (upd H x (.lst vs')):=by
 have hl:i<E.length:=(List.getElem?_eq_some_iff.mp ei).1
 obtain⟨v,v1,x',xs,rfl,hB,hf,hx,_⟩:=I.loc i _ ei
 rw[si]at v1;cases v1
 have e1:hid (upd H x (.lst vs')) B=hid H B:=W0 hB
 obtain⟨n1,n2⟩:=S.own i ds x ei si
 refine⟨⟨B,s,sn,⟨I.fd.congr λb hb=>f7 (λz=>hb.elim (λhb=>hf (z▸hb)) λ⟨φ,q⟩=>by rw[z,hx]at q;cases q),I.fB,λb hb=>?_,by rw[List.length_set];exact I.ln,λj y ej=>?_⟩⟩,S.fB,λb o eb nb=>?_,λj es a' ej sj=>?_,λj k es es' a' ej ek sj sk=>?_⟩
 ·by_cases h:b=x
  ·subst h;exact⟨_,g8⟩
  ·rw[f7 h];exact I.bk b hb
 ·by_cases hj:i=j
  ·subst hj
   rw[List.getElem?_set_self hl]at ej
   cases ej
   exact⟨.ref x,si,x,vs',rfl,hB,hf,g8,by rw[e1];exact hd⟩
  ·rw[List.getElem?_set_ne hj]at ej
   obtain⟨w,w1,w2⟩:=I.loc j y ej
   refine⟨w,w1,?_⟩
   cases y with
   | dat d=>show b7 K (hid (upd H x (.lst vs')) B) d w;rw[e1];exact w2
   | feed=>exact w2
   | fn _=>exact w2
   | own es =>
    obtain⟨a',xs',rfl,hB',hf',ha',hd'⟩:=w2
    have hne:a'≠x:=λz=>hj (S.inj i j ds es x ei ej si (z▸w1))
    exact⟨a',xs',rfl,hB',hf',by rw[f7 hne];exact ha',by rw[e1];exact hd'⟩
 ·rw[f7]
  ·exact S.kp b o eb nb
  ·intro z;subst z;rw[n1]at eb;cases eb
 ·by_cases hj:i=j
  ·subst hj
   exact S.own i ds a' ei sj
  ·rw[List.getElem?_set_ne hj]at ej
   exact S.own j es a' ej sj
 ·have back:∀(j:Nat) (es:List PyData),(E.set i (some (.own ds')))[j]? = some (some (DV.own es))->∃es,E[j]? = some (some (DV.own es)):=λj es ej=>by
   by_cases hj:i=j
   ·subst hj;exact⟨ds,ei⟩
   ·rw[List.getElem?_set_ne hj]at ej;exact⟨es,ej⟩
  obtain⟨f1,ej'⟩:=back j es ej
  obtain⟨f2,ek'⟩:=back k es' ek
  exact S.inj j k f1 f2 a' ej' ek' sj sk
end
noncomputable def O8 (E:DE)(i:Nat):Option (List PyData):=match E[i]? with
 | some (some (.own ds))=>some ds
 | _=>none
theorem R1 {E:DE}{i:Nat}{ds:List PyData}(h:O8 E i=some ds):E[i]? = some (some (DV.own ds)):=by
 unfold O8 at h
 split at h
 ·rename_i q;cases h;exact q
 ·cases h
noncomputable def a5u (i:Nat)(v k:DE->M PyData):DE->M Out:=λE F=>(v E F).bind λp=>(k E p.2).bind λq=>(a06 q.1).bind λn=>(O8 E i).bind λds=>(ixN ds.length n).bind λj=>some (.nx (E.set i (some (.own (ds.set j p.1)))),q.2)
theorem a8.set {H:Hp}:∀{ds:List PyData} {xs:List V} {d:PyData} {v:V} (j:Nat),a8 K H ds xs->b7 K H d v->a8 K H (ds.set j d) (xs.set j v)
 | [],xs,d,v,j,h,h'=>by simp only[a8]at h;subst h;simp[a8]
 | e::ds,xs,d,v,0,h,h'=>by
  simp only[a8]at h
  obtain⟨y,r,rfl,h1,h2⟩:=h
  simp only[List.set_cons_zero,a8]
  exact⟨v,r,rfl,h',h2⟩
 | e::ds,xs,d,v,j+1,h,h'=>by
  simp only[a8]at h
  obtain⟨y,r,rfl,h1,h2⟩:=h
  simp only[List.set_cons_succ,a8]
  exact⟨y,r.set j v,rfl,h1,a8.set j h2 h'⟩
theorem a5p (i:Nat){x:Str}{px:Pos}(hv:Ev K X e te m)(hk:Ev K X b tb mb)(hN:X.N[i]? = some x:=by rfl)(hvis:Vis X.env.scope x:=by first | exact Or.inl rfl | exact Or.inr (Or.inl rfl) | exact Or.inr (Or.inr rfl))(hd:(x == ("__debug__":Str))=false:=by decide)(hcd:(x == ("__classdict__":Str))=false:=by decide)
  (ha:∀v,assign (.Subscript (.Name x px) b p) X.env v=(do
   let ov ←holding [v] (eval (.Name x px) X.env)
   let iv ←holding [v,ov] (eval b X.env)
   standAt p
   holding [v,ov,iv] (setItem ov iv v)
   release [v,ov,iv] []):=by intro _;rfl)
  (hs:swapsWithSole [.Subscript (.Name x px) b p] e pos.line X.env=pure false:=by rfl) (hw:swappedStores [.Subscript (.Name x px) b p] e X.env=pure none:=by rfl)
  (h1:(assignEach [.Subscript (.Name x px) b p] X.env).map (·.2)=[assign (.Subscript (.Name x px) b p) X.env]:=by rfl) :
  Ss K X (.Assign [.Subscript (.Name x px) b p] e pos) (a1k te (b2T (a0D i) tb b0C)) (a5u i m mb) :=
 ⟨a0Y hv.pe (a2U (U8 hN hvis hd hcd) hk.pe a0b ha) hs hw h1,λG B0 H0 E F σ H D r F' S e q=>by
  obtain⟨⟨d,F1⟩,e1,e⟩:=Option.bind_eq_some_iff.mp e
  obtain⟨⟨n,F2⟩,e2,e⟩:=Option.bind_eq_some_iff.mp e
  obtain⟨k,e3,e⟩:=Option.bind_eq_some_iff.mp e
  obtain⟨ds,e4,e⟩:=Option.bind_eq_some_iff.mp e
  obtain⟨j,e5,e⟩:=Option.bind_eq_some_iff.mp e
  cases e
  obtain⟨B,s,sn,I⟩:=S.ex
  have eo:=R1 e4
  refine hv.ok G B E F σ H _ d F1 I e1 λv H1 k1 f1 h1=>?_
  have I1:=I.step k1 f1
  obtain⟨w,w1,a,xs,rfl,hB,hf,hx,hdx⟩:=I1.loc i _ eo
  refine⟨_,w1,hk.ok G B E F1 σ H1 _ n _ I1 e2 λu H2 k2 f2 h2=>?_⟩
  have:=Y2 e3
  simp only at this
  subst this
  simp only[b7]at h2
  subst h2
  have I2:=I1.step k2 f2
  have S2:=S.step (k1.trans k2) f2
  have hd2:=hdx.same (k2.hid I.fB)
  refine⟨a,xs,k,j,rfl,rfl,k2 a _ hx hf,by rw[hd2.length];exact e5,q σ _ (S2.write s sn I2 eo w1 (a8.set j hd2 (h1.same (k2.hid I.fB))))⟩⟩
noncomputable def M3 (i:Nat)(v:DE->M PyData):DE->M Out:=λE F=>(v E F).bind λp=>(O8 E i).bind λds=>if ds.length<sizeLine then some (.nx (E.set i (some (.own (ds++[p.1])))),p.2) else none
theorem b3b {i:Nat}(hv:TEd K te m):TSd K (a4j (tBM K "list" a3i (a0D i) (C4 te X2))) (M3 i m):=λG B0 H0 E F σ H D r F' S e q=>by
 obtain⟨⟨d,F1⟩,e1,e⟩:=Option.bind_eq_some_iff.mp e
 obtain⟨ds,e4,e⟩:=Option.bind_eq_some_iff.mp e
 split at e
 ·rename_i hl
  cases e
  obtain⟨B,s,sn,I⟩:=S.ex
  have eo:=R1 e4
  obtain⟨w,w1,a,xs,rfl,hB,hf,hx,hdx⟩:=I.loc i _ eo
  refine⟨_,w1,.inl ⟨rfl,xs,SqL.of hx⟩,hv G B E F σ H _ d _ I e1 λu H2 k2 f2 h2=>?_⟩
  have hd2:=hdx.same (k2.hid I.fB)
  exact⟨a,xs,u,rfl,rfl,k2 a _ hx hf,by rw[hdx.length];exact hl,q σ _ ((S.step k2 f2).write s sn (I.step k2 f2) eo w1 (hd2.snoc h2))⟩
 ·cases e
noncomputable def a3v (K:PySem.W.Frag)(G:GF)(B:List Addr)(H:Hp):List DV->List V->Prop
 | [],vs=>vs=[]
 | x::xs,vs=>∃v r,vs=v::r∧(∀ds,x ≠ .own ds)∧DVr K G B H x v∧a3v K G B H xs r
noncomputable def spD (K:PySem.W.Frag)(n:Nat)(f:List DV->M PyData):Sp:=λvs H Q _=>∃G B F args d F',vs.length=n∧(∀b∈k8 K G,b∈B)∧BOk H B∧FAt K G H F∧a3v K G B H args vs∧f args F=some (d,F') ∧
 ∀v H',Kp (k8 K G) H H'->FAt K G H' F'->b7 K (hid H' B) d v->Q v H'
noncomputable def p9 (N:List Str)(args:List DV):DE:=args.map some++List.replicate (N.length-args.length) none
noncomputable def z6 (N:List Str)(m:DE->M Out):List DV->M PyData:=λargs F=>(m (p9 N args) F).bind λp=>match p.1 with
 | .rt d=>some (d,p.2)
 | .nx _=>some (.none,p.2)
 | _=>none
theorem a3v.length {G:GF}{B:List Addr}{H:Hp}:∀{args:List DV} {vs:List V},a3v K G B H args vs->vs.length=args.length
 | [],vs,h=>by cases h;rfl
 | x::xs,vs,⟨v,r,e,_,_,h⟩=>by subst e;rw[List.length_cons,List.length_cons,h.length]
theorem a3v.get {G:GF}{B:List Addr}{H:Hp}:∀{args:List DV} {vs:List V} {i:Nat} {x:DV},a3v K G B H args vs->args[i]? = some x->∃v,vs[i]? = some v∧(∀ds,x ≠ .own ds)∧DVr K G B H x v
 | [],vs,i,x,h,e=>by simp at e
 | y::xs,vs,i,x,⟨v,r,e1,h1,h2,h3⟩,e=>by
  subst e1
  cases i with
  | zero=>simp at e;subst e;exact⟨v,rfl,h1,h2⟩
  | succ i=>simpa using h3.get (i:=i) (by simpa using e)
theorem a2w {N:List Str}{args:List DV}{i:Nat}{x:DV}(h:(p9 N args)[i]? = some (some x)):args[i]? = some x:=by
 unfold p9 at h
 by_cases hi:i<args.length
 ·rw[List.getElem?_append_left (by simpa using hi),List.getElem?_map]at h
  obtain⟨y,e1,e2⟩:=Option.map_eq_some_iff.mp h
  cases e2;exact e1
 ·rw[List.getElem?_append_right (by simpa using hi),List.getElem?_replicate]at h
  split at h <;> simp at h
theorem a0E {G:GF}{B:List Addr}{F:FS}{H:Hp}{N:List Str}{args:List DV}{vs:List V}(fB:∀b∈k8 K G,b∈B)(bk:BOk H B)(f:FAt K G H F)(h:a3v K G B H args vs):Sit K G B H (p9 N args) F (L2.K5 N vs) H:=by
 have noown:∀(i:Nat) (ds:List PyData),(p9 N args)[i]? ≠ some (some (DV.own ds)):=λi ds e=>by
  obtain⟨v,_,n,_⟩:=h.get (a2w e)
  exact n ds rfl
 refine⟨⟨B,λ_ z=>z,λb hb=>.inl hb,⟨f,fB,bk,by simp[p9,L2.K5,h.length],λi x e=>?_⟩⟩,fB,Kp.refl,λi ds a e _=>absurd e (noown i ds),λi j ds es a e _ _ _=>absurd e (noown i ds)⟩
 obtain⟨v,v1,_,v2⟩:=h.get (a2w e)
 refine⟨v,?_,v2⟩
 have hi:i<vs.length:=(List.getElem?_eq_some_iff.mp v1).1
 unfold L2.K5
 rw[List.getElem?_append_left (by simpa using hi),List.getElem?_map,v1]
 rfl
variable {P:Program}{w:World}{mg:Str->Option Value}{base:Heap}
theorem y9 {x qual:Str}{f:Addr}{fd:FuncData}{N ps:List Str}{k:Nat}{m:DE->M Out}(Fn:Fun K x qual st f fd)(S:FnScope N ps (defScope st))
  (hbody:∀(cdv:Value) (A:Around) (outer:List Env) (s:Shared) (H:Hp) (E:XK),Room k (A.deeper (envOfC qual (defScope st) s.heap.objs.size f cdv)) ->
   ∃ts,Sss K (K1 CX0 P w K mg base N qual (defScope st) f cdv A outer s H E).nox (defBody st) ts m):FnOk P w K mg base CX0 (k+1) f fd ps (spD K ps.length (z6 N m)):=by
 refine Fn.ok S (λvs H Q E h=>?_) (λcdv A outer s H vs Q E hr h=>?_)
 ·obtain⟨G,B,F,args,d,F',hl,_⟩:=h
  exact hl
 ·obtain⟨G,B,F,args,d,F',hl,fB,bk,fa,ha,hm,q⟩:=h
  obtain⟨ts,hts⟩:=hbody cdv A outer s H E hr
  refine⟨ts,hts.ps,?_⟩
  obtain⟨⟨o,F1⟩,e1,e⟩:=Option.bind_eq_some_iff.mp hm
  refine hts.ok G B H (p9 N args) F (L2.K5 N vs) H _ o F1 (a0E fB bk fa ha) e1 ?_
  cases o with
  | rt d'=>cases e;exact λv H' k1 f1 h1=>q v H' k1 f1 h1
  | nx E'=>cases e;exact λσ' H' S'=>q _ H' S'.kp (by obtain⟨B,_,_,I⟩:=S'.ex;exact I.fd) b7.non
  | bk E'=>cases e
  | ct E'=>cases e
noncomputable def TVd (K:PySem.W.Frag)(ta:TA)(m:DE->M (List DV)):Prop:=∀(G:GF) (B:List Addr) (E:DE) (F:FS) (σ:St) (H:Hp) (Q:List V->Hp->Prop) (ds:List DV) (F':FS),SitE K G B E F σ H->m E F=some (ds,F') ->
 (∀vs H',Kp (k8 K G) H H'->FAt K G H' F'->a3v K G B H' ds vs->Q vs H')->ta σ H Q
structure Evs (K:PySem.W.Frag) (X:Cx) (es:List Expr) (ta:TA) (m:DE->M (List DV)):Prop where
 pa:PA X es ta
 ok:TVd K ta m
noncomputable def n6:DE->M (List DV):=λ_ F=>some ([],F)
noncomputable def vD (a:DE->M PyData)(r:DE->M (List DV)):DE->M (List DV):=λE F=>(a E F).bind λp=>(r E p.2).bind λq=>some (.dat p.1::q.1,q.2)
noncomputable def vF (i:Nat)(r:DE->M (List DV)):DE->M (List DV):=λE F=>match E[i]? with
 | some (some .feed)=>(r E F).bind λq=>some (.feed::q.1,q.2)
 | _=>none
theorem j6:Evs K X [] X2 n6:=⟨A2,λG B E F σ H Q ds F' I e q=>by cases e;exact q [] H Kp.refl I.fd rfl⟩
theorem m4 {tl:TA}{ms:DE->M (List DV)}(ha:Ev K X e te m)(hr:Evs K X es tl ms)(hs:starEach (e::es) X.env=(false,eval e X.env)::starEach es X.env:=by rfl):Evs K X (e::es) (C4 te tl) (vD m ms) :=
 ⟨p8 ha.pe hr.pa hs,λG B E F σ H Q ds F' I e q=>by
  obtain⟨⟨x,F1⟩,e1,e⟩:=Option.bind_eq_some_iff.mp e
  obtain⟨⟨ys,F2⟩,e2,e⟩:=Option.bind_eq_some_iff.mp e
  cases e
  refine ha.ok G B E F σ H _ x F1 I e1 λv H1 k1 f1 h1=>?_
  refine hr.ok G B E F1 σ H1 _ ys _ (I.step k1 f1) e2 λvs H2 k2 f2 h2=>q _ H2 (k1.trans k2) f2 ⟨v,vs,rfl,(λ_ z=>by cases z),h1.same (k2.hid I.fB),h2⟩⟩
theorem a0i (i:Nat){x:Str}{tl:TA}{ms:DE->M (List DV)}(hr:Evs K X es tl ms)(hN:X.N[i]? = some x:=by rfl)(hv:Vis X.env.scope x:=by first | exact Or.inl rfl | exact Or.inr (Or.inl rfl) | exact Or.inr (Or.inr rfl))(hd:(x == ("__debug__":Str))=false:=by decide)
  (hcd:(x == ("__classdict__":Str))=false:=by decide) (hs:starEach (.Name x p::es) X.env=(false,eval (.Name x p) X.env)::starEach es X.env:=by rfl):Evs K X (.Name x p::es) (C4 (a0D i) tl) (vF i ms) :=
 ⟨p8 (U8 hN hv hd hcd) hr.pa hs,λG B E F σ H Q ds F' I e q=>by
  unfold vF at e
  split at e
  ·rename_i hx
   obtain⟨⟨ys,F2⟩,e2,e⟩:=Option.bind_eq_some_iff.mp e
   cases e
   obtain⟨v,v1,v2⟩:=I.loc i _ hx
   refine⟨v,v1,hr.ok G B E F σ H _ ys _ I e2 λvs H2 k2 f2 h2=>q _ H2 k2 f2 ⟨v,vs,rfl,(λ_ z=>by cases z),v2.step k2 I.fB,h2⟩⟩
  ·cases e⟩
noncomputable def i8 (f:List DV->M PyData)(ms:DE->M (List DV)):DE->M PyData:=λE F=>(ms E F).bind λp=>f p.1 p.2
theorem b1s {n:Nat}{f:List DV->M PyData}{ta:TA}{ms:DE->M (List DV)}(h:TVd K ta ms)(hn:∀E F args F',ms E F=some (args,F')->args.length=n):TEd K (a1J (spD K n f) [] E0 ta) (i8 f ms):=λG B E F σ H Q d F' I e q=>by
 obtain⟨⟨args,F1⟩,e1,e⟩:=Option.bind_eq_some_iff.mp e
 refine h G B E F σ H _ args F1 I e1 λvs H1 k1 f1 h1=>?_
 rw[List.append_nil]
 exact⟨G,B,F1,args,d,F',by rw[h1.length];exact hn _ _ _ _ e1,I.fB,p6 I.bk k1 f1,f1,h1,e,λv H2 k2 f2 h2=>q v H2 (k1.trans k2) f2 h2⟩
theorem j7:∀E F args F',n6 E F=some (args,F')->args.length=0:=λE F args F' e=>by cases e;rfl
theorem l9 {n:Nat}{ms:DE->M (List DV)}(h:∀E F args F',ms E F=some (args,F')->args.length=n):∀E F args F',vD m ms E F=some (args,F')->args.length=n+1:=λE F args F' e=>by
 obtain⟨⟨x,F1⟩,e1,e⟩:=Option.bind_eq_some_iff.mp e
 obtain⟨⟨ys,F2⟩,e2,e⟩:=Option.bind_eq_some_iff.mp e
 cases e
 rw[List.length_cons,h _ _ _ _ e2]
theorem a0h {n i:Nat}{ms:DE->M (List DV)}(h:∀E F args F',ms E F=some (args,F')->args.length=n):∀E F args F',vF i ms E F=some (args,F')->args.length=n+1:=λE F args F' e=>by
 unfold vF at e
 split at e
 ·obtain⟨⟨ys,F2⟩,e2,e⟩:=Option.bind_eq_some_iff.mp e
  cases e
  rw[List.length_cons,h _ _ _ _ e2]
 ·cases e
theorem g9 {x:Str}{k n:Nat}{ps:List Str}{f:List DV->M PyData}{tl:TA}{ms:DE->M (List DV)}(C:Callee X.prog X.w X.K X.mg X.base x k ps (spD K n f))(hr:Room k X.A)(ha:Evs K X (e::es) tl ms)(hn:∀E F args F',ms E F=some (args,F')->args.length=n)(hg:Gl X x:=by rfl)
  (hdb:(x == ("__debug__":Str))=false:=by decide) (he:starEach (e::es) X.env=(false,eval e X.env)::starEach es X.env:=by rfl) (hpl:(backTo pos (starEach es X.env)).any (·.1)=false:=by rfl) :
  Ev K X (.Call (.Name x p) (e::es) [] pos) (a1J (spD K n f) [] E0 tl) (i8 f ms):=⟨a0S C hr hg ha.pa hdb he hpl,b1s ha.ok hn⟩
end
end L3
namespace L3
open PySem PySem.Spec PyProof.Rows L2
section
variable {H:Hp}{d c:Addr}{a l t:Int}
end
structure FdS where
 ns:List Int
 a:Int
 l:Int
 t:Int
class Fam where
 At:Addr->Addr->Hp->FdS->Prop
 some1:∀{d c H F},At d c H F->∃o,H d=some o∧NoT o
 some2:∀{d c H F},At d c H F->∃o,H c=some o∧NoT o
 congr:∀{d c H H' F},At d c H F->H' d=H d->H' c=H c->At d c H' F
 lam:List Str
 drawF:Int->FdS->Option (Int×FdS)
 draw_some:∀{m:Int} {F:FdS},0<m->m<1073741824->F.t<199999->∃r F',drawF m F=some (r,F')∧0≤r∧r<m∧F'.t=F.t+1
noncomputable instance fdI [Fam]:Feeds where
 S:=FdS
 At:=Fam.At
 some1:=Fam.some1
 some2:=Fam.some2
 congr:=Fam.congr
 lam:=Fam.lam
noncomputable def FdS.cell (F:FdS):Int:=if F.ns=[] then 11 else(F.ns[(F.a % (F.ns.length:Int)).toNat]?).getD 0
noncomputable def drawS [Fam]:List DV->M PyData
 | [.feed,.dat (.int m)]=>λF=>(Fam.drawF m F).bind λp=>some (.int p.1,p.2)
 | _=>λ_=>none
theorem a4T {x m:Int}(h:0<m):0≤x % m∧x % m<m:=⟨Int.emod_nonneg _ (by omega),Int.emod_lt_of_pos _ h⟩
theorem b0n {F:FdS}(h0:¬F.ns=[]):atI (F.ns.map V.int) (F.a % ((F.ns.map V.int).length:Int))=some (.int F.cell):=by
 have hp:0<F.ns.length:=List.length_pos_iff.mpr h0
 rw[List.length_map]
 obtain⟨q1,q2⟩:=a4T (x:=F.a) (m:=(F.ns.length:Int)) (by omega)
 obtain⟨j,hj⟩:∃j:Nat,F.a % (F.ns.length:Int)=j:=⟨(F.a % (F.ns.length:Int)).toNat,by omega⟩
 have hjl:j<F.ns.length:=by omega
 unfold FdS.cell
 rw[if_neg h0,hj]
 refine a1y ?_
 rw[List.getElem?_map]
 simp[hjl]
noncomputable def FdS.cellL (F:FdS):Int:=if F.ns=[] then 0 else(F.ns[(F.a % (F.ns.length:Int)).toNat]?).getD 0
theorem a91 {F:FdS}(h0:¬F.ns=[]):atI (F.ns.map V.int) (F.a % ((F.ns.map V.int).length:Int))=some (.int F.cellL):=by
 have e:F.cellL=F.cell:=by unfold FdS.cellL FdS.cell;rw[if_neg h0,if_neg h0]
 rw[e]
 exact b0n h0
noncomputable def a4D (ns:List Int):FdS:=⟨ns,0,0,0⟩
end L3
namespace L3
open PySem PySem.Spec PyProof.Rows L2
noncomputable def cC:Const->Option PyData
 | .int i=>some (.int i)
 | .bool b=>some (.bool b)
 | .none=>some .none
 | .str x=>some (.str x)
 | _=>none
noncomputable def cI:Expr->Option Int
 | .Constant c _ _=>match c with
  | .int i=>some i
  | _=>none
 | _=>none
noncomputable def cU:UnaryOp->Bool
 | .USub=>true
 | _=>false
noncomputable def cP:Operator->Bool
 | .Pow=>true
 | _=>false
mutual
noncomputable def Z3:Expr->Option PyData
 | .Constant c _ _=>cC c
 | .UnaryOp o e _=>if cU o=true then(cI e).map λi=>.int (-i) else none
 | .BinOp a o b _=>if cP o=true then(cI a).bind λi=>(cI b).bind λj=>if a9p i j then some (.int (i ^ j.toNat)) else none else none
 | .Tuple es _ _=>(W3 es).bind λds=>if ds.length≤10000 then some (.tuple ds) else none
 | .List es _=>(W3 es).bind λds=>if ds.length≤10000 then some (.list ds) else none
 | _=>none
noncomputable def W3:List Expr->Option (List PyData)
 | []=>some []
 | e::es=>(Z3 e).bind λd=>(W3 es).bind λds=>some (d::ds)
end
mutual
noncomputable def K2:PyData->TE
 | .int i=>tC (.int i)
 | .bool b=>tC (.bl b)
 | .none=>tC .non
 | .str x=>tC (.str x)
 | .tuple ds=>b0t (V7 ds)
 | .list ds=>b0p (V7 ds)
 | .dict _=>λ_ _ _=>False
noncomputable def V7:List PyData->TA
 | []=>X2
 | d::ds=>C4 (K2 d) (V7 ds)
end
theorem a2R {e:Expr}{i:Int}(h:cI e=some i):∃k p,e = .Constant (.int i) k p:=by
 unfold cI at h
 split at h
 ·split at h
  ·cases h;exact⟨_,_,rfl⟩
  ·cases h
 ·cases h
theorem a4F {e:Expr}{es:List Expr}{env:Env}{d:PyData}(h:Z3 e=some d):starEach (e::es) env=(false,eval e env)::starEach es env:=by
 unfold Z3 at h
 split at h
 ·rfl
 ·rfl
 ·rfl
 ·rfl
 ·rfl
 ·cases h
section
variable [Feeds]{K:PySem.W.Frag}{X:Cx}
theorem a6P:∀n:Nat,(∀(e:Expr) (d:PyData),sizeOf e<n->Z3 e=some d->Ev K X e (K2 d) (sC d))∧(∀(es:List Expr) (ds:List PyData),sizeOf es<n->W3 es=some ds->Ea K X es (V7 ds) (λ_ F=>some (ds,F))):=by
 intro n
 induction n with
 | zero=>exact⟨λ_ _ h=>absurd h (Nat.not_lt_zero _),λ_ _ h=>absurd h (Nat.not_lt_zero _)⟩
 | succ n ih =>
  refine⟨λe d hn h=>?_,λes ds hn h=>?_⟩
  ·unfold Z3 at h
   split at h
   ·unfold cC at h
    split at h
    ·cases h;simp only[K2];exact i7
    ·cases h;simp only[K2];exact a0n
    ·cases h;simp only[K2];exact T8
    ·cases h;simp only[K2];exact O2
    ·cases h
   ·rename_i o e1 p1
    split at h
    ·rename_i ho
     obtain⟨i,e2,h2⟩:=Option.map_eq_some_iff.mp h
     clear h
     obtain⟨k,p,rfl⟩:=a2R e2
     have:o = .USub:=by cases o <;> first | rfl | (exact absurd ho (by decide))
     subst this h2
     simp only[K2]
     have hp:PE X (.UnaryOp .USub (.Constant (.int i) k p) p1) (tUn (rU λi=>.int (-i)) (tC (.int i))):=a8W a5i m6
     exact⟨λpins s σ H Q I h=>hp pins s σ H Q I ⟨i,rfl,h⟩,λG B E F σ H Q d F' I e q=>by cases e;exact q _ H Kp.refl I.fd b7.int⟩
    ·cases h
   ·rename_i a o b p1
    split at h
    ·rename_i ho
     obtain⟨i,e2,h2⟩:=Option.bind_eq_some_iff.mp h
     clear h
     obtain⟨j,e3,h⟩:=Option.bind_eq_some_iff.mp h2
     clear h2
     obtain⟨k,p,rfl⟩:=a2R e2
     obtain⟨k',p',rfl⟩:=a2R e3
     have:o = .Pow:=by cases o <;> first | rfl | (exact absurd ho (by decide))
     subst this
     split at h
     ·rename_i hc
      cases h
      simp only[K2]
      have hp:PE X (.BinOp (.Constant (.int i) k p) .Pow (.Constant (.int j) k' p') p1) (tOp (rI a9p λi j=>.int (i ^ j.toNat)) (tC (.int i)) (tC (.int j))):=z4 a8N m6 m6
      exact⟨λpins s σ H Q I h=>hp pins s σ H Q I ⟨i,j,rfl,rfl,hc,h⟩,λG B E F σ H Q d F' I e q=>by cases e;exact q _ H Kp.refl I.fd b7.int⟩
     ·cases h
    ·cases h
   ·rename_i es k p
    obtain⟨ds,e1,h⟩:=Option.bind_eq_some_iff.mp h
    split at h
    ·rename_i hl
     cases h;simp only[K2]
     have hh:=ih.2 es ds (by simp at hn;omega) e1
     exact⟨a4y hh.pa,λG B E F σ H Q d F' I e q=>by
      cases e
      refine hh.ok G B E F σ H _ ds _ I rfl λvs H1 k1 f1 h1=>⟨?_,λp hp=>q _ _ (k1.trans (Kp.upd hp)) (f1.same (i5.upd hp)) (N5 (p6 I.bk k1 f1) hp h1)⟩
      rw[h1.length]
      exact Nat.le_trans hl (by rw[sizeLine_eq];decide)⟩
    ·cases h
   ·rename_i es p
    obtain⟨ds,e1,h⟩:=Option.bind_eq_some_iff.mp h
    split at h
    ·rename_i hl
     cases h;simp only[K2]
     have hh:=ih.2 es ds (by simp at hn;omega) e1
     exact⟨a1I hh.pa,λG B E F σ H Q d F' I e q=>by
      cases e
      refine hh.ok G B E F σ H _ ds _ I rfl λvs H1 k1 f1 h1=>⟨?_,λp hp=>q _ _ (k1.trans (Kp.upd hp)) (f1.same (i5.upd hp)) (A5 (p6 I.bk k1 f1) hp h1)⟩
      rw[h1.length]
      exact Nat.le_trans hl (by rw[sizeLine_eq];decide)⟩
    ·cases h
   ·cases h
  ·cases es with
   | nil=>simp only[W3]at h;cases h;simp only[V7];exact i3
   | cons e es =>
    simp only[W3]at h
    obtain⟨d,e1,h⟩:=Option.bind_eq_some_iff.mp h
    obtain⟨ds',e2,h⟩:=Option.bind_eq_some_iff.mp h
    cases h
    simp only[V7]
    exact d0 (ih.1 e d (by simp at hn;omega) e1) (ih.2 es ds' (by simp at hn;omega) e2) (a4F e1)
theorem a8Y (e:Expr)(d:PyData)(h:Z3 e=some d):Ev K X e (K2 d) (sC d):=(a6P (sizeOf e+1)).1 e d (Nat.lt_succ_self _) h
theorem a0K (d:PyData){e:Expr}(h:Z3 e=some d):Ev K X e (K2 d) (sC d):=a8Y e d h
end
end L3
namespace L3
open PySem
theorem x3:bootBuiltins "len" = some (.builtin "len"):=by decide +kernel
theorem a9l:bootBuiltins "sum" = some (.builtin "sum"):=by decide +kernel
theorem a0P:bootBuiltins "sorted" = some (.builtin "sorted"):=by decide +kernel
theorem y8:bootBuiltins "tuple" = some (.type "tuple"):=by decide +kernel
theorem S4:bootBuiltins "list" = some (.type "list"):=by decide +kernel
end L3
namespace L3
open PySem PySem.Spec PyProof.Rows L2
section
variable [Feeds]{K:PySem.W.Frag}{X:Cx}{a b c e tg iter:Expr}{es:List Expr}{ta tb tc te:TE}{ma mb mc m:DE->M PyData}{pos pos' p p2:Pos}
noncomputable def sCh (f g:PyData->PyData->Option PyData)(a b c:DE->M PyData):DE->M PyData:=λE F=>(a E F).bind λp=>(b E p.2).bind λq=>(f p.1 q.1).bind λz=>(L4 z).bind λt=>if t then(c E q.2).bind λr=>(g q.1 r.1).bind λy=>some (y,r.2) else some (.bool false,q.2)
theorem b0u {f g:PyData->PyData->Option PyData}(ha:TEs K ta ma)(hb:TEs K tb mb)(hc:TEs K tc mc):TEd K (a5o (rD2 K f) (rD2 K g) ta tb tc) (sCh f g ma mb mc):=λG B E F σ H Q d F' I e q=>by
 obtain⟨⟨x,F1⟩,e1,e⟩:=Option.bind_eq_some_iff.mp e
 obtain⟨⟨y,F2⟩,e2,e⟩:=Option.bind_eq_some_iff.mp e
 obtain⟨z,e3,e⟩:=Option.bind_eq_some_iff.mp e
 obtain⟨t,e4,eL⟩:=Option.bind_eq_some_iff.mp e
 refine ha G B E F σ H _ x F1 I e1 λv H1 k1 f1 h1=>?_
 refine hb G B E F1 σ H1 _ y F2 (I.step k1 f1) e2 λw H2 k2 f2 h2=>⟨k8 K G,B,x,y,_,p6 I.bk (k1.trans k2) f2,h1.step k2 I.fB,h2,e3,λu H3 s hu=>?_⟩
 have:=D3 e4
 subst this
 simp only[b7]at hu
 refine⟨t,hu,?_⟩
 have k3:=(k1.trans k2).trans (Kp.same s)
 cases t with
 | false =>
  rw[if_neg (by decide)]at eL ⊢
  cases eL
  exact q _ H3 k3 (f2.same s) b7.bl
 | true =>
  rw[if_pos rfl]at eL ⊢
  obtain⟨⟨r,F3⟩,e5,eM⟩:=Option.bind_eq_some_iff.mp eL
  obtain⟨z2,e6,eN⟩:=Option.bind_eq_some_iff.mp eM
  cases eN
  refine hc G B E F2 σ H3 _ r F3 (I.step k3 (f2.same s)) e5 λw' H4 k4 f4 h4=>⟨k8 K G,B,y,r,_,p6 I.bk (k3.trans k4) f4,(h2.step (Kp.same s) I.fB).step k4 I.fB,h4,e6,λu5 H5 s5 hu5=>q u5 H5 ((k3.trans k4).trans (Kp.same s5)) (f4.same s5) hu5⟩
theorem a4i {op op':CmpOp}{f g:PyData->PyData->Option PyData}(ho:OpR X (compareOp op) (rD2 K f))(ho':OpR X (compareOp op') (rD2 K g))(ha:Eb K X a ta ma)(hb:Eb K X b tb mb)(hc:Eb K X c tc mc)
  (hm:lastMarks [op,op'] [b,c]=false:=by with_unfolding_all rfl):Et K X (.Compare a [op,op'] [b,c] pos) (a6x (a5o (rD2 K f) (rD2 K g) ta tb tc)) (uB (sCh f g ma mb mc)) :=
 ⟨a8A ho ho' ha.pe hb.pe hc.pe hm,λG B E F σ H Q d F' I e q=>by
  obtain⟨⟨x,F1⟩,e1,e⟩:=Option.bind_eq_some_iff.mp e
  obtain⟨t,e2,e⟩:=Option.bind_eq_some_iff.mp e
  cases e
  refine b0u ha.ok hb.ok hc.ok G B E F σ H _ x F1 I e1 λv H1 k1 f1 h1=>?_
  have:=D3 e2
  simp only at this
  subst this
  simp only[b7]at h1
  exact⟨_,h1,q H1 k1 f1⟩⟩
theorem L7 (i:Nat){x:Str}{px ap cp:Pos}(hK:X.K=K)(hv:Ev K X e te m)(hN:X.N[i]? = some x:=by rfl)(hvis:Vis X.env.scope x:=by first | exact Or.inl rfl | exact Or.inr (Or.inl rfl) | exact Or.inr (Or.inr rfl))(hd:(x == ("__debug__":Str))=false:=by decide)(hcd:(x == ("__classdict__":Str))=false:=by decide)
  (hbase:attributeBase (.Name x px) "append" X.env (eval (.Name x px) X.env)=eval (.Name x px) X.env:=by rfl)
  (hfew:((backTo cp (starEach [e] X.env)).all (λx=>!x.1)&&(backToKw cp (keywordEach [] X.env)).all (λx=>x.1.isSome)
   && decide ([e].length+([]:List Keyword).length+(if ([]:List Keyword).isEmpty then 0 else 1)<30))=true:=by rfl)
  (hline:(ap.endLine == cp.line)=true:=by rfl) (hst:starEach [e] X.env=(false,eval e X.env)::starEach [] X.env:=by rfl) (hplain:(backTo cp (starEach [] X.env)).any (·.1)=false:=by rfl)
  (hs:swapsWith (.Call (.Attribute (.Name x px) "append" ap) [e] [] cp) none pos.line X.env=pure false:=by rfl) :
  Ss K X (.Expr (.Call (.Attribute (.Name x px) "append" ap) [e] [] cp) pos) (a4j (tBM K "list" a3i (a0D i) (C4 te X2))) (M3 i m):=by
 subst hK
 exact⟨a5A (b35 PySem.F.plainAttrs_list PySem.F.slot_list_append PySem.F.type_list_append V8 (U8 hN hvis hd hcd) (p8 hv.pe A2 hst) hbase hfew hline hst hplain) hs,b3b hv.ok⟩
noncomputable def fLC (mi:DE->M (List PyData))(k:Nat)(cap:List Nat)(bd:PyData->DE->Option DE)(mt:DE->M Bool)(me:DE->M PyData):DE->M (List PyData):=λE F =>
 (mi E F).bind λp=>if p.1.length≤sizeLine then(Q0 bd mt me p.1 (a26 k cap E) p.2).bind λz=>some (z.1,z.2) else none
theorem b2I {wi:TI}{mi:DE->M (List PyData)}{k:Nat}{cap:List Nat}{g:TG}{bd:PyData->DE->Option DE}{tt:TT}{mt:DE->M Bool}{me:DE->M PyData}(hi:TIs K wi mi)(hg:TGd K g bd)(ht:TTd K tt mt)(he:TEd K te me) :
  TFd K (tLC wi k cap g tt te) (fLC mi k cap bd mt me):=λG B E F σ H Q d F' I e q=>by
 obtain⟨⟨items,F1⟩,e1,e⟩:=Option.bind_eq_some_iff.mp e
 split at e
 ·rename_i hsz
  obtain⟨⟨whole,F2⟩,e2,e⟩:=Option.bind_eq_some_iff.mp e
  cases e
  refine hi G B E F σ H _ items F1 I e1 λJ H1 k1 f1 ok D hD=>?_
  have I1:SitE K G B E F1 σ H1:=I.step k1 f1
  have hBD:D ∉ B:=I1.bk.nin hD
  have hfD:D ∉ k8 K G:=λz=>hBD (I.fB D z)
  have hsz:items.length≤sizeLine:=hsz
  have stab:∀{H':Hp},Kp (k8 K G) H1 H'->Kp (k8 K G) H1 H'∧i5 (hid H1 B) (hid H' (D::B)):=λ{H'} k=>⟨k,λb o eb=>by
   by_cases hb:b∈B
   ·rw[B3 hb]at eb;cases eb
   ·rw[l8 hb]at eb
    rw[l8 (by
     intro z
     rcases List.mem_cons.mp z with rfl | z
     ·rw[hD]at eb;cases eb
     ·exact hb z)]
    exact k b o eb λz=>hb (I.fB b z)⟩
  refine a8v items.length (b0F K G B D H1 bd mt me items whole F2) ?_ ?_ ?_ ?_ ?_
  ·refine⟨a26 k cap E,F1,[],whole,(I1.cap k cap).more hD,g8,Kp.upd hD,λj ds ej z=>?_,a8.nil,e2,rfl,Nat.le_refl _⟩
   obtain⟨v,v1,a,xs,rfl,_,_,ha,_⟩:=(I1.cap k cap).loc j _ ej
   rw[v1]at z
   cases z
   rw[hD]at ha;cases ha
  ·rintro i σ' acc H' hlt ⟨E',F3,done,rest,I2,hD2,k2,ow,hd2,e3,ew,hdi⟩
   exact((ok H' (D::B) (stab k2)).1 i items[i] (by simp[hlt])).1
  ·rintro σ' acc H' ⟨E',F3,done,rest,I2,hD2,k2,ow,hd2,e3,ew,hdi⟩
   exact(ok H' (D::B) (stab k2)).2
  ·rintro i σ' acc H' hlt ⟨E',F3,done,rest,I2,hD2,k2,ow,hd2,e3,ew,hdi⟩ x H2 y R hR
   obtain⟨s2,hx⟩:=((ok H' (D::B) (stab k2)).1 i items[i] (by simp[hlt])).2 x H2 y
   have hx':=hx I2.bk
   rw[List.drop_eq_getElem_cons hlt,Q0]at e3
   obtain⟨E4,e4,e3⟩:=Option.bind_eq_some_iff.mp e3
   obtain⟨⟨b,F5⟩,e5,e3⟩:=Option.bind_eq_some_iff.mp e3
   have I3:SitE K G (D::B) E' F3 σ' H2:=I2.step (Kp.same s2) (I2.fd.same s2)
   refine hg G (D::B) E' F3 σ' H2 x items[i] E4 _ I3 hx' e4 λσ4 I4 fr=>?_
   have ow4:∀(j:Nat) (ds:List PyData),E4[j]? = some (some (DV.own ds))->σ4[j]? ≠ some (some (V.ref D)):=λj ds ej=>by
    obtain⟨a1,a2⟩:=fr j λy z=>by rw[ej]at z;cases z
    rw[a2];exact ow j ds (a1▸ej)
   refine ht G (D::B) E4 F3 σ4 H2 _ b F5 I4 e5 λH5 k5 f5=>?_
   have kall:Kp (k8 K G) H1 H5:=(k2.trans (Kp.same s2)).trans k5
   have I5:SitE K G (D::B) E4 F5 σ4 H5:=I4.step k5 f5
   have hD5:H5 D=some (.lst acc):=k5 D _ (s2 D _ hD2) hfD
   have hd5:a8 K (hid H5 (D::B)) done acc:=(hd2.same ((Kp.same s2).hid (fp:=[]) (by simp))).same (k5.hid I4.fB)
   cases b with
   | false =>
    exact⟨hD5,hR _ _ _ ⟨E4,F5,done,rest,I5,hD5,kall,ow4,hd5,e3,ew,by omega⟩⟩
   | true =>
    obtain⟨⟨yd,F6⟩,e6,e3⟩:=Option.bind_eq_some_iff.mp e3
    obtain⟨⟨zs,F7⟩,e7,e3⟩:=Option.bind_eq_some_iff.mp e3
    cases e3
    refine he G (D::B) E4 F5 σ4 H5 _ yd F6 I5 e6 λv H6 k6 f6 h6=>?_
    have hD6:H6 D=some (.lst acc):=k6 D _ hD5 hfD
    have I6:SitE K G (D::B) E4 F6 σ4 H6:=I5.step k6 f6
    have hd6:=hd5.same (k6.hid I5.fB)
    have hlen:acc.length<sizeLine:=by rw[hd2.length];omega
    refine⟨hD6,hlen,hR _ _ _ ⟨E4,F6,done++[yd],zs,I6.wr hfD ow4 hD6,g8,λb o eb nb=>?_,ow4,?_,e7,by rw[ew];simp,by simp;omega⟩⟩
    ·have:=k6 b o (kall b o eb nb) nb
     rw[f7];exact this
     intro z;subst z;rw[hD]at eb;cases eb
    ·rw[W0 List.mem_cons_self]
     exact hd6.snoc h6
  ·rintro σ' acc H' ⟨E',F3,done,rest,I2,hD2,k2,ow,hd2,e3,ew,hdi⟩
   rw[List.drop_length,Q0]at e3
   cases e3
   rw[List.append_nil]at ew
   subst ew
   exact q D acc H' (k1.none hD hfD) hD2 (k1.trans k2) I2.fd hd2
 ·cases e
end
end L3
namespace L3
open PySem PySem.Spec PyProof.Rows L2
section
variable [Feeds]{K:PySem.W.Frag}{X:Cx}{a b c e tg iter:Expr}{es:List Expr}{ta tb tc te:TE}{ma mb mc m:DE->M PyData}{pos pos' p p2:Pos}{P:Program}{w:World}{mg:Str->Option Value}{base:Heap}
noncomputable def GD (K:PySem.W.Frag)(mg:Str->Option Value)(x:Str)(d:PyData):Prop:=∃a,mg x=some (.ref a)∧∀H,b7 K H d (.ref a)
theorem b3P {x:Str}{d:PyData}(h:GD K X.mg x d)(hg:Gl X x:=by rfl)(hd:(x == ("__debug__":Str))=false:=by decide):Ev K X (.Name x p) (tC (.ref h.choose)) (sC d) :=
 ⟨a6m hg h.choose_spec.1 rfl hd,λG B E F σ H Q d F' I e q=>by
  cases e
  exact q _ H Kp.refl I.fd (h.choose_spec.2 _)⟩
noncomputable def strsOf:List Value->Option (List Str)
 | []=>some []
 | .str x _::r=>(strsOf r).map (x :: ·)
 | _=>none
theorem a2A:∀{us:List Value} {ss:List Str},strsOf us=some ss->k9 (ss.map V.str) us∧∀H,a8 K H (ss.map .str) (ss.map V.str)
 | [],ss,h=>by cases h;exact⟨.nil,λH=>a8.nil⟩
 | u::r,ss,h=>by
  cases u with
  | str x t =>
   obtain⟨ss',e1,rfl⟩:=Option.map_eq_some_iff.mp (show(strsOf r).map (x :: ·)=some ss from h)
   obtain⟨h1,h2⟩:=a2A e1
   exact⟨.cons ⟨t,rfl⟩ h1,λH=>⟨_,_,rfl,rfl,h2 H⟩⟩
  | _=>cases h
theorem gd_mk {h:Heap}{x:Str}{t:Addr}{its:Array Value}{n:Nat}{dd:Option Addr}{sl:Array (Option Value)}{ss:List Str}(X:K.In h)(G:h.Ns mainGlobals mg)(hn:PySem.W.nsIn K mainGlobals x=some (some (.ref t)))(hl:K.lookup t=some ⟨.type "tuple",dd,.seq its n,sl⟩)(hs:strsOf its.toList=some ss)(hz:ss.length≤1000):GD K mg x (.tuple (ss.map .str)):=by
 obtain⟨h1,h2⟩:=a2A (K:=K) hs
 refine⟨t,PySem.W.mg_of X G hn,λH=>⟨t,ss.map V.str,rfl,.inr ⟨_,its,n,hl,rfl,rfl,?_,h1⟩,h2 H⟩⟩
 have:=h1.length
 rw[List.length_map]at this
 have e:its.size=ss.length:=by rw[this];simp
 rw[e]
 exact Nat.le_trans hz (by rw[sizeLine_eq];decide)
noncomputable def a7Y (a:DE->M PyData):DE->M (List PyData):=λE F=>(a E F).bind λp=>match p.1 with
 | .tuple ds=>some (ds,p.2)
 | .list ds=>some (ds,p.2)
 | _=>none
theorem a9X (hm:X.mg "list" = none)(hbt:bootBuiltins "list" = some (.type "list"))(ha:Eb K X a ta ma)(hK:X.K=K)(hg:Gl X "list":=by rfl)(he:starEach [a] X.env=(false,eval a X.env)::starEach [] X.env:=by rfl)(hpl:(backTo pos (starEach [] X.env)).any (·.1)=false:=by rfl) :
  Ef K X (.Call (.Name "list" p) [a] [] pos) (tCB (λxs H Q=>∃p ys,xs=[.ref p]∧(SqL X.K H p ys∨SqT X.K H p ys)∧∀l,H l=none->Q (.ref l) (upd H l (.lst ys))) (C4 ta X2)) (a7Y ma) :=
 ⟨Q5 K8 hg hm hbt (p8 ha.pe A2 he) (by decide) (by decide) he hpl,λG B E F σ H Q ds F' I e q=>by
  subst hK
  obtain⟨⟨x,F1⟩,e1,e⟩:=Option.bind_eq_some_iff.mp e
  refine ha.ok G B E F σ H _ x F1 I e1 λv H1 k1 f1 h1=>?_
  dsimp only at e
  split at e <;> try cases e
  ·obtain⟨t,xs,rfl,ht,hd⟩:=h1
   refine⟨t,xs,rfl,.inr (ht.same d6),λl hl=>?_⟩
   have hnf:l ∉ k8 X.K G:=λz=>(p6 I.bk k1 f1).nin hl (I.fB l z)
   exact q l xs _ (k1.none hl hnf) g8 (k1.trans (Kp.upd hl)) (f1.same (i5.upd hl)) (hd.same (a2h hl))
  ·obtain⟨t,xs,rfl,ht,hd⟩:=h1
   refine⟨t,xs,rfl,.inl (SqL.of (d6 _ _ ht)),λl hl=>?_⟩
   have hnf:l ∉ k8 X.K G:=λz=>(p6 I.bk k1 f1).nin hl (I.fB l z)
   exact q l xs _ (k1.none hl hnf) g8 (k1.trans (Kp.upd hl)) (f1.same (i5.upd hl)) (hd.same (a2h hl))⟩
end
end L3
namespace L3
open PySem PySem.Spec PyProof.Rows L2
section
variable {prog:Program}{w:World}{A:Around}{E:Value->Shared->Prop}{s:Shared}
theorem a0j {it l:Addr}{i:Nat}{items}{x:Value}{Q:Value->Shared->Prop}(hit:s.heap.IsTupleIter it l i)
  (hl:s.heap.IsTuple l items) (hx:items[i]? = some x)
  (hQ:∀h',h'.IsTupleIter it l (i+1)->Heap.SameBut it s.heap h'->Q x { s with heap:=h' }) :
  wpAny (model prog w) A (Builtin.SmallTypes.nextOf (.ref it)) Q E s:=by
 obtain⟨o,ho,hc,hd⟩:=id hit
 obtain⟨ol,hol,_,nl,hdl⟩:=hl
 unfold Builtin.SmallTypes.nextOf
 refine wpAny_bind (wpAny_callSpecial?_slot (name:=Str.ofString "__next__") hit.typeIs PySem.F.slot_tuple_iterator_next
  (wpAny_call_entry PySem.F.slot_tuple_iterator_next hit.typeIs PySem.F.entry_tuple_iterator_next ?_ (PySem.F.args_tuple_iterator_next_1 _)))
 show wpAny _ _ (field (.ref it) 0 >>= _) _ _ s
 refine wpAny_bind (wpAny_field ho hd (x:=.ref l) rfl ?_)
 show wpAny _ _ (if (Value.ref l == Value.none)=true then _ else _) _ _ s
 rw[if_neg (show ¬((Value.ref l == Value.none)=true) from Bool.false_ne_true)]
 show wpAny _ _ (field (.ref it) 1 >>= _) _ _ s
 refine wpAny_bind (wpAny_field ho hd (x:=.int i 0) rfl ?_)
 show wpAny _ _ (seqItems? (.ref l) >>= _) _ _ s
 refine wpAny_bind (wpAny_seqItems hol hdl ?_)
 simp only[Int.toNat_natCast,hx]
 refine wpAny_bind (wpAny_setField ho hd (by simp) (wpAny_pure ⟨x,rfl,wpAny_pure (hQ _ ?_ (Heap.SameBut.update ..))⟩))
 exact⟨_,Heap.get?_update_self _ ho (Obj.isFreed_of_fields (Obj.data_mapFields hd _)),(Obj.cls_mapFields ..).trans hc,by
  rw[Obj.data_mapFields hd];simp[rawInt]⟩
theorem a0G {it l:Addr}{i:Nat}{items}{Q:Value->Shared->Prop}(hh:A.handled=none)
  (hit:s.heap.IsTupleIter it l i) (hl:s.heap.IsTuple l items) (hx:items[i]? = none)
  (hE:∀h' e,Heap.ExtBut it s.heap h'->(∃o,h'.get? e=some o∧o.cls = .type "StopIteration")->E (.ref e) { s with heap:=h' }) :
  wpAny (model prog w) A (Builtin.SmallTypes.nextOf (.ref it)) Q E s:=by
 obtain⟨o,ho,hc,hd⟩:=id hit
 obtain⟨ol,hol,_,nl,hdl⟩:=hl
 unfold Builtin.SmallTypes.nextOf
 refine wpAny_bind (wpAny_callSpecial?_slot (name:=Str.ofString "__next__") hit.typeIs PySem.F.slot_tuple_iterator_next
  (wpAny_call_entry PySem.F.slot_tuple_iterator_next hit.typeIs PySem.F.entry_tuple_iterator_next ?_ (PySem.F.args_tuple_iterator_next_1 _)))
 show wpAny _ _ (field (.ref it) 0 >>= _) _ _ s
 refine wpAny_bind (wpAny_field ho hd (x:=.ref l) rfl ?_)
 show wpAny _ _ (if (Value.ref l == Value.none)=true then _ else _) _ _ s
 rw[if_neg (show ¬((Value.ref l == Value.none)=true) from Bool.false_ne_true)]
 show wpAny _ _ (field (.ref it) 1 >>= _) _ _ s
 refine wpAny_bind (wpAny_field ho hd (x:=.int i 0) rfl ?_)
 show wpAny _ _ (seqItems? (.ref l) >>= _) _ _ s
 refine wpAny_bind (wpAny_seqItems hol hdl ?_)
 simp only[Int.toNat_natCast,hx]
 refine wpAny_bind (wpAny_rule (wpAny_bind (wpAny_setField ho hd (by simp) ?_)))
 show wpAny _ _ (newExc (.type "StopIteration") [] >>= _) _ _ _
 refine wpAny_bind ?_
 simp only[newExc,newTuple]
 refine wpAny_bind (wpAny_newObj_type ?_ (by size_fits))
 refine wpAny_bind (m:=firstArgMember _ _) (wpAny_of_eq (a:=Value.none) (by first | rfl | (simp only[firstArgMember];rfl)) ?_)
 refine wpAny_newObj_type ?_ (by size_fits)
 simp only[raiseNew]
 refine wpAny_bind (wpAny_handled ?_)
 first | rw[show A.in1.handled=none from hh] | rw[hh]
 refine wpAny_bind (wpAny_pure (wpAny_throw ?_))
 exact hE _ _ (((Heap.SameBut.update ..).extBut.push _).push _) ⟨_,Heap.get?_push_size _ rfl,rfl⟩
end
noncomputable def a3F (b:Bool)(h:Heap)(it l:Addr)(i:Nat):Prop:=if b then h.IsListIter it l i else h.IsTupleIter it l i
noncomputable def a6U (b:Bool)(h:Heap)(l:Addr)(items:Array Value):Prop:=if b then h.IsList l items else h.IsTuple l items
theorem a3F.at {b:Bool}{h h':Heap}{it l:Addr}{i:Nat}(x:a3F b h it l i)(k:∀o,h.get? it=some o->h'.get? it=some o):a3F b h' it l i:=by
 cases b
 ·exact Heap.IsTupleIter.at (show h.IsTupleIter it l i from x) k
 ·exact Heap.IsListIter.at (show h.IsListIter it l i from x) k
theorem a6U.at {b:Bool}{h h':Heap}{l:Addr}{items:Array Value}(x:a6U b h l items)(k:∀o,h.get? l=some o->h'.get? l=some o):a6U b h' l items:=by
 cases b
 ·obtain⟨o,ho,r⟩:=(show h.IsTuple l items from x)
  exact⟨o,k o ho,r⟩
 ·exact Heap.IsList.at (show h.IsList l items from x) k
theorem a3F.obj {b:Bool}{h:Heap}{it l:Addr}{i:Nat}(x:a3F b h it l i):∃o,h.get? it=some o∧∀v,o.data ≠ .cell v:=by
 cases b
 ·obtain⟨o,e,c,d⟩:=(show h.IsTupleIter it l i from x)
  exact⟨o,e,λv z=>by rw[d]at z;cases z⟩
 ·obtain⟨o,e,c,d⟩:=(show h.IsListIter it l i from x)
  exact⟨o,e,λv z=>by rw[d]at z;cases z⟩
theorem a4d {prog:Program}{w:World}{A:Around}(b:Bool)(hh:A.handled=none)(it l:Addr)(hne:l≠it)(items:Array Value) :
  Draws prog w A it [it,l] items.size (λi v=>items[i]? = some v) (λi h=>a3F b h it l i∧a6U b h l items) where
 live:=λ_ _ st=>let ⟨o,ho,_⟩:=st.1.obj;⟨o,ho⟩
 frame:=λ_ _ _ st hk=>⟨st.1.at λo e=>hk it (by simp) o e,st.2.at λo e=>hk l (by simp) o e⟩
 item:=λi s Q E hi st hQ=>by
  cases b
  ·refine a0j (show s.heap.IsTupleIter it l i from st.1) (show s.heap.IsTuple l items from st.2) (x:=items[i]) (by simp[hi]) λh' hit' hs'=>?_
   exact hQ _ h' s.toks (by simp[hi]) ⟨hit',st.2.at λo e=>hs'.extBut l o hne e⟩ hs'
  ·refine wpAny_nextOf_list_item (show s.heap.IsListIter it l i from st.1) (show s.heap.IsList l items from st.2) (x:=items[i]) (by simp[hi]) λh' hit' hs'=>?_
   exact hQ _ h' s.toks (by simp[hi]) ⟨hit',st.2.at λo e=>hs'.extBut l o hne e⟩ hs'
 done:=λs Q E st hE=>by
  cases b
  ·exact a0G hh (show s.heap.IsTupleIter it l items.size from st.1) (show s.heap.IsTuple l items from st.2) (by simp) hE
  ·exact wpAny_nextOf_list_end hh (show s.heap.IsListIter it l items.size from st.1) (show s.heap.IsList l items from st.2) (by simp) hE
open AutoSeq1 (wpAny_loadPart') in
theorem V3 (l:Addr)(items:Array Value)(n:Nat)(dct:Option Addr)(sl:Array (Option Value)) :
  Meets (Builtin.«enumerate.__new__» ⟨[.type "enumerate",.ref l],[]⟩) (λ_ R s=>s.heap.get? l=some { cls:=.type "tuple",dict:=dct,data:=.seq items n,slots:=sl } ∧
   R (.ok (.ret (.ref (s.heap.push { cls:=.type "tuple_iterator",data:=.fields #[.ref l,.int 0 0] }).objs.size)))
    { s with heap:=(s.heap.push { cls:=.type "tuple_iterator",data:=.fields #[.ref l,.int 0 0] }).push { cls:=.type "enumerate",data:=.fields #[.none,.bool false,.ref s.heap.objs.size,rawInt 0,.none,.none] } }) :=
 .of_wp λprog w A R s h=>by
  obtain⟨hp,g,d,tk,os⟩:=s;obtain⟨hl,h⟩:=h
  have hsub:=sub_enumerate
  have hL:Heap.IsTuple (Shared.heap ⟨hp,g,d,tk,os⟩) l items:=⟨_,hl,rfl,n,rfl⟩
  wp_walk using wpAny_loadPart' hl
  refine wpAny_stack_any λst=>wpAny_pure ?_
  split
  ·rename_i c _ _ _ _ _
   cases(c == Value.type "enumerate")
   ·wp_walk using wpAny_loadPart' hl,wpAny_pyIter_tuple hL
    exact⟨_,rfl,h⟩
   ·wp_walk using wpAny_loadPart' hl,wpAny_pyIter_tuple hL
    exact⟨_,rfl,h⟩
  ·wp_walk using wpAny_loadPart' hl,wpAny_pyIter_tuple hL
   exact⟨_,rfl,h⟩
section
variable {prog:Program}{w:World}{A:Around}{E:Value->Shared->Prop}{s:Shared}
theorem V6 {l:Addr}{items:Array Value}{Q:Value->Shared->Prop}(hL:s.heap.IsTuple l items)
  (h:∀h',IsEnum h' (s.heap.objs.size+1) s.heap.objs.size 0 .none->h'.IsTupleIter s.heap.objs.size l 0->h'.objs.size=s.heap.objs.size+2 ->
   (∀b o,s.heap.get? b=some o->h'.get? b=some o)->Q (.ref (s.heap.objs.size+1)) { s with heap:=h' }) :
  wpAny (model prog w) A (call (.type "enumerate") [.ref l]) Q E s:=by
 obtain⟨⟨c,dct,dt,sl⟩,hl,hc,n,hd⟩:=hL
 replace hc:c = .type "tuple":=hc
 replace hd:dt = .seq items n:=hd
 subst hc hd
 refine callType_new PySem.F.called_enumerate (by decide) (PySem.F.typeCall_enumerate_1 _) (PySem.F.newCall_enumerate_1 _) (λobj=>PySem.F.args_object_init_2 obj _) PySem.F.entry_enumerate_new
  (V3 l items n dct sl) ⟨hl,?_⟩
 have hz:(s.heap.push { cls:=.type "tuple_iterator",data:=.fields #[.ref l,.int 0 0] }).objs.size=s.heap.objs.size+1:=Heap.size_push ..
 show _∧_
 rw[hz]
 have he:IsEnum ((s.heap.push { cls:=.type "tuple_iterator",data:=.fields #[.ref l,.int 0 0] }).push
   { cls:=.type "enumerate",data:=.fields #[.none,.bool false,.ref s.heap.objs.size,rawInt 0,.none,.none] }) (s.heap.objs.size+1) s.heap.objs.size 0 .none:=by
  have:=Heap.get?_push_size (s.heap.push { cls:=.type "tuple_iterator",data:=.fields #[.ref l,.int 0 0] })
   (o:={ cls:=.type "enumerate",data:=.fields #[.none,.bool false,.ref s.heap.objs.size,rawInt 0,.none,.none] }) rfl
  rw[hz]at this;exact this
 refine⟨⟨_,he,rfl⟩,h _ he ⟨_,Heap.get?_push_of_some _ (Heap.get?_push_size _ rfl),rfl,rfl⟩ (by rw[Heap.size_push,hz]) λb o x=>Heap.get?_push_of_some _ (Heap.get?_push_of_some _ x)⟩
theorem a6Q {b:Bool}{l:Addr}{items:Array Value}{Q:Value->Shared->Prop}(hL:a6U b s.heap l items)
  (h:∀h',IsEnum h' (s.heap.objs.size+1) s.heap.objs.size 0 .none->a3F b h' s.heap.objs.size l 0->h'.objs.size=s.heap.objs.size+2 ->
   (∀b o,s.heap.get? b=some o->h'.get? b=some o)->Q (.ref (s.heap.objs.size+1)) { s with heap:=h' }) :
  wpAny (model prog w) A (call (.type "enumerate") [.ref l]) Q E s:=by
 cases b
 ·exact V6 (show s.heap.IsTuple l items from hL) h
 ·exact call_enumerate_list (show s.heap.IsList l items from hL) h
end
noncomputable def SqA (b:Bool)(K:PySem.W.Frag)(H:Hp)(a:Addr)(xs:List V):Prop:=if b then SqL K H a xs else SqT K H a xs
noncomputable def Ite (b:Bool)(K:PySem.W.Frag)(a:Addr):It :=
 ⟨λi H=>∃xs x,SqA b K H a xs∧xs[i]? = some x,λi H v H'=>∃t x,v = .ref t∧H t=none∧H'=upd H t (.tup [.int i,x])∧∀xs,SqA b K H a xs->xs[i]? = some x,λi H=>∃xs,SqA b K H a xs∧xs.length=i⟩
theorem SqA.get {b:Bool}{X:Cx}{pins:List (Addr×Obj)}{σ:St}{H:Hp}{s:Shared}{a:Addr}{xs:List V}(I:Inv X pins σ H s)(h:SqA b X.K H a xs):∃its:List Value,k9 xs its∧a6U b s.heap a its.toArray:=by
 cases b
 ·obtain⟨its,rv,p,_⟩:=I.tuple (show SqT X.K H a xs from h)
  exact⟨its,rv,p⟩
 ·obtain⟨its,rv,p,_⟩:=I.list (show SqL X.K H a xs from h)
  exact⟨its,rv,p.isList⟩
theorem SqA.inj {b:Bool}{X:Cx}{pins:List (Addr×Obj)}{σ:St}{H:Hp}{s:Shared}{a:Addr}{xs ys:List V}(I:Inv X pins σ H s)(h:SqA b X.K H a xs)(h':SqA b X.K H a ys):ys=xs:=by
 cases b
 ·exact I.tuple_inj (show SqT X.K H a ys from h') (show SqT X.K H a xs from h)
 ·exact I.list_inj (show SqL X.K H a ys from h') (show SqL X.K H a xs from h)
end L3
namespace L3
open PySem PySem.Spec PyProof.Rows L2
theorem a7N {h:Heap}{c:Addr}{o o':Obj}(hl:c<h.objs.size)(e:(h.push o).get? c=some o'):h.get? c=some o':=by
 obtain⟨e1,e2⟩:=Heap.get?_some_iff.mp e
 refine Heap.get?_some_iff.mpr ⟨?_,e2⟩
 have:=Nat.ne_of_lt hl
 cases h;simpa [Heap.push,Array.getElem?_push,this] using e1
theorem a2b {X:Cx}{pins:List (Addr×Obj)}{σ:St}{H:Hp}{s:Shared}{h':Heap}{t':Nat}{fp:List Addr}(I:Inv X pins σ H s)(hf:∀b∈fp,Z6 X pins H b)(k:∀b o,b ∉ fp->s.heap.get? b=some o->h'.get? b=some o):Inv X pins σ H { s with heap:=h',toks:=t' }:=by
 have nit:∀b u,H b=some u->b ∉ fp:=λb u e z=>by rw[(hf b z).1]at e;cases e
 refine I.step (g':=s.gens) (d':=s.drawn) (ch:=fp) (λb hb=>?_) (λb o _ _ hc e _=>k b o hc e) (λb o _ _ hc e _=>⟨o.slots,k b o hc e⟩) (λ_ _ _ _ n=>n)
  (λb o hc e=>⟨o,k b o hc e⟩) (λ_ _ e=>e) (λ_ _ _ e=>e) (λb ps e=>⟨#[],by rw[e];simp⟩) (λm hm=>?_) (λb u e=>?_) I.bare
 ·obtain⟨_,f1,f2,f3,f4,f5⟩:=hf b hb
  exact⟨f3,f1,f4,f5⟩
 ·obtain⟨o,es,ep,ho,r⟩:=hm
  exact⟨o,es,ep,k _ o (λz=>(hf _ z).2.1 rfl) ho,r⟩
 ·refine(I.hok b u e).stay (λc v hc q=>k c v ?_ q) (λ_ q=>q) λ_ _ q=>q
  rcases hc with z | z
  ·rw[z];exact nit b u e
  ·exact nit c _ z
theorem a77 {P:Program}{w:World}{K:PySem.W.Frag}{es:List Expr}{k:Nat}{pos:Pos}(b:Bool)(a e it:Addr):Turn P w K (.Tuple es k pos) (Ite b K a) [e,it] e (λi h=>(e≠it∧a≠e∧a≠it)∧(∃old,IsEnum h e it i old)∧a3F b h it a i) where
 mem:=by simp
 obj:=λi h st c hb=>by
  obtain⟨_,⟨old,he⟩,hit⟩:=st
  rcases List.mem_cons.mp hb with rfl | hb
  ·exact⟨_,he,λv z=>by cases(show Data.fields _=Data.cell v from z)⟩
  ·rw[List.mem_singleton.mp hb];exact hit.obj
 keep:=λi h h' st kk=>by
  obtain⟨n,⟨old,he⟩,hit⟩:=st
  exact⟨n,⟨old,kk e (by simp) _ he⟩,hit.at λo z=>kk it (by simp) o z⟩
 item:=by
  intro X hP hw hK hc i pins s σ H E I hf st hg
  subst hP hw hK
  obtain⟨⟨n1,n2,n3⟩,⟨old,he⟩,hit⟩:=st
  obtain⟨xs,x,hq,hx⟩:=hg
  obtain⟨its,rv,p⟩:=SqA.get I hq
  obtain⟨u,hu,ru⟩:=rv.get hx
  have hlt:i<its.toArray.size:=by
   have:=(List.getElem?_eq_some_iff.mp hu).1
   simpa using this
  have hel:e<s.heap.objs.size:=Heap.lt_size he
  have hil:it<s.heap.objs.size:=by obtain⟨o,z,_⟩:=hit.obj;exact Heap.lt_size z
  refine wpAny_pyNext_enum_itemD (a4d b (A:=X.A.in1) (I.ok.hd hc) it a n3 its.toArray) he ⟨hit,p⟩ hlt n1 (by simp[n1,Ne.symm n2]) λy h' tk hy ho hst' ht hz hk=>?_
  have hyu:y=u:=by
   have hy:its.toArray[i]? = some y:=hy
   rw[List.getElem?_toArray,hu]at hy
   exact(Option.some.inj hy).symm
  subst hyu
  refine⟨_,rfl,wpAny_letOwnedTupleGo_enum ho λh2 he2 hs2=>?_⟩
  have hs2:Heap.SameBut e h' h2:=hs2
  have hf0:H s.heap.objs.size=none:=I.hok.fresh (Nat.le_refl _)
  have I1:Inv X pins σ (upd H s.heap.objs.size (.tup [.int i,x])) { s with heap:=s.heap.push { cls:=.type "tuple",data:=.seq #[.int i tk,y] },toks:=tk }:=by
   refine I.laid (t':=tk) (λb u e=>Heap.get?_push_of_some _ e) (Nat.le_refl _) ?_
   exact⟨Nat.le_trans (show 2≤10000 by decide) (by rw[sizeLine_eq];decide),[.int i tk,y],.cons ⟨tk,rfl⟩ (.cons ru .nil),⟨_,Heap.get?_push_size _ rfl,rfl,_,rfl⟩⟩
  have hfp:∀c∈[e,it],Z6 X pins (upd H s.heap.objs.size (.tup [.int i,x])) c:=λc hcm=>by
   obtain⟨f0,f⟩:=hf c hcm
   have hne:c≠s.heap.objs.size:=by
    rcases List.mem_cons.mp hcm with rfl | hcm
    ·exact Nat.ne_of_lt hel
    ·rw[List.mem_singleton.mp hcm];exact Nat.ne_of_lt hil
   exact⟨by rw[f7 hne];exact f0,f⟩
  have hT2:h2.get? s.heap.objs.size=some { cls:=.type "tuple",data:=.seq #[.int i tk,y] }:=hs2.extBut _ _ (Nat.ne_of_gt hel) ht
  have I2:Inv X pins σ (upd H s.heap.objs.size (.tup [.int i,x])) { s with heap:=h2,toks:=tk+1 }:=by
   refine a2b (s:={ s with heap:=s.heap.push { cls:=.type "tuple",data:=.seq #[.int i tk,y] },toks:=tk }) I1 hfp λc o hcn ec=>?_
   have c1:c≠e:=λz=>hcn (by simp[z])
   have c2:c≠it:=λz=>hcn (by simp[z])
   by_cases hcT:c=s.heap.objs.size
   ·subst hcT
    have:(s.heap.push { cls:=.type "tuple",data:=.seq #[.int i tk,y] }).get? s.heap.objs.size=some o:=ec
    rw[Heap.get?_push_size _ rfl]at this
    rw[hT2];exact this
   ·have hlc:c<s.heap.objs.size:=by
     have h1:c<(s.heap.push { cls:=.type "tuple",data:=.seq #[.int i tk,y] }).objs.size:=Heap.lt_size ec
     rw[Heap.size_push]at h1
     exact Nat.lt_of_le_of_ne (Nat.le_of_lt_succ h1) hcT
    have ec':s.heap.get? c=some o:=by
     have ec:(s.heap.push { cls:=.type "tuple",data:=.seq #[.int i tk,y] }).get? c=some o:=ec
     exact a7N hlc ec
    exact hs2.extBut c o c1 (hk c o c1 c2 ec')
  refine⟨.ref s.heap.objs.size,upd H s.heap.objs.size (.tup [.int i,x]),I2,rfl,⟨_,x,rfl,hf0,rfl,λys hy=>by rw[SqA.inj I hq hy];exact hx⟩,⟨⟨n1,n2,n3⟩,⟨y,by simpa using he2⟩,hst'.1.at λo z=>hs2.extBut it o (Ne.symm n1) z⟩,λc hcm=>(hfp c hcm).1⟩
 done:=by
  intro X hP hw hK hc i pins s σ H E I hf st hg
  subst hP hw hK
  obtain⟨⟨n1,n2,n3⟩,⟨old,he⟩,hit⟩:=st
  obtain⟨xs,hq,hx⟩:=hg
  obtain⟨its,rv,p⟩:=SqA.get I hq
  have hl:its.toArray.size=i:=by rw[List.size_toArray,←rv.length];exact hx
  refine wpAny_pyNext_enum_endD (a4d b (A:=X.A.in1) (I.ok.hd hc) it a n3 its.toArray) he (by rw[hl];exact⟨hit,p⟩) λh' eb=>⟨rfl,a2b (t':=s.toks) I hf λc o hc ec=>eb c o (λz=>hc (by simp[z])) ec⟩
 self:=λ_ _ _ _ _ st h=>by
  obtain⟨_,⟨old,he⟩,_⟩:=st
  exact wpAny_pyIter_enum he h
section
variable [Feeds]{K:PySem.W.Frag}{X:Cx}{tg iter e:Expr}{te:TE}{m:DE->M PyData}{pos p tp:Pos}{es:List Expr}{tk:Nat}
noncomputable def B8:Nat->List PyData->List PyData
 | _,[]=>[]
 | k,d::r=>.tuple [.int k,d]::B8 (k+1) r
theorem a2N:∀{ds:List PyData} {k:Nat},(B8 k ds).length=ds.length
 | [],k=>rfl
 | d::r,k=>by rw[B8,List.length_cons,List.length_cons,a2N]
theorem a2G:∀{ds:List PyData} {k i:Nat} {z:PyData},(B8 k ds)[i]? = some z->∃d,ds[i]? = some d∧z = .tuple [.int ((k+i:Nat)),d]
 | [],k,i,z,h=>by simp[B8]at h
 | d::r,k,0,z,h=>by simp[B8]at h;exact⟨d,by simp,by simp[h]⟩
 | d::r,k,i+1,z,h=>by
  rw[B8,List.getElem?_cons_succ]at h
  obtain⟨d',h1,h2⟩:=a2G h
  refine⟨d',by simpa using h1,?_⟩
  rw[h2,show k+1+i=k+(i+1) by omega]
noncomputable def M5 (a:DE->M PyData):DE->M (List PyData):=λE F=>(a E F).bind λp=>(a2u p.1).bind λds=>some (B8 0 ds,p.2)
noncomputable def a9b (K:PySem.W.Frag)(tl:TA):TI:=λσ H R=>tl σ H λxs H1=>∃a,xs=[.ref a]∧∃b ys,SqA b K H1 a ys∧R (Ite b K a) H1
theorem a6a {l:Expr}{tl:TA}(hK:X.K=K)(hg:Gl X "enumerate")(hm:X.mg "enumerate" = none)(ha:PA X [l] tl)(hs:starEach [l] X.env=[(false,eval l X.env)]:=by rfl):PI X (.Tuple es tk tp) (.Call (.Name "enumerate" p) [l] [] pos) (a9b K tl):=by
 subst hK
 intro pins s σ H R I h
 refine Call_ (Y3 I hg hm boot_enumerate (PyProof.Rows.callWith_type1 (thn (ha pos pins s σ H _ I h) λus s1 ⟨vs,H1,I1,r1,q1⟩=>?_) hs rfl))
 obtain⟨a,e,b,ys,hq,q⟩:=q1
 subst e
 cases r1 with
 | cons r rr =>
  cases rr
  cases r
  obtain⟨its,rv,p⟩:=SqA.get I1 hq
  refine a6Q p λh' he hit hz hk=>?_
  have I2:Inv X pins σ H1 { s1 with heap:=h' }:=I1.kept (t':=s1.toks) hk
  have hal:a<s1.heap.objs.size:=by
   cases b
   ·obtain⟨o,z,_⟩:=(show s1.heap.IsTuple a its.toArray from p);exact Heap.lt_size z
   ·obtain⟨o,z,_⟩:=(show s1.heap.IsList a its.toArray from p);exact Heap.lt_size z
  refine wpAny_pyIter_enum he ⟨s1.heap.objs.size+1,[s1.heap.objs.size+1,s1.heap.objs.size],_,_,H1,rfl,I2,a77 b a _ _,⟨⟨Nat.succ_ne_self _,Nat.ne_of_lt (Nat.lt_succ_of_lt hal),Nat.ne_of_lt hal⟩,⟨_,he⟩,hit⟩,λc hc=>?_,q⟩
  have hle:s1.heap.objs.size≤c:=by
   rcases List.mem_cons.mp hc with rfl | hc
   ·exact Nat.le_succ _
   ·rw[List.mem_singleton.mp hc];exact Nat.le_refl _
  exact I1.fpOk hle (I1.hok.fresh hle)
theorem a1s {P:Hp->List Addr->Prop}{b:Bool}{a:Addr}{ds:List PyData}{xs:List V}(h:∀H B,P H B->SqA b K H a xs∧a8 K (hid H B) ds xs):a0N K P (Ite b K a) (B8 0 ds):=λH B hp=>by
 obtain⟨h1,h2⟩:=h H B hp
 refine⟨λi d e=>?_,⟨xs,h1,by rw[a2N,h2.length]⟩⟩
 obtain⟨d',hd',rfl⟩:=a2G e
 obtain⟨v,e1,e2⟩:=a8.item h2 hd'
 refine⟨⟨xs,v,h1,e1⟩,λx H2 y=>?_⟩
 obtain⟨t,x',rfl,ht,rfl,y⟩:=y
 have:=y xs h1
 rw[e1]at this;cases this
 refine⟨i5.upd ht,λbk=>?_⟩
 rw[Nat.zero_add]
 exact N5 bk ht ⟨_,_,rfl,b7.int,_,_,rfl,e2,rfl⟩
theorem a5N (h:Ev K X e te m)(hm:X.mg "enumerate" = none)(hK:X.K=K:=by rfl)(hg:Gl X "enumerate":=by rfl)(hs:starEach [e] X.env=[(false,eval e X.env)]:=by rfl):Ei K X (.Tuple es tk tp) (.Call (.Name "enumerate" p) [e] [] pos) (a9b K (C4 te X2)) (M5 m):=⟨a6a hK hg hm (p8 h.pe A2 hs) hs,λG B E F σ H R ds F' I e q=>by
 obtain⟨⟨y,F1⟩,e1,e⟩:=Option.bind_eq_some_iff.mp e
 obtain⟨z,e2,e⟩:=Option.bind_eq_some_iff.mp e
 cases e
 refine h.ok G B E F σ H _ y F1 I e1 λv H1 k1 f1 h1=>?_
 cases y with
 | list ys =>
  cases e2
  simp only[b7]at h1
  obtain⟨a,xs,rfl,ha,hd⟩:=h1
  exact⟨a,rfl,true,xs,SqL.of (d6 _ _ ha),q _ H1 k1 f1 (a1s λH2 B2 s=>⟨SqL.of (d6 _ _ (s _ _ ha)),hd.same s⟩)⟩
 | tuple ys =>
  cases e2
  simp only[b7]at h1
  obtain⟨a,xs,rfl,ha,hd⟩:=h1
  exact⟨a,rfl,false,xs,ha.same d6,q _ H1 k1 f1 (a1s λH2 B2 s=>⟨(ha.same s).same d6,hd.same s⟩)⟩
 | _=>cases e2⟩
theorem a01 (h:Eb K X e te m)(hm:X.mg "enumerate" = none)(hK:X.K=K:=by rfl)(hg:Gl X "enumerate":=by rfl)(hs:starEach [e] X.env=[(false,eval e X.env)]:=by rfl):Eib K X (.Tuple es tk tp) (.Call (.Name "enumerate" p) [e] [] pos) (a9b K (C4 te X2)) (M5 m):=⟨a6a hK hg hm (p8 h.pe A2 hs) hs,λG B E F σ H R ds F' I e q=>by
 obtain⟨⟨y,F1⟩,e1,e⟩:=Option.bind_eq_some_iff.mp e
 obtain⟨z,e2,e⟩:=Option.bind_eq_some_iff.mp e
 cases e
 refine h.ok G B E F σ H _ y F1 I e1 λv H1 k1 f1 h1=>?_
 cases y with
 | list ys =>
  cases e2
  obtain⟨a,xs,rfl,ha,hd⟩:=h1
  exact⟨a,rfl,true,xs,SqL.of (d6 _ _ ha),q _ H1 k1 f1 (a1s λH2 B2 k=>⟨SqL.of (d6 _ _ (k.1.hid (B:=k8 K G) (λ_ z=>z) _ _ ha)),hd.same k.2⟩)⟩
 | tuple ys =>
  cases e2
  obtain⟨a,xs,rfl,ha,hd⟩:=h1
  exact⟨a,rfl,false,xs,ha.same d6,q _ H1 k1 f1 (a1s λH2 B2 k=>⟨(ha.same k.2).same d6,hd.same k.2⟩)⟩
 | _=>cases e2⟩
end
end L3
namespace L3
open PySem PySem.Spec PyProof.Rows L2
section
variable [Feeds]{K:PySem.W.Frag}{X:Cx}{a b c e tg iter:Expr}{es:List Expr}{ta tb tc te:TE}{ma mb mc m:DE->M PyData}{pos pos' p p2:Pos}{t u:TS}{mt mu:DE->M Out}
noncomputable def a09 (c:DE->M Bool)(b:DE->M Out):Nat->DE->M Out
 | 0,_,_=>none
 | n+1,E,F=>(c E F).bind λp=>if p.1=true then(b E p.2).bind λq=>match q.1 with
  | .nx E2=>a09 c b n E2 q.2
  | .ct E2=>a09 c b n E2 q.2
  | .bk E2=>some (.nx E2,q.2)
  | .rt d=>some (.rt d,q.2)
  else some (.nx E,p.2)
theorem X1 {c:DE->M Bool}{b:DE->M Out}:∀{n m:Nat} {E:DE} {F:FS} {r:Out×FS},n≤m->a09 c b n E F=some r->a09 c b m E F=some r
 | 0,m,E,F,r,_,h=>by cases h
 | n+1,0,E,F,r,hl,h=>absurd hl (by omega)
 | n+1,m+1,E,F,r,hl,h=>by
  rw[a09]at h ⊢
  obtain⟨⟨x,F1⟩,e1,h⟩:=Option.bind_eq_some_iff.mp h
  rw[e1,Option.bind_some]
  dsimp only at h ⊢
  cases x with
  | false=>exact h
  | true =>
   rw[if_pos rfl]at h ⊢
   obtain⟨⟨o,F2⟩,e2,h⟩:=Option.bind_eq_some_iff.mp h
   rw[e2,Option.bind_some]
   cases o with
   | nx E2=>exact X1 (n:=n) (m:=m) (by omega) h
   | ct E2=>exact X1 (n:=n) (m:=m) (by omega) h
   | bk E2=>exact h
   | rt d=>exact h
open Classical in
noncomputable def mWh (c:DE->M Bool)(b:DE->M Out):DE->M Out:=λE F=>if h:∃n r,a09 c b n E F=some r then some (Classical.choose (Classical.choose_spec h)) else none
theorem b1b {c:DE->M Bool}{b:DE->M Out}{n:Nat}{E:DE}{F:FS}{r:Out×FS}(h:a09 c b n E F=some r):mWh c b E F=some r:=by
 unfold mWh
 have hx:∃n r,a09 c b n E F=some r:=⟨n,r,h⟩
 rw[dif_pos hx]
 have h2:=Classical.choose_spec (Classical.choose_spec hx)
 have a1:=X1 (Nat.le_max_left n (Classical.choose hx)) h
 have a2:=X1 (Nat.le_max_right n (Classical.choose hx)) h2
 rw[a1]at a2
 exact a2.symm
theorem b1n {c:DE->M Bool}{b:DE->M Out}{E:DE}{F:FS}{r:Out×FS}(h:mWh c b E F=some r):∃n,a09 c b n E F=some r:=by
 unfold mWh at h
 split at h
 ·rename_i hx
  cases h
  exact⟨_,Classical.choose_spec (Classical.choose_spec hx)⟩
 ·cases h
theorem a9A {tt:TT}{tb:TS}{mc:DE->M Bool}{mb:DE->M Out}(hc:TTd K tt mc)(hb:TSd K tb mb):TSd K (a5r tt tb) (mWh mc mb):=λG B0 H0 E F σ H D r F' S e q=>by
 obtain⟨n,e⟩:=b1n e
 refine⟨λm σ H=>∃E F,Sit K G B0 H0 E F σ H∧a09 mc mb m E F=some (r,F'),⟨n,E,F,S,e⟩,?_⟩
 rintro m σ2 H2 ⟨E2,F2,S2,e2⟩
 cases m with
 | zero=>cases e2
 | succ m =>
  rw[a09]at e2
  obtain⟨⟨x,F3⟩,e3,e2⟩:=Option.bind_eq_some_iff.mp e2
  obtain⟨B,s,sn,I⟩:=S2.ex
  refine hc G B E2 F2 σ2 H2 _ x F3 I e3 λH3 k3 f3=>?_
  have S3:=S2.step k3 f3
  cases x with
  | false =>
   rw[if_neg Bool.false_ne_true]
   cases e2
   exact q σ2 H3 S3
  | true =>
   rw[if_pos rfl]
   rw[if_pos rfl]at e2
   obtain⟨⟨o,F4⟩,e4,e2⟩:=Option.bind_eq_some_iff.mp e2
   refine⟨λσ' H'=>∃E F,Sit K G B0 H0 E F σ' H'∧a09 mc mb m E F=some (r,F'),λσ' H' h=>⟨m,Nat.lt_succ_self _,h⟩,?_⟩
   refine hb G B0 H0 E2 F3 σ2 H3 _ o F4 S3 e4 ?_
   cases o with
   | nx E6=>exact λσ6 H6 S6=>⟨E6,F4,S6,e2⟩
   | ct E6=>exact λσ6 H6 S6=>⟨E6,F4,S6,e2⟩
   | bk E6=>cases e2;exact λσ6 H6 S6=>q σ6 H6 S6
   | rt d=>cases e2;exact λv H6 k6 f6 h6=>q v H6 k6 f6 h6
theorem a7x {body:List Stmt}{tt:TT}{tb:TS}{mc:DE->M Bool}{mb:DE->M Out}(hc:Et K X c tt mc)(hb:Sss K X body tb mb)(hp:PassesOwn (model X.prog X.w) X.A X.env X.xe:=by exact PassesOwn.never):Ss K X (.While c body [] pos) (a5r tt tb) (mWh mc mb) :=
 ⟨a7G hp hc.pt hb.ps,a9A hc.ok hb.ok⟩
noncomputable def a1l (f:Int->Int->Int)(i:Nat)(a:DE->M PyData):DE->M Out:=λE F=>match E[i]? with
 | some (some (.dat (.int x)))=>(a E F).bind λp=>(a06 p.1).bind λy=>(bN i (.int (f x y)) E).bind λE1=>some (.nx E1,p.2)
 | _=>none
theorem b2F {f:Int->Int->Int}{i:Nat}(he:TEd K te m):TSd K (a9i i te (ipI f)) (a1l f i m):=λG B0 H0 E F σ H D r F' S e q=>by
 unfold a1l at e
 split at e
 ·rename_i x hx
  obtain⟨⟨d,F1⟩,e1,e⟩:=Option.bind_eq_some_iff.mp e
  obtain⟨y,e2,e⟩:=Option.bind_eq_some_iff.mp e
  obtain⟨E1,e3,e⟩:=Option.bind_eq_some_iff.mp e
  cases e
  obtain⟨B,s,sn,I⟩:=S.ex
  obtain⟨v,v1,v2⟩:=I.loc i _ hx
  have v2:b7 K (hid H B) (.int x) v:=v2
  simp only[b7]at v2
  subst v2
  refine⟨_,v1,he G B E F σ H _ d F1 I e1 λv H1 k1 f1 h1=>?_⟩
  have:=Y2 e2
  simp only at this
  subst this
  simp only[b7]at h1
  subst h1
  refine⟨x,y,rfl,rfl,?_⟩
  have S1:=S.step k1 f1
  exact a54 i G B E F1 σ H1 (.int (f x y)) _ E1 (λσ' H'=>D.nx σ' H') (I.step k1 f1) b7.int e3 λσ' I' fr=>q σ' H1 (S1.bind s sn I' fr)
 ·cases e
theorem a1o (i:Nat){x:Str}(hN:X.N.Nodup)(he:Ev K X e te m)(hi:X.N[i]? = some x:=by rfl)(hx:Loc X.env.scope x:=by first | exact Or.inl rfl | exact Or.inr rfl)(hf:X.fn x=true∨X.env.scope.names.lookup x=some .local:=by first | exact .inl rfl | exact .inr rfl | assumption) :
  Ss K X (.AugAssign (.Name x pos') .Add e pos) (a9i i te (ipI λi j=>i+j)) (a1l (λi j=>i+j) i m):=⟨a88 hN hi hx he.pe b1k hf,b2F he.ok⟩
noncomputable def a3S (i:Nat)(v:DE->M PyData):DE->M Out:=λE F=>(v E F).bind λp=>(O8 E i).bind λds=>match p.1 with
 | .list zs=>if ds.length+zs.length≤sizeLine then some (.nx (E.set i (some (.own (ds++zs)))),p.2) else none
 | _=>none
end
end L3
namespace L3
open PySem PySem.Spec PyProof.Rows L2
section
variable [Feeds]{K:PySem.W.Frag}{X:Cx}{a b c e tg iter:Expr}{es:List Expr}{ta tb tc te:TE}{ma mb mc m:DE->M PyData}{pos pos' p p2:Pos}
end
end L3
namespace L3
open PySem PySem.Spec PyProof.Rows L2
section
variable {X:Cx}
end
section
variable [Feeds]{K:PySem.W.Frag}{X:Cx}{a b c e tg iter:Expr}{es:List Expr}{ta tb tc te:TE}{ma mb mc m:DE->M PyData}{pos pos' p p2 pos2:Pos}
noncomputable def b0T (ta:TA):TE:=λσ H Q=>ta σ H λvs H1=>∃i j:Int,vs=[.int i,.int j]∧∀p,H1 p=none->Q (.ref p) (upd H1 p (.rng i j))
theorem a7a {ta:TA}(hg:Gl X "range")(hm:X.mg "range" = none)(ha:PA X [a,b] ta)(hs:starEach [a,b] X.env=[(false,eval a X.env),(false,eval b X.env)]:=by rfl)(hs2:starEach [b] X.env=[(false,eval b X.env)]:=by rfl):PE X (.Call (.Name "range" p) [a,b] [] pos) (b0T ta):=by
 intro pins s σ H Q I h
 refine Call_ (Y3 I hg hm boot_range (PyProof.Rows.callWith_type1 (thn (ha pos pins s σ H _ I h) λus s1 ⟨vs,H1,I1,r1,q1⟩=>?_) (by rw[hs,hs2]) (by rw[hs2];rfl)))
 obtain⟨i,j,e,q⟩:=q1
 subst e
 cases r1 with
 | cons r rr =>
  cases rr with
  | cons r2 rr =>
   cases rr
   obtain⟨t,rfl⟩:=r
   obtain⟨t2,rfl⟩:=r2
   refine call_range_2 ?_
   exact⟨.ref s1.heap.objs.size,_,I1.laid (a:=s1.heap.objs.size) (o:=.rng i j) (λb o e=>Heap.get?_push_of_some _ e) (Nat.le_refl _) ⟨_,_,_,Heap.get?_push_size _ rfl⟩,rfl,q _ (I1.hok.fresh (Nat.le_refl _))⟩
theorem a73 {lo:Int}{n:Nat}{acc:Array Value}(h:ItemsOf (λi v=>∃t,v=Value.int (lo+i*1) t) acc n):k9 ((List.range n).map λ(i:Nat)=>V.int (lo+(i:Int))) acc.toList:=by
 obtain⟨h1,h2⟩:=h
 refine N2 (by rw[List.length_map,List.length_range,Array.length_toList,h1]) λi x u hx hu=>?_
 rw[List.getElem?_map]at hx
 obtain⟨j,hj,rfl⟩:=Option.map_eq_some_iff.mp hx
 obtain⟨hlt,e⟩:=List.getElem?_eq_some_iff.mp hj
 rw[List.getElem_range]at e
 subst e
 obtain⟨t,rfl⟩:=h2 i u (by rw[←Array.getElem?_toList];exact hu)
 exact⟨t,by congr 1;omega⟩
noncomputable def a9c:List V->Hp->VK->Prop:=λxs H Q=>∃(p:Addr) (i j:Int),xs=[.ref p]∧H p=some (.rng i j) ∧ -(2 ^ 62)≤i∧i<2 ^ 62 ∧ -(2 ^ 62)≤j∧j<2 ^ 62∧(j-i).toNat≤1000∧∀l,H l=none->Q (.ref l) (upd H l (.lst ((List.range (j-i).toNat).map λ(k:Nat)=>V.int (i+(k:Int)))))
theorem U5 (hc:X.calm=true):C2 X (.type "list") a9c:=by
 intro pins s σ H xs us Q I r h
 obtain⟨p,i,j,rfl,hp,i0,i1,j0,j1,hz,q⟩:=h
 obtain⟨u,rfl,ru⟩:=U0 r
 cases ru
 obtain⟨t,u,v,hr⟩:=(show L9 X.prog X.w H s.heap p (.rng i j) from I.hok p _ hp)
 have hn:Builtin.Range.rangeSize i j 1=((j-i).toNat:Int):=by rw[rangeSize_one];split <;> omega
 refine call_list_range (n:=(j-i).toNat) (I.ok.hd hc) hr (small_one (by omega) (by omega) (by omega) (by omega)) hn (by omega) λh' tk acc c' hk hS hit=>?_
 have I1:Inv X pins σ (upd H s.heap.objs.size (.lst ((List.range (j-i).toNat).map λ(k:Nat)=>V.int (i+(k:Int))))) { s with heap:=h',toks:=tk } :=
  I.laid (a:=s.heap.objs.size) hk (Nat.le_refl _) ⟨by rw[List.length_map,List.length_range];exact Nat.le_of_lt (a0U (by omega)),acc.toList,c',a73 hit,by rw[hS]⟩
 exact⟨.ref s.heap.objs.size,_,I1,rfl,q _ (I.hok.fresh (Nat.le_refl _))⟩
theorem a21 {H:Hp}{lo:Int}:∀{ns:List Nat},a8 K H (ns.map λ(i:Nat)=>PyData.int (lo+i)) (ns.map λ(k:Nat)=>V.int (lo+(k:Int)))
 | []=>a8.nil
 | n::r=>⟨_,_,rfl,b7.int,a21 (ns:=r)⟩
noncomputable def a0W (a:DE->M (List PyData)):DE->M PyData:=λE F=>(a E F).bind λp=>(U6 p.1).bind λds=>if ds.length≤1000 then some (.list ds,p.2) else none
noncomputable def a0M (a:DE->M (List PyData)):DE->M PyData:=λE F=>(a E F).bind λp=>(a1O p.1).bind λds=>if ds.length≤1000 then some (.list ds,p.2) else none
theorem a4g {ta:TA}{ms:DE->M (List PyData)}(h:Ea K X [a] ta ms)(hc:X.calm=true)(hm:X.mg "range" = none)(hml:X.mg "list" = none)(hbt:bootBuiltins "list" = some (.type "list"))(hg:Gl X "range":=by rfl)(hgl:Gl X "list":=by rfl)(hs:starEach [a] X.env=[(false,eval a X.env)]:=by rfl)
  (he:starEach [.Call (.Name "range" p2) [a] [] pos2] X.env=(false,eval (.Call (.Name "range" p2) [a] [] pos2) X.env)::starEach [] X.env:=by rfl) (hpl:(backTo pos (starEach [] X.env)).any (·.1)=false:=by rfl) :
  Ev K X (.Call (.Name "list" p) [.Call (.Name "range" p2) [a] [] pos2] [] pos) (tCB a9c (C4 (b3z ta) X2)) (a0W ms) :=
 ⟨Q5 (U5 hc) hgl hml hbt (p8 (a7t hg hm h.pa hs) A2 he) (by decide) (by decide) he hpl,λG B E F σ H Q d F' I e q=>by
  obtain⟨⟨ys,F1⟩,e1,e⟩:=Option.bind_eq_some_iff.mp e
  obtain⟨z,e2,e⟩:=Option.bind_eq_some_iff.mp e
  split at e
  ·rename_i hz
   cases e
   refine h.ok G B E F σ H _ ys F1 I e1 λvs H1 k1 f1 h1=>?_
   unfold U6 at e2
   split at e2
   ·rename_i j hj
    split at e2
    ·rename_i hc
     cases e2
     have hj:ys=[.int j]:=hj
     subst hj
     simp only[a8]at h1
     obtain⟨x,r,rfl,h2,rfl⟩:=h1
     simp only[b7]at h2
     subst h2
     have hz:(T6 0 j.toNat).length≤1000:=hz
     simp[T6]at hz
     refine⟨j,rfl,λp hp=>⟨p,0,j,rfl,g8,by omega,by omega,hc.1,hc.2,by omega,λl hl=>?_⟩⟩
     have bk1:=p6 I.bk k1 f1
     have bk2:BOk (upd H1 p (.rng 0 j)) B:=λb hb=>by
      obtain⟨o,eo⟩:=bk1 b hb
      exact⟨o,by rw[f7 (l5 eo hp)];exact eo⟩
     rw[Int.sub_zero]
     exact q _ _ ((k1.trans (Kp.upd hp)).trans (Kp.upd hl)) ((f1.same (i5.upd hp)).same (i5.upd hl)) (A5 bk2 hl a21)
    ·cases e2
   ·cases e2
  ·cases e⟩
theorem a3J {ta:TA}{ms:DE->M (List PyData)}(h:Ea K X [a,b] ta ms)(hc:X.calm=true)(hm:X.mg "range" = none)(hml:X.mg "list" = none)(hbt:bootBuiltins "list" = some (.type "list"))(hg:Gl X "range":=by rfl)(hgl:Gl X "list":=by rfl)(hs:starEach [a,b] X.env=[(false,eval a X.env),(false,eval b X.env)]:=by rfl)(hs2:starEach [b] X.env=[(false,eval b X.env)]:=by rfl)
  (he:starEach [.Call (.Name "range" p2) [a,b] [] pos2] X.env=(false,eval (.Call (.Name "range" p2) [a,b] [] pos2) X.env)::starEach [] X.env:=by rfl) (hpl:(backTo pos (starEach [] X.env)).any (·.1)=false:=by rfl) :
  Ev K X (.Call (.Name "list" p) [.Call (.Name "range" p2) [a,b] [] pos2] [] pos) (tCB a9c (C4 (b0T ta) X2)) (a0M ms) :=
 ⟨Q5 (U5 hc) hgl hml hbt (p8 (a7a hg hm h.pa hs hs2) A2 he) (by decide) (by decide) he hpl,λG B E F σ H Q d F' I e q=>by
  obtain⟨⟨ys,F1⟩,e1,e⟩:=Option.bind_eq_some_iff.mp e
  obtain⟨z,e2,e⟩:=Option.bind_eq_some_iff.mp e
  split at e
  ·rename_i hz
   cases e
   refine h.ok G B E F σ H _ ys F1 I e1 λvs H1 k1 f1 h1=>?_
   unfold a1O at e2
   split at e2
   ·rename_i i j hj
    split at e2
    ·rename_i hc
     cases e2
     have hj:ys=[.int i,.int j]:=hj
     subst hj
     simp only[a8]at h1
     obtain⟨x,r,rfl,h2,y,r2,rfl,h3,rfl⟩:=h1
     simp only[b7]at h2 h3
     subst h2 h3
     have hz:(T6 i (j-i).toNat).length≤1000:=hz
     simp[T6]at hz
     refine⟨i,j,rfl,λp hp=>⟨p,i,j,rfl,g8,by omega,by omega,by omega,by omega,by omega,λl hl=>?_⟩⟩
     have bk1:=p6 I.bk k1 f1
     have bk2:BOk (upd H1 p (.rng i j)) B:=λb hb=>by
      obtain⟨o,eo⟩:=bk1 b hb
      exact⟨o,by rw[f7 (l5 eo hp)];exact eo⟩
     exact q _ _ ((k1.trans (Kp.upd hp)).trans (Kp.upd hl)) ((f1.same (i5.upd hp)).same (i5.upd hl)) (A5 bk2 hl a21)
    ·cases e2
   ·cases e2
  ·cases e⟩
end
end L3
namespace L3
open PySem PySem.Spec PyProof.Rows L2
section
variable {prog:Program}{w:World}{A:Around}{E:Value->Shared->Prop}{s:Shared}
end
section
variable {X:Cx}{K:PySem.W.Frag}{p p2 pos pos2:Pos}
end
section
variable {prog:Program}{w:World}{A:Around}{E:Value->Shared->Prop}{s:Shared}
theorem a2Y {l:Addr}{xs:Array (Int×Tok)}{Q:Value->Shared->Prop}(hh:A.handled=none)(hl:s.heap.IsTuple l (intItems xs))
  (h:∀h' tk t',(∀b o,s.heap.get? b=some o->h'.get? b=some o)->Q (.int (preSum (numAt xs) xs.size) t') { s with heap:=h',toks:=tk }) :
  wpAny (model prog w) A (call (.builtin "sum") [.ref l]) Q E s:=by
 have hlt:l<s.heap.objs.size:=by obtain⟨_,e,_⟩:=hl;exact Heap.lt_size e
 refine call_sum_walkG (wpAny_pyIter_tuple hl ?_)
 refine⟨s.heap.objs.size,[s.heap.objs.size,l],[s.heap.objs.size],_,_,_,numAt xs,rfl,Walks.tuple (A:=A.in1) hh _ l (Nat.ne_of_lt hlt) (intItems xs),⟨⟨_,Heap.get?_push_size _ rfl,rfl,rfl⟩,hl.push _⟩,λb hb=>?_,(λ_ _=>intItems_at),λh' tk t' hk=>?_⟩
 ·show b<(s.heap.push _).objs.size
  rw[Heap.size_push]
  rcases List.mem_cons.mp hb with rfl | hb
  ·exact Nat.lt_succ_self _
  ·rw[List.mem_singleton.mp hb];exact Nat.lt_succ_of_lt hlt
 ·have:=h h' tk t' λb o e=>hk b o (λhm=>by rw[List.mem_singleton.mp hm]at e;exact absurd (Heap.lt_size e) (Nat.lt_irrefl _)) (Heap.get?_push_of_some _ e)
  simpa [intItems] using this
end
section
variable {X:Cx}{K:PySem.W.Frag}{p p2 pos pos2:Pos}
theorem a6D (hc:X.calm=true):C2 X (.builtin "sum") (λxs H Q=>∃(a:Addr) (ns:List Int),xs=[.ref a]∧SqT X.K H a (ns.map V.int)∧Q (.int ns.sum) H):=by
 intro pins s σ H xs us Q I r h
 obtain⟨a,ns,rfl,hq,q⟩:=h
 obtain⟨u,rfl,ru⟩:=U0 r
 cases ru
 obtain⟨its,rv,p,hz⟩:=I.tuple hq
 have hi:=R9 rv
 obtain⟨zs,hzs⟩:=hi.allInts.items
 have hl:s.heap.IsTuple a (intItems zs):=hzs▸p
 refine a2Y (I.ok.hd hc) hl λh' tk t' hk=>⟨.int ns.sum,H,I.kept hk,⟨t',?_⟩,q⟩
 have hn:=hi.numsOf
 have e:numsOf (intItems zs).toList=ns:=by rw[←hzs];exact hn
 rw[nums_intItems]at e
 rw[preSum_eq,List.take_of_length_le (by simp),e]
noncomputable def a2K:List PyData->Option PyData
 | [.list ds]=>(G9 ds).map λns=>.int ns.sum
 | [.tuple ds]=>(G9 ds).map λns=>.int ns.sum
 | _=>none
theorem a5D (hK:X.K=K)(hc:X.calm=true):C2 X (.builtin "sum") (rDN K a2K):=by
 subst hK
 intro pins s σ H xs us Q I r h
 obtain⟨fp,B,ds,z,bk,h1,hf,q⟩:=h
 unfold a2K at hf
 split at hf <;> try cases hf
 ·obtain⟨ns,e,rfl⟩:=Option.map_eq_some_iff.mp hf
  cases J7 e
  obtain⟨v,rfl,a,xs,rfl,ha,hd⟩:=a1g h1 rfl
  cases a2c hd
  exact a8m hc pins s σ H _ us Q I r ⟨a,ns,rfl,SqL.of (d6 _ _ ha),q _ H (i5.refl H) b7.int⟩
 ·obtain⟨ns,e,rfl⟩:=Option.map_eq_some_iff.mp hf
  cases J7 e
  obtain⟨v,rfl,a,xs,rfl,ha,hd⟩:=a1g h1 rfl
  cases a2c hd
  exact a6D hc pins s σ H _ us Q I r ⟨a,ns,rfl,ha.same d6,q _ H (i5.refl H) b7.int⟩
variable [Feeds]
end
end L3
namespace L3
open PySem PySem.Spec PyProof.Rows L2
section
variable {X:Cx}{K:PySem.W.Frag}
variable {mg:Str->Option Value}
end
section
variable [Feeds]{X:Cx}{K:PySem.W.Frag}
noncomputable def a35 (i:Nat)(m:DE->M Out):DE->M Out:=λE F=>(O8 E i).bind λds=>m (E.set i (some (.dat (.list ds)))) F
theorem b36 {i:Nat}{ts:TS}{m:DE->M Out}(h:TSd K ts m):TSd K ts (a35 i m):=λG B0 H0 E F σ H D r F' S e q=>by
 obtain⟨ds,e4,e⟩:=Option.bind_eq_some_iff.mp e
 obtain⟨B,s,sn,I⟩:=S.ex
 have eo:=R1 e4
 have hil:i<E.length:=(List.getElem?_eq_some_iff.mp eo).1
 obtain⟨w,w1,a,xs,rfl,hB,hf,hx,hdx⟩:=I.loc i _ eo
 have ha:=S.own i ds a eo w1
 have sub:∀b∈B.filter (λb=>decide (b≠a)),b∈B:=λb hb=>(List.mem_filter.mp hb).1
 have inB:∀b∈B,b≠a->b∈B.filter (λb=>decide (b≠a)):=λb hb hn=>List.mem_filter.mpr ⟨hb,decide_eq_true hn⟩
 have ng:a ∉ B.filter (λb=>decide (b≠a)):=λhb=>absurd rfl (of_decide_eq_true (List.mem_filter.mp hb).2)
 have sm:i5 (hid H B) (hid H (B.filter (λb=>decide (b≠a)))):=N3 sub
 have get:∀j,j≠i->(E.set i (some (.dat (.list ds))))[j]? = E[j]?:=λj hj=>by rw[List.getElem?_set_ne (Ne.symm hj)]
 have geti:(E.set i (some (.dat (.list ds))))[i]? = some (some (.dat (.list ds))):=by rw[List.getElem?_set_self hil]
 refine h G B0 H0 (E.set i (some (.dat (.list ds)))) F σ H D r F' ⟨⟨_,λb hb=>inB b (s b hb) λz=>ha.2 (z▸hb),λb hb=>sn b (sub b hb),⟨I.fd,λb hb=>inB b (I.fB b hb) λz=>hf (z▸hb),λb hb=>I.bk b (sub b hb),by rw[List.length_set];exact I.ln,λj x ej=>?_⟩⟩,S.fB,S.kp,λj es b ej=>?_,λj k es fs b ej ek=>?_⟩ e q
 ·by_cases hj:j=i
  ·subst hj
   rw[geti]at ej
   cases ej
   refine⟨_,w1,b7.lst (by rw[l8 ng];exact hx) (hdx.same sm)⟩
  ·rw[get j hj]at ej
   obtain⟨v,v1,hv⟩:=I.loc j x ej
   refine⟨v,v1,?_⟩
   cases x with
   | dat d=>exact b7.same (hv:b7 _ _ _ _) sm
   | feed=>exact hv
   | fn _=>exact hv
   | own es =>
    obtain⟨b,ys,e1,hb1,hb2,hb3,hb4⟩:=hv
    subst e1
    exact⟨b,ys,rfl,inB b hb1 λz=>hj (S.inj j i es ds a ej eo (z▸v1) w1),hb2,hb3,hb4.same sm⟩
 ·by_cases hj:j=i
  ·subst hj;rw[geti]at ej;cases ej
  ·rw[get j hj]at ej;exact S.own j es b ej
 ·by_cases hj:j=i
  ·subst hj;rw[geti]at ej;cases ej
  ·by_cases hk:k=i
   ·subst hk;rw[geti]at ek;cases ek
   ·rw[get j hj]at ej;rw[get k hk]at ek;exact S.inj j k es fs b ej ek
theorem a3q (i:Nat){st:Stmt}{ts:TS}{m:DE->M Out}(h:Ss K X st ts m):Ss K X st ts (a35 i m):=⟨h.ps,b36 h.ok⟩
end
end L3
namespace L3
open PySem PySem.Spec PyProof.Rows L2
section
variable {X:Cx}
end
section
variable [Feeds]{X:Cx}{K:PySem.W.Frag}{e:Expr}{te:TE}{m:DE->M PyData}{pos pos':Pos}
noncomputable def a92:DE->M Out:=λ_ _=>none
theorem a6z {st:Stmt}:Ss K X st (λ_ _ _=>False) a92:=⟨λ_ _ _ _ _ _ h=>h.elim,λ_ _ _ _ _ _ _ _ _ _ _ e=>by cases e⟩
end
end L3
namespace L3
open PySem PySem.Spec PyProof.Rows L2
section
variable {prog:Program}{w:World}{A:Around}{E:Value->Shared->Prop}{s:Shared}
end
section
variable [Feeds]{K:PySem.W.Frag}{X:Cx}{pos:Pos}
end
end L3
namespace L3
open PySem PySem.Spec PyProof.Rows L2
section
variable [Feeds]{X:Cx}{K:PySem.W.Frag}{e:Expr}{te:TE}{m:DE->M PyData}{pos:Pos}
noncomputable def mDo (m:DE->M PyData):DE->M Out:=λE F=>(m E F).bind λp=>some (.nx E,p.2)
theorem b3U (h:TEd K te m):TSd K (a4j te) (mDo m):=λG B0 H0 E F σ H D r F' S e q=>by
 obtain⟨⟨d,F1⟩,e1,e⟩:=Option.bind_eq_some_iff.mp e
 cases e
 obtain⟨B,s,sn,I⟩:=S.ex
 exact h G B E F σ H _ d F1 I e1 λv H1 k1 f1 h1=>q σ H1 (S.step k1 f1)
theorem b2Z (h:Ev K X e te m)(hs:swapsWith e none pos.line X.env=pure false:=by rfl):Ss K X (.Expr e pos) (a4j te) (mDo m):=⟨a5A h.pe hs,b3U h.ok⟩
end
end L3
namespace L3
open PySem PySem.Spec PyProof.Rows L2
section
variable [Feeds]{X:Cx}{K:PySem.W.Frag}{e:Expr}{te:TE}{m:DE->M PyData}{pos p2:Pos}
end
end L3
namespace L3
open PySem PySem.Spec PyProof.Rows L2
theorem len_1 {us:List Value}(h:us.length=1):∃a,us=[a]:=List.length_eq_one_iff.mp h
theorem a8S {us:List Value}{n:Nat}(h:us.length=n+1):∃a r,us=a::r∧r.length=n:=by
 cases us with
 | nil=>cases h
 | cons a r=>exact⟨a,r,rfl,Nat.succ.inj h⟩
theorem len_2 {us:List Value}(h:us.length=2):∃a b,us=[a,b]:=by
 obtain⟨a,r,rfl,h2⟩:=a8S h
 obtain⟨b,rfl⟩:=len_1 h2
 exact⟨a,b,rfl⟩
theorem len_3 {us:List Value}(h:us.length=3):∃a b c,us=[a,b,c]:=by
 obtain⟨a,r,rfl,h2⟩:=a8S h
 obtain⟨b,c,rfl⟩:=len_2 h2
 exact⟨a,b,c,rfl⟩
theorem len_4 {us:List Value}(h:us.length=4):∃a b c d,us=[a,b,c,d]:=by
 obtain⟨a,r,rfl,h2⟩:=a8S h
 obtain⟨b,c,d,rfl⟩:=len_3 h2
 exact⟨a,b,c,d,rfl⟩
section
variable {K:PySem.W.Frag}{H:Hp}{B A:List Addr}
end
section
variable [Feeds]
variable {K:PySem.W.Frag}{X:Cx}{e:Expr}{es:List Expr}{te:TE}{m:DE->M PyData}{tl:TA}{ms:DE->M (List DV)}{pos p:Pos}
end
end L3
namespace L3
open PySem PySem.Spec PyProof.Rows L2
noncomputable def b1T?:PyData->Option Int
 | .int i=>some i
 | _=>none
noncomputable def a7Z?:PyData->Option Int
 | .bool b=>some (if b then 1 else 0)
 | _=>none
noncomputable def a1c (ks:List PyData):Option (List Int):=match ks.mapM b1T? with
 | some r=>some r
 | none=>ks.mapM a7Z?
noncomputable def vOf:PyData->V
 | .int i=>.int i
 | .bool b=>.bl b
 | _=>.non
theorem a3T:∀{ks:List PyData} {ns:List Int},ks.mapM b1T? = some ns->ks=ns.map .int
 | [],ns,h=>by simp at h;subst h;rfl
 | k::ks,ns,h=>by
  rw[List.mapM_cons]at h
  obtain⟨a,e1,h⟩:=Option.bind_eq_some_iff.mp h
  obtain⟨r,e2,h⟩:=Option.bind_eq_some_iff.mp h
  cases h
  rw[a3T e2]
  cases k <;> cases e1
  rfl
theorem a2F:∀{ks:List PyData} {ns:List Int},ks.mapM a7Z? = some ns->∃bs:List Bool,ks=bs.map .bool∧ns=bs.map λb=>if b then 1 else 0
 | [],ns,h=>by simp at h;subst h;exact⟨[],rfl,rfl⟩
 | k::ks,ns,h=>by
  rw[List.mapM_cons]at h
  obtain⟨a,e1,h⟩:=Option.bind_eq_some_iff.mp h
  obtain⟨r,e2,h⟩:=Option.bind_eq_some_iff.mp h
  cases h
  obtain⟨bs,rfl,rfl⟩:=a2F e2
  cases k with
  | bool b=>cases e1;exact⟨b::bs,rfl,rfl⟩
  | _=>cases e1
theorem a8R {ks:List PyData}{ns:List Int}(h:a1c ks=some ns):a18 (ks.map vOf)∧(ks.map vOf).map a2r=ns∧∀k∈ks,∀(K:PySem.W.Frag) (H:Hp) (v:V),b7 K H k v->v=vOf k:=by
 unfold a1c at h
 split at h
 ·rename_i r e
  cases h
  rw[a3T e]
  refine⟨.inl λk hk=>?_,?_,λk hk K H v hv=>?_⟩
  ·simp only[List.map_map,List.mem_map]at hk
   obtain⟨n,_,rfl⟩:=hk
   exact⟨n,rfl⟩
  ·rw[List.map_map,List.map_map]
   exact(List.map_congr_left λn _=>rfl).trans (List.map_id _)
  ·obtain⟨n,_,rfl⟩:=List.mem_map.mp hk
   simp only[b7]at hv;exact hv
 ·obtain⟨bs,rfl,rfl⟩:=a2F h
  refine⟨.inr λk hk=>?_,?_,λk hk K H v hv=>?_⟩
  ·simp only[List.map_map,List.mem_map]at hk
   obtain⟨n,_,rfl⟩:=hk
   exact⟨n,rfl⟩
  ·rw[List.map_map,List.map_map]
   exact List.map_congr_left λn _=>rfl
  ·obtain⟨n,_,rfl⟩:=List.mem_map.mp hk
   simp only[b7]at hv;exact hv
inductive Al (K:PySem.W.Frag) (H:Hp):List (Int×PyData)->List (Int×V)->Prop
 | nil:Al K H [] []
 | cons {k:Int} {d:PyData} {v:V} {l m}:b7 K H d v->Al K H l m->Al K H ((k,d)::l) ((k,v)::m)
theorem Al.ins {K:PySem.W.Frag}{H:Hp}{k:Int}{d:PyData}{v:V}(h:b7 K H d v):∀{l m},Al K H l m->Al K H (R5 (k,d) l) (R5 (k,v) m)
 | _,_,.nil=>.cons h .nil
 | _,_,.cons (k:=k') h' r=>by
  simp only[R5]
  split
  ·exact .cons h (.cons h' r)
  ·exact .cons h' (Al.ins h r)
theorem Al.sort {K:PySem.W.Frag}{H:Hp}:∀{l m},Al K H l m->Al K H (u9 l) (u9 m)
 | _,_,.nil=>.nil
 | _,_,.cons h r=>Al.ins h r.sort
theorem Al.dats {K:PySem.W.Frag}{H:Hp}:∀{l m},Al K H l m->a8 K H (l.map Prod.snd) (m.map Prod.snd)
 | _,_,.nil=>a8.nil
 | _,_,.cons h r=>a8.cons h r.dats
theorem a4Y {K:PySem.W.Frag}{H:Hp}:∀{ns:List Int} {ds:List PyData} {xs:List V},a8 K H ds xs->Al K H (ns.zip ds) (ns.zip xs)
 | [],_,_,_=>.nil
 | n::ns,[],xs,h=>by
  have e:xs=[]:=List.length_eq_zero_iff.mp (by rw[h.length];rfl)
  subst e;exact .nil
 | n::ns,d::ds,xs,h=>by
  cases xs with
  | nil=>have:=h.length;simp at this
  | cons x xs =>
   simp only[a8]at h
   obtain⟨y,ys,e,h1,h2⟩:=h
   cases e
   exact .cons h1 (a4Y h2)
section
variable [Feeds]{K:PySem.W.Frag}{X:Cx}
structure LamB (K:PySem.W.Frag) (mg:Str->Option Value) (base:Heap) (x:Str) (fd:FuncData) (c P:Addr):Prop where
 mem:(x,c,P)∈tabsK Feeds.lam K
 code:fd.code = .ref c
 hd:PySem.W.CodeHd base c P
 bm:BMd base mg
 nd:(tabP K).Nodup
noncomputable def a12 (me:DE->M PyData)(E0:DE):List PyData->M (List PyData)
 | []=>λF=>some ([],F)
 | d::r=>λF=>(me (some (.dat d)::E0) F).bind λp=>(a12 me E0 r p.2).bind λq=>some (p.1::q.1,q.2)
noncomputable def sSK (ma:DE->M (List PyData))(cap:List Nat)(me:DE->M PyData):DE->M PyData:=λE F=>(ma E F).bind λp=>match p.1 with
 | [.list ds]=>if ds.length<64 then(a12 me (cap.map λj=>(E[j]?).join) ds p.2).bind λq=>(a1c q.1).bind λns=>some (.list ((u9 (ns.zip ds)).map Prod.snd),q.2) else none
 | _=>none
theorem a0u {me:DE->M PyData}{E0:DE}:∀{ds:List PyData} {F:FS} {ks:List PyData} {F':FS},a12 me E0 ds F=some (ks,F')->ks.length=ds.length
 | [],F,ks,F',h=>by cases h;rfl
 | d::r,F,ks,F',h=>by
  obtain⟨p,_,h⟩:=Option.bind_eq_some_iff.mp h
  obtain⟨q,e,h⟩:=Option.bind_eq_some_iff.mp h
  cases h
  simp[a0u (F:=p.2) (ks:=q.1) (F':=q.2) e]
theorem Y0 {α β:Type}{f:α->β}:∀{l:List α},(l.map f).Nodup->∀{a b},a∈l->b∈l->f a=f b->a=b
 | [],_,_,_,h,_,_=>by simp at h
 | x::l,h,a,b,ha,hb,e=>by
  rw[List.map_cons,List.nodup_cons]at h
  rcases List.mem_cons.mp ha with e1 | ha1
  ·rcases List.mem_cons.mp hb with e2 | hb1
   ·rw[e1,e2]
   ·exact absurd (by rw[←e1,e];exact List.mem_map_of_mem hb1) h.1
  ·rcases List.mem_cons.mp hb with e2 | hb1
   ·exact absurd (by rw[←e2,←e];exact List.mem_map_of_mem ha1) h.1
   ·exact Y0 h.2 ha1 hb1 e
theorem a9C {G:GF}{H H2:Hp}{F:FS}{x:Str}{c P:Addr}(hm:(x,c,P)∈tabsK Feeds.lam K)(nd:(tabP K).Nodup)(f:FAt K G H F)(g:b1G P (a3L x) H H2)(hT:a2J H2 P (a3L x)):Kp (k8 K G) H H2∧FAt K G H2 F:=by
 rcases g with rfl | ⟨ps,more,c',hP,hc',hcP,rfl⟩
 ·exact⟨Kp.refl,f⟩
 ·have hPf:P∈tabP K:=List.mem_map_of_mem (f:=λt:Str×Addr×Addr=>t.2.2) hm
  have stay:∀b o,H b=some o->b≠P->upd (upd H P (.tbl (ps++more))) c' (cdO c' (a3L x)) b=some o:=λb o e hb=>by
   rw[f7 (l5 e hc'),f7 hb];exact e
  have ne:∀{b o},H b=some o->NoT o->b≠P:=λ{b o} e h z=>by
   rw[z,hP]at e
   exact h.1 _ (Option.some.inj e).symm
  refine⟨λb o e hb=>stay b o e λz=>hb (z▸a86 hPf),?_,λt ht=>?_⟩
  ·cases G with
   | none=>trivial
   | some p =>
    obtain⟨d,c0⟩:=p
    obtain⟨o1,a1,b1⟩:=Feeds.some1 f.1
    obtain⟨o2,a2,b2⟩:=Feeds.some2 f.1
    exact Feeds.congr f.1 (by rw[a1];exact stay _ _ a1 (ne a1 b1)) (by rw[a2];exact stay _ _ a2 (ne a2 b2))
  ·by_cases htP:t.2.2=P
   ·have e:t=(x,c,P):=Y0 (f:=λt:Str×Addr×Addr=>t.2.2) nd ht hm htP
    rw[e];exact hT
   ·obtain⟨qs,h1,h2,h3⟩:=f.2 t ht
    refine⟨qs,stay _ _ h1 htP,h2,λpos cv q=>?_⟩
    obtain⟨c2,r1,r2⟩:=h3 pos cv q
    exact⟨c2,r1,stay _ _ r2 λz=>by rw[z,hP]at r2;cases r2⟩
theorem a9m {G:GF}{H:Hp}{F:FS}{c:Addr}{q:Str}(f:FAt K G H F)(h:H c=some (cdO c q)):c ∉ k8 K G:=λz=>by
 have tb:c∈tabP K->False:=λz=>by
  obtain⟨t,ht,e⟩:=List.mem_map.mp z
  obtain⟨ps,h1,_⟩:=f.2 t ht
  rw[e,h]at h1;cases h1
 cases G with
 | none=>exact tb z
 | some p =>
  obtain⟨d,c0⟩:=p
  simp only[k8,List.mem_cons]at z
  rcases z with rfl | rfl | z
  ·obtain⟨o,e,hn⟩:=Feeds.some1 f.1
   rw[h]at e;exact hn.2 _ (Option.some.inj e).symm
  ·obtain⟨o,e,hn⟩:=Feeds.some2 f.1
   rw[h]at e;exact hn.2 _ (Option.some.inj e).symm
  ·exact tb z
theorem SitE.lamS {G:GF}{B:List Addr}{E:DE}{F F':FS}{σ:St}{H H':Hp}{d:PyData}{v:V}(I:SitE K G B E F σ H)(k:Kp (k8 K G) H H')(f:FAt K G H' F')(h:b7 K (hid H' B) d v)(cap:List Nat) :
  SitE K G B (some (.dat d)::cap.map λj=>(E[j]?).join) F' (Y7 v cap σ) H':=by
 have J:=(I.step k f).cap 0 cap
 refine⟨f,I.fB,J.bk,by simp[Y7],λi x e=>?_⟩
 cases i with
 | zero =>
  have e:some (some (DV.dat d))=some (some x):=e
  cases e
  exact⟨v,rfl,h⟩
 | succ i=>exact J.loc i x e
theorem a8c {e:Expr}{params:Arguments}{body:Expr}{scope osc:Scope}{p pos lpos kp:Pos}{c P:Addr}{x y:Str}{N:List Str}{cap:List Nat}{ta:TA}{ma:DE->M (List PyData)}{te:TE}{me:DE->M PyData}{k:Nat}{fd:FuncData}
  (LB:LamB K X.mg X.base x fd c P) (hK:X.K=K) (hm:X.mg "sorted" = none) (hr:Room k X.A) (hc:X.calm=true) (ha:Ea K X [e] ta ma) (hosc:X.env.scope=osc) (L:LamOk X.N osc y N cap scope)
  (hcode:X.env.code = .ref c) (hq:X.env.qual ++ "<lambda>" = a3L x)
  (hE:∀cl f c' Y s H,Ev K (cxL X N (a3L x) scope cl f c' Y s H) body te me)
  (hdef:defaultsOf params X.env=([],[]):=by rfl)
  (hbind:∀(cl:List (Str×Addr)) (pm:Value) (c':Addr) (ctv u:Value),bindArgs (PySem.W.kla_fn "<lambda>" (a3L x) params body scope cl pm (.ref c') ctv) ⟨[u],[]⟩=pure [(y,u)]:=by intros;rfl)
  (hg:Gl X "sorted":=by rfl) (hs:starEach [e] X.env=[(false,eval e X.env)]:=by rfl) :
  Ev K X (.Call (.Name "sorted" p) [e] [⟨some "key",.Lambda params body scope lpos,kp⟩] pos) (tSK K P (a3L x) cap ta te) (sSK ma cap me):=by
 subst hK
 refine⟨b39 hg hm hr hc ha.pa hdef hosc L hcode LB.hd LB.bm hq hbind (λcl f c' Y s H=>(hE cl f c' Y s H).pe) hs,λG B E F σ H Q d F' I e q=>?_⟩
 obtain⟨⟨as,F1⟩,e1,e⟩:=Option.bind_eq_some_iff.mp e
 refine ha.ok G B E F σ H _ as F1 I e1 λvs H1 k1 f1 h1=>?_
 dsimp only at e
 split at e
 case h_2=>cases e
 rename_i ds
 split at e
 case isFalse=>cases e
 rename_i h64
 obtain⟨⟨kds,F2⟩,e2,e⟩:=Option.bind_eq_some_iff.mp e
 obtain⟨ns,e3,e⟩:=Option.bind_eq_some_iff.mp e
 cases e
 obtain⟨hko,hnum,hv⟩:=a8R e3
 obtain⟨l,xs,rfl,hl,hd⟩:∃l xs,vs=[.ref l]∧hid H1 B l=some (.lst xs)∧a8 X.K (hid H1 B) ds xs:=by
  simp only[a8]at h1
  obtain⟨v,r,rfl,h2,rfl⟩:=h1
  simp only[b7]at h2
  obtain⟨l,xs,rfl,h3,h4⟩:=h2
  exact⟨l,xs,rfl,h3,h4⟩
 have xl:=hd.length
 refine⟨l,xs,rfl,SqL.of (d6 _ _ hl),by omega,f1.2 _ LB.mem,λH2 gr hT2 c' hc'=>?_⟩
 obtain⟨k2,f2⟩:=a9C LB.mem LB.nd f1 gr hT2
 have hlB:l ∉ k8 X.K G:=λz=>by
  rw[B3 (I.fB l z)]at hl;cases hl
 refine⟨λi H'=>∃Fi rest,Kp (k8 X.K G) H2 H'∧FAt X.K G H' Fi∧a12 me (cap.map λj=>(E[j]?).join) (ds.drop i) Fi=some (rest,F2)∧kds.drop i=rest,kds.map vOf,by rw[List.length_map,a0u e2,xl],hko,
  SqL.of (k2 l _ (d6 _ _ hl) hlB),⟨F1,kds,Kp.refl,f2,e2,rfl⟩,λi H' ⟨Fi,rest,a1,a2,_⟩=>a1 _ _ hc' (a9m f2 hc'),λi v H' hx ⟨Fi,rest,a1,a2,a3,a4⟩=>?_,λa H' ys ⟨Fi,rest,a1,a2,a3,a4⟩ Ha o=>?_⟩
 ·have hd':=hd.same ((k2.trans a1).hid I.fB)
  obtain⟨dd,hdd,hdv⟩:=hd'.get hx
  have edr:ds.drop i=dd::ds.drop (i+1):=by
   have hi:=(List.getElem?_eq_some_iff.mp hdd)
   obtain⟨hi,e⟩:=hi
   rw[List.drop_eq_getElem_cons hi,e]
  rw[edr]at a3
  obtain⟨⟨kk,Fk⟩,g1,g⟩:=Option.bind_eq_some_iff.mp a3
  obtain⟨⟨kr,Fr'⟩,g2,g⟩:=Option.bind_eq_some_iff.mp g
  cases g
  have hki:kds[i]? = some kk:=by
   have:=congrArg (λl=>l[0]?) a4
   simpa using this
  refine(hE [] 0 0 X.A X.s₀ H').ok G B _ Fi _ H' _ kk Fk (I.lamS ((k1.trans k2).trans a1) a2 hdv cap) g1 λw H3 k3 f3 h3=>?_
  refine⟨?_,Fk,kr,a1.trans k3,f3,g2,?_⟩
  ·rw[List.getElem?_map,hki,hv kk (List.mem_of_getElem? hki) _ _ _ h3];rfl
  ·have:=congrArg List.tail a4
   simpa using this
 ·have hend:a12 me (cap.map λj=>(E[j]?).join) (ds.drop xs.length) Fi=some ([],Fi):=by rw[xl,List.drop_length];rfl
  rw[hend]at a3
  cases a3
  have ey:=a49 o (by rw[List.length_map,a0u e2,xl])
  rw[hnum]at ey
  subst ey
  have bk':=p6 I.bk ((k1.trans k2).trans a1) a2
  have hdz:=(a4Y (ns:=ns) (hd.same ((k2.trans a1).hid I.fB))).sort.dats
  exact q _ _ (((k1.trans k2).trans a1).trans (Kp.upd Ha)) (a2.same (i5.upd Ha)) (A5 bk' Ha hdz)
end
end L3
namespace L3
open PySem PySem.Spec PyProof.Rows L2
noncomputable def a4H (p:Int):List Int->List Int
 | []=>[p]
 | q::r=>if p≤q then p::q::r else q::a4H p r
noncomputable def a1L:List Int->List Int
 | []=>[]
 | p::r=>a4H p (a1L r)
theorem a0s (p:Int):∀l:List Int,(a4H p l).Perm (p::l)
 | []=>.refl _
 | q::r=>by
  rw[a4H]
  split
  ·exact .refl _
  ·exact((a0s p r).cons q).trans (.swap p q r)
theorem L1:∀l:List Int,(a1L l).Perm l
 | []=>.refl _
 | p::r=>(a0s p _).trans ((L1 r).cons p)
theorem a5w {p:Int}:∀{l:List Int},l.Pairwise (· ≤ ·)->(a4H p l).Pairwise (· ≤ ·)
 | [],_=>by simp[a4H]
 | q::r,h=>by
  rw[List.pairwise_cons]at h
  rw[a4H]
  split
  ·rename_i hle
   refine List.pairwise_cons.mpr ⟨λz hz=>?_,List.pairwise_cons.mpr h⟩
   rcases List.mem_cons.mp hz with rfl | hz
   ·exact hle
   ·have:=h.1 z hz;omega
  ·rename_i hgt
   refine List.pairwise_cons.mpr ⟨λz hz=>?_,a5w h.2⟩
   rcases List.mem_cons.mp ((a0s p r).mem_iff.mp hz) with rfl | hz
   ·omega
   ·exact h.1 z hz
theorem V0:∀l:List Int,(a1L l).Pairwise (· ≤ ·)
 | []=>.nil
 | p::r=>a5w (V0 r)
theorem R0:∀{l₁ l₂:List Int},l₁.Perm l₂->l₁.Pairwise (· ≤ ·)->l₂.Pairwise (· ≤ ·)->l₁=l₂
 | [],l₂,p,_,_=>p.nil_eq
 | a::r,[],p,_,_=>by have:=p.length_eq;simp at this
 | a::r,b::t,p,h1,h2=>by
  rw[List.pairwise_cons]at h1 h2
  have ab:a=b:=by
   rcases List.mem_cons.mp (p.mem_iff.mp (List.mem_cons_self (a:=a) (l:=r))) with e | e
   ·exact e
   ·rcases List.mem_cons.mp (p.mem_iff.mpr (List.mem_cons_self (a:=b) (l:=t))) with e2 | e2
    ·exact e2.symm
    ·have q1:=h2.1 a e
     have q2:=h1.1 b e2
     omega
  subst ab
  rw[R0 (p.cons_inv) h1.2 h2.2]
noncomputable def a3t:PyData->Option Int
 | .tuple (.int n::_)=>some n
 | _=>none
noncomputable def T4:List PyData->Option PyData
 | [.list ds]=>match G9 ds with
  | some ns=>if ns.length<64 then some (.list ((a1L ns).map .int)) else none
  | none=>(ds.mapM a3t).bind λns=>if ns.Nodup∧ns.length<64 then some (.list ((u9 (ns.zip ds)).map Prod.snd)) else none
 | _=>none
theorem a6n {K:PySem.W.Frag}{H H':Hp}(s:i5 H H'):∀{ds:List PyData} {ns:List Int} {zs:List V},ds.mapM a3t=some ns->a8 K H ds zs->a4n K H' ns zs
 | [],ns,zs,e,h=>by
  simp at e;subst e
  exact List.length_eq_zero_iff.mp (by rw[h.length];rfl)
 | d::ds,ns,zs,e,h=>by
  rw[List.mapM_cons]at e
  obtain⟨n,e1,e⟩:=Option.bind_eq_some_iff.mp e
  obtain⟨ns',e2,e⟩:=Option.bind_eq_some_iff.mp e
  cases e
  simp only[a8]at h
  obtain⟨z,zs',rfl,h1,h2⟩:=h
  unfold a3t at e1
  split at e1
  ·cases e1
   obtain⟨t,xs,rfl,hq,hd⟩:=h1.ofTup
   simp only[a8]at hd
   obtain⟨v,r,rfl,hv,_⟩:=hd
   simp only[b7]at hv
   subst hv
   exact⟨t,r,zs',rfl,hq.same s,a6n s e2 h2⟩
  ·cases e1
theorem a40 {α β:Type}{f:α->Option β}:∀{l:List α} {m:List β},l.mapM f=some m->m.length=l.length
 | [],m,e=>by simp at e;subst e;rfl
 | a::l,m,e=>by
  rw[List.mapM_cons]at e
  obtain⟨b,_,e⟩:=Option.bind_eq_some_iff.mp e
  obtain⟨m',e2,e⟩:=Option.bind_eq_some_iff.mp e
  cases e
  simp[a40 e2]
theorem a0X {K:PySem.W.Frag}{H:Hp}:∀ns:List Int,a8 K H (ns.map .int) (ns.map V.int)
 | []=>a8.nil
 | n::ns=>a8.cons b7.int (a0X ns)
section
variable [Feeds]{K:PySem.W.Frag}{X:Cx}
theorem a0z (hK:X.K=K):C2 X (.builtin "sorted") (rDN K T4):=by
 intro pins s σ H xs us Q I r h
 obtain⟨fp,B,ds,z,bk,h1,hf,q⟩:=h
 unfold T4 at hf
 split at hf <;> try cases hf
 split at hf
 ·rename_i ns e
  split at hf
  case isFalse=>cases hf
  rename_i h64
  cases hf
  cases J7 e
  obtain⟨v,rfl,a,xs,rfl,ha,hd⟩:=a1g h1 rfl
  cases a2c hd
  refine a3G hK pins s σ H _ us Q I r ⟨a,ns,rfl,SqL.of (d6 _ _ ha),h64,λp ns' hp pm pw=>?_⟩
  cases R0 (pm.trans (L1 ns).symm) pw (V0 ns)
  exact q _ _ (i5.upd hp) (A5 bk hp (a0X _))
 ·obtain⟨ns,e,hf⟩:=Option.bind_eq_some_iff.mp hf
  split at hf
  case isFalse=>cases hf
  rename_i hc
  cases hf
  obtain⟨v,rfl,a,xs,rfl,ha,hd⟩:=a1g h1 rfl
  refine a5c hK pins s σ H _ us Q I r ⟨a,xs,ns,rfl,SqL.of (d6 _ _ ha),a6n d6 e hd,hc.1,hc.2,λp ys hp o=>?_⟩
  have ey:=a49 o (by rw[List.length_map,a40 e,hd.length])
  rw[List.map_map,show(a2r ∘ V.int)=id from rfl,List.map_id]at ey
  subst ey
  exact q _ _ (i5.upd hp) (A5 bk hp (a4Y (ns:=ns) hd).sort.dats)
end
end L3
namespace L2
open PySem PySem.Spec PyProof.Rows
section
variable {P:Program}{w:World}{K:PySem.W.Frag}{mg:Str->Option Value}{base:Heap}
theorem Fun.okC {x qual:Str}{st:Stmt}{f:Addr}{fd:FuncData}{N ps:List Str}{k:Nat}{sp:Sp}(F:Fun K x qual st f fd)(S:FnScope N ps (defScope st))(len:∀vs H Q E,sp vs H Q E->vs.length=ps.length)
  (hbody:∀(cdv:Value) (A:Around) (outer:List Env) (s:Shared) (H:Hp) (vs:List V) (Q:VK) (E:XK),fd.code=cdv->Room k (A.deeper (envOfC qual (defScope st) s.heap.objs.size f cdv))->sp vs H Q E ->
   ∃t,PSs (K1 CX0 P w K mg base N qual (defScope st) f cdv A outer s H E).nox (defBody st) t∧t { nx:=λ_ H'=>Q .non H',rt:=Q } (K5 N vs) H):FnOk P w K mg base CX0 (k+1) f fd ps sp:=by
 obtain⟨oc,od,kV,doc,pm,an,cdv,ct,osl,rfl,lk,hcd⟩:=F.ex
 refine b15 lk hcd S len λA outer s H vs Q E hr hsp=>?_
 obtain⟨t,h,q⟩:=hbody cdv A outer s H vs Q E rfl hr hsp
 exact⟨t,h.nox,q⟩
end
end L2
namespace L3
open PySem PySem.Spec PyProof.Rows L2
section
variable [Feeds]{P:Program}{w:World}{K:PySem.W.Frag}{mg:Str->Option Value}{base:Heap}
theorem a6w {x qual:Str}{st:Stmt}{f:Addr}{fd:FuncData}{N ps:List Str}{k:Nat}{m:DE->M Out}(Fn:Fun K x qual st f fd)(S:FnScope N ps (defScope st))
  (hbody:∀(cdv:Value) (A:Around) (outer:List Env) (s:Shared) (H:Hp) (E:XK),fd.code=cdv->Room k (A.deeper (envOfC qual (defScope st) s.heap.objs.size f cdv)) ->
   ∃ts,Sss K (K1 CX0 P w K mg base N qual (defScope st) f cdv A outer s H E).nox (defBody st) ts m):FnOk P w K mg base CX0 (k+1) f fd ps (spD K ps.length (z6 N m)):=by
 refine Fn.okC S (λvs H Q E h=>?_) (λcdv A outer s H vs Q E hcd hr h=>?_)
 ·obtain⟨G,B,F,args,d,F',hl,_⟩:=h
  exact hl
 ·obtain⟨G,B,F,args,d,F',hl,fB,bk,fa,ha,hm,q⟩:=h
  obtain⟨ts,hts⟩:=hbody cdv A outer s H E hcd hr
  refine⟨ts,hts.ps,?_⟩
  obtain⟨⟨o,F1⟩,e1,e⟩:=Option.bind_eq_some_iff.mp hm
  refine hts.ok G B H (p9 N args) F (L2.K5 N vs) H _ o F1 (a0E fB bk fa ha) e1 ?_
  cases o with
  | rt d'=>cases e;exact λv H' k1 f1 h1=>q v H' k1 f1 h1
  | nx E'=>cases e;exact λσ' H' S'=>q _ H' S'.kp (by obtain⟨B,_,_,I⟩:=S'.ex;exact I.fd) b7.non
  | bk E'=>cases e
  | ct E'=>cases e
end
end L3
namespace L3
open PySem PySem.Spec PyProof.Rows L2
noncomputable abbrev b2Y:=List (Str×Addr×Addr)
noncomputable def b1y (ts:b2Y)(h:Heap):Prop:=∀t∈ts,PySem.W.CodeHd h t.2.1 t.2.2∧h.get? t.2.2=some (PySem.W.tabObj #[])
theorem a7i {P:Program}{w:World}{K:PySem.W.Frag}{mg mb:Str->Option Value}{CX:CXT}{k:Nat}{fa a:Addr}{fd:FuncData}{x:Str}{sp:Sp}{s₁:Shared}{vs:List Value}{ns:List Int}{ts:b2Y}
  (KX:K.In s₁.heap) (hns:s₁.heap.Ns mainGlobals mg) (hb:s₁.heap.Ns builtinsNs mb) (hbb:∀x:Str,x ≠ "__name__"->mb x=bootBuiltins x) (hlim:s₁.heap.NoLimit) (hg:s₁.gens = #[])
  (ha:s₁.heap.get? a=some { cls:=.type "list",data:=.seq vs.toArray }) (hi:IntsAre vs ns) (hl:ns.length≤sizeLine) (hr:Room k callerA)
  (hT:b1y ts s₁.heap) (hnt:PySem.W.noTabs K=true) (BM:BMd s₁.heap mg)
  (F:∀base:Heap,K.In base->base.Ns mainGlobals mg->BMd base mg->(∀t∈ts,PySem.W.CodeHd base t.2.1 t.2.2)->FnOk P w K mg base CX k fa fd [x] sp) (hbind:∀(s:Shared) (u:Value),BindsTo s fd ⟨[u],[]⟩ [(x,u)])
  (hsp:∀H:Hp,SqL K H a (ns.map V.int)->L6 ts H->sp [.ref a] H (λv _=>v = .bl true) λ_ _ _=>False)
  (hCX:∀H e s',CX [] H s₁ (λ_ _ _=>False) e s'->False) :
  codeAny (model P w) callerA (.call (.ref fa) ⟨[.ref a],[]⟩) (λr s'=>r = .ok (.ret (.bool true))∧OldK s₁.heap s'.heap∧s'.os=s₁.os∧AllBare s'.gens) s₁:=by
 have rv:=W1 hi
 have lenV:=hi.length
 have aP:∀t∈ts,t.2.2≠a:=λt ht e=>by
  have:=(hT t ht).2
  rw[e,ha]at this;cases this
 have core:∀H:Hp,(∀b,H b=none∨(b=a∧H b=some (.frz { cls:=.type "list",data:=.seq vs.toArray } (.lst (ns.map V.int))))∨(b∈ts.map (·.2.2)∧H b=some (.tbl #[])))->(∀t∈ts,H t.2.2=some (.tbl #[]))->SqL K H a (ns.map V.int)->(H a≠none->K.lookup a=none) ->
   codeAny (model P w) callerA (.call (.ref fa) ⟨[.ref a],[]⟩) (λr s'=>r = .ok (.ret (.bool true))∧OldK s₁.heap s'.heap∧s'.os=s₁.os∧AllBare s'.gens) s₁:=by
  intro H hO hTH hS hK
  have tabO:∀{b:Addr},b∈ts.map (·.2.2)->s₁.heap.get? b=some (PySem.W.tabObj #[]):=λ{b} hb=>by
   obtain⟨t,ht,rfl⟩:=List.mem_map.mp hb
   exact(hT t ht).2
  have hok:HOk P w H s₁.heap:=λb u e=>by
   rcases hO b with z | ⟨rfl,z⟩ | ⟨hb,z⟩
   ·rw[z]at e;cases e
   ·rw[z]at e;cases e
    exact⟨ha,by rw[List.length_map];exact hl,vs,_,rv,ha⟩
   ·rw[z]at e;cases e
    exact tabO hb
  have base_of:∀{b:Addr} {o:Obj},s₁.heap.get? b=some o->H b=none->(a1W s₁.heap H).get? b=some o:=λe n=>a8C e n
  have other:∀{b:Addr} {o:Obj},s₁.heap.get? b=some o->o≠{ cls:=.type "list",data:=.seq vs.toArray }->o≠PySem.W.tabObj #[]->H b=none:=λ{b o} e h1 h2=>by
   rcases hO b with z | ⟨rfl,z⟩ | ⟨hb,z⟩
   ·exact z
   ·rw[ha]at e;exact absurd (Option.some.inj e).symm h1
   ·rw[tabO hb]at e;exact absurd (Option.some.inj e).symm h2
  have nsK:∀{b:Addr} {m:Str->Option Value},s₁.heap.Ns b m->(a1W s₁.heap H).Ns b m:=λ{b m} ⟨o,es,ep,e,d,r⟩=>⟨o,es,ep,base_of e (other e (λz=>by rw[z]at d;cases d) λz=>by rw[z]at d;cases d),d,r⟩
  have hKb:K.In (a1W s₁.heap H):=λb o e=>base_of (KX b o e) (by
   rcases hO b with z | ⟨rfl,z⟩ | ⟨hb,z⟩
   ·exact z
   ·rw[hK (by rw[z];simp)]at e;cases e
   ·have e2:=KX b o e
    rw[tabO hb]at e2
    cases e2
    have h2:=List.all_eq_true.mp hnt _ (PySem.W.mem_of_lookupK e)
    exact absurd (show false=true from h2) Bool.false_ne_true)
  have hM:Mod K mg (a1W s₁.heap H):=⟨hKb,nsK hns,⟨mb,nsK hb,hbb⟩,let ⟨mc,h1,h2⟩:=hlim;⟨mc,nsK h1,h2⟩⟩
  have hBM:BMd (a1W s₁.heap H) mg:=by
   obtain⟨bm,ob,b1,b2,b3,b4,b5,b6⟩:=BM
   exact⟨bm,ob,b1,b2,base_of b3 (other b3 (λz=>by rw[z]at b4;have b4:Value.type "list" = Value.type "module":=b4;exact absurd b4 (by decide)) λz=>by rw[z]at b4;have b4:Value.none=Value.type "module":=b4;exact absurd b4 (by decide)),b4,b5,b6⟩
  have hCd:∀t∈ts,PySem.W.CodeHd (a1W s₁.heap H) t.2.1 t.2.2:=λt ht=>by
   obtain⟨o,vs',file,tf,flags,tg,inF,text,tt,e1,r1,r2⟩:=(hT t ht).1
   exact⟨o,vs',file,tf,flags,tg,inF,text,tt,base_of e1 (other e1 (λz=>by rw[z]at r1;have r1:Value.type "list" = Value.type "code":=r1;exact absurd r1 (by decide)) λz=>by rw[z]at r1;have r1:Value.none=Value.type "code":=r1;exact absurd r1 (by decide)),r1,r2⟩
  have e0:Env0 P w K mg (a1W s₁.heap H) callerA [] s₁ H:=⟨rfl,hM,λb o e=>a9F e,Nat.le_of_eq (a7f _ _),trivial,λb hb=>absurd (show b∈([]:List Addr) from hb) (by simp),hok,.of_eq hg⟩
  have hTO:L6 ts H:=λt ht=>⟨#[],hTH t ht,trivial,λpos cv e=>by cases e⟩
  refine codeAny_mono ((F _ hKb (nsK hns) hBM hCd).run callerA [] s₁ H ⟨[.ref a],[]⟩ [.ref a] [.ref a] _ _ hr e0 (hbind s₁ (.ref a)) (.cons rfl .nil) (hsp H hS hTO)) λr s' h=>?_
  cases r with
  | error e=>exact(hCX H e s' h).elim
  | ok fl =>
   cases fl with
   | next=>exact False.elim h
   | brk=>exact False.elim h
   | cont=>exact False.elim h
   | ret u =>
    obtain⟨v,H',os,bare,un,hok',r',q⟩:=h
    have q':v = .bl true:=q
    subst q'
    obtain rfl:u=Value.bool true:=r'
    have kept:∀b o,s₁.heap.get? b=some o->H b=none->s'.heap.get? b=some o:=λb o e q=>un.keep b o e q (by intro z;exact absurd (show b∈([]:List Addr) from z) (by simp)) (by simp)
    have scr:∀b o,s₁.heap.get? b=some o->b=a->H b=some (.frz { cls:=.type "list",data:=.seq vs.toArray } (.lst (ns.map V.int)))->s'.heap.get? b=some o:=λb o e hb z=>by
     have z2:=un.frzs b _ _ z
     obtain⟨e1,_⟩:=hok b _ z
     obtain⟨e2,_⟩:=hok' b _ z2
     rw[e]at e1;cases e1
     exact e2
    have tab:∀b,H b=some (.tbl #[])->∃more,s'.heap.get? b=some (PySem.W.tabObj more):=λb z=>by
     obtain⟨more,z2⟩:=un.tbls b _ z
     exact⟨_,hok' b _ z2⟩
    refine⟨rfl,⟨λb o e=>?_,λb o e=>?_⟩,os,bare⟩
    ·rcases hO b with z | ⟨hb,z⟩ | ⟨hb,z⟩
     ·exact .inl (kept b o e z)
     ·exact .inl (scr b o e hb z)
     ·obtain⟨more,e2⟩:=tab b z
      have e3:=tabO hb
      rw[e]at e3;cases e3
      obtain⟨t,ht,rfl⟩:=List.mem_map.mp hb
      refine .inr (.inl ⟨((hT t ht).1.tab (hT t ht).2).isCodeTable,rfl,#[],more,rfl,by rw[Array.empty_append];exact e2⟩)
    ·rcases hO b with z | ⟨hb,z⟩ | ⟨hb,z⟩
     ·exact⟨o,kept b o e z⟩
     ·exact⟨o,scr b o e hb z⟩
     ·obtain⟨more,e2⟩:=tab b z
      exact⟨_,e2⟩
 cases hk:K.lookup a with
 | some o =>
  have e:=KX a o hk
  rw[ha]at e
  cases e
  have haT:a ∉ ts.map (·.2.2):=λz=>by
   obtain⟨t,ht,e⟩:=List.mem_map.mp z
   exact aP t ht e
  refine core (λb=>if b∈ts.map (·.2.2) then some (.tbl #[]) else none) (λb=>?_) (λt ht=>if_pos (List.mem_map_of_mem ht)) (.inr ⟨_,vs.toArray,_,hk,rfl,rfl,rfl,by rw[List.size_toArray,lenV];exact hl,by simpa using rv⟩) λz=>absurd (if_neg haT) z
  by_cases hb:b∈ts.map (·.2.2)
  ·exact .inr (.inr ⟨hb,if_pos hb⟩)
  ·exact .inl (if_neg hb)
 | none =>
  refine core (λb=>if b=a then some (.frz { cls:=.type "list",data:=.seq vs.toArray } (.lst (ns.map V.int))) else if b∈ts.map (·.2.2) then some (.tbl #[]) else none) (λb=>?_) (λt ht=>?_) (.inl (.inr ⟨{ cls:=.type "list",data:=.seq vs.toArray },if_pos rfl⟩)) λ_=>hk
  ·by_cases hb:b=a
   ·exact .inr (.inl ⟨hb,if_pos hb⟩)
   ·by_cases hb2:b∈ts.map (·.2.2)
    ·exact .inr (.inr ⟨hb2,by rw[if_neg hb,if_pos hb2]⟩)
    ·exact .inl (by rw[if_neg hb,if_neg hb2])
  ·rw[if_neg (aP t ht)]
   exact if_pos (List.mem_map_of_mem (f:=λt:Str×Addr×Addr=>t.2.2) ht)
theorem walk_ofT {l:PySem.W.OpenLaw}{n k:Nat}{q:Program}{loose:List Str}{XP:(Str->Option Value)->Heap->Prop}{YP:World->Heap->Prop}{d:DefRec}{K:Params->PySem.W.Frag}{CX:World->CXT}{sp:World->Sp}{x:Str}(lam:List Str)
  (hn:l.most=some n) (hn2:n≤sizeLine) (hdf:d.params.defaults=[]) (hr:Room k callerA)
  (hrec:(lam.all λx=>((recsOf q).find? λe=>e.name == x).isSome)=true) (hnt:∀w:World,PySem.W.noTabs (K w.params)=true)
  (hY:∀(w:World) (h:Heap),YP w h->(K w.params).In h)
  (F:∀(w:World) (mg:Str->Option Value) (fa:Addr) (h:Heap),(K w.params).In h->h.Ns mainGlobals mg->mg d.name=some (.ref fa) ->
   ∃fd:FuncData,(∀(s:Shared) (u:Value),BindsTo s fd ⟨[u],[]⟩ [(x,u)]) ∧
    ∀base:Heap,(K w.params).In base->base.Ns mainGlobals mg->BMd base mg->(∀t∈tabsK lam (K w.params),PySem.W.CodeHd base t.2.1 t.2.2)->FnOk l.prog w (K w.params) mg base (CX w) k fa fd [x] (sp w))
  (hsp:∀(w:World) (H:Hp) (a:Addr) (ns:List Int),ns.length≤n->SqL (K w.params) H a (ns.map V.int)->L6 (tabsK lam (K w.params)) H->sp w [.ref a] H (λv _=>v = .bl true) λ_ _ _=>False)
  (hCX:∀(w:World) (H:Hp) (s:Shared) (e:Value) (s':Shared),CX w [] H s (λ_ _ _=>False) e s'->False) :
  PySem.W.WalkO q loose XP YP l.row.toRowW d [] (λf vs=>PySem.call f vs):=by
 refine Att.attach_call hn hdf λw s₀ s₁ mg mb fa o pm cd doc a vs ns G Y ho hd hcd hmg hobj hints hlen hg=>?_
 have KX:=hY w _ Y
 obtain⟨fd,hb,hF⟩:=F w mg fa _ KX G.T.g hmg
 refine a7i (ts:=tabsK lam (K w.params)) KX G.T.g G.T.b G.T.builtins G.T.nolimit hg hobj hints (Nat.le_trans hlen hn2) hr (λt ht=>?_) (hnt w) G.T.bmain hF hb (λH hS hT=>hsp w H a ns hlen hS hT) λH e s'=>hCX w H s₁ e s'
 obtain⟨x,hx,e⟩:=List.mem_filterMap.mp ht
 obtain⟨⟨c,P⟩,e1,e2⟩:=Option.map_eq_some_iff.mp e
 cases e2
 obtain⟨dr,hdr⟩:=Option.isSome_iff_exists.mp (List.all_eq_true.mp hrec x hx)
 exact PySem.W.tab_of G.T KX hdr e1
theorem lamB_mk [Feeds]{K:PySem.W.Frag}{mg:Str->Option Value}{base:Heap}{x:Str}{f:Addr}{oc:Value}{od:Option Addr}{fd:FuncData}{osl:Array (Option Value)}(ga:PySem.W.nsIn K mainGlobals x=some (some (.ref f)))(gl:K.lookup f=some ⟨oc,od,.func fd,osl⟩)
  (hx:x∈(Feeds.lam:List Str)) (hs:(PySem.W.tabIn K x).isSome=true) (nd:(tabP K).Nodup) (BM:BMd base mg) (hC:∀t∈tabsK Feeds.lam K,PySem.W.CodeHd base t.2.1 t.2.2):∃c P,LamB K mg base x fd c P:=by
 obtain⟨⟨c,P⟩,e⟩:=Option.isSome_iff_exists.mp hs
 have hm:(x,c,P)∈tabsK Feeds.lam K:=List.mem_filterMap.mpr ⟨x,hx,by rw[e];rfl⟩
 refine⟨c,P,hm,?_,hC _ hm,BM,nd⟩
 unfold PySem.W.tabIn at e
 rw[ga]at e
 simp only[gl]at e
 split at e
 ·rename_i c2 hc
  split at e
  ·split at e
   ·cases e;exact hc
   ·cases e
  ·cases e
 ·cases e
end L3
namespace L3
open PySem PySem.Spec PyProof.Rows L2
section
variable [Feeds]{K:PySem.W.Frag}{X:Cx}{e a b c:Expr}{te:TE}{pos:Pos}
noncomputable def b0m (K:PySem.W.Frag)(B:List Addr)(H H':Hp):DV->V->Prop
 | .dat d,v=>b7 K (hid H' B) d v
 | .own ds,v=>∃a vs,v = .ref a∧H a=none∧H' a=some (.lst vs)∧a8 K (hid H' (a::B)) ds vs
 | .feed,_=>False
 | .fn _,_=>False
noncomputable def a2q (B:List Addr):DV->V->List Addr
 | .own _,.ref a=>a::B
 | _,_=>B
noncomputable def TCd (K:PySem.W.Frag)(te:TE)(mc:DE->M DV):Prop:=∀(G:GF) (B:List Addr) (E:DE) (F:FS) (σ:St) (H:Hp) (Q:VK) (dv:DV) (F':FS),SitE K G B E F σ H->mc E F=some (dv,F') ->
 (∀v H',Kp (k8 K G) H H'->FAt K G H' F'->b0m K B H H' dv v->Q v H')->te σ H Q
structure Ec (K:PySem.W.Frag) (X:Cx) (e:Expr) (te:TE) (m:DE->M DV):Prop where
 pe:PE X e te
 ok:TCd K te m
noncomputable def cD (m:DE->M PyData):DE->M DV:=λE F=>(m E F).bind λp=>some (.dat p.1,p.2)
noncomputable def cO (m:DE->M (List PyData)):DE->M DV:=λE F=>(m E F).bind λp=>some (.own p.1,p.2)
theorem b3V {m:DE->M PyData}(h:Ev K X e te m):Ec K X e te (cD m):=⟨h.pe,λG B E F σ H Q dv F' I e q=>by
 obtain⟨⟨d,F1⟩,e1,e⟩:=Option.bind_eq_some_iff.mp e
 cases e
 exact h.ok G B E F σ H _ d F1 I e1 λv H' k f r=>q v H' k f r⟩
theorem a7k {m:DE->M (List PyData)}(h:Ef K X e te m):Ec K X e te (cO m):=⟨h.pe,λG B E F σ H Q dv F' I e q=>by
 obtain⟨⟨d,F1⟩,e1,e⟩:=Option.bind_eq_some_iff.mp e
 cases e
 exact h.ok G B E F σ H _ d F1 I e1 λa vs H' h1 h2 k f r=>q _ H' k f ⟨a,vs,rfl,h1,h2,r⟩⟩
section
variable {G:GF}{B B0:List Addr}{E:DE}{F F1:FS}{σ:St}{H H1 H0:Hp}{dv:DV}{v:V}{i:Nat}
theorem b1K (I:SitE K G B E F σ H)(k1:Kp (k8 K G) H H1)(r:b0m K B H H1 dv v):i5 (hid H B) (hid H1 (a2q B dv v)):=by
 cases dv with
 | dat d=>exact k1.hid I.fB
 | feed=>exact r.elim
 | fn _=>exact r.elim
 | own ds =>
  obtain⟨a,vs,rfl,hn,ha,h1⟩:=r
  intro b o eb
  by_cases hb:b∈B
  ·rw[B3 hb]at eb;cases eb
  ·rw[l8 hb]at eb
   have hne:=l5 eb hn
   show hid H1 (a::B) b=some o
   rw[l8 (by simp[hne,hb])]
   exact k1 b o eb λz=>hb (I.fB b z)
theorem a1A:∀b∈B,b∈a2q B dv v:=λb hb=>by
 cases dv <;> cases v <;> first | exact hb | exact List.mem_cons_of_mem _ hb
theorem SitE.moreC (I:SitE K G B E F σ H)(k1:Kp (k8 K G) H H1)(f1:FAt K G H1 F1)(r:b0m K B H H1 dv v):SitE K G (a2q B dv v) E F1 σ H1:=by
 have sm:=b1K I k1 r
 refine⟨f1,λb hb=>a1A b (I.fB b hb),λb hb=>?_,I.ln,λj x ej=>?_⟩
 ·have old:b∈B->∃o,H1 b=some o:=λhb=>(I.step k1 f1).bk b hb
  cases dv with
  | dat d=>cases v <;> exact old hb
  | feed=>exact r.elim
  | fn _=>exact r.elim
  | own ds =>
   obtain⟨a,vs,rfl,hn,ha,h1⟩:=r
   rcases List.mem_cons.mp hb with rfl | hb
   ·exact⟨_,ha⟩
   ·exact old hb
 ·obtain⟨w,v1,v2⟩:=I.loc j x ej
  refine⟨w,v1,?_⟩
  cases x with
  | dat d=>exact b7.same (show b7 K (hid H B) d w from v2) sm
  | feed=>exact v2
  | fn _=>exact v2
  | own es =>
   obtain⟨a',xs',rfl,hB',hf',ha',hd'⟩:=v2
   exact⟨a',xs',rfl,a1A _ hB',hf',k1 _ _ ha' hf',hd'.same sm⟩
theorem Sit.putC (S:Sit K G B0 H0 E F σ H)(s:∀b∈B0,b∈B)(sn:∀b∈B,b∈B0∨H0 b=none)(I:SitE K G B E F σ H)(k1:Kp (k8 K G) H H1)(f1:FAt K G H1 F1)(r:b0m K B H H1 dv v)(hl:i<E.length) :
  Sit K G B0 H0 (E.set i (some dv)) F1 (σ.set i (some v)) H1∧(∀b∈B0,b∈a2q B dv v)∧(∀b∈a2q B dv v,b∈B0∨H0 b=none)∧SitE K G (a2q B dv v) (E.set i (some dv)) F1 (σ.set i (some v)) H1:=by
 have hsl:i < σ.length:=by rw[←I.ln];exact hl
 have s':∀b∈B0,b∈a2q B dv v:=λb hb=>a1A b (s b hb)
 have newB:∀ds,dv = .own ds->∃a vs,v = .ref a∧H1 a=some (.lst vs)∧a8 K (hid H1 (a::B)) ds vs∧a ∉ B∧a ∉ k8 K G∧H0 a=none:=λds e=>by
  subst e
  obtain⟨a,vs,rfl,hn,ha,h1⟩:=r
  have haB:a ∉ B:=I.bk.nin hn
  have haf:a ∉ k8 K G:=λz=>haB (I.fB a z)
  exact⟨a,vs,rfl,ha,h1,haB,haf,S.kp.none hn haf⟩
 have sn':∀b∈a2q B dv v,b∈B0∨H0 b=none:=λb hb=>by
  cases dv with
  | dat d=>cases v <;> exact sn b hb
  | feed=>exact r.elim
  | fn _=>exact r.elim
  | own ds =>
   obtain⟨a,vs,rfl,ha,h1,haB,haf,h0⟩:=newB ds rfl
   rcases List.mem_cons.mp hb with rfl | hb
   ·exact .inr h0
   ·exact sn b hb
 have IC:=I.moreC k1 f1 r
 have I':SitE K G (a2q B dv v) (E.set i (some dv)) F1 (σ.set i (some v)) H1:=by
  refine⟨IC.fd,IC.fB,IC.bk,by rw[List.length_set,List.length_set];exact I.ln,λj x ej=>?_⟩
  by_cases hj:i=j
  ·subst hj
   rw[List.getElem?_set_self hl]at ej
   cases ej
   refine⟨v,by rw[List.getElem?_set_self hsl],?_⟩
   cases dv with
   | dat d=>cases v <;> exact r
   | feed=>exact r.elim
   | fn _=>exact r.elim
   | own ds =>
    obtain⟨a,vs,rfl,ha,h1,haB,haf,h0⟩:=newB ds rfl
    exact⟨a,vs,rfl,List.mem_cons_self,haf,ha,h1⟩
  ·rw[List.getElem?_set_ne hj]at ej
   obtain⟨w,v1,v2⟩:=IC.loc j x ej
   exact⟨w,by rw[List.getElem?_set_ne hj];exact v1,v2⟩
 have other:∀(ds:List PyData) (j:Nat) (es:List PyData) (a:Addr),dv = .own ds->v = .ref a->E[j]? = some (some (DV.own es))->σ[j]? ≠ some (some (V.ref a)):=λds j es a e ev ej z=>by
  obtain⟨a1,vs,ev1,ha,h1,haB,haf,h0⟩:=newB ds e
  rw[ev]at ev1;cases ev1
  obtain⟨w,v1,a',xs',rfl,hB',_⟩:=I.loc j _ ej
  rw[v1]at z;cases z
  exact haB hB'
 refine⟨⟨⟨a2q B dv v,s',sn',I'⟩,S.fB,S.kp.trans k1,λj es a' ej sj=>?_,λj k es es' a' ej ek sj sk=>?_⟩,s',sn',I'⟩
 ·by_cases hj:i=j
  ·subst hj
   rw[List.getElem?_set_self hl]at ej
   rw[List.getElem?_set_self hsl]at sj
   have e1:dv = .own es:=Option.some.inj (Option.some.inj ej)
   have e2:v = .ref a':=Option.some.inj (Option.some.inj sj)
   obtain⟨a,vs,ev,ha,h1,haB,haf,h0⟩:=newB es e1
   rw[e2]at ev;cases ev
   exact⟨h0,λz=>haB (s _ z)⟩
  ·rw[List.getElem?_set_ne hj]at ej sj
   exact S.own j es a' ej sj
 ·by_cases hj:i=j
  ·by_cases hk:i=k
   ·rw[←hj,←hk]
   ·subst hj
    rw[List.getElem?_set_self hl]at ej
    rw[List.getElem?_set_self hsl]at sj
    rw[List.getElem?_set_ne hk]at ek sk
    have e1:dv = .own es:=Option.some.inj (Option.some.inj ej)
    have e2:v = .ref a':=Option.some.inj (Option.some.inj sj)
    exact absurd sk (other es k es' a' e1 e2 ek)
  ·by_cases hk:i=k
   ·subst hk
    rw[List.getElem?_set_self hl]at ek
    rw[List.getElem?_set_self hsl]at sk
    rw[List.getElem?_set_ne hj]at ej sj
    have e1:dv = .own es':=Option.some.inj (Option.some.inj ek)
    have e2:v = .ref a':=Option.some.inj (Option.some.inj sk)
    exact absurd sj (other es' j es a' e1 e2 ej)
   ·rw[List.getElem?_set_ne hj]at ej sj
    rw[List.getElem?_set_ne hk]at ek sk
    exact S.inj j k es es' a' ej ek sj sk
end
noncomputable def a17 (i j:Nat)(c1 c2:DE->M DV):DE->M Out:=λE F=>(c1 E F).bind λp=>(c2 E p.2).bind λq=>if i<E.length∧j<E.length then some (.nx ((E.set i (some p.1)).set j (some q.1)),q.2) else none
theorem a9O (i j:Nat){x y:Str}{t1 t2:TE}{c1 c2:DE->M DV}{px py pt:Pos}{kt k2 pt2}(hc:X.calm=true)(hN:X.N.Nodup)(h1:Ec K X a t1 c1)(h2:Ec K X b t2 c2)(hi:X.N[i]? = some x:=by rfl)(hj:X.N[j]? = some y:=by rfl)(hij:i≠j:=by decide)
  (hx:X.env.scope.names.lookup x=some .local:=by rfl) (hy:X.env.scope.names.lookup y=some .local:=by rfl)
  (hw:swappedStores [.Tuple [.Name x px,.Name y py] kt pt] (.Tuple [a,b] k2 pt2) X.env=pure (some [x,y]):=by rfl)
  (hs:swapsWithSole [.Tuple [.Name x px,.Name y py] kt pt] (.Tuple [a,b] k2 pt2) pos.line X.env=pure false:=by rfl)
  (hs1:starEach [a,b] X.env=(false,eval a X.env)::starEach [b] X.env:=by rfl) (hs2:starEach [b] X.env=(false,eval b X.env)::starEach [] X.env:=by rfl) :
  Ss K X (.Assign [.Tuple [.Name x px,.Name y py] kt pt] (.Tuple [a,b] k2 pt2) pos) (b2H i j (C4 t1 (C4 t2 X2))) (a17 i j c1 c2):=⟨b1a hc hN hi hj hij hx hy (p8 h1.pe (p8 h2.pe A2 hs2) hs1) hw hs,λG B0 H0 E F σ H D r F' S e q=>by
 obtain⟨⟨d1,F1⟩,e1,e⟩:=Option.bind_eq_some_iff.mp e
 obtain⟨⟨d2,F2⟩,e2,e⟩:=Option.bind_eq_some_iff.mp e
 split at e
 case isFalse=>cases e
 rename_i hl
 cases e
 obtain⟨B,s,sn,I⟩:=S.ex
 refine h1.ok G B E F σ H _ d1 F1 I e1 λv H1 k1 f1 r1=>?_
 obtain⟨S1,s1,sn1,I1⟩:=S.putC s sn I k1 f1 r1 hl.1
 refine h2.ok G _ E F1 σ H1 _ d2 F2 (I.moreC k1 f1 r1) e2 λw H2 k2' f2 r2=>?_
 obtain⟨S2,_⟩:=S1.putC s1 sn1 I1 k2' f2 r2 (i:=j) (by rw[List.length_set];exact hl.2)
 exact⟨v,w,rfl,q _ _ S2⟩⟩
noncomputable def a29 (i j k:Nat)(c1 c2 c3:DE->M DV):DE->M Out:=λE F=>(c1 E F).bind λp=>(c2 E p.2).bind λq=>(c3 E q.2).bind λr=>if i<E.length∧j<E.length∧k<E.length then some (.nx (((E.set i (some p.1)).set j (some q.1)).set k (some r.1)),r.2) else none
theorem a8E (i j k:Nat){x y z:Str}{t1 t2 t3:TE}{c1 c2 c3:DE->M DV}{px py pz pt:Pos}{kt k2 pt2}(hc:X.calm=true)(hN:X.N.Nodup)(h1:Ec K X a t1 c1)(h2:Ec K X b t2 c2)(h3:Ec K X c t3 c3)(hi:X.N[i]? = some x:=by rfl)(hj:X.N[j]? = some y:=by rfl)(hk:X.N[k]? = some z:=by rfl)(hij:i≠j:=by decide)(hik:i≠k:=by decide)(hjk:j≠k:=by decide)
  (hx:X.env.scope.names.lookup x=some .local:=by rfl) (hy:X.env.scope.names.lookup y=some .local:=by rfl) (hz:X.env.scope.names.lookup z=some .local:=by rfl)
  (hw:swappedStores [.Tuple [.Name x px,.Name y py,.Name z pz] kt pt] (.Tuple [a,b,c] k2 pt2) X.env=pure (some [x,y,z]):=by rfl)
  (hs:swapsWithSole [.Tuple [.Name x px,.Name y py,.Name z pz] kt pt] (.Tuple [a,b,c] k2 pt2) pos.line X.env=pure false:=by rfl)
  (hs1:starEach [a,b,c] X.env=(false,eval a X.env)::starEach [b,c] X.env:=by rfl) (hs2:starEach [b,c] X.env=(false,eval b X.env)::starEach [c] X.env:=by rfl) (hs3:starEach [c] X.env=(false,eval c X.env)::starEach [] X.env:=by rfl) :
  Ss K X (.Assign [.Tuple [.Name x px,.Name y py,.Name z pz] kt pt] (.Tuple [a,b,c] k2 pt2) pos) (b0E i j k (C4 t1 (C4 t2 (C4 t3 X2)))) (a29 i j k c1 c2 c3):=⟨a9t hc hN hi hj hk hij hik hjk hx hy hz (p8 h1.pe (p8 h2.pe (p8 h3.pe A2 hs3) hs2) hs1) hw hs,λG B0 H0 E F σ H D r F' S e q=>by
 obtain⟨⟨d1,F1⟩,e1,e⟩:=Option.bind_eq_some_iff.mp e
 obtain⟨⟨d2,F2⟩,e2,e⟩:=Option.bind_eq_some_iff.mp e
 obtain⟨⟨d3,F3⟩,e3,e⟩:=Option.bind_eq_some_iff.mp e
 split at e
 case isFalse=>cases e
 rename_i hl
 cases e
 obtain⟨B,s,sn,I⟩:=S.ex
 refine h1.ok G B E F σ H _ d1 F1 I e1 λv H1 k1 f1 r1=>?_
 obtain⟨S1,s1,sn1,I1⟩:=S.putC s sn I k1 f1 r1 hl.1
 refine h2.ok G _ E F1 σ H1 _ d2 F2 (I.moreC k1 f1 r1) e2 λw H2 k2' f2 r2=>?_
 obtain⟨S2,s2,sn2,I2⟩:=S1.putC s1 sn1 I1 k2' f2 r2 (i:=j) (by rw[List.length_set];exact hl.2.1)
 refine h3.ok G _ E F2 σ H2 _ d3 F3 ((I.moreC k1 f1 r1).moreC k2' f2 r2) e3 λu H3 k3 f3 r3=>?_
 obtain⟨S3,_⟩:=S2.putC s2 sn2 I2 k3 f3 r3 (i:=k) (by rw[List.length_set,List.length_set];exact hl.2.2)
 exact⟨v,w,u,rfl,q _ _ S3⟩⟩
end
end L3
namespace L3
open PySem PySem.Spec PyProof.Rows L2
section
variable {K:PySem.W.Frag}{X0:Cx}{tg iter:Expr}{te:TE}{pos:Pos}
theorem a25 {env:Env}:∀{names:List (Str×NameKind)} {x:Str},names.lookup x=some .cell∨names.lookup x=some .free ->
  (names.map λ(n,k)=>if (k == NameKind.free&&env.scope.kind == .function&&env.kindOf n == some .cell) then(n,NameKind.cell) else(n,k)).lookup x=some .cell∨(names.map λ(n,k)=>if (k == NameKind.free&&env.scope.kind == .function&&env.kindOf n == some .cell) then(n,NameKind.cell) else(n,k)).lookup x=some .free
 | [],_,h=>by simp at h
 | (n,k)::r,x,h=>by
  have ih:=@a25 env r x
  show List.lookup x ((if (k == NameKind.free&&env.scope.kind == .function&&env.kindOf n == some .cell)=true then(n,NameKind.cell) else(n,k))::_)=_∨List.lookup x ((if (k == NameKind.free&&env.scope.kind == .function&&env.kindOf n == some .cell)=true then(n,NameKind.cell) else(n,k))::_)=_
  cases hx:x == n with
  | true =>
   simp only[List.lookup_cons,hx]at h
   by_cases hc:(k == NameKind.free&&env.scope.kind == .function&&env.kindOf n == some .cell)=true
   ·rw[if_pos hc];simp[List.lookup_cons,hx]
   ·rw[if_neg hc];simpa [List.lookup_cons,hx] using h
  | false =>
   simp only[List.lookup_cons,hx]at h
   by_cases hc:(k == NameKind.free&&env.scope.kind == .function&&env.kindOf n == some .cell)=true
   ·rw[if_pos hc];simp only[List.lookup_cons,hx];exact ih h
   ·rw[if_neg hc];simp only[List.lookup_cons,hx];exact ih h
theorem b21 [Feeds]{elt:Expr}{ifs:List Expr}{scope0 scope:Scope}{N0 N:List Str}{cl0 C0 ex0 pins0 s0 H0}{k:Nat}{cap:List Nat}{wi:TI}{g:TG}{tt:TT}{mi:DE->M (List PyData)}{bd:PyData->DE->Option DE}{mt:DE->M Bool}{me:DE->M PyData}
  (hc:(cxC X0 N0 scope0 cl0 C0 ex0 pins0 s0 H0).calm=true) (hcap:Caps N0 scope0 N k cap scope) (hi:Eib K (cxC X0 N0 scope0 cl0 C0 ex0 pins0 s0 H0) tg iter wi mi)
  (hg:∀cl C ex pins s H,Eg K (cxC (cxC X0 N0 scope0 cl0 C0 ex0 pins0 s0 H0) N scope cl C ex pins s H) tg g bd)
  (ht:∀cl C ex pins s H,Ets K (cxC (cxC X0 N0 scope0 cl0 C0 ex0 pins0 s0 H0) N scope cl C ex pins s H) ifs tt mt)
  (he:∀cl C ex pins s H,Ev K (cxC (cxC X0 N0 scope0 cl0 C0 ex0 pins0 s0 H0) N scope cl C ex pins s H) elt te me)
  (hs:∀x,foldedSetIterable iter (cxC X0 N0 scope0 cl0 C0 ex0 pins0 s0 H0).env x=pure x:=by intro _;rfl) :
  Ev K (cxC X0 N0 scope0 cl0 C0 ex0 pins0 s0 H0) (.ListComp elt [⟨tg,iter,ifs,0⟩] scope pos) (tLC wi k cap g tt te) (sLC mi k cap bd mt me) :=
 T9 (osc:=relabel scope0 X0.env) hc rfl ⟨hcap.kind,hcap.nocell,hcap.loc,λy hy e=>a25 (hcap.free y hy e),hcap.len,hcap.capx,hcap.capf⟩ hi hg ht he hs
end
section
variable {K:PySem.W.Frag}{X:Cx}[Feeds]
end
noncomputable def FdS.fstN (F:FdS):Int:=(F.cellL % 1000003+37*F.a*F.a+13*F.a+5)*48271 % 999983
noncomputable def FdS.mixN (F:FdS):Int:=((F.fstN*F.fstN+7919*F.a+11) % 2097143)*69621 % 2147483629 / 7
noncomputable def a1f (m:Int)(F:FdS):Option (Int×FdS):=if 0<m∧m<1073741824∧F.t<199999 then
  some (if 0<F.l then(F.l % m,⟨F.ns,F.a,F.l / m,F.t+1⟩)
   else if 10 ^ 18≤F.cellL∧F.a<F.ns.length then(F.cellL % m,⟨F.ns,F.a+1,F.cellL / m,F.t+1⟩)
   else(F.mixN % m,⟨F.ns,F.a+1,F.l,F.t+1⟩))
 else none
theorem a5s {m:Int}{F:FdS}(h0:0<m)(h1:m<1073741824)(h2:F.t<199999):∃r F',a1f m F=some (r,F')∧0≤r∧r<m∧F'.t=F.t+1:=by
 have b:∀x:Int,0≤x % m∧x % m<m:=λx=>⟨Int.emod_nonneg _ (by omega),Int.emod_lt_of_pos _ h0⟩
 unfold a1f
 rw[if_pos ⟨h0,h1,h2⟩]
 by_cases hl:0<F.l
 ·rw[if_pos hl];exact⟨_,_,rfl,(b _).1,(b _).2,rfl⟩
 ·rw[if_neg hl]
  by_cases hc:10 ^ 18≤F.cellL∧F.a<F.ns.length
  ·rw[if_pos hc];exact⟨_,_,rfl,(b _).1,(b _).2,rfl⟩
  ·rw[if_neg hc];exact⟨_,_,rfl,(b _).1,(b _).2,rfl⟩
@[reducible] noncomputable def b3K (l:List Str):Fam where
 At:=λd c H F=>H d=some (.lst [.ref c,.int F.a,.int F.l])∧H c=some (.lst (F.ns.map V.int))∧F.ns.length≤63∧0≤F.a∧F.a≤F.t∧d≠c
 some1:=λh=>⟨_,h.1,⟨λ_ z=>(by cases z),λ_ z=>(by cases z)⟩⟩
 some2:=λh=>⟨_,h.2.1,⟨λ_ z=>(by cases z),λ_ z=>(by cases z)⟩⟩
 lam:=l
 congr:=λh e1 e2=>⟨e1.trans h.1,e2.trans h.2.1,h.2.2⟩
 drawF:=a1f
 draw_some:=a5s
end L3
namespace L3
open PySem PySem.Spec PyProof.Rows L2
end L3
namespace L3
open PySem PySem.Spec PyProof.Rows L2
section
variable {K:PySem.W.Frag}{X:Cx}[Feeds]
end
end L3
namespace L3
open PySem PySem.Spec PyProof.Rows L2
section
variable {M:Lang}{A:Around}{E:Value->Shared->Prop}{s:Shared}
theorem a2s:seqSlot? (.type "list") (dunderI "add")=pure (some (.builtin "list.__iadd__")):=PySem.seqSlot_of PySem.F.slot_list_iadd.lookup (by decide +kernel)
theorem a2k:fillsInplaceSlot (.type "list") "add" (Operator.Add == .Add)=pure false:=by
 unfold fillsInplaceSlot
 show(typeLookup (.type "list") (dunderI "add") >>= λfi=>pure (fi.isSome && !isSeqSlot fi))=pure false
 rw[PySem.F.slot_list_iadd.lookup]
 show(pure ((some (Value.builtin "list.__iadd__")).isSome && !isSeqSlotId "list.__iadd__"):Sem Bool)=pure false
 have:isSeqSlotId "list.__iadd__" = true:=by decide +kernel
 rw[this]
 rfl
end
section
variable {prog:Program}{w:World}{A:Around}{E:Value->Shared->Prop}{s:Shared}
theorem a76 {a b:Value}{Q:Value->Shared->Prop}(ha:s.TypeIs a "list")(hb:s.TypeIs b "list")(hc:wpAny (model prog w) A (call (.builtin "list.__iadd__") [a,b]) Q E s):wpAny (model prog w) A (inplaceOp .Add a b) Q E s:=by
 unfold inplaceOp
 refine wpAny_holding ?_
 refine wpAny_bind (wpAny_typeOf ha (wpAny_bind (wpAny_of_eq a2k ?_)))
 show wpAny _ A (if false=true then _ else _) Q E s
 rw[if_neg Bool.false_ne_true]
 refine wpAny_bind (binaryOp1_none (nm:="add") ha hb noFill_list_add ?_)
 refine wpAny_bind (wpAny_of_eq a2s ?_)
 exact wpAny_bind (wpAny_rule hc)
end
section
variable {K:PySem.W.Frag}{X:Cx}[Feeds]
noncomputable def ipE:TIp:=λx y H Q=>∃l b xs zs,x = .ref l∧y = .ref b∧H l=some (.lst xs)∧H b=some (.lst zs)∧xs.length+zs.length≤sizeLine∧Q (.ref l) (upd H l (.lst (xs++zs)))
theorem b2l:PIp X .Add ipE:=by
 intro pins s σ H x y v u Q I rx ry h
 obtain⟨l,b,xs,zs,rfl,rfl,hH,hB,hz,q⟩:=h
 cases rx
 cases ry
 obtain⟨z,its,n,r,hl,e⟩:=I.lstM hH
 obtain⟨z2,its2,n2,r2,hl2,e2⟩:=I.lstM hB
 have hsz:its.toArray.size+its2.toArray.size≤sizeLine:=by rw[List.size_toArray,List.size_toArray];omega
 have hlong:¬(!its.toArray.isEmpty&&Builtin.List.listTooLong (its.toArray.size+its2.toArray.size))=true:=by
  rw[a42 hsz,Bool.and_false]
  exact Bool.false_ne_true
 refine a76 ⟨_,e,rfl⟩ ⟨_,e2,rfl⟩ ?_
 refine call_meets PySem.F.slot_list_iadd ⟨_,e,rfl⟩ PySem.F.entry_list_iadd (PySem.F.args_list_iadd_2 _ _)
  (AutoSeq1.list___iadd___list_list_0 l its.toArray n b its2.toArray n2 hlong (by rw[List.size_toArray];omega) (by omega)) ⟨e,e2,?_⟩
 refine⟨.ref l,_,I.lset (its':=its++its2) hH e (by simp) (r.append r2) ?_,rfl,q⟩
 rw[List.length_append]
 omega
theorem a8t {v w:V}:[v,w].length≤sizeLine:=by show 2≤sizeLine;rw[sizeLine_eq];decide
theorem a3Q {α:Type}:∀{l:List α} {i:Nat} {a:α},l[i]? = some a->l.set i a=l
 | [],_,_,h=>by simp at h
 | x::l,0,a,h=>by simp at h;simp[h]
 | x::l,i+1,a,h=>by simp at h;simp[a3Q h]
variable {e:Expr}{te:TE}{m:DE->M PyData}{pos:Pos}
theorem b1E {i:Nat}(hv:TEs K te m):TSd K (a9i i te ipE) (a3S i m):=λG B0 H0 E F σ H D r F' S e q=>by
 obtain⟨⟨d,F1⟩,e1,e⟩:=Option.bind_eq_some_iff.mp e
 obtain⟨ds,e4,e⟩:=Option.bind_eq_some_iff.mp e
 dsimp only at e
 split at e
 ·split at e
  ·rename_i hl
   cases e
   obtain⟨B,s,sn,I⟩:=S.ex
   have eo:=R1 e4
   obtain⟨w,w1,a,xs,rfl,hB,hf,hx,hdx⟩:=I.loc i _ eo
   refine⟨_,w1,hv G B E F σ H _ (.list _) _ I e1 λu H2 k2 f2 h2=>?_⟩
   obtain⟨b,ys,rfl,hb,hdb⟩:=h2
   have hd2:=hdx.same (k2.hid I.fB)
   refine⟨a,b,xs,ys,rfl,rfl,k2 a _ hx hf,d6 _ _ hb,by rw[hdx.length,hdb.length];exact hl,?_⟩
   show D.nx (List.set σ i (some (V.ref a))) _
   rw[a3Q w1]
   exact q σ _ ((S.step k2 f2).write s sn (I.step k2 f2) eo w1 (a8.append hdb hd2))
  ·cases e
 ·cases e
theorem a64 (i:Nat){x:Str}{pos':Pos}(hN:X.N.Nodup)(he:Eb K X e te m)(hi:X.N[i]? = some x:=by rfl)(hx:Loc X.env.scope x:=by first | exact Or.inl rfl | exact Or.inr rfl)(hf:X.fn x=true∨X.env.scope.names.lookup x=some .local:=by first | exact .inl rfl | exact .inr rfl | assumption) :
  Ss K X (.AugAssign (.Name x pos') .Add e pos) (a9i i te ipE) (a3S i m):=⟨a88 hN hi hx he.pe b2l hf,b1E he.ok⟩
variable {a b:Expr}
theorem a8e (i j:Nat){x y:Str}{t1 t2:TE}{c1 c2:DE->M DV}{px py pt:Pos}{kt k2 pt2}(hK:X.K=K)(hc:X.calm=true)(hN:X.N.Nodup)(h1:Ec K X a t1 c1)(h2:Ec K X b t2 c2)(hi:X.N[i]? = some x:=by rfl)(hj:X.N[j]? = some y:=by rfl)
  (hx:Loc X.env.scope x:=by first | exact Or.inl rfl | exact Or.inr rfl) (hy:Loc X.env.scope y:=by first | exact Or.inl rfl | exact Or.inr rfl)
  (hfx:X.fn x=true∨X.env.scope.names.lookup x=some .local:=by first | exact .inl rfl | exact .inr rfl | assumption) (hfy:X.fn y=true∨X.env.scope.names.lookup y=some .local:=by first | exact .inl rfl | exact .inr rfl | assumption)
  (hw:swappedStores [.Tuple [.Name x px,.Name y py] kt pt] (.Tuple [a,b] k2 pt2) X.env=pure none:=by rfl)
  (hs:swapsWithSole [.Tuple [.Name x px,.Name y py] kt pt] (.Tuple [a,b] k2 pt2) pos.line X.env=pure false:=by rfl)
  (ha1:(assignEach [.Tuple [.Name x px,.Name y py] kt pt] X.env).map (·.2)=[assign (.Tuple [.Name x px,.Name y py] kt pt) X.env]:=by rfl)
  (hs1:starEach [a,b] X.env=(false,eval a X.env)::starEach [b] X.env:=by rfl) (hs2:starEach [b] X.env=(false,eval b X.env)::starEach [] X.env:=by rfl) :
  Ss K X (.Assign [.Tuple [.Name x px,.Name y py] kt pt] (.Tuple [a,b] k2 pt2) pos) (a1k (b0t (C4 t1 (C4 t2 X2))) (a9D K 2 (a6y (T2 i) (a6y (T2 j) b1H)))) (a17 i j c1 c2) :=
 ⟨a0Y (a4y (p8 h1.pe (p8 h2.pe A2 hs2) hs1)) (a6d hK hc (a1S (a3w hN hi hx hfx) (a1S (a3w hN hj hy hfy) a61))) hs hw ha1,λG B0 H0 E F σ H D r F' S e q=>by
 obtain⟨⟨d1,F1⟩,e1,e⟩:=Option.bind_eq_some_iff.mp e
 obtain⟨⟨d2,F2⟩,e2,e⟩:=Option.bind_eq_some_iff.mp e
 split at e
 case isFalse=>cases e
 rename_i hl
 cases e
 obtain⟨B,s,sn,I⟩:=S.ex
 refine h1.ok G B E F σ H _ d1 F1 I e1 λv H1 k1 f1 r1=>?_
 obtain⟨S1,s1,sn1,I1⟩:=S.putC s sn I k1 f1 r1 hl.1
 refine h2.ok G _ E F1 σ H1 _ d2 F2 (I.moreC k1 f1 r1) e2 λw H2 k2' f2 r2=>?_
 obtain⟨S2,_⟩:=S1.putC s1 sn1 I1 k2' f2 r2 (i:=j) (by rw[List.length_set];exact hl.2)
 refine⟨a8t,λp hp=>⟨p,[v,w],rfl,SqT.of g8,rfl,v,[w],rfl,w,[],rfl,rfl,?_⟩⟩
 exact q _ _ (S2.step (Kp.upd hp) (f2.same (i5.upd hp)))⟩
theorem b3F {tg iter elt:Expr}{ifs:List Expr}{scope osc:Scope}{N:List Str}{k:Nat}{cap:List Nat}{wi:TI}{g:TG}{tt:TT}{mi:DE->M (List PyData)}{bd:PyData->DE->Option DE}{mt:DE->M Bool}{me:DE->M PyData}
  (hc:X.calm=true) (hosc:X.env.scope=osc) (hcap:Caps X.N osc N k cap scope) (hi:Eib K X tg iter wi mi)
  (hg:∀cl C ex pins s H,Eg K (cxC X N scope cl C ex pins s H) tg g bd)
  (ht:∀cl C ex pins s H,Ets K (cxC X N scope cl C ex pins s H) ifs tt mt)
  (he:∀cl C ex pins s H,Ev K (cxC X N scope cl C ex pins s H) elt te me)
  (hs:∀x,foldedSetIterable iter X.env x=pure x:=by intro _;rfl) :
  Ef K X (.ListComp elt [⟨tg,iter,ifs,0⟩] scope pos) (tLC wi k cap g tt te) (fLC mi k cap bd mt me) :=
 ⟨b0Q hc hosc hcap hi.pi (λcl C ex pins s H=>(hg cl C ex pins s H).pg) (λcl C ex pins s H=>(ht cl C ex pins s H).pts) (λcl C ex pins s H=>(he cl C ex pins s H).pe) hs,
  b2I hi.ok (hg [] 0 [] [] X.s₀ X.H₀).ok (ht [] 0 [] [] X.s₀ X.H₀).ok (he [] 0 [] [] X.s₀ X.H₀).ok⟩
end
end L3
namespace L3
open PySem PySem.Spec PyProof.Rows L2
section
variable [Feeds]
variable {K:PySem.W.Frag}{X:Cx}{e i v1 v2 v3:Expr}{es:List Expr}{te t1 t2 t3 ti:TE}{m1 m2 m3 mi:DE->M PyData}{p pos p1 p2 p3:Pos}
variable {P:Program}{w:World}{mg:Str->Option Value}{base:Heap}
noncomputable def spG (K:PySem.W.Frag)(n:Nat)(f:List DV->M (List PyData)):Sp:=λvs H Q _=>∃G B F args ds F',vs.length=n∧(∀b∈k8 K G,b∈B)∧BOk H B∧FAt K G H F∧a3v K G B H args vs∧f args F=some (ds,F') ∧
 ∀a ws H',H a=none->H' a=some (.lst ws)->Kp (k8 K G) H H'->FAt K G H' F'->a8 K (hid H' (a::B)) ds ws->Q (.ref a) H'
noncomputable def b1q (N:List Str)(mf:DE->M (List PyData)):List DV->M (List PyData):=λargs F=>mf (p9 N args) F
noncomputable def a5Q (f:List DV->M (List PyData))(ms:DE->M (List DV)):DE->M (List PyData):=λE F=>(ms E F).bind λp=>f p.1 p.2
theorem b0e {n:Nat}{f:List DV->M (List PyData)}{ta:TA}{ms:DE->M (List DV)}(h:TVd K ta ms)(hn:∀E F args F',ms E F=some (args,F')->args.length=n):TFd K (a1J (spG K n f) [] E0 ta) (a5Q f ms):=λG B E F σ H Q ds F' I e q=>by
 obtain⟨⟨args,F1⟩,e1,e⟩:=Option.bind_eq_some_iff.mp e
 refine h G B E F σ H _ args F1 I e1 λvs H1 k1 f1 h1=>?_
 rw[List.append_nil]
 refine⟨G,B,F1,args,ds,F',by rw[h1.length];exact hn _ _ _ _ e1,I.fB,p6 I.bk k1 f1,f1,h1,e,λa ws H2 hn2 ha2 k2 f2 h2=>q a ws H2 ?_ ha2 (k1.trans k2) f2 h2⟩
 exact k1.none hn2 λz=>(p6 I.bk k1 f1).nin hn2 (I.fB a z)
theorem b0v {x:Str}{k n:Nat}{ps:List Str}{f:List DV->M (List PyData)}{tl:TA}{ms:DE->M (List DV)}(C:Callee X.prog X.w X.K X.mg X.base x k ps (spG K n f))(hr:Room k X.A)(ha:Evs K X (e::es) tl ms)(hn:∀E F args F',ms E F=some (args,F')->args.length=n)(hg:Gl X x:=by rfl)
  (hdb:(x == ("__debug__":Str))=false:=by decide) (he:starEach (e::es) X.env=(false,eval e X.env)::starEach es X.env:=by rfl) (hpl:(backTo pos (starEach es X.env)).any (·.1)=false:=by rfl) :
  Ef K X (.Call (.Name x p) (e::es) [] pos) (a1J (spG K n f) [] E0 tl) (a5Q f ms):=⟨a0S C hr hg ha.pa hdb he hpl,b0e ha.ok hn⟩
end
end L3
namespace L2
open PySem PySem.Spec PyProof.Rows
noncomputable def a8h (target iter:Expr)(ifs:List Expr)(it:Value)(env:Env)(act:Sem Unit)(more:Sem Fin):Sem Fin:=do
 standAt iter.pos
 match ←pyNext it with
 | none=>pure (.done .next)
 | some v =>
  letOwnedTupleGo target it v
  assign target env v
  let mut ok:=true
  for c in ifs do
   if ok then ok ←isTrue c env (eval c env)
  if ok then act
  more
noncomputable def a7v (target iter:Expr)(ifs:List Expr)(it:Value)(env:Env)(act:Sem Fin->Sem Fin)(more:Sem Fin):Sem Fin:=do
 standAt iter.pos
 match ←pyNext it with
 | none=>pure (.done .next)
 | some v =>
  letOwnedTupleGo target it v
  assign target env v
  let mut ok:=true
  for c in ifs do
   if ok then ok ←isTrue c env (eval c env)
  if ok then act more else more
noncomputable def a5J (e:Expr)(iter1:Expr)(acc:Value)(env:Env)(k:Sem Fin):Sem Fin:=do
 let x ←eval iter1 env
 standAt iter1.pos
 let x ←foldedSetIterable iter1 env x
 let _ ←runOwn (.compStart e 1 (←holding [x] (pyIter x)) acc env) env
 k
noncomputable def a8k (elt:Expr)(acc:Value)(env:Env):Sem Unit:=do let _ ←call (.builtin "list.append") [acc,←eval elt env]
theorem a8r (elt tg iter tg1 iter1:Expr)(ifs ifs1:List Expr)(scope:Scope)(pos:Pos)(it acc:Value)(env:Env) :
  compTurn (.ListComp elt [⟨tg,iter,ifs,0⟩,⟨tg1,iter1,ifs1,0⟩] scope pos) 0 it acc env=a7v tg iter ifs it env (a5J (.ListComp elt [⟨tg,iter,ifs,0⟩,⟨tg1,iter1,ifs1,0⟩] scope pos) iter1 acc env) (again (.compLoop (.ListComp elt [⟨tg,iter,ifs,0⟩,⟨tg1,iter1,ifs1,0⟩] scope pos) 0 it acc env)):=by rfl
theorem a9H (elt tg iter tg1 iter1:Expr)(ifs ifs1:List Expr)(scope:Scope)(pos:Pos)(it acc:Value)(env:Env) :
  compTurn (.ListComp elt [⟨tg,iter,ifs,0⟩,⟨tg1,iter1,ifs1,0⟩] scope pos) 1 it acc env=a8h tg1 iter1 ifs1 it env (a8k elt acc env) (again (.compLoop (.ListComp elt [⟨tg,iter,ifs,0⟩,⟨tg1,iter1,ifs1,0⟩] scope pos) 1 it acc env)):=by rfl
section
variable {prog:Program}{w:World}{A:Around}{R:Result->Shared->Prop}{s:Shared}
theorem b2S {elt:Expr}{gens:List Comprehension}{scope:Scope}{pos:Pos}{d:Nat}{it acc:Value}{env:Env}{target iter:Expr}{ifs:List Expr}{act:Sem Unit}(I:Nat->Shared->Prop)
  (ht:compTurn (.ListComp elt gens scope pos) d it acc env=a8h target iter ifs it env act (again (.compLoop (.ListComp elt gens scope pos) d it acc env)))
  (turn:∀n s,I n s->wpAny (model prog w) A (pyNext it) (λr s₁=>match r with
   | none=>R (.ok .next) s₁
   | some v=>wpAny (model prog w) A (letOwnedTupleGo target it v) (λ_ s₀=>wpAny (model prog w) A (assign target env v) (λ_ s₂ =>
     wpAny (model prog w) A (forIn ifs true λc r=>if r=true then do let ok ←isTrue c env (eval c env);pure (ForInStep.yield ok) else pure (ForInStep.yield r)) (λok s₃ =>
      if ok=true then wpAny (model prog w) A act (λ_ s₅=>∃m,m<n∧I m s₅) (λ_ _=>False) s₃
      else ∃m,m<n∧I m s₃) (λ_ _=>False) s₂) (λ_ _=>False) s₀) (λ_ _=>False) s₁) (λ_ _=>False) s)
  (n:Nat) (h:I n s):codeAny (model prog w) A (.compLoop (.ListComp elt gens scope pos) d it acc env) R s:=by
 refine codeAny_loop rfl I (λn s hI=>?_) n h
 show wpAny _ A ((compTurn (.ListComp elt gens scope pos) d it acc env).onRaise (λx=>do noteFrame x env;theTreesLotGoes x)) _ _ s
 refine wpAny_noted ?_
 rw[ht]
 unfold a8h
 refine wpAny_bind (wpAny_standAt (wpAny_bind (wpAny_mono (turn n s hI) (λr s₁ h₁=>?_) λ_ _ h'=>h'.elim)))
 cases r with
 | none=>exact wpAny_pure h₁
 | some v =>
  refine wpAny_bind (wpAny_mono h₁ (λ_ s₀ h₀=>?_) λ_ _ h'=>h'.elim)
  refine wpAny_bind (wpAny_mono h₀ (λ_ s₂ h₂=>wpAny_bind (wpAny_mono h₂ (λok s₃ h₃=>?_) λ_ _ h'=>h'.elim)) λ_ _ h'=>h'.elim)
  cases ok with
  | false=>exact wpAny_pure ⟨rfl,h₃⟩
  | true=>exact wpAny_bind (wpAny_mono h₃ (λ_ s₅ h₅=>wpAny_pure ⟨rfl,h₅⟩) λ_ _ h'=>h'.elim)
theorem b3c {elt:Expr}{gens:List Comprehension}{scope:Scope}{pos:Pos}{d:Nat}{it acc:Value}{env:Env}{target iter:Expr}{ifs:List Expr}{act:Sem Fin->Sem Fin}(I:Nat->Shared->Prop)
  (ht:compTurn (.ListComp elt gens scope pos) d it acc env=a7v target iter ifs it env act (again (.compLoop (.ListComp elt gens scope pos) d it acc env)))
  (turn:∀n s,I n s->wpAny (model prog w) A (pyNext it) (λr s₁=>match r with
   | none=>R (.ok .next) s₁
   | some v=>wpAny (model prog w) A (letOwnedTupleGo target it v) (λ_ s₀=>wpAny (model prog w) A (assign target env v) (λ_ s₂ =>
     wpAny (model prog w) A (forIn ifs true λc r=>if r=true then do let ok ←isTrue c env (eval c env);pure (ForInStep.yield ok) else pure (ForInStep.yield r)) (λok s₃ =>
      if ok=true then ∀(k:Sem Fin) (Q:Fin->Shared->Prop) (E:Value->Shared->Prop),(∀s₅,(∃m,m<n∧I m s₅)->wpAny (model prog w) A k Q E s₅)->wpAny (model prog w) A (act k) Q E s₃
      else ∃m,m<n∧I m s₃) (λ_ _=>False) s₂) (λ_ _=>False) s₀) (λ_ _=>False) s₁) (λ_ _=>False) s)
  (n:Nat) (h:I n s):codeAny (model prog w) A (.compLoop (.ListComp elt gens scope pos) d it acc env) R s:=by
 refine codeAny_loop rfl I (λn s hI=>?_) n h
 show wpAny _ A ((compTurn (.ListComp elt gens scope pos) d it acc env).onRaise (λx=>do noteFrame x env;theTreesLotGoes x)) _ _ s
 refine wpAny_noted ?_
 rw[ht]
 unfold a7v
 refine wpAny_bind (wpAny_standAt (wpAny_bind (wpAny_mono (turn n s hI) (λr s₁ h₁=>?_) λ_ _ h'=>h'.elim)))
 cases r with
 | none=>exact wpAny_pure h₁
 | some v =>
  refine wpAny_bind (wpAny_mono h₁ (λ_ s₀ h₀=>?_) λ_ _ h'=>h'.elim)
  refine wpAny_bind (wpAny_mono h₀ (λ_ s₂ h₂=>wpAny_bind (wpAny_mono h₂ (λok s₃ h₃=>?_) λ_ _ h'=>h'.elim)) λ_ _ h'=>h'.elim)
  cases ok with
  | false=>exact wpAny_pure ⟨rfl,h₃⟩
  | true=>exact h₃ _ _ _ λs₅ h₅=>wpAny_pure ⟨rfl,h₅⟩
theorem a7D {elt:Expr}{g0:Comprehension}{target iter:Expr}{ifs:List Expr}{rest:List Comprehension}{scope:Scope}{pos:Pos}{it acc:Value}{env:Env}
  (h0:codeAny (model prog w) A (.compLoop (.ListComp elt (g0::⟨target,iter,ifs,0⟩::rest) scope pos) 1 it acc env) R s)
  (h:wpAny (model prog w) A (pyIter it) (λit' s'=>codeAny (model prog w) A (.compLoop (.ListComp elt (g0::⟨target,iter,ifs,0⟩::rest) scope pos) 1 it' acc env) R s') (notedBy (model prog w) A env λx s'=>R (.error x) s') s) :
  codeAny (model prog w) A (.compStart (.ListComp elt (g0::⟨target,iter,ifs,0⟩::rest) scope pos) 1 it acc env) R s:=by
 refine codeAny_of_tree ?_
 show wpAny _ _ ((compStart (.ListComp elt (g0::⟨target,iter,ifs,0⟩::rest) scope pos) 1 it acc env).onRaise (λx=>do noteFrame x env;standAt theWindowsPlace)) _ _ s
 refine wpAny_notedAt ?_;unfold compStart;show wpAny _ _ (ask >>= _) _ _ s;refine wpAny_bind (wpAny_askSetting (wpAny_ite ?_))
 split
 ·first | exact wpAny_bind (wpAny_pure (wpAny_pure (And.intro rfl h0))) | exact wpAny_pure (And.intro rfl h0)
 ·first | exact wpAny_bind (wpAny_rule (wpAny_bind (wpAny_standAt (wpAny_bind (wpAny_mono h (λit' s' h'=>wpAny_pure (And.intro rfl h')) λ_ _ x=>x))))) | (refine wpAny_bind (wpAny_rule ?_);show wpAny _ _ (standAt iter.pos >>= _) _ _ s;exact wpAny_bind (wpAny_standAt (wpAny_bind (wpAny_mono h (λit' s' h'=>wpAny_pure (And.intro rfl h')) λ_ _ x=>x))))
end
noncomputable abbrev TM:=St->Hp->(St->Hp->Prop)->Prop
noncomputable def PM (Y:Cx)(act:Sem Fin->Sem Fin)(t:TM):Prop:=∀(pins:List (Addr×Obj)) (s:Shared) (σ:St) (H:Hp) (Q:St->Hp->Prop),Inv Y pins σ H s->t σ H Q ->
 ∀(k:Sem Fin) (R:Fin->Shared->Prop) (E:Value->Shared->Prop),(∀s' σ' H',Inv Y pins σ' H' s'->Q σ' H'->wpAny (model Y.prog Y.w) Y.A k R E s')->wpAny (model Y.prog Y.w) Y.A (act k) R E s
noncomputable def tIn (wi:TI)(g:TG)(tt:TT)(te:TE)(D:Addr):TM:=λσ H Q=>wi σ H λJ H1 =>
 ∃W:Nat->Nat->St->List V->Hp->Prop,(∃m acc,H1 D=some (.lst acc)∧W 0 m σ acc H1)∧∀i m σ' acc H',W i m σ' acc H' ->
  (J.stop i H'∧Q σ' H') ∨
  (J.go i H'∧∀x H2,J.yld i H' x H2->g x σ' H2 λσ2 H3=>tt σ2 H3 λok H4=>if ok=true then te σ2 H4 λy H5=>H5 D=some (.lst acc)∧acc.length<sizeLine∧∃m',m'<m∧W (i+1) m' σ2 (acc++[y]) (upd H5 D (.lst (acc++[y])))
   else H4 D=some (.lst acc)∧∃m',m'<m∧W (i+1) m' σ2 acc H4)
theorem b38 {Y:Cx}{elt tg iter tg1 iter1:Expr}{ifs ifs1:List Expr}{scope:Scope}{pos:Pos}{wi:TI}{g:TG}{tt:TT}{te:TE}{D:Addr}(hx:Y.xe = λ_ _=>False)(hc:Y.calm=true)(hi:PI Y tg1 iter1 wi)(hg:PG Y tg1 g)(ht:PTs Y ifs1 tt)(he:PE Y elt te)
  (hs:∀x,foldedSetIterable iter1 Y.env x=pure x):PM Y (a5J (.ListComp elt [⟨tg,iter,ifs,0⟩,⟨tg1,iter1,ifs1,0⟩] scope pos) iter1 (.ref D) Y.env) (tIn wi g tt te D):=by
 intro pins s σ H Q I h k R E hk
 unfold a5J
 have hxe:∀{a b},Y.xe a b->False:=λ{a b} z=>by rw[hx]at z;exact z
 refine wpAny_bind (wpAny_mono (hi pins s σ H _ I h) (λv s1 h1=>wpAny_bind (wpAny_standAt ?_)) λ_ _ z=>(hxe z).elim)
 rw[hs]
 refine wpAny_bind (wpAny_pure (wpAny_bind (wpAny_holding (wpAny_mono h1 (λitv s2 h2=>?_) λ_ _ z=>(hxe z).elim))))
 obtain⟨it,fp,tn,J,H2,e,I2,T,st2,f2,W,⟨m0,acc0,hD0,w0⟩,turn⟩:=h2
 subst e
 have stat:∀{H':Hp},(∀b∈fp,H' b=none)->∀b∈fp,Z6 Y pins H' b:=λhn b hb=>⟨hn b hb,(f2 b hb).2⟩
 refine wpAny_bind (wpAny_runOwn ?_)
 have loop:codeAny (model Y.prog Y.w) (Y.A.mark none) (.compLoop (.ListComp elt [⟨tg,iter,ifs,0⟩,⟨tg1,iter1,ifs1,0⟩] scope pos) 1 (.ref it) (.ref D) Y.env) (λr s'=>match r with | .ok f=>wpAny (model Y.prog Y.w) Y.A k R E s' | .error e=>cameBackBy (model Y.prog Y.w) Y.A Y.env E e s') s2:=by
  refine b2S (A:=Y.A) (λn s'=>∃i σ' acc H',Inv Y pins σ' H' s'∧tn i s'.heap∧(∀b∈fp,H' b=none)∧H' D=some (.lst acc)∧W i n σ' acc H') (a9H ..) ?_ m0 ⟨0,σ,acc0,H2,I2,st2,λb hb=>(f2 b hb).1,hD0,w0⟩
  rintro n s5 ⟨i,σ5,acc,H5,I5,st5,fr5,hD5,w5⟩
  rcases turn i n σ5 acc H5 w5 with ⟨stop,q⟩ | ⟨go,step⟩
  ·refine wpAny_mono (T.done Y rfl rfl rfl hc i pins s5 σ5 H5 _ I5 (stat fr5) st5 stop) (λr s6 ⟨hr,I6⟩=>?_) λ_ _ z=>z
   subst hr
   exact hk s6 σ5 H5 I6 q
  ·refine wpAny_mono (T.item Y rfl rfl rfl hc i pins s5 σ5 H5 _ I5 (stat fr5) st5 go) (λr s6 ⟨u,hr,h6⟩=>?_) λ_ _ z=>z
   subst hr
   refine wpAny_mono h6 (λ_ s7 ⟨x,H7,I7,r7,y7,st7,fr7⟩=>?_) λ_ _ z=>z
   have I7':=I7.pinned (stat fr7) (T.obj _ _ st7)
   have keepI:∀{s':Shared} {σ':St} {H':Hp},Inv Y (pins++U7 fp s7.heap) σ' H' s'->tn (i+1) s'.heap∧∀b∈fp,H' b=none:=λ{s' σ' H'} I'=>by
    refine⟨T.keep _ _ _ st7 λb hb o e=>(I'.pin (b,o) (List.mem_append_right _ (List.mem_append_right _ (x8 hb e)))).1,λb hb=>?_⟩
    obtain⟨o,e,d⟩:=T.obj _ _ st7 b hb
    exact(I'.pin (b,o) (List.mem_append_right _ (List.mem_append_right _ (x8 hb e)))).2.1
   refine wpAny_mono (hg _ s7 σ5 H7 x u _ I7' r7 (step x H7 y7)) (λ_ s8 ⟨σ8,H8,I8,q8⟩=>?_) λ_ _ z=>hxe z
   refine wpAny_mono (ht _ s8 σ8 H8 _ I8 q8) (λok s9 ⟨H9,I9,q9⟩=>?_) λ_ _ z=>hxe z
   cases ok with
   | false =>
    have q9:H9 D=some (.lst acc)∧∃m',m'<n∧W (i+1) m' σ8 acc H9:=q9
    obtain⟨hD9,m',hm,w9⟩:=q9
    obtain⟨k1,k2⟩:=keepI I9
    exact⟨m',hm,i+1,σ8,acc,H9,I9.unpinned,k1,k2,hD9,w9⟩
   | true =>
    show wpAny _ _ (a8k elt (.ref D) Y.env) _ _ _
    unfold a8k
    refine wpAny_bind (wpAny_mono (he _ s9 σ8 H9 _ I9 q9) (λyv s10 ⟨y,H10,I10,r10,hD10,hz,m',hm,w10⟩=>?_) λ_ _ z=>hxe z)
    refine wpAny_bind (wpAny_mono (V8 (X:=Y) _ s10 σ8 H10 (.ref D) [y] (.ref D) [yv] (λ_ H'=>H'=upd H10 D (.lst (acc++[y]))) I10 rfl (.cons r10 .nil) ⟨D,acc,y,rfl,rfl,hD10,hz,rfl⟩) (λ_ s11 ⟨_,H11,I11,_,e11⟩=>wpAny_pure ?_) λ_ _ z=>hxe z)
    subst e11
    obtain⟨k1,k2⟩:=keepI I11
    exact⟨m',hm,i+1,σ8,acc++[y],_,I11.unpinned,k1,k2,g8,w10⟩
 exact a7D loop (T.self _ 0 _ _ _ st2 loop)
end L2
namespace L2
open PySem PySem.Spec PyProof.Rows
theorem a6B {X:Cx}{elt tg iter tg1 iter1:Expr}{ifs ifs1:List Expr}{scope osc:Scope}{pos:Pos}{N:List Str}{k:Nat}{cap:List Nat}{g:TG}{tt:TT}{tm:TM}{cl:List (Str×Addr)}
  {pins:List (Addr×Obj)} {σ:St} {H3:Hp} {s3:Shared} {D it:Addr} {fp:List Addr} {tn:Nat->Heap->Prop} {J:It} {Q:VK} {W:Nat->Nat->St->Hp->Prop} {m0:Nat}
  (hc:X.calm=true) (hosc:X.env.scope=osc) (hcap:Caps X.N osc N k cap scope)
  (hcl:∀{x:Str} {c:Addr},cl.lookup x=some c->X.env.cells.lookup x=some c) (hhas:∀x,(x,NameKind.free)∈scope.names->∃c,cl.lookup x=some c)
  (hg:∀cl C ex pins s H,PG (cxC X N scope cl C ex pins s H) tg g)
  (ht:∀cl C ex pins s H,PTs (cxC X N scope cl C ex pins s H) ifs tt)
  (he:∀cl C ex pins s H,PM (cxC X N scope cl C ex pins s H) (a5J (.ListComp elt [⟨tg,iter,ifs,0⟩,⟨tg1,iter1,ifs1,0⟩] scope pos) iter1 (.ref D) (cxC X N scope cl C ex pins s H).env) tm)
  (I3:Inv X pins σ H3 s3) (T:Turn X.prog X.w X.K tg J fp it tn) (st:tn 0 s3.heap) (f3:∀b∈fp,Z6 X pins H3 b) (w0:W 0 m0 (K7 k cap σ) H3)
  (turn:∀i m σ' H',W i m σ' H'->(J.stop i H'∧Q (.ref D) H') ∨
   (J.go i H'∧∀x H2,J.yld i H' x H2->g x σ' H2 λσ2 H3=>tt σ2 H3 λok H4=>if ok=true then tm σ2 H4 λσ3 H5=>∃m',m'<m∧W (i+1) m' σ3 H5 else ∃m',m'<m∧W (i+1) m' σ2 H4)) :
  wpAny (model X.prog X.w) X.A (newFunctionEnv scope X.env.globals cl [] X.env.qual none .none (some X.env)) (λcenv s₄ =>
   codeAny (model X.prog X.w) X.A (.compStart (.ListComp elt [⟨tg,iter,ifs,0⟩,⟨tg1,iter1,ifs1,0⟩] scope pos) 0 (.ref it) (.ref D) { cenv with scope:=relabel scope X.env }) (compPost (model X.prog X.w) X.A X.xe none (EP X pins σ Q) (.ref D) cenv.locals) s₄) X.xe s3:=by
 refine wpAny_newFunctionEnv hcap.nocell (by intro y hy;simp at hy) (λh₁ hns₁ hsb₁=>?_) hcap.kind
 have old:∀b o,s3.heap.get? b=some o->h₁.get? b=some o:=λb o e=>hsb₁.extBut b o (Nat.ne_of_lt (Heap.lt_size e)) (Heap.get?_push_of_some _ e)
 have neC:∀b∈fp,b≠s3.heap.objs.size:=λb hb=>by
  obtain⟨o,e,_⟩:=T.obj _ _ st b hb
  exact Nat.ne_of_lt (Heap.lt_size e)
 have nofs:∀{b:Addr},b≠X.env.locals->b ∉ X.fs->b ∉ frs X.stack:=λ{b} h1 h2 z=>(List.mem_cons.mp (I3.stkSub b z)).elim h1 h2
 have IY:Inv (cxC X N scope cl s3.heap.objs.size fp pins s3 H3) [] (K7 k cap σ) H3 { s3 with heap:=h₁,toks:=s3.toks+([]:List (Str×Value)).length }:=by
  refine⟨⟨I3.ok.mod,hcap.kind,I3.ok.glob,I3.ok.blt,Nat.le_refl _,λx y c h1 h2=>I3.ok.inj x y c (hcl h1) (hcl h2),λx hx=>hhas x (V4 hcap.nocell hx),λx c h=>absurd (show false=true from h) Bool.false_ne_true,I3.ok.hd,I3.ok.frames,.inl rfl,
   λb hb=>⟨neC b hb,λx c e=>(f3 b hb).2.2.2.2.1 x c (hcl e)⟩,I3.bs,Nat.le_trans I3.ok.bsz I3.sz,λb o e hb=>?_,λb hb=>nofs (f3 b hb).2.1 (f3 b hb).2.2.1,I3.stack,I3.stkFree⟩,
   rfl,I3.bare,Un.kept old,⟨_,hns₁,λi x v e1 e2 e3=>?_⟩,λx c e=>?_,I3.hok.fresh (Nat.le_refl _),λx c e=>I3.freeC x c (hcl e),λp hp=>?_,I3.hok.kept old,?_⟩
  ·rcases(f3 b hb).2.2.2.1 with z | z
   ·exact I3.ok.noex b o e z
   ·exact absurd (Nat.lt_of_lt_of_le (Heap.lt_size e) (Nat.le_trans I3.ok.bsz z)) (Nat.lt_irrefl _)
  ·by_cases hi:i<k
   ·unfold K7 at e2
    rw[List.getElem?_append_left (by simpa using hi),List.getElem?_replicate,if_pos hi]at e2
    cases e2
   ·obtain⟨d,rfl⟩:∃d,i=k+d:=⟨i-k,by omega⟩
    unfold K7 at e2
    rw[List.getElem?_append_right (by simp),List.length_replicate,Nat.add_sub_cancel_left,List.getElem?_map]at e2
    obtain⟨j,hj,hv⟩:=Option.map_eq_some_iff.mp e2
    have hσ:σ[j]? = some (some v):=by
     cases q:σ[j]? with
     | none=>rw[q]at hv;cases hv
     | some o=>rw[q]at hv;exact congrArg some hv
    have e1':(N.drop k)[d]? = some x:=by rw[List.getElem?_drop];exact e1
    have hx:X.N[j]? = some x:=by
     have z:=congrArg (λl=>l[d]?) hcap.capx
     simp only[List.getElem?_map,hj,e1',Option.map_some]at z
     exact Option.some.inj z
    have hfr:=hcap.capf x (List.mem_of_getElem? e1')
    have hfm:=PySem.mem_of_lookup hfr
    have hok:=hcap.free _ hfm rfl
    rw[←hosc]at hok
    obtain⟨m,hn,hl⟩:=I3.loc
    obtain⟨u,r,l⟩:=hl j x v hx hσ (.inr hok)
    refine⟨u,r,?_⟩
    rcases l with ⟨hk,_⟩ | ⟨hk,c,hc1,hc2⟩
    ·have hk:X.env.scope.names.lookup x=some .local:=hk
     rcases hok with z | z <;> (rw[hk]at z;cases z)
    ·obtain⟨c',hc'⟩:=hhas x hfm
     have:c'=c:=Option.some.inj ((hcl hc').symm.trans hc1)
     subst this
     exact .inr ⟨R7 hfr,c',hc',hc2.keeps old⟩
  ·obtain⟨v,z⟩:=I3.cell x c (hcl e)
   exact⟨v,z.keeps old⟩
  ·have hp:p∈(X.pn++pins)++[]:=hp
   rw[List.append_nil]at hp
   obtain⟨a1,a2,a3,a4,a5⟩:=I3.pin p hp
   exact⟨old _ _ a1,a2,Nat.ne_of_lt (Heap.lt_size a1),nofs a3 a4,a5⟩
  ·show(K7 k cap σ).length=N.length
   unfold K7
   rw[List.length_append,List.length_replicate,List.length_map,hcap.len]
 have stat:∀{H':Hp},(∀b∈fp,H' b=none)->∀b∈fp,Z6 (cxC X N scope cl s3.heap.objs.size fp pins s3 H3) [] H' b:=λ{H'} hn b hb=>by
  obtain⟨a0,a1,a2,a3,a4,a5⟩:=f3 b hb
  refine⟨hn b hb,neC b hb,nofs a1 a2,.inl hb,λx c e=>a4 x c (hcl e),λp hp=>a5 p ?_⟩
  have hp:p∈(X.pn++pins)++[]:=hp
  rwa [List.append_nil]at hp
 have loop:codeAny (model X.prog X.w) X.A (.compLoop (.ListComp elt [⟨tg,iter,ifs,0⟩,⟨tg1,iter1,ifs1,0⟩] scope pos) 0 (.ref it) (.ref D) (compEnvC scope cl s3.heap.objs.size X.env))
   (compPost (model X.prog X.w) X.A X.xe none (EP X pins σ Q) (.ref D) s3.heap.objs.size) { s3 with heap:=h₁,toks:=s3.toks+([]:List (Str×Value)).length }:=by
  refine b3c (λn s'=>∃i σ' H',Inv (cxC X N scope cl s3.heap.objs.size fp pins s3 H3) [] σ' H' s'∧tn i s'.heap∧(∀b∈fp,H' b=none)∧W i n σ' H') (a8r ..) ?_ m0
   ⟨0,_,H3,IY,T.keep _ _ _ st λb _ o e=>old b o e,λb hb=>(f3 b hb).1,w0⟩
  rintro n s5 ⟨i,σ5,H5,I5,st5,fr5,w5⟩
  rcases turn i n σ5 H5 w5 with ⟨stop,q⟩ | ⟨go,step⟩
  ·refine thn (T.done (cxC X N scope cl s3.heap.objs.size fp pins s3 H3) rfl rfl rfl hc i [] s5 σ5 H5 _ I5 (stat fr5) st5 stop) λr s6 ⟨hr,I6⟩=>?_
   subst hr
   obtain⟨m,hn,_⟩:=id I6.loc
   refine⟨m,hn,λh' hsb=>?_⟩
   have I7:Inv X pins σ H5 s6:=I3.call' I6.os I6.base I6.hok I6.bare λb hb=>by
    obtain⟨a0,a1,a2,a3,a4,a5⟩:=f3 b hb
    exact⟨a3,a1,a4,a5⟩
   obtain⟨g0,g1,g2,g3,g4,g5⟩:=I3.fpOk (H':=H5) (b:=s3.heap.objs.size) (Nat.le_refl _) I6.free
   exact⟨.ref D,H5,I7.turned (t':=s6.toks) (λb o hb e=>(hsb.2 b hb).trans e) g0 g1 g3 g4 g5,rfl,q⟩
  ·refine thn (T.item (cxC X N scope cl s3.heap.objs.size fp pins s3 H3) rfl rfl rfl hc i [] s5 σ5 H5 _ I5 (stat fr5) st5 go) λr s6 ⟨u,hr,h6⟩=>?_
   subst hr
   refine thn h6 λ_ s7 ⟨x,H7,I7,r7,y7,st7,fr7⟩=>?_
   have I7':=I7.pinned (stat fr7) (T.obj _ _ st7)
   have keepI:∀{s':Shared} {σ':St} {H':Hp},Inv (cxC X N scope cl s3.heap.objs.size fp pins s3 H3) ([]++U7 fp s7.heap) σ' H' s'->tn (i+1) s'.heap∧∀b∈fp,H' b=none:=λ{s' σ' H'} I'=>by
    refine⟨T.keep _ _ _ st7 λb hb o e=>(I'.pin (b,o) (List.mem_append_right _ (List.mem_append_right _ (x8 hb e)))).1,λb hb=>?_⟩
    obtain⟨o,e,d⟩:=T.obj _ _ st7 b hb
    exact(I'.pin (b,o) (List.mem_append_right _ (List.mem_append_right _ (x8 hb e)))).2.1
   refine thn (hg _ _ _ _ _ _ _ s7 σ5 H7 x u _ I7' r7 (step x H7 y7)) λ_ s8 ⟨σ8,H8,I8,q8⟩=>?_
   refine thn (ht _ _ _ _ _ _ _ s8 σ8 H8 _ I8 q8) λok s9 ⟨H9,I9,q9⟩=>?_
   cases ok with
   | false =>
    have q9:∃m',m'<n∧W (i+1) m' σ8 H9:=q9
    obtain⟨m',hm,w9⟩:=q9
    obtain⟨k1,k2⟩:=keepI I9
    exact⟨m',hm,i+1,σ8,H9,I9.unpinned,k1,k2,w9⟩
   | true =>
    have q9:tm σ8 H9 λσ3 H5=>∃m',m'<n∧W (i+1) m' σ3 H5:=q9
    intro kk R E hk
    refine he _ _ _ _ _ _ _ s9 σ8 H9 _ I9 q9 kk R E λs10 σ10 H10 I10 ⟨m',hm,w10⟩=>hk s10 ?_
    obtain⟨k1,k2⟩:=keepI I10
    exact⟨m',hm,i+1,σ10,H10,I10.unpinned,k1,k2,w10⟩
 exact codeAny_compStart_list loop (T.self X.A 0 _ _ _ (T.keep _ _ _ st λb _ o e=>old b o e) loop)
noncomputable def b1M (wi:TI)(k:Nat)(cap:List Nat)(g:TG)(tt:TT)(wi1:TI)(g1:TG)(tt1:TT)(te:TE):TE:=λσ H Q=>wi σ H λJ H1=>∀D,H1 D=none ->
 ∃W:Nat->Nat->St->Hp->Prop,(∃m,W 0 m (K7 k cap σ) (upd H1 D (.lst [])))∧∀i m σ' H',W i m σ' H' ->
  (J.stop i H'∧Q (.ref D) H') ∨
  (J.go i H'∧∀x H2,J.yld i H' x H2->g x σ' H2 λσ2 H3=>tt σ2 H3 λok H4=>if ok=true then tIn wi1 g1 tt1 te D σ2 H4 λσ3 H5=>∃m',m'<m∧W (i+1) m' σ3 H5 else ∃m',m'<m∧W (i+1) m' σ2 H4)
theorem b2f {X:Cx}{elt tg iter tg1 iter1:Expr}{ifs ifs1:List Expr}{scope osc:Scope}{pos:Pos}{N:List Str}{k:Nat}{cap:List Nat}{wi:TI}{g:TG}{tt:TT}{wi1:TI}{g1:TG}{tt1:TT}{te:TE}
  (hc:X.calm=true) (hosc:X.env.scope=osc) (hcap:Caps X.N osc N k cap scope) (hi:PI X tg iter wi)
  (hg:∀cl C ex pins s H,PG (cxC X N scope cl C ex pins s H) tg g)
  (ht:∀cl C ex pins s H,PTs (cxC X N scope cl C ex pins s H) ifs tt)
  (hi1:∀cl C ex pins s H,PI (cxC X N scope cl C ex pins s H) tg1 iter1 wi1)
  (hg1:∀cl C ex pins s H,PG (cxC X N scope cl C ex pins s H) tg1 g1)
  (ht1:∀cl C ex pins s H,PTs (cxC X N scope cl C ex pins s H) ifs1 tt1)
  (he:∀cl C ex pins s H,PE (cxC X N scope cl C ex pins s H) elt te)
  (hs1:∀cl C ex pins s H x,foldedSetIterable iter1 (cxC X N scope cl C ex pins s H).env x=pure x:=by intros;rfl)
  (hs:∀x,foldedSetIterable iter X.env x=pure x:=by intro _;rfl) :
  PE X (.ListComp elt [⟨tg,iter,ifs,0⟩,⟨tg1,iter1,ifs1,0⟩] scope pos) (b1M wi k cap g tt wi1 g1 tt1 te):=by
 intro pins s σ H Q I h
 have hcell:∀y∈scope.names,y.2 = .free->∃c,X.env.cells.lookup y.1=some c:=λy hy hk=>I.ok.has y.1 (by
  show X.env.scope.names.lookup y.1=_∨X.env.scope.names.lookup y.1=_
  rw[hosc];exact hcap.free y hy hk)
 let f:Str->Addr:=λx=>(X.env.cells.lookup x).getD 0
 have hf:∀y∈scope.names,y.2 = .free->X.env.cells.lookup y.1=some (f y.1):=λy hy hk=>by
  obtain⟨c,e⟩:=hcell y hy hk
  show _=some ((X.env.cells.lookup y.1).getD 0)
  rw[e];rfl
 have hclos:closureFor scope X.env=pure (z9 f scope.names []):=B9 λy hy hk=>by
  unfold cellOf
  rw[hf y hy hk]
 have hcl:∀{x:Str} {c:Addr},(z9 f scope.names []).lookup x=some c->X.env.cells.lookup x=some c:=λ{x c} e=>by
  rcases E8 _ _ e with ⟨h1,h2⟩ | h1
  ·rw[h2];exact hf (x,.free) h1 rfl
  ·simp at h1
 have hhas:∀x,(x,NameKind.free)∈scope.names->∃c,(z9 f scope.names []).lookup x=some c:=λx hx=>⟨_,P6 _ _ (.inl hx)⟩
 generalize z9 f scope.names []=cl at hclos hcl hhas
 rw[eval_ListComp]
 refine wpAny_comprehension_free (use:=none) (cl:=cl) rfl hs hclos hcap.kind hcap.loc ?_
 refine thn (hi pins s σ H _ I h) λv s1 h1=>thn h1 λitv s2 h2=>?_
 obtain⟨it,fp,tn,J,H2,e,I2,T,st2,f2,q2⟩:=h2
 subst e
 obtain⟨W,⟨m0,w0⟩,turn⟩:=q2 s2.heap.objs.size (I2.hok.fresh (Nat.le_refl _))
 refine wpAny_newObj_type ?_
 have I3:Inv X pins σ (upd H2 s2.heap.objs.size (.lst [])) { s2 with heap:=s2.heap.push { cls:=.type "list",data:=.seq ([]:List Value).toArray } }:=I2.lnew (ys:=[]) (its:=[]) (t':=s2.toks) .nil (Nat.zero_le _)
 have lt2:∀b∈fp,b≠s2.heap.objs.size:=λb hb=>by
  obtain⟨o,e,_⟩:=T.obj _ _ st2 b hb
  exact Nat.ne_of_lt (Heap.lt_size e)
 exact a6B hc hosc hcap hcl hhas hg ht (λcl C ex pins s H=>b38 (Y:=cxC X N scope cl C ex pins s H) rfl hc (hi1 cl C ex pins s H) (hg1 cl C ex pins s H) (ht1 cl C ex pins s H) (he cl C ex pins s H) (hs1 cl C ex pins s H)) I3 T (T.keep _ _ (s2.heap.push { cls:=.type "list",data:=.seq ([]:List Value).toArray }) st2 λb _ o e=>Heap.get?_push_of_some _ e) (λb hb=>⟨by rw[f7 (lt2 b hb)];exact(f2 b hb).1,(f2 b hb).2⟩) w0 turn
end L2
namespace L3
open PySem PySem.Spec PyProof.Rows L2
section
variable [Feeds]
variable {K:PySem.W.Frag}{X:Cx}{tg iter tg1 iter1 elt:Expr}{te:TE}{pos:Pos}
noncomputable def a34 (bd:PyData->DE->Option DE)(mt:DE->M Bool)(me:DE->M PyData):List PyData->DE->M (List PyData×DE)
 | [],E,F=>some (([],E),F)
 | d::r,E,F=>(bd d E).bind λE1=>(mt E1 F).bind λp=>if p.1=true then(me E1 p.2).bind λy=>(a34 bd mt me r E1 y.2).bind λz=>some ((y.1::z.1.1,z.1.2),z.2) else a34 bd mt me r E1 p.2
noncomputable def a0f (bd:PyData->DE->Option DE)(mt:DE->M Bool)(mi1:DE->M (List PyData))(bd1:PyData->DE->Option DE)(mt1:DE->M Bool)(me:DE->M PyData):List PyData->DE->M (List PyData)
 | [],_,F=>some ([],F)
 | d::r,E,F=>(bd d E).bind λE1=>(mt E1 F).bind λp=>if p.1=true then(mi1 E1 p.2).bind λits=>(a34 bd1 mt1 me its.1 E1 its.2).bind λz=>(a0f bd mt mi1 bd1 mt1 me r z.1.2 z.2).bind λw=>some (z.1.1++w.1,w.2) else a0f bd mt mi1 bd1 mt1 me r E1 p.2
noncomputable def a9w (mi:DE->M (List PyData))(k:Nat)(cap:List Nat)(bd:PyData->DE->Option DE)(mt:DE->M Bool)(mi1:DE->M (List PyData))(bd1:PyData->DE->Option DE)(mt1:DE->M Bool)(me:DE->M PyData):DE->M PyData:=λE F =>
 (mi E F).bind λp=>(a0f bd mt mi1 bd1 mt1 me p.1 (a26 k cap E) p.2).bind λz=>if z.1.length≤sizeLine then some (.list z.1,z.2) else none
theorem b2A {wi wi1:TI}{mi mi1:DE->M (List PyData)}{k:Nat}{cap:List Nat}{g g1:TG}{bd bd1:PyData->DE->Option DE}{tt tt1:TT}{mt mt1:DE->M Bool}{me:DE->M PyData}(hi:TIs K wi mi)(hg:TGd K g bd)(ht:TTd K tt mt)
  (hi1:TId K wi1 mi1) (hg1:TGd K g1 bd1) (ht1:TTd K tt1 mt1) (he:TEd K te me):TEd K (b1M wi k cap g tt wi1 g1 tt1 te) (a9w mi k cap bd mt mi1 bd1 mt1 me):=λG B E F σ H Q d F' I e q=>by
 obtain⟨⟨items,F1⟩,e1,e⟩:=Option.bind_eq_some_iff.mp e
 obtain⟨⟨whole,F2⟩,e2,e⟩:=Option.bind_eq_some_iff.mp e
 split at e
 ·rename_i hsz
  cases e
  have hsz:whole.length≤sizeLine:=hsz
  refine hi G B E F σ H _ items F1 I e1 λJ H1 k1 f1 ok D hD=>?_
  have I1:SitE K G B E F1 σ H1:=I.step k1 f1
  have hBD:D ∉ B:=I1.bk.nin hD
  have hfD:D ∉ k8 K G:=λz=>hBD (I.fB D z)
  have stab:∀{H':Hp},Kp (k8 K G) H1 H'->Kp (k8 K G) H1 H'∧i5 (hid H1 B) (hid H' (D::B)):=λ{H'} k=>⟨k,λb o eb=>by
   by_cases hb:b∈B
   ·rw[B3 hb]at eb;cases eb
   ·rw[l8 hb]at eb
    rw[l8 (by
     intro z
     rcases List.mem_cons.mp z with rfl | z
     ·rw[hD]at eb;cases eb
     ·exact hb z)]
    exact k b o eb λz=>hb (I.fB b z)⟩
  obtain⟨W,hW⟩:∃W:Nat->Nat->St->Hp->Prop,W = λi m σ' H'=>m=items.length-i∧i≤items.length∧∃E F done rest acc,SitE K G (D::B) E F σ' H'∧H' D=some (.lst acc)∧Kp (k8 K G) H1 H'∧(∀(j:Nat) (ds:List PyData),E[j]? = some (some (DV.own ds))->σ'[j]? ≠ some (some (V.ref D)))∧a8 K (hid H' (D::B)) done acc∧a0f bd mt mi1 bd1 mt1 me (items.drop i) E F=some (rest,F2)∧whole=done++rest:=⟨_,rfl⟩
  have w0:W 0 items.length (K7 k cap σ) (upd H1 D (.lst [])):=by
   rw[hW]
   refine⟨by simp,Nat.zero_le _,a26 k cap E,F1,[],whole,[],(I1.cap k cap).more hD,g8,Kp.upd hD,λj ds ej z=>?_,a8.nil,e2,rfl⟩
   obtain⟨v,v1,a,xs,rfl,_,_,ha,_⟩:=(I1.cap k cap).loc j _ ej
   rw[v1]at z
   cases z
   rw[hD]at ha;cases ha
  refine⟨W,⟨_,w0⟩,λi m σ' H' w=>?_⟩
  have wn:∀{i m σ' H'},(m=items.length-i∧i≤items.length∧∃E F done rest acc,SitE K G (D::B) E F σ' H'∧H' D=some (.lst acc)∧Kp (k8 K G) H1 H'∧(∀(j:Nat) (ds:List PyData),E[j]? = some (some (DV.own ds))->σ'[j]? ≠ some (some (V.ref D)))∧a8 K (hid H' (D::B)) done acc∧a0f bd mt mi1 bd1 mt1 me (items.drop i) E F=some (rest,F2)∧whole=done++rest)->W i m σ' H':=λh=>by rw[hW];exact h
  rw[hW]at w
  clear hW w0
  obtain⟨rfl,hil,E',F3,done,rest,acc,I2,hD2,k2,ow,hd2,e3,ew⟩:=w
  by_cases hlt:i<items.length
  ·refine .inr ⟨((ok H' (D::B) (stab k2)).1 i items[i] (by simp[hlt])).1,λx H2 y=>?_⟩
   obtain⟨s2,hx⟩:=((ok H' (D::B) (stab k2)).1 i items[i] (by simp[hlt])).2 x H2 y
   have hx':=hx I2.bk
   rw[List.drop_eq_getElem_cons hlt,a0f]at e3
   obtain⟨E4,e4,e3⟩:=Option.bind_eq_some_iff.mp e3
   obtain⟨⟨b,F5⟩,e5,e3⟩:=Option.bind_eq_some_iff.mp e3
   have I3:SitE K G (D::B) E' F3 σ' H2:=I2.step (Kp.same s2) (I2.fd.same s2)
   refine hg G (D::B) E' F3 σ' H2 x items[i] E4 _ I3 hx' e4 λσ4 I4 fr=>?_
   have ow4:∀(j:Nat) (ds:List PyData),E4[j]? = some (some (DV.own ds))->σ4[j]? ≠ some (some (V.ref D)):=λj ds ej=>by
    obtain⟨a1,a2⟩:=fr j λy z=>by rw[ej]at z;cases z
    rw[a2];exact ow j ds (a1▸ej)
   refine ht G (D::B) E4 F3 σ4 H2 _ b F5 I4 e5 λH5 k5 f5=>?_
   have kall:Kp (k8 K G) H1 H5:=(k2.trans (Kp.same s2)).trans k5
   have I5:SitE K G (D::B) E4 F5 σ4 H5:=I4.step k5 f5
   have hD5:H5 D=some (.lst acc):=k5 D _ (s2 D _ hD2) hfD
   have hd5:a8 K (hid H5 (D::B)) done acc:=(hd2.same ((Kp.same s2).hid (fp:=[]) (by simp))).same (k5.hid I4.fB)
   cases b with
   | false=>exact⟨items.length-(i+1),by omega,wn ⟨rfl,hlt,E4,F5,done,rest,acc,I5,hD5,kall,ow4,hd5,e3,ew⟩⟩
   | true =>
    obtain⟨⟨its,F6⟩,e6,e3⟩:=Option.bind_eq_some_iff.mp e3
    obtain⟨⟨⟨zs,Ez⟩,F7⟩,e7,e3⟩:=Option.bind_eq_some_iff.mp e3
    obtain⟨⟨ws,F8⟩,e8,e3⟩:=Option.bind_eq_some_iff.mp e3
    cases e3
    refine hi1 G (D::B) E4 F5 σ4 H5 _ its F6 I5 e6 λJ1 H6 k6 f6 ok1=>?_
    have I6:SitE K G (D::B) E4 F6 σ4 H6:=I5.step k6 f6
    have hD6:H6 D=some (.lst acc):=k6 D _ hD5 hfD
    obtain⟨V5,hV⟩:∃V5:Nat->Nat->St->List V->Hp->Prop,V5 = λj n σ5 acc5 H7=>n=its.length-j∧j≤its.length∧∃E F done' rest',SitE K G (D::B) E F σ5 H7∧H7 D=some (.lst acc5)∧Kp (k8 K G) H1 H7∧i5 (hid H6 (D::B)) (hid H7 (D::B))∧(∀(j:Nat) (ds:List PyData),E[j]? = some (some (DV.own ds))->σ5[j]? ≠ some (some (V.ref D)))∧a8 K (hid H7 (D::B)) done' acc5∧a34 bd1 mt1 me (its.drop j) E F=some ((rest',Ez),F7)∧whole=done'++rest'++ws:=⟨_,rfl⟩
    have v0:V5 0 its.length σ4 acc H6:=by
     rw[hV]
     exact⟨by simp,Nat.zero_le _,E4,F6,done,zs,I6,hD6,kall.trans k6,λ_ _ z=>z,ow4,hd5.same (k6.hid I5.fB),e7,by rw[ew,List.append_assoc]⟩
    refine⟨V5,⟨its.length,acc,hD6,v0⟩,λj n σ5 acc5 H7 w=>?_⟩
    have vn:∀{j n σ5 acc5 H7},(n=its.length-j∧j≤its.length∧∃E F done' rest',SitE K G (D::B) E F σ5 H7∧H7 D=some (.lst acc5)∧Kp (k8 K G) H1 H7∧i5 (hid H6 (D::B)) (hid H7 (D::B))∧(∀(j:Nat) (ds:List PyData),E[j]? = some (some (DV.own ds))->σ5[j]? ≠ some (some (V.ref D)))∧a8 K (hid H7 (D::B)) done' acc5∧a34 bd1 mt1 me (its.drop j) E F=some ((rest',Ez),F7)∧whole=done'++rest'++ws)->V5 j n σ5 acc5 H7:=λh=>by rw[hV];exact h
    rw[hV]at w
    clear hV v0
    obtain⟨rfl,hj,E5,F9,done5,rest5,I7,hD7,k7,s7,ow5,hd7,e9,ew9⟩:=w
    by_cases hjl:j<its.length
    ·refine .inr ⟨((ok1 H7 (D::B) s7).1 j its[j] (by simp[hjl])).1,λx1 H8 y1=>?_⟩
     obtain⟨s8,hx8⟩:=((ok1 H7 (D::B) s7).1 j its[j] (by simp[hjl])).2 x1 H8 y1
     have hx8':=hx8 I7.bk
     rw[List.drop_eq_getElem_cons hjl,a34]at e9
     obtain⟨Ea,ea,e9⟩:=Option.bind_eq_some_iff.mp e9
     obtain⟨⟨bb,Fb⟩,eb,e9⟩:=Option.bind_eq_some_iff.mp e9
     have I8:SitE K G (D::B) E5 F9 σ5 H8:=I7.step (Kp.same s8) (I7.fd.same s8)
     refine hg1 G (D::B) E5 F9 σ5 H8 x1 its[j] Ea _ I8 hx8' ea λσa Ia fra=>?_
     have owa:∀(j:Nat) (ds:List PyData),Ea[j]? = some (some (DV.own ds))->σa[j]? ≠ some (some (V.ref D)):=λj ds ej=>by
      obtain⟨a1,a2⟩:=fra j λy z=>by rw[ej]at z;cases z
      rw[a2];exact ow5 j ds (a1▸ej)
     refine ht1 G (D::B) Ea F9 σa H8 _ bb Fb Ia eb λHb kb fb=>?_
     have kallb:Kp (k8 K G) H1 Hb:=(k7.trans (Kp.same s8)).trans kb
     have Ib:SitE K G (D::B) Ea Fb σa Hb:=Ia.step kb fb
     have hDb:Hb D=some (.lst acc5):=kb D _ (s8 D _ hD7) hfD
     have s78:i5 (hid H7 (D::B)) (hid H8 (D::B)):=(Kp.same s8).hid (fp:=[]) (by simp)
     have s8b:i5 (hid H8 (D::B)) (hid Hb (D::B)):=kb.hid Ia.fB
     have hdb:a8 K (hid Hb (D::B)) done5 acc5:=(hd7.same s78).same s8b
     have s6b:i5 (hid H6 (D::B)) (hid Hb (D::B)):=λb o z=>s8b b o (s78 b o (s7 b o z))
     cases bb with
     | false=>exact⟨hDb,its.length-(j+1),by omega,vn ⟨rfl,hjl,Ea,Fb,done5,rest5,Ib,hDb,kallb,s6b,owa,hdb,e9,ew9⟩⟩
     | true =>
      obtain⟨⟨yd,Fc⟩,ec,e9⟩:=Option.bind_eq_some_iff.mp e9
      obtain⟨⟨⟨zs',Ez'⟩,Fd⟩,ed,e9⟩:=Option.bind_eq_some_iff.mp e9
      cases e9
      refine he G (D::B) Ea Fb σa Hb _ yd Fc Ib ec λv Hc kc fc hc=>?_
      have hDc:Hc D=some (.lst acc5):=kc D _ hDb hfD
      have Ic:SitE K G (D::B) Ea Fc σa Hc:=Ib.step kc fc
      have hdc:=hdb.same (kc.hid Ib.fB)
      have hlen:acc5.length<sizeLine:=by
       have h1:=hd7.length
       have h2:=congrArg List.length ew9
       simp only[List.length_append,List.length_cons]at h2
       omega
      refine⟨hDc,hlen,its.length-(j+1),by omega,vn ⟨rfl,hjl,Ea,Fc,done5++[yd],zs',Ic.wr hfD owa hDc,g8,λb o eb nb=>?_,?_,owa,?_,ed,by rw[ew9];simp⟩⟩
      ·have:=kc b o (kallb b o eb nb) nb
       rw[f7];exact this
       intro z;subst z;rw[hD]at eb;cases eb
      ·rw[W0 List.mem_cons_self]
       exact λb o z=>kc.hid Ib.fB b o (s6b b o z)
      ·rw[W0 List.mem_cons_self]
       exact hdc.snoc hc
    ·have hje:j=its.length:=by omega
     subst hje
     rw[List.drop_length,a34]at e9
     cases e9
     rw[List.append_nil]at ew9
     exact .inl ⟨(ok1 H7 (D::B) s7).2,items.length-(i+1),by omega,wn ⟨rfl,hlt,_,_,done5,ws,acc5,I7,hD7,k7,ow5,hd7,e8,ew9⟩⟩
  ·have hie:i=items.length:=by omega
   subst hie
   rw[List.drop_length,a0f]at e3
   cases e3
   rw[List.append_nil]at ew
   subst ew
   exact .inl ⟨(ok H' (D::B) (stab k2)).2,q _ H' (k1.trans k2) I2.fd (b7.lst (by rw[l8 hBD];exact hD2) (hd2.same (N3 λb hb=>List.mem_cons_of_mem _ hb)))⟩
 ·cases e
theorem b1f {ifs ifs1:List Expr}{scope osc:Scope}{N:List Str}{k:Nat}{cap:List Nat}{wi wi1:TI}{g g1:TG}{tt tt1:TT}{mi mi1:DE->M (List PyData)}{bd bd1:PyData->DE->Option DE}{mt mt1:DE->M Bool}{me:DE->M PyData}
  (hc:X.calm=true) (hosc:X.env.scope=osc) (hcap:Caps X.N osc N k cap scope) (hi:Eib K X tg iter wi mi)
  (hg:∀cl C ex pins s H,Eg K (cxC X N scope cl C ex pins s H) tg g bd)
  (ht:∀cl C ex pins s H,Ets K (cxC X N scope cl C ex pins s H) ifs tt mt)
  (hi1:∀cl C ex pins s H,Ei K (cxC X N scope cl C ex pins s H) tg1 iter1 wi1 mi1)
  (hg1:∀cl C ex pins s H,Eg K (cxC X N scope cl C ex pins s H) tg1 g1 bd1)
  (ht1:∀cl C ex pins s H,Ets K (cxC X N scope cl C ex pins s H) ifs1 tt1 mt1)
  (he:∀cl C ex pins s H,Ev K (cxC X N scope cl C ex pins s H) elt te me)
  (hs1:∀cl C ex pins s H x,foldedSetIterable iter1 (cxC X N scope cl C ex pins s H).env x=pure x:=by intros;rfl)
  (hs:∀x,foldedSetIterable iter X.env x=pure x:=by intro _;rfl) :
  Ev K X (.ListComp elt [⟨tg,iter,ifs,0⟩,⟨tg1,iter1,ifs1,0⟩] scope pos) (b1M wi k cap g tt wi1 g1 tt1 te) (a9w mi k cap bd mt mi1 bd1 mt1 me) :=
 ⟨b2f hc hosc hcap hi.pi (λcl C ex pins s H=>(hg cl C ex pins s H).pg) (λcl C ex pins s H=>(ht cl C ex pins s H).pts) (λcl C ex pins s H=>(hi1 cl C ex pins s H).pi) (λcl C ex pins s H=>(hg1 cl C ex pins s H).pg) (λcl C ex pins s H=>(ht1 cl C ex pins s H).pts) (λcl C ex pins s H=>(he cl C ex pins s H).pe) hs1 hs,
  b2A hi.ok (hg [] 0 [] [] X.s₀ X.H₀).ok (ht [] 0 [] [] X.s₀ X.H₀).ok (hi1 [] 0 [] [] X.s₀ X.H₀).ok (hg1 [] 0 [] [] X.s₀ X.H₀).ok (ht1 [] 0 [] [] X.s₀ X.H₀).ok (he [] 0 [] [] X.s₀ X.H₀).ok⟩
end
end L3
namespace L3
open PySem PySem.Spec PyProof.Rows L2
section
variable [Feeds]
variable {K:PySem.W.Frag}{X:Cx}{st:Stmt}{rest:List Stmt}{t u:TS}{mt:DE->M Out}{mu:DE->M (List PyData)}{p pos:Pos}
variable {P:Program}{w:World}{mg:Str->Option Value}{base:Heap}
noncomputable def GI (mg:Str->Option Value)(x:Str)(i:Int):Prop:=∃t,mg x=some (Value.int i t)
theorem b2U {x:Str}{i:Int}(h:GI X.mg x i)(hg:Gl X x:=by rfl)(hd:(x == ("__debug__":Str))=false:=by decide):Ev K X (.Name x p) (tC (.int i)) (sC (.int i)) :=
 ⟨a6m hg h.choose_spec ⟨_,rfl⟩ hd,a8z λ_=>b7.int⟩
noncomputable def gSq (a:DE->M Out)(b:DE->M (List PyData)):DE->M (List PyData):=λE F=>(a E F).bind λp=>match p.1 with
 | .nx E1=>b E1 p.2
 | _=>none
noncomputable def b2d (i:Nat):DE->M (List PyData):=λE F=>match E[i]? with
 | some (some (.own ds))=>some (ds,F)
 | _=>none
structure SsG (K:PySem.W.Frag) (X:Cx) (sts:List Stmt) (ts:TS) (m:DE->M (List PyData)):Prop where
 ps:PSs X sts ts
 ok:∀(G:GF) (B0:List Addr) (H0:Hp) (E:DE) (F:FS) (σ:St) (H:Hp) (D:Ends) (ds:List PyData) (F':FS),Sit K G B0 H0 E F σ H->m E F=some (ds,F') ->
  (∀a ws H',H0 a=none->H' a=some (.lst ws)->Kp (k8 K G) H0 H'->FAt K G H' F'->a8 K (hid H' (a::B0)) ds ws->D.rt (.ref a) H')->ts D σ H
theorem b2y (i:Nat){x:Str}(hN:X.N[i]? = some x:=by rfl)(hv:Vis X.env.scope x:=by first | exact Or.inl rfl | exact Or.inr (Or.inl rfl) | exact Or.inr (Or.inr rfl))(hd:(x == ("__debug__":Str))=false:=by decide)
  (hcd:(x == ("__classdict__":Str))=false:=by decide):SsG K X [.Return (some (.Name x p)) pos] (a9R (a0D i)) (b2d i):=⟨W9 (Z9 (U8 hN hv hd hcd)),λG B0 H0 E F σ H D ds F' S e q=>by
 obtain⟨B,s,sn,I⟩:=S.ex
 unfold b2d at e
 split at e
 ·rename_i x hx
  cases e
  obtain⟨v,h1,p,xs,rfl,hB,hf,hp,hd⟩:=I.loc i _ hx
  obtain⟨n1,n2⟩:=S.own i _ p hx h1
  exact⟨_,h1,q p xs H n1 hp S.kp I.fd (hd.same (N3 λb hb=>by
   rcases List.mem_cons.mp hb with rfl | hb
   ·exact hB
   ·exact s b hb))⟩
 ·cases e⟩
theorem a3n (h1:Ss K X st t mt)(h2:SsG K X rest u mu):SsG K X (st::rest) (a9W t u) (gSq mt mu):=⟨z8 h1.ps h2.ps,λG B0 H0 E F σ H D ds F' S e q=>by
 obtain⟨⟨o,F1⟩,e1,e⟩:=Option.bind_eq_some_iff.mp e
 refine h1.ok G B0 H0 E F σ H _ o F1 S e1 ?_
 cases o with
 | nx E1=>exact λσ' H' S'=>h2.ok G B0 H0 E1 F1 σ' H' D ds F' S' e q
 | rt d=>cases e
 | bk E1=>cases e
 | ct E1=>cases e⟩
theorem b0a {x qual:Str}{st:Stmt}{f:Addr}{fd:FuncData}{N ps:List Str}{k:Nat}{mf:DE->M (List PyData)}(Fn:Fun K x qual st f fd)(S:FnScope N ps (defScope st))
  (hbody:∀(cdv:Value) (A:Around) (outer:List Env) (s:Shared) (H:Hp) (E:XK),Room k (A.deeper (envOfC qual (defScope st) s.heap.objs.size f cdv)) ->
   ∃ts,SsG K (K1 CX0 P w K mg base N qual (defScope st) f cdv A outer s H E).nox (defBody st) ts mf):FnOk P w K mg base CX0 (k+1) f fd ps (spG K ps.length (b1q N mf)):=by
 refine Fn.ok S (λvs H Q E h=>?_) (λcdv A outer s H vs Q E hr h=>?_)
 ·obtain⟨G,B,F,args,d,F',hl,_⟩:=h
  exact hl
 ·obtain⟨G,B,F,args,ds,F',hl,fB,bk,fa,ha,e1,q⟩:=h
  obtain⟨ts,hts⟩:=hbody cdv A outer s H E hr
  exact⟨ts,hts.ps,hts.ok G B H (p9 N args) F (L2.K5 N vs) H _ ds F' (a0E fB bk fa ha) e1 q⟩
end
end L3
namespace L2
open PySem PySem.Spec PyProof.Rows
section
variable {X:Cx}{K:PySem.W.Frag}
theorem a8H {prog:Program}{w:World}{A:Around}{E:Value->Shared->Prop}{s:Shared}{l:Addr}{vs:List Value}{Q:List Value->Shared->Prop}(hl:IsTup s.heap l vs.toArray)
  (q:Q vs { s with heap:=(s.heap.push (seqObj "list" #[] 0)).update s.heap.objs.size (Obj.mapSeq (· ++ vs.toArray)) }) (hz:vs.length≤sizeLine):wpAny (model prog w) A (collect (.ref l)) Q E s:=by
 obtain⟨o,ho,hc,n,hd⟩:=hl
 have ho1:(s.heap.push (seqObj "list" #[] 0)).get? l=some o:=Heap.get?_push_of_some _ ho
 have hn:(s.heap.push (seqObj "list" #[] 0)).get? s.heap.objs.size=some (seqObj "list" #[] 0):=Heap.get?_push_size _ rfl
 unfold collect
 refine wpAny_bind (wpAny_runValue (codeAny_builtin entry_proto_collect' (wpAny_bind (wpAny_newList (wpAny_pure ⟨Code.quiet_builtin _ (by decide +kernel),codeAny_builtin entry_list_iadd' ?_⟩)))))
 show wpAny (model prog w) _ (Builtin.List.listExtendWith (.ref s.heap.objs.size) (.ref l) (.ref s.heap.objs.size)) _ _ { s with heap:=s.heap.push (seqObj "list" #[] 0) }
 unfold Builtin.List.listExtendWith
 refine wpAny_bind (wpAny_typeOf (T:="tuple") ⟨o,ho1,hc⟩ ?_)
 have ht:(Value.type "tuple" == Value.type "tuple")=true:=rfl
 rw[if_pos (by rw[ht];simp)]
 refine wpAny_bind (listItems_at ho1 hd (wpAny_bind (listItems_at (xs:=#[]) (n:=0) hn rfl ?_)))
 rw[if_neg (by simp)]
 refine wpAny_bind (listUpdate_at (xs:=#[]) (n:=0) hn rfl (wpAny_pure ?_) (Nat.zero_le _) (by show((#[]:Array Value)++vs.toArray).size≤sizeLine+1;rw[Array.size_append,List.size_toArray];simp;omega))
 refine wpAny_bind (wpAny_load (get?_update_seq hn _) ?_)
 have e:((#[]:Array Value)++vs.toArray).toList=vs:=by simp
 show wpAny (model prog w) A (pure ((#[]:Array Value)++vs.toArray).toList) Q E _
 rw[e]
 exact wpAny_pure q
noncomputable def a8g (K:PySem.W.Frag):List V->Hp->VK->Prop:=λxs H Q=>∃(a:Addr) (ns:List Int),xs=[.ref a]∧SqT K H a (ns.map V.int)∧ns.length<64 ∧
 ∀(p:Addr) (ns':List Int),H p=none->ns'.Perm ns->ns'.Pairwise (· ≤ ·)->Q (.ref p) (upd H p (.lst (ns'.map V.int)))
theorem a3a (hK:X.K=K):C2 X (.builtin "sorted") (a8g K):=by
 subst hK
 intro pins s σ H xs us Q I r h
 obtain⟨a,ns,rfl,hq,h64,q⟩:=h
 obtain⟨u,rfl,ru⟩:=U0 r
 cases ru
 obtain⟨its,rv,p,hz⟩:=I.tuple hq
 have hi:=R9 rv
 have hlen:its.length=ns.length:=by rw[←rv.length,List.length_map]
 refine Calls.call_function_entry kind_sorted plain_sorted entry_sorted (args_sorted1 _) (by
  unfold Builtin.«sorted»
  refine wpAny_bind (m:=checkCount "sorted" 1 1 _) (wpAny_pure (wpAny_bind (a8H p (wpAny_bind (wpAny_newList ?_)) (by rw[hlen,←List.length_map (f:=V.int)];exact hz))))
  have z1:((s.heap.push (seqObj "list" #[] 0)).update s.heap.objs.size (Obj.mapSeq (· ++ its.toArray))).objs.size=s.heap.objs.size+1:=by rw[Heap.size_update,size_push']
  have z2:(((s.heap.push (seqObj "list" #[] 0)).update s.heap.objs.size (Obj.mapSeq (· ++ its.toArray))).push (seqObj "list" its.toArray 0)).get? (s.heap.objs.size+1)=some (seqObj "list" its.toArray 0):=by rw[←z1];exact Heap.get?_push_size _ rfl
  show wpAny _ _ _ _ _ { s with heap:=((s.heap.push (seqObj "list" #[] 0)).update s.heap.objs.size (Obj.mapSeq (· ++ its.toArray))).push (seqObj "list" its.toArray 0) }
  rw[z1]
  refine wpAny_bind (wpAny_holding (wpAny_call_entry slot_list_sort ⟨_,z2,rfl⟩ entry_list_sort (list_sort_tree z2 hi (by omega) λout ns' a1 a2 a3=>⟨_,rfl,wpAny_pure ⟨_,rfl,?_⟩⟩) (args_list_sort _)))
  obtain⟨e,he⟩:=sortedAll_at s.heap its out
  have I1:Inv X pins σ (upd H (s.heap.objs.size+1) (.lst (ns'.map V.int))) { s with heap:=sortedAll s.heap its out,toks:=s.toks } :=
   I.laid (a:=s.heap.objs.size+1) (λb o ho=>sortedAll_old ho) (Nat.le_succ _) ⟨by rw[List.length_map,a2.length_eq,←List.length_map (f:=V.int)];exact hz,out.toList,e,W1 a1,by rw[he]⟩
  exact⟨.ref (s.heap.objs.size+1),_,I1,rfl,q _ ns' (I.hok.fresh (Nat.le_succ _)) a2 a3⟩)
end
end L2
namespace L3
open PySem PySem.Spec PyProof.Rows L2
section
variable [Feeds]{K:PySem.W.Frag}{X:Cx}
noncomputable def a3K:List PyData->Option PyData
 | [.tuple ds]=>(G9 ds).bind λns=>if ns.length<64 then some (.list ((a1L ns).map .int)) else none
 | ds=>T4 ds
theorem a4G (hK:X.K=K):C2 X (.builtin "sorted") (rDN K a3K):=by
 intro pins s σ H xs us Q I r h
 obtain⟨fp,B,ds,z,bk,h1,hf,q⟩:=h
 unfold a3K at hf
 split at hf
 ·obtain⟨ns,e,hf⟩:=Option.bind_eq_some_iff.mp hf
  split at hf
  case isFalse=>cases hf
  rename_i h64
  cases hf
  cases J7 e
  obtain⟨v,rfl,a,xs,rfl,ha,hd⟩:=a1g h1 rfl
  cases a2c hd
  refine a3a hK pins s σ H _ us Q I r ⟨a,ns,rfl,ha.same d6,h64,λp ns' hp pm pw=>?_⟩
  cases R0 (pm.trans (L1 ns).symm) pw (V0 ns)
  exact q _ _ (i5.upd hp) (A5 bk hp (a0X _))
 ·exact a0z hK pins s σ H xs us Q I r ⟨fp,B,ds,z,bk,h1,hf,q⟩
end
end L3
namespace L3
open PySem PySem.Spec PyProof.Rows L2
variable [Fam]
noncomputable def wp {α σ:Type}(m:Option (α × σ))(Q:α->σ->Prop):Prop:=∃a F',m=some (a,F')∧Q a F'
section
variable {α β γ σ τ:Type}{Q:α->σ->Prop}
theorem c9 {a:α}{F:σ}:wp (some (a,F)) Q↔Q a F:=⟨λ⟨_,_,e,q⟩=>by cases e;exact q,λq=>⟨_,_,rfl,q⟩⟩
theorem y3:wp (none:Option (α × σ)) Q↔False:=⟨λ⟨_,_,e,_⟩=>(by cases e),False.elim⟩
theorem b9 {x:Option (β × τ)}{f:β × τ->Option (α × σ)}:wp (x.bind f) Q↔wp x λa F'=>wp (f (a,F')) Q:=by
 constructor
 ·rintro ⟨a,F',e,q⟩
  obtain⟨⟨b,F1⟩,e1,e2⟩:=Option.bind_eq_some_iff.mp e
  exact⟨b,F1,e1,a,F',e2,q⟩
 ·rintro ⟨b,F1,e1,a,F',e2,q⟩
  exact⟨a,F',by rw[e1];exact e2,q⟩
theorem u6 {o:Option γ}{f:γ->Option (α × σ)}:wp (o.bind f) Q↔∃z,o=some z∧wp (f z) Q:=by
 constructor
 ·rintro ⟨a,F',e,q⟩
  obtain⟨z,e1,e2⟩:=Option.bind_eq_some_iff.mp e
  exact⟨z,e1,a,F',e2,q⟩
 ·rintro ⟨z,e1,a,F',e2,q⟩
  exact⟨a,F',by rw[e1];exact e2,q⟩
theorem a2i {c:Prop}[Decidable c]{a b:Option (α × σ)}:wp (if c then a else b) Q↔if c then wp a Q else wp b Q:=by
 split <;> rfl
theorem j8 {m:Option (α × σ)}{Q':α->σ->Prop}(h:wp m Q)(hq:∀a F,Q a F->Q' a F):wp m Q':=by
 obtain⟨a,F,e,q⟩:=h
 exact⟨a,F,e,hq a F q⟩
theorem v6 {m:Option (α × σ)}{Q':α->σ->Prop}(h:∀a F,Q a F↔Q' a F):wp m Q↔wp m Q':=⟨λz=>j8 z λa F q=>(h a F).mp q,λz=>j8 z λa F q=>(h a F).mpr q⟩
theorem a5U {z:γ}{P:γ->Prop}:(∃y,some z=some y∧P y)↔P z:=⟨λ⟨_,e,p⟩=>by cases e;exact p,λp=>⟨_,rfl,p⟩⟩
theorem C7 {m:Int}{F:FdS}{Q:PyData->FdS->Prop}(h0:0<m)(h1:m<1073741824)(h2:F.t<199999)(q:∀r F',0≤r->r<m->F'.t=F.t+1->Q (.int r) F'):wp (drawS [.feed,.dat (.int m)] F) Q:=by
 obtain⟨r,F',e,r0,r1,ht⟩:=Fam.draw_some h0 h1 h2
 exact⟨.int r,F',by show(Fam.drawF m F).bind _=_;rw[e];rfl,q r F' r0 r1 ht⟩
end
noncomputable def gD (o:Option (Option DV))(P:PyData->Prop):Prop:=match o with
 | some (some (.dat d))=>P d
 | _=>False
noncomputable def gW (o:Option (Option DV))(P:PyData->Prop):Prop:=match o with
 | some (some (.dat d))=>P d
 | some (some (.own ds))=>P (.list ds)
 | _=>False
noncomputable def gF (o:Option (Option DV))(P:Prop):Prop:=match o with
 | some (some .feed)=>P
 | _=>False
noncomputable def oB {γ:Type}(o:Option γ)(P:γ->Prop):Prop:=∃z,o=some z∧P z
noncomputable def cIf (c:Bool)(A B:Prop):Prop:=if c=true then A else B
theorem a5V {A B:Prop}:cIf true A B↔A:=by simp[cIf]
theorem a5y {A B:Prop}:cIf false A B↔B:=by simp[cIf]
theorem T3 {c:Bool}{A B:Prop}(h1:c=true->A)(h2:c=false->B):cIf c A B:=by
 cases c
 ·exact a5y.mpr (h2 rfl)
 ·exact a5V.mpr (h1 rfl)
section
variable {E:DE}{F:FdS}
theorem n5 {d:PyData}{Q:PyData->FdS->Prop}:wp (sC d E F) Q↔Q d F:=c9
theorem j5 {i:Nat}{Q:PyData->FdS->Prop}:wp (sV i E F) Q↔gD E[i]? λd=>Q d F:=by
 unfold sV gD;generalize E[i]? = o
 rcases o with _ | _ | x
 ·exact y3
 ·exact y3
 ·cases x <;> first | exact c9 | exact y3
theorem f8 {i:Nat}{Q:PyData->FdS->Prop}:wp (sW i E F) Q↔gW E[i]? λd=>Q d F:=by
 unfold sW gW;generalize E[i]? = o
 rcases o with _ | _ | x
 ·exact y3
 ·exact y3
 ·cases x <;> first | exact c9 | exact y3
theorem b0l {f:PyData->Option PyData}{a:DE->M PyData}{Q:PyData->FdS->Prop}:wp (s1 f a E F) Q↔wp (a E F) λx F1=>oB (f x) λz=>Q z F1:=by
 unfold s1;rw[b9];simp only[u6,c9,oB]
theorem m5 {f:PyData->PyData->Option PyData}{a b:DE->M PyData}{Q:PyData->FdS->Prop}:wp (s2 f a b E F) Q↔wp (a E F) λx F1=>wp (b E F1) λy F2=>oB (f x y) λz=>Q z F2:=by
 unfold s2;rw[b9];refine v6 λx F1=>?_;rw[b9];refine v6 λy F2=>?_;simp only[u6,c9,oB]
theorem A8 {f:List PyData->Option PyData}{a:DE->M (List PyData)}{Q:PyData->FdS->Prop}:wp (sN f a E F) Q↔wp (a E F) λx F1=>oB (f x) λz=>Q z F1:=by
 unfold sN;rw[b9];simp only[u6,c9,oB]
theorem d8 {Q:List PyData->FdS->Prop}:wp (d7 E F) Q↔Q [] F:=c9
theorem b8 {a:DE->M PyData}{r:DE->M (List PyData)}{Q:List PyData->FdS->Prop}:wp (a9 a r E F) Q↔wp (a E F) λx F1=>wp (r E F1) λxs F2=>Q (x::xs) F2:=by
 unfold a9;rw[b9];simp only[b9,c9]
theorem A3 {a:DE->M (List PyData)}{Q:PyData->FdS->Prop}:wp (x9 a E F) Q↔wp (a E F) λxs F1=>xs.length≤sizeLine∧Q (.tuple xs) F1:=by
 unfold x9;rw[b9]
 constructor
 ·exact λh=>j8 h λxs F1 h=>by
   split at h
   ·rename_i hl;exact⟨hl,c9.mp h⟩
   ·exact(y3.mp h).elim
 ·exact λh=>j8 h λxs F1 h=>by rw[if_pos h.1];exact c9.mpr h.2
theorem a3y {a:DE->M (List PyData)}{Q:PyData->FdS->Prop}:wp (a46 a E F) Q↔wp (a E F) λxs F1=>xs.length≤sizeLine∧Q (.list xs) F1:=by
 unfold a46;rw[b9]
 constructor
 ·exact λh=>j8 h λxs F1 h=>by
   split at h
   ·rename_i hl;exact⟨hl,c9.mp h⟩
   ·exact(y3.mp h).elim
 ·exact λh=>j8 h λxs F1 h=>by rw[if_pos h.1];exact c9.mpr h.2
theorem m8 {Q:List DV->FdS->Prop}:wp (n6 E F) Q↔Q [] F:=c9
theorem p7 {a:DE->M PyData}{r:DE->M (List DV)}{Q:List DV->FdS->Prop}:wp (vD a r E F) Q↔wp (a E F) λx F1=>wp (r E F1) λxs F2=>Q (.dat x::xs) F2:=by
 unfold vD;rw[b9];simp only[b9,c9]
theorem a36 {i:Nat}{r:DE->M (List DV)}{Q:List DV->FdS->Prop}:wp (vF i r E F) Q↔gF E[i]? (wp (r E F) λxs F2=>Q (.feed::xs) F2):=by
 unfold vF gF;generalize E[i]? = o
 rcases o with _ | _ | x
 ·exact y3
 ·exact y3
 ·cases x with
  | feed=>exact b9.trans (v6 λ_ _=>c9)
  | _=>exact y3
theorem l3 {f:List DV->M PyData}{ms:DE->M (List DV)}{Q:PyData->FdS->Prop}:wp (i8 f ms E F) Q↔wp (ms E F) λxs F1=>wp (f xs F1) Q:=by
 unfold i8;rw[b9]
theorem a3E {a:DE->M PyData}{l u:DE->M (Option Int)}{Q:PyData->FdS->Prop}:wp (a1G a l u E F) Q↔wp (a E F) λx F1=>wp (l E F1) λlo F2=>wp (u E F2) λhi F3=>oB (a6H lo hi x) λz=>Q z F3:=by
 unfold a1G;rw[b9];refine v6 λx F1=>?_;rw[b9];refine v6 λy F2=>?_;rw[b9];refine v6 λy F2=>?_;simp only[u6,c9,oB]
theorem a3N {Q:Option Int->FdS->Prop}:wp (oNo E F) Q↔Q none F:=c9
theorem a8Q {a:DE->M PyData}{Q:Option Int->FdS->Prop}:wp (oI a E F) Q↔wp (a E F) λx F1=>oB (a06 x) λi=>Q (some i) F1:=by
 unfold oI;rw[b9];simp only[u6,c9,oB]
theorem a4x {a b:DE->M PyData}{Q:PyData->FdS->Prop}:wp (a6M a b E F) Q↔wp (a E F) λx F1=>oB (L4 x) λc=>cIf c (wp (b E F1) Q) (Q (.bool false) F1):=by
 unfold a6M;rw[b9];simp only[u6,a2i,c9,oB,cIf]
theorem b18 {a b:DE->M PyData}{Q:PyData->FdS->Prop}:wp (sOr a b E F) Q↔wp (a E F) λx F1=>oB (L4 x) λc=>cIf c (Q (.bool true) F1) (wp (b E F1) Q):=by
 unfold sOr;rw[b9];simp only[u6,a2i,c9,oB,cIf]
theorem a1a {c:DE->M Bool}{a b:DE->M PyData}{Q:PyData->FdS->Prop}:wp (sIf c a b E F) Q↔wp (c E F) λx F1=>cIf x (wp (a E F1) Q) (wp (b E F1) Q):=by
 unfold sIf;rw[b9];simp only[a2i,cIf]
theorem K6 {a:DE->M PyData}{Q:Bool->FdS->Prop}:wp (uB a E F) Q↔wp (a E F) λx F1=>oB (L4 x) λc=>Q c F1:=by
 unfold uB;rw[b9];simp only[u6,c9,oB]
theorem a4z {a:DE->M PyData}{Q:Bool->FdS->Prop}:wp (uT a E F) Q↔wp (a E F) λx F1=>oB (b06 x) λc=>Q c F1:=by
 unfold uT;rw[b9];simp only[u6,c9,oB]
theorem a6q {a b:DE->M Bool}{Q:Bool->FdS->Prop}:wp (uOr a b E F) Q↔wp (a E F) λx F1=>cIf x (Q true F1) (wp (b E F1) Q):=by
 unfold uOr;rw[b9];simp only[a2i,c9,cIf]
theorem a2g {a:DE->M Bool}{Q:Bool->FdS->Prop}:wp (a4u a E F) Q↔wp (a E F) λx F1=>Q (!x) F1:=by
 unfold a4u;rw[b9];simp only[c9]
theorem a0H {Q:Bool->FdS->Prop}:wp (E9 E F) Q↔Q true F:=c9
theorem M1 {Q:Out->FdS->Prop}:wp (mNx E F) Q↔Q (.nx E) F:=c9
noncomputable def sqK (b:DE->M Out)(Q:Out->FdS->Prop)(o:Out)(F1:FdS):Prop:=match o with
  | .nx E1=>wp (b E1 F1) Q
  | o=>Q o F1
theorem f9 {b:DE->M Out}{Q:Out->FdS->Prop}{E1:DE}(h:wp (b E1 F) Q):sqK b Q (.nx E1) F:=h
theorem a7q {b:DE->M Out}{Q:Out->FdS->Prop}{d:PyData}(h:Q (.rt d) F):sqK b Q (.rt d) F:=h
theorem h7 {a b:DE->M Out}{Q:Out->FdS->Prop}:wp (mSq a b E F) Q↔wp (a E F) (sqK b Q):=by
 unfold mSq;rw[b9]
 refine v6 λo F1=>?_
 cases o with
 | nx E1=>exact Iff.rfl
 | rt d=>exact c9
 | bk d=>exact c9
 | ct d=>exact c9
theorem D6 {a:DE->M PyData}{Q:Out->FdS->Prop}:wp (mRt a E F) Q↔wp (a E F) λx F1=>Q (.rt x) F1:=by
 unfold mRt;rw[b9];simp only[c9]
theorem w4 {i:Nat}{a:DE->M PyData}{Q:Out->FdS->Prop}:wp (v5 i a E F) Q↔wp (a E F) λx F1=>i<E.length∧Q (.nx (E.set i (some (.dat x)))) F1:=by
 unfold v5;rw[b9]
 refine v6 λx F1=>?_
 unfold bN
 by_cases h:i<E.length
 ·rw[if_pos h];simp only[u6,c9,a5U,h,true_and]
 ·rw[if_neg h];simp only[u6,h,false_and]
  exact⟨λ⟨_,e,_⟩=>(by cases e),False.elim⟩
theorem L5 {bd:PyData->DE->Option DE}{a:DE->M PyData}{Q:Out->FdS->Prop}:wp (M4 bd a E F) Q↔wp (a E F) λx F1=>oB (bd x E) λE1=>Q (.nx E1) F1:=by
 unfold M4;rw[b9]
 simp only[u6,c9,oB]
theorem G5 {c:DE->M Bool}{a b:DE->M Out}{Q:Out->FdS->Prop}:wp (mIf c a b E F) Q↔wp (c E F) λx F1=>cIf x (wp (a E F1) Q) (wp (b E F1) Q):=by
 unfold mIf;rw[b9];simp only[a2i,cIf]
theorem S9 {i:Nat}{a:DE->M (List PyData)}{Q:Out->FdS->Prop}:wp (T5 i a E F) Q↔wp (a E F) λx F1=>i<E.length∧Q (.nx (E.set i (some (.own x)))) F1:=by
 unfold T5;rw[b9]
 refine v6 λx F1=>?_
 by_cases h:i<E.length
 ·rw[if_pos h];simp only[c9,h,true_and]
 ·rw[if_neg h];simp only[h,false_and]
  exact y3
theorem a4U {i:Nat}{v k:DE->M PyData}{ds:List PyData}{Q:Out->FdS->Prop}(h:E[i]? = some (some (.own ds))):wp (a5u i v k E F) Q↔wp (v E F) λx F1=>wp (k E F1) λy F2=>oB (a06 y) λn=>oB (ixN ds.length n) λj=>Q (.nx (E.set i (some (.own (ds.set j x))))) F2:=by
 unfold a5u;rw[b9]
 have e:O8 E i=some ds:=by unfold O8;rw[h]
 refine v6 λx F1=>?_;rw[b9];refine v6 λy F2=>?_
 simp only[u6,c9,e,a5U,oB]
theorem O3 {mi:DE->M (List PyData)}{bd:PyData->DE->Option DE}{body:DE->M Out}{Q:Out->FdS->Prop}:wp (M8 mi bd body E F) Q↔wp (mi E F) λds F1=>wp (U1 bd body ds E F1) Q:=by
 unfold M8;rw[b9]
theorem a1p {a:DE->M (List PyData)}{Q:List PyData->FdS->Prop}:wp (X8 a E F) Q↔wp (a E F) λx F1=>oB (U6 x) λds=>Q ds F1:=by
 unfold X8;rw[b9];simp only[u6,c9,oB]
theorem B7 {a:DE->M PyData}{Q:List PyData->FdS->Prop}:wp (D4 a E F) Q↔wp (a E F) λx F1=>oB (a2u x) λds=>Q ds F1:=by
 unfold D4;rw[b9];simp only[u6,c9,oB]
theorem K3 {a:DE->M (List PyData)}{Q:List PyData->FdS->Prop}:wp (J8 a E F) Q↔wp (a E F) λx F1=>x.length≤sizeLine∧Q x F1:=by
 unfold J8;rw[b9]
 constructor
 ·exact λh=>j8 h λxs F1 h=>by
   split at h
   ·rename_i hl;exact⟨hl,c9.mp h⟩
   ·exact(y3.mp h).elim
 ·exact λh=>j8 h λxs F1 h=>by rw[if_pos h.1];exact c9.mpr h.2
theorem P9 {mi:DE->M (List PyData)}{k:Nat}{cap:List Nat}{bd:PyData->DE->Option DE}{mt:DE->M Bool}{me:DE->M PyData}{Q:PyData->FdS->Prop}:wp (sLC mi k cap bd mt me E F) Q↔wp (mi E F) λds F1=>ds.length≤sizeLine∧wp (Q0 bd mt me ds (a26 k cap E) F1) λzs F2=>Q (.list zs) F2:=by
 unfold sLC;rw[b9]
 constructor
 ·refine λh=>j8 h λds F1 h=>?_
  dsimp only at h
  split at h
  ·rename_i hl;rw[b9]at h;exact⟨hl,j8 h λzs F2 h=>c9.mp h⟩
  ·exact(y3.mp h).elim
 ·refine λh=>j8 h λds F1 h=>?_
  dsimp only
  rw[if_pos h.1,b9]
  exact j8 h.2 λzs F2 h=>c9.mpr h
noncomputable def a6F (Q:PyData->FdS->Prop)(o:Out)(F1:FdS):Prop:=match o with
  | .rt d=>Q d F1
  | .nx _=>Q .none F1
  | _=>False
theorem D1 {Q:PyData->FdS->Prop}{d:PyData}(h:Q d F):a6F Q (.rt d) F:=h
theorem b2s {Q:PyData->FdS->Prop}{d:DE}(h:Q .none F):a6F Q (.nx d) F:=h
theorem G4 {N:List Str}{m:DE->M Out}{args:List DV}{Q:PyData->FdS->Prop}:wp (z6 N m args F) Q↔wp (m (p9 N args) F) (a6F Q):=by
 unfold z6;rw[b9]
 refine v6 λo F1=>?_
 cases o with
 | nx E1=>exact c9
 | rt d=>exact c9
 | bk d=>exact y3
 | ct d=>exact y3
theorem j4 {o:Option (Option DV)}{d:PyData}{P:PyData->Prop}(h:o=some (some (.dat d)))(q:P d):gD o P:=by rw[h];exact q
theorem i4 {o:Option (Option DV)}{d:PyData}{P:PyData->Prop}(h:o=some (some (.dat d)))(q:P d):gW o P:=by rw[h];exact q
theorem P5 {o:Option (Option DV)}{ds:List PyData}{P:PyData->Prop}(h:o=some (some (.own ds)))(q:P (.list ds)):gW o P:=by rw[h];exact q
theorem a2Z {o:Option (Option DV)}{P:Prop}(h:o=some (some .feed))(q:P):gF o P:=by rw[h];exact q
theorem c6 {γ:Type}{o:Option γ}{z:γ}{P:γ->Prop}(h:o=some z)(q:P z):oB o P:=⟨z,h,q⟩
theorem C3 {c:Bool}{A B:Prop}(h:c=true)(q:A):cIf c A B:=by rw[h];exact a5V.mpr q
theorem l4 {c:Bool}{A B:Prop}(h:c=false)(q:B):cIf c A B:=by rw[h];exact a5y.mpr q
theorem r8 {n:Nat}(h:Nat.ble n 10000=true):n≤sizeLine:=Nat.le_trans (Nat.le_of_ble_eq_true h) (by rw[sizeLine_eq];decide)
theorem l0 {i n:Nat}(h:Nat.ble (i+1) n=true):i<n:=Nat.le_of_ble_eq_true h
end
noncomputable def Tr (f:List DV->M PyData)(args:List DV)(c:Int)(P:PyData->Prop):Prop:=∀F:FdS,F.t+c≤199999->∃d F',f args F=some (d,F')∧F'.t≤F.t+c∧P d
theorem Tr.wp {f:List DV->M PyData}{args:List DV}{c:Int}{P:PyData->Prop}{F:FdS}{Q:PyData->FdS->Prop}(h:Tr f args c P)(hF:F.t+c≤199999)(q:∀d F',F'.t≤F.t+c->P d->Q d F'):wp (f args F) Q:=by
 obtain⟨d,F',e,ht,p⟩:=h F hF
 exact⟨d,F',e,q d F' ht p⟩
theorem Tr.of {f:List DV->M PyData}{args:List DV}{c:Int}{P:PyData->Prop}(h:∀F:FdS,F.t+c≤199999->L3.wp (f args F) λd F'=>F'.t≤F.t+c∧P d):Tr f args c P:=λF hF=>by
 obtain⟨d,F',e,q⟩:=h F hF
 exact⟨d,F',e,q⟩
mutual
noncomputable def cnt:PyData->Nat
 | .tuple ds=>1+a1i ds
 | .list ds=>1+a1i ds
 | _=>1
noncomputable def a1i:List PyData->Nat
 | []=>0
 | d::ds=>cnt d+a1i ds
end
noncomputable def asc (x:Str):Prop:=∀c∈x.cps.toList,c<128
mutual
noncomputable def scs (n:Nat):PyData->Prop
 | .none=>True
 | .bool _=>True
 | .int i=>i.natAbs<10 ^ 300+n
 | .str x=>x.length≤600+n∧asc x
 | .tuple ds=>a6V n ds
 | .list ds=>a6V n ds
 | .dict _=>False
noncomputable def a6V (n:Nat):List PyData->Prop
 | []=>True
 | d::ds=>scs n d∧a6V n ds
end
theorem P3 {n:Nat}:∀{ds:List PyData},a6V n ds↔∀d∈ds,scs n d
 | []=>by simp[a6V]
 | d::ds=>by simp[a6V,P3 (ds:=ds)]
structure Gd (n N k:Nat) (d:PyData):Prop where
 sc:scs n d
 dp:d.depth≤k
 ct:cnt d≤N
theorem Gd.mono {n N k n' N' k':Nat}{d:PyData}(h:Gd n N k d)(h1:n=n'∨n≤n')(h2:N≤N')(h3:k≤k'):Gd n' N' k' d:=by
 refine⟨?_,Nat.le_trans h.dp h3,Nat.le_trans h.ct h2⟩
 have hn:n≤n':=by rcases h1 with h | h <;> omega
 have key:∀m:Nat,∀d:PyData,sizeOf d<m->scs n d->scs n' d:=by
  intro m
  induction m with
  | zero=>intro d h;exact absurd h (Nat.not_lt_zero _)
  | succ m ih =>
   intro d hm hs
   cases d with
   | none=>trivial
   | bool b=>trivial
   | int i=>simp only[scs]at hs ⊢;omega
   | str x=>simp only[scs]at hs ⊢;exact⟨by omega,hs.2⟩
   | tuple ds =>
    simp only[scs]at hs ⊢
    rw[P3]at hs ⊢
    exact λd hd=>ih d (by have:=List.sizeOf_lt_of_mem hd;simp at hm;omega) (hs d hd)
   | list ds =>
    simp only[scs]at hs ⊢
    rw[P3]at hs ⊢
    exact λd hd=>ih d (by have:=List.sizeOf_lt_of_mem hd;simp at hm;omega) (hs d hd)
   | dict kvs=>simp only[scs]at hs
 exact key _ d (Nat.lt_succ_self _) h.sc
theorem a1e {k:Nat}:∀{ds:List PyData},PyData.depthAll ds≤k↔∀d∈ds,d.depth≤k
 | []=>by simp[PyData.depthAll]
 | d::ds=>by
  have:=a1e (k:=k) (ds:=ds)
  simp only[PyData.depthAll,List.mem_cons,forall_eq_or_imp]
  rw[←this];omega
theorem Gd.tup {n N k M:Nat}{ds:List PyData}(h:∀d∈ds,Gd n M k d)(hc:1+a1i ds≤N):Gd n N (k+1) (.tuple ds):=by
 refine⟨?_,?_,?_⟩
 ·simp only[scs];rw[P3];exact λd hd=>(h d hd).sc
 ·simp only[PyData.depth]
  have:PyData.depthAll ds≤k:=a1e.mpr λd hd=>(h d hd).dp
  omega
 ·simp only[cnt];exact hc
theorem Gd.lst {n N k M:Nat}{ds:List PyData}(h:∀d∈ds,Gd n M k d)(hc:1+a1i ds≤N):Gd n N (k+1) (.list ds):=by
 obtain⟨a,b,c⟩:=Gd.tup h hc
 exact⟨a,b,c⟩
end L3
namespace L3
open PySem PySem.Spec PyProof.Rows L2
variable [Fam]
structure Nod (d:PyData):Prop where
 sh:d.showable=true
 nd:d.hasDict=false
 cl:d.canLay0=true
 ln:d.shown.length+2≤7100*cnt d
theorem a9z:(10:Nat) ^ 300≤2 ^ 1000:=by
 have h:((10:Nat) ^ 3) ^ 100≤(2 ^ 10) ^ 100:=Nat.pow_le_pow_left (by decide) 100
 rwa [←Nat.pow_mul,←Nat.pow_mul]at h
theorem b28 {n:Nat}(hn:n≤100):10 ^ 300+n≤2 ^ 1001:=by
 have h0:=a9z
 have h1:(2:Nat) ^ 1001=2 ^ 1000+2 ^ 1000:=by rw[Nat.pow_succ,Nat.mul_two]
 have h2:(2:Nat) ^ 7≤2 ^ 1000:=Nat.pow_le_pow_right (by decide) (by decide)
 have h3:(2:Nat) ^ 7=128:=by decide
 rw[h1]
 generalize (10:Nat) ^ 300=A at *
 generalize (2:Nat) ^ 1000=B at *
 omega
theorem b3y {ds:List PyData}:(∀d∈ds,Nod d)->PyData.showableAll ds=true∧PyData.hasDictAll ds=false∧PyData.canLayAll0 ds=true∧((PyData.shownAll ds).map (·.length)).sum+2*ds.length≤7100*a1i ds:=by
 induction ds with
 | nil=>intro _;exact⟨by simp[PyData.showableAll],by simp[PyData.hasDictAll],by simp[PyData.canLayAll0],by simp[PyData.shownAll,a1i]⟩
 | cons d ds ih =>
  intro h
  obtain⟨a,b,c,e⟩:=ih λx hx=>h x (List.mem_cons_of_mem _ hx)
  have hd:=h d List.mem_cons_self
  refine⟨by simp[PyData.showableAll,hd.sh,a],by simp[PyData.hasDictAll,hd.nd,b],by simp[PyData.canLayAll0,hd.cl,c],?_⟩
  simp only[PyData.shownAll,List.map_cons,List.sum_cons,List.length_cons,a1i]
  have:=hd.ln
  omega
theorem b27 {n:Nat}(hn:n≤100):∀m:Nat,∀d:PyData,sizeOf d<m->scs n d->Nod d:=by
 intro m
 induction m with
 | zero=>intro d h;exact absurd h (Nat.not_lt_zero _)
 | succ m ih =>
  intro d hm hs
  cases d with
  | none=>exact⟨rfl,rfl,rfl,by decide⟩
  | bool b=>exact⟨rfl,rfl,rfl,by cases b <;> decide⟩
  | int i =>
   simp only[scs]at hs
   have hb:i.natAbs<2 ^ 1001:=Nat.lt_of_lt_of_le hs (b28 hn)
   have:=Shw.int hb (by decide) (by decide)
   exact⟨this.sh,this.nd,rfl,by have:=this.ln;simp only[cnt];omega⟩
  | str x =>
   simp only[scs]at hs
   refine⟨rfl,rfl,?_,?_⟩
   ·simp only[PyData.canLay0,PyData.strOk]
    rw[Array.all_eq_true']
    intro c hc
    have:=hs.2 c (by simpa using hc)
    exact decide_eq_true (by omega)
   ·have h1:=PySem.StrLaws.reprText_len x λc hc=>Nat.lt_of_lt_of_le (hs.2 c hc) (by decide)
    simp only[PyData.shown,cnt]
    omega
  | tuple ds =>
   simp only[scs]at hs
   rw[P3]at hs
   obtain⟨a,b,c,e⟩:=b3y λd hd=>ih d (by have:=List.sizeOf_lt_of_mem hd;simp at hm;omega) (hs d hd)
   refine⟨by simpa only[PyData.showable] using a,by simpa only[PyData.hasDict] using b,by simpa only[PyData.canLay0] using c,?_⟩
   have h5:=tupleText_len_le (PyData.shownAll ds)
   have h6:=PyData.shownAll_length ds
   simp only[PyData.shown,cnt]
   omega
  | list ds =>
   simp only[scs]at hs
   rw[P3]at hs
   obtain⟨a,b,c,e⟩:=b3y λd hd=>ih d (by have:=List.sizeOf_lt_of_mem hd;simp at hm;omega) (hs d hd)
   refine⟨by simpa only[PyData.showable] using a,by simpa only[PyData.hasDict] using b,by simpa only[PyData.canLay0] using c,?_⟩
   have h5:=listText_len_le (PyData.shownAll ds)
   have h6:=PyData.shownAll_length ds
   simp only[PyData.shown,cnt]
   omega
  | dict kvs=>simp only[scs]at hs
section
variable {n N k:Nat}{d:PyData}
theorem Gd.nod (h:Gd n N k d)(hn:n≤100):Nod d:=b27 hn _ d (Nat.lt_succ_self _) h.sc
theorem Gd.shaped (h:Gd n N k d)(hn:n≤100)(hk:k≤50):PySem.SeqAt.shaped d=true:=by
 unfold PySem.SeqAt.shaped
 rw[(h.nod hn).cl]
 have h3:=h.dp
 simp
 omega
theorem b08:Gd n 1 0 .none:=⟨trivial,by simp[PyData.depth],by simp[cnt]⟩
theorem b1W {i:Int}(h:i.natAbs<10 ^ 300+n):Gd n 1 0 (.int i):=⟨h,by simp[PyData.depth],by simp[cnt]⟩
end
theorem a6R {i:Int}{n:Nat}(h:i.natAbs≤100000000000000000000000000000000000000000):i.natAbs<10 ^ 300+n:=by
 have h1:(10:Nat) ^ 42≤10 ^ 300:=Nat.pow_le_pow_right (by decide) (by decide)
 have h2:100000000000000000000000000000000000000000<(10:Nat) ^ 42:=by decide
 generalize (10:Nat) ^ 300=A at *
 omega
end L3
namespace L3
open PySem PySem.Spec PyProof.Rows L2
variable [Fam]
section
variable {ds es:List PyData}{i j:Int}{x y:Str}{b c:Bool}{d:PyData}{T:String}
theorem a1D:B5 (.int i) (.int j)=some (.int (i+j)):=rfl
theorem a3o:a1T (.int i) (.int j)=some (.int (i-j)):=rfl
theorem a62:gtD (.int i) (.int j)=some (.bool (decide (j<i))):=rfl
theorem b2M:geD (.int i) (.int j)=some (.bool (decide (j≤i))):=rfl
theorem a7S:ltD (.int i) (.int j)=some (.bool (decide (i<j))):=rfl
theorem b10:leD (.int i) (.int j)=some (.bool (decide (i≤j))):=rfl
theorem C8:z7 [.tuple ds]=some (.int ds.length):=rfl
theorem a2j:z7 [.list ds]=some (.int ds.length):=rfl
theorem a20:r9 [.list ds]=some (.tuple ds):=rfl
theorem b2z:a06 (.int i)=some i:=rfl
theorem b2m {lo hi:Option Int}:a6H lo hi (.tuple ds)=some (.tuple (T7 ds lo hi)):=rfl
theorem a4s {lo hi:Option Int}:a6H lo hi (.list ds)=some (.list (T7 ds lo hi)):=rfl
theorem R4:a2u (.tuple ds)=some ds:=rfl
theorem K4:a2u (.list ds)=some ds:=rfl
end
end L3
local macro_rules | `(tactic| walk_at "st")=>`(tactic| first | (with_reducible first | refine L3.f9 ?_ | refine L3.a7q ?_ | refine L3.D1 ?_ | refine L3.h7.mpr ?_ | refine L3.G5.mpr ?_ | refine L3.w4.mpr ?_ | refine L3.D6.mpr ?_ | refine L3.M1.mpr ?_ | refine r_uAnd.mpr ?_ | refine L3.a6q.mpr ?_ | refine L3.a2g.mpr ?_ | refine L3.K6.mpr ?_ | refine L3.a4z.mpr ?_ | refine L3.a0H.mpr ?_ | refine L3.m5.mpr ?_ | refine L3.b0l.mpr ?_ | refine L3.A8.mpr ?_ | refine L3.n5.mpr ?_ | refine L3.j5.mpr ?_ | refine L3.f8.mpr ?_ | refine L3.d8.mpr ?_ | refine L3.b8.mpr ?_ | refine L3.A3.mpr ?_ | refine L3.a3y.mpr ?_ | refine L3.m8.mpr ?_ | refine L3.p7.mpr ?_ | refine L3.a36.mpr ?_ | refine L3.l3.mpr ?_ | refine L3.a3E.mpr ?_ | refine L3.a3N.mpr ?_ | refine L3.a8Q.mpr ?_ | refine L3.a4x.mpr ?_ | refine L3.b18.mpr ?_ | refine r_sNot.mpr ?_ | refine L3.a1a.mpr ?_ | refine L3.L5.mpr ?_ | refine L3.S9.mpr ?_ | refine L3.O3.mpr ?_ | refine L3.a1p.mpr ?_ | refine L3.B7.mpr ?_ | refine L3.K3.mpr ?_ | refine r_fCat.mpr ?_ | refine L3.P9.mpr ?_) | ((with_reducible refine L3.G4.mpr ?_);try dsimp only[L3.p9,List.map_cons,List.map_nil,List.length_cons,List.length_nil,List.replicate,List.cons_append,List.nil_append,Nat.reduceAdd,Nat.reduceSub]) | ((with_reducible apply L3.j4);exact rfl) | ((with_reducible apply L3.i4);exact rfl) | ((with_reducible apply L3.P5);exact rfl) | ((with_reducible apply L3.a2Z);exact rfl) | ((with_reducible apply L3.c6);first | exact e_isin | exact rfl) | ((with_reducible refine And.intro (L3.r8 ?_) ?_);exact rfl) | ((with_reducible refine And.intro (L3.l0 ?_) ?_);exact rfl;try dsimp only[List.set_cons_zero,List.set_cons_succ]))
local macro_rules | `(tactic| walk_at "rd")=>`(tactic| (repeat walk_at "st"))
local macro_rules | `(tactic| walk_at "ty")=>`(tactic| first | refine L3.l4 t_NoneType_tuple ?_ | refine L3.l4 t_NoneType_bool ?_ | refine L3.l4 t_NoneType_int ?_ | refine L3.l4 t_NoneType_str ?_ | refine L3.l4 t_NoneType_list ?_ | refine L3.l4 t_bool_tuple ?_ | refine L3.C3 t_bool_bool ?_ | refine L3.C3 t_bool_int ?_ | refine L3.l4 t_bool_str ?_ | refine L3.l4 t_bool_list ?_ | refine L3.l4 t_int_tuple ?_ | refine L3.l4 t_int_bool ?_ | refine L3.C3 t_int_int ?_ | refine L3.l4 t_int_str ?_ | refine L3.l4 t_int_list ?_ | refine L3.l4 t_str_tuple ?_ | refine L3.l4 t_str_bool ?_ | refine L3.l4 t_str_int ?_ | refine L3.C3 t_str_str ?_ | refine L3.l4 t_str_list ?_ | refine L3.l4 t_list_tuple ?_ | refine L3.l4 t_list_bool ?_ | refine L3.l4 t_list_int ?_ | refine L3.l4 t_list_str ?_ | refine L3.C3 t_list_list ?_ | refine L3.C3 t_tuple_tuple ?_ | refine L3.l4 t_tuple_bool ?_ | refine L3.l4 t_tuple_int ?_ | refine L3.l4 t_tuple_str ?_ | refine L3.l4 t_tuple_list ?_)
local macro_rules | `(tactic| walk_at "go")=>`(tactic| (repeat first | walk_at "st" | walk_at "ty"))
namespace L3
open PySem PySem.Spec PyProof.Rows L2
variable [Fam]
section
variable {s N k:Nat}
end
variable [Fam]
theorem sz {n:Nat}(h:n≤100000):n≤sizeLine:=Nat.le_trans h (by rw[sizeLine_eq];decide)
theorem b2g {n:Nat}{i:Int}(h:0≤i):HT.sIx n 0 (some i)=min i.toNat n:=by
 obtain⟨j,rfl⟩:∃j:Nat,i=j:=⟨i.toNat,by omega⟩
 exact HT.sIx_nat _ _ j
theorem b1R {n:Nat}{i:Int}(h:0≤i):HT.sIx n n (some i)=min i.toNat n:=by
 obtain⟨j,rfl⟩:∃j:Nat,i=j:=⟨i.toNat,by omega⟩
 exact HT.sIx_nat _ _ j
theorem b2v {α:Type}{xs:List α}{i:Int}(h:0≤i):T7 xs none (some i)=xs.take i.toNat:=by
 unfold T7
 rw[b1R h,HT.sIx_none,List.drop_zero,Nat.sub_zero]
 by_cases hl:i.toNat≤xs.length
 ·rw[Nat.min_eq_left hl]
 ·rw[Nat.min_eq_right (by omega),List.take_of_length_le (Nat.le_refl _),List.take_of_length_le (by omega)]
theorem a8l {α:Type}{xs:List α}{i:Int}(h:0≤i):T7 xs (some i) none=xs.drop i.toNat:=by
 unfold T7
 rw[b2g h]
 have e:HT.sIx xs.length xs.length none=xs.length:=HT.sIx_none ..
 rw[e]
 by_cases hl:i.toNat≤xs.length
 ·rw[Nat.min_eq_left hl,List.take_of_length_le (by rw[List.length_drop];omega)]
 ·rw[Nat.min_eq_right (by omega),List.drop_of_length_le (Nat.le_refl _),List.drop_of_length_le (by omega),List.take_nil]
theorem b0B {xs ys:List PyData}(h:xs.length+ys.length≤100000):B5 (.list xs) (.list ys)=some (.list (xs++ys)):=if_pos (sz h)
variable [Fam]
variable [Fam]
theorem G0 {bd:PyData->DE->Option DE}{body:DE->M Out}{Q:Out->FdS->Prop}(I:Nat->DE->FdS->Prop):∀(items:List PyData) (n:Nat) (E:DE) (F:FdS),I n E F ->
  (∀i d,items[i]? = some d->∀E F,I (n+i) E F->∃E1,bd d E=some E1∧wp (body E1 F) λo F'=>∃E2,o = .nx E2∧I (n+i+1) E2 F')->(∀E F,I (n+items.length) E F->Q (.nx E) F)->wp (U1 bd body items E F) Q
 | [],n,E,F,h,_,hq=>c9.mpr (hq E F h)
 | d::r,n,E,F,h,st,hq=>by
  obtain⟨E1,e1,h1⟩:=st 0 d rfl E F h
  rw[U1,e1,Option.bind_some,b9]
  refine j8 h1 λo F1 ⟨E2,e2,h2⟩=>?_
  subst e2
  refine G0 I r (n+1) E2 F1 h2 (λi d e E F hI=>?_) (λE F hI=>hq E F (by rw[List.length_cons];rw[show n+(r.length+1)=n+1+r.length by omega];exact hI))
  have:=st (i+1) d (by simpa using e) E F (by rw[show n+(i+1)=n+1+i by omega];exact hI)
  rw[show n+(i+1)+1=n+1+i+1 by omega]at this
  exact this
theorem a4e {bd:PyData->DE->Option DE}{body:DE->M Out}{Q:Out->FdS->Prop}(I:Nat->DE->FdS->Prop)(items:List PyData)(n:Nat)(E:DE)(F:FdS)(h:I n E F)
  (st:∀(R:Out->FdS->Prop) i d,items[i]? = some d->∀E F,I (n+i) E F->(∀E2 F',I (n+i+1) E2 F'->R (.nx E2) F')->∃E1,bd d E=some E1∧wp (body E1 F) R) (hq:∀E F,I (n+items.length) E F->Q (.nx E) F):wp (U1 bd body items E F) Q :=
 G0 I items n E F h (λi d e E F hI=>st (λo F'=>∃E2,o = .nx E2∧I (n+i+1) E2 F') i d e E F hI λE2 F' h=>⟨E2,rfl,h⟩) hq
theorem W4 {lo:Int}{n:Nat}:(T6 lo n).length=n:=by simp[T6]
variable [Fam]
section
variable {F:FdS}{Q:PyData->FdS->Prop}{n:Nat}
theorem b1z {xs ys:List PyData}(h:xs.length+ys.length≤100000):B5 (.list xs) (.list ys)=some (.list (xs++ys)):=if_pos (sz h)
theorem b3E {xs ys:List PyData}(h:xs.length+ys.length≤100000):B5 (.tuple xs) (.tuple ys)=some (.tuple (xs++ys)):=if_pos (sz h)
noncomputable abbrev W8:List PyData:=[.str "first",.str "last",.str "short",.str "front",.str "lastoff",.str "shortoff",.str "frontoff",.str "turns"]
noncomputable def a1x:List DV->M PyData:=z6 ["rule"] (mRt (s2 (inD false) (sW 0) (sC (.tuple [.str "first",.str "last",.str "short",.str "front"]))))
theorem b0X {f g:PyData->PyData->Option PyData}{a b c:DE->M PyData}{E:DE}{F:FdS}{Q:PyData->FdS->Prop}:wp (sCh f g a b c E F) Q↔wp (a E F) λx F1=>wp (b E F1) λy F2=>oB (f x y) λz=>oB (L4 z) λt=>cIf t (wp (c E F2) λw F3=>oB (g y w) λv=>Q v F3) (Q (.bool false) F2):=by
 unfold sCh;rw[b9];refine v6 λx F1=>?_;rw[b9];refine v6 λy F2=>?_
 simp only[u6,oB]
 refine exists_congr λz=>and_congr_right λ_=>exists_congr λt=>and_congr_right λ_=>?_
 cases t
 ·simp only[Bool.false_eq_true,if_false,a5y];exact c9
 ·simp only[if_true,a5V];rw[b9];refine v6 λw F3=>?_;simp only[u6,c9]
noncomputable def kb:PyData->Bool
 | .str x=>(([.str "first",.str "last",.str "short",.str "front"]:List PyData)).any λy=>PyData.eqv y (.str x)
 | _=>false
theorem in4 {x:Str}(h:SeqAt.shaped (.str x)=true):inD false (.str x) (.tuple [.str "first",.str "last",.str "short",.str "front"])=some (.bool (kb (.str x))):=by
 show(if SeqAt.shaped (.tuple [.str "first",.str "last",.str "short",.str "front"])=true∧SeqAt.shaped (.str x)=true then _ else none)=_
 rw[if_pos ⟨by decide +kernel,h⟩,if_neg (by decide)]
 rfl
theorem P2 {r:PyData}(h:r∈W8):∃x:Str,r = .str x∧SeqAt.shaped (.str x)=true:=by
 simp only[List.mem_cons,List.not_mem_nil,or_false]at h
 rcases h with rfl | rfl | rfl | rfl | rfl | rfl | rfl | rfl <;> exact⟨_,rfl,by decide +kernel⟩
theorem a5F {r:PyData}(h:r∈W8)(q:Q (.bool (kb r)) F):wp (a1x [.dat r] F) Q:=by
 obtain⟨x,rfl,hx⟩:=P2 h
 unfold a1x
 walk_at "go"
 refine c6 (in4 hx) ?_
 walk_at "go"
 exact q
end
section
variable {F:FdS}{Q:Out->FdS->Prop}{E:DE}{i:Nat}{ds:List PyData}
theorem X6 {v:DE->M PyData}(he:O8 E i=some ds)(hl:ds.length≤100000)(q:wp (v E F) λx F1=>Q (.nx (E.set i (some (.own (ds++[x]))))) F1):wp (M3 i v E F) Q:=by
 unfold M3;rw[b9]
 refine j8 q λx F1 h=>?_
 rw[he,Option.bind_some,if_pos (Nat.lt_of_le_of_lt hl (by rw[sizeLine_eq];decide))]
 exact c9.mpr h
theorem b0D {v:DE->M PyData}(he:O8 E i=some ds)(q:wp (v E F) λx F1=>∃zs,x = .list zs∧ds.length+zs.length≤100000∧Q (.nx (E.set i (some (.own (ds++zs))))) F1):wp (a3S i v E F) Q:=by
 unfold a3S;rw[b9]
 refine j8 q λx F1 h=>?_
 obtain⟨zs,rfl,hl,q⟩:=h
 rw[he,Option.bind_some]
 dsimp only
 rw[if_pos (sz hl)]
 exact c9.mpr q
theorem a1B {a:DE->M PyData}{Q:List PyData->FdS->Prop}(q:wp (a E F) λx F1=>oB (a2u x) λds=>Q (B8 0 ds) F1):wp (M5 a E F) Q:=by
 unfold M5;rw[b9]
 refine j8 q λx F1 h=>?_
 obtain⟨ds,e,q⟩:=h
 dsimp only
 rw[e,Option.bind_some]
 exact c9.mpr q
theorem b2W {mi:DE->M (List PyData)}{k:Nat}{cap:List Nat}{bd:PyData->DE->Option DE}{mt:DE->M Bool}{me:DE->M PyData}{Q:List PyData->FdS->Prop}(h:wp (mi E F) λds F1=>ds.length≤sizeLine∧wp (Q0 bd mt me ds (a26 k cap E) F1) λzs F2=>Q zs F2):wp (fLC mi k cap bd mt me E F) Q:=by
 unfold fLC;rw[b9]
 refine j8 h λds F1 h=>?_
 dsimp only
 rw[if_pos h.1,b9]
 exact j8 h.2 λzs F2 h=>c9.mpr h
end
variable [Fam]
theorem Q3 {c:Nat}:∀{ds:List PyData},(∀d∈ds,cnt d≤c)->a1i ds≤c*ds.length
 | [],_=>by simp[a1i]
 | d::ds,h=>by
  have h1:=h d List.mem_cons_self
  have h2:=Q3 (c:=c) (ds:=ds) λd hd=>h d (List.mem_cons_of_mem _ hd)
  rw[a1i,List.length_cons,Nat.mul_add,Nat.mul_one]
  omega
variable [Fam]
theorem a9j {c:DE->M Bool}{b:DE->M Out}{Q:Out->FdS->Prop}(I:DE->FdS->Prop)(μ:DE->Nat)
  (st:∀E F,I E F->wp (c E F) λt F1=>cIf t (wp (b E F1) λo F2=>∃E2,o = .nx E2∧I E2 F2 ∧ μ E2 < μ E) (Q (.nx E) F1)):∀(n:Nat) (E:DE) (F:FdS),I E F->μ E<n->wp (a09 c b n E F) Q
 | 0,E,F,_,h=>absurd h (Nat.not_lt_zero _)
 | n+1,E,F,hI,h=>by
  rw[a09,b9]
  refine j8 (st E F hI) λt F1 h1=>?_
  cases t with
  | false=>rw[a5y]at h1;rw[if_neg (by simp)];exact c9.mpr h1
  | true =>
   rw[a5V]at h1
   rw[if_pos rfl,b9]
   refine j8 h1 λo F2 ⟨E2,e,hI2,hm⟩=>?_
   subst e
   exact a9j I μ st n E2 F2 hI2 (by omega)
theorem b41 {c:DE->M Bool}{b:DE->M Out}{Q:Out->FdS->Prop}(I:DE->FdS->Prop)(μ:DE->Nat){E:DE}{F:FdS}(h0:I E F)
  (st:∀E F,I E F->wp (c E F) λt F1=>cIf t (wp (b E F1) λo F2=>∃E2,o = .nx E2∧I E2 F2 ∧ μ E2 < μ E) (Q (.nx E) F1)):wp (mWh c b E F) Q:=by
 obtain⟨o,F',e,q⟩:=a9j I μ st (μ E+1) E F h0 (Nat.lt_succ_self _)
 exact⟨o,F',b1b e,q⟩
variable [Fam]
variable [Fam]
variable [Fam]
section
variable {B:Int}
end
section
variable {F:FdS}{E:DE}
end
theorem b19 {n:Nat}{i:Int}(h0:0≤i)(h1:i<n):ixN n i=some i.toNat:=by
 unfold ixN;rw[if_pos h0,if_pos h1]
variable [Fam]
theorem a5m {i:Int}(h0:-(2 ^ 62)≤i)(h1:i<2 ^ 62):U6 [.int i]=some (T6 0 i.toNat):=if_pos ⟨h0,h1⟩
theorem a28 {n:Nat}(h:n≤100000):U6 [.int (n:Nat)]=some (T6 0 n):=by
 have e:=a5m (i:=(n:Int)) (by omega) (by omega)
 rwa [Int.toNat_natCast]at e
end L3
namespace L3
open L2
noncomputable abbrev Pn:=Int×Int×Bool
noncomputable def pAt (ps:List Pn)(i:Nat):Pn:=ps.getD i (0,0,false)
noncomputable def N9 (k:Nat)(ps:List Pn):List Nat :=
 if k=1 then(List.range ps.length).reverse
 else if k=2 then(u9 ((List.range ps.length).map λi=>((pAt ps i).2.1,i))).map Prod.snd
 else if k=3 then(u9 ((List.range ps.length).map λi=>((pAt ps i).1,i))).map Prod.snd
 else List.range ps.length
noncomputable def bI (b:Bool):Int:=if b then 1 else 0
noncomputable def order (k:Nat)(kp:Bool)(ps:List Pn):List Nat :=
 if kp then(u9 ((N9 k ps).map λi=>(bI (!(pAt ps i).2.2),i))).map Prod.snd else N9 k ps
noncomputable def N7 (k:Nat)(ps:List Pn)(i j:Nat):Prop :=
 if k=1 then j<i else if k=2 then(pAt ps i).2.1<(pAt ps j).2.1∨((pAt ps i).2.1=(pAt ps j).2.1∧i<j)
 else if k=3 then(pAt ps i).1<(pAt ps j).1∨((pAt ps i).1=(pAt ps j).1∧i<j) else i<j
noncomputable def Z1 (k:Nat)(kp:Bool)(ps:List Pn)(i j:Nat):Prop :=
 if kp then(bI (!(pAt ps i).2.2)<bI (!(pAt ps j).2.2)∨(bI (!(pAt ps i).2.2)=bI (!(pAt ps j).2.2)∧N7 k ps i j)) else N7 k ps i j
theorem a7R {T:Nat->Nat->Prop}{p:Int×Nat}(tr:∀a b c,T a b->T b c->T a c):∀{l:List (Int×Nat)},l.Pairwise (λa b=>a.1<b.1∨(a.1=b.1∧T a.2 b.2))->(∀q∈l,T p.2 q.2)->(R5 p l).Pairwise λa b=>a.1<b.1∨(a.1=b.1∧T a.2 b.2)
 | [],_,_=>by simp[R5]
 | q::r,h,hl=>by
  rw[List.pairwise_cons]at h
  rw[R5]
  split
  ·rename_i hle
   refine List.pairwise_cons.mpr ⟨λz hz=>?_,List.pairwise_cons.mpr h⟩
   have hz':=hl z hz
   have hle':p.1≤z.1:=by
    rcases List.mem_cons.mp hz with rfl | hz
    ·exact hle
    ·rcases h.1 z hz with e | e <;> omega
   rcases Int.lt_or_eq_of_le hle' with e | e
   ·exact .inl e
   ·exact .inr ⟨e,hz'⟩
  ·rename_i hgt
   refine List.pairwise_cons.mpr ⟨λz hz=>?_,a7R tr h.2 λz hz=>hl z (List.mem_cons_of_mem _ hz)⟩
   rcases List.mem_cons.mp ((O7 p r).mem_iff.mp hz) with rfl | hz
   ·exact .inl (by omega)
   ·exact h.1 z hz
theorem a3H {T:Nat->Nat->Prop}(tr:∀a b c,T a b->T b c->T a c):∀{l:List (Int×Nat)},l.Pairwise (λa b=>T a.2 b.2)->(u9 l).Pairwise λa b=>a.1<b.1∨(a.1=b.1∧T a.2 b.2)
 | [],_=>.nil
 | p::r,h=>by
  rw[List.pairwise_cons]at h
  exact a7R tr (a3H tr h.2) λq hq=>h.1 q ((x6 r).mem_iff.mp hq)
theorem a1E {T:Nat->Nat->Prop}(tr:∀a b c,T a b->T b c->T a c)(g:Nat->Int){l:List Nat}(h:l.Pairwise T):((u9 (l.map λi=>(g i,i))).map Prod.snd).Pairwise λi j=>g i<g j∨(g i=g j∧T i j):=by
 have h1:(l.map λi=>(g i,i)).Pairwise (λa b=>T a.2 b.2):=by
  rw[List.pairwise_map];exact h
 have h2:=a3H tr h1
 rw[List.pairwise_map]
 refine h2.imp_of_mem λ{a b} ha hb hab=>?_
 have ea:a.1=g a.2:=by
  obtain⟨i,_,rfl⟩:=List.mem_map.mp ((x6 _).mem_iff.mp ha);rfl
 have eb:b.1=g b.2:=by
  obtain⟨i,_,rfl⟩:=List.mem_map.mp ((x6 _).mem_iff.mp hb);rfl
 rw[←ea,←eb];exact hab
theorem U4 (g:Nat->Int)(l:List Nat):((u9 (l.map λi=>(g i,i))).map Prod.snd).Perm l:=by
 have:=(x6 (l.map λi=>(g i,i))).map Prod.snd
 rw[List.map_map]at this
 exact this.trans (.of_eq ((List.map_congr_left λi _=>rfl).trans (List.map_id _)))
theorem C6 (n:Nat):(List.range n).Pairwise (· < ·):=by
 rw[List.pairwise_iff_getElem]
 intro i j hi hj hij
 simpa using hij
theorem N1 (k:Nat)(ps:List Pn):(N9 k ps).Perm (List.range ps.length):=by
 unfold N9
 repeat' split
 ·exact List.reverse_perm _
 ·exact U4 (λi=>(pAt ps i).2.1) _
 ·exact U4 (λi=>(pAt ps i).1) _
 ·exact .refl _
theorem L8 (k:Nat)(kp:Bool)(ps:List Pn):(order k kp ps).Perm (List.range ps.length):=by
 unfold order
 split
 ·exact(U4 (λi=>bI (!(pAt ps i).2.2)) _).trans (N1 k ps)
 ·exact N1 k ps
theorem a0c (k:Nat)(ps:List Pn):(N9 k ps).Pairwise (N7 k ps):=by
 unfold N9 N7
 repeat' split
 ·rw[List.pairwise_reverse];exact C6 _
 ·exact a1E (T:=λa b=>a<b) (λa b c h1 h2=>Nat.lt_trans h1 h2) (λi=>(pAt ps i).2.1) (C6 _)
 ·exact a1E (T:=λa b=>a<b) (λa b c h1 h2=>Nat.lt_trans h1 h2) (λi=>(pAt ps i).1) (C6 _)
 ·exact C6 _
theorem a3B {k:Nat}{ps:List Pn}(a b c:Nat)(h1:N7 k ps a b)(h2:N7 k ps b c):N7 k ps a c:=by
 unfold N7 at *
 repeat' split
 all_goals simp_all
 all_goals omega
theorem a1d {k:Nat}{ps:List Pn}(a b:Nat)(h1:N7 k ps a b)(h2:N7 k ps b a):False:=by
 unfold N7 at *
 split at h1
 ·simp_all;omega
 ·split at h1
  ·simp_all;omega
  ·split at h1
   ·simp_all;omega
   ·simp_all;omega
theorem a3g (k:Nat)(kp:Bool)(ps:List Pn):(order k kp ps).Pairwise (Z1 k kp ps):=by
 unfold order Z1
 cases kp with
 | true =>
  simp only[if_true]
  exact a1E a3B (λi=>bI (!(pAt ps i).2.2)) (a0c k ps)
 | false=>simpa using a0c k ps
theorem a3h {k:Nat}{kp:Bool}{ps:List Pn}(a b:Nat)(h1:Z1 k kp ps a b)(h2:Z1 k kp ps b a):False:=by
 unfold Z1 at *
 cases kp with
 | true =>
  simp only[if_true]at h1 h2
  rcases h1 with h1 | ⟨e1,h1⟩ <;> rcases h2 with h2 | ⟨e2,h2⟩ <;> first | omega | exact a1d a b h1 h2
 | false =>
  simp only[Bool.false_eq_true,if_false]at h1 h2
  exact a1d a b h1 h2
noncomputable def t7 (h k:Nat)(kp:Bool)(ps:List Pn):List Nat:=(List.range ps.length).filter λi=>decide (i∈(order k kp ps).take h)
theorem B4 (n:Nat):(List.range n).Nodup:=by
 rw[List.nodup_iff_pairwise_ne]
 exact(C6 n).imp λh=>Nat.ne_of_lt h
theorem a4m (k:Nat)(kp:Bool)(ps:List Pn):(order k kp ps).Nodup:=(L8 k kp ps).nodup_iff.mpr (B4 _)
theorem Y4 {l m:List Nat}(h1:l.Nodup)(h2:m.Nodup)(h:∀x,x∈l↔x∈m):l.Perm m:=(List.perm_ext_iff_of_nodup h1 h2).mpr h
theorem a22 (h k:Nat)(kp:Bool)(ps:List Pn):(t7 h k kp ps).Perm ((order k kp ps).take h):=by
 refine Y4 ((B4 _).sublist List.filter_sublist) ((a4m k kp ps).sublist (List.take_sublist _ _)) λx=>?_
 unfold t7
 rw[List.mem_filter,decide_eq_true_eq]
 exact⟨λz=>z.2,λz=>⟨(L8 k kp ps).mem_iff.mp (List.mem_of_mem_take z),z⟩⟩
theorem a0e (h k:Nat)(kp:Bool)(ps:List Pn):(t7 h k kp ps).length=min h ps.length:=by
 rw[(a22 h k kp ps).length_eq,List.length_take,(L8 k kp ps).length_eq,List.length_range]
theorem a9d (h k:Nat)(kp:Bool)(ps:List Pn):(t7 h k kp ps).Pairwise (· < ·):=(C6 _).sublist List.filter_sublist
theorem a2X (h k:Nat)(kp:Bool)(ps:List Pn):a1L (((order k kp ps).take h).map Int.ofNat)=(t7 h k kp ps).map Int.ofNat:=by
 refine R0 ((L1 _).trans ((a22 h k kp ps).map Int.ofNat).symm) (V0 _) ?_
 rw[List.pairwise_map]
 exact(a9d h k kp ps).imp λ{a b} h=>by simp only[Int.ofNat_eq_natCast];omega
end L3
namespace L3
open PySem PySem.Spec PyProof.Rows L2
noncomputable abbrev pnD (p:Pn):PyData:=.tuple [.int p.1,.int p.2.1,.bool p.2.2]
noncomputable def j2 (l:List Nat):List PyData:=l.map λi:Nat=>PyData.int (i:Int)
noncomputable def kOf:PyData->Nat
 | .str x=>if x = "last" ∨ x = "lastoff" then 1 else if x = "short" ∨ x = "shortoff" then 2 else if x = "front" ∨ x = "frontoff" then 3 else 0
 | _=>0
theorem v8 (l:List Nat):(j2 l).length=l.length:=by simp[j2]
theorem a7r (l:List Nat):(j2 l).reverse=j2 l.reverse:=by simp[j2]
theorem a03 (n:Nat):T6 0 n=j2 (List.range n):=by
 unfold T6 j2
 exact List.map_congr_left λi _=>by congr 1;omega
theorem a2z:∀(l:List Int),(l.map PyData.int).mapM b1T? = some l
 | []=>rfl
 | i::l=>by rw[List.map_cons,List.mapM_cons,a2z l];rfl
theorem a1N:∀(l:List Bool),(l.map PyData.bool).mapM a7Z? = some (l.map bI)
 | []=>rfl
 | i::l=>by rw[List.map_cons,List.mapM_cons,a1N l];rfl
theorem a4B (l:List Int):a1c (l.map .int)=some l:=by unfold a1c;rw[a2z]
theorem a3R (l:List Bool):a1c (l.map .bool)=some (l.map bI):=by
 unfold a1c
 cases l with
 | nil=>rfl
 | cons b l=>exact a1N (b::l)
theorem S8 {α β γ:Type}(f:α->β)(g:α->γ):∀l:List α,(l.map f).zip (l.map g)=l.map λx=>(f x,g x)
 | []=>rfl
 | x::l=>by rw[List.map_cons,List.map_cons,List.zip_cons_cons,S8 f g l];rfl
theorem a2f (g:Nat->Int)(l:List Nat):((u9 ((l.map g).zip (j2 l))).map Prod.snd)=j2 ((u9 (l.map λi=>(g i,i))).map Prod.snd):=by
 have e:(l.map g).zip (j2 l)=(l.map λi=>(g i,i)).map λq=>(q.1,(λi:Nat=>PyData.int (i:Int)) q.2):=by
  rw[List.map_map];exact S8 g _ l
 rw[e,a00 (λi:Nat=>PyData.int (i:Int)),List.map_map]
 unfold j2
 rw[List.map_map]
 rfl
section
variable [Fam]
theorem b09 {r:PyData}(h:r∈W8):inD false r (.tuple [.str "last",.str "lastoff"])=some (.bool (decide (kOf r=1))):=by
 obtain⟨x,rfl,hx⟩:=P2 h
 show(if SeqAt.shaped (.tuple [.str "last",.str "lastoff"])=true∧SeqAt.shaped (.str x)=true then _ else none)=_
 rw[if_pos ⟨by decide +kernel,hx⟩,if_neg (by decide)]
 simp only[List.mem_cons,List.not_mem_nil,or_false,PyData.str.injEq]at h
 rcases h with rfl | rfl | rfl | rfl | rfl | rfl | rfl | rfl <;> exact congrArg (λb=>some (PyData.bool b)) (by decide +kernel)
theorem a7s {r:PyData}(h:r∈W8):inD false r (.tuple [.str "short",.str "shortoff"])=some (.bool (decide (kOf r=2))):=by
 obtain⟨x,rfl,hx⟩:=P2 h
 show(if SeqAt.shaped (.tuple [.str "short",.str "shortoff"])=true∧SeqAt.shaped (.str x)=true then _ else none)=_
 rw[if_pos ⟨by decide +kernel,hx⟩,if_neg (by decide)]
 simp only[List.mem_cons,List.not_mem_nil,or_false,PyData.str.injEq]at h
 rcases h with rfl | rfl | rfl | rfl | rfl | rfl | rfl | rfl <;> exact congrArg (λb=>some (PyData.bool b)) (by decide +kernel)
theorem a9e {r:PyData}(h:r∈W8):inD false r (.tuple [.str "front",.str "frontoff"])=some (.bool (decide (kOf r=3))):=by
 obtain⟨x,rfl,hx⟩:=P2 h
 show(if SeqAt.shaped (.tuple [.str "front",.str "frontoff"])=true∧SeqAt.shaped (.str x)=true then _ else none)=_
 rw[if_pos ⟨by decide +kernel,hx⟩,if_neg (by decide)]
 simp only[List.mem_cons,List.not_mem_nil,or_false,PyData.str.injEq]at h
 rcases h with rfl | rfl | rfl | rfl | rfl | rfl | rfl | rfl <;> exact congrArg (λb=>some (PyData.bool b)) (by decide +kernel)
end
theorem b14 {ps:List Pn}{i:Nat}(h:i<ps.length):atI (ps.map pnD) (i:Int)=some (pnD (pAt ps i)):=by
 refine a1y ?_
 rw[List.getElem?_map,List.getElem?_eq_getElem h]
 unfold pAt
 rw[List.getD_eq_getElem?_getD,List.getElem?_eq_getElem h]
 rfl
section
variable [Fam]
noncomputable def c_lined_up:List DV->M PyData:=z6 ["rule","stand","places"] (mSq (v5 2 (a0W (a9 (sN z7 (a9 (sW 1) d7)) d7)))
  (mSq (mIf (uB (s2 (inD false) (sW 0) (sC (.tuple [.str "last",.str "lastoff"])))) (mRt (s1 a6K (sW 2))) mNx)
  (mSq (mIf (uB (s2 (inD false) (sW 0) (sC (.tuple [.str "short",.str "shortoff"])))) (mRt (sSK (a9 (sV 2) d7) [1] (s2 ixD (s2 ixD (sW 1) (sW 0)) (sC (.int 1))))) mNx)
  (mSq (mIf (uB (s2 (inD false) (sW 0) (sC (.tuple [.str "front",.str "frontoff"])))) (mRt (sSK (a9 (sV 2) d7) [1] (s2 ixD (s2 ixD (sW 1) (sW 0)) (sC (.int 0))))) mNx)
  (mRt (sV 2))))))
noncomputable def c_picked:List DV->M PyData:=z6 ["house","stand","hands","places","rule","order"] (mSq (M4 (t9 3 (d4 (bN 2) (d4 (bN 3) (d4 (bN 4) u8)))) (sV 0))
  (mSq (v5 5 (i8 c_lined_up (vD (sV 4) (vD (sV 1) n6))))
  (mSq (mIf (uT (i8 a1x (vD (sV 4) n6))) (v5 5 (sSK (a9 (sV 5) d7) [1] (a8d (s2 ixD (s2 ixD (sW 1) (sW 0)) (sC (.int 2)))))) mNx)
  (mRt (sN r9 (a9 (sN T4 (a9 (a1G (sW 5) oNo (oI (sV 2))) d7)) d7))))))
theorem a0J {me:DE->M PyData}{E0:DE}{g:Nat->PyData}:∀(l:List Nat) (F:FdS),(∀i∈l,me (some (.dat (.int (i:Int)))::E0) F=some (g i,F))->a12 me E0 (j2 l) F=some (l.map g,F)
 | [],F,_=>rfl
 | d::ds,F,h=>by
  show(me (some (.dat (.int (d:Int)))::E0) F).bind _=_
  rw[h d List.mem_cons_self,Option.bind_some]
  show(a12 me E0 (j2 ds) F).bind _=_
  rw[a0J ds F λx hx=>h x (List.mem_cons_of_mem _ hx)]
  rfl
variable {F:FdS}{Q:PyData->FdS->Prop}
theorem b2Q {ma:DE->M (List PyData)}{cap:List Nat}{me:DE->M PyData}{E:DE}(q:wp (ma E F) λxs F1=>∃ds kd ns,xs=[.list ds]∧ds.length<64∧a12 me (cap.map λj=>(E[j]?).join) ds F1=some (kd,F1)∧a1c kd=some ns∧Q (.list ((u9 (ns.zip ds)).map Prod.snd)) F1):wp (sSK ma cap me E F) Q:=by
 unfold sSK
 rw[b9]
 refine j8 q λxs F1 ⟨ds,kd,ns,e,h64,e2,e3,q⟩=>?_
 subst e
 dsimp only
 rw[if_pos h64,e2,Option.bind_some,e3,Option.bind_some]
 exact c9.mpr q
theorem a8Z {ma:DE->M (List PyData)}{cap:List Nat}{me:DE->M PyData}{E:DE}{g:Nat->Int}(q:wp (ma E F) λxs F1=>∃l:List Nat,xs=[.list (j2 l)]∧l.length<64∧(∀i∈l,me (some (.dat (.int (i:Int)))::cap.map λj=>(E[j]?).join) F1=some (.int (g i),F1))∧Q (.list (j2 ((u9 (l.map λi=>(g i,i))).map Prod.snd))) F1):wp (sSK ma cap me E F) Q:=by
 refine b2Q (j8 q λxs F1 ⟨l,e,h1,h2,h3⟩=>⟨j2 l,l.map λi=>.int (g i),l.map g,e,by rw[v8];exact h1,a0J l F1 h2,?_,by rw[a2f];exact h3⟩)
 rw[←a4B (l.map g),List.map_map]
 rfl
theorem b00 {ma:DE->M (List PyData)}{cap:List Nat}{me:DE->M PyData}{E:DE}{g:Nat->Bool}(q:wp (ma E F) λxs F1=>∃l:List Nat,xs=[.list (j2 l)]∧l.length<64∧(∀i∈l,me (some (.dat (.int (i:Int)))::cap.map λj=>(E[j]?).join) F1=some (.bool (g i),F1))∧Q (.list (j2 ((u9 (l.map λi=>(bI (g i),i))).map Prod.snd))) F1):wp (sSK ma cap me E F) Q:=by
 refine b2Q (j8 q λxs F1 ⟨l,e,h1,h2,h3⟩=>⟨j2 l,l.map λi=>.bool (g i),l.map λi=>bI (g i),e,by rw[v8];exact h1,a0J l F1 h2,?_,by rw[a2f λi=>bI (g i)];exact h3⟩)
 have:=a3R (l.map g)
 rw[List.map_map,List.map_map]at this
 exact this
theorem a5E {a:DE->M (List PyData)}{E:DE}(q:wp (a E F) λx F1=>oB (U6 x) λds=>ds.length≤1000∧Q (.list ds) F1):wp (a0W a E F) Q:=by
 unfold a0W
 rw[b9]
 refine j8 q λx F1 ⟨ds,e,h1,q⟩=>?_
 rw[e,Option.bind_some,if_pos h1]
 exact c9.mpr q
theorem a8V {ps:List Pn}{i:Nat}{j:Int}(h:i<ps.length):s2 ixD (s2 ixD (sW 1) (sW 0)) (sC (.int j)) [some (.dat (.int (i:Int))),some (.dat (.tuple (ps.map pnD)))] F=(ixD (pnD (pAt ps i)) (.int j)).bind λz=>some (z,F):=by
 show(((atI (ps.map pnD) (i:Int)).bind λz=>some (z,F)).bind λp=>(ixD p.1 (.int j)).bind λz=>some (z,p.2))=_
 rw[b14 h]
 rfl
theorem b1C {ps:List Pn}{i:Nat}(h:i<ps.length):a8d (s2 ixD (s2 ixD (sW 1) (sW 0)) (sC (.int 2))) [some (.dat (.int (i:Int))),some (.dat (.tuple (ps.map pnD)))] F=some (.bool (!(pAt ps i).2.2),F):=by
 unfold a8d
 rw[a8V h]
 rfl
theorem b0g {r:PyData}{ps:List Pn}(hr:r∈W8)(hl:ps.length<64)(q:Q (.list (j2 (N9 (kOf r) ps))) F):wp (c_lined_up [.dat r,.dat (.tuple (ps.map pnD))] F) Q:=by
 unfold c_lined_up
 walk_at "go"
 refine a5E ?_
 refine b8.mpr (A8.mpr (b8.mpr (f8.mpr (d8.mpr ?_))))
 refine c6 C8 (d8.mpr ?_)
 rw[List.length_map]
 refine c6 (a28 (by omega)) ⟨by rw[W4];omega,?_⟩
 rw[a03]
 have hperm:∀i∈List.range ps.length,i<ps.length:=λi hi=>List.mem_range.mp hi
 walk_at "go"
 refine c6 (b09 hr) ?_
 unfold N9 at q
 refine c6 rfl (T3 (λh=>?_) λh=>?_)
 ·rw[if_pos (of_decide_eq_true h)]at q
  walk_at "go"
  rw[a7r]
  exact q
 rw[if_neg (of_decide_eq_false h)]at q
 walk_at "go"
 refine c6 (a7s hr) ?_
 refine c6 rfl (T3 (λh=>?_) λh=>?_)
 ·rw[if_pos (of_decide_eq_true h)]at q
  walk_at "go"
  refine a8Z (g:=λi=>(pAt ps i).2.1) ?_
  walk_at "go"
  refine⟨_,rfl,by rw[List.length_range];exact hl,λi hi=>?_,?_⟩
  ·exact a8V (hperm i hi)
  ·walk_at "go"
   exact q
 rw[if_neg (of_decide_eq_false h)]at q
 walk_at "go"
 refine c6 (a9e hr) ?_
 refine c6 rfl (T3 (λh=>?_) λh=>?_)
 ·rw[if_pos (of_decide_eq_true h)]at q
  walk_at "go"
  refine a8Z (g:=λi=>(pAt ps i).1) ?_
  walk_at "go"
  refine⟨_,rfl,by rw[List.length_range];exact hl,λi hi=>?_,?_⟩
  ·exact a8V (hperm i hi)
  ·walk_at "go"
   exact q
 rw[if_neg (of_decide_eq_false h)]at q
 walk_at "go"
 exact q
theorem a2l {α:Type}{l:List α}{h:Nat}:T7 l none (some (h:Int))=l.take h:=by
 unfold T7
 simp only[HT.sIx_none,HT.sIx_nat,List.drop_zero,Nat.sub_zero]
 by_cases hh:h≤l.length
 ·rw[Nat.min_eq_left hh]
 ·rw[Nat.min_eq_right (by omega),List.take_of_length_le (by omega),List.take_of_length_le (by omega)]
theorem a75 (l:List Nat)(n:Nat):(j2 l).take n=j2 (l.take n):=by unfold j2;rw[List.map_take]
theorem a2d:∀l:List Nat,G9 (j2 l)=some (l.map Int.ofNat)
 | []=>rfl
 | i::l=>by
  show G9 (.int (i:Int)::j2 l)=_
  rw[G9,a2d l]
  rfl
theorem a9h {r pl:PyData}{ps:List Pn}{h:Nat}(hr:r∈W8)(hl:ps.length<64)(q:Q (.tuple (j2 (t7 h (kOf r) (kb r) ps))) F):wp (c_picked [.dat (.tuple [.int h,pl,r]),.dat (.tuple (ps.map pnD))] F) Q:=by
 unfold c_picked
 walk_at "go"
 refine b0g hr hl ?_
 have hlen:(N9 (kOf r) ps).length=ps.length:=by rw[(N1 (kOf r) ps).length_eq,List.length_range]
 have hperm:∀i∈N9 (kOf r) ps,i<ps.length:=λi hi=>List.mem_range.mp ((N1 (kOf r) ps).mem_iff.mp hi)
 have hol:(order (kOf r) (kb r) ps).length=ps.length:=by rw[(L8 (kOf r) (kb r) ps).length_eq,List.length_range]
 have fin:∀E:DE,E=[some (.dat (.tuple [.int h,pl,r])),some (.dat (.tuple (ps.map pnD))),some (.dat (.int h)),some (.dat pl),some (.dat r),some (.dat (.list (j2 (order (kOf r) (kb r) ps))))]->wp (mRt (sN r9 (a9 (sN T4 (a9 (a1G (sW 5) oNo (oI (sV 2))) d7)) d7)) E F) (a6F Q):=by
  rintro E rfl
  refine D6.mpr (A8.mpr (b8.mpr (A8.mpr (b8.mpr (a3E.mpr (f8.mpr (i4 rfl (a3N.mpr (a8Q.mpr (j5.mpr (j4 rfl (c6 b2z (c6 a4s (d8.mpr ?_))))))))))))))
  rw[a2l,a75]
  have e:T4 [.list (j2 ((order (kOf r) (kb r) ps).take h))]=some (.list (j2 (t7 h (kOf r) (kb r) ps))):=by
   simp only[T4,a2d]
   rw[if_pos (by rw[List.length_map,List.length_take,hol];omega),a2X,List.map_map]
   rfl
  refine c6 e (d8.mpr (c6 a20 ?_))
  exact q
 refine⟨l0 rfl,f9 (h7.mpr (G5.mpr (a4z.mpr (l3.mpr ?_))))⟩
 walk_at "go"
 refine a5F hr ?_
 refine c6 rfl (T3 (λe=>?_) λe=>?_)
 ·refine w4.mpr (b00 (g:=λi=>!(pAt ps i).2.2) ?_)
  walk_at "go"
  refine⟨_,rfl,by rw[hlen];exact hl,λi hi=>?_,l0 rfl,?_⟩
  ·exact b1C (hperm i hi)
  ·refine fin _ ?_
   unfold order
   rw[if_pos e]
   rfl
 ·refine M1.mpr (f9 ?_)
  refine fin _ ?_
  unfold order
  rw[if_neg (by rw[e];simp)]
  rfl
end
variable [Fam]
section
variable {F:FdS}{Q:PyData->FdS->Prop}
theorem a7u {l:List Nat}{i:Nat}{d:PyData}(h:(j2 l)[i]? = some d):∃k,l[i]? = some k∧d = .int (k:Int):=by
 unfold j2 at h
 rw[List.getElem?_map]at h
 obtain⟨k,e,rfl⟩:=Option.map_eq_some_iff.mp h
 exact⟨k,e,rfl⟩
end
variable [Fam]
theorem a5f {i:Int}{n:Nat}(h0:-100000≤i)(h1:i≤100000):Gd n 1 0 (.int i):=b1W (a6R (by omega))
theorem b2p {n N M k:Nat}{a b:PyData}(ha:Gd n N k a)(hb:Gd n M k b):Gd n (1+N+M) (k+1) (.tuple [a,b]):=by
 refine Gd.tup (M:=N+M) (λz hz=>?_) ?_
 ·simp only[List.mem_cons,List.not_mem_nil,or_false]at hz
  rcases hz with rfl | rfl
  ·exact ha.mono (.inl rfl) (by omega) (Nat.le_refl _)
  ·exact hb.mono (.inl rfl) (by omega) (Nat.le_refl _)
 ·have:=ha.ct;have:=hb.ct
  simp only[a1i];omega
theorem a3u {l:List Nat}(h:∀i∈l,i≤1000):Gd 0 (1+l.length) 1 (.tuple (j2 l)):=by
 refine Gd.tup (M:=1) (λx hx=>?_) ?_
 ·obtain⟨p,hp,rfl⟩:=List.mem_map.mp hx
  have:=h p hp
  exact a5f (by omega) (by omega)
 ·have:=Q3 (c:=1) (ds:=j2 l) λd hd=>by
   obtain⟨p,hp,rfl⟩:=List.mem_map.mp hd
   simp[cnt]
  rw[v8]at this
  omega
end L3
namespace L3
open L2
noncomputable def fe (kp:Bool)(p:Pn):Pn:=(p.1,p.2.1-1,kp)
noncomputable def M2 (P:List Nat)(ps:List Pn)(i:Nat):Bool:=decide (i∈P)&&decide ((pAt ps i).2.1≤1)
noncomputable def D2 (P:List Nat)(kp:Bool)(ps:List Pn)(i:Nat):Pn:=if i∈P then fe kp (pAt ps i) else pAt ps i
noncomputable def T1 (P:List Nat)(ps:List Pn):List Nat:=(List.range ps.length).filter λi=>!decide (i∈P)
noncomputable def F0 (P:List Nat)(ps:List Pn):List Nat:=P.filter λi=>!decide ((pAt ps i).2.1≤1)
noncomputable def J5 (P:List Nat)(ps:List Pn):List Nat:=P.filter λi=>decide ((pAt ps i).2.1≤1)
noncomputable def A7 (tn:Bool)(P:List Nat)(ps:List Pn):List Nat:=if tn then T1 P ps++F0 P ps else(List.range ps.length).filter λi=>!M2 P ps i
theorem O0 {α:Type}{R:α->α->Prop}(as:∀a b,R a b->R b a->False):∀{l₁ l₂:List α},l₁.Perm l₂->l₁.Pairwise R->l₂.Pairwise R->l₁=l₂
 | [],l₂,p,_,_=>p.nil_eq
 | a::r,[],p,_,_=>by have:=p.length_eq;simp at this
 | a::r,b::t,p,h1,h2=>by
  rw[List.pairwise_cons]at h1 h2
  have ab:a=b:=by
   rcases List.mem_cons.mp (p.mem_iff.mp (List.mem_cons_self (a:=a) (l:=r))) with e | e
   ·exact e
   ·rcases List.mem_cons.mp (p.mem_iff.mpr (List.mem_cons_self (a:=b) (l:=t))) with e2 | e2
    ·exact e2.symm
    ·exact(as _ _ (h2.1 a e) (h1.1 b e2)).elim
  subst ab
  rw[O0 as (p.cons_inv) h1.2 h2.2]
theorem a4q {α:Type}{p:Int × α}:∀{l:List (Int × α)},l.Pairwise (λa b=>a.1<b.1)->(∀q∈l,p.1≠q.1)->(R5 p l).Pairwise λa b=>a.1<b.1
 | [],_,_=>by simp[R5]
 | q::r,h,hl=>by
  rw[List.pairwise_cons]at h
  rw[R5]
  split
  ·rename_i hle
   have hq:=hl q List.mem_cons_self
   refine List.pairwise_cons.mpr ⟨λz hz=>?_,List.pairwise_cons.mpr h⟩
   rcases List.mem_cons.mp hz with rfl | hz
   ·omega
   ·have:=h.1 z hz;omega
  ·rename_i hgt
   refine List.pairwise_cons.mpr ⟨λz hz=>?_,a4q h.2 λz hz=>hl z (List.mem_cons_of_mem _ hz)⟩
   rcases List.mem_cons.mp ((O7 p r).mem_iff.mp hz) with rfl | hz
   ·omega
   ·exact h.1 z hz
theorem a1Q {α:Type}:∀{l:List (Int × α)},(l.map Prod.fst).Nodup->(u9 l).Pairwise λa b=>a.1<b.1
 | [],_=>.nil
 | p::r,h=>by
  rw[List.map_cons,List.nodup_cons]at h
  exact a4q (a1Q h.2) λq hq e=>h.1 (e▸List.mem_map_of_mem ((x6 r).mem_iff.mp hq))
theorem a70 {α:Type}{l m:List (Int × α)}(hp:m.Perm l)(hs:m.Pairwise λa b=>a.1<b.1):u9 l=m:=by
 have nd:(l.map Prod.fst).Nodup:=by
  refine(hp.map Prod.fst).nodup_iff.mp ?_
  rw[List.nodup_iff_pairwise_ne,List.pairwise_map]
  exact hs.imp λh=>by omega
 exact O0 (R:=λa b:Int × α=>a.1<b.1) (λa b h1 h2=>by omega) ((x6 l).trans hp.symm) (a1Q nd) hs
theorem P4 {h k:Nat}{kp:Bool}{ps:List Pn}:∀i∈t7 h k kp ps,i<ps.length:=λi hi=>List.mem_range.mp (List.mem_filter.mp hi).1
theorem J6 {h k:Nat}{kp:Bool}{ps:List Pn}:(t7 h k kp ps).Nodup:=(B4 _).sublist List.filter_sublist
theorem a0r {P:List Nat}{ps:List Pn}(hs:∀i∈P,i<ps.length)(hn:P.Nodup):(T1 P ps++F0 P ps).Perm (A7 false P ps):=by
 unfold A7
 rw[if_neg (by simp)]
 refine Y4 ?_ ((B4 _).sublist List.filter_sublist) λx=>?_
 ·rw[List.nodup_append]
  refine⟨(B4 _).sublist List.filter_sublist,hn.sublist List.filter_sublist,λa ha b hb e=>?_⟩
  subst e
  have h1:=(List.mem_filter.mp ha).2
  have h2:=(List.mem_filter.mp hb).1
  simp[h2]at h1
 ·unfold T1 F0 M2
  simp only[List.mem_append,List.mem_filter,List.mem_range,Bool.not_eq_true',decide_eq_false_iff_not,Bool.and_eq_false_iff]
  constructor
  ·rintro (⟨h1,h2⟩ | ⟨h1,h2⟩)
   ·exact⟨h1,.inl h2⟩
   ·exact⟨hs x h1,.inr h2⟩
  ·rintro ⟨h1,h2⟩
   by_cases hx:x∈P
   ·exact .inr ⟨hx,h2.resolve_left λz=>z hx⟩
   ·exact .inl ⟨h1,hx⟩
theorem a9Y (P:List Nat)(ps:List Pn):(A7 false P ps).Pairwise (· < ·):=by
 unfold A7
 rw[if_neg (by simp)]
 exact(C6 _).sublist List.filter_sublist
theorem a0o {tn:Bool}{P:List Nat}{ps:List Pn}(hs:∀i∈P,i<ps.length)(hn:P.Nodup):(A7 tn P ps).Perm (A7 false P ps):=by
 cases tn with
 | false=>exact .refl _
 | true =>
  have:=a0r hs hn
  unfold A7 at this ⊢
  simpa using this
noncomputable def after (h k:Nat)(kp tn:Bool)(ps:List Pn):List Pn:=(A7 tn (t7 h k kp ps) ps).map (D2 (t7 h k kp ps) kp ps)
noncomputable def G3 (pl:Option Nat)(n m:Nat):Nat:=match pl with
 | some v=>min m (v-n)
 | none=>m
noncomputable def y4 (pl:Option Nat)(ps:List Pn)(bt:List (Int×Int)):List Pn:=ps++(bt.take (G3 pl ps.length bt.length)).map λc=>(c.1,c.2,false)
theorem a4b (pl:Option Nat)(ps:List Pn)(bt:List (Int×Int)):(y4 pl ps bt).length=ps.length+G3 pl ps.length bt.length:=by
 unfold y4
 rw[List.length_append,List.length_map,List.length_take]
 unfold G3
 split <;> omega
end L3
namespace L3
open L2
theorem a5O (f g:Nat->Int):∀l:List Nat,(l.map λi=>f i-g i).sum=(l.map f).sum-(l.map g).sum
 | []=>rfl
 | i::l=>by simp only[List.map_cons,List.sum_cons,a5O f g l];omega
theorem a5z {f:Nat->Int}{g:Nat->Bool}:∀{l:List Nat},(∀i∈l,g i=false->f i=0)->((l.filter g).map f).sum=(l.map f).sum
 | [],_=>rfl
 | i::l,h=>by
  have ih:=a5z (l:=l) λj hj=>h j (List.mem_cons_of_mem _ hj)
  cases hg:g i with
  | true=>rw[List.filter_cons_of_pos hg];simp only[List.map_cons,List.sum_cons,ih]
  | false =>
   have:=h i List.mem_cons_self hg
   rw[List.filter_cons_of_neg (by simp[hg])]
   simp only[List.map_cons,List.sum_cons,ih]
   omega
theorem a3e {g:Nat->Bool}:∀l:List Nat,(l.map λi=>if g i=true then(1:Int) else 0).sum=((l.filter g).length:Nat)
 | []=>rfl
 | i::l=>by
  cases hg:g i with
  | true=>rw[List.filter_cons_of_pos hg];simp only[List.map_cons,List.sum_cons,a3e l,hg,if_true,List.length_cons];omega
  | false=>rw[List.filter_cons_of_neg (by simp[hg])];simp[a3e l,hg]
theorem a8P {l m:List Int}(p:l.Perm m):l.sum=m.sum:=by
 induction p with
 | nil=>rfl
 | cons x _ ih=>simp only[List.sum_cons,ih]
 | swap x y l=>simp only[List.sum_cons];omega
 | trans _ _ h1 h2=>exact h1.trans h2
noncomputable def U2 (ps:List Pn):Int:=(ps.map λp=>p.2.1).sum
noncomputable def a9Q (ps:List Pn):Prop:=∀p∈ps,1≤p.2.1
theorem C1 {α β:Type}(d:α)(f:α->β):∀l:List α,(List.range l.length).map (λi=>f (l.getD i d))=l.map f:=λl=>by
 apply List.ext_getElem
 ·simp
 ·intro i h1 h2
  simp only[List.length_map,List.length_range]at h1
  simp[h1]
theorem a4X (ps:List Pn):U2 ps=((List.range ps.length).map λi=>(pAt ps i).2.1).sum:=by
 unfold U2
 rw[←C1 (0,0,false) (λp:Pn=>p.2.1) ps]
 rfl
theorem b1v {ps:List Pn}(h:a9Q ps){i:Nat}(hi:i<ps.length):1≤(pAt ps i).2.1:=by
 have e:pAt ps i=ps[i]:=by unfold pAt;simp[hi]
 rw[e]
 exact h _ (List.getElem_mem hi)
theorem a7V {tn:Bool}{P:List Nat}{ps:List Pn}(hs:∀i∈P,i<ps.length)(hn:P.Nodup){i:Nat}(h:i∈A7 tn P ps):i<ps.length∧M2 P ps i=false:=by
 have:=(a0o (tn:=tn) hs hn).mem_iff.mp h
 unfold A7 at this
 rw[if_neg (by simp)]at this
 have h2:=List.mem_filter.mp this
 exact⟨List.mem_range.mp h2.1,by simpa using h2.2⟩
theorem a6Y {h k:Nat}{kp tn:Bool}{ps:List Pn}(hp:a9Q ps):U2 (after h k kp tn ps)=U2 ps-(min h ps.length:Nat):=by
 have hsub:=P4 (h:=h) (k:=k) (kp:=kp) (ps:=ps)
 have hnd:=J6 (h:=h) (k:=k) (kp:=kp) (ps:=ps)
 rw[←a0e h k kp ps,a4X ps]
 unfold after U2
 generalize t7 h k kp ps=P at hsub hnd
 rw[List.map_map]
 have e1:=a8P ((a0o (tn:=tn) hsub hnd).map ((λp:Pn=>p.2.1) ∘ D2 P kp ps))
 rw[e1]
 unfold A7
 rw[if_neg (by simp)]
 have e2:(List.map ((λp:Pn=>p.2.1) ∘ D2 P kp ps) ((List.range ps.length).filter λi=>!M2 P ps i)).sum=(((List.range ps.length).filter λi=>!M2 P ps i).map λi=>(pAt ps i).2.1-(if decide (i∈P)=true then(1:Int) else 0)).sum:=by
  congr 1
  refine List.map_congr_left λi hi=>?_
  show(D2 P kp ps i).2.1=_
  unfold D2 fe
  by_cases hm:i∈P <;> simp[hm]
 rw[e2,a5z,a5O,a3e]
 ·have e3:((List.range ps.length).filter λi=>decide (i∈P)).length=P.length:=by
   refine(Y4 ((B4 _).sublist List.filter_sublist) hnd λx=>?_).length_eq
   simp only[List.mem_filter,List.mem_range,decide_eq_true_eq]
   exact⟨λz=>z.2,λz=>⟨hsub x z,z⟩⟩
  rw[e3]
 ·intro i hi hg
  have h1:=b1v hp (List.mem_range.mp hi)
  unfold M2 at hg
  simp only[Bool.not_eq_false',Bool.and_eq_true,decide_eq_true_eq]at hg
  simp only[hg.1,decide_true,if_true]
  omega
theorem a6g {ps:List Pn}(hp:a9Q ps):(ps.length:Int)≤U2 ps:=by
 induction ps with
 | nil=>exact Int.le_refl _
 | cons p ps ih =>
  have h1:=hp p List.mem_cons_self
  have h2:=ih λx hx=>hp x (List.mem_cons_of_mem _ hx)
  unfold U2 at h2 ⊢
  simp only[List.length_cons,List.map_cons,List.sum_cons]
  omega
theorem a71 {h k:Nat}{kp tn:Bool}{ps:List Pn}:(after h k kp tn ps).length≤ps.length:=by
 unfold after
 rw[List.length_map,(a0o (tn:=tn) (P4 (h:=h) (k:=k) (kp:=kp) (ps:=ps)) J6).length_eq]
 have h2:=List.length_filter_le (λi=>!M2 (t7 h k kp ps) ps i) (List.range ps.length)
 unfold A7
 rw[if_neg (by simp)]
 rw[List.length_range]at h2
 exact h2
noncomputable abbrev Bt:=List (Int×Int)
noncomputable def N4 (h k:Nat)(kp tn:Bool)(pl:Option Nat)(ps:List Pn)(bt:Bt):List Pn:=after h k kp tn (y4 pl ps bt)
noncomputable def Y1 (f:List Pn->Bt->List Pn)(ps:List Pn)(way:List Bt)(i:Nat):List Pn:=(way.take i).foldl f ps
noncomputable def j9 (way:List Bt)(i:Nat):Bt:=way.getD i []
theorem a0C {f:List Pn->Bt->List Pn}{ps:List Pn}{way:List Bt}:Y1 f ps way 0=ps:=by simp[Y1]
theorem a0x {f:List Pn->Bt->List Pn}{ps:List Pn}{way:List Bt}{i:Nat}(h:i<way.length):Y1 f ps way (i+1)=f (Y1 f ps way i) (j9 way i):=by
 unfold Y1 j9
 have e:way.getD i []=way[i]:=by simp[h]
 rw[List.take_add_one,List.getElem?_eq_getElem h,List.foldl_append,e]
 rfl
noncomputable def i6 (way:List Bt):Nat:=(way.map List.length).sum
theorem Q1 {way:List Bt}{i:Nat}(h:i<way.length):i6 (way.take (i+1))=i6 (way.take i)+(j9 way i).length:=by
 unfold i6 j9
 have e:way.getD i []=way[i]:=by simp[h]
 rw[List.take_add_one,List.getElem?_eq_getElem h,List.map_append,List.sum_append,e]
 rfl
theorem a1w (way:List Bt)(i:Nat):i6 (way.take i)≤i6 way:=by
 conv=>rhs;rw[←List.take_append_drop i way]
 unfold i6
 rw[List.map_append,List.sum_append]
 omega
theorem a3D {h k:Nat}{kp tn:Bool}{pl:Option Nat}{ps:List Pn}{way:List Bt}:∀{i:Nat},i≤way.length->(Y1 (N4 h k kp tn pl) ps way i).length≤ps.length+i6 (way.take i)
 | 0,_=>by rw[a0C];omega
 | i+1,hi=>by
  have ih:=a3D (h:=h) (k:=k) (kp:=kp) (tn:=tn) (pl:=pl) (ps:=ps) (way:=way) (i:=i) (by omega)
  rw[a0x (by omega),Q1 (by omega)]
  unfold N4
  refine Nat.le_trans a71 ?_
  rw[a4b]
  have:G3 pl (Y1 (N4 h k kp tn pl) ps way i).length (j9 way i).length≤(j9 way i).length:=by unfold G3;split <;> omega
  unfold N4 at ih this
  omega
theorem a7U {h k:Nat}{kp tn:Bool}{pl:Option Nat}{ps:List Pn}{way:List Bt}(hl:ps.length+i6 way<64){i:Nat}(hi:i<way.length):(Y1 (N4 h k kp tn pl) ps way i).length+(j9 way i).length<64:=by
 have h1:=a3D (h:=h) (k:=k) (kp:=kp) (tn:=tn) (pl:=pl) (ps:=ps) (way:=way) (i:=i) (by omega)
 have h2:=Q1 hi
 have h3:=a1w way (i+1)
 omega
theorem a0B (ps:List Pn)(bt:Bt):y4 none ps bt=ps++bt.map λc=>(c.1,c.2,false):=by
 unfold y4 G3
 rw[List.take_length]
end L3
namespace L3
open L2
end L3
namespace L3
open L2
noncomputable def prs (c:Nat)(L:Nat->Int)(n:Nat):Bool:=decide (n<c)&&decide (0<L n)
noncomputable def pkd (h c:Nat)(L:Nat->Int)(n:Nat):Bool:=prs c L n&&decide (((List.range n).filter (prs c L)).length<h)
noncomputable def nxt (h c:Nat)(L:Nat->Int)(n:Nat):Int:=if pkd h c L n=true then L n-1 else L n
noncomputable def fL (h:Nat)(cnt:Nat->Nat)(w:Nat->Int):Nat->Nat->Int
 | 0=>w
 | m+1=>nxt h (cnt (m+1)) (fL h cnt w m)
noncomputable def fW (h:Nat)(cnt:Nat->Nat)(w:Nat->Int):Nat->Nat->Nat
 | 0,_=>0
 | m+1,n=>if (prs (cnt (m+1)) (fL h cnt w m) n && !pkd h (cnt (m+1)) (fL h cnt w m) n)=true then fW h cnt w m n+1 else fW h cnt w m n
noncomputable def fM (h:Nat)(cnt:Nat->Nat)(w:Nat->Int):Nat->Nat->Nat
 | 0,_=>0
 | m+1,n=>if pkd h (cnt (m+1)) (fL h cnt w m) n=true∧fL h cnt w m n≤1 then m+1 else fM h cnt w m n
theorem S5 {h c:Nat}{L:Nat->Int}{n:Nat}(e:pkd h c L n=true):n<c∧0<L n∧((List.range n).filter (prs c L)).length<h:=by
 unfold pkd prs at e
 simp only[Bool.and_eq_true,decide_eq_true_eq]at e
 exact⟨e.1.1,e.1.2,e.2⟩
theorem a8B {h c:Nat}{L:Nat->Int}{n:Nat}(h1:n<c)(h2:0<L n)(h3:((List.range n).filter (prs c L)).length<h):pkd h c L n=true:=by
 unfold pkd
 have:prs c L n=true:=by unfold prs;simp[h1,h2]
 rw[this,Bool.true_and]
 exact decide_eq_true h3
theorem a6k {h:Nat}{cnt:Nat->Nat}{w:Nat->Int}(hw:∀n,0≤w n):∀m n,0≤fL h cnt w m n
 | 0,n=>hw n
 | m+1,n=>by
  have:=a6k (h:=h) (cnt:=cnt) hw m n
  show 0≤nxt _ _ _ n
  unfold nxt
  split
  ·rename_i e
   have:=(S5 e).2.1
   omega
  ·exact this
theorem b3i {h:Nat}{cnt:Nat->Nat}{w:Nat->Int}(m n:Nat):fL h cnt w (m+1) n≤fL h cnt w m n:=by
 show nxt _ _ _ n≤_
 unfold nxt
 split <;> omega
theorem a1C {h:Nat}{cnt:Nat->Nat}{w:Nat->Int}(hw:∀n,0≤w n)(n:Nat)(h1:1≤w n):∀m,(0<fL h cnt w m n∧fM h cnt w m n=0∧∀t≤m,0<fL h cnt w t n)∨(fL h cnt w m n=0∧fL h cnt w (fM h cnt w m n) n=0∧∀t<fM h cnt w m n,0<fL h cnt w t n)
 | 0=>.inl ⟨by show 0<w n;omega,rfl,λt ht=>by
   have:t=0:=by omega
   subst this
   show 0<w n
   omega⟩
 | m+1=>by
  have hn:=a6k (h:=h) (cnt:=cnt) hw (m+1) n
  have hd:=b3i (h:=h) (cnt:=cnt) (w:=w) m n
  rcases a1C hw n h1 m with ⟨a1,a2,a3⟩ | ⟨a1,a2,a3⟩
  ·by_cases hp:pkd h (cnt (m+1)) (fL h cnt w m) n=true
   ·have eL:fL h cnt w (m+1) n=fL h cnt w m n-1:=by
     show nxt _ _ _ n=_
     unfold nxt
     rw[if_pos hp]
    by_cases h2:fL h cnt w m n≤1
    ·have eM:fM h cnt w (m+1) n=m+1:=by rw[fM,if_pos ⟨hp,h2⟩]
     refine .inr ⟨by omega,by rw[eM];omega,λt ht=>?_⟩
     rw[eM]at ht
     exact a3 t (by omega)
    ·have eM:fM h cnt w (m+1) n=fM h cnt w m n:=by rw[fM,if_neg λz=>h2 z.2]
     refine .inl ⟨by omega,by rw[eM];exact a2,λt ht=>?_⟩
     by_cases ht2:t≤m
     ·exact a3 t ht2
     ·have:t=m+1:=by omega
      subst this
      omega
   ·have eL:fL h cnt w (m+1) n=fL h cnt w m n:=by
     show nxt _ _ _ n=_
     unfold nxt
     rw[if_neg hp]
    have eM:fM h cnt w (m+1) n=fM h cnt w m n:=by rw[fM,if_neg λz=>hp z.1]
    refine .inl ⟨by omega,by rw[eM];exact a2,λt ht=>?_⟩
    by_cases ht2:t≤m
    ·exact a3 t ht2
    ·have:t=m+1:=by omega
     subst this
     omega
  ·have hp:¬pkd h (cnt (m+1)) (fL h cnt w m) n=true:=λe=>by have:=(S5 e).2.1;omega
   have eM:fM h cnt w (m+1) n=fM h cnt w m n:=by rw[fM,if_neg λz=>hp z.1]
   refine .inr ⟨by omega,by rw[eM];exact a2,by rw[eM];exact a3⟩
end L3
namespace L3
open L2
noncomputable def j3 (c:Nat)(L:Nat->Int):List Nat:=(List.range c).filter λn=>decide (0<L n)
noncomputable def psn (rk L w:Nat->Int)(n:Nat):Pn:=(rk n,L n,decide (L n<w n))
structure Fi (L w:Nat->Int):Prop where
 le:∀n,L n≤w n
 bp:∀x n,x<n->0<L x->L n<w n->L x<w x
theorem a7p (c:Nat)(L:Nat->Int):j3 c L=(List.range c).filter (prs c L):=by
 unfold j3
 refine List.filter_congr λn hn=>?_
 unfold prs
 simp[List.mem_range.mp hn]
theorem a5a (c:Nat)(L:Nat->Int):(j3 c L).Nodup:=(B4 _).sublist List.filter_sublist
theorem a4k {n c:Nat}(h:n<c):∃r,List.range c=List.range n++n::r:=by
 refine⟨(List.range' (n+1) (c-(n+1))),?_⟩
 rw[List.range_eq_range',List.range_eq_range']
 have e:c=n+(1+(c-(n+1))):=by omega
 conv=>lhs;rw[e]
 rw[←List.range'_append_1,Nat.add_comm 1,List.range'_succ]
 simp
theorem a8K {c:Nat}{L:Nat->Int}{i:Nat}(hi:i<(j3 c L).length):((List.range ((j3 c L)[i])).filter (prs c L)).length=i:=by
 have hm:=List.getElem_mem hi
 generalize hn:(j3 c L)[i]=n at hm
 have hm2:=List.mem_filter.mp hm
 have hnc:=List.mem_range.mp hm2.1
 have hp:prs c L n=true:=by unfold prs;simp[hnc,of_decide_eq_true hm2.2]
 obtain⟨r,er⟩:=a4k hnc
 have el:j3 c L=(List.range n).filter (prs c L)++n::r.filter (prs c L):=by
  rw[a7p,er,List.filter_append,List.filter_cons_of_pos hp]
 have hlt:((List.range n).filter (prs c L)).length<(j3 c L).length:=by rw[el,List.length_append,List.length_cons];omega
 have h2:(j3 c L)[((List.range n).filter (prs c L)).length]=n:=by
  have:(j3 c L)[((List.range n).filter (prs c L)).length]? = some n:=by
   rw[el,List.getElem?_append_right (Nat.le_refl _),Nat.sub_self];rfl
  rw[List.getElem?_eq_getElem hlt]at this
  injection this
 have hs:(j3 c L).Pairwise (· < ·):=(C6 c).sublist List.filter_sublist
 have hpw:=List.pairwise_iff_getElem.mp hs
 generalize ((List.range n).filter (prs c L)).length=j at hlt h2
 rcases Nat.lt_trichotomy j i with z | z | z
 ·have:=hpw j i hlt hi z;omega
 ·exact z
 ·have:=hpw i j hi hlt z;omega
theorem a1u {h c:Nat}{L:Nat->Int}{i:Nat}(hi:i<(j3 c L).length):pkd h c L ((j3 c L)[i])=decide (i<h):=by
 have hm:=List.mem_filter.mp (List.getElem_mem hi)
 have hnc:=List.mem_range.mp hm.1
 unfold pkd
 rw[a8K hi]
 have hp:prs c L ((j3 c L)[i])=true:=by unfold prs;simp[hnc,of_decide_eq_true hm.2]
 rw[hp,Bool.true_and]
section
variable {h c:Nat}{rk L w:Nat->Int}
theorem a0a {i:Nat}(hi:i<(j3 c L).length):pAt ((j3 c L).map (psn rk L w)) i=psn rk L w ((j3 c L)[i]):=by
 unfold pAt
 simp[hi]
theorem a52 (F:Fi L w):order 0 true ((j3 c L).map (psn rk L w))=List.range (j3 c L).length:=by
 have hk:((j3 c L).map (psn rk L w)).length=(j3 c L).length:=by simp
 refine O0 (R:=Z1 0 true ((j3 c L).map (psn rk L w))) (λa b=>a3h a b) ?_ (a3g _ _ _) ?_
 ·have:=L8 0 true ((j3 c L).map (psn rk L w))
  rwa [hk]at this
 ·rw[List.pairwise_iff_getElem]
  intro i j hi hj hij
  simp only[List.length_range]at hi hj
  simp only[List.getElem_range]
  unfold Z1
  rw[if_pos rfl,a0a hi,a0a hj]
  have ha:N7 0 ((j3 c L).map (psn rk L w)) i j:=by unfold N7;simpa using hij
  have hlt:(j3 c L)[i]<(j3 c L)[j]:=by
   have:=(C6 c).sublist (List.filter_sublist (p:=λn=>decide (0<L n)))
   exact List.pairwise_iff_getElem.mp this i j hi hj hij
  have hpi:=of_decide_eq_true (List.mem_filter.mp (List.getElem_mem hi)).2
  have hb:=F.bp _ _ hlt hpi
  unfold psn
  simp only
  by_cases h1:L ((j3 c L)[j])<w ((j3 c L)[j])
  ·have h2:=hb h1
   simp[h1,h2,bI]
   exact ha
  ·by_cases h2:L ((j3 c L)[i])<w ((j3 c L)[i])
   ·simp[h1,h2,bI]
   ·simp[h1,h2,bI]
    exact ha
theorem R3 (F:Fi L w)(i:Nat):i∈t7 h 0 true ((j3 c L).map (psn rk L w))↔i<(j3 c L).length∧i<h:=by
 unfold t7
 rw[a52 F,List.length_map,List.mem_filter,List.mem_range,decide_eq_true_eq]
 constructor
 ·rintro ⟨h1,h2⟩
  refine⟨h1,?_⟩
  rw[List.take_range]at h2
  have:=List.mem_range.mp h2
  omega
 ·rintro ⟨h1,h2⟩
  refine⟨h1,?_⟩
  rw[List.take_range]
  exact List.mem_range.mpr (by omega)
theorem a7g (F:Fi L w){i:Nat}(hi:i<(j3 c L).length):M2 (t7 h 0 true ((j3 c L).map (psn rk L w))) ((j3 c L).map (psn rk L w)) i = !decide (0<nxt h c L ((j3 c L)[i])):=by
 unfold M2 nxt
 rw[a0a hi,a1u hi]
 have e:decide (i∈t7 h 0 true ((j3 c L).map (psn rk L w)))=decide (i<h):=by
  rw[decide_eq_decide,R3 F]
  exact⟨λz=>z.2,λz=>⟨hi,z⟩⟩
 rw[e]
 have hp:=of_decide_eq_true (List.mem_filter.mp (List.getElem_mem hi)).2
 by_cases hh:i<h
 ·simp only[hh,decide_true,Bool.true_and,if_true]
  rw[←decide_not,decide_eq_decide]
  show L _≤1↔_
  omega
 ·simp only[hh,decide_false,Bool.false_and]
  rw[if_neg (by simp)]
  simp[hp]
theorem a6l {n:Nat}(hn:0<nxt h c L n):0<L n:=by
 unfold nxt at hn
 split at hn <;> omega
theorem a8F:(j3 c L).filter (λn=>decide (0<nxt h c L n))=j3 c (nxt h c L):=by
 unfold j3
 rw[List.filter_filter]
 refine List.filter_congr λn hn=>?_
 by_cases hz:0<nxt h c L n
 ·simp[hz,a6l hz]
 ·simp[hz]
theorem a4N (l:List Nat):(List.range l.length).map (λi=>l.getD i 0)=l:=by
 have:=C1 (0:Nat) (λx:Nat=>x) l
 rwa [List.map_id']at this
theorem a47 (F:Fi L w):A7 false (t7 h 0 true ((j3 c L).map (psn rk L w))) ((j3 c L).map (psn rk L w))=(List.range (j3 c L).length).filter ((λn=>decide (0<nxt h c L n)) ∘ λi=>(j3 c L).getD i 0):=by
 unfold A7
 rw[if_neg (by simp),List.length_map]
 refine List.filter_congr λi hi=>?_
 have hi:=List.mem_range.mp hi
 rw[a7g F hi]
 simp[hi]
theorem a2E (F:Fi L w):(A7 false (t7 h 0 true ((j3 c L).map (psn rk L w))) ((j3 c L).map (psn rk L w))).map (λi=>(j3 c L).getD i 0)=j3 c (nxt h c L):=by
 rw[a47 F,←List.filter_map,a4N,a8F]
theorem a2e (F:Fi L w):after h 0 true false ((j3 c L).map (psn rk L w))=(j3 c (nxt h c L)).map (psn rk (nxt h c L) w):=by
 unfold after
 rw[←a2E F,List.map_map]
 refine List.map_congr_left λi hi=>?_
 rw[a47 F]at hi
 have hi:=List.mem_range.mp (List.mem_filter.mp hi).1
 have hm:=List.getElem_mem hi
 have hp:=of_decide_eq_true (List.mem_filter.mp hm).2
 have hle:=F.le ((j3 c L)[i])
 have eg:(j3 c L).getD i 0=(j3 c L)[i]:=by simp[hi]
 show D2 _ true _ i=psn rk (nxt h c L) w ((j3 c L).getD i 0)
 rw[eg]
 unfold D2
 rw[a0a hi]
 by_cases hh:i<h
 ·rw[if_pos ((R3 F i).mpr ⟨hi,hh⟩)]
  unfold psn nxt
  rw[a1u hi]
  simp only[hh,decide_true,if_true,fe]
  rw[decide_eq_true (show L ((j3 c L)[i])-1<w ((j3 c L)[i]) by omega)]
 ·rw[if_neg λz=>hh ((R3 F i).mp z).2]
  unfold psn nxt
  rw[a1u hi]
  simp[hh]
theorem Fi.next (F:Fi L w):Fi (nxt h c L) w:=by
 have dn:∀n,nxt h c L n≤L n:=λn=>by unfold nxt;split <;> omega
 refine⟨λn=>Int.le_trans (dn n) (F.le n),λx n hxn hx hn=>?_⟩
 have hx0:=a6l hx
 by_cases hb:L n<w n
 ·have:=F.bp x n hxn hx0 hb
  have:=dn x
  omega
 ·have hp:pkd h c L n=true:=by
   by_cases hp:pkd h c L n=true
   ·exact hp
   ·unfold nxt at hn
    rw[if_neg hp]at hn
    exact absurd hn hb
  obtain⟨a1,a2,a3⟩:=S5 hp
  have hpx:pkd h c L x=true:=by
   refine a8B (by omega) hx0 (Nat.lt_of_le_of_lt ?_ a3)
   have:((List.range x).filter (prs c L)).Sublist ((List.range n).filter (prs c L)):=by
    refine List.Sublist.filter _ ?_
    exact List.range_sublist.mpr (by omega)
   exact this.length_le
  have:=F.le x
  have e:nxt h c L x=L x-1:=by unfold nxt;rw[if_pos hpx]
  omega
end
theorem a66 {h:Nat}{cnt:Nat->Nat}{w:Nat->Int}:∀m,Fi (fL h cnt w m) w
 | 0=>⟨λn=>Int.le_refl _,λx n _ _ hn=>absurd hn (Int.lt_irrefl _)⟩
 | m+1=>(a66 m).next
end L3
namespace L3
open PySem PySem.Spec PyProof.Rows L2
variable [Fam]
noncomputable abbrev cmD (c:Int×Int):PyData:=.tuple [.int c.1,.int c.2]
noncomputable def plD:Option Nat->PyData
 | some v=>.int (v:Int)
 | none=>.none
noncomputable def a0p:List DV->M PyData:=z6 ["house","stand","beat","places","room","entered"] (mSq (v5 3 (s2 ixD (sW 0) (sC (.int 1))))
  (mSq (v5 4 (sIf (uB (s2 (isD false) (sW 3) (sC .none))) (sN z7 (a9 (sW 2) d7)) (s2 a1T (sW 3) (sN z7 (a9 (sW 1) d7)))))
  (mSq (v5 5 (sLC (D4 (a1G (sW 2) oNo (oI (sV 4)))) 2 [] (t9 2 (d4 (bN 0) (d4 (bN 1) u8))) E9 (x9 (a9 (sV 0) (a9 (sV 1) (a9 (sC (.bool false)) d7))))))
  (mRt (x9 (a9 (s2 B5 (sW 1) (sN r9 (a9 (sW 5) d7))) (a9 (s2 a1T (sN z7 (a9 (sW 2) d7)) (sN z7 (a9 (sW 5) d7))) d7)))))))
noncomputable def a0l:List DV->M PyData:=z6 ["house","stand","rule","hands_on","waiting","served","gone","place","rank","left","begun","staying"] (mSq (v5 2 (s2 ixD (sW 0) (sC (.int 2))))
  (mSq (v5 3 (i8 c_picked (vD (sV 0) (vD (sV 1) n6))))
  (mSq (v5 4 (sLC (M5 (sW 1)) 2 [3] (t9 2 (d4 (bN 0) (d4 (bN 1) u8))) (uB (s2 (inD true) (sW 0) (sW 2))) (x9 (a9 (sV 0) (a9 (sV 1) d7)))))
  (mSq (a17 5 6 (cO (J8 d7)) (cO (J8 d7)))
  (mSq (M8 (D4 (sV 3)) (bN 7) (mSq (M4 (t9 3 (d4 (bN 8) (d4 (bN 9) (d4 (bN 10) u8)))) (s2 ixD (sW 1) (sW 7)))
  (mIf (uB (s2 gtD (sW 9) (sC (.int 1)))) (M3 5 (x9 (a9 (sV 7) (a9 (x9 (a9 (sV 8) (a9 (s2 a1T (sW 9) (sC (.int 1))) (a9 (i8 a1x (vD (sV 2) n6)) d7)))) d7)))) (M3 6 (sV 7)))))
  (mSq (v5 11 (sIf (uB (s2 (eqD false) (sW 2) (sC (.str "turns")))) (s2 B5 (sW 4) (sW 5)) (sN T4 (a9 (s2 B5 (sW 4) (sW 5)) d7))))
  (mRt (x9 (a9 (sV 11) (a9 (sV 3) (a9 (sN r9 (a9 (sW 6) d7)) d7)))))))))))
noncomputable def a3s:List DV->M PyData:=z6 ["house","stand","beat","filled","lost","staying","hands_on","gone"] (mSq (M4 (t9 2 (d4 (bN 3) (d4 (bN 4) u8))) (i8 a0p (vD (sV 0) (vD (sV 1) (vD (sV 2) n6)))))
  (mSq (M4 (t9 3 (d4 (bN 5) (d4 (bN 6) (d4 (bN 7) u8)))) (i8 a0l (vD (sV 0) (vD (sV 3) n6))))
  (mRt (x9 (a9 (sN r9 (a9 (sLC (D4 (sW 5)) 2 [] (t9 2 (d4 (bN 0) (d4 (bN 1) u8))) E9 (sV 1)) d7)) (a9 (sV 4) (a9 (sV 7) d7)))))))
noncomputable abbrev b2:PyData->DE->Option DE:=t9 2 (d4 (bN 0) (d4 (bN 1) u8))
section
variable {F:FdS}
theorem a5n {me:DE->M PyData}{α:Type}{x y:α->PyData}{f:α->PyData}{rest:DE}{Q:List PyData->FdS->Prop}:∀(ds:List α) (o o':Option DV),(∀d∈ds,∀(F:FdS) (Q:PyData->FdS->Prop),Q (f d) F->wp (me (some (.dat (x d))::some (.dat (y d))::rest) F) Q)->Q (ds.map f) F->wp (Q0 b2 E9 me (ds.map λd=>.tuple [x d,y d]) (o::o'::rest) F) Q
 | [],o,o',_,q=>c9.mpr q
 | d::ds,o,o',h,q=>by
  rw[List.map_cons,Q0]
  have e:b2 (.tuple [x d,y d]) (o::o'::rest)=some (some (.dat (x d))::some (.dat (y d))::rest):=rfl
  rw[e,Option.bind_some,b9]
  refine a0H.mpr ?_
  rw[if_pos rfl,b9]
  refine h d List.mem_cons_self F _ ?_
  rw[b9]
  exact a5n ds _ _ (λd hd=>h d (List.mem_cons_of_mem _ hd)) (c9.mpr q)
theorem a9v {mt:DE->M Bool}{me:DE->M PyData}{α:Type}{x y:α->PyData}{g:α->Bool}{f:α->PyData}{rest:DE}{Q:List PyData->FdS->Prop}:∀(ds:List α) (o o':Option DV),(∀d∈ds,∀(F:FdS) (Q:Bool->FdS->Prop),Q (g d) F->wp (mt (some (.dat (x d))::some (.dat (y d))::rest) F) Q) ->
  (∀d∈ds,g d=true->∀(F:FdS) (Q:PyData->FdS->Prop),Q (f d) F->wp (me (some (.dat (x d))::some (.dat (y d))::rest) F) Q)->Q ((ds.filter g).map f) F->wp (Q0 b2 mt me (ds.map λd=>.tuple [x d,y d]) (o::o'::rest) F) Q
 | [],o,o',_,_,q=>c9.mpr q
 | d::ds,o,o',ht,h,q=>by
  rw[List.map_cons,Q0]
  have e:b2 (.tuple [x d,y d]) (o::o'::rest)=some (some (.dat (x d))::some (.dat (y d))::rest):=rfl
  rw[e,Option.bind_some,b9]
  refine ht d List.mem_cons_self F _ ?_
  cases c:g d with
  | false =>
   rw[List.filter_cons_of_neg (by rw[c];simp)]at q
   rw[if_neg (by simp)]
   exact a9v ds _ _ (λd hd=>ht d (List.mem_cons_of_mem _ hd)) (λd hd=>h d (List.mem_cons_of_mem _ hd)) q
  | true =>
   rw[List.filter_cons_of_pos c,List.map_cons]at q
   rw[if_pos rfl,b9]
   refine h d List.mem_cons_self c F _ ?_
   rw[b9]
   exact a9v ds _ _ (λd hd=>ht d (List.mem_cons_of_mem _ hd)) (λd hd=>h d (List.mem_cons_of_mem _ hd)) (c9.mpr q)
theorem a7I {ps:List Pn}:B8 0 (ps.map pnD)=(List.range ps.length).map λi=>.tuple [.int (i:Int),pnD (pAt ps i)]:=by
 have key:∀(l:List PyData) (k:Nat),B8 k l=(List.range l.length).map λi=>.tuple [.int ((k+i:Nat):Int),l.getD i .none]:=by
  intro l
  induction l with
  | nil=>intro k;rfl
  | cons d l ih =>
   intro k
   rw[B8,ih,List.length_cons,List.range_succ_eq_map,List.map_cons,List.map_map]
   have e1:(PyData.tuple [.int (k:Int),d]) = .tuple [.int ((k+0:Nat):Int),(d::l).getD 0 .none]:=by simp
   rw[←e1]
   refine congrArg (List.cons _) (List.map_congr_left λi _=>?_)
   simp only[Function.comp,Nat.succ_eq_add_one,List.getD_cons_succ]
   rw[show k+1+i=k+(i+1) by omega]
 rw[key,List.length_map]
 refine List.map_congr_left λi hi=>?_
 have hi:=List.mem_range.mp hi
 rw[Nat.zero_add,List.getD_eq_getElem?_getD,List.getElem?_map,List.getElem?_eq_getElem hi]
 unfold pAt
 rw[List.getD_eq_getElem?_getD,List.getElem?_eq_getElem hi]
 rfl
theorem a3j {a b:Int}:(PyData.int a).eqv (.int b)=decide (a=b):=by
 simp only[PyData.eqv]
 exact Bool.beq_eq_decide_eq ..
theorem a0V {l:List Nat}{i:Nat}(hl:∀j∈l,j≤1000):inD true (.int (i:Int)) (.tuple (j2 l))=some (.bool (!decide (i∈l))):=by
 have hs:SeqAt.shaped (.tuple (j2 l))=true:=(a3u hl).shaped (by decide) (by decide)
 have hi:SeqAt.shaped (.int (i:Int))=true:=by simp[SeqAt.shaped,PyData.canLay0,PyData.depth]
 show(if SeqAt.shaped (.tuple (j2 l))=true∧SeqAt.shaped (.int (i:Int))=true then _ else none)=_
 rw[if_pos ⟨hs,hi⟩,if_pos rfl]
 refine congrArg (λb=>some (PyData.bool (!b))) ?_
 unfold j2
 rw[List.any_map]
 have e:(l.any ((λy=>y.eqv (.int (i:Int))) ∘ λj:Nat=>PyData.int (j:Int)))=l.any λj=>decide (j=i):=by
  congr 1
  funext j
  simp only[Function.comp,a3j]
  rw[decide_eq_decide];omega
 rw[e]
 induction l with
 | nil=>simp
 | cons a l ih =>
  rw[List.any_cons,ih λj hj=>hl j (List.mem_cons_of_mem _ hj)]
  ·by_cases h:a=i
   ·simp[h]
   ·have:¬i=a:=λz=>h z.symm
    simp[h,this]
  ·exact(a3u λj hj=>hl j (List.mem_cons_of_mem _ hj)).shaped (by decide) (by decide)
  ·congr 1
   funext j
   simp only[Function.comp,a3j]
   rw[decide_eq_decide];omega
end
section
variable {F:FdS}{Q:PyData->FdS->Prop}
noncomputable def a5P (pl:Option Nat)(n:Nat):Prop:=∀v,pl=some v->n≤v
noncomputable def b0R (pl:Option Nat)(n m:Nat):Int:=match pl with
 | some v=>(v:Int)-(n:Int)
 | none=>(m:Int)
theorem a7M {pl:Option Nat}{n:Nat}{bt:List PyData}(hp:a5P pl n):T7 bt none (some (b0R pl n bt.length))=bt.take (G3 pl n bt.length):=by
 cases pl with
 | none =>
  show T7 bt none (some ((bt.length:Nat):Int))=_
  rw[a2l];rfl
 | some v =>
  have:=hp v rfl
  show T7 bt none (some ((v:Int)-(n:Int)))=bt.take (min bt.length (v-n))
  have e:(v:Int)-(n:Int)=((v-n:Nat):Int):=by omega
  rw[e,a2l]
  by_cases hh:v-n≤bt.length
  ·rw[Nat.min_eq_right hh]
  ·rw[Nat.min_eq_left (by omega),List.take_of_length_le (by omega),List.take_of_length_le (by omega)]
theorem a48 {h r:PyData}{pl:Option Nat}{ps:List Pn}{bt:List (Int×Int)}(hp:a5P pl ps.length)(hl:ps.length+bt.length≤1000)(q:Q (.tuple [.tuple ((y4 pl ps bt).map pnD),.int ((bt.length-G3 pl ps.length bt.length:Nat):Int)]) F) :
  wp (a0p [.dat (.tuple [h,plD pl,r]),.dat (.tuple (ps.map pnD)),.dat (.tuple (bt.map cmD))] F) Q:=by
 have rle:G3 pl ps.length bt.length≤bt.length:=by unfold G3;split <;> omega
 have fin:∀(E:DE) (room:Int) (a5:Option DV),room=b0R pl ps.length bt.length->E=[some (.dat (.tuple [h,plD pl,r])),some (.dat (.tuple (ps.map pnD))),some (.dat (.tuple (bt.map cmD))),some (.dat (plD pl)),some (.dat (.int room)),a5] ->
   wp (mSq (v5 5 (sLC (D4 (a1G (sW 2) oNo (oI (sV 4)))) 2 [] (t9 2 (d4 (bN 0) (d4 (bN 1) u8))) E9 (x9 (a9 (sV 0) (a9 (sV 1) (a9 (sC (.bool false)) d7))))))
    (mRt (x9 (a9 (s2 B5 (sW 1) (sN r9 (a9 (sW 5) d7))) (a9 (s2 a1T (sN z7 (a9 (sW 2) d7)) (sN z7 (a9 (sW 5) d7))) d7)))) E F) (a6F Q):=by
  rintro E room a5 hroom rfl
  have ec:T7 (bt.map cmD) none (some room)=(bt.take (G3 pl ps.length bt.length)).map cmD:=by
   have:=a7M (bt:=bt.map cmD) hp
   rw[List.length_map]at this
   rw[hroom,this,List.map_take]
  refine h7.mpr (w4.mpr (P9.mpr (B7.mpr (a3E.mpr (f8.mpr (i4 rfl (a3N.mpr (a8Q.mpr (j5.mpr (j4 rfl (c6 b2z (c6 b2m (c6 R4 ?_)))))))))))))
  rw[ec]
  refine⟨sz (by rw[List.length_map,List.length_take];omega),?_⟩
  refine a5n (x:=λc:Int×Int=>.int c.1) (y:=λc=>.int c.2) (f:=λc=>pnD (c.1,c.2,false)) _ _ _ (λc hc F Q q=>?_) ?_
  ·walk_at "go"
   exact q
  ·refine⟨l0 rfl,f9 ?_⟩
   refine D6.mpr (A3.mpr (b8.mpr (m5.mpr (f8.mpr (i4 rfl (A8.mpr (b8.mpr (f8.mpr (i4 rfl (d8.mpr (c6 a20 (c6 (b3E ?_) (b8.mpr (m5.mpr (A8.mpr (b8.mpr (f8.mpr (i4 rfl (d8.mpr (c6 C8 (A8.mpr (b8.mpr (f8.mpr (i4 rfl (d8.mpr (c6 a2j (c6 a3o (d8.mpr ⟨r8 rfl,?_⟩))))))))))))))))))))))))))))
   ·rw[List.length_map,List.length_map,List.length_take];omega
   ·have e1:ps.map pnD++(bt.take (G3 pl ps.length bt.length)).map (λc=>pnD (c.1,c.2,false))=(y4 pl ps bt).map pnD:=by
     unfold y4;rw[List.map_append,List.map_map];rfl
    have e2:((List.map cmD bt).length:Int)-((List.map (λc:Int×Int=>pnD (c.1,c.2,false)) (bt.take (G3 pl ps.length bt.length))).length:Int)=((bt.length-G3 pl ps.length bt.length:Nat):Int):=by
     rw[List.length_map,List.length_map,List.length_take];omega
    rw[e1,e2]
    exact q
 unfold a0p
 refine G4.mpr (h7.mpr (w4.mpr (m5.mpr (f8.mpr (i4 rfl (n5.mpr (c6 rfl ⟨l0 rfl,f9 (h7.mpr (w4.mpr (a1a.mpr (K6.mpr (m5.mpr (f8.mpr (i4 rfl (n5.mpr (c6 rfl (c6 rfl ?_))))))))))⟩)))))))
 cases pl with
 | none =>
  refine C3 rfl ?_
  refine A8.mpr (b8.mpr (f8.mpr (i4 rfl (d8.mpr (c6 C8 ⟨l0 rfl,f9 ?_⟩)))))
  rw[List.length_map]
  exact fin _ _ none rfl rfl
 | some v =>
  refine l4 rfl ?_
  refine m5.mpr (f8.mpr (i4 rfl (A8.mpr (b8.mpr (f8.mpr (i4 rfl (d8.mpr (c6 C8 (c6 a3o ⟨l0 rfl,f9 ?_⟩)))))))))
  rw[List.length_map]
  exact fin _ _ none rfl rfl
end
variable [Fam]
noncomputable def tnB:PyData->Bool
 | .str x=>decide (x = "turns")
 | _=>false
noncomputable abbrev prD (q:Nat×Pn):PyData:=.tuple [.int (q.1:Int),pnD q.2]
theorem a8I {r:PyData}(h:r∈W8):eqD false r (.str "turns")=some (.bool (tnB r)):=by
 obtain⟨x,rfl,hx⟩:=P2 h
 show some (PyData.bool (if false=true then !decide (x = "turns") else decide (x = "turns")))=_
 rw[if_neg (by decide)]
 rfl
theorem a7T {c1 c2:DE->M DV}{E:DE}{F:FdS}{i j:Nat}{Q:Out->FdS->Prop}(h:wp (c1 E F) λx F1=>wp (c2 E F1) λy F2=>(i<E.length∧j<E.length)∧Q (.nx ((E.set i (some x)).set j (some y))) F2):wp (a17 i j c1 c2 E F) Q:=by
 unfold a17
 rw[b9]
 refine j8 h λx F1 h1=>?_
 rw[b9]
 refine j8 h1 λy F2 h2=>?_
 rw[if_pos h2.1]
 exact c9.mpr h2.2
theorem a6W {m:DE->M (List PyData)}{E:DE}{F:FdS}{Q:DV->FdS->Prop}(h:wp (m E F) λx F1=>Q (.own x) F1):wp (cO m E F) Q:=by
 unfold cO
 rw[b9]
 exact j8 h λx F1 h1=>c9.mpr h1
theorem b40 {m:DE->M PyData}{E:DE}{F:FdS}{Q:DV->FdS->Prop}(h:wp (m E F) λx F1=>Q (.dat x) F1):wp (cD m E F) Q:=by
 unfold cD
 rw[b9]
 exact j8 h λx F1 h1=>c9.mpr h1
theorem a1R:∀l:List (Nat×Pn),(l.map prD).mapM a3t=some (l.map λq=>(q.1:Int))
 | []=>rfl
 | q::l=>by rw[List.map_cons,List.mapM_cons,a1R l];rfl
theorem a7l {l:List (Nat×Pn)}(h:l≠[]):G9 (l.map prD)=none:=by
 cases l with
 | nil=>exact absurd rfl h
 | cons q l=>rfl
theorem a9E {l m:List (Nat×Pn)}(hp:m.Perm l)(hs:m.Pairwise λa b=>a.1<b.1)(h64:l.length<64):T4 [.list (l.map prD)]=some (.list (m.map prD)):=by
 by_cases hl:l=[]
 ·subst hl
  have:=hp.symm.nil_eq
  subst this
  rfl
 ·have nd:(l.map λq=>(q.1:Int)).Nodup:=by
   refine(hp.map λq=>(q.1:Int)).nodup_iff.mp ?_
   rw[List.nodup_iff_pairwise_ne,List.pairwise_map]
   exact hs.imp λh=>by omega
  simp only[T4,a7l hl,a1R,Option.bind_some]
  rw[if_pos ⟨nd,by rw[List.length_map];exact h64⟩]
  have e:(l.map λq=>(q.1:Int)).zip (l.map prD)=l.map λq=>((q.1:Int),prD q):=S8 _ _ l
  rw[e,a70 (l:=l.map λq=>((q.1:Int),prD q)) (m:=m.map λq=>((q.1:Int),prD q)) (hp.map _) (by rw[List.pairwise_map];exact hs.imp λh=>by show(_:Int)<_;omega),List.map_map]
  rfl
section
variable {F:FdS}{Q:PyData->FdS->Prop}
theorem a45 {r:PyData}{pl:PyData}{ps:List Pn}{h:Nat}(hr:r∈W8)(hl:ps.length<64)
  (q:Q (.tuple [.list ((A7 (tnB r) (t7 h (kOf r) (kb r) ps) ps).map λi=>prD (i,D2 (t7 h (kOf r) (kb r) ps) (kb r) ps i)),.tuple (j2 (t7 h (kOf r) (kb r) ps)),.tuple (j2 (J5 (t7 h (kOf r) (kb r) ps) ps))]) F) :
  wp (a0l [.dat (.tuple [.int (h:Int),pl,r]),.dat (.tuple (ps.map pnD))] F) Q:=by
 have hsub:=P4 (h:=h) (k:=kOf r) (kp:=kb r) (ps:=ps)
 have hnd:=J6 (h:=h) (k:=kOf r) (kp:=kb r) (ps:=ps)
 have hplen:(t7 h (kOf r) (kb r) ps).length≤ps.length:=by rw[a0e];omega
 unfold a0l
 walk_at "go"
 refine a9h hr hl ?_
 generalize t7 h (kOf r) (kb r) ps=P at q hsub hnd hplen
 refine⟨l0 rfl,f9 (h7.mpr (w4.mpr (P9.mpr (a1B (f8.mpr (i4 rfl (c6 R4 ?_)))))))⟩
 rw[a7I]
 refine⟨sz (by rw[List.length_map,List.length_range];omega),?_⟩
 refine a9v (x:=λi:Nat=>.int (i:Int)) (y:=λi=>pnD (pAt ps i)) (g:=λi=>!decide (i∈P)) (f:=λi=>prD (i,pAt ps i)) _ _ _ (λi hi F Q q=>?_) (λi hi _ F Q q=>?_) ?_
 ·walk_at "go"
  refine c6 (a0V λj hj=>by have:=hsub j hj;omega) ?_
  exact c6 rfl q
 ·walk_at "go"
  exact q
 have ew:((List.range ps.length).filter λi=>!decide (i∈P))=T1 P ps:=rfl
 rw[ew]
 refine⟨l0 rfl,f9 (h7.mpr (a7T (a6W (K3.mpr (d8.mpr ⟨sz (by decide),a6W (K3.mpr (d8.mpr ⟨sz (by decide),⟨l0 rfl,l0 rfl⟩,f9 (h7.mpr (O3.mpr (B7.mpr (j5.mpr (j4 rfl (c6 R4 ?_))))))⟩))⟩)))))⟩
 refine G0 (λm E F'=>F'=F∧∃o7 o8 o9 o10 o11,E=[some (.dat (.tuple [.int (h:Int),pl,r])),some (.dat (.tuple (ps.map pnD))),some (.dat r),some (.dat (.tuple (j2 P))),some (.dat (.list ((T1 P ps).map λi=>prD (i,pAt ps i)))),some (.own ((F0 (P.take m) ps).map λi=>prD (i,fe (kb r) (pAt ps i)))),some (.own (j2 (J5 (P.take m) ps))),o7,o8,o9,o10,o11]) _ 0 _ F ⟨rfl,none,none,none,none,none,rfl⟩ ?_ ?_
 ·rintro m d e E F1 ⟨rfl,o7,o8,o9,o10,o11,rfl⟩
  obtain⟨i,ei,rfl⟩:=a7u e
  have hi:=hsub i (List.mem_of_getElem? ei)
  have et:P.take (0+m+1)=P.take (0+m)++[i]:=by rw[Nat.zero_add,List.take_add_one,ei];rfl
  refine⟨_,rfl,?_⟩
  refine h7.mpr (L5.mpr (m5.mpr (f8.mpr (i4 rfl (f8.mpr (i4 rfl (c6 (b14 hi) (c6 rfl (f9 ?_)))))))))
  refine G5.mpr (K6.mpr (m5.mpr (f8.mpr (i4 rfl (n5.mpr (c6 a62 (c6 rfl (T3 (λhc=>?_) λhc=>?_))))))))
  ·have hc:1<(pAt ps i).2.1:=of_decide_eq_true hc
   have e1:F0 (P.take (0+m+1)) ps=F0 (P.take (0+m)) ps++[i]:=by
    unfold F0;rw[et,List.filter_append,List.filter_cons_of_pos (by simp;omega),List.filter_nil]
   have e2:J5 (P.take (0+m+1)) ps=J5 (P.take (0+m)) ps:=by
    unfold J5;rw[et,List.filter_append,List.filter_cons_of_neg (by simp;omega),List.filter_nil,List.append_nil]
   refine X6 rfl (by
    have:=List.length_filter_le (λi=>!decide ((pAt ps i).2.1≤1)) (P.take (0+m))
    have h2:=List.length_take (i:=0+m) (l:=P)
    rw[List.length_map];unfold F0;omega) ?_
   refine A3.mpr (b8.mpr (j5.mpr (j4 rfl (b8.mpr (A3.mpr (b8.mpr (j5.mpr (j4 rfl (b8.mpr (m5.mpr (f8.mpr (i4 rfl (n5.mpr (c6 a3o (b8.mpr (l3.mpr (p7.mpr (j5.mpr (j4 rfl (m8.mpr ?_))))))))))))))))))))
   refine a5F hr (d8.mpr ⟨r8 rfl,d8.mpr ⟨r8 rfl,?_⟩⟩)
   exact⟨_,rfl,rfl,_,_,_,_,_,by rw[e1,e2,List.map_append];rfl⟩
  ·have hc:¬1<(pAt ps i).2.1:=of_decide_eq_false hc
   have e1:F0 (P.take (0+m+1)) ps=F0 (P.take (0+m)) ps:=by
    unfold F0;rw[et,List.filter_append,List.filter_cons_of_neg (by simp;omega),List.filter_nil,List.append_nil]
   have e2:j2 (J5 (P.take (0+m+1)) ps)=j2 (J5 (P.take (0+m)) ps)++[.int (i:Int)]:=by
    unfold J5;rw[et,List.filter_append,List.filter_cons_of_pos (by simp;omega),List.filter_nil]
    simp only[j2,List.map_append,List.map_cons,List.map_nil]
   refine X6 rfl (by
    have:=List.length_filter_le (λi=>decide ((pAt ps i).2.1≤1)) (P.take (0+m))
    have h2:=List.length_take (i:=0+m) (l:=P)
    rw[v8];unfold J5;omega) (j5.mpr (j4 rfl ?_))
   exact⟨_,rfl,rfl,_,_,_,_,_,by rw[e1,e2];rfl⟩
 ·rintro E F1 ⟨rfl,o7,o8,o9,o10,o11,rfl⟩
  rw[v8,Nat.zero_add,List.take_length]
  have lw:(T1 P ps).length≤ps.length:=by
   have:=List.length_filter_le (λi=>!decide (i∈P)) (List.range ps.length)
   rw[List.length_range]at this;exact this
  have ls:(F0 P ps).length≤ps.length:=by
   have:=List.length_filter_le (λi=>!decide ((pAt ps i).2.1≤1)) P
   unfold F0;omega
  have eW:(T1 P ps).map (λi=>prD (i,pAt ps i))=(T1 P ps).map λi=>prD (i,D2 P (kb r) ps i):=List.map_congr_left λi hi=>by
   have h2:i ∉ P:=by have:=(List.mem_filter.mp hi).2;simpa using this
   unfold D2;rw[if_neg h2]
  have eS:(F0 P ps).map (λi=>prD (i,fe (kb r) (pAt ps i)))=(F0 P ps).map λi=>prD (i,D2 P (kb r) ps i):=List.map_congr_left λi hi=>by
   have h2:i∈P:=(List.mem_filter.mp hi).1
   unfold D2;rw[if_pos h2]
  have eA:(T1 P ps).map (λi=>prD (i,pAt ps i))++(F0 P ps).map (λi=>prD (i,fe (kb r) (pAt ps i)))=((T1 P ps++F0 P ps).map λi=>(i,D2 P (kb r) ps i)).map prD:=by
   rw[eW,eS,←List.map_append,List.map_map];rfl
  have last:∀(E:DE) (st:PyData),st = .list ((A7 (tnB r) P ps).map λi=>prD (i,D2 P (kb r) ps i))->E=[some (.dat (.tuple [.int (h:Int),pl,r])),some (.dat (.tuple (ps.map pnD))),some (.dat r),some (.dat (.tuple (j2 P))),some (.dat (.list ((T1 P ps).map λi=>prD (i,pAt ps i)))),some (.own ((F0 P ps).map λi=>prD (i,fe (kb r) (pAt ps i)))),some (.own (j2 (J5 P ps))),o7,o8,o9,o10,some (.dat st)] ->
    wp (mRt (x9 (a9 (sV 11) (a9 (sV 3) (a9 (sN r9 (a9 (sW 6) d7)) d7)))) E F1) (a6F Q):=by
   rintro E st rfl rfl
   walk_at "go"
   exact q
  refine f9 (h7.mpr (w4.mpr (a1a.mpr (K6.mpr (m5.mpr (f8.mpr (i4 rfl (n5.mpr (c6 (a8I hr) (c6 rfl (T3 (λht=>?_) λht=>?_)))))))))))
  ·refine m5.mpr (f8.mpr (i4 rfl (f8.mpr (P5 rfl (c6 (b1z ?_) ⟨l0 rfl,f9 (last _ _ ?_ rfl)⟩)))))
   ·rw[List.length_map,List.length_map];omega
   ·rw[eA,List.map_map]
    unfold A7
    rw[if_pos ht]
    rfl
  ·refine A8.mpr (b8.mpr (m5.mpr (f8.mpr (i4 rfl (f8.mpr (P5 rfl (c6 (b1z ?_) (d8.mpr ?_))))))))
   ·rw[List.length_map,List.length_map];omega
   ·rw[eA]
    have hperm:=(a0r hsub hnd).symm.map λi=>(i,D2 P (kb r) ps i)
    have hsrt:((A7 false P ps).map λi=>(i,D2 P (kb r) ps i)).Pairwise λa b=>a.1<b.1:=by
     rw[List.pairwise_map];exact a9Y P ps
    have hlen:((T1 P ps++F0 P ps).map λi=>(i,D2 P (kb r) ps i)).length<64:=by
     rw[List.length_map,(a0r hsub hnd).length_eq]
     have:=List.length_filter_le (λi=>!M2 P ps i) (List.range ps.length)
     unfold A7
     rw[if_neg (by simp)]
     rw[List.length_range]at this
     omega
    refine c6 (a9E hperm hsrt hlen) ⟨l0 rfl,f9 (last _ _ ?_ rfl)⟩
    rw[ht,List.map_map]
    rfl
theorem a9n {r:PyData}{pl:Option Nat}{ps:List Pn}{bt:List (Int×Int)}{h:Nat}(hr:r∈W8)(hp:a5P pl ps.length)(hl:ps.length+bt.length<64)
  (q:Q (.tuple [.tuple ((after h (kOf r) (kb r) (tnB r) (y4 pl ps bt)).map pnD),.int ((bt.length-G3 pl ps.length bt.length:Nat):Int),.tuple (j2 (J5 (t7 h (kOf r) (kb r) (y4 pl ps bt)) (y4 pl ps bt)))]) F) :
  wp (a3s [.dat (.tuple [.int (h:Int),plD pl,r]),.dat (.tuple (ps.map pnD)),.dat (.tuple (bt.map cmD))] F) Q:=by
 have hfl:(y4 pl ps bt).length<64:=by
  rw[a4b];unfold G3;split <;> omega
 unfold a3s
 walk_at "go"
 refine a48 hp (by omega) ?_
 walk_at "go"
 refine a45 hr hfl ?_
 refine c6 rfl (f9 ?_)
 refine D6.mpr (A3.mpr (b8.mpr (A8.mpr (b8.mpr (P9.mpr (B7.mpr (f8.mpr (i4 rfl (c6 K4 ⟨sz ?_,?_⟩)))))))))
 ·have h1:=(a0o (tn:=tnB r) (P4 (h:=h) (k:=kOf r) (kp:=kb r) (ps:=y4 pl ps bt)) J6).length_eq
  have h2:=List.length_filter_le (λi=>!M2 (t7 h (kOf r) (kb r) (y4 pl ps bt)) (y4 pl ps bt) i) (List.range (y4 pl ps bt).length)
  rw[List.length_map,h1]
  unfold A7
  rw[if_neg (by simp)]
  rw[List.length_range]at h2
  omega
 ·refine a5n (x:=λi:Nat=>.int (i:Int)) (y:=λi=>pnD (D2 (t7 h (kOf r) (kb r) (y4 pl ps bt)) (kb r) (y4 pl ps bt) i)) (f:=λi=>pnD (D2 (t7 h (kOf r) (kb r) (y4 pl ps bt)) (kb r) (y4 pl ps bt) i)) _ _ _ (λi hi F Q q=>?_) ?_
  ·walk_at "go"
   exact q
  ·walk_at "go"
   unfold after at q
   rw[List.map_map]at q
   exact q
end
variable [Fam]
noncomputable def a93:List DV->M PyData:=z6 ["house","way","stand","stands","lost","gone","beat","following","turned_away","places"] (mSq (a29 3 4 5 (cO (J8 (a9 (sV 2) d7))) (cO (J8 d7)) (cO (J8 d7)))
  (mSq (M8 (D4 (sV 1)) (bN 6) (mSq (M4 (t9 3 (d4 (bN 7) (d4 (bN 8) (d4 (bN 9) u8)))) (i8 a3s (vD (sV 0) (vD (s2 ixD (sW 3) (s1 a5h (sC (.int 1)))) (vD (sV 6) n6)))))
  (mSq (M3 3 (sV 7))
  (mSq (M3 4 (sV 8))
  (M3 5 (sN z7 (a9 (sW 9) d7)))))))
  (mRt (x9 (a9 (sN r9 (a9 (sW 3) d7)) (a9 (sN r9 (a9 (sW 4) d7)) (a9 (sN r9 (a9 (sW 5) d7)) d7)))))))
noncomputable abbrev btD (b:Bt):PyData:=.tuple (b.map cmD)
noncomputable abbrev stD (ps:List Pn):PyData:=.tuple (ps.map pnD)
theorem b0b {c1 c2 c3:DE->M DV}{E:DE}{F:FdS}{i j k:Nat}{Q:Out->FdS->Prop}(h:wp (c1 E F) λx F1=>wp (c2 E F1) λy F2=>wp (c3 E F2) λz F3=>(i<E.length∧j<E.length∧k<E.length)∧Q (.nx (((E.set i (some x)).set j (some y)).set k (some z))) F3):wp (a29 i j k c1 c2 c3 E F) Q:=by
 unfold a29
 rw[b9]
 refine j8 h λx F1 h1=>?_
 rw[b9]
 refine j8 h1 λy F2 h2=>?_
 rw[b9]
 refine j8 h2 λz F3 h3=>?_
 rw[if_pos h3.1]
 exact c9.mpr h3.2
theorem a7K {ds:List PyData}{x:PyData}:ixD (.list (ds++[x])) (.int (-1))=some x:=by
 show atI (ds++[x]) (-1)=some x
 unfold atI
 have e:ixN (ds++[x]).length (-1)=some ds.length:=by
  unfold ixN
  rw[if_neg (by decide),if_pos (by simp only[List.length_append,List.length_cons,List.length_nil];omega)]
  congr 1
  simp only[List.length_append,List.length_cons,List.length_nil];omega
 rw[e,Option.bind_some,List.getElem?_append_right (Nat.le_refl _),Nat.sub_self]
 rfl
theorem a7L {way:List Bt}{i:Nat}{d:PyData}(h:(way.map btD)[i]? = some d):i<way.length∧d=btD (j9 way i):=by
 rw[List.getElem?_map]at h
 obtain⟨b,e,rfl⟩:=Option.map_eq_some_iff.mp h
 obtain⟨hi,rfl⟩:=List.getElem?_eq_some_iff.mp e
 exact⟨hi,by unfold j9;simp[hi]⟩
theorem b0x {way:List Bt}:B8 0 (way.map btD)=(List.range way.length).map λi=>.tuple [.int (i:Int),btD (j9 way i)]:=by
 have key:∀(l:List PyData) (k:Nat),B8 k l=(List.range l.length).map λi=>.tuple [.int ((k+i:Nat):Int),l.getD i .none]:=by
  intro l
  induction l with
  | nil=>intro k;rfl
  | cons d l ih =>
   intro k
   rw[B8,ih,List.length_cons,List.range_succ_eq_map,List.map_cons,List.map_map]
   have e1:(PyData.tuple [.int (k:Int),d]) = .tuple [.int ((k+0:Nat):Int),(d::l).getD 0 .none]:=by simp
   rw[←e1]
   refine congrArg (List.cons _) (List.map_congr_left λi _=>?_)
   simp only[Function.comp,Nat.succ_eq_add_one,List.getD_cons_succ]
   rw[show k+1+i=k+(i+1) by omega]
 rw[key,List.length_map]
 refine List.map_congr_left λi hi=>?_
 have hi:=List.mem_range.mp hi
 rw[Nat.zero_add,List.getD_eq_getElem?_getD,List.getElem?_map,List.getElem?_eq_getElem hi]
 unfold j9
 rw[List.getD_eq_getElem?_getD,List.getElem?_eq_getElem hi]
 rfl
theorem V2 {f:Nat->PyData}{n i:Nat}(h:i<n):atI ((List.range n).map f) (i:Int)=some (f i):=by
 refine a1y ?_
 rw[List.getElem?_map,List.getElem?_eq_getElem (by simpa using h)]
 simp
theorem W6 {n i:Nat}{d:PyData}{f:Nat->PyData}(h:((List.range n).map f)[i]? = some d):i<n∧d=f i:=by
 rw[List.getElem?_map]at h
 obtain⟨b,e,rfl⟩:=Option.map_eq_some_iff.mp h
 obtain⟨hi,rfl⟩:=List.getElem?_eq_some_iff.mp e
 simp only[List.length_range]at hi
 exact⟨hi,by simp⟩
noncomputable def a3U (pl:Option Nat)(ps:List Pn)(bt:Bt):Nat:=bt.length-G3 pl ps.length bt.length
noncomputable def a1M (h k:Nat)(kp:Bool)(pl:Option Nat)(ps:List Pn)(bt:Bt):Nat:=(J5 (t7 h k kp (y4 pl ps bt)) (y4 pl ps bt)).length
section
variable {F:FdS}{Q:PyData->FdS->Prop}
theorem b3f {r:PyData}{pl:Option Nat}{ps:List Pn}{way:List Bt}{h:Nat}(hr:r∈W8)(hp:∀i<way.length,a5P pl (Y1 (N4 h (kOf r) (kb r) (tnB r) pl) ps way i).length)(hl:ps.length+i6 way<64)(hn:way.length≤1000)
  (q:Q (.tuple [.tuple ((List.range (way.length+1)).map λi=>stD (Y1 (N4 h (kOf r) (kb r) (tnB r) pl) ps way i)),.tuple ((List.range way.length).map λi=>.int (a3U pl (Y1 (N4 h (kOf r) (kb r) (tnB r) pl) ps way i) (j9 way i):Nat)),.tuple ((List.range way.length).map λi=>.int (a1M h (kOf r) (kb r) pl (Y1 (N4 h (kOf r) (kb r) (tnB r) pl) ps way i) (j9 way i):Nat))]) F) :
  wp (a93 [.dat (.tuple [.int (h:Int),plD pl,r]),.dat (.tuple (way.map btD)),.dat (stD ps)] F) Q:=by
 have hfit:=λi hi=>a7U (h:=h) (k:=kOf r) (kp:=kb r) (tn:=tnB r) (pl:=pl) (ps:=ps) (way:=way) hl (i:=i) hi
 have hsucc:=λi hi=>a0x (f:=N4 h (kOf r) (kb r) (tnB r) pl) (ps:=ps) (way:=way) (i:=i) hi
 have hzero:=a0C (f:=N4 h (kOf r) (kb r) (tnB r) pl) (ps:=ps) (way:=way)
 generalize Y1 (N4 h (kOf r) (kb r) (tnB r) pl) ps way=st at q hp hfit hsucc hzero
 unfold a93
 refine G4.mpr ?_
 dsimp only[p9,List.map_cons,List.map_nil,List.length_cons,List.length_nil,List.replicate,List.cons_append,List.nil_append,Nat.reduceAdd,Nat.reduceSub]
 refine h7.mpr (b0b (a6W (K3.mpr (b8.mpr (j5.mpr (j4 rfl (d8.mpr ⟨r8 rfl,a6W (K3.mpr (d8.mpr ⟨sz (by decide),a6W (K3.mpr (d8.mpr ⟨sz (by decide),⟨l0 rfl,l0 rfl,l0 rfl⟩,f9 (h7.mpr (O3.mpr (B7.mpr (j5.mpr (j4 rfl (c6 R4 ?_))))))⟩))⟩))⟩)))))))
 refine G0 (λm E F'=>F'=F∧∃o6 o7 o8 o9,E=[some (.dat (.tuple [.int (h:Int),plD pl,r])),some (.dat (.tuple (way.map btD))),some (.dat (stD ps)),some (.own ((List.range (m+1)).map λi=>stD (st i))),some (.own ((List.range m).map λi=>.int (a3U pl (st i) (j9 way i):Nat))),some (.own ((List.range m).map λi=>.int (a1M h (kOf r) (kb r) pl (st i) (j9 way i):Nat))),o6,o7,o8,o9]) _ 0 _ F ⟨rfl,none,none,none,none,by rw[←hzero];rfl⟩ ?_ ?_
 ·rintro m d e E F1 ⟨rfl,o6,o7,o8,o9,rfl⟩
  rw[Nat.zero_add]
  obtain⟨hm,rfl⟩:=a7L e
  refine⟨_,rfl,?_⟩
  have es:(List.range (m+1)).map (λi=>stD (st i))=(List.range m).map (λi=>stD (st i))++[stD (st m)]:=by rw[List.range_succ,List.map_append];rfl
  refine h7.mpr (L5.mpr (l3.mpr (p7.mpr (j5.mpr (j4 rfl (p7.mpr (m5.mpr (f8.mpr (P5 rfl (b0l.mpr (n5.mpr (c6 rfl ?_)))))))))))) 
  rw[es]
  refine c6 a7K (p7.mpr (j5.mpr (j4 rfl (m8.mpr ?_))))
  refine a9n hr (hp m hm) (hfit m hm) (c6 rfl (f9 ?_))
  refine h7.mpr (X6 rfl (by simp;omega) (j5.mpr (j4 rfl (f9 ?_))))
  refine h7.mpr (X6 rfl (by simp;omega) (j5.mpr (j4 rfl (f9 ?_))))
  refine X6 rfl (by simp;omega) (A8.mpr (b8.mpr (f8.mpr (i4 rfl (d8.mpr (c6 rfl ?_))))))
  have e3:(List.range (m+1+1)).map (λi=>stD (st i))=(List.range m).map (λi=>stD (st i))++[stD (st m)]++[stD (st (m+1))]:=by rw[List.range_succ,List.map_append,es];rfl
  have e4:(List.range (m+1)).map (λi=>PyData.int (a3U pl (st i) (j9 way i):Nat))=(List.range m).map (λi=>PyData.int (a3U pl (st i) (j9 way i):Nat))++[.int (a3U pl (st m) (j9 way m):Nat)]:=by rw[List.range_succ,List.map_append];rfl
  have e5:(List.range (m+1)).map (λi=>PyData.int (a1M h (kOf r) (kb r) pl (st i) (j9 way i):Nat))=(List.range m).map (λi=>PyData.int (a1M h (kOf r) (kb r) pl (st i) (j9 way i):Nat))++[.int (a1M h (kOf r) (kb r) pl (st m) (j9 way m):Nat)]:=by rw[List.range_succ,List.map_append];rfl
  have e6:a1M h (kOf r) (kb r) pl (st m) (j9 way m)=(j2 (J5 (t7 h (kOf r) (kb r) (y4 pl (st m) (j9 way m))) (y4 pl (st m) (j9 way m)))).length:=by unfold a1M;rw[v8]
  exact⟨_,rfl,rfl,_,_,_,_,by rw[e3,e4,e5,hsucc m hm,e6];rfl⟩
 ·rintro E F1 ⟨rfl,o6,o7,o8,o9,rfl⟩
  rw[Nat.zero_add,List.length_map]
  refine f9 ?_
  walk_at "go"
  exact q
end
variable [Fam]
section
variable {F:FdS}{Q:PyData->FdS->Prop}
end
variable [Fam]
noncomputable def a4S (nm:List Str):List DV->M PyData:=z6 nm (mSq (T5 3 (J8 d7))
  (mSq (v5 4 (sC (.int 0)))
  (mSq (M8 (X8 (a9 (i8 drawS (vF 0 (vD (s2 B5 (sW 1) (sC (.int 1))) n6))) d7)) (bN 5) (mSq (T5 6 (J8 d7))
  (mSq (M8 (X8 (a9 (s2 ixD (sC (.list [.int 0,.int 0,.int 1,.int 1,.int 2,.int 3])) (i8 drawS (vF 0 (vD (sC (.int 6)) n6)))) d7)) (bN 7) (mIf (uB (s2 ltD (sW 4) (sC (.int 40)))) (mSq (M3 6 (x9 (a9 (i8 drawS (vF 0 (vD (sC (.int 2)) n6))) (a9 (s2 B5 (sC (.int 1)) (i8 drawS (vF 0 (vD (sV 2) n6)))) d7))))
  (v5 4 (s2 B5 (sW 4) (sC (.int 1))))) mNx))
  (M3 3 (sN r9 (a9 (sW 6) d7))))))
  (mRt (sN r9 (a9 (sW 3) d7))))))
noncomputable abbrev nmB:List Str:=["_law_feed_here","_law_beats","_law_works","_law_way_here","_law_many","_law_k","_law_beat","_law_j"]
noncomputable def a7A (c:Int×Int):Prop:=0≤c.1∧c.1≤1∧1≤c.2∧c.2≤6
structure WayOk (n:Nat) (way:List Bt):Prop where
 len:way.length≤n
 many:i6 way≤40
 ok:∀b∈way,∀c∈b,a7A c
theorem a4p (way:List Bt)(b:Bt):i6 (way++[b])=i6 way+b.length:=by
 unfold i6
 rw[List.map_append,List.sum_append]
 rfl
theorem six {r:Int}(r0:0≤r)(r1:r<6):∃c:Nat,ixD (.list [.int 0,.int 0,.int 1,.int 1,.int 2,.int 3]) (.int r)=some (.int (c:Int))∧c≤3:=by
 have:r=0∨r=1∨r=2∨r=3∨r=4∨r=5:=by omega
 rcases this with rfl | rfl | rfl | rfl | rfl | rfl
 ·exact⟨0,rfl,by decide⟩
 ·exact⟨0,rfl,by decide⟩
 ·exact⟨1,rfl,by decide⟩
 ·exact⟨1,rfl,by decide⟩
 ·exact⟨2,rfl,by decide⟩
 ·exact⟨3,rfl,by decide⟩
theorem b03 {nm:List Str}(hnm:nm.length=8){n w:Nat}(hn:n≤24)(w1:1≤w)(w2:w≤6):Tr (a4S nm) [.feed,.dat (.int (n:Int)),.dat (.int (w:Int))] 170 (λd=>∃way:List Bt,d = .tuple (way.map btD)∧WayOk n way):=Tr.of λF hF=>by
 unfold a4S
 refine G4.mpr ?_
 have es:p9 nm [.feed,.dat (.int (n:Int)),.dat (.int (w:Int))]=[some .feed,some (.dat (.int (n:Int))),some (.dat (.int (w:Int))),none,none,none,none,none]:=by unfold p9;rw[hnm];rfl
 rw[es]
 walk_at "go"
 refine C7 (by omega) (by omega) (by omega) λr F1 r0 r1 t1=>?_
 refine d8.mpr (c6 (a5m (by omega) (by omega)) ?_)
 refine G0 (λm E F'=>F'.t≤F.t+1+7*m∧∃way:List Bt,∃o5 o6 o7,E=[some .feed,some (.dat (.int (n:Int))),some (.dat (.int (w:Int))),some (.own (way.map btD)),some (.dat (.int (i6 way:Nat))),o5,o6,o7]∧way.length=m∧i6 way≤40∧∀b∈way,∀c∈b,a7A c) _ 0 _ F1 ⟨by omega,[],none,none,none,rfl,rfl,by decide,λb hb=>by cases hb⟩ ?_ ?_
 ·rintro m d e E F2 ⟨t2,way,o5,o6,o7,rfl,hw,hm,ho⟩
  have hi:=(List.getElem?_eq_some_iff.mp e).1
  rw[W4]at hi
  refine⟨_,rfl,?_⟩
  walk_at "go"
  refine C7 (by decide) (by decide) (by omega) λr2 F3 r20 r21 t3=>?_
  obtain⟨c,ec,hc⟩:=six r20 r21
  refine c6 ec (d8.mpr (c6 (a5m (by omega) (by omega)) ?_))
  refine G0 (λj E F'=>F'.t≤F2.t+1+2*j∧∃bt:Bt,∃o5 o7,E=[some .feed,some (.dat (.int (n:Int))),some (.dat (.int (w:Int))),some (.own (way.map btD)),some (.dat (.int (i6 way+bt.length:Nat))),o5,some (.own (bt.map cmD)),o7]∧bt.length≤j∧i6 way+bt.length≤40∧∀c∈bt,a7A c) _ 0 _ F3 ⟨by omega,[],_,_,rfl,Nat.le_refl _,hm,λb hb=>by cases hb⟩ ?_ ?_
  ·rintro j d2 e2 E F4 ⟨t4,bt,o5,o7,rfl,hbl,hbm,hbo⟩
   have hj:=(List.getElem?_eq_some_iff.mp e2).1
   rw[W4]at hj
   refine⟨_,rfl,?_⟩
   refine G5.mpr (K6.mpr (m5.mpr (f8.mpr (i4 rfl (n5.mpr (c6 rfl (c6 rfl (T3 (λhc=>?_) λhc=>?_))))))))
   ·have hc:((i6 way+bt.length:Nat):Int)<40:=of_decide_eq_true hc
    refine h7.mpr (X6 rfl (by rw[List.length_map];omega) ?_)
    walk_at "go"
    refine C7 (by decide) (by decide) (by omega) λa F5 a0 a1 t5=>?_
    walk_at "go"
    refine C7 (by omega) (by omega) (by omega) λb F6 b0 b1 t6=>?_
    walk_at "go"
    refine⟨_,rfl,by omega,bt++[(a,1+b)],o5,some (.dat d2),?_,by simp;omega,by simp;omega,λc hc=>?_⟩
    ·have e1:(i6 way+(bt++[(a,1+b)]).length:Nat)=(i6 way+bt.length)+1:=by simp;omega
     rw[e1,List.map_append]
     rfl
    ·rcases List.mem_append.mp hc with hc | hc
     ·exact hbo c hc
     ·simp only[List.mem_singleton]at hc
      subst hc
      exact⟨a0,by show a≤1;omega,by show 1≤1+b;omega,by show 1+b≤6;omega⟩
   ·exact M1.mpr ⟨_,rfl,by omega,bt,_,_,rfl,by omega,hbm,hbo⟩
  ·rintro E F4 ⟨t4,bt,o5,o7,rfl,hbl,hbm,hbo⟩
   rw[W4]at t4
   refine f9 (X6 rfl (by rw[List.length_map];omega) ?_)
   walk_at "go"
   refine⟨_,rfl,by omega,way++[bt],o5,some (.own (bt.map cmD)),o7,?_,by simp[hw],by rw[a4p];exact hbm,λb hb=>?_⟩
   ·rw[a4p,List.map_append];rfl
   ·rcases List.mem_append.mp hb with hb | hb
    ·exact ho b hb
    ·simp only[List.mem_singleton]at hb
     subst hb
     exact hbo
 ·rintro E F2 ⟨t2,way,o5,o6,o7,rfl,hw,hm,ho⟩
  rw[W4]at t2 hw
  walk_at "go"
  exact⟨by omega,way,rfl,by omega,hm,ho⟩
variable [Fam]
theorem b0O {c:Int×Int}(h:a7A c):Gd 0 3 1 (cmD c):=by
 obtain⟨h1,h2,h3,h4⟩:=h
 exact b2p (N:=1) (M:=1) (a5f (by omega) (by omega)) (a5f (by omega) (by omega))
theorem b3p {b:Bt}(h:∀c∈b,a7A c):Gd 0 (1+3*b.length) 2 (btD b):=by
 refine Gd.tup (M:=3) (λx hx=>?_) ?_
 ·obtain⟨p,hp,rfl⟩:=List.mem_map.mp hx
  exact b0O (h p hp)
 ·have:=Q3 (c:=3) (ds:=b.map cmD) λd hd=>by
   obtain⟨p,hp,rfl⟩:=List.mem_map.mp hd
   exact(b0O (h p hp)).ct
  rw[List.length_map]at this
  omega
theorem a8D {ds:List PyData}:(PyData.tuple ds).eqv (.tuple [])=decide (ds.length=0):=by
 cases ds <;> simp[PyData.eqv,PyData.eqvAll]
theorem b3T:SeqAt.shaped (.tuple [])=true:=by simp[SeqAt.shaped,PyData.canLay0,PyData.canLayAll0,PyData.depth,PyData.depthAll]
theorem b2J {ds:List PyData}(h:SeqAt.shaped (.tuple ds)=true):eqD false (.tuple ds) (.tuple [])=some (.bool (decide (ds.length=0))):=by
 show(if SeqAt.shaped (.tuple ds)=true∧SeqAt.shaped (.tuple [])=true then _ else none)=_
 rw[if_pos ⟨h,b3T⟩,if_neg (by decide),a8D]
theorem a8T {ds:List PyData}{N k:Nat}(h:Gd 0 N k (.list ds))(hk:k≤50):eqD true (.list ds) (.list ds)=some (.bool false):=by
 have hs:=h.shaped (by decide) hk
 show(if SeqAt.shaped (.list ds)=true∧SeqAt.shaped (.list ds)=true then _ else none)=_
 rw[if_pos (show SeqAt.shaped (.list ds)=true∧SeqAt.shaped (.list ds)=true from⟨hs,hs⟩),if_pos rfl]
 refine congrArg (λb=>some (PyData.bool b)) ?_
 have:=PySem.SeqAt.eqv_refl (.list ds) (h.nod (by decide)).cl
 rw[this];rfl
theorem a7F {i j:Int}(h0:-(2 ^ 62)≤i)(h1:i<2 ^ 62)(h2:-(2 ^ 62)≤j)(h3:j<2 ^ 62):a1O [.int i,.int j]=some (T6 i (j-i).toNat):=if_pos ⟨h0,h1,h2,h3⟩
theorem a9U {me:DE->M PyData}{α:Type}{F:FdS}{x:α->PyData}{f:α->PyData}{rest:DE}{Q:List PyData->FdS->Prop}:∀(ds:List α) (o:Option DV),(∀d∈ds,∀(F:FdS) (Q:PyData->FdS->Prop),Q (f d) F->wp (me (some (.dat (x d))::rest) F) Q)->Q (ds.map f) F->wp (Q0 (bN 0) E9 me (ds.map x) (o::rest) F) Q:=λds o h q=>by
 have key:∀(l:List α) (o:Option DV) (Q:List PyData->FdS->Prop),(∀d∈l,d∈ds)->Q (l.map f) F->wp (Q0 (bN 0) E9 me (l.map x) (o::rest) F) Q:=by
  intro l
  induction l with
  | nil=>intro o Q _ q;exact c9.mpr q
  | cons d l ih =>
   intro o Q hs q
   rw[List.map_cons,Q0]
   have e:bN 0 (x d) (o::rest)=some (some (.dat (x d))::rest):=rfl
   rw[e,Option.bind_some,b9]
   refine a0H.mpr ?_
   rw[if_pos rfl,b9]
   refine h d (hs d List.mem_cons_self) F _ ?_
   rw[b9]
   exact ih _ _ (λz hz=>hs z (List.mem_cons_of_mem _ hz)) (c9.mpr q)
 exact key ds o Q (λd hd=>hd) q
theorem a6j {n:Nat}{f:Nat->Int}(h:∀i<n,-100000≤f i∧f i≤100000):Gd 0 (1+n) 1 (.list ((List.range n).map λi=>.int (f i))):=by
 refine Gd.lst (M:=1) (λx hx=>?_) ?_
 ·obtain⟨i,hi,rfl⟩:=List.mem_map.mp hx
  have:=h i (List.mem_range.mp hi)
  exact a5f this.1 this.2
 ·have:=Q3 (c:=1) (ds:=(List.range n).map λi=>PyData.int (f i)) λd hd=>by
   obtain⟨i,hi,rfl⟩:=List.mem_map.mp hd
   have:=h i (List.mem_range.mp hi)
   exact(a5f (n:=0) this.1 this.2).ct
  rw[List.length_map,List.length_range]at this
  omega
variable [Fam]
noncomputable def D8:List DV->M PyData:=z6 ["course","waited","gone_at","word","beat","waits"] (mSq (M4 (t9 3 (d4 (bN 3) (d4 (bN 4) (d4 (bN 5) u8)))) (sV 0))
  (mSq (a1l (λi j=>i+j) 5 (sIf (uT (sW 1)) (sC (.int 1)) (sC (.int 0))))
  (mSq (mIf (uB (s2 (isD false) (sW 2) (sC .none))) (mRt (x9 (a9 (sV 3) (a9 (sV 4) (a9 (sV 5) d7))))) mNx)
  (mRt (x9 (a9 (sC (.str "gone")) (a9 (sV 4) (a9 (sV 2) (a9 (sV 5) d7)))))))))
noncomputable def a0Q:List DV->M PyData:=z6 ["house","way","told","stand","inside","at","beat","filled","lost","entered","staying","hands_on","gone","place","number"] (mSq (T5 2 (J8 d7))
  (mSq (a17 3 4 (cD (sC (.tuple []))) (cO (J8 d7)))
  (mSq (M8 (M5 (sV 1)) (t9 2 (d4 (bN 5) (d4 (bN 6) u8))) (mSq (M4 (t9 2 (d4 (bN 7) (d4 (bN 8) u8))) (i8 a0p (vD (sV 0) (vD (sV 3) (vD (sV 6) n6)))))
  (mSq (v5 9 (s2 a1T (sN z7 (a9 (sW 6) d7)) (sW 8)))
  (mSq (a3S 4 (a0M (a9 (sN z7 (a9 (sW 2) d7)) (a9 (s2 B5 (sN z7 (a9 (sW 2) d7)) (sW 9)) d7))))
  (mSq (a3S 2 (s2 B5 (s2 X5 (a46 (a9 (x9 (a9 (sC (.str "in")) (a9 (sV 5) (a9 (sC (.int 0)) d7)))) d7)) (sW 9)) (s2 X5 (a46 (a9 (x9 (a9 (sC (.str "lost")) (a9 (sV 5) d7))) d7)) (sW 8))))
  (mSq (M4 (t9 3 (d4 (bN 10) (d4 (bN 11) (d4 (bN 12) u8)))) (i8 a0l (vD (sV 0) (vD (sV 7) n6))))
  (mSq (a35 4 (M8 (M5 (sV 4)) (t9 2 (d4 (bN 13) (d4 (bN 14) u8))) (a5u 2 (i8 D8 (vD (s2 ixD (sW 2) (sW 14)) (vD (s2 (inD true) (sW 13) (sW 11)) (vD (sIf (uB (s2 (inD false) (sW 13) (sW 12))) (s2 B5 (sW 5) (sC (.int 1))) (sC .none)) n6)))) (sV 14))))
  (mSq (T5 4 (fLC (D4 (sW 10)) 2 [4] (t9 2 (d4 (bN 0) (d4 (bN 1) u8))) E9 (s2 ixD (sW 2) (sW 0))))
  (v5 3 (sN r9 (a9 (sLC (D4 (sW 10)) 2 [] (t9 2 (d4 (bN 0) (d4 (bN 1) u8))) E9 (sV 1)) d7)))))))))))
  (mRt (sW 2)))))
theorem a2V {i:Nat}{m:DE->M Out}{E:DE}{F:FdS}{ds:List PyData}{Q:Out->FdS->Prop}(he:O8 E i=some ds)(q:wp (m (E.set i (some (.dat (.list ds)))) F) Q):wp (a35 i m E F) Q:=by
 unfold a35;rw[he,Option.bind_some];exact q
theorem a3p {f:Int->Int->Int}{i:Nat}{a:DE->M PyData}{E:DE}{F:FdS}{x:Int}{Q:Out->FdS->Prop}(he:E[i]? = some (some (.dat (.int x))))(q:wp (a E F) λd F1=>∃y:Int,d = .int y∧Q (.nx (E.set i (some (.dat (.int (f x y)))))) F1):wp (a1l f i a E F) Q:=by
 unfold a1l
 rw[he]
 dsimp only
 rw[b9]
 refine j8 q λd F1 ⟨y,e,q⟩=>?_
 subst e
 have hl:i<E.length:=(List.getElem?_eq_some_iff.mp he).1
 have e2:bN i (.int (f x y)) E=some (E.set i (some (.dat (.int (f x y))))):=by unfold bN;rw[if_pos hl]
 show wp ((bN i (.int (f x y)) E).bind _) Q
 rw[e2]
 exact c9.mpr q
theorem a63 {a:DE->M (List PyData)}{E:DE}{F:FdS}{Q:PyData->FdS->Prop}(q:wp (a E F) λx F1=>oB (a1O x) λds=>ds.length≤1000∧Q (.list ds) F1):wp (a0M a E F) Q:=by
 unfold a0M
 rw[b9]
 refine j8 q λx F1 ⟨ds,e,h1,q⟩=>?_
 rw[e,Option.bind_some,if_pos h1]
 exact c9.mpr q
theorem b0Y {d:PyData}{k:Nat}(h:k≤1000):X5 (.list [d]) (.int (k:Int))=some (.list (List.replicate k d)):=by
 have e:(List.replicate ((k:Int)).toNat [d]).flatten=List.replicate k d:=by
  rw[Int.toNat_natCast]
  clear h
  induction k with
  | zero=>rfl
  | succ k ih=>rw[List.replicate_succ,List.flatten_cons,ih,List.replicate_succ];rfl
 rw[←e]
 have hz:[d].length*((k:Int)).toNat≤sizeLine:=sz (by rw[Int.toNat_natCast];show 1*k≤_;omega)
 have h1:-(2 ^ 63)≤(k:Int):=by omega
 have h2:(k:Int)<2 ^ 63:=by omega
 generalize (k:Int)=i at hz h1 h2
 exact if_pos ⟨h1,h2,hz⟩
theorem b2o {l:List Nat}{i:Nat}(hl:∀j∈l,j≤1000):inD false (.int (i:Int)) (.tuple (j2 l))=some (.bool (decide (i∈l))):=by
 have h:=a0V (i:=i) hl
 have hs:SeqAt.shaped (.tuple (j2 l))=true:=(a3u hl).shaped (by decide) (by decide)
 have hi:SeqAt.shaped (.int (i:Int))=true:=by simp[SeqAt.shaped,PyData.canLay0,PyData.depth]
 have e1:inD true (.int (i:Int)) (.tuple (j2 l))=some (.bool (!((j2 l).any λy=>y.eqv (.int (i:Int))))):=by
  show(if SeqAt.shaped (.tuple (j2 l))=true∧SeqAt.shaped (.int (i:Int))=true then _ else none)=_
  rw[if_pos ⟨hs,hi⟩,if_pos rfl]
 rw[e1]at h
 have e2:inD false (.int (i:Int)) (.tuple (j2 l))=some (.bool ((j2 l).any λy=>y.eqv (.int (i:Int)))):=by
  show(if SeqAt.shaped (.tuple (j2 l))=true∧SeqAt.shaped (.int (i:Int))=true then _ else none)=_
  rw[if_pos ⟨hs,hi⟩,if_neg (by decide)]
 rw[e2]
 have h3:(!((j2 l).any λy=>y.eqv (.int (i:Int)))) = !decide (i∈l):=by
  injection h with h
  injection h
 have h4:((j2 l).any λy=>y.eqv (.int (i:Int)))=decide (i∈l):=by
  generalize ((j2 l).any λy=>y.eqv (.int (i:Int)))=x at h3
  generalize decide (i∈l)=y at h3
  cases x <;> cases y <;> simp_all
 rw[h4]
noncomputable abbrev a3C (a w:Nat):PyData:=.tuple [.str "in",.int (a:Int),.int (w:Int)]
noncomputable abbrev goD (a m w:Nat):PyData:=.tuple [.str "gone",.int (a:Int),.int (m:Int),.int (w:Int)]
section
variable {F:FdS}{Q:PyData->FdS->Prop}
theorem a7E {a w:Nat}{b:Bool}(q:Q (a3C a (w+if b then 1 else 0)) F):wp (D8 [.dat (a3C a w),.dat (.bool b),.dat .none] F) Q:=by
 unfold D8
 refine G4.mpr ?_
 dsimp only[p9,List.map_cons,List.map_nil,List.length_cons,List.length_nil,List.replicate,List.cons_append,List.nil_append,Nat.reduceAdd,Nat.reduceSub]
 refine h7.mpr (L5.mpr (j5.mpr (j4 rfl (c6 rfl (f9 (h7.mpr (a3p (x:=(w:Int)) rfl (a1a.mpr (a4z.mpr (f8.mpr (i4 rfl (c6 rfl (T3 (λhb=>?_) λhb=>?_)))))))))))))
 ·refine n5.mpr ⟨1,rfl,f9 (h7.mpr (G5.mpr (K6.mpr (m5.mpr (f8.mpr (i4 rfl (n5.mpr (c6 rfl (c6 rfl (C3 rfl ?_))))))))))⟩
  rw[hb,if_pos rfl]at q
  exact D6.mpr (A3.mpr (b8.mpr (j5.mpr (j4 rfl (b8.mpr (j5.mpr (j4 rfl (b8.mpr (j5.mpr (j4 rfl (d8.mpr ⟨r8 rfl,a7q (D1 q)⟩)))))))))))
 ·refine n5.mpr ⟨0,rfl,f9 (h7.mpr (G5.mpr (K6.mpr (m5.mpr (f8.mpr (i4 rfl (n5.mpr (c6 rfl (c6 rfl (C3 rfl ?_))))))))))⟩
  rw[hb,if_neg (by simp)]at q
  have e:(w:Int)+0=((w+0:Nat):Int):=by omega
  rw[←show((w+0:Nat):Int)=(w:Int)+0 from by omega] at *
  exact D6.mpr (A3.mpr (b8.mpr (j5.mpr (j4 rfl (b8.mpr (j5.mpr (j4 rfl (b8.mpr (j5.mpr (j4 rfl (d8.mpr ⟨r8 rfl,a7q (D1 q)⟩)))))))))))
theorem a4C {a w m:Nat}(q:Q (goD a m w) F):wp (D8 [.dat (a3C a w),.dat (.bool false),.dat (.int (m:Int))] F) Q:=by
 unfold D8
 refine G4.mpr ?_
 dsimp only[p9,List.map_cons,List.map_nil,List.length_cons,List.length_nil,List.replicate,List.cons_append,List.nil_append,Nat.reduceAdd,Nat.reduceSub]
 refine h7.mpr (L5.mpr (j5.mpr (j4 rfl (c6 rfl (f9 (h7.mpr (a3p (x:=(w:Int)) rfl (a1a.mpr (a4z.mpr (f8.mpr (i4 rfl (c6 rfl (l4 rfl (n5.mpr ⟨0,rfl,f9 (h7.mpr (G5.mpr (K6.mpr (m5.mpr (f8.mpr (i4 rfl (n5.mpr (c6 rfl (c6 rfl (l4 rfl (M1.mpr (f9 ?_))))))))))))⟩))))))))))))))
 exact D6.mpr (A3.mpr (b8.mpr (n5.mpr (b8.mpr (j5.mpr (j4 rfl (b8.mpr (j5.mpr (j4 rfl (b8.mpr (j5.mpr (j4 rfl (d8.mpr ⟨r8 rfl,D1 (by rw[Int.add_zero];exact q)⟩)))))))))))))
end
end L3
namespace L3
open PySem PySem.Spec PyProof.Rows L2
noncomputable def c8 (way:List Bt)(m:Nat):Nat:=i6 (way.take m)
noncomputable def rkW (way:List Bt)(n:Nat):Int:=(way.flatten.getD n (0,0)).1
noncomputable def wkW (way:List Bt)(n:Nat):Int:=(way.flatten.getD n (0,0)).2
noncomputable def arW (way:List Bt)(n:Nat):Nat:=((List.range way.length).filter λm=>decide (c8 way (m+1)≤n)).length
theorem A0 {way:List Bt}{m:Nat}(h:m<way.length):c8 way (m+1)=c8 way m+(j9 way m).length:=Q1 h
theorem P7 (way:List Bt)(m:Nat):c8 way m≤c8 way (m+1):=by
 by_cases h:m<way.length
 ·rw[A0 h];omega
 ·unfold c8
  rw[List.take_of_length_le (by omega),List.take_of_length_le (by omega)]
  exact Nat.le_refl _
theorem J3 (way:List Bt)(m:Nat):c8 way m≤i6 way:=a1w way m
theorem y6 (l:List Bt):l.flatten.length=i6 l:=by
 unfold i6
 rw[List.length_flatten]
theorem a3P {way:List Bt}{m j:Nat}(hm:m<way.length)(hj:j<(j9 way m).length):way.flatten.getD (c8 way m+j) (0,0)=(j9 way m).getD j (0,0):=by
 have e:way=way.take m++j9 way m::way.drop (m+1):=by
  unfold j9
  have:way.getD m []=way[m]:=by simp[hm]
  rw[this]
  simp
 have e2:way.flatten=(way.take m).flatten++(j9 way m++(way.drop (m+1)).flatten):=by
  conv=>lhs;rw[e]
  rw[List.flatten_append,List.flatten_cons]
 rw[e2,List.getD_eq_getElem?_getD,List.getElem?_append_right (by rw[y6];unfold c8;omega),y6]
 have e3:c8 way m+j-i6 (way.take m)=j:=by unfold c8;omega
 rw[e3,List.getElem?_append_left hj,List.getD_eq_getElem?_getD]
theorem a67 (m:Nat):∀N,m≤N->((List.range N).filter λk=>decide (k<m)).length=m
 | 0,h=>by
  have:m=0:=by omega
  subst this
  rfl
 | N+1,h=>by
  rw[List.range_succ,List.filter_append,List.length_append]
  by_cases hz:m≤N
  ·rw[a67 m N hz,List.filter_cons_of_neg (by simpa using hz)];rfl
  ·have hm:m=N+1:=by omega
   subst hm
   have e:((List.range N).filter λk=>decide (k<N+1))=List.range N:=List.filter_eq_self.mpr λa ha=>decide_eq_true (by have:=List.mem_range.mp ha;omega)
   rw[e,List.filter_cons_of_pos (by simp)]
   simp
theorem a1r {f:Nat->Nat}(h:∀m,f m≤f (m+1)){a b:Nat}(hab:a≤b):f a≤f b:=by
 obtain⟨k,rfl⟩:=Nat.le.dest hab
 induction k with
 | zero=>exact Nat.le_refl _
 | succ k ih=>exact Nat.le_trans (ih (by omega)) (h _)
theorem a50 {way:List Bt}{m n:Nat}(hm:m<way.length)(h1:c8 way m≤n)(h2:n<c8 way (m+1)):arW way n=m:=by
 unfold arW
 have e:((List.range way.length).filter λk=>decide (c8 way (k+1)≤n))=(List.range way.length).filter λk=>decide (k<m):=by
  refine List.filter_congr λk hk=>?_
  rw[decide_eq_decide]
  constructor
  ·intro z
   refine Nat.lt_of_not_le λhle=>?_
   have:=a1r (P7 way) (show m+1≤k+1 by omega)
   omega
  ·intro z
   have:=a1r (P7 way) (show k+1≤m by omega)
   omega
 rw[e,a67 m way.length (by omega)]
section
variable (h:Nat)(way:List Bt)
noncomputable abbrev LW (m n:Nat):Int:=fL h (c8 way) (wkW way) m n
noncomputable def coW (m n:Nat):PyData:=if 0<LW h way m n then a3C (arW way n) (fW h (c8 way) (wkW way) m n) else goD (arW way n) (fM h (c8 way) (wkW way) m n) (fW h (c8 way) (wkW way) m n)
noncomputable abbrev a0q (m:Nat):List Nat:=j3 (c8 way m) (LW h way m)
noncomputable abbrev psW (m:Nat):List Pn:=(a0q h way m).map (psn (rkW way) (LW h way m) (wkW way))
end
noncomputable def W1s (way:List Bt):Prop:=∀b∈way,∀c∈b,1≤c.2
theorem a1n {way:List Bt}(hw:W1s way){n:Nat}(hn:n<i6 way):1≤wkW way n:=by
 rw[←y6]at hn
 unfold wkW
 have e:way.flatten.getD n (0,0)=way.flatten[n]:=by rw[List.getD_eq_getElem?_getD,List.getElem?_eq_getElem hn];rfl
 rw[e]
 obtain⟨b,hb,hc⟩:=List.mem_flatten.mp (List.getElem_mem hn)
 exact hw b hb _ hc
theorem a1X {way:List Bt}(hw:W1s way)(n:Nat):0≤wkW way n:=by
 by_cases hn:n<i6 way
 ·have:=a1n hw hn;omega
 ·unfold wkW
  rw[←y6]at hn
  have e:way.flatten.getD n (0,0)=(0,0):=by rw[List.getD_eq_getElem?_getD,List.getElem?_eq_none (Nat.not_lt.mp hn)];rfl
  rw[e]
  exact Int.le_refl _
theorem a1v {h:Nat}{way:List Bt}:∀{m n:Nat},c8 way m≤n->LW h way m n=wkW way n∧fW h (c8 way) (wkW way) m n=0
 | 0,n,_=>⟨rfl,rfl⟩
 | m+1,n,hn=>by
  have hm:=P7 way m
  obtain⟨i1,i2⟩:=a1v (h:=h) (way:=way) (m:=m) (n:=n) (by omega)
  have hp:¬pkd h (c8 way (m+1)) (fL h (c8 way) (wkW way) m) n=true:=λe=>by have:=(S5 e).1;omega
  have hpr:prs (c8 way (m+1)) (fL h (c8 way) (wkW way) m) n=false:=by unfold prs;simp[Nat.not_lt.mpr hn]
  refine⟨?_,?_⟩
  ·show nxt _ _ _ n=_
   unfold nxt
   rw[if_neg hp]
   exact i1
  ·rw[fW,if_neg (by simp[hpr])]
   exact i2
section
variable {h:Nat}{way:List Bt}{m:Nat}
theorem K9 (a b:Nat):List.range (a+b)=List.range a++(List.range b).map (a + ·):=List.range_add ..
theorem a4c (hw:W1s way)(hm:m<way.length):j3 (c8 way (m+1)) (LW h way m)=a0q h way m++(List.range (j9 way m).length).map (c8 way m + ·):=by
 unfold a0q j3
 rw[A0 hm,K9,List.filter_append]
 congr 1
 refine List.filter_eq_self.mpr λn hn=>?_
 obtain⟨j,hj,rfl⟩:=List.mem_map.mp hn
 have hj:=List.mem_range.mp hj
 have e:=(a1v (h:=h) (way:=way) (m:=m) (n:=c8 way m+j) (by omega)).1
 have h2:=J3 way (m+1)
 rw[A0 hm]at h2
 have:=a1n hw (n:=c8 way m+j) (by omega)
 exact decide_eq_true (by rw[e];omega)
theorem a87 (hw:W1s way)(hm:m<way.length):y4 none (psW h way m) (j9 way m)=(j3 (c8 way (m+1)) (LW h way m)).map (psn (rkW way) (LW h way m) (wkW way)):=by
 rw[a0B,a4c hw hm,List.map_append]
 congr 1
 rw[List.map_map]
 have e:=C1 ((0:Int),(0:Int)) (λc:Int×Int=>((c.1,c.2,false):Pn)) (j9 way m)
 rw[←e]
 refine List.map_congr_left λj hj=>?_
 have hj:=List.mem_range.mp hj
 have e1:=a3P hm hj
 have e2:=(a1v (h:=h) (way:=way) (m:=m) (n:=c8 way m+j) (by omega)).1
 show _=psn (rkW way) (LW h way m) (wkW way) (c8 way m+j)
 unfold psn
 rw[e2,decide_eq_false (Int.lt_irrefl _)]
 unfold rkW wkW
 rw[e1]
theorem a6G (hw:W1s way)(hm:m<way.length):(List.range (c8 way m)).map (coW h way m)++List.replicate (j9 way m).length (a3C m 0)=(List.range (c8 way (m+1))).map (coW h way m):=by
 rw[A0 hm,K9,List.map_append]
 congr 1
 rw[List.map_map]
 refine(List.eq_replicate_iff.mpr ⟨by simp,λd hd=>?_⟩).symm
 obtain⟨j,hj,rfl⟩:=List.mem_map.mp hd
 have hj:=List.mem_range.mp hj
 obtain⟨e1,e2⟩:=a1v (h:=h) (way:=way) (m:=m) (n:=c8 way m+j) (by omega)
 have h2:=J3 way (m+1)
 rw[A0 hm]at h2
 have h3:=a1n hw (n:=c8 way m+j) (by omega)
 have e3:arW way (c8 way m+j)=m:=a50 hm (by omega) (by rw[A0 hm];omega)
 show coW h way m (c8 way m+j)=_
 unfold coW
 rw[if_pos (by rw[e1];omega),e2,e3]
theorem a9o {i:Nat}(hi:i<(j3 (c8 way (m+1)) (LW h way m)).length)(n:Nat)(hn:n=(j3 (c8 way (m+1)) (LW h way m))[i]) :
  coW h way m n=a3C (arW way n) (fW h (c8 way) (wkW way) m n)∧((i<h∧LW h way m n≤1∧coW h way (m+1) n=goD (arW way n) (m+1) (fW h (c8 way) (wkW way) m n))∨(¬(i<h∧LW h way m n≤1)∧coW h way (m+1) n=a3C (arW way n) (fW h (c8 way) (wkW way) m n+if !decide (i<h) then 1 else 0))):=by
 have hmem:=List.mem_filter.mp (List.getElem_mem hi)
 have hpos:=of_decide_eq_true hmem.2
 have hlt:=List.mem_range.mp hmem.1
 have hpk:=a1u (h:=h) hi
 rw[←hn]at hpos hlt hpk
 have hpr:prs (c8 way (m+1)) (LW h way m) n=true:=by unfold prs;simp[hlt,hpos]
 refine⟨by unfold coW;rw[if_pos hpos],?_⟩
 by_cases hh:i<h
 ·have hp:pkd h (c8 way (m+1)) (LW h way m) n=true:=by rw[hpk];exact decide_eq_true hh
  have eL:LW h way (m+1) n=LW h way m n-1:=by
   show nxt _ _ _ n=_
   unfold nxt
   rw[if_pos hp]
  have eW:fW h (c8 way) (wkW way) (m+1) n=fW h (c8 way) (wkW way) m n:=by rw[fW,if_neg (by rw[show pkd h (c8 way (m+1)) (fL h (c8 way) (wkW way) m) n=true from hp];simp)]
  by_cases h2:LW h way m n≤1
  ·have eM:fM h (c8 way) (wkW way) (m+1) n=m+1:=by rw[fM,if_pos ⟨hp,h2⟩]
   refine .inl ⟨hh,h2,?_⟩
   unfold coW
   rw[if_neg (by omega),eM,eW]
  ·refine .inr ⟨λz=>h2 z.2,?_⟩
   unfold coW
   rw[if_pos (by omega),eW]
   simp[hh]
 ·have hp:¬pkd h (c8 way (m+1)) (LW h way m) n=true:=by rw[hpk];simpa using hh
  have eL:LW h way (m+1) n=LW h way m n:=by
   show nxt _ _ _ n=_
   unfold nxt
   rw[if_neg hp]
  have eW:fW h (c8 way) (wkW way) (m+1) n=fW h (c8 way) (wkW way) m n+1:=by
   rw[fW,if_pos (by
    have e1:prs (c8 way (m+1)) (fL h (c8 way) (wkW way) m) n=true:=hpr
    have e2:pkd h (c8 way (m+1)) (fL h (c8 way) (wkW way) m) n=false:=by
     cases hq:pkd h (c8 way (m+1)) (fL h (c8 way) (wkW way) m) n with
     | true=>exact absurd hq hp
     | false=>rfl
    rw[e1,e2];rfl)]
  refine .inr ⟨λz=>hh z.1,?_⟩
  unfold coW
  rw[if_pos (by omega),eW]
  simp[hh]
theorem b0f {n:Nat}(hn:¬0<LW h way m n):coW h way (m+1) n=coW h way m n:=by
 have hp:¬pkd h (c8 way (m+1)) (LW h way m) n=true:=λe=>hn (S5 e).2.1
 have hpr:prs (c8 way (m+1)) (LW h way m) n=false:=by unfold prs;simp only[Bool.and_eq_false_iff,decide_eq_false_iff_not];exact .inr hn
 have eL:LW h way (m+1) n=LW h way m n:=by
  show nxt _ _ _ n=_
  unfold nxt
  rw[if_neg hp]
 have eW:fW h (c8 way) (wkW way) (m+1) n=fW h (c8 way) (wkW way) m n:=by
  rw[fW,if_neg (by rw[show prs (c8 way (m+1)) (fL h (c8 way) (wkW way) m) n=false from hpr];simp)]
 have eM:fM h (c8 way) (wkW way) (m+1) n=fM h (c8 way) (wkW way) m n:=by rw[fM,if_neg λz=>hp z.1]
 unfold coW
 rw[eL,eW,eM]
end
end L3
namespace L3
open PySem PySem.Spec PyProof.Rows L2
variable [Fam]
noncomputable abbrev fiD (h:Nat):PyData:=.tuple [.int (h:Int),.none,.str "first"]
section
variable {F:FdS}{Q:PyData->FdS->Prop}
theorem a7P (a b:Nat):T6 (a:Int) b=j2 ((List.range b).map (a + ·)):=by
 unfold T6 j2
 rw[List.map_map]
 refine List.map_congr_left λi _=>?_
 show PyData.int ((a:Int)+(i:Int)) = .int ((a+i:Nat):Int)
 have e2:((a+i:Nat):Int)=(a:Int)+(i:Int):=by omega
 rw[e2]
theorem a79 (l:List Nat):B8 0 (j2 l)=(List.range l.length).map λi=>.tuple [.int (i:Int),.int (l.getD i 0:Nat)]:=by
 have key:∀(l:List PyData) (k:Nat),B8 k l=(List.range l.length).map λi=>.tuple [.int ((k+i:Nat):Int),l.getD i .none]:=by
  intro l
  induction l with
  | nil=>intro k;rfl
  | cons d l ih =>
   intro k
   rw[B8,ih,List.length_cons,List.range_succ_eq_map,List.map_cons,List.map_map]
   have e1:(PyData.tuple [.int (k:Int),d]) = .tuple [.int ((k+0:Nat):Int),(d::l).getD 0 .none]:=by simp
   rw[←e1]
   refine congrArg (List.cons _) (List.map_congr_left λi _=>?_)
   simp only[Function.comp,Nat.succ_eq_add_one,List.getD_cons_succ]
   rw[show k+1+i=k+(i+1) by omega]
 rw[key,v8]
 refine List.map_congr_left λi hi=>?_
 have hi:=List.mem_range.mp hi
 unfold j2
 rw[Nat.zero_add,List.getD_eq_getElem?_getD,List.getElem?_map,List.getElem?_eq_getElem hi,List.getD_eq_getElem?_getD,List.getElem?_eq_getElem hi]
 rfl
theorem a6O {h:Nat}{way:List Bt}(hw:W1s way)(hl:i6 way<64)(hn:way.length≤1000)(q:Q (.list ((List.range (c8 way way.length)).map (coW h way way.length))) F) :
  wp (a0Q [.dat (fiD h),.dat (.tuple (way.map btD))] F) Q:=by
 have hr:(PyData.str "first")∈W8:=by simp[W8]
 have ek:kOf (.str "first")=0:=by decide
 have eb:kb (.str "first")=true:=by decide
 have et:tnB (.str "first")=false:=by decide
 unfold a0Q
 refine G4.mpr ?_
 dsimp only[p9,List.map_cons,List.map_nil,List.length_cons,List.length_nil,List.replicate,List.cons_append,List.nil_append,Nat.reduceAdd,Nat.reduceSub]
 refine h7.mpr (S9.mpr (K3.mpr (d8.mpr ⟨sz (by decide),l0 rfl,f9 (h7.mpr (a7T (b40 (n5.mpr (a6W (K3.mpr (d8.mpr ⟨sz (by decide),⟨l0 rfl,l0 rfl⟩,f9 (h7.mpr (O3.mpr (a1B (j5.mpr (j4 rfl (c6 R4 ?_))))))⟩)))))))⟩)))
 rw[b0x]
 refine a4e (λm E F'=>F'=F∧∃o5 o6 o7 o8 o9 o10 o11 o12 o13 o14,E=[some (.dat (fiD h)),some (.dat (.tuple (way.map btD))),some (.own ((List.range (c8 way m)).map (coW h way m))),some (.dat (stD (psW h way m))),some (.own (j2 (a0q h way m))),o5,o6,o7,o8,o9,o10,o11,o12,o13,o14]) _ 0 _ F ⟨rfl,none,none,none,none,none,none,none,none,none,none,rfl⟩ ?_ ?_
 ·rintro R m d e E F1 ⟨rfl,o5,o6,o7,o8,o9,o10,o11,o12,o13,o14,rfl⟩ hR
  rw[Nat.zero_add]at hR ⊢
  obtain⟨hm,rfl⟩:=W6 e
  have hcs:=A0 hm
  have hcl:=J3 way (m+1)
  have hil:(a0q h way m).length≤c8 way m:=by
   have:=List.length_filter_le (λn=>decide (0<LW h way m n)) (List.range (c8 way m))
   rw[List.length_range]at this
   exact this
  have hpl:(psW h way m).length≤c8 way m:=by rw[List.length_map];exact hil
  have hi1:(j3 (c8 way (m+1)) (LW h way m)).length≤c8 way (m+1):=by
   have:=List.length_filter_le (λn=>decide (0<LW h way m n)) (List.range (c8 way (m+1)))
   rw[List.length_range]at this
   exact this
  have Fi:L3.Fi (LW h way m) (wkW way):=a66 (h:=h) (cnt:=c8 way) (w:=wkW way) m
  refine⟨_,rfl,?_⟩
  refine h7.mpr (L5.mpr (l3.mpr (p7.mpr (j5.mpr (j4 rfl (p7.mpr (j5.mpr (j4 rfl (p7.mpr (j5.mpr (j4 rfl (m8.mpr ?_))))))))))))
  refine a48 (pl:=none) (ps:=psW h way m) (bt:=j9 way m) (λv hv=>by cases hv) (by omega) (c6 rfl (f9 ?_))
  have e0:(j9 way m).length-G3 none (psW h way m).length (j9 way m).length=0:=Nat.sub_self _
  rw[a87 hw hm,e0]
  refine h7.mpr (w4.mpr (m5.mpr (A8.mpr (b8.mpr (f8.mpr (i4 rfl (d8.mpr (c6 C8 (f8.mpr (i4 rfl (c6 a3o ⟨l0 rfl,f9 ?_⟩)))))))))))
  rw[List.length_map]
  have eb1:(((j9 way m).length:Nat):Int)-((0:Nat):Int)=((j9 way m).length:Nat):=by omega
  rw[eb1]
  refine h7.mpr (b0D rfl (a63 (b8.mpr (A8.mpr (b8.mpr (f8.mpr (P5 rfl (d8.mpr (c6 a2j (b8.mpr (m5.mpr (A8.mpr (b8.mpr (f8.mpr (P5 rfl (d8.mpr (c6 a2j (f8.mpr (i4 rfl (c6 a1D (d8.mpr ?_)))))))))))))))))))))
  rw[List.length_map,List.length_range]
  refine c6 (a7F (by omega) (by omega) (by omega) (by omega)) ?_
  have er:((((c8 way m:Nat):Int)+((j9 way m).length:Nat))-((c8 way m:Nat):Int)).toNat=(j9 way m).length:=by omega
  rw[er,a7P]
  refine⟨by rw[v8];simp;omega,_,rfl,by rw[v8,v8];simp;omega,f9 ?_⟩
  have ei:j2 (a0q h way m)++j2 ((List.range (j9 way m).length).map (c8 way m + ·))=j2 (j3 (c8 way (m+1)) (LW h way m)):=by
   rw[a4c hw hm];unfold j2;rw[List.map_append]
  rw[ei]
  refine h7.mpr (b0D rfl (m5.mpr (m5.mpr (a3y.mpr (b8.mpr (A3.mpr (b8.mpr (n5.mpr (b8.mpr (j5.mpr (j4 rfl (b8.mpr (n5.mpr (d8.mpr ⟨r8 rfl,d8.mpr ⟨r8 rfl,f8.mpr (i4 rfl (c6 (b0Y (by omega)) ?_))⟩⟩))))))))))))))
  refine m5.mpr (a3y.mpr (b8.mpr (A3.mpr (b8.mpr (n5.mpr (b8.mpr (j5.mpr (j4 rfl (d8.mpr ⟨r8 rfl,d8.mpr ⟨r8 rfl,f8.mpr (i4 rfl (c6 (b0Y (k:=0) (by omega)) ?_))⟩⟩)))))))))
  refine c6 (b1z (by simp;omega)) ⟨_,rfl,by simp;omega,f9 ?_⟩
  have et1:(List.range (c8 way m)).map (coW h way m)++(List.replicate (j9 way m).length (PyData.tuple [.str "in",.int (m:Int),.int 0])++List.replicate 0 (PyData.tuple [.str "lost",.int (m:Int)]))=(List.range (c8 way (m+1))).map (coW h way m):=by
   rw[List.replicate_zero,List.append_nil]
   exact a6G hw hm
  rw[et1]
  refine h7.mpr (L5.mpr (l3.mpr (p7.mpr (j5.mpr (j4 rfl (p7.mpr (j5.mpr (j4 rfl (m8.mpr ?_)))))))))
  refine a45 (h:=h) (pl:=.none) hr (by rw[List.length_map];omega) (c6 rfl (f9 ?_))
  rw[ek,eb,et]
  have hpk:=R3 (h:=h) (c:=c8 way (m+1)) (rk:=rkW way) Fi
  have hgn:∀i,i<(j3 (c8 way (m+1)) (LW h way m)).length->(i∈J5 (t7 h 0 true ((j3 (c8 way (m+1)) (LW h way m)).map (psn (rkW way) (LW h way m) (wkW way)))) ((j3 (c8 way (m+1)) (LW h way m)).map (psn (rkW way) (LW h way m) (wkW way)))↔i<h∧LW h way m ((j3 (c8 way (m+1)) (LW h way m)).getD i 0)≤1):=λi hi=>by
   unfold J5
   rw[List.mem_filter,hpk,decide_eq_true_eq,a0a hi]
   have eg:(j3 (c8 way (m+1)) (LW h way m)).getD i 0=(j3 (c8 way (m+1)) (LW h way m))[i]:=by rw[List.getD_eq_getElem?_getD,List.getElem?_eq_getElem hi];rfl
   rw[eg]
   exact⟨λz=>⟨z.1.2,z.2⟩,λz=>⟨⟨hi,z.1⟩,z.2⟩⟩
  have hst:=a2E (h:=h) (c:=c8 way (m+1)) (rk:=rkW way) Fi
  have haf:=a2e (h:=h) (c:=c8 way (m+1)) (rk:=rkW way) Fi
  have hPs:∀j∈t7 h 0 true ((j3 (c8 way (m+1)) (LW h way m)).map (psn (rkW way) (LW h way m) (wkW way))),j≤1000:=λj hj=>by have:=(hpk j).mp hj;omega
  have hGs:∀j∈J5 (t7 h 0 true ((j3 (c8 way (m+1)) (LW h way m)).map (psn (rkW way) (LW h way m) (wkW way)))) ((j3 (c8 way (m+1)) (LW h way m)).map (psn (rkW way) (LW h way m) (wkW way))),j≤1000:=λj hj=>hPs j (List.mem_filter.mp hj).1
  have hstl:(A7 false (t7 h 0 true ((j3 (c8 way (m+1)) (LW h way m)).map (psn (rkW way) (LW h way m) (wkW way)))) ((j3 (c8 way (m+1)) (LW h way m)).map (psn (rkW way) (LW h way m) (wkW way)))).length≤1000:=by
   have:=congrArg List.length hst
   rw[List.length_map]at this
   rw[this]
   have h9:=List.length_filter_le (λn=>decide (0<nxt h (c8 way (m+1)) (LW h way m) n)) (List.range (c8 way (m+1)))
   rw[List.length_range]at h9
   unfold j3
   omega
  have hsti:∀i∈A7 false (t7 h 0 true ((j3 (c8 way (m+1)) (LW h way m)).map (psn (rkW way) (LW h way m) (wkW way)))) ((j3 (c8 way (m+1)) (LW h way m)).map (psn (rkW way) (LW h way m) (wkW way))),i<(j3 (c8 way (m+1)) (LW h way m)).length:=λi hi=>by
   have:=(a7V P4 J6 hi).1
   rwa [List.length_map]at this
  unfold after at haf
  generalize hP:t7 h 0 true ((j3 (c8 way (m+1)) (LW h way m)).map (psn (rkW way) (LW h way m) (wkW way)))=P at hpk hgn hst haf hPs hGs hstl hsti
  generalize hG:J5 P ((j3 (c8 way (m+1)) (LW h way m)).map (psn (rkW way) (LW h way m) (wkW way)))=G at hgn hGs
  generalize hS:A7 false P ((j3 (c8 way (m+1)) (LW h way m)).map (psn (rkW way) (LW h way m) (wkW way)))=S at hst haf hstl hsti
  generalize hT:D2 P true ((j3 (c8 way (m+1)) (LW h way m)).map (psn (rkW way) (LW h way m) (wkW way)))=T at haf
  have hstep:=λi hi=>a9o (h:=h) (way:=way) (m:=m) (i:=i) hi
  have hnd:=a5a (c8 way (m+1)) (LW h way m)
  have hlt1:∀n∈j3 (c8 way (m+1)) (LW h way m),n<c8 way (m+1):=λn hn=>List.mem_range.mp (List.mem_filter.mp hn).1
  have hpos1:∀n,n<c8 way (m+1)->n ∉ j3 (c8 way (m+1)) (LW h way m)->¬0<LW h way m n:=λn hn hni hz=>hni (List.mem_filter.mpr ⟨List.mem_range.mpr hn,decide_eq_true hz⟩)
  have hnext:j3 (c8 way (m+1)) (nxt h (c8 way (m+1)) (LW h way m))=a0q h way (m+1):=rfl
  rw[hnext]at hst haf
  generalize hl1:j3 (c8 way (m+1)) (LW h way m)=l at *
  refine h7.mpr (a2V rfl (O3.mpr (a1B (j5.mpr (j4 rfl (c6 K4 ?_))))))
  rw[a79]
  refine a4e (λp E F'=>F'=F1∧∃o13 o14,E=[some (.dat (fiD h)),some (.dat (.tuple (way.map btD))),some (.own ((List.range (c8 way (m+1))).map λn=>if n∈l.take p then coW h way (m+1) n else coW h way m n)),some (.dat (stD (psW h way m))),some (.dat (.list (j2 l))),some (.dat (.int (m:Int))),some (.dat (btD (j9 way m))),some (.dat (.tuple ((l.map (psn (rkW way) (LW h way m) (wkW way))).map pnD))),some (.dat (.int ((0:Nat):Int))),some (.dat (.int ((j9 way m).length:Nat))),some (.dat (.list (S.map λi=>prD (i,T i)))),some (.dat (.tuple (j2 P))),some (.dat (.tuple (j2 G))),o13,o14]) _ 0 _ F1 ⟨rfl,o13,o14,?_⟩ ?_ ?_
  ·have e1:((List.range (c8 way (m+1))).map λn=>if n∈l.take 0 then coW h way (m+1) n else coW h way m n)=(List.range (c8 way (m+1))).map (coW h way m):=List.map_congr_left λn _=>by simp
   rw[e1]
   rfl
  ·rintro R2 p d2 e2 E F2 ⟨rfl,o13,o14,rfl⟩ hR2
   rw[Nat.zero_add]at hR2 ⊢
   obtain⟨hp,rfl⟩:=W6 e2
   have eg:l.getD p 0=l[p]:=by rw[List.getD_eq_getElem?_getD,List.getElem?_eq_getElem hp];rfl
   have hnl:=hlt1 l[p] (List.getElem_mem hp)
   obtain⟨s1,s2⟩:=hstep p hp l[p] rfl
   refine⟨_,rfl,(a4U rfl).mpr ?_⟩
   rw[eg]
   have hnot:l[p] ∉ l.take p:=λz=>by
    obtain⟨j,hj,ej⟩:=List.getElem_of_mem z
    rw[List.getElem_take]at ej
    have hj2:j<p:=by simp at hj;omega
    exact absurd ((List.nodup_iff_pairwise_ne.mp hnd |> List.pairwise_iff_getElem.mp) j p (by omega) hp hj2) (by simp[ej])
   have eat:ixD (.list ((List.range (c8 way (m+1))).map λn=>if n∈l.take p then coW h way (m+1) n else coW h way m n)) (.int (l[p]:Nat))=some (a3C (arW way l[p]) (fW h (c8 way) (wkW way) m l[p])):=by
    rw[←s1]
    have:=V2 (f:=λn=>if n∈l.take p then coW h way (m+1) n else coW h way m n) (n:=c8 way (m+1)) (i:=l[p]) hnl
    rw[if_neg hnot]at this
    exact this
   have done:∀(y:PyData) (F3:FdS),F3=F2->y=coW h way (m+1) l[p]->wp (sV 14 [some (.dat (fiD h)),some (.dat (.tuple (way.map btD))),some (.own ((List.range (c8 way (m+1))).map λn=>if n∈l.take p then coW h way (m+1) n else coW h way m n)),some (.dat (stD (psW h way m))),some (.dat (.list (j2 l))),some (.dat (.int (m:Int))),some (.dat (btD (j9 way m))),some (.dat (.tuple ((l.map (psn (rkW way) (LW h way m) (wkW way))).map pnD))),some (.dat (.int ((0:Nat):Int))),some (.dat (.int ((j9 way m).length:Nat))),some (.dat (.list (S.map λi=>prD (i,T i)))),some (.dat (.tuple (j2 P))),some (.dat (.tuple (j2 G))),some (.dat (.int (p:Int))),some (.dat (.int (l[p]:Nat)))] F3) λz F4=>oB (a06 z) λn=>oB (ixN ((List.range (c8 way (m+1))).map λn=>if n∈l.take p then coW h way (m+1) n else coW h way m n).length n) λj=>R2 (Out.nx (([some (.dat (fiD h)),some (.dat (.tuple (way.map btD))),some (.own ((List.range (c8 way (m+1))).map λn=>if n∈l.take p then coW h way (m+1) n else coW h way m n)),some (.dat (stD (psW h way m))),some (.dat (.list (j2 l))),some (.dat (.int (m:Int))),some (.dat (btD (j9 way m))),some (.dat (.tuple ((l.map (psn (rkW way) (LW h way m) (wkW way))).map pnD))),some (.dat (.int ((0:Nat):Int))),some (.dat (.int ((j9 way m).length:Nat))),some (.dat (.list (S.map λi=>prD (i,T i)))),some (.dat (.tuple (j2 P))),some (.dat (.tuple (j2 G))),some (.dat (.int (p:Int))),some (.dat (.int (l[p]:Nat)))]:DE).set 2 (some (.own (((List.range (c8 way (m+1))).map λn=>if n∈l.take p then coW h way (m+1) n else coW h way m n).set j y))))) F4:=by
    rintro y F3 rfl rfl
    refine j5.mpr (j4 rfl (c6 rfl (c6 (z:=l[p]) ?_ ?_)))
    ·unfold ixN
     rw[if_pos (by omega),if_pos (by simp;omega),Int.toNat_natCast]
    ·have es:((List.range (c8 way (m+1))).map λn=>if n∈l.take p then coW h way (m+1) n else coW h way m n).set l[p] (coW h way (m+1) l[p])=(List.range (c8 way (m+1))).map λn=>if n∈l.take (p+1) then coW h way (m+1) n else coW h way m n:=by
      apply List.ext_getElem
      ·simp
      ·intro k h1 h2
       simp only[List.length_set,List.length_map,List.length_range]at h1
       rw[List.getElem_set]
       simp only[List.getElem_map,List.getElem_range]
       have et:l.take (p+1)=l.take p++[l[p]]:=by rw[List.take_add_one,List.getElem?_eq_getElem hp];rfl
       by_cases hk:l[p]=k
       ·rw[if_pos hk,←hk,if_pos (by rw[et];exact List.mem_append_right _ List.mem_cons_self)]
       ·rw[if_neg hk,et]
        have:(k∈l.take p++[l[p]])↔k∈l.take p:=by
         rw[List.mem_append]
         constructor
         ·rintro (z | z)
          ·exact z
          ·simp at z;exact absurd z.symm hk
         ·exact .inl
        by_cases hkm:k∈l.take p
        ·rw[if_pos hkm,if_pos (this.mpr hkm)]
        ·rw[if_neg hkm,if_neg λz=>hkm (this.mp z)]
     exact hR2 _ _ ⟨rfl,_,_,by rw[es];rfl⟩
   refine l3.mpr (p7.mpr (m5.mpr (f8.mpr (P5 rfl (f8.mpr (i4 rfl (c6 eat (p7.mpr (m5.mpr (f8.mpr (i4 rfl (f8.mpr (i4 rfl (c6 (a0V hPs) (p7.mpr (a1a.mpr (K6.mpr (m5.mpr (f8.mpr (i4 rfl (f8.mpr (i4 rfl (c6 (b2o hGs) (c6 rfl ?_))))))))))))))))))))))))
   have epk:decide (p∈P)=decide (p<h):=by rw[decide_eq_decide,hpk];exact⟨λz=>z.2,λz=>⟨hp,z⟩⟩
   rw[epk]
   rcases s2 with ⟨c1,c2,c3⟩ | ⟨c1,c3⟩
   ·have hg:=(hgn p hp).mpr ⟨c1,by rw[eg];exact c2⟩
    rw[decide_eq_true hg,decide_eq_true c1]
    refine C3 rfl (m5.mpr (f8.mpr (i4 rfl (n5.mpr (c6 rfl (m8.mpr ?_))))))
    refine a4C (m:=m+1) (done _ _ rfl c3.symm)
   ·have hg:¬p∈G:=λz=>c1 (by have:=(hgn p hp).mp z;rw[eg]at this;exact this)
    rw[decide_eq_false hg]
    refine l4 rfl (n5.mpr (m8.mpr (a7E (done _ _ rfl c3.symm))))
  ·rintro E F2 ⟨rfl,o13,o14,rfl⟩
   rw[Nat.zero_add,List.length_map,List.length_range,List.take_length]
   have e1:((List.range (c8 way (m+1))).map λn=>if n∈l then coW h way (m+1) n else coW h way m n)=(List.range (c8 way (m+1))).map (coW h way (m+1)):=List.map_congr_left λn hn=>by
    by_cases hz:n∈l
    ·rw[if_pos hz]
    ·rw[if_neg hz]
     exact(b0f (hpos1 n (List.mem_range.mp hn) hz)).symm
   rw[e1]
   refine f9 (h7.mpr (S9.mpr (b2W (B7.mpr (f8.mpr (i4 rfl (c6 K4 ⟨sz (by rw[List.length_map];omega),?_⟩)))))))
   refine a5n (x:=λi:Nat=>.int (i:Int)) (y:=λi=>pnD (T i)) (f:=λi=>.int (l.getD i 0:Nat)) S _ _ (λi hi F Q q=>?_) ?_
   ·refine m5.mpr (f8.mpr (i4 rfl (f8.mpr (i4 rfl (c6 ?_ q)))))
    have hi2:=hsti i hi
    show atI (j2 l) (i:Int)=_
    refine a1y ?_
    unfold j2
    rw[List.getElem?_map,List.getElem?_eq_getElem hi2,List.getD_eq_getElem?_getD,List.getElem?_eq_getElem hi2]
    rfl
   ·have e3:S.map (λi=>PyData.int (l.getD i 0:Nat))=j2 (a0q h way (m+1)):=by
     rw[←hst];unfold j2;rw[List.map_map];rfl
    rw[e3]
    refine⟨l0 rfl,f9 (w4.mpr (A8.mpr (b8.mpr (P9.mpr (B7.mpr (f8.mpr (i4 rfl (c6 K4 ⟨sz (by rw[List.length_map];omega),?_⟩))))))))⟩
    refine a5n (x:=λi:Nat=>.int (i:Int)) (y:=λi=>pnD (T i)) (f:=λi=>pnD (T i)) S _ _ (λi hi F Q q=>j5.mpr (j4 rfl q)) (d8.mpr (c6 rfl ⟨l0 rfl,?_⟩))
    have e4:S.map (λi=>pnD (T i))=(psW h way (m+1)).map pnD:=by
     show _=List.map pnD (List.map _ (a0q h way (m+1)))
     rw[show(a0q h way (m+1)).map (psn (rkW way) (LW h way (m+1)) (wkW way))=S.map T from haf.symm,List.map_map]
     rfl
    exact hR _ _ ⟨rfl,_,_,_,_,_,_,_,_,_,_,by rw[e4];rfl⟩
 ·rintro E F1 ⟨rfl,o5,o6,o7,o8,o9,o10,o11,o12,o13,o14,rfl⟩
  rw[Nat.zero_add,List.length_map,List.length_range]
  exact f9 (D6.mpr (f8.mpr (P5 rfl (D1 q))))
end
variable [Fam]
noncomputable def a0F:List DV->M PyData:=z6 ["house","way","stand","voids"] (mSq (v5 2 (s2 ixD (s2 ixD (i8 a93 (vD (sV 0) (vD (sV 1) (vD (sC (.tuple [])) n6)))) (sC (.int 0))) (s1 a5h (sC (.int 1)))))
  (mSq (v5 3 (sC (.int 0)))
  (mSq (mWh (uB (s2 gtD (sN z7 (a9 (sW 2) d7)) (sC (.int 0)))) (mSq (v5 2 (s2 ixD (i8 a3s (vD (sV 0) (vD (sV 2) (vD (sC (.tuple [])) n6)))) (sC (.int 0))))
  (a1l (λi j=>i+j) 3 (sC (.int 1)))))
  (mRt (s2 B5 (sW 1) (s2 X5 (sC (.tuple [.tuple []])) (sW 3)))))))
noncomputable def R6:List DV->M PyData:=z6 ["course","other"] (mSq (mIf (uB (s2 (eqD true) (s2 ixD (sW 1) (sC (.int 0))) (sC (.str "gone")))) (mRt (sC (.bool false))) mNx)
  (mRt (sOr (s2 (eqD false) (s2 ixD (sW 0) (sC (.int 0))) (sC (.str "in"))) (a6M (s2 (eqD false) (s2 ixD (sW 0) (sC (.int 0))) (sC (.str "gone"))) (s2 gtD (s2 ixD (sW 0) (sC (.int 2))) (s2 ixD (sW 1) (sC (.int 2))))))))
noncomputable def a3b:List DV->M PyData:=z6 ["one","other"] (mRt (sLC (M5 (sW 0)) 2 [1] (t9 2 (d4 (bN 0) (d4 (bN 1) u8))) (uT (i8 R6 (vD (sV 1) (vD (s2 ixD (sW 2) (sW 0)) n6)))) (sV 0)))
theorem a3O {h:Nat}{way:List Bt}{m:Nat}:after h 0 true false ((j3 (c8 way (m+1)) (LW h way m)).map (psn (rkW way) (LW h way m) (wkW way)))=psW h way (m+1):=a2e (L:=LW h way m) (a66 (h:=h) (cnt:=c8 way) (w:=wkW way) m)
theorem a81 {h:Nat}{way:List Bt}(hw:W1s way):∀{m:Nat},m≤way.length->Y1 (N4 h 0 true false none) [] way m=psW h way m
 | 0,_=>by rw[a0C];rfl
 | m+1,hm=>by
  rw[a0x (by omega),a81 hw (m:=m) (by omega)]
  show after h 0 true false (y4 none _ _)=_
  rw[a87 hw (by omega),a3O]
theorem M7 {way:List Bt}{m:Nat}(h:way.length≤m):c8 way m=i6 way:=by
 unfold c8
 rw[List.take_of_length_le h]
theorem a41 {h:Nat}{way:List Bt}{m:Nat}(hm:way.length≤m):after h 0 true false (y4 none (psW h way m) [])=psW h way (m+1):=by
 rw[a0B,List.map_nil,List.append_nil,←a3O,M7 (show way.length≤m+1 by omega),←M7 hm]
theorem a5v {h:Nat}{way:List Bt}{m:Nat}:a9Q (psW h way m):=λp hp=>by
 obtain⟨n,hn,rfl⟩:=List.mem_map.mp hp
 have:=of_decide_eq_true (List.mem_filter.mp hn).2
 show 1≤LW h way m n
 omega
theorem b2B {k:Nat}(h:k≤1000):X5 (.tuple [.tuple []]) (.int (k:Int))=some (.tuple ((List.replicate k ([]:Bt)).map btD)):=by
 have e:(List.replicate ((k:Int)).toNat [PyData.tuple []]).flatten=(List.replicate k ([]:Bt)).map btD:=by
  rw[Int.toNat_natCast,List.map_replicate]
  clear h
  induction k with
  | zero=>rfl
  | succ k ih=>rw[List.replicate_succ,List.flatten_cons,ih,List.replicate_succ];rfl
 rw[←e]
 have hz:[PyData.tuple []].length*((k:Int)).toNat≤sizeLine:=sz (by rw[Int.toNat_natCast];show 1*k≤_;omega)
 have h1:-(2 ^ 63)≤(k:Int):=by omega
 have h2:(k:Int)<2 ^ 63:=by omega
 generalize (k:Int)=i at hz h1 h2
 exact if_pos ⟨h1,h2,hz⟩
noncomputable def muV (S:Int)(E:DE):Nat:=match E[3]? with
 | some (some (DV.dat (PyData.int v)))=>(S-v).toNat
 | _=>0
theorem b0j:¬(("gone":Str) = "in"):=by decide +kernel
theorem b0y:eqD true (.str "gone") (.str "gone")=some (.bool false):=by
 show some (PyData.bool (if true=true then !decide (("gone":Str) = "gone") else decide (("gone":Str) = "gone")))=_
 rw[if_pos rfl,decide_eq_true rfl];rfl
theorem a6s:eqD false (.str "gone") (.str "gone")=some (.bool true):=by
 show some (PyData.bool (if false=true then !decide (("gone":Str) = "gone") else decide (("gone":Str) = "gone")))=_
 rw[if_neg (by decide),decide_eq_true rfl]
theorem b2O:eqD false (.str "gone") (.str "in")=some (.bool false):=by
 show some (PyData.bool (if false=true then !decide (("gone":Str) = "in") else decide (("gone":Str) = "in")))=_
 rw[if_neg (by decide),decide_eq_false b0j]
section
variable {F:FdS}{Q:PyData->FdS->Prop}
theorem a6N {h:Nat}{way:List Bt}(hh:1≤h)(hw:W1s way)(hl:i6 way<64)(hn:way.length≤100)(hS:U2 (psW h way way.length)≤500)(q:∀v:Nat,v≤500->psW h way (way.length+v)=[]->Q (.tuple ((way++List.replicate v []).map btD)) F) :
  wp (a0F [.dat (fiD h),.dat (.tuple (way.map btD))] F) Q:=by
 have hr:(PyData.str "first")∈W8:=by simp[W8]
 have ek:kOf (.str "first")=0:=by decide
 have eb:kb (.str "first")=true:=by decide
 have et:tnB (.str "first")=false:=by decide
 unfold a0F
 refine G4.mpr ?_
 dsimp only[p9,List.map_cons,List.map_nil,List.length_cons,List.length_nil,List.replicate,List.cons_append,List.nil_append,Nat.reduceAdd,Nat.reduceSub]
 refine h7.mpr (w4.mpr (m5.mpr (m5.mpr (l3.mpr (p7.mpr (j5.mpr (j4 rfl (p7.mpr (j5.mpr (j4 rfl (p7.mpr (n5.mpr (m8.mpr ?_)))))))))))))
 refine b3f (h:=h) (pl:=none) (ps:=[]) (way:=way) hr (λi _ v hv=>by cases hv) (by simpa using hl) (by omega) (n5.mpr (c6 rfl (b0l.mpr (n5.mpr (c6 rfl ?_)))))
 rw[ek,eb,et]
 have elast:ixD (.tuple ((List.range (way.length+1)).map λi=>stD (Y1 (N4 h 0 true false none) [] way i))) (.int (-1))=some (stD (psW h way way.length)):=by
  rw[←a81 hw (Nat.le_refl _),List.range_succ,List.map_append]
  exact a7K
 refine c6 elast ⟨l0 rfl,f9 (h7.mpr (w4.mpr (n5.mpr ⟨l0 rfl,f9 (h7.mpr ?_)⟩)))⟩
 have hs0:=a6g (a5v (h:=h) (way:=way) (m:=way.length))
 refine b41 (λE F'=>F'=F∧∃v:Nat,E=[some (.dat (fiD h)),some (.dat (.tuple (way.map btD))),some (.dat (stD (psW h way (way.length+v)))),some (.dat (.int (v:Int)))]∧U2 (psW h way (way.length+v))+v≤U2 (psW h way way.length)) (muV (U2 (psW h way way.length))) ⟨rfl,0,rfl,by simp⟩ ?_
 rintro E F1 ⟨rfl,v,rfl,hv⟩
 have hlen:=a6g (a5v (h:=h) (way:=way) (m:=way.length+v))
 have hplen:(psW h way (way.length+v)).length<64:=by
  have h9:=List.length_filter_le (λn=>decide (0<LW h way (way.length+v) n)) (List.range (c8 way (way.length+v)))
  rw[List.length_range]at h9
  have:=J3 way (way.length+v)
  rw[List.length_map]
  show(j3 _ _).length<64
  unfold j3
  omega
 refine K6.mpr (m5.mpr (A8.mpr (b8.mpr (f8.mpr (i4 rfl (d8.mpr (c6 C8 (n5.mpr (c6 a62 (c6 rfl (T3 (λhc=>?_) λhc=>?_)))))))))))
 ·rw[List.length_map]at hc
  have hc:(0:Int)<((psW h way (way.length+v)).length:Nat):=of_decide_eq_true hc
  refine h7.mpr (w4.mpr (m5.mpr (l3.mpr (p7.mpr (j5.mpr (j4 rfl (p7.mpr (j5.mpr (j4 rfl (p7.mpr (n5.mpr (m8.mpr ?_))))))))))))
  refine a9n (h:=h) (pl:=none) (bt:=[]) hr (λv hv=>by cases hv) (by simpa using hplen) (n5.mpr (c6 rfl ⟨l0 rfl,f9 ?_⟩))
  rw[ek,eb,et,a41 (by omega)]
  refine a3p (x:=(v:Int)) rfl (n5.mpr ⟨1,rfl,?_⟩)
  have hsum:=a6Y (h:=h) (k:=0) (kp:=true) (tn:=false) (a5v (h:=h) (way:=way) (m:=way.length+v))
  have e0:after h 0 true false (psW h way (way.length+v))=psW h way (way.length+v+1):=by
   have:=a41 (h:=h) (way:=way) (m:=way.length+v) (by omega)
   rwa [a0B,List.map_nil,List.append_nil]at this
  rw[e0]at hsum
  have e1:(v:Int)+1=((v+1:Nat):Int):=by omega
  refine⟨_,rfl,⟨rfl,v+1,by rw[e1];rfl,by show U2 (psW h way (way.length+v+1))+((v+1:Nat):Int)≤_;omega⟩,?_⟩
  show(U2 (psW h way way.length)-((v:Int)+1)).toNat<(U2 (psW h way way.length)-(v:Int)).toNat
  omega
 ·rw[List.length_map]at hc
  have hc:¬(0:Int)<((psW h way (way.length+v)).length:Nat):=of_decide_eq_false hc
  have hnil:psW h way (way.length+v)=[]:=List.length_eq_zero_iff.mp (by omega)
  refine f9 (D6.mpr (m5.mpr (f8.mpr (i4 rfl (m5.mpr (n5.mpr (f8.mpr (i4 rfl (c6 (b2B (k:=v) (by omega)) (c6 (b3E (by simp;omega)) (D1 ?_)))))))))))
  rw[←List.map_append]
  exact q v (by omega) hnil
theorem b2h {a m w a' m' w':Nat}(q:Q (.bool (decide (m'<m))) F):wp (R6 [.dat (goD a m w),.dat (goD a' m' w')] F) Q:=by
 unfold R6
 refine G4.mpr ?_
 dsimp only[p9,List.map_cons,List.map_nil,List.length_cons,List.length_nil,List.replicate,List.cons_append,List.nil_append,Nat.reduceAdd,Nat.reduceSub]
 refine h7.mpr (G5.mpr (K6.mpr (m5.mpr (m5.mpr (f8.mpr (i4 rfl (n5.mpr (c6 rfl (n5.mpr (c6 b0y (c6 rfl (l4 rfl (M1.mpr (f9 ?_))))))))))))))
 have eg:decide ((m':Int)<(m:Int))=decide (m'<m):=by rw[decide_eq_decide];omega
 refine D6.mpr (b18.mpr (m5.mpr (m5.mpr (f8.mpr (i4 rfl (n5.mpr (c6 rfl (n5.mpr (c6 b2O (c6 rfl (l4 rfl ?_)))))))))))
 refine a4x.mpr (m5.mpr (m5.mpr (f8.mpr (i4 rfl (n5.mpr (c6 rfl (n5.mpr (c6 a6s (c6 rfl (C3 rfl ?_))))))))))
 refine m5.mpr (m5.mpr (f8.mpr (i4 rfl (n5.mpr (c6 rfl (m5.mpr (f8.mpr (i4 rfl (n5.mpr (c6 rfl (c6 a62 (D1 ?_))))))))))))
 rw[eg]
 exact q
noncomputable def goL (N:Nat)(a m w:Nat->Nat):List PyData:=(List.range N).map λk=>goD (a k) (m k) (w k)
theorem a6t (N:Nat)(f:Nat->PyData):B8 0 ((List.range N).map f)=(List.range N).map λi=>.tuple [.int (i:Int),f i]:=by
 have key:∀(l:List PyData) (k:Nat),B8 k l=(List.range l.length).map λi=>.tuple [.int ((k+i:Nat):Int),l.getD i .none]:=by
  intro l
  induction l with
  | nil=>intro k;rfl
  | cons d l ih =>
   intro k
   rw[B8,ih,List.length_cons,List.range_succ_eq_map,List.map_cons,List.map_map]
   have e1:(PyData.tuple [.int (k:Int),d]) = .tuple [.int ((k+0:Nat):Int),(d::l).getD 0 .none]:=by simp
   rw[←e1]
   refine congrArg (List.cons _) (List.map_congr_left λi _=>?_)
   simp only[Function.comp,Nat.succ_eq_add_one,List.getD_cons_succ]
   rw[show k+1+i=k+(i+1) by omega]
 rw[key,List.length_map,List.length_range]
 refine List.map_congr_left λi hi=>?_
 have hi:=List.mem_range.mp hi
 rw[Nat.zero_add,List.getD_eq_getElem?_getD,List.getElem?_map,List.getElem?_eq_getElem (by simpa using hi)]
 simp
theorem a6c {N:Nat}{a m w a' m' w':Nat->Nat}(hN:N≤1000)(q:Q (.list (j2 ((List.range N).filter λk=>decide (m' k<m k)))) F):wp (a3b [.dat (.list (goL N a m w)),.dat (.list (goL N a' m' w'))] F) Q:=by
 unfold a3b
 refine G4.mpr ?_
 dsimp only[p9,List.map_cons,List.map_nil,List.length_cons,List.length_nil,List.replicate,List.cons_append,List.nil_append,Nat.reduceAdd,Nat.reduceSub]
 refine D6.mpr (P9.mpr (a1B (f8.mpr (i4 rfl (c6 K4 ?_)))))
 unfold goL
 rw[a6t]
 refine⟨sz (by simp;omega),?_⟩
 refine a9v (x:=λi:Nat=>.int (i:Int)) (y:=λk=>goD (a k) (m k) (w k)) (g:=λk=>decide (m' k<m k)) (f:=λi:Nat=>.int (i:Int)) _ _ _ (λi hi F Q q=>?_) (λi hi _ F Q q=>j5.mpr (j4 rfl q)) ?_
 ·have hi:=List.mem_range.mp hi
  refine a4z.mpr (l3.mpr (p7.mpr (j5.mpr (j4 rfl (p7.mpr (m5.mpr (f8.mpr (i4 rfl (f8.mpr (i4 rfl (c6 (V2 (f:=λk=>goD (a' k) (m' k) (w' k)) hi) (m8.mpr (b2h (c6 rfl q)))))))))))))) 
 ·exact D1 q
end
end L3
namespace L3
open PySem PySem.Spec PyProof.Rows L2
section
variable (h k:Nat)(kp tn:Bool)(pl:Option Nat)
end
section
variable {h k:Nat}{kp tn:Bool}{pl:Option Nat}{t:Nat}{bt:Bt}{s:CS}
end
end L3
namespace L3
open PySem PySem.Spec PyProof.Rows L2
variable [Fam]
section
variable {F:FdS}{Q:PyData->FdS->Prop}
end
variable [Fam]
section
variable {F:FdS}{Q:PyData->FdS->Prop}
end
variable [Fam]
noncomputable def a2a (nm:List Str):List DV->M PyData:=z6 ["_law_feed_here","_law_size"] (mSq (v5 1 (i8 drawS (vF 0 (vD (sC (.int 3)) n6))))
  (mRt (i8 (a4S nm) (vF 0 (vD (s2 ixD (sC (.list [.int 5,.int 9,.int 24])) (sW 1)) (vD (s2 ixD (sC (.list [.int 6,.int 4,.int 2])) (sW 1)) n6))))))
theorem a85 {nm:List Str}(hnm:nm.length=8):Tr (a2a nm) [.feed] 171 (λd=>∃way:List Bt,d = .tuple (way.map btD)∧WayOk 24 way):=Tr.of λF hF=>by
 unfold a2a
 walk_at "go"
 refine C7 (by decide) (by decide) (by omega) λr F1 r0 r1 t1=>?_
 walk_at "go"
 obtain⟨n,w,e1,e2,hn,w1,w2⟩:∃n w:Nat,ixD (.list [.int 5,.int 9,.int 24]) (.int r)=some (.int (n:Int))∧ixD (.list [.int 6,.int 4,.int 2]) (.int r)=some (.int (w:Int))∧n≤24∧1≤w∧w≤6:=by
  have:r=0∨r=1∨r=2:=by omega
  rcases this with rfl | rfl | rfl
  ·exact⟨5,6,rfl,rfl,by decide,by decide,by decide⟩
  ·exact⟨9,4,rfl,rfl,by decide,by decide,by decide⟩
  ·exact⟨24,2,rfl,rfl,by decide,by decide,by decide⟩
 refine c6 e1 ?_
 walk_at "go"
 refine c6 e2 (m8.mpr ?_)
 refine(b03 hnm hn w1 w2).wp (by omega) λd F3 t3 hd=>?_
 walk_at "go"
 obtain⟨way,rfl,hw⟩:=hd
 exact⟨by omega,way,rfl,⟨Nat.le_trans hw.len hn,hw.many,hw.ok⟩⟩
end L3
namespace L3
open L2
section
variable {h k:Nat}{kp tn:Bool}{pl:Option Nat}{t b:Nat}{bt:Bt}{s:CS}
end
end L3
namespace L3
open L2
section
variable {h k:Nat}{kp tn:Bool}{pl:Option Nat}{t b:Nat}{bt:Bt}{s:CS}
end
end L3
namespace L3
open PySem PySem.Spec PyProof.Rows L2
variable [Fam]
end L3
namespace L3
open PySem L2
theorem a7w {p:Nat->Bool}{a b:Nat}(h:a≤b):((List.range a).filter p).length≤((List.range b).filter p).length:=by
 obtain⟨d,rfl⟩:∃d,b=a+d:=⟨b-a,by omega⟩
 rw[K9,List.filter_append,List.length_append]
 omega
theorem a5M (p:Nat->Bool)(n:Nat):((List.range (n+1)).filter p).length=((List.range n).filter p).length+if p n=true then 1 else 0:=by
 rw[List.range_succ,List.filter_append,List.length_append]
 by_cases h:p n=true
 ·rw[if_pos h];simp[h]
 ·rw[if_neg h];simp[h]
section
variable {h:Nat}{ι:Nat->Nat}
theorem a5T {p p':Nat->Bool}(hi:∀n,ι n < ι (n+1))(hp:∀n,p n=true->p' (ι n)=true):∀n,((List.range n).filter p).length≤((List.range (ι n)).filter p').length
 | 0=>Nat.zero_le _
 | n+1=>by
  have ih:=a5T hi hp n
  have h1:=a7w (p:=p') (show ι n+1 ≤ ι (n+1) from hi n)
  rw[a5M]at h1
  rw[a5M]
  by_cases hz:p n=true
  ·rw[if_pos hz]
   rw[if_pos (hp n hz)]at h1
   omega
  ·rw[if_neg hz]
   omega
theorem b0k {c c':Nat}{L L':Nat->Int}(hi:∀n,ι n < ι (n+1))(hc:∀n,n<c ↔ ι n<c')(h0:∀n,0≤L n)(hl:∀n,L n≤L' (ι n))(n:Nat):nxt h c L n≤nxt h c' L' (ι n):=by
 have hn:nxt h c L n≤L n:=by unfold nxt;split <;> omega
 unfold nxt at hn ⊢
 by_cases hk:pkd h c' L' (ι n)=true
 ·obtain⟨a1,a2,a3⟩:=S5 hk
  rw[if_pos hk]
  by_cases hz:0<L n
  ·have hp:pkd h c L n=true:=a8B ((hc n).mpr a1) hz (Nat.lt_of_le_of_lt (a5T hi (λj hj=>by
    unfold prs at hj ⊢
    rw[Bool.and_eq_true,decide_eq_true_eq,decide_eq_true_eq]at hj ⊢
    have:=hl j
    exact⟨(hc j).mp hj.1,by omega⟩) n) a3)
   rw[if_pos hp]
   have:=hl n
   omega
  ·have hp:¬pkd h c L n=true:=λz=>hz (S5 z).2.1
   rw[if_neg hp]
   have:=h0 n
   omega
 ·rw[if_neg hk]
  have:=hl n
  omega
theorem a98 {cnt cnt':Nat->Nat}{w w':Nat->Int}(hi:∀n,ι n < ι (n+1))(hc:∀m n,n<cnt m ↔ ι n<cnt' m)(h0:∀n,0≤w n)(hl:∀n,w n≤w' (ι n)):∀m n,fL h cnt w m n≤fL h cnt' w' m (ι n)
 | 0,n=>hl n
 | m+1,n=>b0k hi (hc (m+1)) (λn=>a6k h0 m n) (a98 hi hc h0 hl m) n
theorem b25 {cnt cnt':Nat->Nat}{w w':Nat->Int}(hi:∀n,ι n < ι (n+1))(hc:∀m n,n<cnt m ↔ ι n<cnt' m)(h0:∀n,0≤w n)(h0':∀n,0≤w' n)(hl:∀n,w n≤w' (ι n)){n M M':Nat}(h1:1≤w n)(e:fL h cnt w M n=0)(e':fL h cnt' w' M' (ι n)=0) :
  fM h cnt w M n≤fM h cnt' w' M' (ι n):=by
 have h1':1≤w' (ι n):=by have:=hl n;omega
 rcases a1C (h:=h) (cnt:=cnt) h0 n h1 M with ⟨a1,_⟩ | ⟨_,_,a3⟩
 ·omega
 ·rcases a1C (h:=h) (cnt:=cnt') h0' (ι n) h1' M' with ⟨b1,_⟩ | ⟨_,b2,_⟩
  ·omega
  ·refine Nat.le_of_not_lt λhlt=>?_
   have c1:=a3 _ hlt
   have c2:=a98 (h:=h) hi hc h0 hl (fM h cnt' w' M' (ι n)) n
   omega
end
end L3
namespace L3
open PySem L2
section
variable {α:Type}
theorem a3X {rows:List (List α)}{b:Nat}(hb:b<rows.length)(r:List α):(rows.set b r).flatten=(rows.take b).flatten++(r++(rows.drop (b+1)).flatten):=by
 rw[List.set_eq_take_append_cons_drop,if_pos hb,List.flatten_append,List.flatten_cons]
theorem a3A {rows:List (List α)}{b:Nat}(hb:b<rows.length)(p:Nat)(x:α) :
  (rows.set b (rows[b].take p++[x]++rows[b].drop p)).flatten=rows.flatten.take ((rows.take b).flatten.length+min p rows[b].length)++[x]++rows.flatten.drop ((rows.take b).flatten.length+min p rows[b].length):=by
 have e:rows.flatten=(rows.take b).flatten++(rows[b]++(rows.drop (b+1)).flatten):=by
  rw[←a3X hb rows[b],List.set_getElem_self]
 rw[a3X hb]
 generalize (rows.take b).flatten=A at e ⊢
 generalize (rows.drop (b+1)).flatten=C at e ⊢
 generalize rows[b]=r at e ⊢
 rw[e,List.take_length_add_append,List.drop_length_add_append]
 by_cases hp:p≤r.length
 ·rw[Nat.min_eq_left hp,List.take_append_of_le_length hp,List.drop_append_of_le_length hp]
  simp
 ·have h1:min p r.length=r.length:=by omega
  rw[h1,List.take_left,List.drop_left,List.take_of_length_le (by omega),List.drop_of_length_le (by omega)]
  simp
theorem b07 (F:List α){P:Nat}(hP:P≤F.length)(d:α):F.take P=(List.range P).map λk=>F.getD k d:=by
 refine List.ext_getElem (by simp;omega) λi h1 h2=>?_
 have h1:i<P:=by simp at h1;omega
 rw[List.getElem_map,List.getElem_range,List.getElem_take,List.getD_eq_getElem?_getD,List.getElem?_eq_getElem (by omega)]
 rfl
theorem b04 (F:List α){P:Nat}(hP:P≤F.length)(d:α):F.drop P=(List.range (F.length-P)).map λk=>F.getD (P+k) d:=by
 refine List.ext_getElem (by simp) λi h1 h2=>?_
 have h1:i<F.length-P:=by simp at h1;omega
 rw[List.getElem_map,List.getElem_range,List.getElem_drop,List.getD_eq_getElem?_getD,List.getElem?_eq_getElem (by omega)]
 rfl
noncomputable def Z4 (F:Nat->α)(P:Nat)(x:α)(k:Nat):α:=if k<P then F k else if k=P then x else F (k-1)
theorem a1K (F:List α){P:Nat}(hP:P≤F.length)(x d:α):F.take P++[x]++F.drop P=(List.range (F.length+1)).map (Z4 (λk=>F.getD k d) P x):=by
 have e:F.length+1=P+(1+(F.length-P)):=by omega
 rw[e,K9,K9,b07 F hP d,b04 F hP d]
 simp only[List.map_append,List.map_map,List.append_assoc]
 congr 1
 ·refine List.map_congr_left λk hk=>?_
  have hk:=List.mem_range.mp hk
  show _=Z4 _ P x k
  unfold Z4
  rw[if_pos hk]
 ·refine congr (congrArg _ ?_) ?_
  ·show[x]=[Z4 _ P x (P+0)]
   unfold Z4
   rw[if_neg (by omega),if_pos (by omega)]
  ·refine List.map_congr_left λk hk=>?_
   show F.getD (P+k) d=Z4 _ P x (P+(1+k))
   unfold Z4
   rw[if_neg (by omega),if_neg (by omega)]
   congr 1
   omega
theorem a19 {f:Nat->α}{N k:Nat}{d:α}(h:N≤k->f k=d):((List.range N).map f).getD k d=f k:=by
 rw[List.getD_eq_getElem?_getD,List.getElem?_map]
 by_cases hk:k<N
 ·rw[List.getElem?_eq_getElem (by rw[List.length_range];exact hk),List.getElem_range];rfl
 ·rw[List.getElem?_eq_none (by rw[List.length_range];omega)]
  exact(h (by omega)).symm
end
noncomputable def shN (P n:Nat):Nat:=if n<P then n else n+1
theorem b1F (P n:Nat):shN P n<shN P (n+1):=by unfold shN;split <;> split <;> omega
theorem a9B {α:Type}{F:Nat->α}{P:Nat}{x:α}(n:Nat):Z4 F P x (shN P n)=F n:=by
 unfold Z4 shN
 by_cases h:n<P
 ·rw[if_pos h,if_pos h]
 ·rw[if_neg h,if_neg (by omega),if_neg (by omega)]
  congr 1
noncomputable abbrev G7 (way:List Bt)(b p:Nat)(c:Int×Int):List Bt:=way.set b ((j9 way b).take p++[c]++(j9 way b).drop p)
noncomputable abbrev C9 (way:List Bt)(b p:Nat):Nat:=c8 way b+min p (j9 way b).length
section
variable {way:List Bt}{b p:Nat}{c:Int×Int}
theorem a3Z (hb:b<way.length):j9 way b=way[b]:=by unfold j9;simp[hb]
theorem W7 (hb:b<way.length):c8 way b≤C9 way b p∧C9 way b p≤c8 way (b+1):=by
 rw[A0 hb]
 unfold C9
 omega
theorem Z8 (hb:b<way.length):(G7 way b p c).flatten=way.flatten.take (C9 way b p)++[c]++way.flatten.drop (C9 way b p):=by
 have e:=a3A (rows:=way) hb p c
 rw[←a3Z hb,y6]at e
 exact e
theorem a5e (hb:b<way.length)(k:Nat):(G7 way b p c).flatten.getD k (0,0)=Z4 (λk=>way.flatten.getD k (0,0)) (C9 way b p) c k:=by
 have hP:C9 way b p≤way.flatten.length:=by
  have h1:=(W7 (p:=p) hb).2
  have h2:=J3 way (b+1)
  rw[y6]
  omega
 rw[Z8 hb,a1K _ hP c (0,0)]
 refine a19 λhk=>?_
 unfold Z4
 rw[if_neg (by omega),if_neg (by omega)]
 show way.flatten.getD (k-1) (0,0)=(0,0)
 rw[List.getD_eq_getElem?_getD,List.getElem?_eq_none (by omega)]
 rfl
theorem M0 (hb:b<way.length):i6 (G7 way b p c)=i6 way+1:=by
 have h1:=(W7 (p:=p) hb).2
 have h2:=J3 way (b+1)
 have h3:=y6 way
 rw[←y6,Z8 hb]
 simp only[List.length_append,List.length_cons,List.length_nil,List.length_take,List.length_drop]
 omega
theorem a6I (hb:b<way.length)(m:Nat):c8 (G7 way b p c) m=c8 way m+if b<m then 1 else 0:=by
 unfold c8
 have e:(G7 way b p c).take m=(way.take m).set b ((j9 way b).take p++[c]++(j9 way b).drop p):=by
  unfold G7
  rw[List.take_set]
 rw[e]
 by_cases hm:b<m
 ·rw[if_pos hm]
  have hb2:b<(way.take m).length:=by rw[List.length_take];omega
  have e2:j9 (way.take m) b=j9 way b:=by
   rw[a3Z hb2,a3Z hb,List.getElem_take]
  have:=M0 (p:=p) (c:=c) hb2
  unfold G7 at this
  rw[e2]at this
  exact this
 ·rw[if_neg hm,List.set_eq_of_length_le (by rw[List.length_take];omega)]
  rfl
theorem a78 (hb:b<way.length)(m n:Nat):n<c8 way m↔shN (C9 way b p) n<c8 (G7 way b p c) m:=by
 obtain⟨h1,h2⟩:=W7 (p:=p) hb
 rw[a6I hb]
 unfold shN
 by_cases hm:b<m
 ·have:=a1r (P7 way) (show b+1≤m by omega)
  rw[if_pos hm]
  split <;> omega
 ·have:=a1r (P7 way) (show m≤b by omega)
  rw[if_neg hm]
  split <;> omega
theorem a94 (hb:b<way.length)(n:Nat):wkW (G7 way b p c) (shN (C9 way b p) n)=wkW way n:=by
 unfold wkW
 rw[a5e hb,a9B]
theorem a7X (hc:1≤c.2)(hw:W1s way):W1s (G7 way b p c):=λd hd x hx=>by
 rcases List.mem_or_eq_of_mem_set hd with hd | rfl
 ·exact hw d hd x hx
 ·have hm:∀x∈j9 way b,1≤x.2:=λx hx=>by
   by_cases hb:b<way.length
   ·rw[a3Z hb]at hx
    exact hw _ (List.getElem_mem hb) x hx
   ·unfold j9 at hx
    rw[List.getD_eq_getElem?_getD,List.getElem?_eq_none (by omega)]at hx
    cases hx
  rcases List.mem_append.mp hx with hx | hx
  ·rcases List.mem_append.mp hx with hx | hx
   ·exact hm x (List.mem_of_mem_take hx)
   ·rw[List.mem_singleton.mp hx];exact hc
  ·exact hm x (List.mem_of_mem_drop hx)
end
noncomputable def a1h (way:List Bt):Int:=(way.flatten.map (·.2)).sum
theorem a6E {way:List Bt}{b p:Nat}{c:Int×Int}(hb:b<way.length):a1h (G7 way b p c)=a1h way+c.2:=by
 unfold a1h
 rw[Z8 hb]
 have e:(way.flatten.map (·.2)).sum=((way.flatten.take (C9 way b p)).map (·.2)).sum+((way.flatten.drop (C9 way b p)).map (·.2)).sum:=by
  rw[←List.sum_append,←List.map_append,List.take_append_drop]
 rw[e]
 simp only[List.map_append,List.sum_append,List.map_cons,List.map_nil,List.sum_cons,List.sum_nil]
 omega
theorem a0t (way:List Bt):a1h way=((List.range (i6 way)).map (wkW way)).sum:=by
 unfold a1h
 have:=C1 ((0:Int),(0:Int)) (λc:Int×Int=>c.2) way.flatten
 rw[←this,y6]
 rfl
theorem a6o {p:Nat->Bool}{f g:Nat->Int}:∀{l:List Nat},(∀n∈l,f n≤g n)->(∀n∈l,0≤g n)->((l.filter p).map f).sum≤(l.map g).sum
 | [],_,_=>Int.le_refl _
 | n::l,h1,h2=>by
  have ih:=a6o (p:=p) (l:=l) (λx hx=>h1 x (List.mem_cons_of_mem _ hx)) (λx hx=>h2 x (List.mem_cons_of_mem _ hx))
  have a1:=h1 n List.mem_cons_self
  have a2:=h2 n List.mem_cons_self
  rw[List.filter_cons]
  split
  ·simp only[List.map_cons,List.sum_cons];omega
  ·simp only[List.map_cons,List.sum_cons];omega
theorem a9s {g:Nat->Int}(h:∀n,0≤g n){a b:Nat}(hab:a≤b):((List.range a).map g).sum≤((List.range b).map g).sum:=by
 obtain⟨d,rfl⟩:∃d,b=a+d:=⟨b-a,by omega⟩
 induction d with
 | zero=>exact Int.le_refl _
 | succ d ih =>
  have e:a+(d+1)=(a+d)+1:=by omega
  rw[e,List.range_succ,List.map_append,List.sum_append]
  have:=h (a+d)
  simp only[List.map_cons,List.map_nil,List.sum_cons,List.sum_nil]
  have:=ih (by omega)
  omega
theorem b1J {h:Nat}{way:List Bt}(hw:W1s way)(m:Nat):U2 (psW h way m)≤a1h way:=by
 rw[a0t]
 have e:U2 (psW h way m)=(((List.range (c8 way m)).filter λn=>decide (0<LW h way m n)).map (LW h way m)).sum:=by
  unfold U2 psW a0q j3
  rw[List.map_map]
  rfl
 rw[e]
 refine Int.le_trans (a6o (g:=wkW way) (λn _=>(a66 (h:=h) (cnt:=c8 way) (w:=wkW way) m).le n) λn _=>a1X hw n) (a9s (a1X hw) (J3 way m))
noncomputable abbrev lgc (k:Nat)(more:Int)(n:Nat)(c:Int×Int):Int×Int:=if n=k then(c.1,c.2+more) else c
noncomputable def lgW (way:List Bt)(k:Nat)(more:Int):List Bt:=(List.range way.length).map λm=>(List.range (j9 way m).length).map λj=>lgc k more (c8 way m+j) ((j9 way m).getD j (0,0))
section
variable {way:List Bt}{k:Nat}{more:Int}
theorem S7 {α:Type}(way:List Bt)(f:Nat->Int×Int->α):∀m,m≤way.length->((List.range m).map λm=>(List.range (j9 way m).length).map λj=>f (c8 way m+j) ((j9 way m).getD j (0,0))).flatten=(List.range (c8 way m)).map λn=>f n (way.flatten.getD n (0,0))
 | 0,_=>rfl
 | m+1,hm=>by
  have ih:=S7 way f m (by omega)
  rw[List.range_succ,List.map_append,List.flatten_append,ih,A0 (by omega),K9,List.map_append]
  congr 1
  simp only[List.map_cons,List.map_nil,List.flatten_cons,List.flatten_nil,List.append_nil,List.map_map]
  refine List.map_congr_left λj hj=>?_
  have hj:=List.mem_range.mp hj
  show _=f (c8 way m+j) (way.flatten.getD (c8 way m+j) (0,0))
  rw[a3P (by omega) hj]
theorem a65 (way:List Bt):c8 way way.length=i6 way:=by unfold c8;rw[List.take_length]
theorem a69:(lgW way k more).flatten=(List.range (i6 way)).map λn=>lgc k more n (way.flatten.getD n (0,0)):=by
 unfold lgW
 rw[S7 way (lgc k more) way.length (Nat.le_refl _),a65]
theorem a0d:i6 (lgW way k more)=i6 way:=by rw[←y6,a69,List.length_map,List.length_range]
theorem b1L (m:Nat):c8 (lgW way k more) m=c8 way m:=by
 unfold c8 lgW i6
 rw[List.map_take,List.map_map,List.map_take]
 congr 1
 congr 1
 have:=C1 ([]:Bt) (λb:Bt=>b.length) way
 rw[←this]
 refine List.map_congr_left λm _=>?_
 simp[j9]
theorem b0K (hm:0≤more)(n:Nat):wkW way n≤wkW (lgW way k more) n∧(n<i6 way->wkW (lgW way k more) n=wkW way n+if n=k then more else 0):=by
 have key:n<i6 way->wkW (lgW way k more) n=wkW way n+if n=k then more else 0:=λhn=>by
  unfold wkW
  rw[a69,List.getD_eq_getElem?_getD,List.getElem?_map,List.getElem?_eq_getElem (by rw[List.length_range];exact hn),List.getElem_range]
  show(lgc k more n (way.flatten.getD n (0,0))).2=_
  unfold lgc
  split
  ·rfl
  ·omega
 refine⟨?_,key⟩
 by_cases hn:n<i6 way
 ·rw[key hn];split <;> omega
 ·have h0:wkW way n=0:=by
   unfold wkW
   rw[List.getD_eq_getElem?_getD,List.getElem?_eq_none (by rw[y6];omega)]
   rfl
  have h1:wkW (lgW way k more) n=0:=by
   unfold wkW
   rw[List.getD_eq_getElem?_getD,List.getElem?_eq_none (by rw[y6,a0d];omega)]
   rfl
  omega
theorem b3u (hm:0≤more)(hw:W1s way):W1s (lgW way k more):=λd hd x hx=>by
 unfold lgW at hd
 obtain⟨m,hmm,rfl⟩:=List.mem_map.mp hd
 obtain⟨j,hj,rfl⟩:=List.mem_map.mp hx
 have hmm:=List.mem_range.mp hmm
 have hj:=List.mem_range.mp hj
 have:1≤((j9 way m).getD j (0,0)).2:=by
  have hmem:∀x∈j9 way m,1≤x.2:=λx hx=>by
   rw[a3Z hmm]at hx
   exact hw _ (List.getElem_mem hmm) x hx
  rw[List.getD_eq_getElem?_getD,List.getElem?_eq_getElem hj]
  exact hmem _ (List.getElem_mem _)
 unfold lgc
 split
 ·show 1≤_+more;omega
 ·exact this
theorem b1j (hm:0≤more):a1h (lgW way k more)≤a1h way+more:=by
 rw[a0t,a0t,a0d]
 have key:∀N,N≤i6 way->((List.range N).map (wkW (lgW way k more))).sum=((List.range N).map (wkW way)).sum+if k<N then more else 0:=λN=>by
  induction N with
  | zero=>intro _;rw[if_neg (Nat.not_lt_zero _)];rfl
  | succ N ih =>
   intro hN
   have h1:=ih (by omega)
   have h2:=(b0K (way:=way) (k:=k) hm N).2 (by omega)
   rw[List.range_succ,List.map_append,List.map_append,List.sum_append,List.sum_append,h1]
   simp only[List.map_cons,List.map_nil,List.sum_cons,List.sum_nil]
   rw[h2]
   by_cases e:N=k
   ·rw[if_pos e,if_neg (by omega),if_pos (by omega)];omega
   ·rw[if_neg e]
    by_cases h3:k<N
    ·rw[if_pos h3,if_pos (by omega)];omega
    ·rw[if_neg h3,if_neg (by omega)];omega
 rw[key _ (Nat.le_refl _)]
 split <;> omega
end
end L3
namespace K27
open PySem L2 L3
noncomputable def top (i:Nat):Stmt:=PySem.Challenge.pw_hatchwaits_k27_whole_a_comer_more.main.body.getD i (.Pass ⟨0,0,0,0⟩)
noncomputable instance famI:Fam:=b3K ["lined_up","picked"]
noncomputable abbrev s_many_in:Stmt:=top 1
noncomputable abbrev s_numbered:Stmt:=top 8
noncomputable abbrev s_told_way:Stmt:=top 9
noncomputable abbrev s_with_comer:Stmt:=top 10
noncomputable abbrev s_check_comer:Stmt:=top 11
noncomputable abbrev s_longer:Stmt:=top 12
noncomputable abbrev s_goes_later:Stmt:=top 13
noncomputable abbrev s_later:Stmt:=top 14
noncomputable abbrev s_keeps:Stmt:=top 17
noncomputable abbrev s_let_in:Stmt:=top 19
noncomputable abbrev s_lined_up:Stmt:=top 20
noncomputable abbrev s_picked:Stmt:=top 21
noncomputable abbrev s_worked:Stmt:=top 22
noncomputable abbrev s_step:Stmt:=top 23
noncomputable abbrev s_run:Stmt:=top 25
noncomputable abbrev s_after_beat:Stmt:=top 26
noncomputable abbrev s_courses:Stmt:=top 27
noncomputable abbrev s_drained:Stmt:=top 28
noncomputable abbrev s__law_feed:Stmt:=top 30
noncomputable abbrev s__law_next:Stmt:=top 31
noncomputable abbrev s__law_way:Stmt:=top 32
noncomputable abbrev s__law_light_way:Stmt:=top 33
noncomputable abbrev s__law_moments:Stmt:=top 34
noncomputable abbrev s__law_none_earlier:Stmt:=top 35
noncomputable abbrev s_law:Stmt:=top 36
structure Txt (K:PySem.W.Frag) (mg:Str->Option Value):Prop where
 enumerate:mg "enumerate" = none
 len:mg "len" = none
 list:mg "list" = none
 range:mg "range" = none
 sorted:mg "sorted" = none
 sum:mg "sum" = none
 tuple:mg "tuple" = none
 g_KEEPING:GD K mg "KEEPING" (.tuple [.str "first",.str "last",.str "short",.str "front"])
 gi_NEW:GI mg "NEW" (-1)
noncomputable section
variable {P:Program}{w:World}{K:PySem.W.Frag}{mg:Str->Option Value}{base:Heap}
theorem a5b:FnScope ["way"] ["way"] (defScope s_many_in):=⟨rfl,rfl,rfl,by decide +kernel,rfl,by decide +kernel,by decide +kernel⟩
noncomputable def f_many_in:List DV->M PyData:=z6 ["way"] (mRt (sN a2K (a9 (sLC (D4 (sW 0)) 1 [] (bN 0) E9 (sN z7 (a9 (sW 0) d7))) d7)))
theorem ok_many_in {f:Addr}{fd:FuncData}(Fn:Fun K "many_in" "many_in" s_many_in f fd)(T:Txt K mg) :FnOk P w K mg base CX0 1 f fd ["way"] (spD K 1 f_many_in):=by
 refine y9 Fn a5b λcdv A outer s H E hr=>?_
 have hu5:(A.deeper (PyProof.Rows.envOfC "many_in" (defScope s_many_in) s.heap.objs.size f cdv)).units+65<cLine:=by have:=hr.un;omega
 exact⟨_,(g6 (r6 (l6 (a5D rfl rfl) T.sum a9l (h8 (Ev.bw (T9 (osc:=(defScope s_many_in)) (N:=["beat"]) (k:=1) (cap:=[]) rfl rfl ⟨rfl,by decide +kernel,by decide +kernel,by decide +kernel,rfl,rfl,by decide +kernel⟩ (D5 (d9 0)) (λcl C ex pins s H=>(m7 (i:=0) (show List.Nodup (["beat"]:List Str) by decide +kernel))) (λcl C ex pins s H=>A6) (λcl C ex pins s H=>(l6 (w6 rfl) T.len x3 (h8 (d9 0) l7))))) l7))))⟩
theorem v7:FnScope ["way","rows","number","beat"] ["way"] (defScope s_numbered):=⟨rfl,rfl,rfl,by decide +kernel,rfl,by decide +kernel,by decide +kernel⟩
noncomputable def fG_numbered:List DV->M (List PyData):=b1q ["way","rows","number","beat"] (gSq (T5 1 (J8 d7))
  (gSq (v5 2 (sC (.int 0)))
  (gSq (M8 (D4 (sV 0)) (bN 3) (mSq (M3 1 (sLC (M5 (sW 3)) 2 [2] (t9 2 (d4 (bN 0) (d4 (bN 1) u8))) E9 (x9 (a9 (sV 1) (a9 (s2 B5 (sW 2) (sW 0)) d7)))))
  (a1l (λi j=>i+j) 2 (sN z7 (a9 (sW 3) d7)))))
  (b2d 1))))
theorem okG_numbered {f:Addr}{fd:FuncData}(Fn:Fun K "numbered" "numbered" s_numbered f fd)(T:Txt K mg) :FnOk P w K mg base CX0 1 f fd ["way"] (spG K 1 fG_numbered):=by
 refine b0a Fn v7 λcdv A outer s H E hr=>?_
 have hu5:(A.deeper (PyProof.Rows.envOfC "numbered" (defScope s_numbered) s.heap.objs.size f cdv)).units+65<cLine:=by have:=hr.un;omega
 exact⟨_,(a3n (O1 1 v7.nd (J0 i3))
   (a3n (t8 2 v7.nd i7)
   (a3n (J9 rfl (a0A (g7 0)) (m7 (i:=3) v7.nd) (c7 (L7 1 rfl (T9 (osc:=(defScope s_numbered)) (N:=["place","comer","number"]) (k:=2) (cap:=[2]) rfl rfl ⟨rfl,by decide +kernel,by decide +kernel,by decide +kernel,rfl,rfl,by decide +kernel⟩ (a01 (d9 3) T.enumerate) (λcl C ex pins s H=>(u4 (n:=2) rfl (d5 (m7 (i:=0) (show List.Nodup (["place","comer","number"]:List Str) by decide +kernel)) (d5 (m7 (i:=1) (show List.Nodup (["place","comer","number"]:List Str) by decide +kernel)) n4)))) (λcl C ex pins s H=>A6) (λcl C ex pins s H=>(w8 (d0 (g7 1) (d0 (A4 (A9 rfl) (d9 2) (d9 0)) i3))))))
   (g6 (a1o 2 v7.nd (l6 (w6 rfl) T.len x3 (h8 (d9 3) l7))))))
   (b2y 1))))⟩
noncomputable def f_numbered:List DV->M PyData:=z6 ["way","rows","number","beat"] (mSq (T5 1 (J8 d7))
  (mSq (v5 2 (sC (.int 0)))
  (mSq (M8 (D4 (sV 0)) (bN 3) (mSq (M3 1 (sLC (M5 (sW 3)) 2 [2] (t9 2 (d4 (bN 0) (d4 (bN 1) u8))) E9 (x9 (a9 (sV 1) (a9 (s2 B5 (sW 2) (sW 0)) d7)))))
  (a1l (λi j=>i+j) 2 (sN z7 (a9 (sW 3) d7)))))
  (mRt (sW 1)))))
theorem ok_numbered {f:Addr}{fd:FuncData}(Fn:Fun K "numbered" "numbered" s_numbered f fd)(T:Txt K mg) :FnOk P w K mg base CX0 1 f fd ["way"] (spD K 1 f_numbered):=by
 refine y9 Fn v7 λcdv A outer s H E hr=>?_
 have hu5:(A.deeper (PyProof.Rows.envOfC "numbered" (defScope s_numbered) s.heap.objs.size f cdv)).units+65<cLine:=by have:=hr.un;omega
 exact⟨_,(c7 (O1 1 v7.nd (J0 i3))
   (c7 (t8 2 v7.nd i7)
   (c7 (J9 rfl (a0A (g7 0)) (m7 (i:=3) v7.nd) (c7 (L7 1 rfl (T9 (osc:=(defScope s_numbered)) (N:=["place","comer","number"]) (k:=2) (cap:=[2]) rfl rfl ⟨rfl,by decide +kernel,by decide +kernel,by decide +kernel,rfl,rfl,by decide +kernel⟩ (a01 (d9 3) T.enumerate) (λcl C ex pins s H=>(u4 (n:=2) rfl (d5 (m7 (i:=0) (show List.Nodup (["place","comer","number"]:List Str) by decide +kernel)) (d5 (m7 (i:=1) (show List.Nodup (["place","comer","number"]:List Str) by decide +kernel)) n4)))) (λcl C ex pins s H=>A6) (λcl C ex pins s H=>(w8 (d0 (g7 1) (d0 (A4 (A9 rfl) (d9 2) (d9 0)) i3))))))
   (g6 (a1o 2 v7.nd (l6 (w6 rfl) T.len x3 (h8 (d9 3) l7))))))
   (g6 (a5Z 1)))))⟩
theorem a16:FnScope ["rows","way"] ["rows"] (defScope s_told_way):=⟨rfl,rfl,rfl,by decide +kernel,rfl,by decide +kernel,by decide +kernel⟩
noncomputable def f_told_way:List DV->M PyData:=z6 ["rows","way"] (mSq (v5 1 (sN r9 (a9 (sLC (D4 (sW 0)) 1 [] (bN 0) E9 (sN r9 (a9 (sLC (D4 (sW 0)) 2 [] (t9 2 (d4 (bN 0) (d4 (bN 1) u8))) E9 (sV 0)) d7))) d7)))
  (mRt (x9 (a9 (sV 1) (a9 (sN r9 (a9 (a9w (D4 (sW 0)) 3 [] (bN 0) E9 (D4 (sV 0)) (t9 2 (d4 (bN 1) (d4 (bN 2) u8))) E9 (sV 2)) d7)) d7)))))
theorem ok_told_way {f:Addr}{fd:FuncData}(Fn:Fun K "told_way" "told_way" s_told_way f fd)(T:Txt K mg) :FnOk P w K mg base CX0 1 f fd ["rows"] (spD K 1 f_told_way):=by
 refine y9 Fn a16 λcdv A outer s H E hr=>?_
 have hu5:(A.deeper (PyProof.Rows.envOfC "told_way" (defScope s_told_way) s.heap.objs.size f cdv)).units+65<cLine:=by have:=hr.un;omega
 exact⟨_,(c7 (t8 1 a16.nd (x5 (z5 rfl) T.tuple y8 (h8 (Ev.bw (T9 (osc:=(defScope s_told_way)) (N:=["row"]) (k:=1) (cap:=[]) rfl rfl ⟨rfl,by decide +kernel,by decide +kernel,by decide +kernel,rfl,rfl,by decide +kernel⟩ (D5 (d9 0)) (λcl C ex pins s H=>(m7 (i:=0) (show List.Nodup (["row"]:List Str) by decide +kernel))) (λcl C ex pins s H=>A6) (λcl C ex pins s H=>(x5 (z5 rfl) T.tuple y8 (h8 (Ev.bw (b21 (N:=["comer","number"]) (k:=2) (cap:=[]) rfl ⟨rfl,by decide +kernel,by decide +kernel,by decide +kernel,rfl,rfl,by decide +kernel⟩ (D5 (d9 0)) (λcl C ex pins s H=>(u4 (n:=2) rfl (d5 (m7 (i:=0) (show List.Nodup (["comer","number"]:List Str) by decide +kernel)) (d5 (m7 (i:=1) (show List.Nodup (["comer","number"]:List Str) by decide +kernel)) n4)))) (λcl C ex pins s H=>A6) (λcl C ex pins s H=>(g7 0)))) l7))))) l7)))
   (g6 (r6 (w8 (d0 (g7 1) (d0 (x5 (z5 rfl) T.tuple y8 (h8 (Ev.bw (b1f (osc:=(defScope s_told_way)) (N:=["row","comer","number"]) (k:=3) (cap:=[]) rfl rfl ⟨rfl,by decide +kernel,by decide +kernel,by decide +kernel,rfl,rfl,by decide +kernel⟩ (D5 (d9 0)) (λcl C ex pins s H=>(m7 (i:=0) (show List.Nodup (["row","comer","number"]:List Str) by decide +kernel))) (λcl C ex pins s H=>A6) (λcl C ex pins s H=>(a0A (g7 0))) (λcl C ex pins s H=>(u4 (n:=2) rfl (d5 (m7 (i:=1) (show List.Nodup (["row","comer","number"]:List Str) by decide +kernel)) (d5 (m7 (i:=2) (show List.Nodup (["row","comer","number"]:List Str) by decide +kernel)) n4)))) (λcl C ex pins s H=>A6) (λcl C ex pins s H=>(g7 2)))) l7)) i3))))))⟩
theorem X7:FnScope ["way","beat","place","comer","rows"] ["way","beat","place","comer"] (defScope s_with_comer):=⟨rfl,rfl,rfl,by decide +kernel,rfl,by decide +kernel,by decide +kernel⟩
noncomputable def f_with_comer:List DV->M PyData:=z6 ["way","beat","place","comer","rows"] (mSq (mIf (a4u (uB (sCh leD ltD (sC (.int 0)) (sW 1) (sN z7 (a9 (sW 0) d7))))) a92 mNx)
  (mSq (T5 4 (a5Q fG_numbered (vD (sV 0) n6)))
  (mSq (a5u 4 (s2 B5 (s2 B5 (a1G (s2 ixD (sW 4) (sW 1)) oNo (oI (sV 2))) (a46 (a9 (x9 (a9 (sV 3) (a9 (sC (.int (-1))) d7))) d7))) (a1G (s2 ixD (sW 4) (sW 1)) (oI (sV 2)) oNo)) (sV 1))
  (a35 4 (mRt (i8 f_told_way (vD (sV 4) n6)))))))
theorem ok_with_comer {f:Addr}{fd:FuncData}(Fn:Fun K "with_comer" "with_comer" s_with_comer f fd)(T:Txt K mg)(CG_numbered:Callee P w K mg base "numbered" 1 ["way"] (spG K 1 fG_numbered))(C_told_way:Callee P w K mg base "told_way" 1 ["rows"] (spD K 1 f_told_way)):FnOk P w K mg base CX0 2 f fd ["way","beat","place","comer"] (spD K 4 f_with_comer):=by
 refine y9 Fn X7 λcdv A outer s H E hr=>?_
 have hu5:(A.deeper (PyProof.Rows.envOfC "with_comer" (defScope s_with_comer) s.heap.objs.size f cdv)).units+65<cLine:=by have:=hr.un;omega
 exact⟨_,(c7 (G6 (a33 (a4i b0U a5x (Ev.bw i7) (d9 1) (Ev.bw (l6 (w6 rfl) T.len x3 (h8 (d9 0) l7))))) (g6 a6z) B1)
   (c7 (O1 4 X7.nd (b0v CG_numbered (hr.mono (by decide)) (m4 (g7 0) j6) (l9 j7)))
   (c7 (a5p 4 (A4 (A9 rfl) (Ev.bw (A4 (A9 rfl) (Ev.bw (a38 (Ev.bw (u0 (u7 rfl) (d9 4) (d9 1))) a6p (b0z (g7 2)))) (Ev.bw (a4A (d0 (w8 (d0 (g7 3) (d0 (b2U T.gi_NEW) i3))) i3))))) (Ev.bw (a38 (Ev.bw (u0 (u7 rfl) (d9 4) (d9 1))) (b0z (g7 2)) a6p))) (g7 1))
   (g6 (a3q 4 (r6 (g9 C_told_way (hr.mono (by decide)) (m4 (g7 4) j6) (l9 j7))))))))⟩
theorem a24:FnScope ["way","number"] ["way","number"] (defScope s_check_comer):=⟨rfl,rfl,rfl,by decide +kernel,rfl,by decide +kernel,by decide +kernel⟩
noncomputable def f_check_comer:List DV->M PyData:=z6 ["way","number"] (mIf (a4u (uB (sCh leD ltD (sC (.int 0)) (sW 1) (i8 f_many_in (vD (sV 0) n6))))) a92 mNx)
theorem ok_check_comer {f:Addr}{fd:FuncData}(Fn:Fun K "check_comer" "check_comer" s_check_comer f fd)(T:Txt K mg)(C_many_in:Callee P w K mg base "many_in" 1 ["way"] (spD K 1 f_many_in)):FnOk P w K mg base CX0 2 f fd ["way","number"] (spD K 2 f_check_comer):=by
 refine y9 Fn a24 λcdv A outer s H E hr=>?_
 have hu5:(A.deeper (PyProof.Rows.envOfC "check_comer" (defScope s_check_comer) s.heap.objs.size f cdv)).units+65<cLine:=by have:=hr.un;omega
 exact⟨_,(g6 (G6 (a33 (a4i b0U a5x (Ev.bw i7) (d9 1) (Ev.bw (g9 C_many_in (hr.mono (by decide)) (m4 (g7 0) j6) (l9 j7))))) (g6 a6z) B1))⟩
theorem a0L:FnScope ["way","number","more","rows","row"] ["way","number","more"] (defScope s_longer):=⟨rfl,rfl,rfl,by decide +kernel,rfl,by decide +kernel,by decide +kernel⟩
noncomputable def f_longer:List DV->M PyData:=z6 ["way","number","more","rows","row"] (mSq (mDo (i8 f_check_comer (vD (sV 0) (vD (sV 1) n6))))
  (mSq (T5 3 (J8 d7))
  (mSq (M8 (D4 (i8 f_numbered (vD (sV 0) n6))) (bN 4) (M3 3 (sLC (D4 (sW 4)) 3 [1,2] (t9 2 (d4 (t9 2 (d4 (bN 0) (d4 (bN 1) u8))) (d4 (bN 2) u8))) E9 (x9 (a9 (x9 (a9 (sV 0) (a9 (sIf (uB (s2 (eqD false) (sW 2) (sW 3))) (s2 B5 (sW 1) (sW 4)) (sV 1)) d7))) (a9 (sV 2) d7))))))
  (a35 3 (mRt (i8 f_told_way (vD (sV 3) n6)))))))
theorem ok_longer {f:Addr}{fd:FuncData}(Fn:Fun K "longer" "longer" s_longer f fd)(T:Txt K mg)(C_check_comer:Callee P w K mg base "check_comer" 2 ["way","number"] (spD K 2 f_check_comer))(C_numbered:Callee P w K mg base "numbered" 1 ["way"] (spD K 1 f_numbered))(C_told_way:Callee P w K mg base "told_way" 1 ["rows"] (spD K 1 f_told_way)):FnOk P w K mg base CX0 3 f fd ["way","number","more"] (spD K 3 f_longer):=by
 refine y9 Fn a0L λcdv A outer s H E hr=>?_
 have hu5:(A.deeper (PyProof.Rows.envOfC "longer" (defScope s_longer) s.heap.objs.size f cdv)).units+65<cLine:=by have:=hr.un;omega
 exact⟨_,(c7 (b2Z (g9 C_check_comer (hr.mono (by decide)) (m4 (g7 0) (m4 (g7 1) j6)) (l9 (l9 j7))))
   (c7 (O1 3 a0L.nd (J0 i3))
   (c7 (J9 rfl (a0A (g9 C_numbered (hr.mono (by decide)) (m4 (g7 0) j6) (l9 j7))) (m7 (i:=4) a0L.nd) (g6 (L7 3 rfl (T9 (osc:=(defScope s_longer)) (N:=["rank","work","each","number","more"]) (k:=3) (cap:=[1,2]) rfl rfl ⟨rfl,by decide +kernel,by decide +kernel,by decide +kernel,rfl,rfl,by decide +kernel⟩ (D5 (d9 4)) (λcl C ex pins s H=>(u4 (n:=2) rfl (d5 (u4 (n:=2) rfl (d5 (m7 (i:=0) (show List.Nodup (["rank","work","each","number","more"]:List Str) by decide +kernel)) (d5 (m7 (i:=1) (show List.Nodup (["rank","work","each","number","more"]:List Str) by decide +kernel)) n4))) (d5 (m7 (i:=2) (show List.Nodup (["rank","work","each","number","more"]:List Str) by decide +kernel)) n4)))) (λcl C ex pins s H=>A6) (λcl C ex pins s H=>(w8 (d0 (w8 (d0 (g7 0) (d0 (a2O (v9 (a13 rfl hr.units) (d9 2) (d9 3)) (A4 (A9 rfl) (d9 1) (d9 4)) (g7 1)) i3))) (d0 (g7 2) i3))))))))
   (g6 (a3q 3 (r6 (g9 C_told_way (hr.mono (by decide)) (m4 (g7 3) j6) (l9 j7))))))))⟩
theorem a2p:FnScope ["course","other"] ["course","other"] (defScope s_goes_later):=⟨rfl,rfl,rfl,by decide +kernel,rfl,by decide +kernel,by decide +kernel⟩
noncomputable def f_goes_later:List DV->M PyData:=z6 ["course","other"] (mSq (mIf (uB (s2 (eqD true) (s2 ixD (sW 1) (sC (.int 0))) (sC (.str "gone")))) (mRt (sC (.bool false))) mNx)
  (mRt (sOr (s2 (eqD false) (s2 ixD (sW 0) (sC (.int 0))) (sC (.str "in"))) (a6M (s2 (eqD false) (s2 ixD (sW 0) (sC (.int 0))) (sC (.str "gone"))) (s2 gtD (s2 ixD (sW 0) (sC (.int 2))) (s2 ixD (sW 1) (sC (.int 2))))))))
theorem ok_goes_later {f:Addr}{fd:FuncData}(Fn:Fun K "goes_later" "goes_later" s_goes_later f fd)(T:Txt K mg) :FnOk P w K mg base CX0 1 f fd ["course","other"] (spD K 2 f_goes_later):=by
 refine y9 Fn a2p λcdv A outer s H E hr=>?_
 have hu5:(A.deeper (PyProof.Rows.envOfC "goes_later" (defScope s_goes_later) s.heap.objs.size f cdv)).units+65<cLine:=by have:=hr.un;omega
 exact⟨_,(c7 (G6 (v9 (a6e rfl hr.units) (Ev.bw (u0 (u7 rfl) (d9 1) (Ev.bw i7))) (Ev.bw O2)) (g6 (r6 a0n)) B1)
   (g6 (r6 (b3o (Z5 (a13 rfl hr.units) (Ev.bw (u0 (u7 rfl) (d9 0) (Ev.bw i7))) (Ev.bw O2)) (a5q (a82 (Z5 (a13 rfl hr.units) (Ev.bw (u0 (u7 rfl) (d9 0) (Ev.bw i7))) (Ev.bw O2)) (a5q (Z5 a68 (Ev.bw (u0 (u7 rfl) (d9 0) (Ev.bw i7))) (Ev.bw (u0 (u7 rfl) (d9 1) (Ev.bw i7)))))))))))⟩
theorem a7y:FnScope ["one","other"] ["one","other"] (defScope s_later):=⟨rfl,rfl,rfl,by decide +kernel,rfl,by decide +kernel,by decide +kernel⟩
noncomputable def f_later:List DV->M PyData:=z6 ["one","other"] (mRt (sLC (M5 (sW 0)) 2 [1] (t9 2 (d4 (bN 0) (d4 (bN 1) u8))) (uT (i8 f_goes_later (vD (sV 1) (vD (s2 ixD (sW 2) (sW 0)) n6)))) (sV 0)))
theorem ok_later {f:Addr}{fd:FuncData}(Fn:Fun K "later" "later" s_later f fd)(T:Txt K mg)(C_goes_later:Callee P w K mg base "goes_later" 1 ["course","other"] (spD K 2 f_goes_later)):FnOk P w K mg base CX0 2 f fd ["one","other"] (spD K 2 f_later):=by
 refine y9 Fn a7y λcdv A outer s H E hr=>?_
 have hu5:(A.deeper (PyProof.Rows.envOfC "later" (defScope s_later) s.heap.objs.size f cdv)).units+65<cLine:=by have:=hr.un;omega
 exact⟨_,(g6 (r6 (T9 (osc:=(defScope s_later)) (N:=["number","course","other"]) (k:=2) (cap:=[1]) rfl rfl ⟨rfl,by decide +kernel,by decide +kernel,by decide +kernel,rfl,rfl,by decide +kernel⟩ (a01 (d9 0) T.enumerate) (λcl C ex pins s H=>(u4 (n:=2) rfl (d5 (m7 (i:=0) (show List.Nodup (["number","course","other"]:List Str) by decide +kernel)) (d5 (m7 (i:=1) (show List.Nodup (["number","course","other"]:List Str) by decide +kernel)) n4)))) (λcl C ex pins s H=>(a6h (a27 (Ev.bw (g9 C_goes_later (hr.mono (by decide)) (m4 (g7 1) (m4 (u0 (u7 rfl) (d9 2) (d9 0)) j6)) (l9 (l9 j7))))))) (λcl C ex pins s H=>(g7 0)))))⟩
theorem a8f:FnScope ["rule"] ["rule"] (defScope s_keeps):=⟨rfl,rfl,rfl,by decide +kernel,rfl,by decide +kernel,by decide +kernel⟩
noncomputable def f_keeps:List DV->M PyData:=z6 ["rule"] (mRt (s2 (inD false) (sW 0) (sC (.tuple [.str "first",.str "last",.str "short",.str "front"]))))
theorem ok_keeps {f:Addr}{fd:FuncData}(Fn:Fun K "keeps" "keeps" s_keeps f fd)(T:Txt K mg) :FnOk P w K mg base CX0 1 f fd ["rule"] (spD K 1 f_keeps):=by
 refine y9 Fn a8f λcdv A outer s H E hr=>?_
 have hu5:(A.deeper (PyProof.Rows.envOfC "keeps" (defScope s_keeps) s.heap.objs.size f cdv)).units+65<cLine:=by have:=hr.un;omega
 exact⟨_,(g6 (r6 (Z5 (a1Z rfl hu5) (d9 0) (Ev.bw (b3P T.g_KEEPING)))))⟩
theorem W5:FnScope ["house","stand","beat","places","room","entered"] ["house","stand","beat"] (defScope s_let_in):=⟨rfl,rfl,rfl,by decide +kernel,rfl,by decide +kernel,by decide +kernel⟩
noncomputable def f_let_in:List DV->M PyData:=z6 ["house","stand","beat","places","room","entered"] (mSq (v5 3 (s2 ixD (sW 0) (sC (.int 1))))
  (mSq (v5 4 (sIf (uB (s2 (isD false) (sW 3) (sC .none))) (sN z7 (a9 (sW 2) d7)) (s2 a1T (sW 3) (sN z7 (a9 (sW 1) d7)))))
  (mSq (v5 5 (sLC (D4 (a1G (sW 2) oNo (oI (sV 4)))) 2 [] (t9 2 (d4 (bN 0) (d4 (bN 1) u8))) E9 (x9 (a9 (sV 0) (a9 (sV 1) (a9 (sC (.bool false)) d7))))))
  (mRt (x9 (a9 (s2 B5 (sW 1) (sN r9 (a9 (sW 5) d7))) (a9 (s2 a1T (sN z7 (a9 (sW 2) d7)) (sN z7 (a9 (sW 5) d7))) d7)))))))
theorem ok_let_in {f:Addr}{fd:FuncData}(Fn:Fun K "let_in" "let_in" s_let_in f fd)(T:Txt K mg) :FnOk P w K mg base CX0 1 f fd ["house","stand","beat"] (spD K 3 f_let_in):=by
 refine y9 Fn W5 λcdv A outer s H E hr=>?_
 have hu5:(A.deeper (PyProof.Rows.envOfC "let_in" (defScope s_let_in) s.heap.objs.size f cdv)).units+65<cLine:=by have:=hr.un;omega
 exact⟨_,(c7 (t8 3 W5.nd (u0 (u7 rfl) (d9 0) (Ev.bw i7)))
   (c7 (t8 4 W5.nd (a2O (v9 b0I (d9 3) (Ev.bw T8)) (l6 (w6 rfl) T.len x3 (h8 (d9 2) l7)) (A4 a32 (d9 3) (Ev.bw (l6 (w6 rfl) T.len x3 (h8 (d9 1) l7))))))
   (c7 (a3V 5 (hN:=W5.nd) (osc:=(defScope s_let_in)) (N:=["rank","work"]) (k:=2) (cap:=[]) (hc:=rfl) (hosc:=rfl) (hcap:=⟨rfl,by decide +kernel,by decide +kernel,by decide +kernel,rfl,rfl,by decide +kernel⟩) (D5 (Ev.bw (a38 (d9 2) a6p (b0z (g7 4))))) (λcl C ex pins s H=>(u4 (n:=2) rfl (d5 (m7 (i:=0) (show List.Nodup (["rank","work"]:List Str) by decide +kernel)) (d5 (m7 (i:=1) (show List.Nodup (["rank","work"]:List Str) by decide +kernel)) n4)))) (λcl C ex pins s H=>A6) (λcl C ex pins s H=>(w8 (d0 (g7 0) (d0 (g7 1) (d0 a0n i3))))))
   (g6 (r6 (w8 (d0 (A4 (A9 rfl) (d9 1) (Ev.bw (x5 (z5 rfl) T.tuple y8 (h8 (d9 5) l7)))) (d0 (A4 a32 (Ev.bw (l6 (w6 rfl) T.len x3 (h8 (d9 2) l7))) (Ev.bw (l6 (w6 rfl) T.len x3 (h8 (d9 5) l7)))) i3))))))))⟩
theorem a14:FnScope ["rule","stand","places"] ["rule","stand"] (defScope s_lined_up):=⟨rfl,rfl,rfl,by decide +kernel,rfl,by decide +kernel,by decide +kernel⟩
noncomputable def f_lined_up:List DV->M PyData:=z6 ["rule","stand","places"] (mSq (v5 2 (a0W (a9 (sN z7 (a9 (sW 1) d7)) d7)))
  (mSq (mIf (uB (s2 (inD false) (sW 0) (sC (.tuple [.str "last",.str "lastoff"])))) (mRt (s1 a6K (sW 2))) mNx)
  (mSq (mIf (uB (s2 (inD false) (sW 0) (sC (.tuple [.str "short",.str "shortoff"])))) (mRt (sSK (a9 (sV 2) d7) [1] (s2 ixD (s2 ixD (sW 1) (sW 0)) (sC (.int 1))))) mNx)
  (mSq (mIf (uB (s2 (inD false) (sW 0) (sC (.tuple [.str "front",.str "frontoff"])))) (mRt (sSK (a9 (sV 2) d7) [1] (s2 ixD (s2 ixD (sW 1) (sW 0)) (sC (.int 0))))) mNx)
  (mRt (sV 2))))))
theorem ok_lined_up {f c P0:Addr}{fd:FuncData}(Fn:Fun K "lined_up" "lined_up" s_lined_up f fd)(T:Txt K mg)(LB:LamB K mg base "lined_up" fd c P0) :FnOk P w K mg base CX0 1 f fd ["rule","stand"] (spD K 2 f_lined_up):=by
 refine a6w Fn a14 λcdv A outer s H E hcd hr=>?_
 obtain rfl:cdv = .ref c:=hcd.symm.trans LB.code
 have hu5:(A.deeper (PyProof.Rows.envOfC "lined_up" (defScope s_lined_up) s.heap.objs.size f (.ref c))).units+65<cLine:=by have:=hr.un;omega
 exact⟨_,(c7 (t8 2 a14.nd (a4g (d0 (l6 (w6 rfl) T.len x3 (h8 (d9 1) l7)) i3) rfl T.range T.list S4))
   (c7 (G6 (v9 (a1Z rfl hu5) (d9 0) (Ev.bw (a0K (.tuple [.str "last",.str "lastoff"]) rfl))) (g6 (r6 (b1P (d9 2)))) B1)
   (c7 (G6 (v9 (a1Z rfl hu5) (d9 0) (Ev.bw (a0K (.tuple [.str "short",.str "shortoff"]) rfl))) (g6 (r6 (a8c (osc:=(defScope s_lined_up)) (N:=["place","stand"]) (cap:=[1]) (y:="place") LB rfl T.sorted hr rfl (d0 (g7 2) i3) rfl ⟨rfl,rfl,rfl,by decide +kernel,rfl,rfl,by decide +kernel,rfl,rfl,by decide +kernel⟩ rfl rfl (λcl f c' Y s H=>(u0 (u7 rfl) (Ev.bw (u0 (u7 rfl) (d9 1) (d9 0))) (Ev.bw i7)))))) B1)
   (c7 (G6 (v9 (a1Z rfl hu5) (d9 0) (Ev.bw (a0K (.tuple [.str "front",.str "frontoff"]) rfl))) (g6 (r6 (a8c (osc:=(defScope s_lined_up)) (N:=["place","stand"]) (cap:=[1]) (y:="place") LB rfl T.sorted hr rfl (d0 (g7 2) i3) rfl ⟨rfl,rfl,rfl,by decide +kernel,rfl,rfl,by decide +kernel,rfl,rfl,by decide +kernel⟩ rfl rfl (λcl f c' Y s H=>(u0 (u7 rfl) (Ev.bw (u0 (u7 rfl) (d9 1) (d9 0))) (Ev.bw i7)))))) B1)
   (g6 (r6 (g7 2)))))))⟩
theorem L0:FnScope ["house","stand","hands","places","rule","order"] ["house","stand"] (defScope s_picked):=⟨rfl,rfl,rfl,by decide +kernel,rfl,by decide +kernel,by decide +kernel⟩
noncomputable def f_picked:List DV->M PyData:=z6 ["house","stand","hands","places","rule","order"] (mSq (M4 (t9 3 (d4 (bN 2) (d4 (bN 3) (d4 (bN 4) u8)))) (sV 0))
  (mSq (v5 5 (i8 f_lined_up (vD (sV 4) (vD (sV 1) n6))))
  (mSq (mIf (uT (i8 f_keeps (vD (sV 4) n6))) (v5 5 (sSK (a9 (sV 5) d7) [1] (a8d (s2 ixD (s2 ixD (sW 1) (sW 0)) (sC (.int 2)))))) mNx)
  (mRt (sN r9 (a9 (sN T4 (a9 (a1G (sW 5) oNo (oI (sV 2))) d7)) d7))))))
theorem ok_picked {f c P0:Addr}{fd:FuncData}(Fn:Fun K "picked" "picked" s_picked f fd)(T:Txt K mg)(LB:LamB K mg base "picked" fd c P0)(C_lined_up:Callee P w K mg base "lined_up" 1 ["rule","stand"] (spD K 2 f_lined_up))(C_keeps:Callee P w K mg base "keeps" 1 ["rule"] (spD K 1 f_keeps)):FnOk P w K mg base CX0 2 f fd ["house","stand"] (spD K 2 f_picked):=by
 refine a6w Fn L0 λcdv A outer s H E hcd hr=>?_
 obtain rfl:cdv = .ref c:=hcd.symm.trans LB.code
 have hu5:(A.deeper (PyProof.Rows.envOfC "picked" (defScope s_picked) s.heap.objs.size f (.ref c))).units+65<cLine:=by have:=hr.un;omega
 exact⟨_,(c7 (K0 (g7 0) (u4 (n:=3) rfl (d5 (m7 (i:=2) L0.nd) (d5 (m7 (i:=3) L0.nd) (d5 (m7 (i:=4) L0.nd) n4)))))
   (c7 (t8 5 L0.nd (g9 C_lined_up (hr.mono (by decide)) (m4 (g7 4) (m4 (g7 1) j6)) (l9 (l9 j7))))
   (c7 (G6 (a27 (Ev.bw (g9 C_keeps (hr.mono (by decide)) (m4 (g7 4) j6) (l9 j7)))) (g6 (t8 5 L0.nd (a8c (osc:=(defScope s_picked)) (N:=["place","stand"]) (cap:=[1]) (y:="place") LB rfl T.sorted hr rfl (d0 (g7 5) i3) rfl ⟨rfl,rfl,rfl,by decide +kernel,rfl,rfl,by decide +kernel,rfl,rfl,by decide +kernel⟩ rfl rfl (λcl f c' Y s H=>(b2a (u0 (u7 rfl) (Ev.bw (u0 (u7 rfl) (d9 1) (d9 0))) (Ev.bw i7))))))) B1)
   (g6 (r6 (x5 (z5 rfl) T.tuple y8 (h8 (Ev.bw (l6 (a0z rfl) T.sorted a0P (h8 (Ev.bw (a38 (d9 5) a6p (b0z (g7 2)))) l7))) l7)))))))⟩
theorem A1:FnScope ["house","stand","rule","hands_on","waiting","served","gone","place","rank","left","begun","staying"] ["house","stand"] (defScope s_worked):=⟨rfl,rfl,rfl,by decide +kernel,rfl,by decide +kernel,by decide +kernel⟩
noncomputable def f_worked:List DV->M PyData:=z6 ["house","stand","rule","hands_on","waiting","served","gone","place","rank","left","begun","staying"] (mSq (v5 2 (s2 ixD (sW 0) (sC (.int 2))))
  (mSq (v5 3 (i8 f_picked (vD (sV 0) (vD (sV 1) n6))))
  (mSq (v5 4 (sLC (M5 (sW 1)) 2 [3] (t9 2 (d4 (bN 0) (d4 (bN 1) u8))) (uB (s2 (inD true) (sW 0) (sW 2))) (x9 (a9 (sV 0) (a9 (sV 1) d7)))))
  (mSq (a17 5 6 (cO (J8 d7)) (cO (J8 d7)))
  (mSq (M8 (D4 (sV 3)) (bN 7) (mSq (M4 (t9 3 (d4 (bN 8) (d4 (bN 9) (d4 (bN 10) u8)))) (s2 ixD (sW 1) (sW 7)))
  (mIf (uB (s2 gtD (sW 9) (sC (.int 1)))) (M3 5 (x9 (a9 (sV 7) (a9 (x9 (a9 (sV 8) (a9 (s2 a1T (sW 9) (sC (.int 1))) (a9 (i8 f_keeps (vD (sV 2) n6)) d7)))) d7)))) (M3 6 (sV 7)))))
  (mSq (v5 11 (sIf (uB (s2 (eqD false) (sW 2) (sC (.str "turns")))) (s2 B5 (sW 4) (sW 5)) (sN T4 (a9 (s2 B5 (sW 4) (sW 5)) d7))))
  (mRt (x9 (a9 (sV 11) (a9 (sV 3) (a9 (sN r9 (a9 (sW 6) d7)) d7)))))))))))
theorem ok_worked {f:Addr}{fd:FuncData}(Fn:Fun K "worked" "worked" s_worked f fd)(T:Txt K mg)(C_picked:Callee P w K mg base "picked" 2 ["house","stand"] (spD K 2 f_picked))(C_keeps:Callee P w K mg base "keeps" 1 ["rule"] (spD K 1 f_keeps)):FnOk P w K mg base CX0 3 f fd ["house","stand"] (spD K 2 f_worked):=by
 refine y9 Fn A1 λcdv A outer s H E hr=>?_
 have hu5:(A.deeper (PyProof.Rows.envOfC "worked" (defScope s_worked) s.heap.objs.size f cdv)).units+65<cLine:=by have:=hr.un;omega
 exact⟨_,(c7 (t8 2 A1.nd (u0 (u7 rfl) (d9 0) (Ev.bw i7)))
   (c7 (t8 3 A1.nd (g9 C_picked (hr.mono (by decide)) (m4 (g7 0) (m4 (g7 1) j6)) (l9 (l9 j7))))
   (c7 (a3V 4 (hN:=A1.nd) (osc:=(defScope s_worked)) (N:=["place","person","hands_on"]) (k:=2) (cap:=[3]) (hc:=rfl) (hosc:=rfl) (hcap:=⟨rfl,by decide +kernel,by decide +kernel,by decide +kernel,rfl,rfl,by decide +kernel⟩) (a01 (d9 1) T.enumerate) (λcl C ex pins s H=>(u4 (n:=2) rfl (d5 (m7 (i:=0) (show List.Nodup (["place","person","hands_on"]:List Str) by decide +kernel)) (d5 (m7 (i:=1) (show List.Nodup (["place","person","hands_on"]:List Str) by decide +kernel)) n4)))) (λcl C ex pins s H=>(a6h (v9 (a4f rfl hu5) (d9 0) (d9 2)))) (λcl C ex pins s H=>(w8 (d0 (g7 0) (d0 (g7 1) i3)))))
   (c7 (a9O 5 6 rfl A1.nd (a7k (J0 i3)) (a7k (J0 i3)))
   (c7 (J9 rfl (a0A (g7 3)) (m7 (i:=7) A1.nd) (c7 (K0 (u0 (u7 rfl) (d9 1) (d9 7)) (u4 (n:=3) rfl (d5 (m7 (i:=8) A1.nd) (d5 (m7 (i:=9) A1.nd) (d5 (m7 (i:=10) A1.nd) n4)))))
   (g6 (G6 (v9 a68 (d9 9) (Ev.bw i7)) (g6 (L7 5 rfl (w8 (d0 (g7 7) (d0 (w8 (d0 (g7 8) (d0 (A4 a32 (d9 9) (Ev.bw i7)) (d0 (g9 C_keeps (hr.mono (by decide)) (m4 (g7 2) j6) (l9 j7)) i3)))) i3))))) (g6 (L7 6 rfl (g7 7)))))))
   (c7 (t8 11 A1.nd (a2O (v9 (a13 rfl hr.units) (d9 2) (Ev.bw O2)) (A4 (A9 rfl) (d9 4) (d9 5)) (l6 (a0z rfl) T.sorted a0P (h8 (Ev.bw (A4 (A9 rfl) (d9 4) (d9 5))) l7))))
   (g6 (r6 (w8 (d0 (g7 11) (d0 (g7 3) (d0 (x5 (z5 rfl) T.tuple y8 (h8 (d9 6) l7)) i3))))))))))))⟩
theorem V9:FnScope ["house","stand","beat","filled","lost","staying","hands_on","gone"] ["house","stand","beat"] (defScope s_step):=⟨rfl,rfl,rfl,by decide +kernel,rfl,by decide +kernel,by decide +kernel⟩
noncomputable def f_step:List DV->M PyData:=z6 ["house","stand","beat","filled","lost","staying","hands_on","gone"] (mSq (M4 (t9 2 (d4 (bN 3) (d4 (bN 4) u8))) (i8 f_let_in (vD (sV 0) (vD (sV 1) (vD (sV 2) n6)))))
  (mSq (M4 (t9 3 (d4 (bN 5) (d4 (bN 6) (d4 (bN 7) u8)))) (i8 f_worked (vD (sV 0) (vD (sV 3) n6))))
  (mRt (x9 (a9 (sN r9 (a9 (sLC (D4 (sW 5)) 2 [] (t9 2 (d4 (bN 0) (d4 (bN 1) u8))) E9 (sV 1)) d7)) (a9 (sV 4) (a9 (sV 7) d7)))))))
theorem ok_step {f:Addr}{fd:FuncData}(Fn:Fun K "step" "step" s_step f fd)(T:Txt K mg)(C_let_in:Callee P w K mg base "let_in" 1 ["house","stand","beat"] (spD K 3 f_let_in))(C_worked:Callee P w K mg base "worked" 3 ["house","stand"] (spD K 2 f_worked)):FnOk P w K mg base CX0 4 f fd ["house","stand","beat"] (spD K 3 f_step):=by
 refine y9 Fn V9 λcdv A outer s H E hr=>?_
 have hu5:(A.deeper (PyProof.Rows.envOfC "step" (defScope s_step) s.heap.objs.size f cdv)).units+65<cLine:=by have:=hr.un;omega
 exact⟨_,(c7 (K0 (g9 C_let_in (hr.mono (by decide)) (m4 (g7 0) (m4 (g7 1) (m4 (g7 2) j6))) (l9 (l9 (l9 j7)))) (u4 (n:=2) rfl (d5 (m7 (i:=3) V9.nd) (d5 (m7 (i:=4) V9.nd) n4))))
   (c7 (K0 (g9 C_worked (hr.mono (by decide)) (m4 (g7 0) (m4 (g7 3) j6)) (l9 (l9 j7))) (u4 (n:=3) rfl (d5 (m7 (i:=5) V9.nd) (d5 (m7 (i:=6) V9.nd) (d5 (m7 (i:=7) V9.nd) n4)))))
   (g6 (r6 (w8 (d0 (x5 (z5 rfl) T.tuple y8 (h8 (Ev.bw (T9 (osc:=(defScope s_step)) (N:=["place","person"]) (k:=2) (cap:=[]) rfl rfl ⟨rfl,by decide +kernel,by decide +kernel,by decide +kernel,rfl,rfl,by decide +kernel⟩ (D5 (d9 5)) (λcl C ex pins s H=>(u4 (n:=2) rfl (d5 (m7 (i:=0) (show List.Nodup (["place","person"]:List Str) by decide +kernel)) (d5 (m7 (i:=1) (show List.Nodup (["place","person"]:List Str) by decide +kernel)) n4)))) (λcl C ex pins s H=>A6) (λcl C ex pins s H=>(g7 1)))) l7)) (d0 (g7 4) (d0 (g7 7) i3))))))))⟩
theorem a0R:FnScope ["house","way","stand","stands","lost","gone","beat","following","turned_away","places"] ["house","way","stand"] (defScope s_run):=⟨rfl,rfl,rfl,by decide +kernel,rfl,by decide +kernel,by decide +kernel⟩
noncomputable def f_run:List DV->M PyData:=z6 ["house","way","stand","stands","lost","gone","beat","following","turned_away","places"] (mSq (a29 3 4 5 (cO (J8 (a9 (sV 2) d7))) (cO (J8 d7)) (cO (J8 d7)))
  (mSq (M8 (D4 (sV 1)) (bN 6) (mSq (M4 (t9 3 (d4 (bN 7) (d4 (bN 8) (d4 (bN 9) u8)))) (i8 f_step (vD (sV 0) (vD (s2 ixD (sW 3) (s1 a5h (sC (.int 1)))) (vD (sV 6) n6)))))
  (mSq (M3 3 (sV 7))
  (mSq (M3 4 (sV 8))
  (M3 5 (sN z7 (a9 (sW 9) d7)))))))
  (mRt (x9 (a9 (sN r9 (a9 (sW 3) d7)) (a9 (sN r9 (a9 (sW 4) d7)) (a9 (sN r9 (a9 (sW 5) d7)) d7)))))))
theorem ok_run {f:Addr}{fd:FuncData}(Fn:Fun K "run" "run" s_run f fd)(T:Txt K mg)(C_step:Callee P w K mg base "step" 4 ["house","stand","beat"] (spD K 3 f_step)):FnOk P w K mg base CX0 5 f fd ["house","way","stand"] (spD K 3 f_run):=by
 refine y9 Fn a0R λcdv A outer s H E hr=>?_
 have hu5:(A.deeper (PyProof.Rows.envOfC "run" (defScope s_run) s.heap.objs.size f cdv)).units+65<cLine:=by have:=hr.un;omega
 exact⟨_,(c7 (a8E 3 4 5 rfl a0R.nd (a7k (J0 (d0 (g7 2) i3))) (a7k (J0 i3)) (a7k (J0 i3)))
   (c7 (J9 rfl (a0A (g7 1)) (m7 (i:=6) a0R.nd) (c7 (K0 (g9 C_step (hr.mono (by decide)) (m4 (g7 0) (m4 (u0 (u7 rfl) (d9 3) (Ev.bw (a99 a55 (Ev.bw i7)))) (m4 (g7 6) j6))) (l9 (l9 (l9 j7)))) (u4 (n:=3) rfl (d5 (m7 (i:=7) a0R.nd) (d5 (m7 (i:=8) a0R.nd) (d5 (m7 (i:=9) a0R.nd) n4)))))
   (c7 (L7 3 rfl (g7 7))
   (c7 (L7 4 rfl (g7 8))
   (g6 (L7 5 rfl (l6 (w6 rfl) T.len x3 (h8 (d9 9) l7))))))))
   (g6 (r6 (w8 (d0 (x5 (z5 rfl) T.tuple y8 (h8 (d9 3) l7)) (d0 (x5 (z5 rfl) T.tuple y8 (h8 (d9 4) l7)) (d0 (x5 (z5 rfl) T.tuple y8 (h8 (d9 5) l7)) i3))))))))⟩
theorem C5:FnScope ["course","waited","gone_at","word","beat","waits"] ["course","waited","gone_at"] (defScope s_after_beat):=⟨rfl,rfl,rfl,by decide +kernel,rfl,by decide +kernel,by decide +kernel⟩
noncomputable def f_after_beat:List DV->M PyData:=z6 ["course","waited","gone_at","word","beat","waits"] (mSq (M4 (t9 3 (d4 (bN 3) (d4 (bN 4) (d4 (bN 5) u8)))) (sV 0))
  (mSq (a1l (λi j=>i+j) 5 (sIf (uT (sW 1)) (sC (.int 1)) (sC (.int 0))))
  (mSq (mIf (uB (s2 (isD false) (sW 2) (sC .none))) (mRt (x9 (a9 (sV 3) (a9 (sV 4) (a9 (sV 5) d7))))) mNx)
  (mRt (x9 (a9 (sC (.str "gone")) (a9 (sV 4) (a9 (sV 2) (a9 (sV 5) d7)))))))))
theorem ok_after_beat {f:Addr}{fd:FuncData}(Fn:Fun K "after_beat" "after_beat" s_after_beat f fd)(T:Txt K mg) :FnOk P w K mg base CX0 1 f fd ["course","waited","gone_at"] (spD K 3 f_after_beat):=by
 refine y9 Fn C5 λcdv A outer s H E hr=>?_
 have hu5:(A.deeper (PyProof.Rows.envOfC "after_beat" (defScope s_after_beat) s.heap.objs.size f cdv)).units+65<cLine:=by have:=hr.un;omega
 exact⟨_,(c7 (K0 (g7 0) (u4 (n:=3) rfl (d5 (m7 (i:=3) C5.nd) (d5 (m7 (i:=4) C5.nd) (d5 (m7 (i:=5) C5.nd) n4)))))
   (c7 (a1o 5 C5.nd (a2O (a27 (d9 1)) i7 i7))
   (c7 (G6 (v9 b0I (d9 2) (Ev.bw T8)) (g6 (r6 (w8 (d0 (g7 3) (d0 (g7 4) (d0 (g7 5) i3)))))) B1)
   (g6 (r6 (w8 (d0 O2 (d0 (g7 4) (d0 (g7 2) (d0 (g7 5) i3))))))))))⟩
theorem m9:FnScope ["house","way","told","stand","inside","at","beat","filled","lost","entered","staying","hands_on","gone","place","number"] ["house","way"] (defScope s_courses):=⟨rfl,rfl,rfl,by decide +kernel,rfl,by decide +kernel,by decide +kernel⟩
noncomputable def f_courses:List DV->M PyData:=z6 ["house","way","told","stand","inside","at","beat","filled","lost","entered","staying","hands_on","gone","place","number"] (mSq (T5 2 (J8 d7))
  (mSq (a17 3 4 (cD (sC (.tuple []))) (cO (J8 d7)))
  (mSq (M8 (M5 (sV 1)) (t9 2 (d4 (bN 5) (d4 (bN 6) u8))) (mSq (M4 (t9 2 (d4 (bN 7) (d4 (bN 8) u8))) (i8 f_let_in (vD (sV 0) (vD (sV 3) (vD (sV 6) n6)))))
  (mSq (v5 9 (s2 a1T (sN z7 (a9 (sW 6) d7)) (sW 8)))
  (mSq (a3S 4 (a0M (a9 (sN z7 (a9 (sW 2) d7)) (a9 (s2 B5 (sN z7 (a9 (sW 2) d7)) (sW 9)) d7))))
  (mSq (a3S 2 (s2 B5 (s2 X5 (a46 (a9 (x9 (a9 (sC (.str "in")) (a9 (sV 5) (a9 (sC (.int 0)) d7)))) d7)) (sW 9)) (s2 X5 (a46 (a9 (x9 (a9 (sC (.str "lost")) (a9 (sV 5) d7))) d7)) (sW 8))))
  (mSq (M4 (t9 3 (d4 (bN 10) (d4 (bN 11) (d4 (bN 12) u8)))) (i8 f_worked (vD (sV 0) (vD (sV 7) n6))))
  (mSq (a35 4 (M8 (M5 (sV 4)) (t9 2 (d4 (bN 13) (d4 (bN 14) u8))) (a5u 2 (i8 f_after_beat (vD (s2 ixD (sW 2) (sW 14)) (vD (s2 (inD true) (sW 13) (sW 11)) (vD (sIf (uB (s2 (inD false) (sW 13) (sW 12))) (s2 B5 (sW 5) (sC (.int 1))) (sC .none)) n6)))) (sV 14))))
  (mSq (T5 4 (fLC (D4 (sW 10)) 2 [4] (t9 2 (d4 (bN 0) (d4 (bN 1) u8))) E9 (s2 ixD (sW 2) (sW 0))))
  (v5 3 (sN r9 (a9 (sLC (D4 (sW 10)) 2 [] (t9 2 (d4 (bN 0) (d4 (bN 1) u8))) E9 (sV 1)) d7)))))))))))
  (mRt (sW 2)))))
theorem ok_courses {f:Addr}{fd:FuncData}(Fn:Fun K "courses" "courses" s_courses f fd)(T:Txt K mg)(C_let_in:Callee P w K mg base "let_in" 1 ["house","stand","beat"] (spD K 3 f_let_in))(C_worked:Callee P w K mg base "worked" 3 ["house","stand"] (spD K 2 f_worked))(C_after_beat:Callee P w K mg base "after_beat" 1 ["course","waited","gone_at"] (spD K 3 f_after_beat)):FnOk P w K mg base CX0 4 f fd ["house","way"] (spD K 2 f_courses):=by
 refine y9 Fn m9 λcdv A outer s H E hr=>?_
 have hu5:(A.deeper (PyProof.Rows.envOfC "courses" (defScope s_courses) s.heap.objs.size f cdv)).units+65<cLine:=by have:=hr.un;omega
 exact⟨_,(c7 (O1 2 m9.nd (J0 i3))
   (c7 (a8e 3 4 rfl rfl m9.nd (b3V (a0K (.tuple []) rfl)) (a7k (J0 i3)))
   (c7 (J9 rfl (a5N (g7 1) T.enumerate) (u4 (n:=2) rfl (d5 (m7 (i:=5) m9.nd) (d5 (m7 (i:=6) m9.nd) n4))) (c7 (K0 (g9 C_let_in (hr.mono (by decide)) (m4 (g7 0) (m4 (g7 3) (m4 (g7 6) j6))) (l9 (l9 (l9 j7)))) (u4 (n:=2) rfl (d5 (m7 (i:=7) m9.nd) (d5 (m7 (i:=8) m9.nd) n4))))
   (c7 (t8 9 m9.nd (A4 a32 (Ev.bw (l6 (w6 rfl) T.len x3 (h8 (d9 6) l7))) (d9 8)))
   (c7 (a64 4 m9.nd (Ev.bw (a3J (d0 (l6 (w6 rfl) T.len x3 (h8 (d9 2) l7)) (d0 (A4 (A9 rfl) (Ev.bw (l6 (w6 rfl) T.len x3 (h8 (d9 2) l7))) (d9 9)) i3)) rfl T.range T.list S4)))
   (c7 (a64 2 m9.nd (Ev.bw (A4 (A9 rfl) (Ev.bw (A4 (a39 rfl) (Ev.bw (a4A (d0 (w8 (d0 O2 (d0 (g7 5) (d0 i7 i3)))) i3))) (d9 9))) (Ev.bw (A4 (a39 rfl) (Ev.bw (a4A (d0 (w8 (d0 O2 (d0 (g7 5) i3))) i3))) (d9 8))))))
   (c7 (K0 (g9 C_worked (hr.mono (by decide)) (m4 (g7 0) (m4 (g7 7) j6)) (l9 (l9 j7))) (u4 (n:=3) rfl (d5 (m7 (i:=10) m9.nd) (d5 (m7 (i:=11) m9.nd) (d5 (m7 (i:=12) m9.nd) n4)))))
   (c7 (a3q 4 (J9 rfl (a5N (g7 4) T.enumerate) (u4 (n:=2) rfl (d5 (m7 (i:=13) m9.nd) (d5 (m7 (i:=14) m9.nd) n4))) (g6 (a5p 2 (g9 C_after_beat (hr.mono (by decide)) (m4 (u0 (u7 rfl) (d9 2) (d9 14)) (m4 (Z5 (a4f rfl hu5) (d9 13) (d9 11)) (m4 (a2O (v9 (a1Z rfl hu5) (d9 13) (d9 12)) (A4 (A9 rfl) (d9 5) (Ev.bw i7)) T8) j6))) (l9 (l9 (l9 j7)))) (g7 14)))))
   (c7 (O1 4 m9.nd (b3F (osc:=(defScope s_courses)) (N:=["place","person","inside"]) (k:=2) (cap:=[4]) rfl rfl ⟨rfl,by decide +kernel,by decide +kernel,by decide +kernel,rfl,rfl,by decide +kernel⟩ (D5 (d9 10)) (λcl C ex pins s H=>(u4 (n:=2) rfl (d5 (m7 (i:=0) (show List.Nodup (["place","person","inside"]:List Str) by decide +kernel)) (d5 (m7 (i:=1) (show List.Nodup (["place","person","inside"]:List Str) by decide +kernel)) n4)))) (λcl C ex pins s H=>A6) (λcl C ex pins s H=>(u0 (u7 rfl) (d9 2) (d9 0)))))
   (g6 (t8 3 m9.nd (x5 (z5 rfl) T.tuple y8 (h8 (Ev.bw (T9 (osc:=(defScope s_courses)) (N:=["place","person"]) (k:=2) (cap:=[]) rfl rfl ⟨rfl,by decide +kernel,by decide +kernel,by decide +kernel,rfl,rfl,by decide +kernel⟩ (D5 (d9 10)) (λcl C ex pins s H=>(u4 (n:=2) rfl (d5 (m7 (i:=0) (show List.Nodup (["place","person"]:List Str) by decide +kernel)) (d5 (m7 (i:=1) (show List.Nodup (["place","person"]:List Str) by decide +kernel)) n4)))) (λcl C ex pins s H=>A6) (λcl C ex pins s H=>(g7 1)))) l7))))))))))))
   (g6 (a5Z 2)))))⟩
theorem M6:FnScope ["house","way","stand","voids"] ["house","way"] (defScope s_drained):=⟨rfl,rfl,rfl,by decide +kernel,rfl,by decide +kernel,by decide +kernel⟩
noncomputable def f_drained:List DV->M PyData:=z6 ["house","way","stand","voids"] (mSq (v5 2 (s2 ixD (s2 ixD (i8 f_run (vD (sV 0) (vD (sV 1) (vD (sC (.tuple [])) n6)))) (sC (.int 0))) (s1 a5h (sC (.int 1)))))
  (mSq (v5 3 (sC (.int 0)))
  (mSq (mWh (uB (s2 gtD (sN z7 (a9 (sW 2) d7)) (sC (.int 0)))) (mSq (v5 2 (s2 ixD (i8 f_step (vD (sV 0) (vD (sV 2) (vD (sC (.tuple [])) n6)))) (sC (.int 0))))
  (a1l (λi j=>i+j) 3 (sC (.int 1)))))
  (mRt (s2 B5 (sW 1) (s2 X5 (sC (.tuple [.tuple []])) (sW 3)))))))
theorem ok_drained {f:Addr}{fd:FuncData}(Fn:Fun K "drained" "drained" s_drained f fd)(T:Txt K mg)(C_run:Callee P w K mg base "run" 5 ["house","way","stand"] (spD K 3 f_run))(C_step:Callee P w K mg base "step" 4 ["house","stand","beat"] (spD K 3 f_step)):FnOk P w K mg base CX0 6 f fd ["house","way"] (spD K 2 f_drained):=by
 refine y9 Fn M6 λcdv A outer s H E hr=>?_
 have hu5:(A.deeper (PyProof.Rows.envOfC "drained" (defScope s_drained) s.heap.objs.size f cdv)).units+65<cLine:=by have:=hr.un;omega
 exact⟨_,(c7 (t8 2 M6.nd (u0 (u7 rfl) (Ev.bw (u0 (u7 rfl) (Ev.bw (g9 C_run (hr.mono (by decide)) (m4 (g7 0) (m4 (g7 1) (m4 (a0K (.tuple []) rfl) j6))) (l9 (l9 (l9 j7))))) (Ev.bw i7))) (Ev.bw (a99 a55 (Ev.bw i7)))))
   (c7 (t8 3 M6.nd i7)
   (c7 (a7x (v9 a68 (Ev.bw (l6 (w6 rfl) T.len x3 (h8 (d9 2) l7))) (Ev.bw i7)) (c7 (t8 2 M6.nd (u0 (u7 rfl) (Ev.bw (g9 C_step (hr.mono (by decide)) (m4 (g7 0) (m4 (g7 2) (m4 (a0K (.tuple []) rfl) j6))) (l9 (l9 (l9 j7))))) (Ev.bw i7)))
   (g6 (a1o 3 M6.nd i7))))
   (g6 (r6 (A4 (A9 rfl) (d9 1) (Ev.bw (A4 (a39 rfl) (Ev.bw (a0K (.tuple [.tuple []]) rfl)) (d9 3)))))))))⟩
noncomputable def spFeed (K:PySem.W.Frag):Sp:=λvs H Q _=>∃(a:Addr) (ns:List Int),vs=[.ref a]∧SqL K H a (ns.map V.int)∧ns.length≤63 ∧
 ∀(d c:Addr) (H':Hp),Feeds.At d c H' (a4D ns)->i5 H H'->Q (.ref d) H'
theorem b3k {ns:List Int}(h:ns.length≤63):a0T (ns.map V.int) none (some 63)=ns.map V.int:=by
 unfold a0T
 have e:HT.sIx (ns.map V.int).length (ns.map V.int).length (some 63)=min 63 (ns.map V.int).length:=HT.sIx_nat _ _ 63
 rw[e,HT.sIx_none,List.drop_zero,Nat.sub_zero,List.take_of_length_le (by rw[List.length_map];omega)]
theorem a3k:FnScope ["_law_script"] ["_law_script"] (defScope s__law_feed):=⟨rfl,rfl,rfl,by decide +kernel,rfl,by decide +kernel,by decide +kernel⟩
theorem ok__law_feed {f:Addr}{fd:FuncData}(F:Fun K "_law_feed" "_law_feed" s__law_feed f fd)(T:Txt K mg):FnOk P w K mg base CX0 1 f fd ["_law_script"] (spFeed K):=by
 refine F.ok a3k (λvs H Q E h=>?_) (λcdv A outer s H vs Q E hr h=>?_)
 ·obtain⟨a,ns,rfl,_⟩:=h
  rfl
 ·obtain⟨a,ns,rfl,hS,hl,k⟩:=h
  refine⟨_,W9 (Z9 (a1I (p8 (Q5 K8 rfl T.list S4 (p8 (a3I a60 (pv 0) a6A (a30 m6)) A2)) (p8 m6 (p8 m6 A2))))),?_⟩
  refine⟨_,rfl,63,rfl,a,_,rfl,hS,λq0 hq0=>?_⟩
  rw[b3k hl]
  refine⟨q0,_,rfl,.inl (SqL.of g8),λq hq=>⟨Nat.le_of_lt (a0U (by show 3≤1000;decide)),λp hp=>?_⟩⟩
  have s0:i5 H (upd H q0 (.lst (ns.map V.int))):=i5.upd hq0
  have nqp:q≠p:=l5 g8 hp
  refine k p q _ ⟨g8,by rw[f7 nqp];exact g8,hl,(by show(0:Int)≤0;decide),(by show(0:Int)≤0;decide),Ne.symm nqp⟩ λb o e=>?_
  have e1:upd (upd H q0 (.lst (ns.map V.int))) q (.lst (ns.map V.int)) b=some o:=by rw[f7 (l5 (s0 b o e) hq)];exact s0 b o e
  rw[f7 (l5 e1 hp)]
  exact e1
theorem D7:FnScope ["_law_feed_here","_law_many","_law_digit","_law_at","_law_cell","_law_first"] ["_law_feed_here","_law_many"] (defScope s__law_next):=⟨rfl,rfl,rfl,by decide +kernel,rfl,by decide +kernel,by decide +kernel⟩
theorem ok__law_next {f:Addr}{fd:FuncData}(Fn:Fun K "_law_next" "_law_next" s__law_next f fd)(T:Txt K mg):FnOk P w K mg base CX0 1 f fd ["_law_feed_here","_law_many"] (spD K 2 drawS):=by
 refine Fn.ok D7 (λvs H Q E h=>?_) (λcdv A outer s H vs Q E hr h=>?_)
 ·obtain⟨G,B,F,args,d,F',hl,_⟩:=h
  exact hl
 ·obtain⟨G,B,F,args,dd,F',hl,fB,bk,fa,ha,hm0,q⟩:=h
  obtain⟨m,rfl⟩:∃m,args=[.feed,.dat (.int m)]:=by
   unfold drawS at hm0
   split at hm0
   ·exact⟨_,rfl⟩
   ·cases hm0
  obtain⟨v,r,rfl,_,⟨d,c,rfl,rfl⟩,v2,r2,rfl,_,hv2,rfl⟩:=ha
  have hv2:v2 = .int m:=by simpa only[DVr,b7] using hv2
  subst hv2
  obtain⟨⟨r0,F1⟩,e1,e2⟩:=Option.bind_eq_some_iff.mp hm0
  cases e2
  replace e1:a1f m F=some (r0,F1):=e1
  have hcond:0<m∧m<1073741824∧F.t<199999:=by
   unfold a1f at e1
   split at e1
   ·assumption
   ·cases e1
  obtain⟨hm,hm2,htl⟩:=hcond
  obtain⟨ns,a,l,t⟩:=F
  obtain⟨⟨hd,hc,hl63,ha0,ht0,ndc⟩,tbo⟩:=fa
  simp only at hd hc hl63 ha0 ht0 htl
  have k:∀(r:Int) (H':Hp) (F2:FdS),a1f m ⟨ns,a,l,t⟩=some (r,F2)->Feeds.At d c H' F2->(∀b o,H b=some o->b≠d->H' b=some o)->Q (.int r) H':=λr H' F2 er fa' kp=>by
   rw[er]at e1
   cases e1
   exact q _ H' (λb o e nb=>kp b o e λz=>nb (by simp[k8,z])) ⟨fa',tbo.but hd ⟨λ_ z=>(by cases z),λ_ z=>(by cases z)⟩ kp⟩ b7.int
  have hdr:a1f m ⟨ns,a,l,t⟩=some (if 0<l then(l % m,⟨ns,a,l / m,t+1⟩) else if 10 ^ 18≤(FdS.cellL ⟨ns,a,l,t⟩)∧a<ns.length then((FdS.cellL ⟨ns,a,l,t⟩) % m,⟨ns,a+1,(FdS.cellL ⟨ns,a,l,t⟩) / m,t+1⟩) else((FdS.mixN ⟨ns,a,l,t⟩) % m,⟨ns,a+1,l,t+1⟩)):=by
   unfold a1f;rw[if_pos ⟨hm,hm2,htl⟩]
  have ncd:c≠d:=Ne.symm ndc
  refine⟨_,z8 (a8p (a02 b16 (X4 J4 (pv 0) m6 (λ_ _=>rfl)) m6 (a0y _))
    (z8 (Z2 (i:=2) D7.nd rfl (Or.inl rfl) (z4 V1 (X4 J4 (pv 0) m6 (λ_ _=>rfl)) (pv 1)))
     (z8 (a0Y (z4 a3d (X4 J4 (pv 0) m6 (λ_ _=>rfl)) (pv 1)) (a2U (pv 0) m6 a0b (λ_=>rfl))) (W9 (Z9 (pv 2))))) a3c)
   (z8 (Z2 (i:=3) D7.nd rfl (Or.inl rfl) (X4 J4 (pv 0) m6 (λ_ _=>rfl)))
   (z8 (a0Y (z4 Y5 (pv 3) m6) (a2U (pv 0) m6 a0b (λ_=>rfl)))
   (z8 (Z2 (i:=4) D7.nd rfl (Or.inl rfl) (a4h (a02 (a7o (Nat.lt_of_le_of_lt (Nat.le_add_right _ 64) hr.units)) (X4 J4 (pv 0) m6 (λ_ _=>rfl)) (a1I A2) (a0y _))
    (X4 J4 (X4 J4 (pv 0) m6 (λ_ _=>rfl)) (z4 V1 (pv 3) (a1F R8 (by rfl) T.len PySem.boot_len (p8 (X4 J4 (pv 0) m6 (λ_ _=>rfl)) A2))) (λ_ _=>rfl)) m6))
   (z8 (a8p (PW.pt (b2q (a02 b0G (pv 4) (z4 a8N m6 m6) (a0y _)) (a9I (a02 b0M (pv 3) (a1F R8 (by rfl) T.len PySem.boot_len (p8 (X4 J4 (pv 0) m6 (λ_ _=>rfl)) A2)) (a0y _)))))
    (z8 (a0Y (z4 a3d (pv 4) (pv 1)) (a2U (pv 0) m6 a0b (λ_=>rfl))) (W9 (Z9 (z4 V1 (pv 4) (pv 1))))) a3c)
   (z8 (Z2 (i:=5) D7.nd rfl (Or.inl rfl) (z4 V1 (z4 Z0 (z4 Y5 (z4 Y5 (z4 Y5 (z4 V1 (pv 4) m6) (z4 Z0 (z4 Z0 m6 (pv 3)) (pv 3))) (z4 Z0 m6 (pv 3))) m6) m6) m6))
   (W9 (Z9 (z4 V1 (z4 a3d (z4 V1 (z4 Z0 (z4 V1 (z4 Y5 (z4 Y5 (z4 Z0 (pv 5) (pv 5)) (z4 Z0 m6 (pv 3))) m6) m6) m6) m6) m6) (pv 1))))))))),?_⟩
  refine⟨_,rfl,d,_,_,_,rfl,rfl,SqL.of hd,rfl,_,_,rfl,rfl,_,rfl,?_⟩
  refine a6T (λhleft=>?_) (λhleft=>?_)
  ·have hleft:0<l:=of_decide_eq_true hleft
   refine⟨_,rfl,d,_,_,_,rfl,rfl,SqL.of hd,rfl,_,rfl,_,_,rfl,rfl,hm,?_⟩
   refine⟨_,rfl,d,_,_,_,rfl,rfl,SqL.of hd,rfl,_,rfl,_,_,rfl,rfl,⟨hm,hm2⟩,_,rfl,d,_,_,2,rfl,rfl,hd,rfl,_,rfl,?_⟩
   exact k _ _ ⟨ns,a,l / m,t+1⟩ (by rw[hdr,if_pos hleft]) ⟨g8,by rw[f7 ncd];exact hc,hl63,ha0,by simp only;omega,ndc⟩ (λb o e hb=>by rw[f7 hb];exact e)
  ·have hleft:¬0<l:=λz=>hleft (decide_eq_true z)
   refine⟨_,rfl,d,_,_,_,rfl,rfl,SqL.of hd,rfl,?_⟩
   refine⟨_,rfl,_,_,rfl,rfl,_,rfl,d,_,_,1,rfl,rfl,hd,rfl,?_⟩
   have hd1:(upd H d (.lst [.ref c,.int (a+1),.int l])) d=some (.lst [.ref c,.int (a+1),.int l]):=g8
   have hc1:(upd H d (.lst [.ref c,.int (a+1),.int l])) c=some (.lst (ns.map V.int)):=by rw[f7 ncd];exact hc
   have kp1:∀b o,H b=some o->b≠d->(upd H d (.lst [.ref c,.int (a+1),.int l])) b=some o:=λb o e hb=>by rw[f7 hb];exact e
   show a9W _ _ _ _ (upd H d (.lst [.ref c,.int (a+1),.int l]))
   generalize upd H d (.lst [.ref c,.int (a+1),.int l])=H1 at hd1 hc1 kp1
   refine⟨_,rfl,d,_,_,_,rfl,rfl,SqL.of hd1,rfl,?_⟩
   refine⟨Nat.le_of_lt (a0U (by show 0≤1000;decide)),λp hp=>?_⟩
   replace kp1:∀b o,H b=some o->b≠d->(upd H1 p (.lst [])) b=some o:=λb o e hb=>by rw[f7 (l5 (kp1 b o e hb) hp)];exact kp1 b o e hb
   replace hd1:(upd H1 p (.lst [])) d=some (.lst [.ref c,.int (a+1),.int l]):=by rw[f7 (l5 hd1 hp)];exact hd1
   replace hc1:(upd H1 p (.lst [])) c=some (.lst (ns.map V.int)):=by rw[f7 (l5 hc1 hp)];exact hc1
   have hpp:(upd H1 p (.lst [])) p=some (.lst []):=g8
   generalize upd H1 p (.lst [])=H1 at hd1 hc1 kp1 hpp
   refine⟨c,p,_,rfl,rfl,SqL.of hc1,SqL.of hpp,_,rfl,?_⟩
   have big:10 ^ 18≤(FdS.cellL ⟨ns,a,l,t⟩)∧a<ns.length->Q (.int (FdS.cellL ⟨ns,a,l,t⟩ % m)) (upd H1 d (.lst [.ref c,.int (a+1),.int (FdS.cellL ⟨ns,a,l,t⟩ / m)])):=λhb =>
    k _ _ ⟨ns,a+1,FdS.cellL ⟨ns,a,l,t⟩ / m,t+1⟩ (by rw[hdr,if_neg hleft,if_pos hb]) ⟨g8,by rw[f7 ncd];exact hc1,hl63,by simp only;omega,by simp only;omega,ndc⟩ (λb o e hb=>by rw[f7 hb];exact kp1 b o e hb)
   have small:¬(10 ^ 18≤(FdS.cellL ⟨ns,a,l,t⟩)∧a<ns.length)->Q (.int (FdS.mixN ⟨ns,a,l,t⟩ % m)) H1:=λhb =>
    k _ _ ⟨ns,a+1,l,t+1⟩ (by rw[hdr,if_neg hleft,if_neg hb]) ⟨hd1,hc1,hl63,by simp only;omega,by simp only;omega,ndc⟩ kp1
   unfold FdS.mixN FdS.fstN at small
   simp only at small
   refine a6T (λhne=>?_) (λhe=>?_)
   ·have h0:¬ns=[]:=by intro e;rw[e]at hne;simp at hne
    have hne:(0:Int)<ns.length:=by have:=List.length_pos_iff.mpr h0;omega
    refine⟨_,rfl,d,_,_,_,rfl,rfl,SqL.of hd1,rfl,_,rfl,_,rfl,d,_,_,_,rfl,rfl,SqL.of hd1,rfl,c,_,rfl,.inl (SqL.of hc1),_,_,rfl,rfl,(by rw[List.length_map];exact hne),c,_,_,_,rfl,rfl,SqL.of hc1,a91 (F:=⟨ns,a,l,t⟩) h0,?_⟩
    generalize FdS.cellL ⟨ns,a,l,t⟩=z at big small
    obtain⟨q1,q2⟩:=a4T (x:=(z % 1000003+37*a*a+13*a+5)*48271) (m:=999983) (by decide)
    have tl:¬(10 ^ 18≤(z:Int)∧a<ns.length)->Q (.int (((z % 1000003+37*a*a+13*a+5)*48271 % 999983*((z % 1000003+37*a*a+13*a+5)*48271 % 999983)+7919*a+11) % 2097143*69621 % 2147483629 / 7 % m)) H1:=small
    refine⟨_,rfl,_,_,rfl,rfl,⟨by decide,by decide,by decide⟩,_,_,rfl,rfl,_,rfl,?_⟩
    refine a6T (λhb1=>⟨_,rfl,_,rfl,d,_,_,_,rfl,rfl,SqL.of hd1,rfl,c,_,rfl,.inl (SqL.of hc1),_,_,rfl,rfl,_,rfl,a6T (λhb2=>?_) (λhb2=>?_)⟩) (λhb1=>b32 ?_)
    ·have hb1:=of_decide_eq_true hb1
     have hb2:=of_decide_eq_true hb2
     rw[List.length_map]at hb2
     exact⟨_,rfl,_,rfl,_,_,rfl,rfl,⟨hm,hm2⟩,_,rfl,d,_,_,2,rfl,rfl,hd1,rfl,_,rfl,_,rfl,_,_,rfl,rfl,hm,big ⟨hb1,hb2⟩⟩
    ·have hq:=tl λhb=>hb2 (decide_eq_true (by rw[List.length_map];exact hb.2))
     refine⟨_,rfl,_,_,rfl,rfl,(by show(0:Int)<1000003;decide),_,rfl,_,_,rfl,rfl,.inl ⟨by decide,by decide⟩,_,rfl,_,_,rfl,rfl,.inr ⟨by omega,by omega⟩,_,_,rfl,rfl,_,rfl,_,_,rfl,rfl,.inl ⟨by decide,by decide⟩,_,_,rfl,rfl,_,_,rfl,rfl,_,_,rfl,rfl,.inr ⟨by decide,by decide⟩,_,_,rfl,rfl,(by show(0:Int)<999983;decide),?_⟩
     refine⟨_,rfl,_,rfl,_,_,rfl,rfl,.inl ⟨by omega,by omega⟩,_,rfl,_,_,rfl,rfl,.inl ⟨by decide,by decide⟩,_,_,rfl,rfl,_,_,rfl,rfl,_,_,rfl,rfl,(by show(0:Int)<2097143;decide),?_⟩
     exact⟨_,_,rfl,rfl,.inr ⟨by decide,by decide⟩,_,_,rfl,rfl,(by show(0:Int)<2147483629;decide),_,_,rfl,rfl,⟨by decide,by decide⟩,_,rfl,_,_,rfl,rfl,hm,hq⟩
    ·have hq:=tl λhb=>hb1 (decide_eq_true hb.1)
     refine⟨_,rfl,_,_,rfl,rfl,(by show(0:Int)<1000003;decide),_,rfl,_,_,rfl,rfl,.inl ⟨by decide,by decide⟩,_,rfl,_,_,rfl,rfl,.inr ⟨by omega,by omega⟩,_,_,rfl,rfl,_,rfl,_,_,rfl,rfl,.inl ⟨by decide,by decide⟩,_,_,rfl,rfl,_,_,rfl,rfl,_,_,rfl,rfl,.inr ⟨by decide,by decide⟩,_,_,rfl,rfl,(by show(0:Int)<999983;decide),?_⟩
     refine⟨_,rfl,_,rfl,_,_,rfl,rfl,.inl ⟨by omega,by omega⟩,_,rfl,_,_,rfl,rfl,.inl ⟨by decide,by decide⟩,_,_,rfl,rfl,_,_,rfl,rfl,_,_,rfl,rfl,(by show(0:Int)<2097143;decide),?_⟩
     exact⟨_,_,rfl,rfl,.inr ⟨by decide,by decide⟩,_,_,rfl,rfl,(by show(0:Int)<2147483629;decide),_,_,rfl,rfl,⟨by decide,by decide⟩,_,rfl,_,_,rfl,rfl,hm,hq⟩
   ·have h0:ns=[]:=by
     cases ns with
     | nil=>rfl
     | cons x y=>exact absurd rfl he
    have hcell:FdS.cellL ⟨ns,a,l,t⟩=0:=by unfold FdS.cellL;rw[if_pos h0]
    rw[hcell]at big small
    obtain⟨q1,q2⟩:=a4T (x:=((0:Int) % 1000003+37*a*a+13*a+5)*48271) (m:=999983) (by decide)
    have tl:¬(10 ^ 18≤((0:Int):Int)∧a<ns.length)->Q (.int ((((0:Int) % 1000003+37*a*a+13*a+5)*48271 % 999983*(((0:Int) % 1000003+37*a*a+13*a+5)*48271 % 999983)+7919*a+11) % 2097143*69621 % 2147483629 / 7 % m)) H1:=small
    refine⟨_,rfl,_,_,rfl,rfl,⟨by decide,by decide,by decide⟩,_,_,rfl,rfl,_,rfl,?_⟩
    refine a6T (λhb1=>⟨_,rfl,_,rfl,d,_,_,_,rfl,rfl,SqL.of hd1,rfl,c,_,rfl,.inl (SqL.of hc1),_,_,rfl,rfl,_,rfl,a6T (λhb2=>?_) (λhb2=>?_)⟩) (λhb1=>b32 ?_)
    ·have hb1:=of_decide_eq_true hb1
     have hb2:=of_decide_eq_true hb2
     rw[List.length_map]at hb2
     exact⟨_,rfl,_,rfl,_,_,rfl,rfl,⟨hm,hm2⟩,_,rfl,d,_,_,2,rfl,rfl,hd1,rfl,_,rfl,_,rfl,_,_,rfl,rfl,hm,big ⟨hb1,hb2⟩⟩
    ·have hq:=tl λhb=>hb2 (decide_eq_true (by rw[List.length_map];exact hb.2))
     refine⟨_,rfl,_,_,rfl,rfl,(by show(0:Int)<1000003;decide),_,rfl,_,_,rfl,rfl,.inl ⟨by decide,by decide⟩,_,rfl,_,_,rfl,rfl,.inr ⟨by omega,by omega⟩,_,_,rfl,rfl,_,rfl,_,_,rfl,rfl,.inl ⟨by decide,by decide⟩,_,_,rfl,rfl,_,_,rfl,rfl,_,_,rfl,rfl,.inr ⟨by decide,by decide⟩,_,_,rfl,rfl,(by show(0:Int)<999983;decide),?_⟩
     refine⟨_,rfl,_,rfl,_,_,rfl,rfl,.inl ⟨by omega,by omega⟩,_,rfl,_,_,rfl,rfl,.inl ⟨by decide,by decide⟩,_,_,rfl,rfl,_,_,rfl,rfl,_,_,rfl,rfl,(by show(0:Int)<2097143;decide),?_⟩
     exact⟨_,_,rfl,rfl,.inr ⟨by decide,by decide⟩,_,_,rfl,rfl,(by show(0:Int)<2147483629;decide),_,_,rfl,rfl,⟨by decide,by decide⟩,_,rfl,_,_,rfl,rfl,hm,hq⟩
    ·have hq:=tl λhb=>hb1 (decide_eq_true hb.1)
     refine⟨_,rfl,_,_,rfl,rfl,(by show(0:Int)<1000003;decide),_,rfl,_,_,rfl,rfl,.inl ⟨by decide,by decide⟩,_,rfl,_,_,rfl,rfl,.inr ⟨by omega,by omega⟩,_,_,rfl,rfl,_,rfl,_,_,rfl,rfl,.inl ⟨by decide,by decide⟩,_,_,rfl,rfl,_,_,rfl,rfl,_,_,rfl,rfl,.inr ⟨by decide,by decide⟩,_,_,rfl,rfl,(by show(0:Int)<999983;decide),?_⟩
     refine⟨_,rfl,_,rfl,_,_,rfl,rfl,.inl ⟨by omega,by omega⟩,_,rfl,_,_,rfl,rfl,.inl ⟨by decide,by decide⟩,_,_,rfl,rfl,_,_,rfl,rfl,_,_,rfl,rfl,(by show(0:Int)<2097143;decide),?_⟩
     exact⟨_,_,rfl,rfl,.inr ⟨by decide,by decide⟩,_,_,rfl,rfl,(by show(0:Int)<2147483629;decide),_,_,rfl,rfl,⟨by decide,by decide⟩,_,rfl,_,_,rfl,rfl,hm,hq⟩
theorem B6:FnScope ["_law_feed_here","_law_beats","_law_works","_law_way_here","_law_many","_law_k","_law_beat","_law_j"] ["_law_feed_here","_law_beats","_law_works"] (defScope s__law_way):=⟨rfl,rfl,rfl,by decide +kernel,rfl,by decide +kernel,by decide +kernel⟩
noncomputable def f__law_way:List DV->M PyData:=z6 ["_law_feed_here","_law_beats","_law_works","_law_way_here","_law_many","_law_k","_law_beat","_law_j"] (mSq (T5 3 (J8 d7))
  (mSq (v5 4 (sC (.int 0)))
  (mSq (M8 (X8 (a9 (i8 drawS (vF 0 (vD (s2 B5 (sW 1) (sC (.int 1))) n6))) d7)) (bN 5) (mSq (T5 6 (J8 d7))
  (mSq (M8 (X8 (a9 (s2 ixD (sC (.list [.int 0,.int 0,.int 1,.int 1,.int 2,.int 3])) (i8 drawS (vF 0 (vD (sC (.int 6)) n6)))) d7)) (bN 7) (mIf (uB (s2 ltD (sW 4) (sC (.int 40)))) (mSq (M3 6 (x9 (a9 (i8 drawS (vF 0 (vD (sC (.int 2)) n6))) (a9 (s2 B5 (sC (.int 1)) (i8 drawS (vF 0 (vD (sV 2) n6)))) d7))))
  (v5 4 (s2 B5 (sW 4) (sC (.int 1))))) mNx))
  (M3 3 (sN r9 (a9 (sW 6) d7))))))
  (mRt (sN r9 (a9 (sW 3) d7))))))
theorem ok__law_way {f:Addr}{fd:FuncData}(Fn:Fun K "_law_way" "_law_way" s__law_way f fd)(T:Txt K mg)(C__law_next:Callee P w K mg base "_law_next" 1 ["_law_feed_here","_law_many"] (spD K 2 drawS)):FnOk P w K mg base CX0 2 f fd ["_law_feed_here","_law_beats","_law_works"] (spD K 3 f__law_way):=by
 refine y9 Fn B6 λcdv A outer s H E hr=>?_
 have hu5:(A.deeper (PyProof.Rows.envOfC "_law_way" (defScope s__law_way) s.heap.objs.size f cdv)).units+65<cLine:=by have:=hr.un;omega
 exact⟨_,(c7 (O1 3 B6.nd (J0 i3))
   (c7 (t8 4 B6.nd i7)
   (c7 (J9 rfl (a08 (d0 (g9 C__law_next (hr.mono (by decide)) (a0i 0 (m4 (A4 (A9 rfl) (d9 1) (Ev.bw i7)) j6)) (a0h (l9 j7))) i3) T.range) (m7 (i:=5) B6.nd) (c7 (O1 6 B6.nd (J0 i3))
   (c7 (J9 rfl (a08 (d0 (u0 (u7 rfl) (Ev.bw (a0K (.list [.int 0,.int 0,.int 1,.int 1,.int 2,.int 3]) rfl)) (Ev.bw (g9 C__law_next (hr.mono (by decide)) (a0i 0 (m4 i7 j6)) (a0h (l9 j7))))) i3) T.range) (m7 (i:=7) B6.nd) (g6 (G6 (v9 a5x (d9 4) (Ev.bw i7)) (c7 (L7 6 rfl (w8 (d0 (g9 C__law_next (hr.mono (by decide)) (a0i 0 (m4 i7 j6)) (a0h (l9 j7))) (d0 (A4 (A9 rfl) (Ev.bw i7) (Ev.bw (g9 C__law_next (hr.mono (by decide)) (a0i 0 (m4 (g7 2) j6)) (a0h (l9 j7))))) i3))))
   (g6 (t8 4 B6.nd (A4 (A9 rfl) (d9 4) (Ev.bw i7))))) B1)))
   (g6 (L7 3 rfl (x5 (z5 rfl) T.tuple y8 (h8 (d9 6) l7)))))))
   (g6 (r6 (x5 (z5 rfl) T.tuple y8 (h8 (d9 3) l7)))))))⟩
theorem M9:FnScope ["_law_feed_here","_law_size"] ["_law_feed_here"] (defScope s__law_light_way):=⟨rfl,rfl,rfl,by decide +kernel,rfl,by decide +kernel,by decide +kernel⟩
noncomputable def f__law_light_way:List DV->M PyData:=z6 ["_law_feed_here","_law_size"] (mSq (v5 1 (i8 drawS (vF 0 (vD (sC (.int 3)) n6))))
  (mRt (i8 f__law_way (vF 0 (vD (s2 ixD (sC (.list [.int 5,.int 9,.int 24])) (sW 1)) (vD (s2 ixD (sC (.list [.int 6,.int 4,.int 2])) (sW 1)) n6))))))
theorem ok__law_light_way {f:Addr}{fd:FuncData}(Fn:Fun K "_law_light_way" "_law_light_way" s__law_light_way f fd)(T:Txt K mg)(C__law_next:Callee P w K mg base "_law_next" 1 ["_law_feed_here","_law_many"] (spD K 2 drawS))(C__law_way:Callee P w K mg base "_law_way" 2 ["_law_feed_here","_law_beats","_law_works"] (spD K 3 f__law_way)):FnOk P w K mg base CX0 3 f fd ["_law_feed_here"] (spD K 1 f__law_light_way):=by
 refine y9 Fn M9 λcdv A outer s H E hr=>?_
 have hu5:(A.deeper (PyProof.Rows.envOfC "_law_light_way" (defScope s__law_light_way) s.heap.objs.size f cdv)).units+65<cLine:=by have:=hr.un;omega
 exact⟨_,(c7 (t8 1 M9.nd (g9 C__law_next (hr.mono (by decide)) (a0i 0 (m4 i7 j6)) (a0h (l9 j7))))
   (g6 (r6 (g9 C__law_way (hr.mono (by decide)) (a0i 0 (m4 (u0 (u7 rfl) (Ev.bw (a0K (.list [.int 5,.int 9,.int 24]) rfl)) (d9 1)) (m4 (u0 (u7 rfl) (Ev.bw (a0K (.list [.int 6,.int 4,.int 2]) rfl)) (d9 1)) j6))) (a0h (l9 (l9 j7)))))))⟩
theorem T0:FnScope ["_law_house","_law_way_here","_law_told"] ["_law_house","_law_way_here"] (defScope s__law_moments):=⟨rfl,rfl,rfl,by decide +kernel,rfl,by decide +kernel,by decide +kernel⟩
noncomputable def f__law_moments:List DV->M PyData:=z6 ["_law_house","_law_way_here","_law_told"] (mSq (v5 2 (i8 f_courses (vD (sV 0) (vD (i8 f_drained (vD (sV 0) (vD (sV 1) n6))) n6))))
  (mRt (x9 (a9 (sV 2) (a9 (sLC (D4 (sW 2)) 1 [] (bN 0) E9 (sIf (uB (s2 (eqD false) (s2 ixD (sW 0) (sC (.int 0))) (sC (.str "gone")))) (s2 ixD (sW 0) (sC (.int 2))) (sC .none))) d7)))))
theorem ok__law_moments {f:Addr}{fd:FuncData}(Fn:Fun K "_law_moments" "_law_moments" s__law_moments f fd)(T:Txt K mg)(C_courses:Callee P w K mg base "courses" 4 ["house","way"] (spD K 2 f_courses))(C_drained:Callee P w K mg base "drained" 6 ["house","way"] (spD K 2 f_drained)):FnOk P w K mg base CX0 7 f fd ["_law_house","_law_way_here"] (spD K 2 f__law_moments):=by
 refine y9 Fn T0 λcdv A outer s H E hr=>?_
 have hu5:(A.deeper (PyProof.Rows.envOfC "_law_moments" (defScope s__law_moments) s.heap.objs.size f cdv)).units+65<cLine:=by have:=hr.un;omega
 exact⟨_,(c7 (t8 2 T0.nd (g9 C_courses (hr.mono (by decide)) (m4 (g7 0) (m4 (g9 C_drained (hr.mono (by decide)) (m4 (g7 0) (m4 (g7 1) j6)) (l9 (l9 j7))) j6)) (l9 (l9 j7))))
   (g6 (r6 (w8 (d0 (g7 2) (d0 (T9 (osc:=(defScope s__law_moments)) (N:=["_law_course"]) (k:=1) (cap:=[]) rfl rfl ⟨rfl,by decide +kernel,by decide +kernel,by decide +kernel,rfl,rfl,by decide +kernel⟩ (D5 (d9 2)) (λcl C ex pins s H=>(m7 (i:=0) (show List.Nodup (["_law_course"]:List Str) by decide +kernel))) (λcl C ex pins s H=>A6) (λcl C ex pins s H=>(a2O (v9 (a13 rfl hr.units) (Ev.bw (u0 (u7 rfl) (d9 0) (Ev.bw i7))) (Ev.bw O2)) (u0 (u7 rfl) (d9 0) (Ev.bw i7)) T8))) i3))))))⟩
theorem i9:FnScope ["_law_house","_law_way_here","_law_told","_law_numbers","_law_elder","_law_ahead","_law_newer","_law_after","_law_moved","_law_due","_law_place","_law_number"] ["_law_house","_law_way_here","_law_told","_law_numbers"] (defScope s__law_none_earlier):=⟨rfl,rfl,rfl,by decide +kernel,rfl,by decide +kernel,by decide +kernel⟩
noncomputable def f__law_none_earlier:List DV->M PyData:=z6 ["_law_house","_law_way_here","_law_told","_law_numbers","_law_elder","_law_ahead","_law_newer","_law_after","_law_moved","_law_due","_law_place","_law_number"] (mSq (M4 (t9 2 (d4 (bN 4) (d4 (bN 5) u8))) (i8 f__law_moments (vD (sV 0) (vD (sV 1) n6))))
  (mSq (M4 (t9 2 (d4 (bN 6) (d4 (bN 7) u8))) (i8 f__law_moments (vD (sV 0) (vD (sV 2) n6))))
  (mSq (mIf (uOr (uB (s2 (inD false) (sC .none) (sW 5))) (uOr (uB (s2 (inD false) (sC .none) (sW 7))) (uB (s2 (eqD true) (sN z7 (a9 (sW 3) d7)) (sN z7 (a9 (sW 7) d7)))))) (mRt (sC (.bool false))) mNx)
  (mSq (T5 8 (a7Y (sW 4)))
  (mSq (T5 9 (J8 d7))
  (mSq (M8 (X8 (a9 (sN z7 (a9 (sW 3) d7)) d7)) (bN 10) (mSq (v5 11 (s2 ixD (sW 3) (sW 10)))
  (mIf (uB (s2 geD (sW 11) (sC (.int 0)))) (mSq (a5u 8 (s2 ixD (sW 6) (sW 10)) (sV 11))
  (mIf (uB (s2 ltD (s2 ixD (sW 7) (sW 10)) (s2 ixD (sW 5) (sW 11)))) (mRt (sC (.bool false))) mNx)) mNx)))
  (mSq (M8 (X8 (a9 (sN z7 (a9 (sW 4) d7)) d7)) (bN 11) (mIf (uB (s2 gtD (s2 ixD (s2 ixD (sW 8) (sW 11)) (sC (.int 2))) (s2 ixD (sW 5) (sW 11)))) (M3 9 (sV 11)) mNx))
  (a35 8 (mRt (a6M (s2 (eqD false) (i8 f_later (vD (sV 8) (vD (sV 4) n6))) (sW 9)) (s2 (eqD false) (i8 f_later (vD (sV 4) (vD (sV 8) n6))) (sC (.list [])))))))))))))
theorem ok__law_none_earlier {f:Addr}{fd:FuncData}(Fn:Fun K "_law_none_earlier" "_law_none_earlier" s__law_none_earlier f fd)(T:Txt K mg)(C__law_moments:Callee P w K mg base "_law_moments" 7 ["_law_house","_law_way_here"] (spD K 2 f__law_moments))(C_later:Callee P w K mg base "later" 2 ["one","other"] (spD K 2 f_later)):FnOk P w K mg base CX0 8 f fd ["_law_house","_law_way_here","_law_told","_law_numbers"] (spD K 4 f__law_none_earlier):=by
 refine y9 Fn i9 λcdv A outer s H E hr=>?_
 have hu5:(A.deeper (PyProof.Rows.envOfC "_law_none_earlier" (defScope s__law_none_earlier) s.heap.objs.size f cdv)).units+65<cLine:=by have:=hr.un;omega
 exact⟨_,(c7 (K0 (g9 C__law_moments (hr.mono (by decide)) (m4 (g7 0) (m4 (g7 1) j6)) (l9 (l9 j7))) (u4 (n:=2) rfl (d5 (m7 (i:=4) i9.nd) (d5 (m7 (i:=5) i9.nd) n4))))
   (c7 (K0 (g9 C__law_moments (hr.mono (by decide)) (m4 (g7 0) (m4 (g7 2) j6)) (l9 (l9 j7))) (u4 (n:=2) rfl (d5 (m7 (i:=6) i9.nd) (d5 (m7 (i:=7) i9.nd) n4))))
   (c7 (G6 (Ew.t (a80 (v9 (a1Z rfl hu5) (Ev.bw T8) (d9 5)) (a80 (v9 (a1Z rfl hu5) (Ev.bw T8) (d9 7)) (a9k (v9 (a6e rfl hr.units) (Ev.bw (l6 (w6 rfl) T.len x3 (h8 (d9 3) l7))) (Ev.bw (l6 (w6 rfl) T.len x3 (h8 (d9 7) l7)))))))) (g6 (r6 a0n)) B1)
   (c7 (O1 8 i9.nd (a9X T.list S4 (d9 4) rfl))
   (c7 (O1 9 i9.nd (J0 i3))
   (c7 (J9 rfl (a08 (d0 (l6 (w6 rfl) T.len x3 (h8 (d9 3) l7)) i3) T.range) (m7 (i:=10) i9.nd) (c7 (t8 11 i9.nd (u0 (u7 rfl) (d9 3) (d9 10)))
   (g6 (G6 (v9 b2V (d9 11) (Ev.bw i7)) (c7 (a5p 8 (u0 (u7 rfl) (d9 6) (d9 10)) (g7 11))
   (g6 (G6 (v9 a5x (Ev.bw (u0 (u7 rfl) (d9 7) (d9 10))) (Ev.bw (u0 (u7 rfl) (d9 5) (d9 11)))) (g6 (r6 a0n)) B1))) B1))))
   (c7 (J9 rfl (a08 (d0 (l6 (w6 rfl) T.len x3 (h8 (d9 4) l7)) i3) T.range) (m7 (i:=11) i9.nd) (g6 (G6 (v9 a68 (Ev.bw (u0 (u7 rfl) (Ev.bw (u0 (u7 rfl) (d9 8) (d9 11))) (Ev.bw i7))) (Ev.bw (u0 (u7 rfl) (d9 5) (d9 11)))) (g6 (L7 9 rfl (g7 11))) B1)))
   (g6 (a3q 8 (r6 (a82 (Z5 (a13 rfl hr.units) (Ev.bw (g9 C_later (hr.mono (by decide)) (m4 (g7 8) (m4 (g7 4) j6)) (l9 (l9 j7)))) (d9 9)) (a5q (Z5 (a13 rfl hr.units) (Ev.bw (g9 C_later (hr.mono (by decide)) (m4 (g7 4) (m4 (g7 8) j6)) (l9 (l9 j7)))) (Ev.bw (a0K (.list []) rfl)))))))))))))))⟩
end
end K27
namespace K27
open PySem L2 L3
noncomputable section
variable {P:Program}{w:World}{K:PySem.W.Frag}{mg:Str->Option Value}{base:Heap}
theorem G8:FnScope ["_law_script","_law_feed_here","_law_house","_law_way_here","_law_turn","_law_comer","_law_told","_law_numbers"] ["_law_script"] (defScope s_law):=⟨rfl,rfl,rfl,by decide +kernel,rfl,by decide +kernel,by decide +kernel⟩
noncomputable def N6:Stmt->List Stmt
 | .For _ _ b _ _=>b
 | _=>[]
noncomputable def a1m:DE->M Out:=(v5 2 (x9 (a9 (s2 B5 (sC (.int 1)) (i8 drawS (vF 1 (vD (sC (.int 3)) n6)))) (a9 (sC .none) (a9 (sC (.str "first")) d7)))))
noncomputable def a1z:DE->M Out:=(v5 3 (i8 f__law_light_way (vF 1 n6)))
noncomputable def a1q:DE->M Out:=(mIf (uB (s2 (eqD false) (sW 3) (sC (.tuple [])))) (v5 3 (sC (.tuple [.tuple []]))) mNx)
noncomputable def Q8:DE->M Out:=(v5 5 (x9 (a9 (i8 drawS (vF 1 (vD (sC (.int 2)) n6))) (a9 (s2 B5 (sC (.int 1)) (i8 drawS (vF 1 (vD (sC (.int 6)) n6)))) d7))))
noncomputable def Q9:DE->M Out:=(M4 (t9 2 (d4 (bN 6) (d4 (bN 7) u8))) (i8 f_with_comer (vD (sV 3) (vD (i8 drawS (vF 1 (vD (sN z7 (a9 (sW 3) d7)) n6))) (vD (i8 drawS (vF 1 (vD (sC (.int 4)) n6))) (vD (sV 5) n6))))))
noncomputable def Q2:DE->M Out:=(mIf (uB (s2 (eqD true) (sN a3K (a9 (sW 7) d7)) (a0M (a9 (s1 a5h (sC (.int 1))) (a9 (sN a2K (a9 (sLC (D4 (sW 3)) 1 [] (bN 0) E9 (sN z7 (a9 (sW 0) d7))) d7)) d7))))) (mRt (sC (.bool false))) mNx)
noncomputable def Q6:DE->M Out:=(mIf (a4u (uT (i8 f__law_none_earlier (vD (sV 2) (vD (sV 3) (vD (sV 6) (vD (sV 7) n6))))))) (mRt (sC (.bool false))) mNx)
noncomputable def P8:DE->M Out:=(v5 3 (sV 6))
noncomputable def Q7:DE->M Out:=(M4 (t9 2 (d4 (bN 6) (d4 (bN 7) u8))) (i8 f_longer (vD (sV 3) (vD (i8 drawS (vF 1 (vD (sN z7 (a9 (sW 7) d7)) n6))) (vD (i8 drawS (vF 1 (vD (sC (.int 7)) n6))) n6)))))
noncomputable def P1:DE->M Out:=(mIf (uOr (uB (s2 (eqD true) (sN a7C (a9 (sW 7) d7)) (a0W (a9 (sN z7 (a9 (sW 7) d7)) d7)))) (a4u (uT (i8 f__law_none_earlier (vD (sV 2) (vD (sV 3) (vD (sV 6) (vD (sV 7) n6)))))))) (mRt (sC (.bool false))) mNx)
noncomputable def Q4:DE->M Out:=(v5 3 (sV 6))
noncomputable def a1t:DE->M Out:=(M8 (X8 (a9 (sC (.int 2)) d7)) (bN 4) (mSq Q8 (mSq Q9 (mSq Q2 (mSq Q6 (mSq P8 (mSq Q7 (mSq P1 Q4))))))))
noncomputable def a05:DE->M Out:=(mRt (sC (.bool true)))
section
variable {f:Addr}{cdv:Value}{A:Around}{outer:List Env}{s:Shared}{H:Hp}{E:XK}(T:Txt K mg)(hr:Room 8 (A.deeper (PyProof.Rows.envOfC "law" (defScope s_law) s.heap.objs.size f cdv)))(hu5:(A.deeper (PyProof.Rows.envOfC "law" (defScope s_law) s.heap.objs.size f cdv)).units+65<cLine)(C__law_next:Callee P w K mg base "_law_next" 1 ["_law_feed_here","_law_many"] (spD K 2 drawS))(C__law_light_way:Callee P w K mg base "_law_light_way" 3 ["_law_feed_here"] (spD K 1 f__law_light_way))(C_with_comer:Callee P w K mg base "with_comer" 2 ["way","beat","place","comer"] (spD K 4 f_with_comer))(C__law_none_earlier:Callee P w K mg base "_law_none_earlier" 8 ["_law_house","_law_way_here","_law_told","_law_numbers"] (spD K 4 f__law_none_earlier))(C_longer:Callee P w K mg base "longer" 3 ["way","number","more"] (spD K 3 f_longer))
include T hr hu5 C__law_next C__law_light_way C_with_comer C__law_none_earlier C_longer
theorem a8G:∃ts,Ss K (K1 CX0 P w K mg base ["_law_script","_law_feed_here","_law_house","_law_way_here","_law_turn","_law_comer","_law_told","_law_numbers"] "law" (defScope s_law) f cdv A outer s H E).nox ((defBody s_law).getD 1 (.Pass ⟨0,0,0,0⟩)) ts a1m:=by
 unfold a1m
 exact⟨_,(t8 2 G8.nd (w8 (d0 (A4 (A9 rfl) (Ev.bw i7) (Ev.bw (g9 C__law_next (hr.mono (by decide)) (a0i 1 (m4 i7 j6)) (a0h (l9 j7))))) (d0 T8 (d0 O2 i3)))))⟩
theorem a7J:∃ts,Ss K (K1 CX0 P w K mg base ["_law_script","_law_feed_here","_law_house","_law_way_here","_law_turn","_law_comer","_law_told","_law_numbers"] "law" (defScope s_law) f cdv A outer s H E).nox ((defBody s_law).getD 2 (.Pass ⟨0,0,0,0⟩)) ts a1z:=by
 unfold a1z
 exact⟨_,(t8 3 G8.nd (g9 C__law_light_way (hr.mono (by decide)) (a0i 1 j6) (a0h j7)))⟩
theorem a8U:∃ts,Ss K (K1 CX0 P w K mg base ["_law_script","_law_feed_here","_law_house","_law_way_here","_law_turn","_law_comer","_law_told","_law_numbers"] "law" (defScope s_law) f cdv A outer s H E).nox ((defBody s_law).getD 3 (.Pass ⟨0,0,0,0⟩)) ts a1q:=by
 unfold a1q
 exact⟨_,(G6 (v9 (a13 rfl hr.units) (d9 3) (Ev.bw (a0K (.tuple []) rfl))) (g6 (t8 3 G8.nd (a0K (.tuple [.tuple []]) rfl))) B1)⟩
theorem a5t:∃ts,Ss K (K1 CX0 P w K mg base ["_law_script","_law_feed_here","_law_house","_law_way_here","_law_turn","_law_comer","_law_told","_law_numbers"] "law" (defScope s_law) f cdv A outer s H E).nox ((N6 ((defBody s_law).getD 4 (.Pass ⟨0,0,0,0⟩))).getD 0 (.Pass ⟨0,0,0,0⟩)) ts Q8:=by
 unfold Q8
 exact⟨_,(t8 5 G8.nd (w8 (d0 (g9 C__law_next (hr.mono (by decide)) (a0i 1 (m4 i7 j6)) (a0h (l9 j7))) (d0 (A4 (A9 rfl) (Ev.bw i7) (Ev.bw (g9 C__law_next (hr.mono (by decide)) (a0i 1 (m4 i7 j6)) (a0h (l9 j7))))) i3))))⟩
theorem a5g:∃ts,Ss K (K1 CX0 P w K mg base ["_law_script","_law_feed_here","_law_house","_law_way_here","_law_turn","_law_comer","_law_told","_law_numbers"] "law" (defScope s_law) f cdv A outer s H E).nox ((N6 ((defBody s_law).getD 4 (.Pass ⟨0,0,0,0⟩))).getD 1 (.Pass ⟨0,0,0,0⟩)) ts Q9:=by
 unfold Q9
 exact⟨_,(K0 (g9 C_with_comer (hr.mono (by decide)) (m4 (g7 3) (m4 (g9 C__law_next (hr.mono (by decide)) (a0i 1 (m4 (l6 (w6 rfl) T.len x3 (h8 (d9 3) l7)) j6)) (a0h (l9 j7))) (m4 (g9 C__law_next (hr.mono (by decide)) (a0i 1 (m4 i7 j6)) (a0h (l9 j7))) (m4 (g7 5) j6)))) (l9 (l9 (l9 (l9 j7))))) (u4 (n:=2) rfl (d5 (m7 (i:=6) G8.nd) (d5 (m7 (i:=7) G8.nd) n4))))⟩
theorem a4t:∃ts,Ss K (K1 CX0 P w K mg base ["_law_script","_law_feed_here","_law_house","_law_way_here","_law_turn","_law_comer","_law_told","_law_numbers"] "law" (defScope s_law) f cdv A outer s H E).nox ((N6 ((defBody s_law).getD 4 (.Pass ⟨0,0,0,0⟩))).getD 2 (.Pass ⟨0,0,0,0⟩)) ts Q2:=by
 unfold Q2
 exact⟨_,(G6 (v9 (a6e rfl hr.units) (Ev.bw (l6 (a4G rfl) T.sorted a0P (h8 (d9 7) l7))) (Ev.bw (a3J (d0 (a99 a55 (Ev.bw i7)) (d0 (l6 (a5D rfl rfl) T.sum a9l (h8 (Ev.bw (T9 (osc:=(defScope s_law)) (N:=["_law_beat"]) (k:=1) (cap:=[]) rfl rfl ⟨rfl,by decide +kernel,by decide +kernel,by decide +kernel,rfl,rfl,by decide +kernel⟩ (D5 (d9 3)) (λcl C ex pins s H=>(m7 (i:=0) (show List.Nodup (["_law_beat"]:List Str) by decide +kernel))) (λcl C ex pins s H=>A6) (λcl C ex pins s H=>(l6 (w6 rfl) T.len x3 (h8 (d9 0) l7))))) l7)) i3)) rfl T.range T.list S4))) (g6 (r6 a0n)) B1)⟩
theorem a4R:∃ts,Ss K (K1 CX0 P w K mg base ["_law_script","_law_feed_here","_law_house","_law_way_here","_law_turn","_law_comer","_law_told","_law_numbers"] "law" (defScope s_law) f cdv A outer s H E).nox ((N6 ((defBody s_law).getD 4 (.Pass ⟨0,0,0,0⟩))).getD 3 (.Pass ⟨0,0,0,0⟩)) ts Q6:=by
 unfold Q6
 exact⟨_,(G6 (a33 (a27 (Ev.bw (g9 C__law_none_earlier (hr.mono (by decide)) (m4 (g7 2) (m4 (g7 3) (m4 (g7 6) (m4 (g7 7) j6)))) (l9 (l9 (l9 (l9 j7)))))))) (g6 (r6 a0n)) B1)⟩
theorem a4M:∃ts,Ss K (K1 CX0 P w K mg base ["_law_script","_law_feed_here","_law_house","_law_way_here","_law_turn","_law_comer","_law_told","_law_numbers"] "law" (defScope s_law) f cdv A outer s H E).nox ((N6 ((defBody s_law).getD 4 (.Pass ⟨0,0,0,0⟩))).getD 4 (.Pass ⟨0,0,0,0⟩)) ts P8:=by
 unfold P8
 exact⟨_,(t8 3 G8.nd (g7 6))⟩
theorem a5d:∃ts,Ss K (K1 CX0 P w K mg base ["_law_script","_law_feed_here","_law_house","_law_way_here","_law_turn","_law_comer","_law_told","_law_numbers"] "law" (defScope s_law) f cdv A outer s H E).nox ((N6 ((defBody s_law).getD 4 (.Pass ⟨0,0,0,0⟩))).getD 5 (.Pass ⟨0,0,0,0⟩)) ts Q7:=by
 unfold Q7
 exact⟨_,(K0 (g9 C_longer (hr.mono (by decide)) (m4 (g7 3) (m4 (g9 C__law_next (hr.mono (by decide)) (a0i 1 (m4 (l6 (w6 rfl) T.len x3 (h8 (d9 7) l7)) j6)) (a0h (l9 j7))) (m4 (g9 C__law_next (hr.mono (by decide)) (a0i 1 (m4 i7 j6)) (a0h (l9 j7))) j6))) (l9 (l9 (l9 j7)))) (u4 (n:=2) rfl (d5 (m7 (i:=6) G8.nd) (d5 (m7 (i:=7) G8.nd) n4))))⟩
theorem a51:∃ts,Ss K (K1 CX0 P w K mg base ["_law_script","_law_feed_here","_law_house","_law_way_here","_law_turn","_law_comer","_law_told","_law_numbers"] "law" (defScope s_law) f cdv A outer s H E).nox ((N6 ((defBody s_law).getD 4 (.Pass ⟨0,0,0,0⟩))).getD 6 (.Pass ⟨0,0,0,0⟩)) ts P1:=by
 unfold P1
 exact⟨_,(G6 (Ew.t (a80 (v9 (a6e rfl hr.units) (Ev.bw (x5 (b0s rfl) T.list S4 (h8 (d9 7) l7))) (Ev.bw (a4g (d0 (l6 (w6 rfl) T.len x3 (h8 (d9 7) l7)) i3) rfl T.range T.list S4))) (a9k (a33 (a27 (Ev.bw (g9 C__law_none_earlier (hr.mono (by decide)) (m4 (g7 2) (m4 (g7 3) (m4 (g7 6) (m4 (g7 7) j6)))) (l9 (l9 (l9 (l9 j7))))))))))) (g6 (r6 a0n)) B1)⟩
theorem a5k:∃ts,Ss K (K1 CX0 P w K mg base ["_law_script","_law_feed_here","_law_house","_law_way_here","_law_turn","_law_comer","_law_told","_law_numbers"] "law" (defScope s_law) f cdv A outer s H E).nox ((N6 ((defBody s_law).getD 4 (.Pass ⟨0,0,0,0⟩))).getD 7 (.Pass ⟨0,0,0,0⟩)) ts Q4:=by
 unfold Q4
 exact⟨_,(t8 3 G8.nd (g7 6))⟩
theorem a8u:∃ts,Ss K (K1 CX0 P w K mg base ["_law_script","_law_feed_here","_law_house","_law_way_here","_law_turn","_law_comer","_law_told","_law_numbers"] "law" (defScope s_law) f cdv A outer s H E).nox ((defBody s_law).getD 4 (.Pass ⟨0,0,0,0⟩)) ts a1t:=by
 obtain⟨t_law_4_0,h_law_4_0⟩:=a5t (f:=f) (cdv:=cdv) (A:=A) (outer:=outer) (s:=s) (H:=H) (E:=E) T hr hu5 C__law_next C__law_light_way C_with_comer C__law_none_earlier C_longer
 obtain⟨t_law_4_1,h_law_4_1⟩:=a5g (f:=f) (cdv:=cdv) (A:=A) (outer:=outer) (s:=s) (H:=H) (E:=E) T hr hu5 C__law_next C__law_light_way C_with_comer C__law_none_earlier C_longer
 obtain⟨t_law_4_2,h_law_4_2⟩:=a4t (f:=f) (cdv:=cdv) (A:=A) (outer:=outer) (s:=s) (H:=H) (E:=E) T hr hu5 C__law_next C__law_light_way C_with_comer C__law_none_earlier C_longer
 obtain⟨t_law_4_3,h_law_4_3⟩:=a4R (f:=f) (cdv:=cdv) (A:=A) (outer:=outer) (s:=s) (H:=H) (E:=E) T hr hu5 C__law_next C__law_light_way C_with_comer C__law_none_earlier C_longer
 obtain⟨t_law_4_4,h_law_4_4⟩:=a4M (f:=f) (cdv:=cdv) (A:=A) (outer:=outer) (s:=s) (H:=H) (E:=E) T hr hu5 C__law_next C__law_light_way C_with_comer C__law_none_earlier C_longer
 obtain⟨t_law_4_5,h_law_4_5⟩:=a5d (f:=f) (cdv:=cdv) (A:=A) (outer:=outer) (s:=s) (H:=H) (E:=E) T hr hu5 C__law_next C__law_light_way C_with_comer C__law_none_earlier C_longer
 obtain⟨t_law_4_6,h_law_4_6⟩:=a51 (f:=f) (cdv:=cdv) (A:=A) (outer:=outer) (s:=s) (H:=H) (E:=E) T hr hu5 C__law_next C__law_light_way C_with_comer C__law_none_earlier C_longer
 obtain⟨t_law_4_7,h_law_4_7⟩:=a5k (f:=f) (cdv:=cdv) (A:=A) (outer:=outer) (s:=s) (H:=H) (E:=E) T hr hu5 C__law_next C__law_light_way C_with_comer C__law_none_earlier C_longer
 exact⟨_,J9 rfl (a08 (d0 i7 i3) T.range) (m7 (i:=4) G8.nd) (c7 h_law_4_0 (c7 h_law_4_1 (c7 h_law_4_2 (c7 h_law_4_3 (c7 h_law_4_4 (c7 h_law_4_5 (c7 h_law_4_6 (g6 h_law_4_7))))))))⟩
theorem a8a:∃ts,Ss K (K1 CX0 P w K mg base ["_law_script","_law_feed_here","_law_house","_law_way_here","_law_turn","_law_comer","_law_told","_law_numbers"] "law" (defScope s_law) f cdv A outer s H E).nox ((defBody s_law).getD 5 (.Pass ⟨0,0,0,0⟩)) ts a05:=by
 unfold a05
 exact⟨_,(r6 a0n)⟩
end
noncomputable def a4o:DE->M Out:=(mSq a1m (mSq a1z (mSq a1q (mSq a1t a05))))
theorem b1p {α:Type}(l:List α)(d:α)(h:0<l.length):l=l.getD 0 d::l.drop 1:=by
 cases l with
 | nil=>simp at h
 | cons a r=>rfl
noncomputable def spLaw (K:PySem.W.Frag):Sp:=λvs H Q _=>∃(a:Addr) (ns:List Int),vs=[.ref a]∧SqL K H a (ns.map V.int)∧ns.length≤63∧L6 (tabsK Feeds.lam K) H∧∀H',Q (.bl true) H'
theorem a89 {f:Addr}{cdv:Value}{A:Around}{outer:List Env}{s:Shared}{H:Hp}{E:XK}(hr:Room 8 (A.deeper (PyProof.Rows.envOfC "law" (defScope s_law) s.heap.objs.size f cdv)))(CF:Callee P w K mg base "_law_feed" 1 ["_law_script"] (spFeed K)) :
  PS (K1 CX0 P w K mg base ["_law_script","_law_feed_here","_law_house","_law_way_here","_law_turn","_law_comer","_law_told","_law_numbers"] "law" (defScope s_law) f cdv A outer s H E).nox ((defBody s_law).getD 0 (.Pass ⟨0,0,0,0⟩)) (a1k (a1J (spFeed K) [] E0 (C4 (a0D 0) X2)) (T2 1)) :=
 Z2 (i:=1) G8.nd rfl (by first | exact Or.inl rfl | exact Or.inr rfl) (a0S CF (hr.mono (by decide)) rfl (p8 (pv 0) A2))
theorem ok_law {f:Addr}{fd:FuncData}(Fn:Fun K "law" "law" s_law f fd)(T:Txt K mg)(CF:Callee P w K mg base "_law_feed" 1 ["_law_script"] (spFeed K))(C__law_next:Callee P w K mg base "_law_next" 1 ["_law_feed_here","_law_many"] (spD K 2 drawS))(C__law_light_way:Callee P w K mg base "_law_light_way" 3 ["_law_feed_here"] (spD K 1 f__law_light_way))(C_with_comer:Callee P w K mg base "with_comer" 2 ["way","beat","place","comer"] (spD K 4 f_with_comer))(C__law_none_earlier:Callee P w K mg base "_law_none_earlier" 8 ["_law_house","_law_way_here","_law_told","_law_numbers"] (spD K 4 f__law_none_earlier))(C_longer:Callee P w K mg base "longer" 3 ["way","number","more"] (spD K 3 f_longer))
  (fin:∀ns:List Int,ns.length≤63->∃F',a4o ([none,some .feed]++List.replicate (["_law_script","_law_feed_here","_law_house","_law_way_here","_law_turn","_law_comer","_law_told","_law_numbers"].length-2) none) (a4D ns)=some (.rt (.bool true),F')):FnOk P w K mg base CX0 9 f fd ["_law_script"] (spLaw K):=by
 refine Fn.ok G8 (λvs H Q E h=>?_) (λcdv A outer s H vs Q E hr h=>?_)
 ·obtain⟨a,ns,rfl,_⟩:=h
  rfl
 ·obtain⟨a,ns,rfl,hS,hl,tbo,k⟩:=h
  have hu5:(A.deeper (PyProof.Rows.envOfC "law" (defScope s_law) s.heap.objs.size f cdv)).units+65<cLine:=by have:=hr.un;omega
  obtain⟨t_law_1,h_law_1⟩:=a8G (f:=f) (cdv:=cdv) (A:=A) (outer:=outer) (s:=s) (H:=H) (E:=E) T hr hu5 C__law_next C__law_light_way C_with_comer C__law_none_earlier C_longer
  obtain⟨t_law_2,h_law_2⟩:=a7J (f:=f) (cdv:=cdv) (A:=A) (outer:=outer) (s:=s) (H:=H) (E:=E) T hr hu5 C__law_next C__law_light_way C_with_comer C__law_none_earlier C_longer
  obtain⟨t_law_3,h_law_3⟩:=a8U (f:=f) (cdv:=cdv) (A:=A) (outer:=outer) (s:=s) (H:=H) (E:=E) T hr hu5 C__law_next C__law_light_way C_with_comer C__law_none_earlier C_longer
  obtain⟨t_law_4,h_law_4⟩:=a8u (f:=f) (cdv:=cdv) (A:=A) (outer:=outer) (s:=s) (H:=H) (E:=E) T hr hu5 C__law_next C__law_light_way C_with_comer C__law_none_earlier C_longer
  obtain⟨t_law_5,h_law_5⟩:=a8a (f:=f) (cdv:=cdv) (A:=A) (outer:=outer) (s:=s) (H:=H) (E:=E) T hr hu5 C__law_next C__law_light_way C_with_comer C__law_none_earlier C_longer
  obtain⟨ts,hq,hk⟩:∃ts,Sss K (K1 CX0 P w K mg base ["_law_script","_law_feed_here","_law_house","_law_way_here","_law_turn","_law_comer","_law_told","_law_numbers"] "law" (defScope s_law) f cdv A outer s H E).nox ((defBody s_law).drop 1) ts a4o:=⟨_,(c7 h_law_1 (c7 h_law_2 (c7 h_law_3 (c7 h_law_4 (g6 h_law_5)))))⟩
  have h0:=a89 (P:=P) (w:=w) (K:=K) (mg:=mg) (base:=base) (f:=f) (cdv:=cdv) (A:=A) (outer:=outer) (s:=s) (H:=H) (E:=E) hr CF
  have hsp:=b1p (defBody s_law) (.Pass ⟨0,0,0,0⟩) (by decide +kernel)
  generalize List.drop 1 (defBody s_law)=R at hq hsp
  generalize (defBody s_law).getD 0 (Stmt.Pass { line:=0,col:=0,endLine:=0,endCol:=0 })=S0 at h0 hsp
  have hp:=z8 h0 hq
  rw[←hsp]at hp
  refine⟨_,hp,?_⟩
  refine⟨_,rfl,a,ns,rfl,hS,hl,λd c H1 f1 s1=>?_⟩
  obtain⟨F',e⟩:=fin ns hl
  have fat:FAt K (some (d,c)) H1 (a4D ns):=⟨f1,tbo.congr λb hb=>by
   obtain⟨o,e⟩:∃o,H b=some o:=by
    rcases hb with hb | ⟨φ,e⟩
    ·obtain⟨t,ht,rfl⟩:=List.mem_map.mp hb
     obtain⟨ps,e,_⟩:=tbo t ht
     exact⟨_,e⟩
    ·exact⟨_,e⟩
   rw[e];exact s1 b o e⟩
  refine hk (some (d,c)) (k8 K (some (d,c))) H1 _ (a4D ns) _ H1 _ _ F' ⟨⟨k8 K (some (d,c)),λ_ z=>z,λb hb=>.inl hb,⟨fat,λ_ z=>z,fat.bok,by simp[L2.K5],λi x ei=>?_⟩⟩,λ_ z=>z,Kp.refl,λi ds b ei=>?_,λi j ds es b ei=>?_⟩ e (λv H' _ _ hv=>?_)
  ·match i,ei with
   | 0,ei=>cases ei
   | 1,ei=>cases ei;exact⟨.ref d,rfl,d,c,rfl,rfl⟩
   | i+2,ei=>simp only[List.cons_append,List.nil_append,List.getElem?_cons_succ,List.getElem?_replicate]at ei;split at ei <;> cases ei
  ·match i,ei with
   | 0,ei=>cases ei
   | 1,ei=>cases ei
   | i+2,ei=>simp only[List.cons_append,List.nil_append,List.getElem?_cons_succ,List.getElem?_replicate]at ei;split at ei <;> cases ei
  ·match i,ei with
   | 0,ei=>cases ei
   | 1,ei=>cases ei
   | i+2,ei=>simp only[List.cons_append,List.nil_append,List.getElem?_cons_succ,List.getElem?_replicate]at ei;split at ei <;> cases ei
  ·simp only[b7]at hv
   subst hv
   exact k H'
end
end K27
namespace K27
open PySem L2 L3
theorem a4E:f_courses=a0Q:=rfl
theorem a4K:f_drained=a0F:=rfl
theorem a8q:f_later=a3b:=rfl
theorem a8o:f__law_light_way=a2a nmB:=rfl
theorem a43 (k:Nat):i6 (List.replicate k ([]:Bt))=0:=by
 unfold i6
 rw[List.map_replicate]
 induction k with
 | zero=>rfl
 | succ k ih=>rw[List.replicate_succ,List.sum_cons,ih];rfl
theorem a11 (a b:List Bt):i6 (a++b)=i6 a+i6 b:=by unfold i6;rw[List.map_append,List.sum_append]
theorem a2m (way:List Bt)(v:Nat):c8 (way++List.replicate v [])=c8 way:=by
 funext m
 unfold c8
 rw[List.take_append,a11,List.take_replicate,a43]
 rfl
theorem b1X (way:List Bt)(v:Nat):(way++List.replicate v []).flatten=way.flatten:=by
 rw[List.flatten_append]
 have:(List.replicate v ([]:Bt)).flatten=[]:=by
  induction v with
  | zero=>rfl
  | succ v ih=>rw[List.replicate_succ,List.flatten_cons,ih];rfl
 rw[this,List.append_nil]
theorem b17 (way:List Bt)(v:Nat):wkW (way++List.replicate v [])=wkW way:=by funext n;unfold wkW;rw[b1X]
theorem b3q {way:List Bt}(h:W1s way)(v:Nat):W1s (way++List.replicate v []):=λb hb=>by
 rcases List.mem_append.mp hb with hb | hb
 ·exact h b hb
 ·rw[(List.mem_replicate.mp hb).2];intro c hc;cases hc
theorem b0V {way:List Bt}:∀(j:Nat),j≤way.length->∀k,k<c8 way j->∃m,m<j∧c8 way m≤k∧k<c8 way (m+1)
 | 0,_,k,hk=>by unfold c8 at hk;simp[i6]at hk
 | j+1,hj,k,hk=>by
  by_cases hz:k<c8 way j
  ·obtain⟨m,h1,h2,h3⟩:=b0V j (by omega) k hz
   exact⟨m,by omega,h2,h3⟩
  ·exact⟨j,by omega,by omega,hk⟩
theorem b33 {way:List Bt}{k:Nat}(hk:k<i6 way):c8 way (arW way k)≤k∧k<c8 way (arW way k+1)∧arW way k<way.length:=by
 obtain⟨m,h1,h2,h3⟩:=b0V way.length (Nat.le_refl _) k (by rw[M7 (Nat.le_refl _)];exact hk)
 rw[a50 h1 h2 h3]
 exact⟨h2,h3,h1⟩
theorem b42 {way:List Bt}{v k:Nat}(hk:k<i6 way):arW (way++List.replicate v []) k=arW way k:=by
 obtain⟨h1,h2,h3⟩:=b33 hk
 refine a50 (by rw[List.length_append];omega) ?_ ?_
 ·rw[a2m];exact h1
 ·rw[a2m];exact h2
noncomputable def Gn (h:Nat)(way:List Bt)(M:Nat):Prop:=∀k,k<i6 way->fL h (c8 way) (wkW way) M k=0
noncomputable abbrev moW (way:List Bt)(h M:Nat)(k:Nat):Nat:=fM h (c8 way) (wkW way) M k
noncomputable abbrev wtW (way:List Bt)(h M:Nat)(k:Nat):Nat:=fW h (c8 way) (wkW way) M k
noncomputable abbrev tD (way:List Bt)(h M:Nat):PyData:=.list (goL (i6 way) (arW way) (moW way h M) (wtW way h M))
theorem b3w {h:Nat}{way:List Bt}(hw:W1s way){v:Nat}(e:psW h way (way.length+v)=[]):Gn h way (way.length+v):=λk hk=>by
 have h0:=a6k (h:=h) (cnt:=c8 way) (a1X hw) (way.length+v) k
 have e2:a0q h way (way.length+v)=[]:=List.map_eq_nil_iff.mp e
 by_cases hz:0<fL h (c8 way) (wkW way) (way.length+v) k
 ·have:k∈a0q h way (way.length+v):=List.mem_filter.mpr ⟨List.mem_range.mpr (by rw[M7 (by omega)];exact hk),decide_eq_true hz⟩
  rw[e2]at this
  cases this
 ·omega
theorem a7Q {h:Nat}{way:List Bt}{v:Nat}(g:Gn h way (way.length+v)):(List.range (c8 (way++List.replicate v []) (way++List.replicate v []).length)).map (coW h (way++List.replicate v []) (way++List.replicate v []).length)=goL (i6 way) (arW way) (moW way h (way.length+v)) (wtW way h (way.length+v)):=by
 have el:(way++List.replicate v []).length=way.length+v:=by simp
 rw[el,a2m,M7 (by omega)]
 unfold goL
 refine List.map_congr_left λk hk=>?_
 have hk:=List.mem_range.mp hk
 have hz:=g k hk
 unfold coW
 rw[a2m,b17,b42 hk]
 rw[if_neg (by
  show ¬0<fL h (c8 (way++List.replicate v [])) (wkW (way++List.replicate v [])) (way.length+v) k
  rw[a2m,b17,hz];decide)]
structure Wy (N:Nat) (T:Int) (way:List Bt):Prop where
 l1:1≤way.length
 len:way.length≤24
 many:i6 way≤N
 tot:a1h way≤T
 w1:W1s way
theorem a8j {N:Nat}{a m w:Nat->Nat}{k:Nat}(hk:k<N):ixD (.list (goL N a m w)) (.int (k:Int))=some (goD (a k) (m k) (w k)):=V2 (f:=λk=>goD (a k) (m k) (w k)) hk
theorem a5S {N:Nat}{a m w:Nat->Nat}:(goL N a m w).length=N:=by unfold goL;simp
noncomputable abbrev moL (way:List Bt)(h M:Nat):List PyData:=(List.range (i6 way)).map λk=>.int ((moW way h M k:Nat):Int)
section
variable {F:FdS}{Q:PyData->FdS->Prop}
theorem a2x {h N:Nat}{T:Int}{way:List Bt}(hh:1≤h)(hw:Wy N T way)(hN:N≤50)(hT:T≤400)(q:∀M,M≤600->Gn h way M->Q (.tuple [tD way h M,.list (moL way h M)]) F) :
  wp (f__law_moments [.dat (fiD h),.dat (.tuple (way.map btD))] F) Q:=by
 have h1:=hw.len
 have h2:=hw.many
 have h3:=hw.tot
 unfold f__law_moments
 rw[a4E,a4K]
 refine G4.mpr ?_
 dsimp only[p9,List.map_cons,List.map_nil,List.length_cons,List.length_nil,List.replicate,List.cons_append,List.nil_append,Nat.reduceAdd,Nat.reduceSub]
 refine h7.mpr (w4.mpr (l3.mpr (p7.mpr (j5.mpr (j4 rfl (p7.mpr (l3.mpr (p7.mpr (j5.mpr (j4 rfl (p7.mpr (j5.mpr (j4 rfl (m8.mpr ?_))))))))))))))
 refine a6N hh hw.w1 (by omega) (by omega) (by have:=b1J (h:=h) hw.w1 way.length;omega) λv hv hnil=>m8.mpr ?_
 have g:=b3w hw.w1 hnil
 refine a6O (b3q hw.w1 v) (by rw[a11,a43];omega) (by simp;omega) ?_
 rw[a7Q g]
 refine⟨l0 rfl,f9 ?_⟩
 refine D6.mpr (A3.mpr (b8.mpr (j5.mpr (j4 rfl (b8.mpr (P9.mpr (B7.mpr (f8.mpr (i4 rfl (c6 K4 ⟨sz (by rw[a5S];omega),?_⟩))))))))))
 unfold goL
 refine a9U (x:=λk=>goD (arW way k) (moW way h (way.length+v) k) (wtW way h (way.length+v) k)) (f:=λk=>.int ((moW way h (way.length+v) k:Nat):Int)) _ _ (λk hk F Q q=>?_) (d8.mpr ⟨r8 rfl,D1 (q (way.length+v) (by omega) g)⟩)
 exact a1a.mpr (K6.mpr (m5.mpr (m5.mpr (f8.mpr (i4 rfl (n5.mpr (c6 rfl (n5.mpr (c6 a6s (c6 rfl (C3 rfl (m5.mpr (f8.mpr (i4 rfl (n5.mpr (c6 rfl q))))))))))))))))
end
noncomputable abbrev En:=(Int×Int)×Int
noncomputable abbrev enD (e:En):PyData:=.tuple [cmD e.1,.int e.2]
noncomputable abbrev G2 (r:List En):PyData:=.list (r.map enD)
noncomputable abbrev enA (way:List Bt)(m j:Nat):En:=((j9 way m).getD j (0,0),((c8 way m+j:Nat):Int))
noncomputable abbrev G1 (way:List Bt)(m:Nat):List En:=(List.range (j9 way m).length).map (enA way m)
noncomputable abbrev n8 (way:List Bt)(n:Nat):List (List En):=(List.range n).map (G1 way)
theorem W2 (way:List Bt):(n8 way way.length).flatten=(List.range (i6 way)).map λn=>((way.flatten.getD n (0,0),(n:Int)):En):=by
 have:=S7 way (λn c=>((c,(n:Int)):En)) way.length (Nat.le_refl _)
 rw[a65]at this
 exact this
theorem a7z (way:List Bt):(n8 way way.length).map (λr=>r.map (·.1))=way:=by
 have e:=C1 ([]:Bt) (λb:Bt=>b) way
 rw[List.map_id']at e
 conv=>rhs;rw[←e]
 rw[List.map_map]
 refine List.map_congr_left λm _=>?_
 show(G1 way m).map (·.1)=j9 way m
 unfold G1
 rw[List.map_map]
 have e2:=C1 ((0:Int),(0:Int)) (λc:Int×Int=>c) (j9 way m)
 rw[List.map_id']at e2
 exact e2
section
variable {F:FdS}
theorem b3D {α:Type}{x y:α->PyData}{o0:Option DV}:∀(ds:List α) (o1 o2:Option DV) (F:FdS) (Q:List PyData×DE->FdS->Prop),(∀o1 o2,Q (ds.map y,[o0,o1,o2]) F) ->
  wp (a34 (t9 2 (d4 (bN 1) (d4 (bN 2) u8))) E9 (sV 2) (ds.map λd=>.tuple [x d,y d]) [o0,o1,o2] F) Q
 | [],o1,o2,F,Q,q=>c9.mpr (q o1 o2)
 | d::ds,o1,o2,F,Q,q=>by
  rw[List.map_cons,a34]
  have e:t9 2 (d4 (bN 1) (d4 (bN 2) u8)) (.tuple [x d,y d]) [o0,o1,o2]=some [o0,some (.dat (x d)),some (.dat (y d))]:=rfl
  rw[e,Option.bind_some,b9]
  refine a0H.mpr ?_
  rw[if_pos rfl,b9]
  refine j5.mpr (j4 rfl ?_)
  rw[b9]
  refine b3D ds _ _ F _ λo1 o2=>c9.mpr (q o1 o2)
theorem b0W:∀(rows:List (List En)) (o0 o1 o2:Option DV) (F:FdS) (Q:List PyData->FdS->Prop),Q (rows.flatten.map λe=>.int e.2) F ->
  wp (a0f (bN 0) E9 (D4 (sV 0)) (t9 2 (d4 (bN 1) (d4 (bN 2) u8))) E9 (sV 2) (rows.map G2) [o0,o1,o2] F) Q
 | [],o0,o1,o2,F,Q,q=>c9.mpr q
 | r::rows,o0,o1,o2,F,Q,q=>by
  rw[List.map_cons,a0f]
  have e:bN 0 (G2 r) [o0,o1,o2]=some [some (.dat (G2 r)),o1,o2]:=rfl
  rw[e,Option.bind_some,b9]
  refine a0H.mpr ?_
  rw[if_pos rfl,b9]
  refine B7.mpr (j5.mpr (j4 rfl (c6 K4 ?_)))
  rw[b9]
  refine b3D (x:=λe:En=>cmD e.1) (y:=λe:En=>.int e.2) r o1 o2 F _ λo1 o2=>?_
  rw[b9]
  refine b0W rows _ _ _ F _ (c9.mpr ?_)
  rw[List.flatten_cons,List.map_append]at q
  exact q
variable {Q:PyData->FdS->Prop}
theorem a2H {rows:List (List En)}(hl:rows.length≤1000)(hr:∀r∈rows,r.length≤1000)(ht:rows.flatten.length≤1000)(q:Q (.tuple [.tuple (rows.map λr=>btD (r.map (·.1))),.tuple (rows.flatten.map λe=>.int e.2)]) F) :
  wp (f_told_way [.dat (.list (rows.map G2))] F) Q:=by
 unfold f_told_way
 refine G4.mpr ?_
 dsimp only[p9,List.map_cons,List.map_nil,List.length_cons,List.length_nil,List.replicate,List.cons_append,List.nil_append,Nat.reduceAdd,Nat.reduceSub]
 refine h7.mpr (w4.mpr (A8.mpr (b8.mpr (P9.mpr (B7.mpr (f8.mpr (i4 rfl (c6 K4 ⟨sz (by simp;omega),?_⟩))))))))
 refine a9U (x:=G2) (f:=λr=>btD (r.map (·.1))) _ _ (λr hr' F Q q=>?_) (d8.mpr (c6 a20 ⟨l0 rfl,f9 ?_⟩))
 ·have:=hr r hr'
  refine A8.mpr (b8.mpr (P9.mpr (B7.mpr (f8.mpr (i4 rfl (c6 K4 ⟨sz (by rw[List.length_map];omega),?_⟩))))))
  refine a5n (x:=λe:En=>cmD e.1) (y:=λe:En=>.int e.2) (f:=λe=>cmD e.1) _ _ _ (λe _ F Q q=>j5.mpr (j4 rfl q)) (d8.mpr (c6 a20 ?_))
  have e:r.map (λe:En=>cmD e.1)=(r.map (·.1)).map cmD:=by rw[List.map_map];rfl
  rw[e]
  exact q
 refine D6.mpr (A3.mpr (b8.mpr (j5.mpr (j4 rfl (b8.mpr (A8.mpr (b8.mpr ?_)))))))
 unfold a9w
 rw[b9]
 refine B7.mpr (f8.mpr (i4 rfl (c6 K4 ?_)))
 dsimp only
 rw[b9]
 refine b0W rows _ _ _ _ _ ?_
 have hnl:(rows.flatten.map λe:En=>PyData.int e.2).length≤sizeLine:=sz (by rw[List.length_map];omega)
 dsimp only
 rw[if_pos hnl]
 exact c9.mpr (d8.mpr (c6 a20 (d8.mpr ⟨r8 rfl,D1 q⟩)))
theorem a5X {way:List Bt}{N:Nat}{T:Int}(hw:Wy N T way)(hN:N≤50){Q:Out->FdS->Prop}(q:∀o2 o3,Q (.nx [some (.dat (.tuple (way.map btD))),some (.own ((n8 way way.length).map G2)),o2,o3]) F) :
  wp ((M8 (D4 (sV 0)) (bN 3) (mSq (M3 1 (sLC (M5 (sW 3)) 2 [2] (t9 2 (d4 (bN 0) (d4 (bN 1) u8))) E9 (x9 (a9 (sV 1) (a9 (s2 B5 (sW 2) (sW 0)) d7))))) (a1l (λi j=>i+j) 2 (sN z7 (a9 (sW 3) d7))))) [some (.dat (.tuple (way.map btD))),some (.own []),some (.dat (.int 0)),none] F) Q:=by
 have h1:=hw.len
 have h2:=hw.many
 refine O3.mpr (B7.mpr (j5.mpr (j4 rfl (c6 R4 ?_))))
 refine G0 (λm E F'=>F'=F∧∃o3,E=[some (.dat (.tuple (way.map btD))),some (.own ((n8 way m).map G2)),some (.dat (.int (c8 way m:Nat))),o3]) _ 0 _ F ⟨rfl,none,rfl⟩ ?_ ?_
 ·rintro m d e E F1 ⟨rfl,o3,rfl⟩
  rw[Nat.zero_add]
  obtain⟨hm,rfl⟩:=a7L e
  have hb:(j9 way m).length≤50:=by have h3:=Q1 hm;have h4:=a1w way (m+1);omega
  refine⟨_,rfl,h7.mpr ?_⟩
  refine X6 rfl (by rw[List.length_map,List.length_map,List.length_range];omega) (P9.mpr (a1B (f8.mpr (i4 rfl (c6 R4 ?_)))))
  have een:B8 0 ((j9 way m).map cmD)=(List.range (j9 way m).length).map λi=>.tuple [.int (i:Int),cmD ((j9 way m).getD i (0,0))]:=by
   have e:=C1 ((0:Int),(0:Int)) cmD (j9 way m)
   rw[←e]
   exact a6t _ _
  rw[een]
  refine⟨sz (by simp;omega),?_⟩
  refine a5n (x:=λi:Nat=>.int (i:Int)) (y:=λi=>cmD ((j9 way m).getD i (0,0))) (f:=λj=>enD (enA way m j)) _ _ _ (λi hi F Q q=>?_) ?_
  ·refine A3.mpr (b8.mpr (j5.mpr (j4 rfl (b8.mpr (m5.mpr (f8.mpr (i4 rfl (f8.mpr (i4 rfl (c6 a1D (d8.mpr ⟨r8 rfl,?_⟩)))))))))))
   have e:((c8 way m:Nat):Int)+(i:Nat)=((c8 way m+i:Nat):Int):=by omega
   rw[e]
   exact q
  refine f9 (a3p rfl (A8.mpr (b8.mpr (f8.mpr (i4 rfl (d8.mpr (c6 C8 ⟨_,rfl,?_⟩)))))))
  have e1:(n8 way (m+1)).map G2=(n8 way m).map G2++[.list ((List.range (j9 way m).length).map λj=>enD (enA way m j))]:=by
   unfold n8
   rw[List.range_succ,List.map_append,List.map_append]
   congr 1
   show[G2 (G1 way m)]=_
   unfold G2 G1
   rw[List.map_map]
   rfl
  have e2:((c8 way m:Nat):Int)+(((j9 way m).map cmD).length:Nat)=((c8 way (m+1):Nat):Int):=by rw[List.length_map,A0 hm];omega
  exact⟨_,rfl,rfl,_,by rw[e1,←e2];rfl⟩
 ·rintro E F1 ⟨rfl,o3,rfl⟩
  rw[Nat.zero_add,List.length_map]
  exact q _ _
theorem a4J {way:List Bt}{N:Nat}{T:Int}(hw:Wy N T way)(hN:N≤50)(q:Q (.list ((n8 way way.length).map G2)) F):wp (f_numbered [.dat (.tuple (way.map btD))] F) Q:=by
 unfold f_numbered
 refine G4.mpr ?_
 dsimp only[p9,List.map_cons,List.map_nil,List.length_cons,List.length_nil,List.replicate,List.cons_append,List.nil_append,Nat.reduceAdd,Nat.reduceSub]
 refine h7.mpr (S9.mpr (K3.mpr (d8.mpr ⟨sz (by decide),l0 rfl,f9 (h7.mpr (w4.mpr (n5.mpr ⟨l0 rfl,f9 (h7.mpr ?_)⟩)))⟩)))
 exact a5X hw hN λo2 o3=>f9 (D6.mpr (f8.mpr (P5 rfl (D1 q))))
theorem a4I {a:DE->M Out}{b:DE->M (List PyData)}{E:DE}{Q:List PyData->FdS->Prop}(h:wp (a E F) λo F1=>∃E1,o = .nx E1∧wp (b E1 F1) Q):wp (gSq a b E F) Q:=by
 unfold gSq
 rw[b9]
 refine j8 h λo F1 ⟨E1,e,q⟩=>?_
 subst e
 exact q
theorem a44 {way:List Bt}{N:Nat}{T:Int}{Q:List PyData->FdS->Prop}(hw:Wy N T way)(hN:N≤50)(q:Q ((n8 way way.length).map G2) F):wp (fG_numbered [.dat (.tuple (way.map btD))] F) Q:=by
 unfold fG_numbered b1q
 dsimp only[p9,List.map_cons,List.map_nil,List.length_cons,List.length_nil,List.replicate,List.cons_append,List.nil_append,Nat.reduceAdd,Nat.reduceSub]
 refine a4I (S9.mpr (K3.mpr (d8.mpr ⟨sz (by decide),l0 rfl,_,rfl,a4I (w4.mpr (n5.mpr ⟨l0 rfl,_,rfl,a4I ?_⟩))⟩)))
 exact a5X hw hN λo2 o3=>⟨_,rfl,c9.mpr q⟩
end
theorem a9N (way:List Bt)(m:Nat):(G1 way m).map (·.1)=j9 way m:=by
 unfold G1
 rw[List.map_map]
 have e2:=C1 ((0:Int),(0:Int)) (λc:Int×Int=>c) (j9 way m)
 rw[List.map_id']at e2
 exact e2
theorem a8M (way:List Bt)(b:Nat)(hb:b≤way.length):(n8 way b).flatten.length=c8 way b:=by
 have:=S7 way (λn c=>((c,(n:Int)):En)) b hb
 have e:(n8 way b).flatten=(List.range (c8 way b)).map λn=>((way.flatten.getD n (0,0),(n:Int)):En):=this
 rw[e,List.length_map,List.length_range]
theorem a7e (way:List Bt){b:Nat}(hb:b≤way.length):(n8 way way.length).take b=n8 way b:=by
 unfold n8
 rw[←List.map_take,List.take_range,Nat.min_eq_left hb]
noncomputable abbrev Y8 (P:Nat)(k:Nat):Int:=Z4 (λn=>((n:Nat):Int)) P (-1) k
noncomputable abbrev a3x (way:List Bt)(b p:Nat)(c:Int×Int):List En:=(G1 way b).take p++[(c,-1)]++(G1 way b).drop p
section
variable {way:List Bt}{b p:Nat}{c:Int×Int}
theorem a9L (hb:b<way.length):(n8 way way.length)[b]'(by simp;exact hb)=G1 way b:=by
 unfold n8
 rw[List.getElem_map,List.getElem_range]
theorem a7c (hb:b<way.length):((n8 way way.length).set b (a3x way b p c)).map (λr=>r.map (·.1))=G7 way b p c:=by
 rw[List.map_set,a7z]
 unfold G7 a3x
 rw[List.map_append,List.map_append,List.map_take,List.map_drop,a9N]
 rfl
theorem a2I (hb:b<way.length):((n8 way way.length).set b (a3x way b p c)).flatten.map (λe=>PyData.int e.2)=(List.range (i6 way+1)).map λk=>.int (Y8 (C9 way b p) k):=by
 have hbl:b<(n8 way way.length).length:=by simp;exact hb
 have e:=a3A (rows:=n8 way way.length) hbl p ((c,-1):En)
 rw[a9L hb,a7e way (by omega),a8M way b (by omega)]at e
 have el:(G1 way b).length=(j9 way b).length:=by simp
 rw[el]at e
 have hP:C9 way b p≤i6 way:=by
  have h1:=(W7 (p:=p) hb).2
  have h2:=J3 way (b+1)
  omega
 have e2:((n8 way way.length).set b (a3x way b p c)).flatten=(n8 way way.length).flatten.take (C9 way b p)++[(c,-1)]++(n8 way way.length).flatten.drop (C9 way b p):=e
 have hl:((n8 way way.length).flatten.map λe:En=>e.2).length=i6 way:=by rw[W2];simp
 have e3:(((n8 way way.length).set b (a3x way b p c)).flatten.map λe:En=>e.2)=(List.range (i6 way+1)).map (Y8 (C9 way b p)):=by
  rw[e2,List.map_append,List.map_append,List.map_take,List.map_drop]
  have:=a1K ((n8 way way.length).flatten.map λe:En=>e.2) (P:=C9 way b p) (by rw[hl];exact hP) (-1) 0
  rw[hl]at this
  refine this.trans ?_
  refine List.map_congr_left λk hk=>?_
  have hk:=List.mem_range.mp hk
  unfold Y8 Z4
  have hg:∀n,n<i6 way->((n8 way way.length).flatten.map λe:En=>e.2).getD n 0=((n:Nat):Int):=λn hn=>by
   rw[W2,List.map_map,List.getD_eq_getElem?_getD,List.getElem?_map,List.getElem?_eq_getElem (by rw[List.length_range];exact hn),List.getElem_range]
   rfl
  by_cases h1:k<C9 way b p
  ·rw[if_pos h1,if_pos h1];exact hg k (by omega)
  ·rw[if_neg h1,if_neg h1]
   by_cases h2:k=C9 way b p
   ·rw[if_pos h2,if_pos h2]
   ·rw[if_neg h2,if_neg h2];exact hg (k-1) (by omega)
 have e4:=congrArg (List.map PyData.int) e3
 rw[List.map_map,List.map_map]at e4
 exact e4
end
theorem Y9:∀ns:List Int,G9 (ns.map .int)=some ns
 | []=>rfl
 | n::ns=>by
  show(G9 (ns.map .int)).map (n :: ·)=_
  rw[Y9 ns]
  rfl
theorem a4l {way:List Bt}:a2K [.list (way.map λb=>.int ((b.length:Nat):Int))]=some (.int (i6 way:Nat)):=by
 have e:way.map (λb=>PyData.int ((b.length:Nat):Int))=(way.map λb=>((b.length:Nat):Int)).map .int:=by rw[List.map_map];rfl
 rw[e]
 simp only[a2K,Y9,Option.map_some]
 congr 2
 unfold i6
 induction way with
 | nil=>rfl
 | cons b way ih=>simp only[List.map_cons,List.sum_cons];rw[ih (by rw[List.map_map];rfl)];omega
section
variable {F:FdS}{Q:PyData->FdS->Prop}
theorem a0g {way:List Bt}{N:Nat}{T:Int}(hw:Wy N T way){m:Nat}(hm:m<way.length):(j9 way m).length≤N:=by
 have h3:=Q1 hm
 have h4:=a1w way (m+1)
 have:=hw.many
 omega
theorem a0m {E:DE}{i:Nat}{ds:List PyData}(h:E[i]? = some (some (.own ds))):O8 E i=some ds:=by unfold O8;rw[h]
theorem b1c {way:List Bt}{N:Nat}{T:Int}(hw:Wy N T way)(hN:N≤50){b p:Nat}(hb:b<way.length){c:Int×Int}
  (q:Q (.tuple [.tuple ((G7 way b p c).map btD),.tuple ((List.range (i6 way+1)).map λk=>.int (Y8 (C9 way b p) k))]) F) :
  wp (f_with_comer [.dat (.tuple (way.map btD)),.dat (.int (b:Int)),.dat (.int (p:Int)),.dat (cmD c)] F) Q:=by
 have h1:=hw.len
 have h2:=hw.many
 have hbl:=a0g hw hb
 unfold f_with_comer
 refine G4.mpr ?_
 dsimp only[p9,List.map_cons,List.map_nil,List.length_cons,List.length_nil,List.replicate,List.cons_append,List.nil_append,Nat.reduceAdd,Nat.reduceSub]
 refine h7.mpr (G5.mpr (a2g.mpr (K6.mpr (b0X.mpr (n5.mpr (f8.mpr (i4 rfl (c6 b10 (c6 rfl (C3 (decide_eq_true (by omega)) (A8.mpr (b8.mpr (f8.mpr (i4 rfl (d8.mpr (c6 C8 (c6 a7S (c6 rfl ?_))))))))))))))))))
 rw[List.length_map,decide_eq_true (show(b:Int)<(way.length:Nat) by omega)]
 refine l4 rfl (M1.mpr (f9 (h7.mpr (S9.mpr ?_))))
 unfold a5Q
 rw[b9]
 refine p7.mpr (j5.mpr (j4 rfl (m8.mpr (a44 hw hN ⟨l0 rfl,f9 (h7.mpr ((a4U rfl).mpr ?_))⟩))))
 have eat:ixD (.list ((n8 way way.length).map G2)) (.int (b:Int))=some (G2 (G1 way b)):=by
  have:(n8 way way.length).map G2=(List.range way.length).map λm=>G2 (G1 way m):=by unfold n8;rw[List.map_map];rfl
  rw[this]
  exact V2 (f:=λm=>G2 (G1 way m)) hb
 have ec1:T7 ((G1 way b).map enD) none (some (p:Int))=((G1 way b).take p).map enD:=by rw[b2v (by omega),List.map_take];rfl
 have ec2:T7 ((G1 way b).map enD) (some (p:Int)) none=((G1 way b).drop p).map enD:=by rw[a8l (by omega),List.map_drop];rfl
 have hl1:((G1 way b).take p).length≤N:=by rw[List.length_take];simp;omega
 have hl2:((G1 way b).drop p).length≤N:=by rw[List.length_drop];simp;omega
 refine m5.mpr (m5.mpr (a3E.mpr (m5.mpr (f8.mpr (P5 rfl (f8.mpr (i4 rfl (c6 eat (a3N.mpr (a8Q.mpr (j5.mpr (j4 rfl (c6 rfl (c6 a4s ?_))))))))))))))
 rw[ec1]
 refine a3y.mpr (b8.mpr (A3.mpr (b8.mpr (j5.mpr (j4 rfl (b8.mpr (n5.mpr (d8.mpr ⟨r8 rfl,d8.mpr ⟨r8 rfl,c6 (b0B (by rw[List.length_map];show _+1≤_;omega)) ?_⟩⟩))))))))
 refine a3E.mpr (m5.mpr (f8.mpr (P5 rfl (f8.mpr (i4 rfl (c6 eat (a8Q.mpr (j5.mpr (j4 rfl (c6 rfl (a3N.mpr (c6 a4s ?_))))))))))))
 rw[ec2]
 refine c6 (b0B (by rw[List.length_append,List.length_map,List.length_map];show _+1+_≤_;omega)) (j5.mpr (j4 rfl (c6 rfl (c6 (b19 (by omega) (by simp;omega)) (f9 (a2V (a0m rfl) ?_))))))
 have er:((n8 way way.length).map G2).set ((b:Int)).toNat (.list (((G1 way b).take p).map enD++[.tuple [cmD c,.int (-1)]]++((G1 way b).drop p).map enD))=((n8 way way.length).set b (a3x way b p c)).map G2:=by
  rw[List.map_set,Int.toNat_natCast]
  congr 1
  unfold a3x G2
  rw[List.map_append,List.map_append]
  rfl
 rw[er]
 refine D6.mpr (l3.mpr (p7.mpr (j5.mpr (j4 rfl (m8.mpr (a2H ?_ ?_ ?_ (D1 ?_)))))))
 ·rw[List.length_set];simp;omega
 ·intro r hr
  rcases List.mem_or_eq_of_mem_set hr with hr | rfl
  ·obtain⟨m,hm,rfl⟩:=List.mem_map.mp hr
   have:=a0g hw (List.mem_range.mp hm)
   simp
   omega
  ·unfold a3x
   rw[List.length_append,List.length_append]
   show _+1+_≤_
   omega
 ·have:=congrArg List.length (a2I (p:=p) (c:=c) hb)
  rw[List.length_map,List.length_map,List.length_range]at this
  omega
 ·have e1:((n8 way way.length).set b (a3x way b p c)).map (λr=>btD (r.map (·.1)))=(G7 way b p c).map btD:=by
   rw[←a7c hb,List.map_map]
   rfl
  rw[e1,a2I hb]
  exact q
theorem b24 {way:List Bt}{N:Nat}{T:Int}(hw:Wy N T way)(q:Q (.int (i6 way:Nat)) F):wp (f_many_in [.dat (.tuple (way.map btD))] F) Q:=by
 have h1:=hw.len
 unfold f_many_in
 refine G4.mpr ?_
 dsimp only[p9,List.map_cons,List.map_nil,List.length_cons,List.length_nil,List.replicate,List.cons_append,List.nil_append,Nat.reduceAdd,Nat.reduceSub]
 refine D6.mpr (A8.mpr (b8.mpr (P9.mpr (B7.mpr (f8.mpr (i4 rfl (c6 R4 ⟨sz (by rw[List.length_map];omega),?_⟩)))))))
 refine a9U (x:=btD) (f:=λb=>.int ((b.length:Nat):Int)) _ _ (λb _ F Q q=>?_) (d8.mpr (c6 a4l (D1 q)))
 refine A8.mpr (b8.mpr (f8.mpr (i4 rfl (d8.mpr (c6 C8 ?_)))))
 rw[List.length_map]
 exact q
end
theorem b02 {f:Nat->PyData}{N j:Nat}{y:PyData}:((List.range N).map f).set j y=(List.range N).map λn=>if n=j then y else f n:=by
 refine List.ext_getElem (by simp) λi h1 h2=>?_
 rw[List.getElem_set,List.getElem_map,List.getElem_range,List.getElem_map,List.getElem_range]
 by_cases e:j=i
 ·rw[if_pos e,if_pos e.symm]
 ·rw[if_neg e,if_neg (λz=>e z.symm)]
theorem b3G {a b:Int}:eqD false (.int a) (.int b)=some (.bool (decide (a=b))):=by
 show some (PyData.bool (if false=true then !(PyData.int _).eqv (.int _) else(PyData.int _).eqv (.int _)))=_
 rw[if_neg (by decide),a3j]
theorem b2E {a b:Int}(h:a=b):eqD true (.int a) (.int b)=some (.bool false):=by
 show some (PyData.bool (if true=true then !(PyData.int _).eqv (.int _) else(PyData.int _).eqv (.int _)))=_
 rw[if_pos rfl,a3j,decide_eq_true h]
 rfl
theorem a6b {way:List Bt}{h M k:Nat}(hM:M≤600):moW way h M k≤1000:=by
 have key:∀m,fM h (c8 way) (wkW way) m k≤m:=λm=>by
  induction m with
  | zero=>exact Nat.le_refl _
  | succ m ih=>rw[fM];split <;> omega
 exact Nat.le_trans (key M) (by omega)
theorem a5Y {n:Nat}{f:Nat->Nat}(h:∀k,k<n->f k≤1000):inD false .none (.list ((List.range n).map λk=>.int ((f k:Nat):Int)))=some (.bool false):=by
 show(if _ then some (PyData.bool _) else none)=_
 rw[if_pos ⟨(a6j (n:=n) (f:=λk=>((f k:Nat):Int)) λk hk=>by have:=h k hk;omega).shaped (by decide) (by decide),(b08 (n:=0)).shaped (by decide) (by decide)⟩]
 congr 2
 rw[if_neg (by decide),List.any_eq_false]
 intro x hx
 obtain⟨k,_,rfl⟩:=List.mem_map.mp hx
 simp[PyData.eqv]
theorem a3W {l:List Nat}(h:∀i∈l,i≤1000):Gd 0 (1+l.length) 1 (.list (j2 l)):=by
 refine Gd.lst (M:=1) (λx hx=>?_) ?_
 ·obtain⟨i,hi,rfl⟩:=List.mem_map.mp hx
  have:=h i hi
  exact a5f (by omega) (by omega)
 ·have:=Q3 (c:=1) (ds:=j2 l) λd hd=>by
   obtain⟨i,hi,rfl⟩:=List.mem_map.mp hd
   have:=h i hi
   exact(a5f (n:=0) (i:=(i:Int)) (by omega) (by omega)).ct
  rw[v8]at this
  omega
theorem b1w {ds:List PyData}{N k:Nat}(h:Gd 0 N k (.list ds))(hk:k≤50):eqD false (.list ds) (.list ds)=some (.bool true):=by
 have hs:=h.shaped (by decide) hk
 show(if SeqAt.shaped (.list ds)=true∧SeqAt.shaped (.list ds)=true then _ else none)=_
 rw[if_pos (show SeqAt.shaped (.list ds)=true∧SeqAt.shaped (.list ds)=true from⟨hs,hs⟩),if_neg (by decide)]
 refine congrArg (λb=>some (PyData.bool b)) ?_
 exact PySem.SeqAt.eqv_refl (.list ds) (h.nod (by decide)).cl
theorem nil_eq:eqD false (.list (j2 [])) (.list [])=some (.bool true):=rfl
theorem b30 {m:DE->M PyData}{E:DE}{F:FdS}{Q:Out->FdS->Prop}:wp (mDo m E F) Q↔wp (m E F) λ_ F1=>Q (.nx E) F1:=b9.trans (v6 λ_ _=>c9)
section
variable {F:FdS}
theorem b2P {me:DE->M PyData}{f:En->PyData}{rest:DE}:∀(ds:List En) (o o' o'':Option DV) (Q:List PyData->FdS->Prop),(∀d∈ds,∀(F:FdS) (Q:PyData->FdS->Prop),Q (f d) F->wp (me (some (.dat (.int d.1.1))::some (.dat (.int d.1.2))::some (.dat (.int d.2))::rest) F) Q)->Q (ds.map f) F ->
  wp (Q0 (t9 2 (d4 (t9 2 (d4 (bN 0) (d4 (bN 1) u8))) (d4 (bN 2) u8))) E9 me (ds.map enD) (o::o'::o''::rest) F) Q
 | [],o,o',o'',Q,_,q=>c9.mpr q
 | d::ds,o,o',o'',Q,h,q=>by
  rw[List.map_cons,Q0]
  have e:t9 2 (d4 (t9 2 (d4 (bN 0) (d4 (bN 1) u8))) (d4 (bN 2) u8)) (enD d) (o::o'::o''::rest)=some (some (.dat (.int d.1.1))::some (.dat (.int d.1.2))::some (.dat (.int d.2))::rest):=rfl
  rw[e,Option.bind_some,b9]
  refine a0H.mpr ?_
  rw[if_pos rfl,b9]
  refine h d List.mem_cons_self F _ ?_
  rw[b9]
  exact b2P ds _ _ _ _ (λd hd=>h d (List.mem_cons_of_mem _ hd)) (c9.mpr q)
variable {Q:PyData->FdS->Prop}
noncomputable abbrev lgE (k:Nat)(more:Int)(e:En):En:=((e.1.1,if e.2=(k:Int) then e.1.2+more else e.1.2),e.2)
theorem b1u {way:List Bt}{k:Nat}{more:Int}(m:Nat):((G1 way m).map (lgE k more)).map (·.1)=(List.range (j9 way m).length).map λj=>lgc k more (c8 way m+j) ((j9 way m).getD j (0,0)):=by
 unfold G1
 rw[List.map_map,List.map_map]
 refine List.map_congr_left λj _=>?_
 show((lgE k more (enA way m j)).1:Int×Int)=lgc k more (c8 way m+j) ((j9 way m).getD j (0,0))
 unfold lgE enA lgc
 by_cases h:c8 way m+j=k
 ·rw[if_pos h]
  show(_,if ((c8 way m+j:Nat):Int)=(k:Int) then _ else _)=_
  rw[if_pos (by omega)]
 ·rw[if_neg h]
  show(_,if ((c8 way m+j:Nat):Int)=(k:Int) then _ else _)=_
  rw[if_neg (by omega)]
theorem a7H {way:List Bt}{N:Nat}{T:Int}(hw:Wy N T way)(hN:N≤50){k:Nat}{more:Int}(hk:k<i6 way)
  (q:Q (.tuple [.tuple ((lgW way k more).map btD),.tuple (j2 (List.range (i6 way)))]) F) :
  wp (f_longer [.dat (.tuple (way.map btD)),.dat (.int (k:Int)),.dat (.int more)] F) Q:=by
 have h1:=hw.len
 have h2:=hw.many
 unfold f_longer
 refine G4.mpr ?_
 dsimp only[p9,List.map_cons,List.map_nil,List.length_cons,List.length_nil,List.replicate,List.cons_append,List.nil_append,Nat.reduceAdd,Nat.reduceSub]
 refine h7.mpr (b30.mpr (l3.mpr (p7.mpr (j5.mpr (j4 rfl (p7.mpr (j5.mpr (j4 rfl (m8.mpr ?_)))))))))
 unfold f_check_comer
 refine G4.mpr ?_
 dsimp only[p9,List.map_cons,List.map_nil,List.length_cons,List.length_nil,List.replicate,List.cons_append,List.nil_append,Nat.reduceAdd,Nat.reduceSub]
 refine G5.mpr (a2g.mpr (K6.mpr (b0X.mpr (n5.mpr (f8.mpr (i4 rfl (c6 b10 (c6 rfl (C3 (decide_eq_true (by omega)) (l3.mpr (p7.mpr (j5.mpr (j4 rfl (m8.mpr (b24 hw (c6 a7S (c6 rfl ?_)))))))))))))))))
 rw[decide_eq_true (show(k:Int)<(i6 way:Nat) by omega)]
 refine l4 rfl (M1.mpr (b2s (f9 (h7.mpr (S9.mpr (K3.mpr (d8.mpr ⟨sz (by decide),l0 rfl,f9 (h7.mpr ?_)⟩)))))))
 refine O3.mpr (B7.mpr (l3.mpr (p7.mpr (j5.mpr (j4 rfl (m8.mpr (a4J hw hN (c6 K4 ?_))))))))
 refine G0 (λm E F'=>F'=F∧∃o4,E=[some (.dat (.tuple (way.map btD))),some (.dat (.int (k:Int))),some (.dat (.int more)),some (.own (((n8 way m).map λr=>r.map (lgE k more)).map G2)),o4]) _ 0 _ F ⟨rfl,_,rfl⟩ ?_ ?_
 ·rintro m d e E F1 ⟨rfl,o4,rfl⟩
  rw[Nat.zero_add]
  have ed:(n8 way way.length).map G2=(List.range way.length).map λm=>G2 (G1 way m):=by unfold n8;rw[List.map_map];rfl
  rw[ed]at e
  obtain⟨hm,rfl⟩:=W6 e
  have hb:=a0g hw hm
  refine⟨_,rfl,?_⟩
  refine X6 (a0m rfl) (by simp;omega) (P9.mpr (B7.mpr (f8.mpr (i4 rfl (c6 K4 ⟨sz (by simp;omega),?_⟩)))))
  refine b2P (f:=λe=>enD (lgE k more e)) _ _ _ _ _ (λe _ F Q q=>?_) ?_
  ·refine A3.mpr (b8.mpr (A3.mpr (b8.mpr (j5.mpr (j4 rfl (b8.mpr (a1a.mpr (K6.mpr (m5.mpr (f8.mpr (i4 rfl (f8.mpr (i4 rfl (c6 b3G (c6 rfl (T3 (λhc=>?_) λhc=>?_))))))))))))))))
   ·have hc:=of_decide_eq_true hc
    refine m5.mpr (f8.mpr (i4 rfl (f8.mpr (i4 rfl (c6 a1D (d8.mpr ⟨r8 rfl,b8.mpr (j5.mpr (j4 rfl (d8.mpr ⟨r8 rfl,?_⟩)))⟩))))))
    have:lgE k more e=((e.1.1,e.1.2+more),e.2):=by unfold lgE;rw[if_pos hc]
    rw[this]at q
    exact q
   ·have hc:=of_decide_eq_false hc
    refine j5.mpr (j4 rfl (d8.mpr ⟨r8 rfl,b8.mpr (j5.mpr (j4 rfl (d8.mpr ⟨r8 rfl,?_⟩)))⟩))
    have:lgE k more e=((e.1.1,e.1.2),e.2):=by unfold lgE;rw[if_neg hc]
    rw[this]at q
    exact q
  have e1:((n8 way (m+1)).map λr=>r.map (lgE k more)).map G2=((n8 way m).map λr=>r.map (lgE k more)).map G2++[.list ((G1 way m).map λe=>enD (lgE k more e))]:=by
   unfold n8
   rw[List.range_succ,List.map_append,List.map_append,List.map_append]
   congr 1
   show[G2 ((G1 way m).map (lgE k more))]=_
   unfold G2
   rw[List.map_map]
   rfl
  exact⟨_,rfl,rfl,_,by rw[e1];rfl⟩
 ·rintro E F1 ⟨rfl,o4,rfl⟩
  have el:(n8 way way.length).length=way.length:=by simp
  rw[Nat.zero_add,List.length_map,el]
  refine f9 (a2V (a0m rfl) (D6.mpr (l3.mpr (p7.mpr (j5.mpr (j4 rfl (m8.mpr (a2H ?_ ?_ ?_ (D1 ?_)))))))))
  ·simp;omega
  ·intro r hr
   obtain⟨r0,hr0,rfl⟩:=List.mem_map.mp hr
   obtain⟨m,hm,rfl⟩:=List.mem_map.mp hr0
   have:=a0g hw (List.mem_range.mp hm)
   simp
   omega
  ·rw[←List.map_flatten,List.length_map,W2];simp;omega
  ·have e1:((n8 way way.length).map λr=>r.map (lgE k more)).map (λr=>btD (r.map (·.1)))=(lgW way k more).map btD:=by
    unfold lgW n8
    rw[List.map_map,List.map_map,List.map_map]
    refine List.map_congr_left λm _=>?_
    show btD (((G1 way m).map (lgE k more)).map (·.1))=_
    rw[b1u]
    rfl
   have e2:(((n8 way way.length).map λr=>r.map (lgE k more)).flatten.map λe:En=>PyData.int e.2)=j2 (List.range (i6 way)):=by
    rw[←List.map_flatten,W2,List.map_map,List.map_map]
    rfl
   rw[e1,e2]
   exact q
end
theorem b2w {ι:Nat->Nat}(hi:∀n,ι n < ι (n+1)){a b:Nat}(h:ι a = ι b):a=b:=by
 have mono:∀a d,ι a < ι (a+(d+1)):=λa d=>by
  induction d with
  | zero=>exact hi a
  | succ d ih=>exact Nat.lt_trans ih (hi _)
 rcases Nat.lt_trichotomy a b with h1 | h1 | h1
 ·have:=mono a (b-a-1)
  rw[show a+(b-a-1+1)=b by omega]at this
  omega
 ·exact h1
 ·have:=mono b (a-b-1)
  rw[show b+(a-b-1+1)=a by omega]at this
  omega
section
variable {F:FdS}
theorem a97 {Q:PyData->FdS->Prop}{h N N':Nat}{T T':Int}{way way':List Bt}{ν:Nat->Int}{ι:Nat->Nat}(hh:1≤h)(hw:Wy N T way)(hw':Wy N' T' way')(hN:N≤50)(hN':N'≤50)(hT:T≤400)(hT':T'≤400)
  (hi:∀n,ι n < ι (n+1)) (hc:∀m n,n<c8 way m ↔ ι n<c8 way' m) (hl:∀n,wkW way n≤wkW way' (ι n))
  (hν:∀k,k<i6 way'->(ν k<0∧∀n,ι n≠k)∨∃n,n<i6 way ∧ ν k=(n:Int)∧k = ι n)
  (q:Q (.bool true) F):wp (f__law_none_earlier [.dat (fiD h),.dat (.tuple (way.map btD)),.dat (.tuple (way'.map btD)),.dat (.tuple ((List.range (i6 way')).map λk=>.int (ν k)))] F) Q:=by
 have h2:=hw.many
 have h2':=hw'.many
 have hιl:∀n,n<i6 way->ι n<i6 way':=λn hn=>by
  have e1:c8 way (way.length+way'.length)=i6 way:=M7 (by omega)
  have e2:c8 way' (way.length+way'.length)=i6 way':=M7 (by omega)
  have:=(hc (way.length+way'.length) n).mp (by omega)
  omega
 unfold f__law_none_earlier
 rw[a8q]
 refine G4.mpr ?_
 dsimp only[p9,List.map_cons,List.map_nil,List.length_cons,List.length_nil,List.replicate,List.cons_append,List.nil_append,Nat.reduceAdd,Nat.reduceSub]
 refine h7.mpr (L5.mpr (l3.mpr (p7.mpr (j5.mpr (j4 rfl (p7.mpr (j5.mpr (j4 rfl (m8.mpr (a2x hh hw hN hT λM hM g=>c6 rfl (f9 (h7.mpr ?_))))))))))))
 refine L5.mpr (l3.mpr (p7.mpr (j5.mpr (j4 rfl (p7.mpr (j5.mpr (j4 rfl (m8.mpr (a2x hh hw' hN' hT' λM' hM' g'=>c6 rfl (f9 (h7.mpr ?_)))))))))))
 have hle:∀n,n<i6 way->moW way h M n≤moW way' h M' (ι n):=λn hn=>b25 hi hc (a1X hw.w1) (a1X hw'.w1) hl (a1n hw.w1 hn) (g n hn) (g' (ι n) (hιl n hn))
 refine G5.mpr (a6q.mpr (K6.mpr (m5.mpr (n5.mpr (f8.mpr (i4 rfl (c6 (a5Y λk _=>a6b hM) (c6 rfl (l4 rfl ?_)))))))))
 refine a6q.mpr (K6.mpr (m5.mpr (n5.mpr (f8.mpr (i4 rfl (c6 (a5Y λk _=>a6b hM') (c6 rfl (l4 rfl ?_))))))))
 refine K6.mpr (m5.mpr (A8.mpr (b8.mpr (f8.mpr (i4 rfl (d8.mpr (c6 C8 (A8.mpr (b8.mpr (f8.mpr (i4 rfl (d8.mpr (c6 a2j (c6 (b2E (by simp)) (c6 rfl (l4 rfl (M1.mpr (f9 (h7.mpr (S9.mpr ?_))))))))))))))))))))
 unfold a7Y
 rw[b9]
 refine f8.mpr (i4 rfl (c9.mpr ⟨l0 rfl,f9 (h7.mpr (S9.mpr (K3.mpr (d8.mpr ⟨sz (by decide),l0 rfl,f9 (h7.mpr ?_)⟩))))⟩))
 refine O3.mpr (a1p.mpr (b8.mpr (A8.mpr (b8.mpr (f8.mpr (i4 rfl (d8.mpr (c6 C8 (d8.mpr ?_)))))))))
 rw[List.length_map,List.length_range]
 refine c6 (a28 (by omega)) ?_
 rw[a03]
 refine G0 (λm E F'=>F'=F∧∃o10 o11,E=[some (.dat (fiD h)),some (.dat (.tuple (way.map btD))),some (.dat (.tuple (way'.map btD))),some (.dat (.tuple ((List.range (i6 way')).map λk=>.int (ν k)))),some (.dat (tD way h M)),some (.dat (.list (moL way h M))),some (.dat (tD way' h M')),some (.dat (.list (moL way' h M'))),some (.own ((List.range (i6 way)).map λn=>if ι n<m then goD (arW way' (ι n)) (moW way' h M' (ι n)) (wtW way' h M' (ι n)) else goD (arW way n) (moW way h M n) (wtW way h M n))),some (.own []),o10,o11]) _ 0 _ F ⟨rfl,none,none,?_⟩ ?_ ?_
 ·have:(List.range (i6 way)).map (λn=>if ι n<0 then goD (arW way' (ι n)) (moW way' h M' (ι n)) (wtW way' h M' (ι n)) else goD (arW way n) (moW way h M n) (wtW way h M n))=goL (i6 way) (arW way) (moW way h M) (wtW way h M):=by
   unfold goL
   refine List.map_congr_left λn _=>?_
   rw[if_neg (Nat.not_lt_zero _)]
  rw[this]
  rfl
 ·rintro m d e E F1 ⟨rfl,o10,o11,rfl⟩
  rw[Nat.zero_add]
  obtain⟨hm,rfl⟩:=W6 (f:=λi:Nat=>PyData.int (i:Int)) e
  refine⟨_,rfl,h7.mpr ?_⟩
  refine w4.mpr (m5.mpr (f8.mpr (i4 rfl (f8.mpr (i4 rfl (c6 (V2 (f:=λk=>PyData.int (ν k)) hm) ⟨l0 rfl,f9 ?_⟩))))))
  refine G5.mpr (K6.mpr (m5.mpr (f8.mpr (i4 rfl (n5.mpr (c6 b2M (c6 rfl ?_)))))))
  rcases hν m hm with ⟨n1,n2⟩ | ⟨n0,n1,n2,n3⟩
  ·have ex:((List.range (i6 way)).map λn=>if ι n<m+1 then goD (arW way' (ι n)) (moW way' h M' (ι n)) (wtW way' h M' (ι n)) else goD (arW way n) (moW way h M n) (wtW way h M n))=(List.range (i6 way)).map λn=>if ι n<m then goD (arW way' (ι n)) (moW way' h M' (ι n)) (wtW way' h M' (ι n)) else goD (arW way n) (moW way h M n) (wtW way h M n):=by
    refine List.map_congr_left λn _=>?_
    have:=n2 n
    by_cases hz:ι n<m
    ·rw[if_pos hz,if_pos (by omega)]
    ·rw[if_neg hz,if_neg (by omega)]
   exact l4 (decide_eq_false (by omega)) (M1.mpr ⟨_,rfl,rfl,_,_,by rw[ex];rfl⟩)
  ·rw[n2]
   refine C3 (decide_eq_true (by omega)) (h7.mpr ((a4U rfl).mpr ?_))
   refine m5.mpr (f8.mpr (i4 rfl (f8.mpr (i4 rfl (c6 (a8j hm) (j5.mpr (j4 rfl (c6 rfl (c6 (b19 (by omega) (by simp;omega)) (f9 ?_))))))))))
   have e5:ixD (.list (moL way h M)) (.int ((n0:Nat):Int))=some (.int ((moW way h M n0:Nat):Int)):=V2 (f:=λk=>PyData.int ((moW way h M k:Nat):Int)) n1
   have e7:ixD (.list (moL way' h M')) (.int ((m:Nat):Int))=some (.int ((moW way' h M' m:Nat):Int)):=V2 (f:=λk=>PyData.int ((moW way' h M' k:Nat):Int)) hm
   have hge:=hle n0 n1
   rw[←n3]at hge
   have ex:((List.range (i6 way)).map λn=>if ι n<m+1 then goD (arW way' (ι n)) (moW way' h M' (ι n)) (wtW way' h M' (ι n)) else goD (arW way n) (moW way h M n) (wtW way h M n))=((List.range (i6 way)).map λn=>if ι n<m then goD (arW way' (ι n)) (moW way' h M' (ι n)) (wtW way' h M' (ι n)) else goD (arW way n) (moW way h M n) (wtW way h M n)).set (((n0:Nat):Int)).toNat (goD (arW way' m) (moW way' h M' m) (wtW way' h M' m)):=by
    rw[Int.toNat_natCast,b02]
    refine List.map_congr_left λn _=>?_
    by_cases hz:n=n0
    ·subst hz
     rw[if_pos (show ι n<m+1 by omega),if_pos rfl,←n3]
    ·have hne:ι n≠m:=λz=>hz (b2w hi (z.trans n3))
     rw[if_neg hz]
     by_cases hz2:ι n<m
     ·rw[if_pos hz2,if_pos (by omega)]
     ·rw[if_neg hz2,if_neg (by omega)]
   exact G5.mpr (K6.mpr (m5.mpr (m5.mpr (f8.mpr (i4 rfl (f8.mpr (i4 rfl (c6 e7 (m5.mpr (f8.mpr (i4 rfl (f8.mpr (i4 rfl (c6 e5 (c6 a7S (c6 rfl (l4 (decide_eq_false (by omega)) (M1.mpr ⟨_,rfl,rfl,_,_,by rw[ex];rfl⟩))))))))))))))))))
 ·rintro E F1 ⟨rfl,o10,o11,rfl⟩
  rw[Nat.zero_add,v8,List.length_range]
  have emv:((List.range (i6 way)).map λn=>if ι n<i6 way' then goD (arW way' (ι n)) (moW way' h M' (ι n)) (wtW way' h M' (ι n)) else goD (arW way n) (moW way h M n) (wtW way h M n))=goL (i6 way) (λn=>arW way' (ι n)) (λn=>moW way' h M' (ι n)) (λn=>wtW way' h M' (ι n)):=by
   unfold goL
   refine List.map_congr_left λn hn=>?_
   rw[if_pos (hιl n (List.mem_range.mp hn))]
  rw[emv]
  refine f9 (h7.mpr ?_)
  refine O3.mpr (a1p.mpr (b8.mpr (A8.mpr (b8.mpr (f8.mpr (i4 rfl (d8.mpr (c6 a2j (d8.mpr ?_)))))))))
  rw[a5S]
  refine c6 (a28 (by omega)) ?_
  rw[a03]
  refine G0 (λm E F'=>F'=F1∧∃o11,E=[some (.dat (fiD h)),some (.dat (.tuple (way.map btD))),some (.dat (.tuple (way'.map btD))),some (.dat (.tuple ((List.range (i6 way')).map λk=>.int (ν k)))),some (.dat (tD way h M)),some (.dat (.list (moL way h M))),some (.dat (tD way' h M')),some (.dat (.list (moL way' h M'))),some (.own (goL (i6 way) (λn=>arW way' (ι n)) (λn=>moW way' h M' (ι n)) (λn=>wtW way' h M' (ι n)))),some (.own (j2 ((List.range m).filter λn=>decide (moW way h M n<moW way' h M' (ι n))))),o10,o11]) _ 0 _ F1 ⟨rfl,o11,rfl⟩ ?_ ?_
  ·rintro m d e E F1 ⟨rfl,o11,rfl⟩
   rw[Nat.zero_add]
   obtain⟨hm,rfl⟩:=W6 (f:=λi:Nat=>PyData.int (i:Int)) e
   have e5:ixD (.list (moL way h M)) (.int ((m:Nat):Int))=some (.int ((moW way h M m:Nat):Int)):=V2 (f:=λk=>PyData.int ((moW way h M k:Nat):Int)) hm
   have hfl:=List.length_filter_le (λn=>decide (moW way h M n<moW way' h M' (ι n))) (List.range m)
   rw[List.length_range]at hfl
   refine⟨_,rfl,G5.mpr (K6.mpr (m5.mpr (m5.mpr (m5.mpr (f8.mpr (P5 rfl (f8.mpr (i4 rfl (c6 (a8j hm) (n5.mpr (c6 rfl (m5.mpr (f8.mpr (i4 rfl (f8.mpr (i4 rfl (c6 e5 (c6 a62 (c6 rfl (T3 (λhz=>?_) λhz=>?_))))))))))))))))))))⟩
   ·have hz:=of_decide_eq_true hz
    have ex:j2 ((List.range (m+1)).filter λn=>decide (moW way h M n<moW way' h M' (ι n)))=j2 ((List.range m).filter λn=>decide (moW way h M n<moW way' h M' (ι n)))++[.int (m:Int)]:=by
     rw[List.range_succ,List.filter_append]
     have:[m].filter (λn=>decide (moW way h M n<moW way' h M' (ι n)))=[m]:=List.filter_cons_of_pos (decide_eq_true (by omega))
     rw[this]
     unfold j2
     rw[List.map_append]
     rfl
    exact X6 (a0m rfl) (by rw[v8];omega) (j5.mpr (j4 rfl ⟨_,rfl,rfl,_,by rw[ex];rfl⟩))
   ·have hz:=of_decide_eq_false hz
    have ex:((List.range (m+1)).filter λn=>decide (moW way h M n<moW way' h M' (ι n)))=(List.range m).filter λn=>decide (moW way h M n<moW way' h M' (ι n)):=by
     rw[List.range_succ,List.filter_append]
     have:[m].filter (λn=>decide (moW way h M n<moW way' h M' (ι n)))=[]:=List.filter_cons_of_neg (by simp only[decide_eq_true_eq];omega)
     rw[this,List.append_nil]
    exact M1.mpr ⟨_,rfl,rfl,_,by rw[ex];rfl⟩
  ·rintro E F1 ⟨rfl,o11,rfl⟩
   rw[Nat.zero_add,v8,List.length_range]
   refine f9 (a2V (a0m rfl) (D6.mpr (a4x.mpr (m5.mpr (l3.mpr (p7.mpr (j5.mpr (j4 rfl (p7.mpr (j5.mpr (j4 rfl (m8.mpr (a6c (by omega) ?_)))))))))))))
   refine f8.mpr (P5 rfl (c6 (b1w (a3W λi hi=>?_) (by decide)) (c6 rfl (C3 rfl ?_))))
   ·have:=List.mem_range.mp (List.mem_filter.mp hi).1
    omega
   refine m5.mpr (l3.mpr (p7.mpr (j5.mpr (j4 rfl (p7.mpr (j5.mpr (j4 rfl (m8.mpr (a6c (by omega) ?_)))))))))
   have e0:((List.range (i6 way)).filter λk=>decide (moW way' h M' (ι k)<moW way h M k))=[]:=by
    rw[List.filter_eq_nil_iff]
    intro k hk
    have:=hle k (List.mem_range.mp hk)
    simp only[decide_eq_true_eq]
    omega
   rw[e0]
   exact n5.mpr (c6 nil_eq (D1 q))
end
theorem b1Y {way:List Bt}(hw:WayOk 24 way):Gd 0 (1+200*way.length) 3 (.tuple (way.map btD)):=by
 have key:∀b∈way,Gd 0 200 2 (btD b):=λb hb=>by
  have h1:b.length≤i6 way:=by
   unfold i6
   clear hw
   induction way with
   | nil=>cases hb
   | cons c way ih =>
    rw[List.map_cons,List.sum_cons]
    rcases List.mem_cons.mp hb with rfl | hb
    ·omega
    ·have:=ih hb;omega
  have h2:=hw.many
  exact(b3p (hw.ok b hb)).mono (.inl rfl) (by omega) (by decide)
 refine Gd.tup (M:=200) (λx hx=>?_) ?_
 ·obtain⟨b,hb,rfl⟩:=List.mem_map.mp hx
  exact key b hb
 ·have:=Q3 (c:=200) (ds:=way.map btD) λd hd=>by
   obtain⟨b,hb,rfl⟩:=List.mem_map.mp hd
   exact(key b hb).ct
  rw[List.length_map]at this
  omega
theorem b3N {way:List Bt}(hw:WayOk 24 way):a1h way≤240:=by
 have h2:=hw.many
 rw[←y6]at h2
 unfold a1h
 have key:∀l:List (Int×Int),(∀c∈l,c.2≤6)->(l.map (·.2)).sum≤6*l.length:=λl=>by
  induction l with
  | nil=>intro _;exact Int.le_refl _
  | cons c l ih =>
   intro h
   have a:=h c List.mem_cons_self
   have b:=ih λx hx=>h x (List.mem_cons_of_mem _ hx)
   simp only[List.map_cons,List.sum_cons,List.length_cons]
   omega
 have:=key way.flatten λc hc=>by
  obtain⟨b,hb,hc⟩:=List.mem_flatten.mp hc
  exact(hw.ok b hb c hc).2.2.2
 omega
theorem b3A {way:List Bt}(hw:WayOk 24 way)(h:1≤way.length):Wy 40 240 way:=⟨h,hw.len,hw.many,b3N hw,λb hb c hc=>(hw.ok b hb c hc).2.2.1⟩
theorem a9q:Wy 40 240 [[]]:=⟨by decide,by decide,by decide,by decide,λb hb c hc=>by
 rcases List.mem_cons.mp hb with rfl | hb
 ·cases hc
 ·cases hb⟩
noncomputable abbrev a9u (L:Nat):List PyData:=(List.range (L+1)).map λi:Nat=>.int ((i:Int)-1)
theorem a8w {L P:Nat}(hP:P≤L)(hL:L≤60):a3K [.tuple ((List.range (L+1)).map λk=>.int (Y8 P k))]=some (.list (a9u L)):=by
 have e:((List.range (L+1)).map λk=>PyData.int (Y8 P k))=((List.range (L+1)).map (Y8 P)).map .int:=by rw[List.map_map];rfl
 rw[e]
 unfold a3K
 dsimp only
 rw[Y9,Option.bind_some,if_pos (by simp;omega)]
 have ep:(a1L ((List.range (L+1)).map (Y8 P)))=(List.range (L+1)).map λi:Nat=>((i:Int)-1):=by
  refine R0 ((L1 _).trans ?_) (V0 _) ?_
  ·have hl:((List.range L).map λn:Nat=>(n:Int)).length=L:=by simp
   have e1:=a1K ((List.range L).map λn:Nat=>(n:Int)) (P:=P) (by rw[hl];exact hP) (-1) 0
   rw[hl]at e1
   have e2:(List.range (L+1)).map (Y8 P)=((List.range L).map λn:Nat=>(n:Int)).take P++[-1]++((List.range L).map λn:Nat=>(n:Int)).drop P:=by
    rw[e1]
    refine List.map_congr_left λk hk=>?_
    have hk:=List.mem_range.mp hk
    have hg:∀n,n<L->((List.range L).map λn:Nat=>(n:Int)).getD n 0=((n:Nat):Int):=λn hn=>a19 (f:=λn:Nat=>(n:Int)) λz=>absurd z (by omega)
    unfold Y8 Z4
    by_cases h1:k<P
    ·rw[if_pos h1,if_pos h1];exact(hg k (by omega)).symm
    ·rw[if_neg h1,if_neg h1]
     by_cases h2:k=P
     ·rw[if_pos h2,if_pos h2]
     ·rw[if_neg h2,if_neg h2];exact(hg (k-1) (by omega)).symm
   rw[e2]
   have e3:(List.range (L+1)).map (λi:Nat=>((i:Int)-1)) = -1::(List.range L).map λn:Nat=>(n:Int):=by
    rw[List.range_succ_eq_map,List.map_cons,List.map_map]
    congr 1
    refine List.map_congr_left λn _=>?_
    show((n+1:Nat):Int)-1=_
    omega
   rw[e3]
   have p1:(((List.range L).map λn:Nat=>(n:Int)).take P++[-1]++((List.range L).map λn:Nat=>(n:Int)).drop P).Perm (-1::(((List.range L).map λn:Nat=>(n:Int)).take P++((List.range L).map λn:Nat=>(n:Int)).drop P)):=by
    rw[List.append_assoc]
    exact List.perm_middle
   rw[List.take_append_drop]at p1
   exact p1
  ·rw[List.pairwise_map]
   exact(C6 _).imp λh=>by omega
 rw[ep,List.map_map]
 rfl
theorem b0A {L:Nat}(hL:L≤60):Gd 0 (1+(L+1)) 1 (.list (a9u L)):=a6j (n:=L+1) (f:=λi=>(i:Int)-1) λi hi=>by omega
theorem b3j {L:Nat}(hL:L≤60):a1O [.int (-1),.int (L:Int)]=some (a9u L):=by
 rw[a7F (by omega) (by omega) (by omega) (by omega)]
 have e:((L:Int)-(-1)).toNat=L+1:=by omega
 rw[e]
 unfold a9u
 refine congrArg some ?_
 show(List.range (L+1)).map _=_
 refine List.map_congr_left λi _=>?_
 show PyData.int (-1+(i:Int))=PyData.int ((i:Int)-1)
 rw[show(-1+(i:Int))=(i:Int)-1 by omega]
theorem b1D {way:List Bt}{b p:Nat}(hb:b<way.length)(k:Nat)(hk:k<i6 way+1):(Y8 (C9 way b p) k<0∧∀n,shN (C9 way b p) n≠k)∨∃n,n<i6 way∧Y8 (C9 way b p) k=(n:Int)∧k=shN (C9 way b p) n:=by
 have hP:C9 way b p≤i6 way:=by
  have h1:=(W7 (p:=p) hb).2
  have h2:=J3 way (b+1)
  omega
 unfold Y8 Z4 shN
 by_cases h1:k<C9 way b p
 ·right
  exact⟨k,by omega,by rw[if_pos h1],by rw[if_pos h1]⟩
 ·by_cases h2:k=C9 way b p
  ·left
   refine⟨by rw[if_neg h1,if_pos h2];decide,λn=>?_⟩
   split <;> omega
  ·right
   exact⟨k-1,by omega,by rw[if_neg h1,if_neg h2],by rw[if_neg (by omega)];omega⟩
section
variable {F:FdS}{Q:Out->FdS->Prop}
theorem b1e {h N:Nat}{T:Int}{way:List Bt}(hh:1≤h)(hw:Wy N T way)(hN:N≤45)(hT:T≤300)(hF:F.t≤1000){o4 o5 o6 o7:Option DV}
  (q:∀(way':List Bt) (F':FdS) o5 o6 o7,Wy (N+1) (T+12) way'->F'.t≤F.t+6->Q (.nx [none,some .feed,some (.dat (fiD h)),some (.dat (.tuple (way'.map btD))),o4,o5,o6,o7]) F') :
  wp ((mSq Q8 (mSq Q9 (mSq Q2 (mSq Q6 (mSq P8 (mSq Q7 (mSq P1 Q4))))))) [none,some .feed,some (.dat (fiD h)),some (.dat (.tuple (way.map btD))),o4,o5,o6,o7] F) Q:=by
 have h1:=hw.len
 have h2:=hw.many
 have h3:=hw.tot
 have h4:=hw.l1
 refine h7.mpr ?_
 unfold Q8
 refine w4.mpr (A3.mpr (b8.mpr (l3.mpr (a36.mpr (a2Z rfl (p7.mpr (n5.mpr (m8.mpr ?_))))))))
 refine C7 (by decide) (by decide) (by omega) λx F1 x0 x1 t1=>b8.mpr (m5.mpr (n5.mpr (l3.mpr (a36.mpr (a2Z rfl (p7.mpr (n5.mpr (m8.mpr ?_))))))))
 refine C7 (by decide) (by decide) (by omega) λy F2 y0 y1 t2=>c6 a1D (d8.mpr ⟨r8 rfl,l0 rfl,f9 (h7.mpr ?_)⟩)
 unfold Q9
 refine L5.mpr (l3.mpr (p7.mpr (j5.mpr (j4 rfl (p7.mpr (l3.mpr (a36.mpr (a2Z rfl (p7.mpr (A8.mpr (b8.mpr (f8.mpr (i4 rfl (d8.mpr (c6 C8 (m8.mpr ?_))))))))))))))))
 rw[List.length_map]
 refine C7 (by omega) (by omega) (by omega) λb F3 b0 b1 t3=>p7.mpr (l3.mpr (a36.mpr (a2Z rfl (p7.mpr (n5.mpr (m8.mpr ?_))))))
 refine C7 (by decide) (by decide) (by omega) λp F4 p0 p1 t4=>p7.mpr (j5.mpr (j4 rfl (m8.mpr ?_)))
 obtain⟨b,rfl⟩:∃n:Nat,b=n:=⟨b.toNat,by omega⟩
 obtain⟨p,rfl⟩:∃n:Nat,p=n:=⟨p.toNat,by omega⟩
 have hb:b<way.length:=by omega
 refine b1c (c:=(x,1+y)) hw (by omega) hb (c6 rfl (f9 (h7.mpr ?_)))
 have hP:C9 way b p≤i6 way:=by
  have h1:=(W7 (p:=p) hb).2
  have h2:=J3 way (b+1)
  omega
 have hw1:Wy (N+1) (T+6) (G7 way b p (x,1+y)):=⟨by rw[List.length_set];exact h4,by rw[List.length_set];exact h1,by rw[M0 hb];omega,by rw[a6E hb];show a1h way+(1+y)≤_;omega,a7X (show 1≤1+y by omega) hw.w1⟩
 unfold Q2
 refine G5.mpr (K6.mpr (m5.mpr (A8.mpr (b8.mpr (f8.mpr (i4 rfl (d8.mpr (c6 (a8w hP (by omega)) ?_))))))))
 refine a63 (b8.mpr (b0l.mpr (n5.mpr (c6 rfl (b8.mpr (A8.mpr (b8.mpr (P9.mpr (B7.mpr (f8.mpr (i4 rfl (c6 R4 ⟨sz (by rw[List.length_map];omega),?_⟩))))))))))))
 refine a9U (x:=btD) (f:=λb=>.int ((b.length:Nat):Int)) _ _ (λb _ F Q q=>?_) (d8.mpr (c6 a4l (d8.mpr (c6 (b3j (by omega)) ⟨by simp;omega,c6 (a8T (b0A (by omega)) (by decide)) (c6 rfl (l4 rfl (M1.mpr (f9 (h7.mpr ?_)))))⟩))))
 ·refine A8.mpr (b8.mpr (f8.mpr (i4 rfl (d8.mpr (c6 C8 ?_)))))
  rw[List.length_map]
  exact q
 unfold Q6
 refine G5.mpr (a2g.mpr (a4z.mpr (l3.mpr (p7.mpr (j5.mpr (j4 rfl (p7.mpr (j5.mpr (j4 rfl (p7.mpr (j5.mpr (j4 rfl (p7.mpr (j5.mpr (j4 rfl (m8.mpr ?_))))))))))))))))
 rw[←M0 (p:=p) (c:=(x,1+y)) hb]
 refine a97 (ν:=Y8 (C9 way b p)) (ι:=shN (C9 way b p)) hh hw hw1 (by omega) (by omega) (by omega) (by omega) (b1F _) (a78 hb) (λn=>by rw[a94 hb];exact Int.le_refl _) (λk hk=>b1D hb k (by rw[M0 hb]at hk;exact hk)) (c6 rfl (l4 rfl (M1.mpr (f9 (h7.mpr ?_)))))
 unfold P8
 refine w4.mpr (j5.mpr (j4 rfl ⟨l0 rfl,f9 (h7.mpr ?_)⟩))
 have hpos:0<i6 (G7 way b p (x,1+y)):=by rw[M0 hb];omega
 generalize G7 way b p (x,1+y)=way1 at hw1 hpos ⊢
 generalize Y8 (C9 way b p) = ν
 have hm1:=hw1.many
 have hlw:=hw1.len
 have ht1:=hw1.tot
 unfold Q7
 refine L5.mpr (l3.mpr (p7.mpr (j5.mpr (j4 rfl (p7.mpr (l3.mpr (a36.mpr (a2Z rfl (p7.mpr (A8.mpr (b8.mpr (f8.mpr (i4 rfl (d8.mpr (c6 C8 (m8.mpr ?_))))))))))))))))
 rw[List.length_map,List.length_range]
 refine C7 (by omega) (by omega) (by omega) λk F5 k0 k1 t5=>p7.mpr (l3.mpr (a36.mpr (a2Z rfl (p7.mpr (n5.mpr (m8.mpr ?_))))))
 refine C7 (by decide) (by decide) (by omega) λmore F6 m0 m1 t6=>m8.mpr ?_
 obtain⟨k,rfl⟩:∃n:Nat,k=n:=⟨k.toNat,by omega⟩
 refine a7H hw1 (by omega) (by omega) (c6 rfl (f9 (h7.mpr ?_)))
 have hw2:Wy (N+1) (T+12) (lgW way1 k more):=⟨by unfold lgW;simp;exact hw1.l1,by unfold lgW;simp;exact hlw,by rw[a0d];exact hm1,by have:=b1j (way:=way1) (k:=k) m0;omega,b3u m0 hw1.w1⟩
 unfold P1
 refine G5.mpr (a6q.mpr (K6.mpr (m5.mpr (A8.mpr (b8.mpr (f8.mpr (i4 rfl (d8.mpr (c6 rfl ?_)))))))))
 refine a5E (b8.mpr (A8.mpr (b8.mpr (f8.mpr (i4 rfl (d8.mpr (c6 C8 (d8.mpr ?_))))))))
 rw[v8,List.length_range]
 refine c6 (a28 (by omega)) ⟨by rw[W4];omega,?_⟩
 rw[a03]
 refine c6 (a8T (a3W λi hi=>by have:=List.mem_range.mp hi;omega) (by decide)) (c6 rfl (l4 rfl ?_))
 refine a2g.mpr (a4z.mpr (l3.mpr (p7.mpr (j5.mpr (j4 rfl (p7.mpr (j5.mpr (j4 rfl (p7.mpr (j5.mpr (j4 rfl (p7.mpr (j5.mpr (j4 rfl (m8.mpr ?_)))))))))))))))
 have en:j2 (List.range (i6 way1))=(List.range (i6 (lgW way1 k more))).map λk=>PyData.int (((λk:Nat=>(k:Int)) k):Int):=by rw[a0d];rfl
 rw[en]
 refine a97 (ν:=λk:Nat=>(k:Int)) (ι:=λn=>n) hh hw1 hw2 (by omega) (by omega) (by omega) (by omega) (λn=>Nat.lt_succ_self n) (λm n=>by rw[b1L]) (λn=>(b0K m0 n).1) (λk hk=>.inr ⟨k,by rw[a0d]at hk;exact hk,rfl,rfl⟩) (c6 rfl (l4 rfl (M1.mpr (f9 ?_))))
 unfold Q4
 exact w4.mpr (j5.mpr (j4 rfl ⟨l0 rfl,q _ F6 _ _ _ hw2 (by omega)⟩))
end
theorem fin (ns:List Int):∃F',a4o ([none,some .feed]++List.replicate 6 none) (a4D ns)=some (.rt (.bool true),F'):=by
 have key:wp (a4o ([none,some .feed]++List.replicate 6 none) (a4D ns)) λo _=>o = .rt (.bool true):=by
  have h0:(a4D ns).t=0:=rfl
  unfold a4o
  refine h7.mpr ?_
  unfold a1m
  refine w4.mpr (A3.mpr (b8.mpr (m5.mpr (n5.mpr (l3.mpr (a36.mpr (a2Z rfl (p7.mpr (n5.mpr (m8.mpr ?_))))))))))
  refine C7 (by decide) (by decide) (by omega) λx F1 x0 x1 t1=>c6 a1D (b8.mpr (n5.mpr (b8.mpr (n5.mpr (d8.mpr ⟨r8 rfl,l0 rfl,f9 (h7.mpr ?_)⟩)))))
  obtain⟨h,hh,eh⟩:∃h:Nat,1≤h∧1+x=(h:Int):=⟨(1+x).toNat,by omega,by omega⟩
  rw[eh]
  unfold a1z
  rw[a8o]
  refine w4.mpr (l3.mpr (a36.mpr (a2Z rfl (m8.mpr ?_))))
  refine(a85 (nm:=nmB) rfl).wp (by omega) λd1 F2 t2 hd1=>?_
  obtain⟨way,rfl,hw⟩:=hd1
  refine⟨l0 rfl,f9 (h7.mpr ?_)⟩
  have rest:∀(way:List Bt),Wy 40 240 way->wp (mSq a1t a05 [none,some .feed,some (.dat (fiD h)),some (.dat (.tuple (way.map btD))),none,none,none,none] F2) λo _=>o = .rt (.bool true):=λway hw=>by
   have e0:(240:Int)+12*((0:Nat):Int)=240:=by omega
   have hw0:Wy (40+0) (240+12*((0:Nat):Int)) way:=by rw[e0];exact hw
   refine h7.mpr ?_
   unfold a1t
   refine O3.mpr (a1p.mpr (b8.mpr (n5.mpr (d8.mpr (c6 (a28 (n:=2) (by omega)) ?_)))))
   rw[a03]
   refine G0 (λm E F'=>F'.t≤F2.t+6*m∧∃(way:List Bt) (a4 a5 a6 a7:Option DV),Wy (40+m) (240+12*m) way∧E=[none,some .feed,some (.dat (fiD h)),some (.dat (.tuple (way.map btD))),a4,a5,a6,a7]) _ 0 _ F2 ⟨by omega,way,_,_,_,_,hw0,rfl⟩ ?_ ?_
   ·rintro m d e E F3 ⟨ht,way,a4,a5,a6,a7,hw,rfl⟩
    rw[Nat.zero_add] at *
    obtain⟨hm,rfl⟩:=W6 (f:=λi:Nat=>PyData.int (i:Int)) e
    refine⟨_,rfl,b1e hh hw (by omega) (by omega) (by omega) λway' F' a5 a6 a7 hw' ht'=>⟨_,rfl,by omega,way',_,_,_,_,?_,rfl⟩⟩
    have e1:40+(m+1)=40+m+1:=by omega
    have e2:(240:Int)+12*((m+1:Nat):Int)=240+12*(m:Int)+12:=by omega
    rw[e1,e2]
    exact hw'
   ·rintro E F3 ⟨_,way,a4,a5,a6,a7,hw,rfl⟩
    refine f9 ?_
    unfold a05
    exact D6.mpr (n5.mpr rfl)
  unfold a1q
  refine G5.mpr (K6.mpr (m5.mpr (f8.mpr (i4 rfl (n5.mpr (c6 (b2J ((b1Y hw).shaped (by decide) (by decide))) (c6 rfl (T3 (λhz=>?_) λhz=>?_))))))))
  ·exact w4.mpr (n5.mpr ⟨l0 rfl,f9 (rest [[]] a9q)⟩)
  ·have hz:=of_decide_eq_false hz
   rw[List.length_map]at hz
   exact M1.mpr (f9 (rest way (b3A hw (by omega))))
 obtain⟨o,F',e,h⟩:=key
 exact⟨F',by rw[e,h]⟩
end K27
namespace K27
open PySem L2 L3
theorem all_mk {l:PySem.W.OpenLaw}{w:World}{K:PySem.W.Frag}{h:Heap}{mg:Str->Option Value}{fa fmany_in fnumbered ftold_way fwith_comer fcheck_comer flonger fgoes_later flater fkeeps flet_in flined_up fpicked fworked fstep frun fafter_beat fcourses fdrained f_law_feed f_law_next f_law_way f_law_light_way f_law_moments f_law_none_earlier flaw:Addr}(X:K.In h)(G:h.Ns mainGlobals mg)(hfa:mg "law" = some (.ref fa))
    {odmany_in anmany_in odnumbered annumbered odtold_way antold_way odwith_comer anwith_comer odcheck_comer ancheck_comer odlonger anlonger odgoes_later angoes_later odlater anlater odkeeps ankeeps odlet_in anlet_in odlined_up anlined_up odpicked anpicked odworked anworked odstep anstep odrun anrun odafter_beat anafter_beat odcourses ancourses oddrained andrained od_law_feed an_law_feed od_law_next an_law_next od_law_way an_law_way od_law_light_way an_law_light_way od_law_moments an_law_moments od_law_none_earlier an_law_none_earlier odlaw anlaw:Option Addr} {slmany_in slnumbered sltold_way slwith_comer slcheck_comer sllonger slgoes_later sllater slkeeps sllet_in sllined_up slpicked slworked slstep slrun slafter_beat slcourses sldrained sl_law_feed sl_law_next sl_law_way sl_law_light_way sl_law_moments sl_law_none_earlier sllaw:Array (Option Value)} {ocmany_in kVmany_in dcmany_in pmmany_in cdmany_in ctmany_in ocnumbered kVnumbered dcnumbered pmnumbered cdnumbered ctnumbered octold_way kVtold_way dctold_way pmtold_way cdtold_way cttold_way ocwith_comer kVwith_comer dcwith_comer pmwith_comer cdwith_comer ctwith_comer occheck_comer kVcheck_comer dccheck_comer pmcheck_comer cdcheck_comer ctcheck_comer oclonger kVlonger dclonger pmlonger cdlonger ctlonger ocgoes_later kVgoes_later dcgoes_later pmgoes_later cdgoes_later ctgoes_later oclater kVlater dclater pmlater cdlater ctlater ockeeps kVkeeps dckeeps pmkeeps cdkeeps ctkeeps oclet_in kVlet_in dclet_in pmlet_in cdlet_in ctlet_in oclined_up kVlined_up dclined_up pmlined_up cdlined_up ctlined_up ocpicked kVpicked dcpicked pmpicked cdpicked ctpicked ocworked kVworked dcworked pmworked cdworked ctworked ocstep kVstep dcstep pmstep cdstep ctstep ocrun kVrun dcrun pmrun cdrun ctrun ocafter_beat kVafter_beat dcafter_beat pmafter_beat cdafter_beat ctafter_beat occourses kVcourses dccourses pmcourses cdcourses ctcourses ocdrained kVdrained dcdrained pmdrained cddrained ctdrained oc_law_feed kV_law_feed dc_law_feed pm_law_feed cd_law_feed ct_law_feed oc_law_next kV_law_next dc_law_next pm_law_next cd_law_next ct_law_next oc_law_way kV_law_way dc_law_way pm_law_way cd_law_way ct_law_way oc_law_light_way kV_law_light_way dc_law_light_way pm_law_light_way cd_law_light_way ct_law_light_way oc_law_moments kV_law_moments dc_law_moments pm_law_moments cd_law_moments ct_law_moments oc_law_none_earlier kV_law_none_earlier dc_law_none_earlier pm_law_none_earlier cd_law_none_earlier ct_law_none_earlier oclaw kVlaw dclaw pmlaw cdlaw ctlaw:Value}
    (amany_in:PySem.W.nsIn K mainGlobals "many_in" = some (some (.ref fmany_in))) (lmany_in:K.lookup fmany_in=some ⟨ocmany_in,odmany_in,.func (PySem.W.fnOf "many_in" "many_in" (defArgs s_many_in) (defBody s_many_in) (defScope s_many_in) .none kVmany_in dcmany_in pmmany_in anmany_in cdmany_in ctmany_in),slmany_in⟩) (cmany_in:PySem.W.codeIn K cdmany_in "many_in" = true) (kmany_in:PySem.W.keepIn K (.ref fmany_in)=true)
    (anumbered:PySem.W.nsIn K mainGlobals "numbered" = some (some (.ref fnumbered))) (lnumbered:K.lookup fnumbered=some ⟨ocnumbered,odnumbered,.func (PySem.W.fnOf "numbered" "numbered" (defArgs s_numbered) (defBody s_numbered) (defScope s_numbered) .none kVnumbered dcnumbered pmnumbered annumbered cdnumbered ctnumbered),slnumbered⟩) (cnumbered:PySem.W.codeIn K cdnumbered "numbered" = true) (knumbered:PySem.W.keepIn K (.ref fnumbered)=true)
    (atold_way:PySem.W.nsIn K mainGlobals "told_way" = some (some (.ref ftold_way))) (ltold_way:K.lookup ftold_way=some ⟨octold_way,odtold_way,.func (PySem.W.fnOf "told_way" "told_way" (defArgs s_told_way) (defBody s_told_way) (defScope s_told_way) .none kVtold_way dctold_way pmtold_way antold_way cdtold_way cttold_way),sltold_way⟩) (ctold_way:PySem.W.codeIn K cdtold_way "told_way" = true) (ktold_way:PySem.W.keepIn K (.ref ftold_way)=true)
    (awith_comer:PySem.W.nsIn K mainGlobals "with_comer" = some (some (.ref fwith_comer))) (lwith_comer:K.lookup fwith_comer=some ⟨ocwith_comer,odwith_comer,.func (PySem.W.fnOf "with_comer" "with_comer" (defArgs s_with_comer) (defBody s_with_comer) (defScope s_with_comer) .none kVwith_comer dcwith_comer pmwith_comer anwith_comer cdwith_comer ctwith_comer),slwith_comer⟩) (cwith_comer:PySem.W.codeIn K cdwith_comer "with_comer" = true) (kwith_comer:PySem.W.keepIn K (.ref fwith_comer)=true)
    (acheck_comer:PySem.W.nsIn K mainGlobals "check_comer" = some (some (.ref fcheck_comer))) (lcheck_comer:K.lookup fcheck_comer=some ⟨occheck_comer,odcheck_comer,.func (PySem.W.fnOf "check_comer" "check_comer" (defArgs s_check_comer) (defBody s_check_comer) (defScope s_check_comer) .none kVcheck_comer dccheck_comer pmcheck_comer ancheck_comer cdcheck_comer ctcheck_comer),slcheck_comer⟩) (ccheck_comer:PySem.W.codeIn K cdcheck_comer "check_comer" = true) (kcheck_comer:PySem.W.keepIn K (.ref fcheck_comer)=true)
    (alonger:PySem.W.nsIn K mainGlobals "longer" = some (some (.ref flonger))) (llonger:K.lookup flonger=some ⟨oclonger,odlonger,.func (PySem.W.fnOf "longer" "longer" (defArgs s_longer) (defBody s_longer) (defScope s_longer) .none kVlonger dclonger pmlonger anlonger cdlonger ctlonger),sllonger⟩) (clonger:PySem.W.codeIn K cdlonger "longer" = true) (klonger:PySem.W.keepIn K (.ref flonger)=true)
    (agoes_later:PySem.W.nsIn K mainGlobals "goes_later" = some (some (.ref fgoes_later))) (lgoes_later:K.lookup fgoes_later=some ⟨ocgoes_later,odgoes_later,.func (PySem.W.fnOf "goes_later" "goes_later" (defArgs s_goes_later) (defBody s_goes_later) (defScope s_goes_later) .none kVgoes_later dcgoes_later pmgoes_later angoes_later cdgoes_later ctgoes_later),slgoes_later⟩) (cgoes_later:PySem.W.codeIn K cdgoes_later "goes_later" = true) (kgoes_later:PySem.W.keepIn K (.ref fgoes_later)=true)
    (alater:PySem.W.nsIn K mainGlobals "later" = some (some (.ref flater))) (llater:K.lookup flater=some ⟨oclater,odlater,.func (PySem.W.fnOf "later" "later" (defArgs s_later) (defBody s_later) (defScope s_later) .none kVlater dclater pmlater anlater cdlater ctlater),sllater⟩) (clater:PySem.W.codeIn K cdlater "later" = true) (klater:PySem.W.keepIn K (.ref flater)=true)
    (akeeps:PySem.W.nsIn K mainGlobals "keeps" = some (some (.ref fkeeps))) (lkeeps:K.lookup fkeeps=some ⟨ockeeps,odkeeps,.func (PySem.W.fnOf "keeps" "keeps" (defArgs s_keeps) (defBody s_keeps) (defScope s_keeps) .none kVkeeps dckeeps pmkeeps ankeeps cdkeeps ctkeeps),slkeeps⟩) (ckeeps:PySem.W.codeIn K cdkeeps "keeps" = true) (kkeeps:PySem.W.keepIn K (.ref fkeeps)=true)
    (alet_in:PySem.W.nsIn K mainGlobals "let_in" = some (some (.ref flet_in))) (llet_in:K.lookup flet_in=some ⟨oclet_in,odlet_in,.func (PySem.W.fnOf "let_in" "let_in" (defArgs s_let_in) (defBody s_let_in) (defScope s_let_in) .none kVlet_in dclet_in pmlet_in anlet_in cdlet_in ctlet_in),sllet_in⟩) (clet_in:PySem.W.codeIn K cdlet_in "let_in" = true) (klet_in:PySem.W.keepIn K (.ref flet_in)=true)
    (alined_up:PySem.W.nsIn K mainGlobals "lined_up" = some (some (.ref flined_up))) (llined_up:K.lookup flined_up=some ⟨oclined_up,odlined_up,.func (PySem.W.fnOf "lined_up" "lined_up" (defArgs s_lined_up) (defBody s_lined_up) (defScope s_lined_up) .none kVlined_up dclined_up pmlined_up anlined_up cdlined_up ctlined_up),sllined_up⟩) (clined_up:PySem.W.codeIn K cdlined_up "lined_up" = true) (klined_up:PySem.W.keepIn K (.ref flined_up)=true)
    (apicked:PySem.W.nsIn K mainGlobals "picked" = some (some (.ref fpicked))) (lpicked:K.lookup fpicked=some ⟨ocpicked,odpicked,.func (PySem.W.fnOf "picked" "picked" (defArgs s_picked) (defBody s_picked) (defScope s_picked) .none kVpicked dcpicked pmpicked anpicked cdpicked ctpicked),slpicked⟩) (cpicked:PySem.W.codeIn K cdpicked "picked" = true) (kpicked:PySem.W.keepIn K (.ref fpicked)=true)
    (aworked:PySem.W.nsIn K mainGlobals "worked" = some (some (.ref fworked))) (lworked:K.lookup fworked=some ⟨ocworked,odworked,.func (PySem.W.fnOf "worked" "worked" (defArgs s_worked) (defBody s_worked) (defScope s_worked) .none kVworked dcworked pmworked anworked cdworked ctworked),slworked⟩) (cworked:PySem.W.codeIn K cdworked "worked" = true) (kworked:PySem.W.keepIn K (.ref fworked)=true)
    (astep:PySem.W.nsIn K mainGlobals "step" = some (some (.ref fstep))) (lstep:K.lookup fstep=some ⟨ocstep,odstep,.func (PySem.W.fnOf "step" "step" (defArgs s_step) (defBody s_step) (defScope s_step) .none kVstep dcstep pmstep anstep cdstep ctstep),slstep⟩) (cstep:PySem.W.codeIn K cdstep "step" = true) (kstep:PySem.W.keepIn K (.ref fstep)=true)
    (arun:PySem.W.nsIn K mainGlobals "run" = some (some (.ref frun))) (lrun:K.lookup frun=some ⟨ocrun,odrun,.func (PySem.W.fnOf "run" "run" (defArgs s_run) (defBody s_run) (defScope s_run) .none kVrun dcrun pmrun anrun cdrun ctrun),slrun⟩) (crun:PySem.W.codeIn K cdrun "run" = true) (krun:PySem.W.keepIn K (.ref frun)=true)
    (aafter_beat:PySem.W.nsIn K mainGlobals "after_beat" = some (some (.ref fafter_beat))) (lafter_beat:K.lookup fafter_beat=some ⟨ocafter_beat,odafter_beat,.func (PySem.W.fnOf "after_beat" "after_beat" (defArgs s_after_beat) (defBody s_after_beat) (defScope s_after_beat) .none kVafter_beat dcafter_beat pmafter_beat anafter_beat cdafter_beat ctafter_beat),slafter_beat⟩) (cafter_beat:PySem.W.codeIn K cdafter_beat "after_beat" = true) (kafter_beat:PySem.W.keepIn K (.ref fafter_beat)=true)
    (acourses:PySem.W.nsIn K mainGlobals "courses" = some (some (.ref fcourses))) (lcourses:K.lookup fcourses=some ⟨occourses,odcourses,.func (PySem.W.fnOf "courses" "courses" (defArgs s_courses) (defBody s_courses) (defScope s_courses) .none kVcourses dccourses pmcourses ancourses cdcourses ctcourses),slcourses⟩) (ccourses:PySem.W.codeIn K cdcourses "courses" = true) (kcourses:PySem.W.keepIn K (.ref fcourses)=true)
    (adrained:PySem.W.nsIn K mainGlobals "drained" = some (some (.ref fdrained))) (ldrained:K.lookup fdrained=some ⟨ocdrained,oddrained,.func (PySem.W.fnOf "drained" "drained" (defArgs s_drained) (defBody s_drained) (defScope s_drained) .none kVdrained dcdrained pmdrained andrained cddrained ctdrained),sldrained⟩) (cdrained:PySem.W.codeIn K cddrained "drained" = true) (kdrained:PySem.W.keepIn K (.ref fdrained)=true)
    (a_law_feed:PySem.W.nsIn K mainGlobals "_law_feed" = some (some (.ref f_law_feed))) (l_law_feed:K.lookup f_law_feed=some ⟨oc_law_feed,od_law_feed,.func (PySem.W.fnOf "_law_feed" "_law_feed" (defArgs s__law_feed) (defBody s__law_feed) (defScope s__law_feed) .none kV_law_feed dc_law_feed pm_law_feed an_law_feed cd_law_feed ct_law_feed),sl_law_feed⟩) (c_law_feed:PySem.W.codeIn K cd_law_feed "_law_feed" = true) (k_law_feed:PySem.W.keepIn K (.ref f_law_feed)=true)
    (a_law_next:PySem.W.nsIn K mainGlobals "_law_next" = some (some (.ref f_law_next))) (l_law_next:K.lookup f_law_next=some ⟨oc_law_next,od_law_next,.func (PySem.W.fnOf "_law_next" "_law_next" (defArgs s__law_next) (defBody s__law_next) (defScope s__law_next) .none kV_law_next dc_law_next pm_law_next an_law_next cd_law_next ct_law_next),sl_law_next⟩) (c_law_next:PySem.W.codeIn K cd_law_next "_law_next" = true) (k_law_next:PySem.W.keepIn K (.ref f_law_next)=true)
    (a_law_way:PySem.W.nsIn K mainGlobals "_law_way" = some (some (.ref f_law_way))) (l_law_way:K.lookup f_law_way=some ⟨oc_law_way,od_law_way,.func (PySem.W.fnOf "_law_way" "_law_way" (defArgs s__law_way) (defBody s__law_way) (defScope s__law_way) .none kV_law_way dc_law_way pm_law_way an_law_way cd_law_way ct_law_way),sl_law_way⟩) (c_law_way:PySem.W.codeIn K cd_law_way "_law_way" = true) (k_law_way:PySem.W.keepIn K (.ref f_law_way)=true)
    (a_law_light_way:PySem.W.nsIn K mainGlobals "_law_light_way" = some (some (.ref f_law_light_way))) (l_law_light_way:K.lookup f_law_light_way=some ⟨oc_law_light_way,od_law_light_way,.func (PySem.W.fnOf "_law_light_way" "_law_light_way" (defArgs s__law_light_way) (defBody s__law_light_way) (defScope s__law_light_way) .none kV_law_light_way dc_law_light_way pm_law_light_way an_law_light_way cd_law_light_way ct_law_light_way),sl_law_light_way⟩) (c_law_light_way:PySem.W.codeIn K cd_law_light_way "_law_light_way" = true) (k_law_light_way:PySem.W.keepIn K (.ref f_law_light_way)=true)
    (a_law_moments:PySem.W.nsIn K mainGlobals "_law_moments" = some (some (.ref f_law_moments))) (l_law_moments:K.lookup f_law_moments=some ⟨oc_law_moments,od_law_moments,.func (PySem.W.fnOf "_law_moments" "_law_moments" (defArgs s__law_moments) (defBody s__law_moments) (defScope s__law_moments) .none kV_law_moments dc_law_moments pm_law_moments an_law_moments cd_law_moments ct_law_moments),sl_law_moments⟩) (c_law_moments:PySem.W.codeIn K cd_law_moments "_law_moments" = true) (k_law_moments:PySem.W.keepIn K (.ref f_law_moments)=true)
    (a_law_none_earlier:PySem.W.nsIn K mainGlobals "_law_none_earlier" = some (some (.ref f_law_none_earlier))) (l_law_none_earlier:K.lookup f_law_none_earlier=some ⟨oc_law_none_earlier,od_law_none_earlier,.func (PySem.W.fnOf "_law_none_earlier" "_law_none_earlier" (defArgs s__law_none_earlier) (defBody s__law_none_earlier) (defScope s__law_none_earlier) .none kV_law_none_earlier dc_law_none_earlier pm_law_none_earlier an_law_none_earlier cd_law_none_earlier ct_law_none_earlier),sl_law_none_earlier⟩) (c_law_none_earlier:PySem.W.codeIn K cd_law_none_earlier "_law_none_earlier" = true) (k_law_none_earlier:PySem.W.keepIn K (.ref f_law_none_earlier)=true)
    (alaw:PySem.W.nsIn K mainGlobals "law" = some (some (.ref flaw))) (llaw:K.lookup flaw=some ⟨oclaw,odlaw,.func (PySem.W.fnOf "law" "law" (defArgs s_law) (defBody s_law) (defScope s_law) .none kVlaw dclaw pmlaw anlaw cdlaw ctlaw),sllaw⟩) (claw:PySem.W.codeIn K cdlaw "law" = true) (klaw:PySem.W.keepIn K (.ref flaw)=true)
    (zenumerate:PySem.W.nsIn K mainGlobals "enumerate" = some none)
    (zlen:PySem.W.nsIn K mainGlobals "len" = some none)
    (zlist:PySem.W.nsIn K mainGlobals "list" = some none)
    (zrange:PySem.W.nsIn K mainGlobals "range" = some none)
    (zsorted:PySem.W.nsIn K mainGlobals "sorted" = some none)
    (zsum:PySem.W.nsIn K mainGlobals "sum" = some none)
    (ztuple:PySem.W.nsIn K mainGlobals "tuple" = some none)
    {t_KEEPING:Addr} {it_KEEPING:Array Value} {n_KEEPING:Nat} {dd_KEEPING:Option Addr} {sl_KEEPING:Array (Option Value)} (ga_KEEPING:PySem.W.nsIn K mainGlobals "KEEPING" = some (some (.ref t_KEEPING))) (gl_KEEPING:K.lookup t_KEEPING=some ⟨.type "tuple",dd_KEEPING,.seq it_KEEPING n_KEEPING,sl_KEEPING⟩) (gq_KEEPING:L3.strsOf it_KEEPING.toList=some (["first","last","short","front"]:List Str))
    {ti_NEW} (gi_NEW:PySem.W.nsIn K mainGlobals "NEW" = some (some (Value.int (-1) ti_NEW)))
    (hs_lined_up:(PySem.W.tabIn K "lined_up").isSome=true)
    (hs_picked:(PySem.W.tabIn K "picked").isSome=true)
    (hnd0:decide (((L3.tabsK (["lined_up","picked"]:List Str) K).map (·.2.2)).Nodup)=true)
   :∃fd:FuncData,(∀(s:Shared) (v:Value),BindsTo s fd ⟨[v],[]⟩ [("_law_script",v)])∧∀base:Heap,K.In base->base.Ns mainGlobals mg->BMd base mg->(∀t∈L3.tabsK (["lined_up","picked"]:List Str) K,PySem.W.CodeHd base t.2.1 t.2.2)->FnOk l.prog w K mg base CX0 9 fa fd ["_law_script"] (spLaw K):=by
  have hnd:(L3.tabP K).Nodup:=of_decide_eq_true hnd0
  have e:=hfa.symm.trans (PySem.W.mg_of X G alaw)
  cases e
  have T:Txt K mg:=⟨PySem.W.mg_none_of X G zenumerate,PySem.W.mg_none_of X G zlen,PySem.W.mg_none_of X G zlist,PySem.W.mg_none_of X G zrange,PySem.W.mg_none_of X G zsorted,PySem.W.mg_none_of X G zsum,PySem.W.mg_none_of X G ztuple,L3.gd_mk X G ga_KEEPING gl_KEEPING gq_KEEPING (by decide),⟨_,PySem.W.mg_of X G gi_NEW⟩⟩
  have Fmany_in:=fun_mk (st:=s_many_in) lmany_in cmany_in kmany_in
  have bmany_in:=Fmany_in.binds (ps:=["way"]) λ_ _ _ _ _ _ us hl=>by
    obtain⟨z0,rfl⟩:=L3.len_1 hl
    rfl
  have mmany_in:=PySem.W.mg_of X G amany_in
  have Fnumbered:=fun_mk (st:=s_numbered) lnumbered cnumbered knumbered
  have bnumbered:=Fnumbered.binds (ps:=["way"]) λ_ _ _ _ _ _ us hl=>by
    obtain⟨z0,rfl⟩:=L3.len_1 hl
    rfl
  have mnumbered:=PySem.W.mg_of X G anumbered
  have Ftold_way:=fun_mk (st:=s_told_way) ltold_way ctold_way ktold_way
  have btold_way:=Ftold_way.binds (ps:=["rows"]) λ_ _ _ _ _ _ us hl=>by
    obtain⟨z0,rfl⟩:=L3.len_1 hl
    rfl
  have mtold_way:=PySem.W.mg_of X G atold_way
  have Fwith_comer:=fun_mk (st:=s_with_comer) lwith_comer cwith_comer kwith_comer
  have bwith_comer:=Fwith_comer.binds (ps:=["way","beat","place","comer"]) λ_ _ _ _ _ _ us hl=>by
    obtain⟨z0,z1,z2,z3,rfl⟩:=L3.len_4 hl
    rfl
  have mwith_comer:=PySem.W.mg_of X G awith_comer
  have Fcheck_comer:=fun_mk (st:=s_check_comer) lcheck_comer ccheck_comer kcheck_comer
  have bcheck_comer:=Fcheck_comer.binds (ps:=["way","number"]) λ_ _ _ _ _ _ us hl=>by
    obtain⟨z0,z1,rfl⟩:=L3.len_2 hl
    rfl
  have mcheck_comer:=PySem.W.mg_of X G acheck_comer
  have Flonger:=fun_mk (st:=s_longer) llonger clonger klonger
  have blonger:=Flonger.binds (ps:=["way","number","more"]) λ_ _ _ _ _ _ us hl=>by
    obtain⟨z0,z1,z2,rfl⟩:=L3.len_3 hl
    rfl
  have mlonger:=PySem.W.mg_of X G alonger
  have Fgoes_later:=fun_mk (st:=s_goes_later) lgoes_later cgoes_later kgoes_later
  have bgoes_later:=Fgoes_later.binds (ps:=["course","other"]) λ_ _ _ _ _ _ us hl=>by
    obtain⟨z0,z1,rfl⟩:=L3.len_2 hl
    rfl
  have mgoes_later:=PySem.W.mg_of X G agoes_later
  have Flater:=fun_mk (st:=s_later) llater clater klater
  have blater:=Flater.binds (ps:=["one","other"]) λ_ _ _ _ _ _ us hl=>by
    obtain⟨z0,z1,rfl⟩:=L3.len_2 hl
    rfl
  have mlater:=PySem.W.mg_of X G alater
  have Fkeeps:=fun_mk (st:=s_keeps) lkeeps ckeeps kkeeps
  have bkeeps:=Fkeeps.binds (ps:=["rule"]) λ_ _ _ _ _ _ us hl=>by
    obtain⟨z0,rfl⟩:=L3.len_1 hl
    rfl
  have mkeeps:=PySem.W.mg_of X G akeeps
  have Flet_in:=fun_mk (st:=s_let_in) llet_in clet_in klet_in
  have blet_in:=Flet_in.binds (ps:=["house","stand","beat"]) λ_ _ _ _ _ _ us hl=>by
    obtain⟨z0,z1,z2,rfl⟩:=L3.len_3 hl
    rfl
  have mlet_in:=PySem.W.mg_of X G alet_in
  have Flined_up:=fun_mk (st:=s_lined_up) llined_up clined_up klined_up
  have blined_up:=Flined_up.binds (ps:=["rule","stand"]) λ_ _ _ _ _ _ us hl=>by
    obtain⟨z0,z1,rfl⟩:=L3.len_2 hl
    rfl
  have mlined_up:=PySem.W.mg_of X G alined_up
  have Fpicked:=fun_mk (st:=s_picked) lpicked cpicked kpicked
  have bpicked:=Fpicked.binds (ps:=["house","stand"]) λ_ _ _ _ _ _ us hl=>by
    obtain⟨z0,z1,rfl⟩:=L3.len_2 hl
    rfl
  have mpicked:=PySem.W.mg_of X G apicked
  have Fworked:=fun_mk (st:=s_worked) lworked cworked kworked
  have bworked:=Fworked.binds (ps:=["house","stand"]) λ_ _ _ _ _ _ us hl=>by
    obtain⟨z0,z1,rfl⟩:=L3.len_2 hl
    rfl
  have mworked:=PySem.W.mg_of X G aworked
  have Fstep:=fun_mk (st:=s_step) lstep cstep kstep
  have bstep:=Fstep.binds (ps:=["house","stand","beat"]) λ_ _ _ _ _ _ us hl=>by
    obtain⟨z0,z1,z2,rfl⟩:=L3.len_3 hl
    rfl
  have mstep:=PySem.W.mg_of X G astep
  have Frun:=fun_mk (st:=s_run) lrun crun krun
  have brun:=Frun.binds (ps:=["house","way","stand"]) λ_ _ _ _ _ _ us hl=>by
    obtain⟨z0,z1,z2,rfl⟩:=L3.len_3 hl
    rfl
  have mrun:=PySem.W.mg_of X G arun
  have Fafter_beat:=fun_mk (st:=s_after_beat) lafter_beat cafter_beat kafter_beat
  have bafter_beat:=Fafter_beat.binds (ps:=["course","waited","gone_at"]) λ_ _ _ _ _ _ us hl=>by
    obtain⟨z0,z1,z2,rfl⟩:=L3.len_3 hl
    rfl
  have mafter_beat:=PySem.W.mg_of X G aafter_beat
  have Fcourses:=fun_mk (st:=s_courses) lcourses ccourses kcourses
  have bcourses:=Fcourses.binds (ps:=["house","way"]) λ_ _ _ _ _ _ us hl=>by
    obtain⟨z0,z1,rfl⟩:=L3.len_2 hl
    rfl
  have mcourses:=PySem.W.mg_of X G acourses
  have Fdrained:=fun_mk (st:=s_drained) ldrained cdrained kdrained
  have bdrained:=Fdrained.binds (ps:=["house","way"]) λ_ _ _ _ _ _ us hl=>by
    obtain⟨z0,z1,rfl⟩:=L3.len_2 hl
    rfl
  have mdrained:=PySem.W.mg_of X G adrained
  have F_law_feed:=fun_mk (st:=s__law_feed) l_law_feed c_law_feed k_law_feed
  have b_law_feed:=F_law_feed.binds (ps:=["_law_script"]) λ_ _ _ _ _ _ us hl=>by
    obtain⟨z0,rfl⟩:=L3.len_1 hl
    rfl
  have m_law_feed:=PySem.W.mg_of X G a_law_feed
  have F_law_next:=fun_mk (st:=s__law_next) l_law_next c_law_next k_law_next
  have b_law_next:=F_law_next.binds (ps:=["_law_feed_here","_law_many"]) λ_ _ _ _ _ _ us hl=>by
    obtain⟨z0,z1,rfl⟩:=L3.len_2 hl
    rfl
  have m_law_next:=PySem.W.mg_of X G a_law_next
  have F_law_way:=fun_mk (st:=s__law_way) l_law_way c_law_way k_law_way
  have b_law_way:=F_law_way.binds (ps:=["_law_feed_here","_law_beats","_law_works"]) λ_ _ _ _ _ _ us hl=>by
    obtain⟨z0,z1,z2,rfl⟩:=L3.len_3 hl
    rfl
  have m_law_way:=PySem.W.mg_of X G a_law_way
  have F_law_light_way:=fun_mk (st:=s__law_light_way) l_law_light_way c_law_light_way k_law_light_way
  have b_law_light_way:=F_law_light_way.binds (ps:=["_law_feed_here"]) λ_ _ _ _ _ _ us hl=>by
    obtain⟨z0,rfl⟩:=L3.len_1 hl
    rfl
  have m_law_light_way:=PySem.W.mg_of X G a_law_light_way
  have F_law_moments:=fun_mk (st:=s__law_moments) l_law_moments c_law_moments k_law_moments
  have b_law_moments:=F_law_moments.binds (ps:=["_law_house","_law_way_here"]) λ_ _ _ _ _ _ us hl=>by
    obtain⟨z0,z1,rfl⟩:=L3.len_2 hl
    rfl
  have m_law_moments:=PySem.W.mg_of X G a_law_moments
  have F_law_none_earlier:=fun_mk (st:=s__law_none_earlier) l_law_none_earlier c_law_none_earlier k_law_none_earlier
  have b_law_none_earlier:=F_law_none_earlier.binds (ps:=["_law_house","_law_way_here","_law_told","_law_numbers"]) λ_ _ _ _ _ _ us hl=>by
    obtain⟨z0,z1,z2,z3,rfl⟩:=L3.len_4 hl
    rfl
  have m_law_none_earlier:=PySem.W.mg_of X G a_law_none_earlier
  have Flaw:=fun_mk (st:=s_law) llaw claw klaw
  have blaw:=Flaw.binds (ps:=["_law_script"]) λ_ _ _ _ _ _ us hl=>by
    obtain⟨z0,rfl⟩:=L3.len_1 hl
    rfl
  have mlaw:=PySem.W.mg_of X G alaw
  refine⟨PySem.W.fnOf "law" "law" (defArgs s_law) (defBody s_law) (defScope s_law) .none kVlaw dclaw pmlaw anlaw cdlaw ctlaw,λs v=>.of_eq rfl,λbase _ _ BM hC=>?_⟩
  have C_many_in:Callee l.prog w K mg base "many_in" 1 ["way"] (spD K 1 f_many_in):=⟨_,_,ok_many_in Fmany_in T ,mmany_in,Fmany_in.kp,bmany_in⟩
  have CG_numbered:Callee l.prog w K mg base "numbered" 1 ["way"] (spG K 1 fG_numbered):=⟨_,_,okG_numbered Fnumbered T ,mnumbered,Fnumbered.kp,bnumbered⟩
  have C_numbered:Callee l.prog w K mg base "numbered" 1 ["way"] (spD K 1 f_numbered):=⟨_,_,ok_numbered Fnumbered T ,mnumbered,Fnumbered.kp,bnumbered⟩
  have C_told_way:Callee l.prog w K mg base "told_way" 1 ["rows"] (spD K 1 f_told_way):=⟨_,_,ok_told_way Ftold_way T ,mtold_way,Ftold_way.kp,btold_way⟩
  have C_with_comer:Callee l.prog w K mg base "with_comer" 2 ["way","beat","place","comer"] (spD K 4 f_with_comer):=⟨_,_,ok_with_comer Fwith_comer T CG_numbered C_told_way,mwith_comer,Fwith_comer.kp,bwith_comer⟩
  have C_check_comer:Callee l.prog w K mg base "check_comer" 2 ["way","number"] (spD K 2 f_check_comer):=⟨_,_,ok_check_comer Fcheck_comer T C_many_in,mcheck_comer,Fcheck_comer.kp,bcheck_comer⟩
  have C_longer:Callee l.prog w K mg base "longer" 3 ["way","number","more"] (spD K 3 f_longer):=⟨_,_,ok_longer Flonger T C_check_comer C_numbered C_told_way,mlonger,Flonger.kp,blonger⟩
  have C_goes_later:Callee l.prog w K mg base "goes_later" 1 ["course","other"] (spD K 2 f_goes_later):=⟨_,_,ok_goes_later Fgoes_later T ,mgoes_later,Fgoes_later.kp,bgoes_later⟩
  have C_later:Callee l.prog w K mg base "later" 2 ["one","other"] (spD K 2 f_later):=⟨_,_,ok_later Flater T C_goes_later,mlater,Flater.kp,blater⟩
  have C_keeps:Callee l.prog w K mg base "keeps" 1 ["rule"] (spD K 1 f_keeps):=⟨_,_,ok_keeps Fkeeps T ,mkeeps,Fkeeps.kp,bkeeps⟩
  have C_let_in:Callee l.prog w K mg base "let_in" 1 ["house","stand","beat"] (spD K 3 f_let_in):=⟨_,_,ok_let_in Flet_in T ,mlet_in,Flet_in.kp,blet_in⟩
  obtain⟨c_lined_up,P_lined_up,LB_lined_up⟩:=L3.lamB_mk (mg:=mg) (base:=base) alined_up llined_up (by decide) hs_lined_up hnd BM hC
  have C_lined_up:Callee l.prog w K mg base "lined_up" 1 ["rule","stand"] (spD K 2 f_lined_up):=⟨_,_,ok_lined_up Flined_up T LB_lined_up ,mlined_up,Flined_up.kp,blined_up⟩
  obtain⟨c_picked,P_picked,LB_picked⟩:=L3.lamB_mk (mg:=mg) (base:=base) apicked lpicked (by decide) hs_picked hnd BM hC
  have C_picked:Callee l.prog w K mg base "picked" 2 ["house","stand"] (spD K 2 f_picked):=⟨_,_,ok_picked Fpicked T LB_picked C_lined_up C_keeps,mpicked,Fpicked.kp,bpicked⟩
  have C_worked:Callee l.prog w K mg base "worked" 3 ["house","stand"] (spD K 2 f_worked):=⟨_,_,ok_worked Fworked T C_picked C_keeps,mworked,Fworked.kp,bworked⟩
  have C_step:Callee l.prog w K mg base "step" 4 ["house","stand","beat"] (spD K 3 f_step):=⟨_,_,ok_step Fstep T C_let_in C_worked,mstep,Fstep.kp,bstep⟩
  have C_run:Callee l.prog w K mg base "run" 5 ["house","way","stand"] (spD K 3 f_run):=⟨_,_,ok_run Frun T C_step,mrun,Frun.kp,brun⟩
  have C_after_beat:Callee l.prog w K mg base "after_beat" 1 ["course","waited","gone_at"] (spD K 3 f_after_beat):=⟨_,_,ok_after_beat Fafter_beat T ,mafter_beat,Fafter_beat.kp,bafter_beat⟩
  have C_courses:Callee l.prog w K mg base "courses" 4 ["house","way"] (spD K 2 f_courses):=⟨_,_,ok_courses Fcourses T C_let_in C_worked C_after_beat,mcourses,Fcourses.kp,bcourses⟩
  have C_drained:Callee l.prog w K mg base "drained" 6 ["house","way"] (spD K 2 f_drained):=⟨_,_,ok_drained Fdrained T C_run C_step,mdrained,Fdrained.kp,bdrained⟩
  have C__law_feed:Callee l.prog w K mg base "_law_feed" 1 ["_law_script"] (spFeed K):=⟨_,_,ok__law_feed F_law_feed T,m_law_feed,F_law_feed.kp,b_law_feed⟩
  have C__law_next:Callee l.prog w K mg base "_law_next" 1 ["_law_feed_here","_law_many"] (spD K 2 drawS):=⟨_,_,ok__law_next F_law_next T ,m_law_next,F_law_next.kp,b_law_next⟩
  have C__law_way:Callee l.prog w K mg base "_law_way" 2 ["_law_feed_here","_law_beats","_law_works"] (spD K 3 f__law_way):=⟨_,_,ok__law_way F_law_way T C__law_next,m_law_way,F_law_way.kp,b_law_way⟩
  have C__law_light_way:Callee l.prog w K mg base "_law_light_way" 3 ["_law_feed_here"] (spD K 1 f__law_light_way):=⟨_,_,ok__law_light_way F_law_light_way T C__law_next C__law_way,m_law_light_way,F_law_light_way.kp,b_law_light_way⟩
  have C__law_moments:Callee l.prog w K mg base "_law_moments" 7 ["_law_house","_law_way_here"] (spD K 2 f__law_moments):=⟨_,_,ok__law_moments F_law_moments T C_courses C_drained,m_law_moments,F_law_moments.kp,b_law_moments⟩
  have C__law_none_earlier:Callee l.prog w K mg base "_law_none_earlier" 8 ["_law_house","_law_way_here","_law_told","_law_numbers"] (spD K 4 f__law_none_earlier):=⟨_,_,ok__law_none_earlier F_law_none_earlier T C__law_moments C_later,m_law_none_earlier,F_law_none_earlier.kp,b_law_none_earlier⟩
  exact ok_law Flaw T C__law_feed C__law_next C__law_light_way C_with_comer C__law_none_earlier C_longer (λns _=>fin ns)
theorem walk {l:PySem.W.OpenLaw}{q:Program}{loose:List Str}{XP:(Str->Option Value)->Heap->Prop}{YP:World->Heap->Prop}{d:DefRec}{K:Params->PySem.W.Frag}(hn:l.most=some 63)(hdf:d.params.defaults=[])
  (hrec:((["lined_up","picked"]:List Str).all λx=>((PyProof.Rows.recsOf q).find? λe=>e.name == x).isSome)=true) (hnt:∀w:World,PySem.W.noTabs (K w.params)=true)
  (hY:∀(w:World) (h:Heap),YP w h->(K w.params).In h)
  (F:∀(w:World) (mg:Str->Option Value) (fa:Addr) (h:Heap),(K w.params).In h->h.Ns mainGlobals mg->mg d.name=some (.ref fa) ->
   ∃fd:FuncData,(∀(s:Shared) (u:Value),BindsTo s fd ⟨[u],[]⟩ [("_law_script",u)])∧∀base:Heap,(K w.params).In base->base.Ns mainGlobals mg->BMd base mg->(∀t∈L3.tabsK (["lined_up","picked"]:List Str) (K w.params),PySem.W.CodeHd base t.2.1 t.2.2)->FnOk l.prog w (K w.params) mg base CX0 9 fa fd ["_law_script"] (spLaw (K w.params))) :
  PySem.W.WalkO q loose XP YP l.row.toRowW d [] (λf vs=>PySem.call f vs) :=
 L3.walk_ofT (["lined_up","picked"]:List Str) (n:=63) (k:=9) (x:="_law_script") (CX:=λ_=>CX0) (sp:=λw=>spLaw (K w.params)) hn (by decide) hdf ⟨rfl,by decide,by decide,rfl⟩ hrec hnt hY F (λ_ _ a ns hl hS hT=>⟨a,ns,rfl,hS,hl,hT,λ_=>rfl⟩) λ_ _ _ _ _ z=>z
end K27
open PySem PySem.W PyProof.Rows
set_option maxRecDepth 100000 in
set_option maxHeartbeats 0 in
theorem PySem.Challenge.cw_hatchwaits_k27_whole_a_comer_more_holds : PySem.Challenge.rw_hatchwaits_k27_whole_a_comer_more.Holds := by
 w_on;o_law;k_head;(case hw=>w_witness2)
 k_fill
 refine K27.walk (l:=PySem.Challenge.rw_hatchwaits_k27_whole_a_comer_more) rfl rfl (by first | rfl | kernel_rfl) (by intro w;first | kernel_rfl | with_unfolding_all rfl) (λw h Y=>PySem.W.km_in_of Y) ?F
 case F =>
  intro w mg fa h KX G hmg
  refine' K27.all_mk KX G hmg ?amany_in ?lmany_in ?cmany_in ?kmany_in ?anumbered ?lnumbered ?cnumbered ?knumbered ?atold_way ?ltold_way ?ctold_way ?ktold_way ?awith_comer ?lwith_comer ?cwith_comer ?kwith_comer ?acheck_comer ?lcheck_comer ?ccheck_comer ?kcheck_comer ?alonger ?llonger ?clonger ?klonger ?agoes_later ?lgoes_later ?cgoes_later ?kgoes_later ?alater ?llater ?clater ?klater ?akeeps ?lkeeps ?ckeeps ?kkeeps ?alet_in ?llet_in ?clet_in ?klet_in ?alined_up ?llined_up ?clined_up ?klined_up ?apicked ?lpicked ?cpicked ?kpicked ?aworked ?lworked ?cworked ?kworked ?astep ?lstep ?cstep ?kstep ?arun ?lrun ?crun ?krun ?aafter_beat ?lafter_beat ?cafter_beat ?kafter_beat ?acourses ?lcourses ?ccourses ?kcourses ?adrained ?ldrained ?cdrained ?kdrained ?a_law_feed ?l_law_feed ?c_law_feed ?k_law_feed ?a_law_next ?l_law_next ?c_law_next ?k_law_next ?a_law_way ?l_law_way ?c_law_way ?k_law_way ?a_law_light_way ?l_law_light_way ?c_law_light_way ?k_law_light_way ?a_law_moments ?l_law_moments ?c_law_moments ?k_law_moments ?a_law_none_earlier ?l_law_none_earlier ?c_law_none_earlier ?k_law_none_earlier ?alaw ?llaw ?claw ?klaw ?zenumerate ?zlen ?zlist ?zrange ?zsorted ?zsum ?ztuple ?ga_KEEPING ?gl_KEEPING ?gq_KEEPING ?gi_NEW ?hs_lined_up ?hs_picked ?hnd0
  (case amany_in=>k_is)
  (case lmany_in=>k_is)
  (case cmany_in=>k_is)
  (case kmany_in=>k_is)
  (case anumbered=>k_is)
  (case lnumbered=>k_is)
  (case cnumbered=>k_is)
  (case knumbered=>k_is)
  (case atold_way=>k_is)
  (case ltold_way=>k_is)
  (case ctold_way=>k_is)
  (case ktold_way=>k_is)
  (case awith_comer=>k_is)
  (case lwith_comer=>k_is)
  (case cwith_comer=>k_is)
  (case kwith_comer=>k_is)
  (case acheck_comer=>k_is)
  (case lcheck_comer=>k_is)
  (case ccheck_comer=>k_is)
  (case kcheck_comer=>k_is)
  (case alonger=>k_is)
  (case llonger=>k_is)
  (case clonger=>k_is)
  (case klonger=>k_is)
  (case agoes_later=>k_is)
  (case lgoes_later=>k_is)
  (case cgoes_later=>k_is)
  (case kgoes_later=>k_is)
  (case alater=>k_is)
  (case llater=>k_is)
  (case clater=>k_is)
  (case klater=>k_is)
  (case akeeps=>k_is)
  (case lkeeps=>k_is)
  (case ckeeps=>k_is)
  (case kkeeps=>k_is)
  (case alet_in=>k_is)
  (case llet_in=>k_is)
  (case clet_in=>k_is)
  (case klet_in=>k_is)
  (case alined_up=>k_is)
  (case llined_up=>k_is)
  (case clined_up=>k_is)
  (case klined_up=>k_is)
  (case apicked=>k_is)
  (case lpicked=>k_is)
  (case cpicked=>k_is)
  (case kpicked=>k_is)
  (case aworked=>k_is)
  (case lworked=>k_is)
  (case cworked=>k_is)
  (case kworked=>k_is)
  (case astep=>k_is)
  (case lstep=>k_is)
  (case cstep=>k_is)
  (case kstep=>k_is)
  (case arun=>k_is)
  (case lrun=>k_is)
  (case crun=>k_is)
  (case krun=>k_is)
  (case aafter_beat=>k_is)
  (case lafter_beat=>k_is)
  (case cafter_beat=>k_is)
  (case kafter_beat=>k_is)
  (case acourses=>k_is)
  (case lcourses=>k_is)
  (case ccourses=>k_is)
  (case kcourses=>k_is)
  (case adrained=>k_is)
  (case ldrained=>k_is)
  (case cdrained=>k_is)
  (case kdrained=>k_is)
  (case a_law_feed=>k_is)
  (case l_law_feed=>k_is)
  (case c_law_feed=>k_is)
  (case k_law_feed=>k_is)
  (case a_law_next=>k_is)
  (case l_law_next=>k_is)
  (case c_law_next=>k_is)
  (case k_law_next=>k_is)
  (case a_law_way=>k_is)
  (case l_law_way=>k_is)
  (case c_law_way=>k_is)
  (case k_law_way=>k_is)
  (case a_law_light_way=>k_is)
  (case l_law_light_way=>k_is)
  (case c_law_light_way=>k_is)
  (case k_law_light_way=>k_is)
  (case a_law_moments=>k_is)
  (case l_law_moments=>k_is)
  (case c_law_moments=>k_is)
  (case k_law_moments=>k_is)
  (case a_law_none_earlier=>k_is)
  (case l_law_none_earlier=>k_is)
  (case c_law_none_earlier=>k_is)
  (case k_law_none_earlier=>k_is)
  (case alaw=>k_is)
  (case llaw=>k_is)
  (case claw=>k_is)
  (case klaw=>k_is)
  (case zenumerate=>k_is)
  (case zlen=>k_is)
  (case zlist=>k_is)
  (case zrange=>k_is)
  (case zsorted=>k_is)
  (case zsum=>k_is)
  (case ztuple=>k_is)
  (case ga_KEEPING=>k_is)
  (case gl_KEEPING=>k_is)
  (case gq_KEEPING=>first | rfl | k_is | with_unfolding_all rfl)
  (case gi_NEW=>k_is)
  (case hs_lined_up=>first | kernel_rfl | with_unfolding_all rfl)
  (case hs_picked=>first | kernel_rfl | with_unfolding_all rfl)
  (case hnd0=>first | kernel_rfl | with_unfolding_all rfl)
