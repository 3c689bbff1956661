import PyProof.Rows.All
import Wide.All
import OpenK.AllK
import Wide.FinOn
import Lean
import PyProof.EqAt
import PyProof.EqKinds
import PyProof.TupleCall
import PyProof.Rows.EqDataRows
import PyProof.Rows.InDataRows
import PyProof.StrLawsRepr
import PyProof.AutoListH
import PySem.Challenge.RW_hatchwaits_k21_ways_drained
namespace PySem.W.Fast
def tw6923994966450642577:=0
def tw17247744710652933881:=0
def tw15202928123773857809:=0
def tw4290740373927574583:=0
def tw6823960204602590596:=0
def tw11809848823151250309:=0
def tw18293531316415936157:=0
def tw15101920891419644082:=0
def tw16115648431189641871:=0
def tw2659568814072238863:=0
def tw17318357298709393529:=0
def tw11069934533815354885:=0
def tw8357444530800180465:=0
def tw14830423899789845289:=0
def tw13642365189745579999:=0
def tw715988268954268137:=0
def tw3500498639756520691:=0
def tw6525498029636823952:=0
def tw8842118313867045413:=0
def tw16051657945218754317:=0
def tw15580642166918119339:=0
def tw9251359111186707317:=0
def tw5554428945651938863:=0
def tw5395570326737088486:=0
def tw7433443114767204535:=0
def tw4974477366761254234:=0
def tw6496964284276713754:=0
def tw1442435802219119664:=0
def tw12575110948009948275:=0
def tw11191479814177133815:=0
def tw8181099755660101674:=0
def tw729726569976482235:=0
def tw10816189398626104688:=0
def tw17806025766279122198:=0
def tw18049178466447040033:=0
def tw8689498079725967740:=0
def tw409230489209361512:=0
def tw12294004148618192704:=0
def tw16263832897287654724:=0
def tw10031386289006262752:=0
def tw4550271260150440052:=0
def tw12902981823117254092:=0
def tw2094398877538839396:=0
def tw17425235714216032788:=0
def tw2150949027929787675:=0
def tw15083014483047815978:=0
def tw9654103034081408730:=0
def tw16448997868488442439:=0
def tw13710292356280049756:=0
def tw16944337101099672457:=0
def tw5133508911836992121:=0
def tw14247909443714649258:=0
def tw13189413936110982746:=0
def tw4412817131652272040:=0
def tw15223631329829983700:=0
def tw5833716204543933967:=0
def tw9106245111767847498:=0
def tw3459726214533913869:=0
def tw14432407432422598468:=0
def tw3270612929336053840:=0
def tw10508716288406640335:=0
def tw17563287083166665036:=0
def tw16797675936283601380:=0
def tw13301871955605926223:=0
def tw10203240437693713019:=0
def tw16620736149976668574:=0
def tw15135305171410815466:=0
def tw11753796348554880050:=0
def tw12266912445652355145:=0
def tw3804184123892542570:=0
def tw979337850082844532:=0
def tw11262334948266077764:=0
def tw6381658279515515309:=0
def tw17257196440110878370:=0
def tw16325224029977343643:=0
def tw16062363365756810947:=0
def tw12875886713092050985:=0
def tw14539459653846083852:=0
def tw13605763195102722435:=0
def tw17767786761552969562:=0
def tw9986330493693027413:=0
def tw10601305197357513026:=0
def tw1883920744373541448:=0
def tw3932797449724141167:=0
def tw16634004588094980527:=0
def tw15116100085965603920:=0
def tw10931793080278387649:=0
def tw13775598732957041415:=0
def tw9829661559792784435:=0
def tw11429219252886433273:=0
def tw12986371121151590611:=0
def tw10626573454924565612:=0
def tw405170507520418973:=0
def tw4274588823359497303:=0
def tw7681054108210306455:=0
def tw5223186188266322534:=0
def tw4179789221221258972:=0
def tw5003967152493792038:=0
def tw1065642180299396833:=0
def tw17275255309062410872:=0
def tw5088036628024093919:=0
def tw9555096929825583356:=0
def tw3206131325940994365:=0
def tw13295127135869178223:=0
def tw1257612290290372266:=0
def tw14672417359699319590:=0
def tw16226459896376140398:=0
def tw6147249609975426943:=0
def tw14224717896995926692:=0
def tw1224158844185919403:=0
def tw11306467593304058535:=0
def tw15260277336081723967:=0
def tw8014083813155265143:=0
def tw4634570916330757735:=0
def tw17697589689720990994:=0
def tw8591828120153661147:=0
def tw8848239604404801109:=0
def tw752236974377034679:=0
def tw13009486382778609677:=0
def tw7823251326742781825:=0
def tw4995733741631288334:=0
def tw306881057118306196:=0
def tw4883776153657224476:=0
def tw5841203763546788148:=0
def tw3557639009608351926:=0
def tw45675906523010063:=0
def tw8206567169190310970:=0
def tw3837001371156611742:=0
def tw18399817069430107073:=0
def tw9023443074645324076:=0
def tw10596750593138189850:=0
def tw346165155038302053:=0
def tw13899832913548183471:=0
def tw17263302217979379286:=0
def tw16442242331980168902:=0
def tw18007244398811062756:=0
def tw14160422247724706173:=0
def tw14604480380751238673:=0
def tw10550838913628538934:=0
def tw17947682518767126753:=0
def tw16043621303617891998:=0
def tw16942779173177505105:=0
def tw18426680414831414580:=0
def tw5982710529378132183:=0
def tw9084404644780643255:=0
def tw8567792579997677723:=0
def tw4644492653457925184:=0
def tw11841376549484534571:=0
def tw7462770171284784781:=0
def tw4411591344725690379:=0
def tw15421248436007945884:=0
def tw16884624037326052556:=0
def tw12702533304507493510:=0
def tw13435798087979753532:=0
def tw18117438230327451929:=0
def tw9250300837467695515:=0
def tw11742158251647221894:=0
def tw152034305545917048:=0
def tw11558330357534488467:=0
def tw9553124674756452929:=0
def tw2182843934823022334:=0
def tw7642260657658339132:=0
def tw9172231548379835417:=0
def tw12803230212830977298:=0
def tw14324840069360288866:=0
def tw6641495062046926212:=0
def tw14250482768143922372:=0
def tw4384815361730238952:=0
def tw11240737944194824774:=0
def tw7141963039485203589:=0
def tw12576916624917596928:=0
def tw16988402485097291947:=0
def tw11085643089902771965:=0
def tw16235110084947033231:=0
def tw1015820374469657629:=0
def tw15811287720613430721:=0
def tw3925905428693723321:=0
def tw10851395756889022718:=0
def tw6877681715293382512:=0
def tw9667234054565935437:=0
def tw15482044486397914628:=0
def tw2143254854778773356:=0
def tw9700161921810025932:=0
def tw13632477248017554500:=0
def tw9762729841386351900:=0
def tw5157175926197351202:=0
def tw3234116080538937605:=0
def tw8125899269154605275:=0
def tw16882242568260802404:=0
def tw14437387495676998973:=0
def tw2206961275585967852:=0
def tw3184456311933705491:=0
def tw904990502096427850:=0
def tw941559325456437903:=0
def tw16068015859716092070:=0
def tw5922542762604783651:=0
def tw16222273739547774736:=0
def tw2800358300230884550:=0
def tw7790719782882290187:=0
def tw17682465082801649133:=0
end PySem.W.Fast
abbrev Qf:=PySem.W.Frag
open PySem renaming PyData->My,Value->PR,Addr->PU,Shared->PV,Program->PX,World->PY,Around->PZ,Scope->Qa,FuncData->Qb,Stmt->Qc,Expr->Qd,Heap->Qe,sizeLine->Qg,starEach->Qh,Obj->Qi,Env->Qj,backTo->Qk,Keyword->Ql,wpAny->Qm,mainGlobals->Qn,swapsWith->Qo,attributeBase->Qp,bootBuiltins->Qq,foldedSetIterable->Qr,assignEach->Qt,cLine->Qu,NameKind->Qw,backToKw->Qx,keywordEach->Qy
open PyProof.Rows renaming Keyed->Qv
set_option compiler.extract_closed false
noncomputable section
local macro_rules | `(tactic| omega)=>`(tactic| lia)
def Ld:=@PySem.wpAny_bind
def Le:=@List.mem_cons_of_mem
def Lf:=@List.length_map
def Lg:=@if_pos
def Lh:=@List.mem_cons
def Li:=@List.mem_append
def Lj:=@List.getElem?_eq_some_iff
def Lk:=@if_neg
def Ll:=@PySem.Heap.get?_push_of_some
def Lm:=@List.getElem?_set_ne
def Ln:=@Nat.le_refl
def Lo:=@PySem.wpAny_pure
def Lp:=@List.getElem?_set_self
def Lq:=@List.mem_cons_self
def Lr:=@Option.some.inj
def Ls:=@List.size_toArray
def Lu:=@List.map_cons
def Lv:=@List.getElem?_map
def Lw:=@PySem.Heap.lt_size
def Ly:=@List.length_cons
def Lz:=@List.getElem?_eq_getElem
def LA:=@List.mem_append_right
def LC:=@Option.bind_some
def LD:=@List.map_append
def LF:=@Bool.false_ne_true
def LG:=@List.getD_eq_getElem?_getD
def LH:=@Nat.ne_of_lt
def LI:=@PySem.Heap.get?_push_size
def LJ:=@Nat.lt_of_lt_of_le
def LK:=@Option.map_eq_some_iff
def LL:=@List.getElem?_append_right
def LN:=@List.mem_map
def LO:=@List.pairwise_cons
def LQ:=@List.map_map
def LR:=@List.mem_range
def LS:=@Nat.le_trans
def LU:=@List.getElem?_append_left
def LV:=@PySem.sizeLine_eq
def LX:=@PySem.wpAny_mono
def LY:=@List.length_range
def LZ:=@Ne.symm
def Ma:=@List.mem_filter
def Mb:=@Nat.zero_le
def Mc:=@of_decide_eq_true
def Md:=@List.mem_of_getElem?
def Me:=@List.map_congr_left
def Mf:=@PyProof.Rows.slot_tuple_getitem
def Mg:=@List.getElem?_replicate
def Mh:=@List.append_nil
def Mi:=@List.replicate_succ
def Mj:=@List.take_of_length_le
def Ml:=@Nat.zero_add
def Mm:=@PyProof.Rows.wpS_bind
def Mn:=@List.not_mem_nil
def Mo:=@PySem.wpAny_newObj_type
def Mp:=@List.length_append
def Mq:=@Bool.false_eq_true
def Mr:=@List.getElem?_eq_none
def Ms:=@List.length_take
def Mt:=@List.map_nil
def Mu:=@List.nil_append
def Mv:=@List.mem_singleton
def Mw:=@List.filter_append
def Mx:=@Array.getElem?_toList
def Mz:=@decide_eq_false
def MA:=@List.nodup_cons
def MB:=@List.length_set
def MC:=@List.lookup_cons
def MD:=@List.cons_append
def ME:=@PySem.SeqAt.canLay_of_shaped
def MF:=@congrArg
def MG:=@of_decide_eq_false
def MH:=@List.length_nil
def MI:=@Nat.le_of_lt
def MJ:=@PySem.mem_of_lookup
def MK:=@Nat.lt_irrefl
def ML:=@if_true
def MM:=@List.range_succ
def MN:=@PySem.W.mg_none_of
def MO:=@if_false
def MP:=@PyProof.Rows.wpS_pure
def MQ:=@List.pairwise_iff_getElem
def MR:=@Int.toNat_natCast
def MS:=@decide_eq_true_eq
def MT:=@List.sum_cons
def MU:=@List.length_eq_zero_iff
def MV:=@Nat.lt_succ_self
def MW:=@PySem.wpAny_holding
def MX:=@decide_eq_true
def MY:=@List.flatten_cons
def MZ:=@List.nodup_append
def Na:=@Array.length_toList
def Nb:=@List.mem_map_of_mem
def Nc:=@List.filter_sublist
def Nd:=@List.drop_eq_getElem_cons
def Nf:=@Classical.choose_spec
def Ng:=@List.length_filter_le
def Nh:=@PySem.F.slot_list_append
def Ni:=@PySem.F.type_list_append
def Nj:=@decide_eq_decide
def Nk:=@List.eq_of_mem_replicate
def Nl:=@PySem.F.plainAttrs_list
def Nm:=@List.filter_cons_of_pos
def Nn:=@Nat.lt_succ_of_lt
def Np:=@PyProof.Rows.callWith_type1
def Nq:=@PySem.Heap.SameBut.update
def Nr:=@PySem.F.slot_tuple_iterator_next
def Nt:=@or_false
def Nu:=@List.length_replicate
def Nv:=@List.mapM_cons
def Nw:=@List.getElem?_zip_eq_some
def Nx:=@List.mem_of_mem_take
def Ny:=@PySem.wpAny_truthy_bool
def Nz:=@List.pairwise_map
def NA:=@PySem.wpAny_standAt
def NB:=@PySem.wpAny_callSpecial?_slot
def NC:=@List.filter_cons_of_neg
def ND:=@List.getElem?_range
def NF:=@PySem.wpAny_call_entry
def NG:=@Bool.and_eq_true
def NH:=@PySem.wpAny_field
def NI:=@PyProof.Rows.assignInOrder_cons
def NJ:=@PySem.wpAny_pyIter_tuple
def NK:=@PySem.wpAny_passesOwn
def NL:=@List.filter_nil
def NM:=@List.mem_iff_getElem?
def NO:=@List.nodup_iff_pairwise_ne
def NP:=@PySem.Heap.get?_push_ne
def NQ:=@List.foldl_append
def NR:=@PySem.wpAny_rule
def NS:=@Nat.le_succ
def NT:=@List.drop_length
def NU:=@List.filterMap_cons
def NV:=@List.getElem?_cons_succ
def NW:=@PyProof.Rows.listUpdate_at
def NX:=@Bool.eq_iff_iff
def NY:=@List.find?_cons
def NZ:=@Nat.lt_of_le_of_lt
def Oa:=@decide_true
def Ob:=@PySem.PyData.shownAll_length
def Oc:=@List.ext_getElem?
def Od:=@List.sizeOf_lt_of_mem
def Oe:=@PySem.call_meets
def Of:=@PySem.Heap.size_update
def Og:=@PySem.F.slot_tuple_mul
def Oh:=@List.take_length
def Oi:=@Int.le_refl
def Oj:=@beq_eq_false_iff_ne
def Ol:=@List.take_succ_cons
def Om:=@PyProof.Rows.get?_update_seq
def On:=@PySem.PassesOwn.never
def Oo:=@Nat.not_lt_zero
def Oq:=@List.sum_append
def Os:=@PyProof.Rows.IsTup.new
def Ot:=@List.mem_filterMap
def Ou:=@Option.isSome_iff_exists
def Ov:=@PySem.F.args_tuple_add_2
def Ow:=@Option.isSome_some
def Ox:=@PySem.wpAny_comprehension_free
def Oy:=@Int.lt_or_eq_of_le
def Oz:=@PyProof.Rows.wpS_forRange
def OA:=@PySem.F.slot_str_getitem
def OB:=@PySem.AutoSeq1.sub_tuple_tuple
def OC:=@List.getElem?_take
def OD:=@List.idxOf_lt_length_iff
def OE:=@PySem.wpAny_bindName
def OF:=@PySem.Heap.size_push
def OG:=@Bool.and_false
def OH:=@PySem.boot_len
def OI:=@PySem.F.entry_tuple_add
def OJ:=@PySem.AutoSeq1.sub_tuple_list
def OK:=@PySem.AutoSeq1.sub_list_tuple
def OL:=@List.reverse_cons
def OM:=@List.take_add_one
def OO:=@PySem.F.args_tuple_iterator_next_1
def OP:=@List.filter_congr
def OQ:=@PySem.F.slot_tuple_add
def OR:=@PySem.AutoSeq1.sub_list_list
def OS:=@PySem.F.entry_tuple_iterator_next
def OT:=@PySem.F.slot_list_iadd
def OU:=@PySem.W.mg_of
def OV:=@List.all_eq_true
def OW:=@Nat.min_eq_right
def OX:=@List.mem_append_left
def OY:=@PySem.wpAny_execs_nil
def OZ:=@PySem.wpAny_typeOf
def Pa:=@PySem.typeIs_str
def Pb:=@PySem.F.slot_int_rmul
def Pc:=@decide_false
def Pd:=@PyProof.Rows.pairsOf_size
def Pe:=@PySem.wpAny_ite_false
def Pf:=@Nat.min_eq_left
def Pg:=@List.length_reverse
def Ph:=@List.length_pos_iff
def Pi:=@Bool.false_and
def Pj:=@Array.size_map
def Pk:=@PySem.wpAny_Call_Name_kw
def Pl:=@PySem.Heap.IsSliceOf.new
def Pm:=@List.getElem_range
def Po:=@PySem.F.args_tuple_mul_2
def Pp:=@List.map_replicate
def Pq:=@List.getElem_idxOf
def Pr:=@PySem.Paired.length
def Pt:=@List.set_comm
def Pu:=@List.any_cons
def Pw:=@Bool.not_true
def Px:=@PySem.wpAny_newList
def Py:=@PySem.StrLaws.reprText_len
def Pz:=@Bool.true_and
def PB:=@List.append_assoc
def PF:=@bne_self_eq_false
def PH:=@List.getElem?_set
def PJ:=@Nat.ne_of_gt
def PL:=@Option.getD_none
def PN:=@List.filter_cons
def PP:=@List.of_mem_zip
def PQ:=@Option.map_some
def bS9 {α:Type _}{β:Type _}{x:Option α}{f:α->Option β}{b:β}(h:x.bind f=some b):∃a,x=some a/\f a=some b:=Option.bind_eq_some_iff.1 h
set_option Elab.async false
set_option linter.all false
set_option maxRecDepth 100000
set_option hygiene false
local macro_rules | `(tactic| walk_at "v")=>`(tactic| first | exact Or.inl rfl | exact Or.inr rfl | exact Or.inr (Or.inl rfl) | exact Or.inr (Or.inr rfl) | assumption)
local macro_rules | `(tactic| walk_at "kv")=>`(tactic| (obtain⟨u,rfl,ru⟩:=Q9 r;cases ru))
local macro_rules | `(tactic| walk_at "ku")=>`(tactic| (split at hf <;> try cases hf))
local macro_rules | `(tactic| walk_at "kt")=>`(tactic| (intro Qz s O H x y v u Q I rx ry h))
local macro_rules | `(tactic| walk_at "ks")=>`(tactic| (intro Qz s O H xs us Q I r h))
local macro_rules | `(tactic| walk_at "kr")=>`(tactic| (refine(Sml.tup (c:=1) (k:=0) λd hd=>?_).mono (by simp) (by decide);simp only[Lh,Mn,Nt]at hd))
local macro_rules | `(tactic| walk_at "kq")=>`(tactic| (obtain⟨os,hos,hcs,hds⟩:=id hs;have hTs:s.TypeIs (.ref sl) "slice":=⟨os,hos,hcs⟩;unfold getItem))
local macro_rules | `(tactic| walk_at "kp")=>`(tactic| (refine ha.ok d B0 A0 H0 B A E μ O H _ x μ1 S e1 λv H1 B1 A1 S1 s1 h1=>?_))
local macro_rules | `(tactic| walk_at "ko")=>`(tactic| (intro X hP hw hK hc i Qz s O H E I hf st hg;subst hP hw hK))
local macro_rules | `(tactic| walk_at "kn")=>`(tactic| (show Qm _ _ (Builtin.Tuple.tupleItemsOf (.ref t) >>= _) _ _ s;refine Ld (tupleItemsOf_ ht ?_);refine Ld (OZ hTs ?_);rw[Lg (by decide)]))
local macro_rules | `(tactic| walk_at "km")=>`(tactic| (obtain⟨⟨x,F1⟩,e1,e⟩:=bS9 e;obtain⟨⟨ys,F2⟩,e2,e⟩:=bS9 e;cases e;refine ha.ok G B E F O H _ x F1 I e1 λv H1 k1 f1 h1=>?_))
local macro_rules | `(tactic| walk_at "kl")=>`(tactic| (intro Qz s O H xs us Q I r h;obtain⟨fp,B,ds,z,bk,h1,hf,q⟩:=h))
local macro_rules | `(tactic| walk_at "kk")=>`(tactic| (obtain⟨⟨y,F1⟩,e1,e⟩:=bS9 e;obtain⟨z,e2,e⟩:=bS9 e;cases e;refine h.ok G B E F O H _ y F1 I e1 λv H1 k1 f1 h1=>?_))
local macro_rules | `(tactic| walk_at "kj")=>`(tactic| (show Qm _ _ (field (.ref it) 0 >>= _) _ _ s;refine Ld (NH ho hd (x:=.ref l) rfl ?_);show Qm _ _ (if (PR.ref l == PR.none)=true then _ else _) _ _ s;rw[Lk (show ¬((PR.ref l == PR.none)=true) from LF)];show Qm _ _ (field (.ref it) 1 >>= _) _ _ s;refine Ld (NH ho hd (x:=.int i 0) rfl ?_);show Qm _ _ (seqItems? (.ref l) >>= _) _ _ s;refine Ld (wpAny_seqItems hol hdl ?_)))
local macro_rules | `(tactic| walk_at "ki")=>`(tactic| (
 obtain⟨E1,e1,h1⟩:=st 0 d rfl E F h;rw[O3,e1,LC,d5];refine i8 h1 λo F1 ⟨E2,e2,h2⟩=>?_
 subst e2;refine G7 I r (n+1) E2 F1 h2 (λi d e E F hI=>?_) (λE F hI=>hq E F (by rw[Ly];rw[show n+(r.length+1)=n+1+r.length by omega];exact hI));have:=st (i+1) d (by simpa using e) E F (by rw[show n+(i+1)=n+1+i by omega];exact hI);rw[show n+(i+1)+1=n+1+i+1 by omega]at this;exact this))
local macro_rules | `(tactic| walk_at "kh")=>`(tactic| (
 induction ds with
 | nil=>intro _;exact⟨by simp[My.showableAll],by simp[My.hasDictAll],by simp[My.canLayAll0],by simp[My.shownAll,Z1]⟩
 | cons d ds ih =>
  intro h;obtain⟨a,b,c,e⟩:=ih λx hx=>h x (Le _ hx)
  have hd:=h d Lq;refine⟨by simp[My.showableAll,hd.sh,a],by simp[My.hasDictAll,hd.nd,b],by simp[My.canLayAll0,hd.cl,c],?_⟩;simp only[My.shownAll,Lu,MT,Ly,Z1];have:=hd.ln;omega))
local macro_rules | `(tactic| walk_at "kg")=>`(tactic| (refine cQ.2 ?_;dsimp only[K4,Lu,Mt,Ly,MH,List.replicate,MD,Mu,Nat.reduceAdd,Nat.reduceSub]))
local macro_rules | `(tactic| walk_at "kf")=>`(tactic| (
 first | refine Ld (Lo ?_) | skip
 refine Ld (wpAny_sequenceKey ht.typeIs (by decide) ?_);refine Ld (NB (name:=Str.ofString "__getitem__") ht.typeIs Mf
  (NF Mf ht.typeIs entry_tuple_getitem ?_ (args_tuple_getitem _ _)))))
local macro_rules | `(tactic| walk_at "ke")=>`(tactic| (
 have key:∀(l:List My) (k:Nat),T7 k l=(List.range l.length).map λi=>.tuple [.int ((k+i:Nat):Int),l.getD i .none]:=by
  intro l;induction l with
  | nil=>intro k;rfl
  | cons d l ih =>
   intro k;rw[T7,ih,Ly,List.range_succ_eq_map,Lu,LQ];have e1:(My.tuple [.int (k:Int),d]) = .tuple [.int ((k+0:Nat):Int),(d::l).getD 0 .none]:=by simp
   rw[<-e1];refine MF (List.cons _) (Me λi _=>?_);simp only[Function.comp,Nat.succ_eq_add_one,List.getD_cons_succ];rw[show k+1+i=k+(i+1) by omega]
 rw[key,Lf];refine Me λi hi=>?_))
local macro_rules | `(tactic| walk_at "kd")=>`(tactic| (intro Qz s O H x y v u Q I rx ry h;obtain⟨fp,B,d,e,r,bk,h1,h2,hf,q⟩:=h))
local macro_rules | `(tactic| walk_at "kc")=>`(tactic| (
 all_goals
  have hq:=tl λhb=>by first | exact hb2 (MX (by rw[Lf];exact hb.2)) | exact hb1 (MX hb.1)
  refine⟨_,rfl,_,_,rfl,rfl,(by show(0:Int)<1000003;decide),_,rfl,_,_,rfl,rfl,.inl ⟨by decide,by decide⟩,_,rfl,_,_,rfl,rfl,.inr ⟨by omega,by omega⟩,_,_,rfl,rfl,_,rfl,_,_,rfl,rfl,.inl ⟨by decide,by decide⟩,_,_,rfl,rfl,_,_,rfl,rfl,_,_,rfl,rfl,.inr ⟨by decide,by decide⟩,_,_,rfl,rfl,(by show(0:Int)<999983;decide),?_⟩
  refine⟨_,rfl,_,rfl,_,_,rfl,rfl,.inl ⟨by omega,by omega⟩,_,rfl,_,_,rfl,rfl,.inl ⟨by decide,by decide⟩,_,_,rfl,rfl,_,_,rfl,rfl,_,_,rfl,rfl,(by show(0:Int)<2097143;decide),?_⟩
  exact⟨_,_,rfl,rfl,.inr ⟨by decide,by decide⟩,_,_,rfl,rfl,(by show(0:Int)<2147483629;decide),_,_,rfl,rfl,⟨by decide,by decide⟩,_,rfl,_,_,rfl,rfl,hm,hq⟩))
local macro_rules | `(tactic| walk_at "kb")=>`(tactic| (
 intro Qz s O H Q I h;have hcell:∀y∈scope.names,y.2 = .free->∃c,X.env.cells.lookup y.1=some c:=λy hy hk=>I.ok.has y.1 (by show X.env.scope.names.lookup y.1=_\/X.env.scope.names.lookup y.1=_;rw[hosc];exact hcap.free y hy hk)
 walk_at "ka"
 generalize K9 f scope.names []=cl at hclos hcl hhas;rw[eval_ListComp];refine Ox (use:=none) (cl:=cl) rfl hs hclos hcap.kind hcap.loc ?_;refine thn (hi Qz s O H _ I h) λv s1 h1=>thn h1 λitv s2 h2=>?_
 obtain⟨it,fp,tn,J,H2,e,I2,T,st2,f2,q2⟩:=h2;subst e;obtain⟨W,⟨m0,w0⟩,turn⟩:=q2 s2.heap.objs.size (I2.hok.fresh (Ln _));refine Mo ?_;have I3:Inv X Qz O (upd H2 s2.heap.objs.size (.lst [])) { s2 with heap:=s2.heap.push { cls:=.type "list",data:=.seq ([]:List PR).toArray } }:=I2.lnew (ys:=[]) (its:=[]) (t':=s2.toks) .nil (Mb _);have lt2:∀b∈fp,b≠s2.heap.objs.size:=λb hb=>by obtain⟨o,e,_⟩:=T.obj _ _ st2 b hb;exact LH (Lw e)))
local macro_rules | `(tactic| walk_at "ka")=>`(tactic| (
 let f:Str->PU:=λx=>(X.env.cells.lookup x).getD 0
 have hf:∀y∈scope.names,y.2 = .free->X.env.cells.lookup y.1=some (f y.1):=λy hy hk=>by obtain⟨c,e⟩:=hcell y hy hk;show _=some ((X.env.cells.lookup y.1).getD 0);rw[e];rfl
 have hclos:closureFor scope X.env=pure (K9 f scope.names []):=N1 λy hy hk=>by unfold cellOf;rw[hf y hy hk]
 have hcl:∀{x:Str} {c:PU},(K9 f scope.names []).lookup x=some c->X.env.cells.lookup x=some c:=λ{x c} e=>by
  rcases Q5 _ _ e with ⟨h1,h2⟩ | h1
  .rw[h2];exact hf (x,.free) h1 rfl
  .simp at h1
 have hhas:∀x,(x,Qw.free)∈scope.names->∃c,(K9 f scope.names []).lookup x=some c:=λx hx=>⟨_,aa _ _ (.inl hx)⟩))
set_option hygiene true
namespace L2
open PySem PySem.Spec PyProof.Rows
section
abbrev Key :=Sum Int Str
def kL:Key->PR->Bool
 | .inl k,v=>PR.isInt k v
 | .inr x,v=>PR.isStrOf x v
def FJ (w:PY):Key->Int
 | .inl k=>hashInt k
 | .inr x=>hashStr w x
theorem E9:∀{k:Key} {v:PR},kL k v=true->(∃i t,k=Sum.inl i/\v=PR.int i t)\/(∃x t,k=Sum.inr x/\v=PR.str x t)
 | .inl i,v,h=>by
  obtain⟨t,e⟩:=PR.isInt_shape (k:=i) (v:=v) h;exact .inl ⟨i,t,rfl,e⟩
 | .inr x,v,h=>by obtain⟨t,e⟩:=PR.isStrOf_shape (x:=x) (v:=v) h;exact .inr ⟨x,t,rfl,e⟩
def uz (i:Int)(t:Tok):kL (.inl i) (.int i t)=true:=by simp[kL,PR.isInt]
def uF (x:Str)(t:Tok):kL (.inr x) (.str x t)=true:=by simp[kL,PR.isStrOf]
def BG (a b:Int):decide ((Sum.inl a:Key)=Sum.inl b)=(a == b):=by
 by_cases e:a=b
 .subst e;simp
 .have h:¬(Sum.inl a:Key)=Sum.inl b:=λq=>e (Sum.inl.inj q)
  rw[Mz h];exact(Oj.2 e).symm
def Cr (a b:Str):decide ((Sum.inr a:Key)=Sum.inr b)=decide (a=b):=by
 by_cases e:a=b
 .subst e;simp
 .have h:¬(Sum.inr a:Key)=Sum.inr b:=λq=>e (Sum.inr.inj q)
  rw[Mz h,Mz e]
def BD (a:Int)(b:Str):decide ((Sum.inl a:Key)=Sum.inr b)=false:=Mz (λq=>nomatch q)
def BO (a:Str)(b:Int):decide ((Sum.inr a:Key)=Sum.inl b)=false:=Mz (λq=>nomatch q)
def J0 (prog:PX)(w:PY):PySem.KeyKind prog w Key where
 is:=kL
 hash:=FJ w
 inj:=λv a b ha hb=>by
  rcases E9 ha with ⟨i,t,rfl,rfl⟩ | ⟨x,t,rfl,rfl⟩
  .rcases E9 hb with ⟨j,u,rfl,e⟩ | ⟨y,u,rfl,e⟩
   .injection e with e1 _;rw[e1]
   .exact nomatch e
  .rcases E9 hb with ⟨j,u,rfl,e⟩ | ⟨y,u,rfl,e⟩
   .exact nomatch e
   .injection e with e1 _;rw[e1]
 byValue:=λk v h=>by rcases E9 h with ⟨i,t,rfl,rfl⟩ | ⟨x,t,rfl,rfl⟩ <;> rfl
 pyHash:=λhv h=>by
  rcases E9 hv with ⟨i,t,rfl,rfl⟩ | ⟨x,t,rfl,rfl⟩
  .exact wpAny_pyHash_int h
  .exact wpAny_pyHash_str h
 eqBool:=λhu hv h=>by
  rcases E9 hu with ⟨i,t,rfl,rfl⟩ | ⟨x,t,rfl,rfl⟩
  .rcases E9 hv with ⟨j,u,rfl,rfl⟩ | ⟨y,u,rfl,rfl⟩
   .rw[BG]at h;exact wpAny_eqBool_int h
   .rw[BD]at h;exact SeqAt.EqAt.int_str i t y u _ _ _ _ h
  .rcases E9 hv with ⟨j,u,rfl,rfl⟩ | ⟨y,u,rfl,rfl⟩
   .rw[BO]at h;exact SeqAt.EqAt.str_int x t j u _ _ _ _ h
   .rw[Cr]at h;exact wpAny_eqBool_str h
 «strs»:=λk x t v h=>by
  rcases E9 h with ⟨i,u,rfl,e⟩ | ⟨y,u,rfl,e⟩
  .exact nomatch e
  .injection e with e1 _
   subst e1;cases v <;> rfl
def mQ (prog:PX)(w:PY)(i:Int)(t:Tok):(J0 prog w).is (.inl i) (.int i t)=true:=uz i t
def ox (prog:PX)(w:PY)(x:Str)(t:Tok):(J0 prog w).is (.inr x) (.str x t)=true:=uF x t
end
variable {h':Qe}
section
inductive V where
 | non | bl (b:Bool) | int (i:Int) | str (x:Str) | byt (b:Array UInt8) | flt (b:UInt64) | ref (a:PU) | ty (n:String)
 deriving DecidableEq
def x3:V->PR->Prop
 | .non,u=>u=PR.none
 | .bl b,u=>u=PR.bool b
 | .int i,u=>∃t,u=PR.int i t
 | .str x,u=>∃t,u=PR.str x t
 | .byt b,u=>∃t,u=PR.bytes b t
 | .flt b,u=>∃t,u=PR.float b t
 | .ref a,u=>u=PR.ref a
 | .ty n,u=>u=PR.type n
abbrev r6 :List V->List PR->Prop:=Paired x3
def r6.length {xs:List V}{us:List PR}(r:r6 xs us):xs.length=us.length:=Pr r
theorem r6.get:∀{xs:List V} {us:List PR} {i:Nat} {x:V},r6 xs us->xs[i]? = some x->∃u,us[i]? = some u/\x3 x u
 | _,_,_,_,.nil,e=>by simp at e
 | _,_,0,_,.cons r _,e=>by simp at e;subst e;exact⟨_,rfl,r⟩
 | _,_,i+1,x,.cons _ t,e=>by obtain⟨u,h1,h2⟩:=r6.get (i:=i) (x:=x) t (by simpa using e);exact⟨u,by simpa using h1,h2⟩
theorem r6.set {x:V}{u:PR}(r:x3 x u):∀{xs:List V} {us:List PR} (i:Nat),r6 xs us->r6 (xs.set i x) (us.set i u)
 | _,_,_,.nil=>.nil
 | _,_,0,.cons _ t=>.cons r t
 | _,_,i+1,.cons q t=>.cons q (r6.set r i t)
theorem r6.append:∀{xs ys:List V} {us ws:List PR},r6 xs us->r6 ys ws->r6 (xs++ys) (us++ws)
 | _,_,_,_,.nil,s=>s
 | _,_,_,_,.cons r t,s=>.cons r (r6.append t s)
theorem r6.take:∀{xs:List V} {us:List PR} (n:Nat),r6 xs us->r6 (xs.take n) (us.take n)
 | _,_,0,_=>.nil
 | _,_,_+1,.nil=>.nil
 | _,_,n+1,.cons r t=>.cons r (r6.take n t)
theorem r6.drop:∀{xs:List V} {us:List PR} (n:Nat),r6 xs us->r6 (xs.drop n) (us.drop n)
 | _,_,0,r=>r
 | _,_,_+1,.nil=>.nil
 | _,_,n+1,.cons _ t=>r6.drop n t
def r6.none_of :∀{xs:List V} {us:List PR} {i:Nat},r6 xs us->xs[i]? = none->us[i]? = none:=λ{xs us i} r e=>by have h1:=r.length;have h2:xs.length<=i:=List.getElem?_eq_none_iff.1 e;exact List.getElem?_eq_none_iff.2 (by omega)
def jN:Option V->Option PR->Prop
 | some v,some u=>x3 v u
 | none,none=>True
 | _,_=>False
def KV {κ:Type}:List (κ×V)->List (κ×PR)->Prop:=Paired λ(p:κ×V) (q:κ×PR)=>p.1=q.1/\x3 p.2 q.2
def kV:Key->V
 | .inl i=>.int i
 | .inr x=>.str x
inductive HO where
  | lst (xs:List V)
  | tup (xs:List V)
  | dK (QC:List (Key×V)) | dT (QC:List (List Key×V))
  | set (S:Int->Bool) (n:Nat)
  | ins (C dx:PU) (fs:List (Str×V))
  | own (x:PU)
  | xd (fs:List (Str×V))
  | met (f x:PU)
  | rng (lo hi:Int)
  | frz (o:Qi) (u:HO)
  | tbl (ps:Array PR)
  | ext (φ:Qe->Prop)
abbrev Hp :=PU->Option HO
def upd (H:Hp)(a:PU)(o:HO):Hp:=λb=>if b=a then some o else H b
def d7 {H:Hp}{a:PU}{o:HO}:upd H a o a=some o:=by unfold upd;rw[Lg rfl]
def b9 {H:Hp}{a b:PU}{o:HO}(h:b≠a):upd H a o b=H b:=by unfold upd;rw[Lk h]
def FD {H:Hp}{a b:PU}{o u:HO}(h:H a=some o)(h':H b=some u)(d:o≠u):a≠b:=by intro e;subst e;rw[h]at h';exact d (Lr h')
def i3 {H:Hp}{a b:PU}{o:HO}(h:H a=some o)(h':H b=none):a≠b:=by intro e;subst e;rw[h]at h';cases h'
section
variable (P:PX)(w:PY)
def N5 (H:Hp)(h:Qe)(a:PU):HO->Prop
 | .lst xs=>xs.length<=Qg/\∃(its:List PR) (n:Nat),r6 xs its/\h.get? a=some { cls:=.type "list",data:=.seq its.toArray n }
 | .tup xs=>xs.length<=Qg/\∃its:List PR,r6 xs its/\IsTup h a its.toArray
 | .dK QC=>QC.length<=Qg/\(a == sysModules)=false/\∃vs,KV QC vs/\h.DictOf (J0 P w) a vs
 | .dT QC=>QC.length<=Qg/\(a == sysModules)=false/\∃xs:List (List Key×PU×PR),
   Paired (λ(p:List Key×V) (q:List Key×PU×PR)=>p.1=q.1/\H q.2.1=some (.tup (p.1.map kV))/\x3 p.2 q.2.2) QC xs /\
   ∃o es ep,h.get? a=some o/\o.ExactDict/\o.data = .dict es ep/\es.toList=xs.map (entryOfKey (tupleKind (J0 P w)))/\(xs.map (·.1)).Nodup
 | .set S n=>h.SetOf (intKind P w) a S n
 | .ins C dx fs=>H dx=some (.own a)/\fs.length<=1000/\dx≠a/\h.get? a=some (PySem.W.instObj C dx) /\
   ∃mA,h.Ns1 dx mA/\(∀f,jN (fs.lookup f) (mA f))/\PySem.Within mA (fs.map (·.1))
 | .own _=>∃o,h.get? a=some o
 | .xd fs=>∃mA,h.Ns1 a mA/\∀f,jN (fs.lookup f) (mA f)
 | .rng lo hi=>∃t u v,h.get? a=some { cls:=.type "range",data:=.fields #[.int lo t,.int hi u,.int 1 v] }
 | .frz o u=>h.get? a=some o/\N5 H h a u
 | .tbl ps=>h.get? a=some { cls:=.none,data:=.fields ps }
 | .met f x=>h.get? a=some (PySem.W.methodObj (.ref f) (.ref x))
 | .ext φ=>φ h/\(∃o,h.get? a=some o)/\∀h1 h2:Qe,φ h1->(∀o,h1.get? a=some o->h2.get? a=some o)->φ h2
def HOk (H:Hp)(h:Qe):Prop:=∀a o,H a=some o->N5 P w H h a o
end
section
variable {P:PX}{w:PY}{H H':Hp}{h:Qe}{a:PU}{o:HO}
def N5.lt (x:N5 P w H h a o):a<h.objs.size:=by
 cases o with
 | lst xs=>obtain⟨_,_,_,_,e⟩:=x;exact Lw e
 | tup xs=>obtain⟨_,_,_,p⟩:=x;exact p.lt
 | dK QC=>obtain⟨_,_,_,_,o,_,_,e,_⟩:=x;exact Lw e
 | dT QC=>obtain⟨_,_,_,_,o,_,_,e,_⟩:=x;exact Lw e
 | set S n=>obtain⟨o,_,_,_,e,_⟩:=x;exact Lw e
 | ins C dx fs=>obtain⟨_,_,_,e,_⟩:=x;exact Lw e
 | own y=>obtain⟨_,e⟩:=x;exact Lw e
 | xd fs=>obtain⟨_,⟨_,_,_,e,_⟩,_⟩:=x;exact Lw e
 | rng lo hi=>obtain⟨_,_,_,e⟩:=x;exact Lw e
 | frz ob u=>obtain⟨e,_⟩:=x;exact Lw e
 | tbl ps=>exact Lw (show h.get? a=some _ from x)
 | met f y=>exact Lw (show h.get? a=some _ from x)
 | ext φ=>obtain⟨_,⟨_,e⟩,_⟩:=x;exact Lw e
theorem Paired.mapP {α β:Type}{F G:α->β->Prop}:∀{l₁:List α} {l₂:List β},Paired F l₁ l₂->(∀a b,F a b->G a b)->Paired G l₁ l₂
 | _,_,.nil,_=>.nil
 | _,_,.cons r t,f=>.cons (f _ _ r) (Paired.mapP t f)
def N5.stay (x:N5 P w H h a o)(k:∀b u,(b=a\/H b=some (.own a))->h.get? b=some u->h'.get? b=some u)
  (ho:∀b,H b=some (.own a)->H' b=some (.own a)) (ht:∀b xs,H b=some (.tup xs)->H' b=some (.tup xs)):N5 P w H' h' a o:=by
 induction o with
 | lst xs=>obtain⟨z,its,n,r,e⟩:=x;exact⟨z,its,n,r,k _ _ (.inl rfl) e⟩
 | tup xs=>obtain⟨z,its,r,ob,e,c⟩:=x;exact⟨z,its,r,ob,k _ _ (.inl rfl) e,c⟩
 | dK QC=>obtain⟨z,y,vs,r,ob,es,ep,e,c⟩:=x;exact⟨z,y,vs,r,ob,es,ep,k _ _ (.inl rfl) e,c⟩
 | dT QC =>obtain⟨z,y,xs,r,ob,es,ep,e,c⟩:=x;exact⟨z,y,xs,Paired.mapP r λp q z=>⟨z.1,ht _ _ z.2.1,z.2.2⟩,ob,es,ep,k _ _ (.inl rfl) e,c⟩
 | set S n=>obtain⟨ob,es,ep,t,e,c⟩:=x;exact⟨ob,es,ep,t,k _ _ (.inl rfl) e,c⟩
 | ins C dx fs =>obtain⟨d,z,ne,e,mA,⟨od,es,ep,e2,c⟩,r⟩:=x;exact⟨ho _ d,z,ne,k _ _ (.inl rfl) e,mA,⟨od,es,ep,k _ _ (.inr d) e2,c⟩,r⟩
 | own y=>obtain⟨ob,e⟩:=x;exact⟨ob,k _ _ (.inl rfl) e⟩
 | xd fs=>obtain⟨mA,⟨od,es,ep,e,c⟩,r⟩:=x;exact⟨mA,⟨od,es,ep,k _ _ (.inl rfl) e,c⟩,r⟩
 | rng lo hi=>obtain⟨t,u,v,e⟩:=x;exact⟨t,u,v,k _ _ (.inl rfl) e⟩
 | frz ob u ih=>obtain⟨e,q⟩:=x;exact⟨k _ _ (.inl rfl) e,ih q⟩
 | tbl ps =>have e:h.get? a=some { cls:=.none,data:=.fields ps }:=x;show h'.get? a=some { cls:=.none,data:=.fields ps };exact k a _ (.inl rfl) e
 | met f y =>have e:h.get? a=some (PySem.W.methodObj (.ref f) (.ref y)):=x;show h'.get? a=some (PySem.W.methodObj (.ref f) (.ref y));exact k a _ (.inl rfl) e
 | ext φ=>obtain⟨p,⟨o,e⟩,st⟩:=x;exact⟨st _ _ p λo q=>k _ _ (.inl rfl) q,⟨o,k _ _ (.inl rfl) e⟩,st⟩
def HOk.lt (x:HOk P w H h)(e:H a=some o):a<h.objs.size:=(x a o e).lt
def HOk.fresh (x:HOk P w H h)(e:h.objs.size<=a):H a=none:=by
 cases q:H a with
 | none=>rfl
 | some u=>exact absurd (LJ (x.lt q) e) (MK _)
def HOk.kept (x:HOk P w H h)(k:∀b u,h.get? b=some u->h'.get? b=some u):HOk P w H h':=λa o e =>
 (x a o e).stay (λb u _ q=>k b u q) (λ_ q=>q) λ_ _ q=>q
def HOk.laid (x:HOk P w H h)(k:∀b u,h.get? b=some u->h'.get? b=some u)(hp:h.objs.size<=a)(new:N5 P w (upd H a o) h' a o):HOk P w (upd H a o) h':=λb u e=>by
 have hn:=x.fresh hp;by_cases hb:b=a
 .subst hb;rw[d7]at e;cases e;exact new
 .rw[b9 hb]at e;exact(x b u e).stay (λc v _ q=>k c v q) (λc q=>by rw[b9 (i3 q hn)];exact q) λc xs q=>by rw[b9 (i3 q hn)];exact q
end
def Rd (H:Hp)(a:PU)(u:HO):Prop:=H a=some u\/∃o,H a=some (.frz o u)
def Rd.ok {P:PX}{w:PY}{H:Hp}{h:Qe}{a:PU}{u:HO}(r:Rd H a u)(x:HOk P w H h):N5 P w H h a u:=by
 rcases r with r | ⟨o,r⟩
 .exact x a u r
 .obtain⟨_,q⟩:=x a _ r;exact q
def Mut:Option HO->Prop
 | some (.lst _)=>True
 | some (.dK _)=>True
 | some (.dT _)=>True
 | some (.set _ _)=>True
 | some (.ins _ _ _)=>True
 | some (.ext _)=>True
 | _=>False
section
variable {P:PX}{w:PY}{H:Hp}{h:Qe}{x e:PU}{o':HO}
def HOk.write (ok:HOk P w H h)(mu:Mut (H x))(he:e=x\/H e=some (.own x))(k:∀b u,b≠e->h.get? b=some u->h'.get? b=some u)(heo:∃u,h'.get? e=some u)
  (new:N5 P w (upd H x o') h' x o'):HOk P w (upd H x o') h':=λb u q=>by
 have nown:∀c y,H c=some (.own y)->c≠x:=λc y r z=>by subst z;rw[r]at mu;exact mu
 have ntup:∀c xs,H c=some (.tup xs)->c≠x:=λc xs r z=>by subst z;rw[r]at mu;exact mu
 by_cases hb:b=x
 .subst hb;rw[d7]at q;cases q;exact new
 .rw[b9 hb]at q;by_cases hbe:b=e
  .have q':H b=some (.own x):=by
    rcases he with z | z
    .exact absurd (hbe.trans z) hb
    .rw[hbe];exact z
   rw[q]at q';cases q';obtain⟨v,hv⟩:=heo;exact⟨v,by rw[hbe];exact hv⟩
  .refine(ok b u q).stay (λc v hc r=>k c v ?_ r) (λc r=>by rw[b9 (nown c b r)];exact r) λc xs r=>by rw[b9 (ntup c xs r)];exact r
   rcases hc with rfl | hc
   .exact hbe
   .rintro rfl;rcases he with z | z
    .exact nown c b hc z
    .rw[hc]at z;cases z;exact hb rfl
end
structure Un (fs ex:List PU) (H H':Hp) (h h':Qe):Prop where
 keep:∀b o,h.get? b=some o->H b=none->b ∉ fs->b ∉ ex->h'.get? b=some o
 slot:∀b o,h.get? b=some o->H b=none->b∈fs->b ∉ ex->∃sl,h'.get? b=some { o with slots:=sl }
 free:∀b o,h.get? b=some o->H b=none->b ∉ ex->H' b=none
 there:∀b o,h.get? b=some o->b ∉ ex->∃o',h'.get? b=some o'
 tups:∀b xs,H b=some (.tup xs)->H' b=some (.tup xs)
 frzs:∀b o u,H b=some (.frz o u)->H' b=some (.frz o u)
 tbls:∀b ps,H b=some (.tbl ps)->∃more,H' b=some (.tbl (ps++more))
section
variable {fs fs' ex ex':List PU}{H H1 H2:Hp}{h h1 h2:Qe}{a x e:PU}{o:HO}
def Un.any (u:Un fs ex H H1 h h1){b:PU}{ob:Qi}(q:h.get? b=some ob)(n:H b=none)(hx:b ∉ ex):∃sl,h1.get? b=some { ob with slots:=sl }:=by
 by_cases hb:b∈fs
 .exact u.slot b ob q n hb hx
 .exact⟨ob.slots,u.keep b ob q n hb hx⟩
def Un.kept (k:∀b u,h.get? b=some u->h'.get? b=some u):Un fs ex H H h h' :=
 ⟨λb ob q _ _ _=>k b ob q,λb ob q _ _ _=>⟨ob.slots,k b ob q⟩,λ_ _ _ n _=>n,λb ob q _=>⟨ob,k b ob q⟩,λ_ _ q=>q,λ_ _ _ q=>q,λ_ ps q=>⟨#[],by rw[q];simp⟩⟩
def Un.refl :Un fs ex H H h h:=Un.kept λ_ _ q=>q
def Un.laid (k:∀b u,h.get? b=some u->h'.get? b=some u)(hp:h.objs.size<=a)(hn:H a=none):Un fs ex H (upd H a o) h h' where
 keep:=λb u q _ _ _=>k b u q
 slot:=λb u q _ _ _=>⟨u.slots,k b u q⟩
 free:=λb u q n _=>by rw[b9 (LH (LJ (Lw q) hp))];exact n
 there:=λb u q _=>⟨u,k b u q⟩
 tups:=λb xs q=>by rw[b9 (i3 q hn)];exact q
 frzs:=λb u xs q=>by rw[b9 (i3 q hn)];exact q
 tbls:=λb ps q=>⟨#[],by rw[b9 (i3 q hn),q];simp⟩
def Un.write (mu:Mut (H x))(he:e=x\/H e=some (.own x))(k:∀b u,b≠e->h.get? b=some u->h'.get? b=some u)(heo:∃u,h'.get? e=some u):Un fs ex H (upd H x o) h h':=by
 have hx:∀b,H b=none->b≠x:=λb n z=>by subst z;rw[n]at mu;exact mu
 have hb:∀b,H b=none->b≠e:=λb n z=>by
  subst z;rcases he with r | r
  .exact hx b n r
  .rw[n]at r;cases r
 have hm:∀b u,H b=some u->¬Mut (some u)->b≠x:=λb u q nm z=>by subst z;rw[q]at mu;exact nm mu
 refine⟨λb u q n _ _=>k b u (hb b n) q,λb u q n _ _=>⟨u.slots,k b u (hb b n) q⟩,λb u q n _=>by rw[b9 (hx b n)];exact n,λb u q _=>?_,
  λb xs q=>by rw[b9 (hm b _ q λz=>z)];exact q,λb u xs q=>by rw[b9 (hm b _ q λz=>z)];exact q,λb ps q=>⟨#[],by rw[b9 (hm b _ q λz=>z),q];simp⟩⟩
 by_cases hbe:b=e
 .subst hbe;exact heo
 .exact⟨u,k b u hbe q⟩
end
def trk (h:Qe)(H:Hp):List PU:=(List.range h.objs.size).filter λa=>(H a).isSome
def iH (h:Qe)(H:Hp):Qe:=PySem.W.hideAll h (trk h H)
def tS (h:Qe)(H:Hp):(iH h H).objs.size=h.objs.size:=PySem.W.hideAll_size _ _
def yk {h:Qe}{H:Hp}{b:PU}{o:Qi}(e:h.get? b=some o)(n:H b=none):(iH h H).get? b=some o :=
 PySem.W.hideAll_get _ e λhm=>by have q:(H b).isSome=true:=(Ma.1 hm).2;rw[n]at q;simp at q
def yJ {h:Qe}{H:Hp}{b:PU}{o:Qi}(e:(iH h H).get? b=some o):h.get? b=some o/\H b=none:=by
 have e':h.get? b=some o:=PySem.W.of_hideAll (trk h H) e;refine⟨e',?_⟩;cases q:H b with
 | none=>rfl
 | some x =>have hm:b∈trk h H:=Ma.2 ⟨LR.2 (Lw e'),by simp[q]⟩;have z:(iH h H).get? b=none:=PySem.W.hideAll_none (trk h H) hm;rw[z]at e;cases e
end
variable {Qz:List (PU×Qi)}{g':Array GenState}{t':Nat}
section
structure Mod (K:Qf) (mg:Str->Option PR) (base:Qe):Prop where
 kin:K.In base
 glob:base.Ns Qn mg
 blt:∃mb,base.Ns builtinsNs mb/\∀x:Str,x ≠ "__name__"->mb x=Qq x
 nolimit:base.NoLimit
structure Cx where
 prog:PX
 w:PY
 K:Qf
 mg:Str->Option PR
 base:Qe
 A:PZ
 N:List Str
 s₀:PV
 H₀:Hp
 env:Qj
 outer:List Qj
 stack:List Qj
 ex:List PU
 fn:Str->Bool
 calm:Bool
 pn:List (PU×Qi)
 xe:PR->PV->Prop
def frs (l:List Qj):List PU:=l.filterMap (·.frame)
abbrev Cx.fs (X:Cx):List PU:=frs X.outer
def Vis (sc:Qa)(x:Str):Prop:=sc.names.lookup x=some .local\/sc.names.lookup x=some .cell\/sc.names.lookup x=some .free
def Loc (sc:Qa)(x:Str):Prop:=sc.names.lookup x=some .local\/sc.names.lookup x=some .cell
def FU (env:Qj)(h:Qe)(m:Str->Option PR)(x:Str)(u:PR):Prop :=
 (env.kindOf x=some .local/\m x=some u)\/((env.kindOf x=some .cell\/env.kindOf x=some .free)/\∃c,env.cells.lookup x=some c/\h.IsCell c (some u))
structure Cx.Ok (X:Cx):Prop where
 mod:Mod X.K X.mg X.base
 kind:X.env.scope.kind = .function
 glob:X.env.globals=Qn
 blt:X.env.builtins=builtinsNs
 above:X.s₀.heap.objs.size<=X.env.locals
 inj:∀x y c,X.env.cells.lookup x=some c->X.env.cells.lookup y=some c->x=y
 has:∀x,(X.env.kindOf x=some .cell\/X.env.kindOf x=some .free)->∃c,X.env.cells.lookup x=some c
 cab:∀x c,X.fn x=true->X.env.cells.lookup x=some c->X.s₀.heap.objs.size<=c
 hd:X.calm=true->X.A.handled=none
 frames:X.A.frames=some X.stack
 stk:X.stack=X.outer\/(X.stack=X.env::X.outer/\X.env.frame=some X.env.locals)
 exf:∀b∈X.ex,b≠X.env.locals/\∀x c,X.env.cells.lookup x=some c->c≠b
 bs:∀b o,X.base.get? b=some o->X.s₀.heap.get? b=some o/\X.H₀ b=none
 bsz:X.base.objs.size<=X.s₀.heap.objs.size
 noex:∀b o,X.base.get? b=some o->b ∉ X.ex
 exfs:∀b∈X.ex,b ∉ X.fs
 funs:X.s₀.heap.FunFrames X.base X.outer
 frf:∀b∈X.fs,X.H₀ b=none
structure Inv (X:Cx) (Qz:List (PU×Qi)) (O:List (Option V)) (H:Hp) (s:PV):Prop where
 ok:X.Ok
 os:s.os=X.s₀.os
 bare:AllBare s.gens
 base:Un X.fs X.ex X.H₀ H X.s₀.heap s.heap
 loc:∃m,s.heap.Ns X.env.locals m/\∀(i:Nat) (x:Str) (v:V),X.N[i]? = some x->O[i]? = some (some v)->Vis X.env.scope x->∃u,x3 v u/\FU X.env s.heap m x u
 cell:∀x c,X.env.cells.lookup x=some c->∃v,s.heap.IsCell c v
 free:H X.env.locals=none
 freeC:∀x c,X.env.cells.lookup x=some c->H c=none
 pin:∀p∈X.pn++Qz,s.heap.get? p.1=some p.2/\H p.1=none/\p.1≠X.env.locals/\p.1 ∉ X.fs/\∀v,p.2.data ≠ .cell v
 hok:HOk X.prog X.w H s.heap
 len:O.length=X.N.length
section
variable {X:Cx}{O:List (Option V)}{H H':Hp}{s:PV}
def Cx.Ok.nofr (ok:X.Ok){b:PU}{o:Qi}(e:X.base.get? b=some o):b ∉ X.fs:=λhb=>by have:=(ok.funs.mem hb).1;rw[e]at this;cases this
def Inv.bs (I:Inv X Qz O H s):∀b o,X.base.get? b=some o->s.heap.get? b=some o/\H b=none:=λb o e =>
 ⟨I.base.keep b o (I.ok.bs b o e).1 (I.ok.bs b o e).2 (I.ok.nofr e) (I.ok.noex b o e),I.base.free b o (I.ok.bs b o e).1 (I.ok.bs b o e).2 (I.ok.noex b o e)⟩
def Inv.bk (I:Inv X Qz O H s):∀b o,X.base.get? b=some o->s.heap.get? b=some o:=λb o e=>(I.bs b o e).1
def Inv.mod (I:Inv X Qz O H s):Mod X.K X.mg X.base:=I.ok.mod
def Inv.kIn (I:Inv X Qz O H s):X.K.In s.heap:=I.ok.mod.kin.keeps I.bk
def Inv.nolimit (I:Inv X Qz O H s):s.heap.NoLimit:=I.ok.mod.nolimit.keeps I.bk
def Inv.lt (I:Inv X Qz O H s):X.env.locals<s.heap.objs.size:=let ⟨_,hn,_⟩:=I.loc;hn.lt
def Inv.sz (I:Inv X Qz O H s):X.s₀.heap.objs.size<=s.heap.objs.size:=LS I.ok.above (MI I.lt)
def Inv.nofs (I:Inv X Qz O H s){a:PU}(h:s.heap.objs.size<=a):a ∉ X.fs:=λhb=>by obtain⟨_,o,ho,_⟩:=I.ok.funs.mem hb;exact absurd (LJ (Lw ho) (LS I.sz h)) (MK _)
def Inv.cne (I:Inv X Qz O H s):∀x c,X.env.cells.lookup x=some c->c≠X.env.locals:=λx c e z=>by obtain⟨v,o,ho,hd⟩:=I.cell x c e;obtain⟨m,⟨o',es,ep,ho',hd',_⟩,_⟩:=I.loc;rw[z,ho']at ho;cases ho;rw[hd']at hd;cases hd
def Inv.funs (I:Inv X Qz O H s):s.heap.FunFrames X.base X.outer:=by
 have all:∀(l:List Qj),(∀b∈frs l,b∈X.fs)->X.s₀.heap.FunFrames X.base l->s.heap.FunFrames X.base l:=by
  intro l;induction l with
  | nil=>intro _ _;trivial
  | cons env r ih =>
   intro hs hl;obtain⟨hk,⟨L,o,hf,hn,ho,hd⟩,hr⟩:=hl;have hL:L∈X.fs:=hs L (by unfold frs;rw[NU,hf];exact Lq);obtain⟨sl,e⟩:=I.base.slot L o ho (I.ok.frf L hL) hL λz=>I.ok.exfs L z hL
   exact⟨hk,⟨L,_,hf,hn,e,hd⟩,ih (λb hb=>hs b (by unfold frs;rw[NU,hf];exact Le _ hb)) hr⟩
 exact all X.outer (λ_ hb=>hb) I.ok.funs
def Inv.stack (I:Inv X Qz O H s):s.heap.FunFrames X.base X.stack:=by
 rcases I.ok.stk with e | ⟨e,hf⟩
 .rw[e];exact I.funs
 .rw[e];obtain⟨m,hn,_⟩:=I.loc;refine .cons (by rw[I.ok.kind];decide) hf hn ?_ I.funs;exact Qe.get?_none_of_le (LS I.ok.bsz I.ok.above)
def Inv.stkSub (I:Inv X Qz O H s):∀b∈frs X.stack,b∈X.env.locals::X.fs:=λb hb=>by
 rcases I.ok.stk with e | ⟨e,hf⟩
 .rw[e]at hb;exact Le _ hb
 .rw[e]at hb;unfold frs at hb;rw[NU,hf]at hb;exact hb
def Inv.stkFree (I:Inv X Qz O H s):∀b∈frs X.stack,H b=none:=λb hb=>by
 rcases Lh.1 (I.stkSub b hb) with e | hb
 .rw[e];exact I.free
 .obtain⟨_,o,ho,_⟩:=I.ok.funs.mem hb;exact I.base.free b o ho (I.ok.frf b hb) λz=>I.ok.exfs b z hb
def Inv.step {d':Drawn}{ch:List PU}(I:Inv X Qz O H s)
  (hch:∀b∈ch,(b∈X.ex\/X.s₀.heap.objs.size<=b)/\b≠X.env.locals/\(∀x c,X.env.cells.lookup x=some c->c≠b)/\∀p∈X.pn++Qz,p.1≠b)
  (keep:∀b o,b≠X.env.locals->b ∉ X.fs->b ∉ ch->s.heap.get? b=some o->H b=none->h'.get? b=some o)
  (slot:∀b o,b≠X.env.locals->b∈X.fs->b ∉ ch->s.heap.get? b=some o->H b=none->∃sl,h'.get? b=some { o with slots:=sl }) (free:∀b o,b ∉ ch->s.heap.get? b=some o->H b=none->H' b=none)
  (there:∀b o,b ∉ ch->s.heap.get? b=some o->∃o',h'.get? b=some o')
  (tups:∀b xs,H b=some (.tup xs)->H' b=some (.tup xs)) (frzs:∀b o u,H b=some (.frz o u)->H' b=some (.frz o u)) (tbls:∀b ps,H b=some (.tbl ps)->∃more,H' b=some (.tbl (ps++more)))
  (ns:∀m,s.heap.Ns X.env.locals m->h'.Ns X.env.locals m) (hok:HOk X.prog X.w H' h') (hg:AllBare g') :
  Inv X Qz O H' { s with heap:=h',gens:=g',drawn:=d',toks:=t' }:=by
 have neL:∀b o,X.s₀.heap.get? b=some o->b≠X.env.locals:=λb o e=>LH (LJ (Lw e) I.ok.above)
 have neC:∀b o,X.s₀.heap.get? b=some o->b ∉ X.ex->b ∉ ch:=λb o e hx hb=>by
  rcases(hch b hb).1 with z | z
  .exact hx z
  .exact absurd (LJ (Lw e) z) (MK _)
 have cellK:∀x c,X.env.cells.lookup x=some c->∀v,s.heap.IsCell c v->h'.IsCell c v:=λx c e v ⟨o,ho,hd⟩=>by
  have nch:c ∉ ch:=λz=>(hch c z).2.2.1 x c e rfl
  by_cases hc:c∈X.fs
  .obtain⟨sl,q⟩:=slot c o (I.cne x c e) hc nch ho (I.freeC x c e);exact⟨_,q,hd⟩
  .exact⟨o,keep c o (I.cne x c e) hc nch ho (I.freeC x c e),hd⟩
 refine⟨I.ok,I.os,hg,⟨λb o e n hb hx=>?_,λb o e n hb hx=>?_,λb o e n hx=>?_,λb o e hx=>?_,λb xs e=>tups b xs (I.base.tups b xs e),λb o xs e=>frzs b o xs (I.base.frzs b o xs e),λb ps e=>?_⟩,?_,λx c e=>?_,?_,λx c e=>?_,λp hp=>?_,hok,I.len⟩
 .exact keep b o (neL b o e) hb (neC b o e hx) (I.base.keep b o e n hb hx) (I.base.free b o e n hx)
 .obtain⟨sl,e1⟩:=I.base.slot b o e n hb hx;obtain⟨sl',e2⟩:=slot b _ (neL b o e) hb (neC b o e hx) e1 (I.base.free b o e n hx);exact⟨sl',e2⟩
 .obtain⟨o',e1⟩:=I.base.there b o e hx;exact free b o' (neC b o e hx) e1 (I.base.free b o e n hx)
 .obtain⟨o',e1⟩:=I.base.there b o e hx;exact there b o' (neC b o e hx) e1
 .obtain⟨m1,e1⟩:=I.base.tbls b ps e;obtain⟨m2,e2⟩:=tbls b _ e1;exact⟨m1++m2,by rw[e2,Array.append_assoc]⟩
 .obtain⟨m,hn,hl⟩:=I.loc;refine⟨m,ns m hn,λi x v e1 e2 e3=>?_⟩;obtain⟨u,r,l⟩:=hl i x v e1 e2 e3;refine⟨u,r,?_⟩;rcases l with l | ⟨k,c,e,z⟩
  .exact .inl l
  .exact .inr ⟨k,c,e,cellK x c e _ z⟩
 .obtain⟨v,z⟩:=I.cell x c e;exact⟨v,cellK x c e v z⟩
 .obtain⟨m,⟨o,_,_,ho,_⟩,_⟩:=I.loc;exact free _ o (λz=>(hch _ z).2.1 rfl) ho I.free
 .obtain⟨v,o,ho,hd⟩:=I.cell x c e;exact free c o (λz=>(hch c z).2.2.1 x c e rfl) ho (I.freeC x c e)
 .obtain⟨e,n,ne,nf,d⟩:=I.pin p hp;have nch:p.1 ∉ ch:=λz=>(hch p.1 z).2.2.2 p hp rfl
  exact⟨keep p.1 p.2 ne nf nch e n,free p.1 p.2 nch e n,ne,nf,d⟩
def Inv.un (I:Inv X Qz O H s)(u:Un X.fs [] H H' s.heap h')(hok:HOk X.prog X.w H' h'):Inv X Qz O H' { s with heap:=h',toks:=t' }:=by
 obtain⟨m,⟨o,es,ep,ho,r⟩,_⟩:=id I.loc;obtain⟨sl,hL⟩:=u.any ho I.free (by simp);exact I.step (g':=s.gens) (d':=s.drawn) (ch:=[]) (λ_ z=>nomatch z) (λb o _ hb _ e n=>u.keep b o e n hb (by simp)) (λb o _ hb _ e n=>u.slot b o e n hb (by simp)) (λb o _ e n=>u.free b o e n (by simp)) (λb o _ e=>u.there b o e (by simp)) u.tups u.frzs u.tbls (λm' hm=>by obtain⟨o',es',ep',ho',r'⟩:=hm;rw[ho]at ho';cases ho';exact⟨_,es',ep',hL,r'⟩) hok I.bare
def Inv.call {d':Drawn}{ch:List PU}(I:Inv X Qz O H s)(u:Un (frs X.stack) ch H H' s.heap h')(hok:HOk X.prog X.w H' h')(hg:AllBare g')
  (hch:∀b∈ch,(b∈X.ex\/X.s₀.heap.objs.size<=b)/\b≠X.env.locals/\(∀x c,X.env.cells.lookup x=some c->c≠b)/\∀p∈X.pn++Qz,p.1≠b) :
  Inv X Qz O H' { s with heap:=h',gens:=g',drawn:=d',toks:=t' }:=by
 obtain⟨m,⟨o,es,ep,ho,r⟩,_⟩:=id I.loc;obtain⟨sl,hL⟩:=u.any ho I.free λz=>(hch _ z).2.1 rfl
 exact I.step (ch:=ch) hch (λb o hL hb hc e n=>u.keep b o e n (λz=>(Lh.1 (I.stkSub b z)).elim hL hb) hc) (λb o _ _ hc e n=>u.any e n hc) (λb o hc e n=>u.free b o e n hc) (λb o hc e=>u.there b o e hc) u.tups u.frzs u.tbls (λm' hm=>by obtain⟨o',es',ep',ho',r'⟩:=hm;rw[ho]at ho';cases ho';exact⟨_,es',ep',hL,r'⟩) hok hg
def Inv.turned {it:PU}(I:Inv X Qz O H s)(k:∀b o,b≠it->s.heap.get? b=some o->h'.get? b=some o)(hn:H it=none)(hL:it≠X.env.locals)
  (h1:it∈X.ex\/X.s₀.heap.objs.size<=it) (h2:∀x c,X.env.cells.lookup x=some c->c≠it) (h3:∀p∈X.pn++Qz,p.1≠it):Inv X Qz O H { s with heap:=h',toks:=t' }:=by
 have nit:∀b u,H b=some u->b≠it:=λb u e z=>by rw[z,hn]at e;cases e
 refine I.step (g':=s.gens) (d':=s.drawn) (ch:=[it]) (λb hb=>?_) (λb o _ _ hc e _=>k b o (λz=>hc (by simp[z])) e) (λb o _ _ hc e _=>⟨o.slots,k b o (λz=>hc (by simp[z])) e⟩) (λ_ _ _ _ n=>n)
  (λb o hc e=>⟨o,k b o (λz=>hc (by simp[z])) e⟩) (λ_ _ e=>e) (λ_ _ _ e=>e) (λb ps e=>⟨#[],by rw[e];simp⟩) (λm hm=>?_) (λb u e=>?_) I.bare
 .have e:b=it:=by simpa using hb
  subst e;exact⟨h1,hL,h2,h3⟩
 .obtain⟨o,es,ep,ho,r⟩:=hm;exact⟨o,es,ep,k _ o (LZ hL) ho,r⟩
 .refine(I.hok b u e).stay (λc v hc q=>k c v ?_ q) (λ_ q=>q) λ_ _ q=>q
  rcases hc with z | z
  .rw[z];exact nit b u e
  .exact nit c _ z
def Inv.tok (I:Inv X Qz O H s)(t:Nat):Inv X Qz O H { s with toks:=t }:=I.un (h':=s.heap) (t':=t) Un.refl I.hok
def Inv.kept (I:Inv X Qz O H s)(k:∀b u,s.heap.get? b=some u->h'.get? b=some u):Inv X Qz O H { s with heap:=h',toks:=t' }:=I.un (Un.kept k) (I.hok.kept k)
def Inv.laid {a:PU}{o:HO}(I:Inv X Qz O H s)(k:∀b u,s.heap.get? b=some u->h'.get? b=some u)(hp:s.heap.objs.size<=a)(new:N5 X.prog X.w (upd H a o) h' a o) :
  Inv X Qz O (upd H a o) { s with heap:=h',toks:=t' }:=I.un (Un.laid k hp (I.hok.fresh hp)) (I.hok.laid k hp new)
def Inv.write {x e:PU}{o:HO}(I:Inv X Qz O H s)(mu:Mut (H x))(he:e=x\/H e=some (.own x))(k:∀b u,b≠e->s.heap.get? b=some u->h'.get? b=some u)(heo:∃u,h'.get? e=some u)
  (new:N5 X.prog X.w (upd H x o) h' x o):Inv X Qz O (upd H x o) { s with heap:=h',toks:=t' }:=I.un (Un.write mu he k heo) (I.hok.write mu he k heo new)
def Inv.pins_of {pins':List (PU×Qi)}(I:Inv X Qz O H s)(h:∀p∈pins',s.heap.get? p.1=some p.2/\H p.1=none/\p.1≠X.env.locals/\p.1 ∉ X.fs/\∀v,p.2.data ≠ .cell v):Inv X pins' O H s :=
 ⟨I.ok,I.os,I.bare,I.base,I.loc,I.cell,I.free,I.freeC,λp hp=>(Li.1 hp).elim (λz=>I.pin p (OX _ z)) (h p),I.hok,I.len⟩
def ny {N:List Str}(hN:N.Nodup){i j:Nat}{x:Str}(a:N[i]? = some x)(b:N[j]? = some x):i=j:=by obtain⟨h1,e1⟩:=Lj.1 a;obtain⟨h2,e2⟩:=Lj.1 b;exact(List.getElem_inj hN).1 (e1.trans e2.symm)
def tZ {M:Model}{A:PZ}{E:PR->PV->Prop}{i:Nat}{x:Str}{v:V}{u:PR}{Q:Unit->PV->Prop}(I:Inv X Qz O H s)(hN:X.N.Nodup)(hi:X.N[i]? = some x)(hx:Loc X.env.scope x)(r:x3 v u)
  (h:∀s',Inv X Qz (O.set i (some v)) H s'->(∃a,Qe.SameBut a s.heap s'.heap/\(a=X.env.locals\/X.env.cells.lookup x=some a))->Q () s') (hf:X.fn x=true\/X.env.scope.names.lookup x=some .local:=by walk_at "v"):Qm M A (storeName X.env x u) Q E s:=by
 obtain⟨m,hn,hl⟩:=id I.loc;have hcls:(X.env.scope.kind == .class||(X.env.scope.kind == .module&&X.env.locals != X.env.globals))=false:=by rw[I.ok.kind];rfl
 have hiσ:i < O.length:=by rw[I.len];exact(Lj.1 hi).1
 have cne:=I.cne;have tracked:∀{a:PU} {h':Qe},(∃o,s.heap.get? a=some o/\H a=none)->Qe.SameBut a s.heap h'->HOk X.prog X.w H h':=λ{a h'} ha hs b ob e=>by
  obtain⟨_,_,hfree⟩:=ha;refine(I.hok b ob e).stay (λc w' hc q=>(hs.2 c ?_).trans q) (λ_ q=>q) λ_ _ q=>q
  rintro rfl;rcases hc with rfl | hc
  .rw[hfree]at e;cases e
  .rw[hfree]at hc;cases hc
 rcases hx with hk | hk
 .refine wpAny_storeName_local hk hn (λh' hn' hs=>?_) hcls;obtain⟨oL,_,_,hoL,_⟩:=id hn;refine h _ ⟨I.ok,I.os,I.bare,⟨λb o e n hb hx=>?_,λb o e n hb hx=>?_,I.base.free,λb o e hx=>?_,I.base.tups,I.base.frzs,I.base.tbls⟩,⟨_,hn',λj y v' e1 e2 e3=>?_⟩,λy c e=>?_,I.free,I.freeC,λp hp=>?_,tracked ⟨oL,hoL,I.free⟩ hs,by simpa using I.len⟩ ⟨_,hs,.inl rfl⟩
  .exact(hs.2 b (LH (LJ (Lw e) I.ok.above))).trans (I.base.keep b o e n hb hx)
  .obtain⟨sl,e1⟩:=I.base.slot b o e n hb hx;exact⟨sl,(hs.2 b (LH (LJ (Lw e) I.ok.above))).trans e1⟩
  .obtain⟨o',e1⟩:=I.base.there b o e hx;exact⟨o',(hs.2 b (LH (LJ (Lw e) I.ok.above))).trans e1⟩
  .by_cases hj:j=i
   .subst hj;rw[hi]at e1;cases e1;rw[Lp hiσ]at e2;cases e2;exact⟨u,r,.inl ⟨hk,by simp⟩⟩
   .rw[Lm (LZ hj)]at e2;obtain⟨u',r',q⟩:=hl j y v' e1 e2 e3;refine⟨u',r',?_⟩;rcases q with ⟨k,e⟩ | ⟨k,c,e,z⟩
    .refine .inl ⟨k,?_⟩;have:y≠x:=λe=>hj (ny hN e1 (e▸hi))
     simp[this,e]
    .exact .inr ⟨k,c,e,z.sameBut hs (cne y c e)⟩
  .obtain⟨w',z⟩:=I.cell y c e;exact⟨w',z.sameBut hs (cne y c e)⟩
  .obtain⟨e,n,ne,nf,d⟩:=I.pin p hp;exact⟨(hs.2 p.1 ne).trans e,n,ne,nf,d⟩
 .have hfn:X.fn x=true:=by
   rcases hf with z | z
   .exact z
   .rw[z]at hk;cases hk
  obtain⟨c,hc⟩:=I.ok.has x (.inl hk);obtain⟨w',z⟩:=I.cell x c hc;refine wpAny_storeName_cell I.ok.kind hk hc z (λh' hc' hs=>?_);obtain⟨oc,hoc,hocd⟩:=id z;refine h { s with heap:=h' } ⟨I.ok,I.os,I.bare,⟨λb o e n hb hx=>?_,λb o e n hb hx=>?_,I.base.free,λb o e hx=>?_,I.base.tups,I.base.frzs,I.base.tbls⟩,⟨m,hn.sameBut hs (LZ (cne x c hc)),λj y v' e1 e2 e3=>?_⟩,λy c' e=>?_,I.free,I.freeC,λp hp=>?_,tracked ⟨oc,hoc,I.freeC x c hc⟩ hs,by simpa using I.len⟩ ⟨c,hs,.inr hc⟩
  .exact(hs.2 b (LH (LJ (Lw e) (I.ok.cab x c hfn hc)))).trans (I.base.keep b o e n hb hx)
  .obtain⟨sl,e1⟩:=I.base.slot b o e n hb hx;exact⟨sl,(hs.2 b (LH (LJ (Lw e) (I.ok.cab x c hfn hc)))).trans e1⟩
  .obtain⟨o',e1⟩:=I.base.there b o e hx;exact⟨o',(hs.2 b (LH (LJ (Lw e) (I.ok.cab x c hfn hc)))).trans e1⟩
  .by_cases hj:j=i
   .subst hj;rw[hi]at e1;cases e1;rw[Lp hiσ]at e2;cases e2;exact⟨u,r,.inr ⟨.inl hk,c,hc,hc'⟩⟩
   .rw[Lm (LZ hj)]at e2;obtain⟨u',r',q⟩:=hl j y v' e1 e2 e3;refine⟨u',r',?_⟩;rcases q with q | ⟨k,c',e,z'⟩
    .exact .inl q
    .refine .inr ⟨k,c',e,z'.sameBut hs ?_⟩;rintro rfl;exact hj (ny hN e1 (I.ok.inj _ _ _ e hc▸hi))
  .by_cases hcc:c'=c
   .subst hcc;exact⟨_,hc'⟩
   .obtain⟨w2,z2⟩:=I.cell y c' e;exact⟨w2,z2.sameBut hs hcc⟩
  .obtain⟨e,n,ne,nf,d⟩:=I.pin p hp;refine⟨(hs.2 p.1 ?_).trans e,n,ne,nf,d⟩;intro q;rw[q,hoc]at e;have q':oc=p.2:=Lr e;exact d w' (by rw[<-q'];exact hocd)
def P9 {M:Model}{A:PZ}{E:PR->PV->Prop}{i:Nat}{x:Str}{v:V}{u:PR}{Q:Unit->PV->Prop}(I:Inv X Qz O H s)(hN:X.N.Nodup)(hi:X.N[i]? = some x)(hx:Loc X.env.scope x)(r:x3 v u)
  (h:∀s',Inv X Qz (O.set i (some v)) H s'->Q () s') (hf:X.fn x=true\/X.env.scope.names.lookup x=some .local:=by walk_at "v"):Qm M A (storeName X.env x u) Q E s :=
 tZ I hN hi hx r (λs' I' _=>h s' I') hf
def Inv.call' {s':PV}{ch:List PU}(I:Inv X Qz O H s)(ho:s'.os=s.os)(u:Un (frs X.stack) ch H H' s.heap s'.heap)(hok:HOk X.prog X.w H' s'.heap)(hg:AllBare s'.gens)
  (hch:∀b∈ch,(b∈X.ex\/X.s₀.heap.objs.size<=b)/\b≠X.env.locals/\(∀x c,X.env.cells.lookup x=some c->c≠b)/\∀p∈X.pn++Qz,p.1≠b):Inv X Qz O H' s':=by obtain⟨h',g',d',t',o'⟩:=s';have e:o'=s.os:=ho;subst e;exact I.call (g':=g') (t':=t') (d':=d') u hok hg hch
end
abbrev XK :=PR->Option PU->Hp->Prop
abbrev St :=List (Option V)
abbrev VK :=V->Hp->Prop
abbrev TE :=St->Hp->VK->Prop
abbrev TT :=St->Hp->(Bool->Hp->Prop)->Prop
abbrev TA :=St->Hp->(List V->Hp->Prop)->Prop
structure Ends where
 nx:St->Hp->Prop
 rt:VK
 bk:St->Hp->Prop:=λ_ _=>False
 ct:St->Hp->Prop:=λ_ _=>False
abbrev TS :=Ends->St->Hp->Prop
def EP (X:Cx)(Qz:List (PU×Qi))(O:St)(Q:VK)(u:PR)(s':PV):Prop:=∃v H',Inv X Qz O H' s'/\x3 v u/\Q v H'
def TP (X:Cx)(Qz:List (PU×Qi))(O:St)(Q:Bool->Hp->Prop)(b:Bool)(s':PV):Prop:=∃H',Inv X Qz O H' s'/\Q b H'
def AP (X:Cx)(Qz:List (PU×Qi))(O:St)(Q:List V->Hp->Prop)(us:List PR)(s':PV):Prop:=∃vs H',Inv X Qz O H' s'/\r6 vs us/\Q vs H'
def SP (X:Cx)(Qz:List (PU×Qi))(D:Ends)(f:Flow)(s':PV):Prop :=
 match f with
 | .next=>∃O' H',Inv X Qz O' H' s'/\D.nx O' H'
 | .brk=>∃O' H',Inv X Qz O' H' s'/\D.bk O' H'
 | .cont=>∃O' H',Inv X Qz O' H' s'/\D.ct O' H'
 | .ret u=>∃v O' H',Inv X Qz O' H' s'/\x3 v u/\D.rt v H'
def PE (X:Cx)(e:Qd)(t:TE):Prop :=
 ∀(Qz:List (PU×Qi)) (s:PV) (O:St) (H:Hp) (Q:VK),Inv X Qz O H s->t O H Q->Qm (model X.prog X.w) X.A (eval e X.env) (EP X Qz O Q) X.xe s
def PT (X:Cx)(e:Qd)(t:TT):Prop :=
 ∀(Qz:List (PU×Qi)) (s:PV) (O:St) (H:Hp) (Q:Bool->Hp->Prop),Inv X Qz O H s->t O H Q->Qm (model X.prog X.w) X.A (isTrue e X.env (eval e X.env)) (TP X Qz O Q) X.xe s
def PW (X:Cx)(e:Qd)(t:TT):Prop :=
 ∀(whole:Sem PR) (Qz:List (PU×Qi)) (s:PV) (O:St) (H:Hp) (Q:Bool->Hp->Prop),Inv X Qz O H s->t O H Q->Qm (model X.prog X.w) X.A (isTrue e X.env whole) (TP X Qz O Q) X.xe s
def PW.pt {X:Cx}{e:Qd}{t:TT}(h:PW X e t):PT X e t:=h _
def PA (X:Cx)(es:List Qd)(t:TA):Prop :=
 ∀(pos:Pos) (Qz:List (PU×Qi)) (s:PV) (O:St) (H:Hp) (Q:List V->Hp->Prop),Inv X Qz O H s->t O H Q->Qm (model X.prog X.w) X.A (spliced (Qk pos (Qh es X.env))) (AP X Qz O Q) X.xe s
def PS (X:Cx)(st:Qc)(t:TS):Prop :=
 ∀(Qz:List (PU×Qi)) (s:PV) (O:St) (H:Hp) (D:Ends),Inv X Qz O H s->t D O H->Qm (model X.prog X.w) X.A (exec st X.env) (SP X Qz D) X.xe s
def PSs (X:Cx)(st:List Qc)(t:TS):Prop :=
 ∀(Qz:List (PU×Qi)) (s:PV) (O:St) (H:Hp) (D:Ends),Inv X Qz O H s->t D O H->Qm (model X.prog X.w) X.A (execs st X.env) (SP X Qz D) X.xe s
def thn {α:Type}{t:Sem α}{Q Q':α->PV->Prop}{M:Model}{A:PZ}{E:PR->PV->Prop}{s:PV}(h:Qm M A t Q E s)(hQ:∀a s,Q a s->Q' a s):Qm M A t Q' E s:=LX h hQ λ_ _ x=>x
end
variable {pos:Pos}{ta:TE}
section
section
variable {X:Cx}
def z7 (i:Nat):TE:=λO H Q=>∃v,O[i]? = some (some v)/\Q v H
def tC (v:V):TE:=λ_ H Q=>Q v H
def L7 {i:Nat}{x:Str}(hN:X.N[i]? = some x)(hv:Vis X.env.scope x)(hd:(x == ("__debug__":Str))=false:=by decide)(hcd:(x == ("__classdict__":Str))=false:=by decide):PE X (.Name x pos) (z7 i):=by
 intro Qz s O H Q I h;obtain⟨v,e,h⟩:=h;obtain⟨m,hn,hl⟩:=I.loc;obtain⟨u,r,l⟩:=hl i x v hN e hv;have fin:EP X Qz O Q u s:=⟨v,H,I,r,h⟩;rcases l with ⟨hk,hm⟩ | ⟨hk,c,hc,hcell⟩
 .exact wpAny_Name (wpAny_loadName_local I.ok.kind hk hn hm fin) hd
 .rcases hk with hk | hk
  .exact wpAny_Name (wpAny_loadName_cell I.ok.kind hk hc hcell fin) hd
  .exact wpAny_Name (wpAny_loadName_free I.ok.kind hk hc hcell fin hcd) hd
def k8 {i j pos}:PE X (.Constant (.int i) j pos) (tC (.int i)):=λ_ _ _ H _ I h=>wpAny_Constant_int ⟨.int i,H,I.tok _,⟨_,rfl⟩,h⟩
def Fy {b j pos}:PE X (.Constant (.bool b) j pos) (tC (.bl b)):=λ_ _ _ H _ I h=>Constant_bool ⟨.bl b,H,I,rfl,h⟩
def BL {j pos}:PE X (.Constant .none j pos) (tC .non):=λ_ _ _ H _ I h=>Constant_none ⟨.non,H,I,rfl,h⟩
def C4 {x j pos}:PE X (.Constant (.str x) j pos) (tC (.str x)):=λ_ _ _ H _ I h=>Calls.Constant_str ⟨.str x,H,I.tok _,⟨_,rfl⟩,h⟩
def Gl (X:Cx)(x:Str):Prop:=X.env.kindOf x=some .globalImplicit
def rC {E:PR->PV->Prop}{s:PV}{O:St}{H:Hp}{x:Str}{u:PR}{Q:PR->PV->Prop}(I:Inv X Qz O H s)(hg:Gl X x)(hm:X.mg x=some u)(h:Q u s)
  (hd:(x == ("__debug__":Str))=false:=by decide):Qm (model X.prog X.w) X.A (eval (.Name x pos) X.env) Q E s :=
 Calls.Name_function_global I.ok.kind hg (Calls.loadGlobal_global (by rw[I.ok.glob];exact I.mod.glob.keeps I.bk) hm h) hd
def dq {E:PR->PV->Prop}{s:PV}{O:St}{H:Hp}{x:Str}{u:PR}{Q:PR->PV->Prop}(I:Inv X Qz O H s)(hg:Gl X x)(hm:X.mg x=none)(hv:Qq x=some u)(h:Q u s)
  (hn:x ≠ "__name__":=by decide) (hd:(x == ("__debug__":Str))=false:=by decide):Qm (model X.prog X.w) X.A (eval (.Name x pos) X.env) Q E s:=by obtain⟨mb,h1,h2⟩:=I.mod.blt;exact Calls.Name_function_global I.ok.kind hg (Calls.loadGlobal_builtin (by rw[I.ok.glob];exact I.mod.glob.keeps I.bk) hm (by rw[I.ok.blt];exact h1.keeps I.bk) ((h2 x hn).trans hv) h) hd
def zi {x:Str}{v:V}{u:PR}(hg:Gl X x)(hm:X.mg x=some u)(r:x3 v u)(hd:(x == ("__debug__":Str))=false:=by decide):PE X (.Name x pos) (tC v) :=
 λ_ _ _ H _ I h=>rC I hg hm ⟨v,H,I,r,h⟩ hd
variable {a b:Qd}{tb:TE}
variable {tA tB':TT}{rest:List Qd}
def zE (t u:TT):TT:=λO H Q=>t O H λc H1=>if c=true then u O H1 Q else Q false H1
def tOr (t u:TT):TT:=λO H Q=>t O H λc H1=>if c=true then Q true H1 else u O H1 Q
def EU (t:TT):TT:=λO H Q=>t O H λc H1=>Q (!c) H1
def kW (ha:PT X a tA):PW X (.BoolOp .And [a] pos) tA:=by
 intro wh Qz s O H Q I h;refine isTrue_and (thn (ha Qz s O H Q I h) λc s1 e=>?_);cases c with
 | true=>exact isTrue_and_nil e
 | false=>exact e
def Cg (ha:PT X a tA):PW X (.BoolOp .Or [a] pos) tA:=by
 intro wh Qz s O H Q I h;refine isTrue_or (thn (ha Qz s O H Q I h) λc s1 e=>?_);cases c with
 | false=>exact isTrue_or_nil e
 | true=>exact e
def qV (ha:PT X a tA)(hb:PW X (.BoolOp .And (b::rest) pos) tB'):PW X (.BoolOp .And (a::b::rest) pos) (zE tA tB'):=by
 intro wh Qz s O H Q I h;refine isTrue_and (thn (ha Qz s O H _ I h) λc s1 ⟨H1,I1,q1⟩=>?_);cases c with
 | true=>exact hb wh Qz s1 O H1 Q I1 q1
 | false=>exact⟨H1,I1,q1⟩
def Ee (ha:PT X a tA)(hb:PW X (.BoolOp .Or (b::rest) pos) tB'):PW X (.BoolOp .Or (a::b::rest) pos) (tOr tA tB'):=by
 intro wh Qz s O H Q I h;refine isTrue_or (thn (ha Qz s O H _ I h) λc s1 ⟨H1,I1,q1⟩=>?_);cases c with
 | true=>exact⟨H1,I1,q1⟩
 | false=>exact hb wh Qz s1 O H1 Q I1 q1
def Dl (ha:PT X a tA):PT X (.UnaryOp .Not a pos) (EU tA):=by intro Qz s O H Q I h;exact isTrue_not (ha Qz s O H (λc H1=>Q (!c) H1) I h)
def yc (ta tb:TE):TE:=λO H Q=>ta O H λx H1=>∃c,x = .bl c/\if c=true then tb O H1 Q else Q (.bl false) H1
def AE (ta:TE):TE:=λO H Q=>ta O H λx H1=>∃c,x = .bl c/\Q (.bl (!c)) H1
def wg {op}{t:TE}(h:PE X a t):PE X (.BoolOp op [a] pos) t:=λQz s O H Q I hw=>BoolOp_one (h Qz s O H Q I hw)
def vJ (ha:PE X a ta)(hb:PE X (.BoolOp .And (b::rest) pos) tb):PE X (.BoolOp .And (a::b::rest) pos) (yc ta tb):=by
 intro Qz s O H Q I h;refine BoolOp_and (thn (ha Qz s O H _ I h) λv s1 ⟨x,H1,I1,r1,q1⟩=>?_);obtain⟨c,rfl,q1⟩:=q1;cases r1;refine Ny ?_;cases c with
 | true=>exact hb Qz s1 O H1 Q I1 q1
 | false=>exact⟨.bl false,H1,I1,rfl,q1⟩
def CT (ha:PE X a ta):PE X (.UnaryOp .Not a pos) (AE ta):=by intro Qz s O H Q I h;refine UnaryOp_ (thn (ha Qz s O H _ I h) λv s1 ⟨x,H1,I1,r1,q1⟩=>?_);obtain⟨c,rfl,q1⟩:=q1;cases r1;exact not_of (Ny ⟨.bl (!c),H1,I1,rfl,q1⟩)
def tIf (t:TT)(ta tb:TE):TE:=λO H Q=>t O H λc H1=>if c=true then ta O H1 Q else tb O H1 Q
def nj {c:Qd}(hc:PT X c tA)(ha:PE X a ta)(hb:PE X b tb):PE X (.IfExp c a b pos) (tIf tA ta tb):=by
 intro Qz s O H Q I h;refine wpAny_IfExp (thn (hc Qz s O H _ I h) λd s1 ⟨H1,I1,q1⟩=>?_);cases d with
 | true=>exact ha Qz s1 O H1 Q I1 q1
 | false=>exact hb Qz s1 O H1 Q I1 q1
end
end
variable {te:TE}{es:List Qd}{tg:Qd}{body:List Qc}
section
def SqL (K:Qf)(H:Hp)(a:PU)(xs:List V):Prop :=
 Rd H a (.lst xs) \/
  ∃(o:Qi) (its:Array PR) (n:Nat),K.lookup a=some o/\o.cls = .type "list" /\ o.dict=none/\o.data = .seq its n/\its.size<=Qg/\r6 xs its.toList
def SqT (K:Qf)(H:Hp)(a:PU)(xs:List V):Prop :=
 Rd H a (.tup xs) \/
  ∃(o:Qi) (its:Array PR) (n:Nat),K.lookup a=some o/\o.cls = .type "tuple" /\ o.data = .seq its n/\its.size<=Qg/\r6 xs its.toList
def Gn:PR->Option V
 | .none=>some .non
 | .bool b=>some (.bl b)
 | .int i _=>some (.int i)
 | .str x _=>some (.str x)
 | .bytes b _=>some (.byt b)
 | .float b _=>some (.flt b)
 | .ref a=>some (.ref a)
 | .type n=>some (.ty n)
 | _=>none
def x3.abs {x:V}{u:PR}(r:x3 x u):Gn u=some x:=by
 cases x with
 | non=>cases r;rfl
 | bl _=>cases r;rfl
 | int _=>obtain⟨t,rfl⟩:=r;rfl
 | str _=>obtain⟨t,rfl⟩:=r;rfl
 | byt _=>obtain⟨t,rfl⟩:=r;rfl
 | flt _=>obtain⟨t,rfl⟩:=r;rfl
 | ref _=>cases r;rfl
 | ty _=>cases r;rfl
def x3.inj {x y:V}{u:PR}(r:x3 x u)(q:x3 y u):x=y:=Lr (r.abs.symm.trans q.abs)
theorem r6.inj:∀{xs ys:List V} {us:List PR},r6 xs us->r6 ys us->xs=ys
 | _,_,_,.nil,.nil=>rfl
 | _,_,_,.cons r t,.cons r' t'=>by rw[r.inj r',r6.inj t t']
section
variable {X:Cx}{O:St}{H:Hp}{s:PV}{a:PU}{xs ys:List V}
def SqL.of {K:Qf}(h:H a=some (.lst xs)):SqL K H a xs:=.inl (.inl h)
def SqT.of {K:Qf}(h:H a=some (.tup xs)):SqT K H a xs:=.inl (.inl h)
def Inv.list (I:Inv X Qz O H s)(h:SqL X.K H a xs):∃its:List PR,r6 xs its/\PlainL s.heap a its.toArray/\xs.length<=Qg:=by
 rcases h with h | ⟨o,its,n,hk,hc,hd,hs,hz,r⟩
 .obtain⟨z,its,n,r,e⟩:=h.ok I.hok;exact⟨its,r,⟨_,n,e,rfl,rfl,rfl⟩,z⟩
 .refine⟨its.toList,r,⟨o,n,I.kIn a o hk,hc,hd,by simpa using hs⟩,?_⟩;have e:=r.length;simp only[Na]at e;omega
def Inv.tuple (I:Inv X Qz O H s)(h:SqT X.K H a xs):∃its:List PR,r6 xs its/\IsTup s.heap a its.toArray/\xs.length<=Qg:=by
 rcases h with h | ⟨o,its,n,hk,hc,hs,hz,r⟩
 .obtain⟨z,its,r,p⟩:=h.ok I.hok;exact⟨its,r,p,z⟩
 .refine⟨its.toList,r,⟨o,I.kIn a o hk,hc,n,by simpa using hs⟩,?_⟩;have e:=r.length;simp only[Na]at e;omega
def Inv.list_inj (I:Inv X Qz O H s)(h:SqL X.K H a xs)(h':SqL X.K H a ys):xs=ys:=by
 obtain⟨its,r,⟨o,n,e,_,_,d⟩,_⟩:=I.list h;obtain⟨its',r',⟨o',n',e',_,_,d'⟩,_⟩:=I.list h';rw[e]at e';cases e';rw[d]at d';injection d' with d1 _
 have:its=its':=by simpa using MF Array.toList d1
 subst this;exact r.inj r'
def Inv.tuple_inj (I:Inv X Qz O H s)(h:SqT X.K H a xs)(h':SqT X.K H a ys):xs=ys:=by
 obtain⟨its,r,⟨o,e,_,n,d⟩,_⟩:=I.tuple h;obtain⟨its',r',⟨o',e',_,n',d'⟩,_⟩:=I.tuple h';rw[e]at e';cases e';rw[d]at d';injection d' with d1 _
 have:its=its':=by simpa using MF Array.toList d1
 subst this;exact r.inj r'
end
abbrev Cx.wish (X:Cx)(E:PR->PV->Prop):Cx:={ X with xe:=E }
abbrev Cx.nox (X:Cx):Cx:=X.wish λ_ _=>False
def Cx.Ok.wish {X:Cx}(ok:X.Ok)(E:PR->PV->Prop):(X.wish E).Ok :=
 ⟨ok.mod,ok.kind,ok.glob,ok.blt,ok.above,ok.inj,ok.has,ok.cab,ok.hd,ok.frames,ok.stk,ok.exf,ok.bs,ok.bsz,ok.noex,ok.exfs,ok.funs,ok.frf⟩
def Cx.Ok.unwish {X:Cx}{E:PR->PV->Prop}(ok:(X.wish E).Ok):X.Ok :=
 ⟨ok.mod,ok.kind,ok.glob,ok.blt,ok.above,ok.inj,ok.has,ok.cab,ok.hd,ok.frames,ok.stk,ok.exf,ok.bs,ok.bsz,ok.noex,ok.exfs,ok.funs,ok.frf⟩
section
variable {X:Cx}{O:St}{H:Hp}{s:PV}{E:PR->PV->Prop}
def Inv.wish (I:Inv X Qz O H s)(E:PR->PV->Prop):Inv (X.wish E) Qz O H s:=⟨I.ok.wish E,I.os,I.bare,I.base,I.loc,I.cell,I.free,I.freeC,I.pin,I.hok,I.len⟩
def Inv.unwish (I:Inv (X.wish E) Qz O H s):Inv X Qz O H s:=⟨I.ok.unwish,I.os,I.bare,I.base,I.loc,I.cell,I.free,I.freeC,I.pin,I.hok,I.len⟩
def SP.unwish {D:Ends}{f:Flow}{s':PV}(h:SP (X.wish E) Qz D f s'):SP X Qz D f s':=by
 cases f with
 | next=>obtain⟨O',H',I,q⟩:=h;exact⟨O',H',I.unwish,q⟩
 | brk=>obtain⟨O',H',I,q⟩:=h;exact⟨O',H',I.unwish,q⟩
 | cont=>obtain⟨O',H',I,q⟩:=h;exact⟨O',H',I.unwish,q⟩
 | ret u=>obtain⟨v,O',H',I,r,q⟩:=h;exact⟨v,O',H',I.unwish,r,q⟩
def PSs.nox {st:List Qc}{t:TS}(h:PSs X.nox st t):PSs X st t:=λQz s O H D I hw =>
 LX (h Qz s O H D (I.wish _) hw) (λ_ _ q=>q.unwish) λ_ _ z=>False.elim z
end
section
variable {X:Cx}{st:Qc}{rest:List Qc}{t u:TS}{e:Qd}
def wN :TS:=λD O H=>D.nx O H
def U3 (t u:TS):TS:=λD O H=>t { D with nx:=u D } O H
def gN :PSs X [] wN:=λ_ _ O H _ I h=>OY ⟨O,H,I,h⟩
def r8 (h1:PS X st t)(h2:PSs X rest u):PSs X (st::rest) (U3 t u):=by
 intro Qz s O H D I h;refine wpAny_execs_cons (thn (h1 Qz s O H { D with nx:=u D } I h) λf s1 q=>?_);cases f with
 | next =>obtain⟨O',H',I',q⟩:=q;exact h2 Qz s1 O' H' D I' q
 | ret v=>exact q
 | brk=>exact q
 | cont=>exact q
def G9 (h1:PS X st t):PSs X [st] t:=by
 intro Qz s O H D I h;refine wpAny_execs_cons (thn (h1 Qz s O H D I h) λf s1 q=>?_);cases f with
 | next=>exact OY q
 | ret v=>exact q
 | brk=>exact q
 | cont=>exact q
def Bu :TS:=λD O H=>D.ct O H
def oC :PS X (.Continue pos) Bu:=λ_ _ O H _ I h=>wpAny_Continue ⟨O,H,I,h⟩
def Inv.quiet {O:St}{H:Hp}{s:PV}(I:Inv X Qz O H s):interactive X.env=false:=by simp[interactive,I.ok.kind]
def bc (te:TE):TS:=λD O H=>te O H λ_ H1=>D.nx O H1
def Y0 (he:PE X e te)(hs:Qo e none pos.line X.env=pure false:=by rfl):PS X (.Expr e pos) (bc te):=by intro Qz s O H D I h;exact wpAny_Expr_any (thn (he Qz s O H _ I h) λv s1 ⟨x,H1,I1,r1,q1⟩=>⟨O,H1,I1,q1⟩) I.quiet hs
def uu (te:TE):TS:=λD O H=>te O H D.rt
def aR (he:PE X e te):PS X (.Return (some e) pos) (uu te):=by intro Qz s O H D I h;exact wpAny_Return_some (thn (he Qz s O H _ I h) λv s1 ⟨x,H1,I1,r1,q1⟩=>⟨x,O,H1,I1,r1,q1⟩)
def oi (c:TT)(t u:TS):TS:=λD O H=>c O H λb H1=>if b=true then t D O H1 else u D O H1
def jI {c:Qd}{a b:List Qc}{tc:TT}(hc:PT X c tc)(ha:PSs X a t)(hb:PSs X b u):PS X (.If c a b pos) (oi tc t u):=by
 intro Qz s O H D I h;refine wpAny_If (thn (hc Qz s O H _ I h) λd s1 ⟨H1,I1,q1⟩=>?_);cases d with
 | true=>exact ha Qz s1 O H1 D I1 q1
 | false=>exact hb Qz s1 O H1 D I1 q1
end
abbrev TG :=V->St->Hp->(St->Hp->Prop)->Prop
abbrev TGs :=List V->St->Hp->(St->Hp->Prop)->Prop
def PG (X:Cx)(target:Qd)(t:TG):Prop :=
 ∀(Qz:List (PU×Qi)) (s:PV) (O:St) (H:Hp) (v:V) (u:PR) (Q:St->Hp->Prop),Inv X Qz O H s->x3 v u->t v O H Q ->
  Qm (model X.prog X.w) X.A (assign target X.env u) (λ_ s'=>∃O' H',Inv X Qz O' H' s'/\Q O' H') X.xe s
def PGs (X:Cx)(ts:List Qd)(t:TGs):Prop :=
 ∀(Qz:List (PU×Qi)) (s:PV) (O:St) (H:Hp) (vs:List V) (us:List PR) (Q:St->Hp->Prop),Inv X Qz O H s->r6 vs us->t vs O H Q ->
  Qm (model X.prog X.w) X.A (assignInOrder ((Qt ts X.env).map (·.2)) us) (λ_ s'=>∃O' H',Inv X Qz O' H' s'/\Q O' H') X.xe s
abbrev De :=V->V->V->Hp->(Hp->Prop)->Prop
def DM (X:Cx)(t:De):Prop :=
 ∀(Qz:List (PU×Qi)) (s:PV) (O:St) (H:Hp) (o i v:V) (ov iv u:PR) (Q:Hp->Prop),Inv X Qz O H s->x3 o ov->x3 i iv->x3 v u->t o i v H Q ->
  Qm (model X.prog X.w) X.A (setItem ov iv u) (λ_ s'=>∃H',Inv X Qz O H' s'/\Q H') X.xe s
abbrev TIp :=V->V->Hp->VK->Prop
def PIp (X:Cx)(op:Operator)(t:TIp):Prop :=
 ∀(Qz:List (PU×Qi)) (s:PV) (O:St) (H:Hp) (x y:V) (v u:PR) (Q:VK),Inv X Qz O H s->x3 x v->x3 y u->t x y H Q ->
  Qm (model X.prog X.w) X.A (inplaceOp op v u) (EP X Qz O Q) X.xe s
section
variable {X:Cx}
def M6 (i:Nat):TG:=λv O H Q=>Q (O.set i (some v)) H
def gQ {i:Nat}{x:Str}(hN:X.N.Nodup)(hi:X.N[i]? = some x)(hx:Loc X.env.scope x)(hf:X.fn x=true\/X.env.scope.names.lookup x=some .local:=by walk_at "v"):PG X (.Name x pos) (M6 i):=by intro Qz s O H v u Q I r h;exact wpAny_assign_Name (P9 I hN hi hx r (λs' I'=>⟨_,H,I',h⟩) hf)
def Ce :TGs:=λvs O H Q=>vs=[]/\Q O H
def rq (t:TG)(u:TGs):TGs:=λvs O H Q=>∃v r,vs=v::r/\t v O H λO' H'=>u r O' H' Q
def rA :PGs X [] Ce:=by intro Qz s O H vs us Q I r h;obtain⟨e,h⟩:=h;subst e;cases r;exact assignInOrder_nil ⟨O,H,I,h⟩
def ir {e:Qd}{t:TG}{u:TGs}(h1:PG X e t)(h2:PGs X es u)
  (hs:(Qt (e::es) X.env).map (·.2)=assign e X.env::(Qt es X.env).map (·.2):=by rfl):PGs X (e::es) (rq t u):=by
 intro Qz s O H vs us Q I r h;obtain⟨v,vr,e1,h⟩:=h;subst e1;cases r with
 | cons r rr =>rw[hs];refine NI (thn (h1 Qz s O H _ _ _ I r h) λ_ s1 ⟨σ1,H1,I1,q1⟩=>?_);exact h2 Qz s1 σ1 H1 _ _ Q I1 rr q1
def zK (K:Qf)(n:Nat)(t:TGs):TG:=λv O H Q=>∃a xs,v = .ref a/\SqT K H a xs/\xs.length=n/\t xs O H Q
def BQ {k:Nat}{t:TGs}{n:Nat}(hc:X.calm=true)(h:PGs X es t)
  (hn:(Qt es X.env).length=n:=by rfl) (hst:(Qt es X.env).findIdx? (·.1)=none:=by rfl):PG X (.Tuple es k pos) (zK X.K n t):=by
 intro Qz s O H v u Q I r hw;obtain⟨a,xs,e1,hq,hl,hw⟩:=hw;subst e1;cases r;obtain⟨its,rv,ht,hz⟩:=I.tuple hq;refine assign_Tuple_tuple (I.ok.hd hc) ht (by simp[hn,<-hl,rv.length]) hst λh' hx=>?_
 have I1:Inv X Qz O H { s with heap:=h' }:=I.kept (t':=s.toks) λb o e=>hx b o (LH (Lw e)) e
 exact h Qz _ O H xs _ Q I1 (by simpa using rv) hw
def my (to ti:TE)(t:De):TG:=λv O H Q=>to O H λo H1=>ti O H1 λi H2=>t o i v H2 λH3=>Q O H3
def aN {o i:Qd}{to ti:TE}{t:De}(ho:PE X o to)(hi:PE X i ti)(hs:DM X t)
  (ha:∀v,assign (.Subscript o i pos) X.env v=(do
   let ov <-holding [v] (eval o X.env)
   let iv <-holding [v,ov] (eval i X.env)
   standAt pos
   holding [v,ov,iv] (setItem ov iv v)
   release [v,ov,iv] []):=by intro _;rfl):PG X (.Subscript o i pos) (my to ti t):=by intro Qz s O H v u Q I r h;rw[ha];refine Ld (MW (thn (ho Qz s O H _ I h) λov s1 ⟨x,H1,I1,r1,q1⟩=>?_));refine Ld (MW (thn (hi Qz s1 O H1 _ I1 q1) λiv s2 ⟨y,H2,I2,r2,q2⟩=>?_));refine Ld (NA (Ld (MW (thn (hs Qz s2 O H2 x y v ov iv u _ I2 r1 r2 r q2) λ_ s3 ⟨H3,I3,q3⟩=>?_))));exact wpAny_release ⟨O,H3,I3,q3⟩
def O6 (te:TE)(g:TG):TS:=λD O H=>te O H λx H1=>g x O H1 D.nx
def U5 {e:Qd}{g:TG}(he:PE X e te)(hg:PG X tg g)(hs:swapsWithSole [tg] e pos.line X.env=pure false:=by rfl)(hw:swappedStores [tg] e X.env=pure none:=by rfl)
  (h1:(Qt [tg] X.env).map (·.2)=[assign tg X.env]:=by rfl):PS X (.Assign [tg] e pos) (O6 te g):=by intro Qz s O H D I h;refine wpAny_Assign_stores (thn (he Qz s O H _ I h) λv s1 ⟨x,H1,I1,r1,q1⟩=>?_) hs hw;rw[h1];exact thn (hg Qz s1 O H1 x v _ I1 r1 q1) λ_ s2 q=>q
def O8 {i:Nat}{x:Str}{e:Qd}{pos':Pos}(hN:X.N.Nodup)(hi:X.N[i]? = some x)(hx:Loc X.env.scope x)(he:PE X e te)(hs:Qo e (some (.Name x pos')) pos.line X.env=pure false:=by rfl)(hf:X.fn x=true\/X.env.scope.names.lookup x=some .local:=by walk_at "v") :
  PS X (.Assign [.Name x pos'] e pos) (O6 te (M6 i)):=by intro Qz s O H D I h;refine wpAny_Assign_Name (thn (he Qz s O H _ I h) λv s1 ⟨y,H1,I1,r1,q1⟩=>?_) hs;exact P9 I1 hN hi hx r1 (λs2 I2=>⟨_,H1,I2,q1⟩) hf
def Ex (i j:Nat)(ta:TA):TS:=λD O H=>ta O H λvs H1=>∃v w,vs=[v,w]/\D.nx ((O.set i (some v)).set j (some w)) H1
def Do {i j:Nat}{x y:Str}{a b:Qd}{ta:TA}{px py pt:Pos}{kt k2 pt2}(hc:X.calm=true)(hN:X.N.Nodup)(hi:X.N[i]? = some x)(hj:X.N[j]? = some y)(hij:i≠j)
  (hx:X.env.scope.names.lookup x=some .local) (hy:X.env.scope.names.lookup y=some .local) (ha:PA X [a,b] ta)
  (hw:swappedStores [.Tuple [.Name x px,.Name y py] kt pt] (.Tuple [a,b] k2 pt2) X.env=pure (some [x,y]))
  (hs:swapsWithSole [.Tuple [.Name x px,.Name y py] kt pt] (.Tuple [a,b] k2 pt2) pos.line X.env=pure false:=by rfl) :
  PS X (.Assign [.Tuple [.Name x px,.Name y py] kt pt] (.Tuple [a,b] k2 pt2) pos) (Ex i j ta):=by
 intro Qz s O H D I h;rw[exec_Assign_arm];refine Ld (NA ?_);rw[hs];refine Ld (Lo ?_);rw[Lk (by decide)];refine Ld (Tuple_ (thn (ha _ Qz s O H _ I h) λus s1 ⟨vs,H1,I1,r1,q1⟩=>?_));obtain⟨v,w,e1,q1⟩:=q1;subst e1;obtain⟨u1,u2,rfl,rv,rw'⟩:∃u1 u2,us=[u1,u2]/\x3 v u1/\x3 w u2:=by
  cases r1 with
  | cons p q =>
   cases q with
   | cons p' q' =>cases q';exact⟨_,_,rfl,p,p'⟩
 refine Mo ?_ (by show 2<=Qg;decide);have I2:Inv X Qz O H1 { s1 with heap:=s1.heap.push { cls:=.type "tuple",data:=.seq [u1,u2].toArray } }:=I1.kept (t':=s1.toks) λb o e=>Ll _ e
 rw[hw];refine Ld (Lo ?_);show Qm (model X.prog X.w) X.A (do rule "assign.swapped-stores";let items <-unpackItems (.ref s1.heap.objs.size) 2 none;assignInOrder [λv=>bindName X.env y v,λv=>bindName X.env x v] items.reverse;pure Flow.next) _ _ _;refine Ld (NR (Ld (unpackItems_tuple (items:=#[u1,u2]) (I.ok.hd hc) (Os s1.heap _) λh' hx'=>?_)));have I3:=I2.kept (h':=h') (t':=s1.toks) λb o e=>hx' b o (LH (Lw e)) e
 show Qm _ _ (assignInOrder [λv=>bindName X.env y v,λv=>bindName X.env x v] [u2,u1] >>= λ_=>pure Flow.next) _ _ _;refine Ld (NI (OE (P9 I3 hN hj (.inl hy) rw' (λs2 I4=>?_) (.inr hy))));refine NI (OE (P9 I4 hN hi (.inl hx) rv (λs3 I5=>assignInOrder_nil (Lo ?_)) (.inr hx)));rw[Pt _ _ (LZ hij)]at I5;exact⟨_,H1,I5,q1⟩
def yo (i:Nat)(te:TE)(ti:TIp):TS:=λD O H=>∃x,O[i]? = some (some x)/\te O H λy H1=>ti x y H1 λz H2=>D.nx (O.set i (some z)) H2
def vN {i:Nat}{x:Str}{e:Qd}{op:Operator}{ti:TIp}{pos':Pos}(hN:X.N.Nodup)(hi:X.N[i]? = some x)(hx:Loc X.env.scope x)(he:PE X e te)(ho:PIp X op ti)(hf:X.fn x=true\/X.env.scope.names.lookup x=some .local:=by walk_at "v") :
  PS X (.AugAssign (.Name x pos') op e pos) (yo i te ti):=by
 intro Qz s O H D I h;obtain⟨v,e1,h⟩:=h;obtain⟨m,hn,hl⟩:=I.loc;have vis:Vis X.env.scope x:=by rcases hx with k | k;exact .inl k;exact .inr (.inl k)
 obtain⟨u,r,l⟩:=hl i x v hi e1 vis;refine wpAny_AugAssign_Name ?_;have go:Qm (model X.prog X.w) X.A (eval e X.env) (λw s₂=>Qm (model X.prog X.w) X.A (inplaceOp op u w) (λr s₃=>Qm (model X.prog X.w) X.A (storeName X.env x r) (λ_=>SP X Qz D .next) X.xe s₃) X.xe s₂) X.xe s:=by
  refine thn (he Qz s O H _ I h) λw s1 ⟨y,H1,I1,r1,q1⟩=>?_
  refine thn (ho Qz s1 O H1 v y u w _ I1 r r1 q1) λz s2 ⟨zv,H2,I2,r2,q2⟩=>?_
  exact P9 I2 hN hi hx r2 (λs3 I3=>⟨_,H2,I3,q2⟩) hf
 rcases l with ⟨hk,hm⟩ | ⟨hk,c,hc,hcell⟩
 .exact wpAny_loadName_local I.ok.kind hk hn hm go
 .rcases hk with hk | hk
  .exact wpAny_loadName_cell I.ok.kind hk hc hcell go
  .rcases hx with k | k
   .have:X.env.scope.names.lookup x=some .free:=hk;rw[k]at this;cases this
   .have:X.env.scope.names.lookup x=some .free:=hk;rw[k]at this;cases this
def ipI (f:Int->Int->Int):TIp:=λx y H Q=>∃i j,x = .int i/\y = .int j/\Q (.int (f i j)) H
def By :PIp X .Add (ipI λi j=>i+j):=by intro Qz s O H x y v u Q I r1 r2 h;obtain⟨i,j,e1,e2,q⟩:=h;subst e1;subst e2;obtain⟨t,rfl⟩:=r1;obtain⟨t',rfl⟩:=r2;exact iadd_int ⟨.int _,H,I.tok _,⟨_,rfl⟩,q⟩
end
section
variable {X:Cx}
def jv (c:TT)(tb:TS):TS:=λD O H=>∃W:Nat->St->Hp->Prop,(∃m,W m O H)/\∀m O H,W m O H ->
 c O H λb H1=>if b=true then ∃N:St->Hp->Prop,(∀O' H',N O' H'->∃m',m'<m/\W m' O' H')/\tb { D with nx:=N,ct:=N,bk:=D.nx } O H1 else D.nx O H1
def ot {c:Qd}{tc:TT}{tb:TS}(hp:PassesOwn (model X.prog X.w) X.A X.env X.xe)(hc:PT X c tc)(hb:PSs X body tb):PS X (.While c body [] pos) (jv tc tb):=by
 intro Qz s O H D I h;obtain⟨W,⟨m0,w0⟩,turn⟩:=h;refine wpAny_While (codeAny_whileLoop (λn s'=>∃O' H',Inv X Qz O' H' s'/\W n O' H') ?_ m0 ⟨O,H,I,w0⟩);rintro n s1 ⟨σ1,H1,I1,w1⟩;refine NK hp (thn (hc Qz s1 σ1 H1 _ I1 (turn n σ1 H1 w1)) λb s2 ⟨H2,I2,q2⟩=>?_);cases b with
 | true =>
  obtain⟨N,hN,q2⟩:=q2;rw[Lg rfl];refine NK hp (thn (hb Qz s2 σ1 H2 _ I2 q2) λf s3 q3=>?_);cases f with
  | next =>obtain⟨σ3,H3,I3,n3⟩:=q3;obtain⟨m',hm,w3⟩:=hN σ3 H3 n3;exact⟨m',hm,σ3,H3,I3,w3⟩
  | cont =>obtain⟨σ3,H3,I3,n3⟩:=q3;obtain⟨m',hm,w3⟩:=hN σ3 H3 n3;exact⟨m',hm,σ3,H3,I3,w3⟩
  | brk=>exact q3
  | ret v=>exact q3
 | false =>rw[Lk LF];exact OY ⟨σ1,H2,I2,q2⟩
end
structure It where
 go:Nat->Hp->Prop
 yld:Nat->Hp->V->Hp->Prop
 stop:Nat->Hp->Prop
def dS (X:Cx)(Qz:List (PU×Qi))(H:Hp)(b:PU):Prop :=
 H b=none/\b≠X.env.locals/\b ∉ X.fs/\(b∈X.ex\/X.s₀.heap.objs.size<=b)/\(∀x c,X.env.cells.lookup x=some c->c≠b)/\∀p∈X.pn++Qz,p.1≠b
def Inv.fpOk {X:Cx}{O:St}{H H':Hp}{s:PV}{b:PU}(I:Inv X Qz O H s)(hb:s.heap.objs.size<=b)(hn:H' b=none):dS X Qz H' b:=by
 refine⟨hn,PJ (LJ I.lt hb),I.nofs hb,.inr (LS I.sz hb),λx c e z=>?_,λp hp z=>?_⟩
 .obtain⟨v,q⟩:=I.cell x c e;exact absurd (LJ q.lt (by rw[z];exact hb)) (MK _)
 .exact absurd (LJ (Lw (I.pin p hp).1) (by rw[z];exact hb)) (MK _)
structure Turn (P:PX) (w:PY) (K:Qf) (tg:Qd) (J:It) (fp:List PU) (it:PU) (tn:Nat->Qe->Prop):Prop where
 mem:it∈fp
 obj:∀i h,tn i h->∀b∈fp,∃o,h.get? b=some o/\∀v,o.data ≠ .cell v
 keep:∀i h h',tn i h->(∀b∈fp,∀o,h.get? b=some o->h'.get? b=some o)->tn i h'
 item:∀(X:Cx),X.prog=P->X.w=w->X.K=K->X.calm=true->∀(i:Nat) (Qz:List (PU×Qi)) (s:PV) (O:St) (H:Hp) (E:PR->PV->Prop),Inv X Qz O H s->(∀b∈fp,dS X Qz H b)->tn i s.heap->J.go i H ->
  Qm (model P w) X.A (pyNext (.ref it)) (λr s1=>∃u,r=some u /\
   Qm (model P w) X.A (letOwnedTupleGo tg (.ref it) u) (λ_ s2=>∃x H',Inv X Qz O H' s2/\x3 x u/\J.yld i H x H'/\tn (i+1) s2.heap/\∀b∈fp,H' b=none) E s1) E s
 done:∀(X:Cx),X.prog=P->X.w=w->X.K=K->X.calm=true->∀(i:Nat) (Qz:List (PU×Qi)) (s:PV) (O:St) (H:Hp) (E:PR->PV->Prop),Inv X Qz O H s->(∀b∈fp,dS X Qz H b)->tn i s.heap->J.stop i H ->
  Qm (model P w) X.A (pyNext (.ref it)) (λr s1=>r=none/\Inv X Qz O H s1) E s
 self:∀(A:PZ) (i:Nat) (s:PV) (Q:PR->PV->Prop) (E:PR->PV->Prop),tn i s.heap->Q (.ref it) s->Qm (model P w) A (pyIter (.ref it)) Q E s
abbrev TI :=St->Hp->(It->Hp->Prop)->Prop
def PIE (X:Cx)(Qz:List (PU×Qi))(O:St)(tg:Qd)(R:It->Hp->Prop)(itv:PR)(s2:PV):Prop :=
 ∃(it:PU) (fp:List PU) (tn:Nat->Qe->Prop) (J:It) (H':Hp),itv = .ref it/\Inv X Qz O H' s2/\Turn X.prog X.w X.K tg J fp it tn/\tn 0 s2.heap/\(∀b∈fp,dS X Qz H' b)/\R J H'
def PI (X:Cx)(tg iter:Qd)(wi:TI):Prop :=
 ∀(Qz:List (PU×Qi)) (s:PV) (O:St) (H:Hp) (R:It->Hp->Prop),Inv X Qz O H s->wi O H R ->
  Qm (model X.prog X.w) X.A (eval iter X.env) (λv s1=>Qm (model X.prog X.w) X.A (pyIter v) (PIE X Qz O tg R) X.xe s1) X.xe s
def xU {M:Model}{A:PZ}{E:PR->PV->Prop}{s:PV}{it:PU}{u:PR}{o:Qi}{n:String}{vs:Array PR}{Q:Unit->PV->Prop}(ho:s.heap.get? it=some o)(hc:o.cls = .type n)(hd:o.data = .fields vs)
    (hn:["enumerate","zip","dict_itemiterator","dict_reverseitemiterator","odict_iterator","itertools.zip_longest","itertools.pairwise"].contains n=false) (hQ:Q () s):Qm M A (letOwnedTupleGo tg (.ref it) u) Q E s:=by
  unfold letOwnedTupleGo;cases tg <;> first
    | exact Lo hQ
    | (cases u <;> first
        | exact Lo hQ
        | (refine Ld (wpAny_load ho ?_)
           rw[hc,hd]
           show Qm M A (if (["enumerate","zip","dict_itemiterator","dict_reverseitemiterator","odict_iterator","itertools.zip_longest","itertools.pairwise"].contains n&&vs[0]? == some (rawInt _))=true then _ else _) Q E s
           rw[Lk (by intro h;rw[hn,Pi]at h;cases h)]
           exact Lo hQ))
def Itl (K:Qf)(a:PU):It :=
 ⟨λi H=>∃xs x,SqL K H a xs/\xs[i]? = some x,λi H x H'=>H'=H/\∀xs,SqL K H a xs->xs[i]? = some x,λi H=>∃xs,SqL K H a xs/\xs.length<=i⟩
def Itt (K:Qf)(a:PU):It :=
 ⟨λi H=>∃xs x,SqT K H a xs/\xs[i]? = some x,λi H x H'=>H'=H/\∀xs,SqT K H a xs->xs[i]? = some x,λi H=>∃xs,SqT K H a xs/\xs.length<=i⟩
def Itr (lo:Int)(n:Nat):It:=⟨λi _=>i<n,λi H x H'=>H'=H/\x = .int (lo+i),λi _=>n<=i⟩
def ua {P:PX}{w:PY}{K:Qf}(a it:PU):Turn P w K tg (Itl K a) [it] it (λi h=>h.IsListIter it a i) where
 mem:=by simp
 obj:=λi h st b hb=>by
  have e:b=it:=by simpa using hb
  subst e;obtain⟨o,e,c,d⟩:=st;exact⟨o,e,λv z=>by rw[d]at z;cases z⟩
 keep:=λi h h' st k=>st.at λo e=>k it (by simp) o e
 item:=by
  walk_at "ko";obtain⟨xs,x,hq,hx⟩:=hg;obtain⟨its,rv,p,hz⟩:=I.list hq;obtain⟨u,hu,ru⟩:=rv.get hx;obtain⟨f0,f1,f2,f3,f4,f5⟩:=hf it (by simp);refine wpAny_pyNext_list_item st p.isList (x:=u) (by simpa using hu) λh' st' sb=>?_
  have I1:Inv X Qz O H { s with heap:=h' }:=I.turned (t':=s.toks) (λb o hb e=>(sb.2 b hb).trans e) f0 f1 f3 f4 f5;obtain⟨o,e,c,d⟩:=id st';exact⟨u,rfl,xU (s:={ s with heap:=h' }) e c d (by decide) ⟨x,H,I1,ru,⟨rfl,λys hy=>by rw[I.list_inj hy hq];exact hx⟩,st',λb hb=>(hf b hb).1⟩⟩
 done:=by intro X hP hw hK hc i Qz s O H E I hf st hg;subst hP hw hK;obtain⟨xs,hq,hx⟩:=hg;obtain⟨its,rv,p,hz⟩:=I.list hq;obtain⟨f0,f1,f2,f3,f4,f5⟩:=hf it (by simp);have hl:=rv.length;exact wpAny_pyNext_list_end (I.ok.hd hc) st p.isList (by simp;omega) λh' eb=>⟨rfl,I.turned (t':=s.toks) (λb o hb e=>eb b o hb e) f0 f1 f3 f4 f5⟩
 self:=λ_ _ _ _ _ st h=>wpAny_pyIter_listiter st h
def pE {P:PX}{w:PY}{K:Qf}(a it:PU):Turn P w K tg (Itt K a) [it] it (λi h=>h.IsTupleIter it a i) where
 mem:=by simp
 obj:=λi h st b hb=>by
  have e:b=it:=by simpa using hb
  subst e;obtain⟨o,e,c,d⟩:=st;exact⟨o,e,λv z=>by rw[d]at z;cases z⟩
 keep:=λi h h' st k=>st.at λo e=>k it (by simp) o e
 item:=by
  walk_at "ko";obtain⟨xs,x,hq,hx⟩:=hg;obtain⟨its,rv,p,hz⟩:=I.tuple hq;obtain⟨u,hu,ru⟩:=rv.get hx;obtain⟨f0,f1,f2,f3,f4,f5⟩:=hf it (by simp);refine wpAny_pyNext_tuple_item st (show s.heap.IsTuple a its.toArray from p) (x:=u) (by simpa using hu) λh' st' sb=>?_
  have I1:Inv X Qz O H { s with heap:=h' }:=I.turned (t':=s.toks) (λb o hb e=>(sb.2 b hb).trans e) f0 f1 f3 f4 f5;obtain⟨o,e,c,d⟩:=id st';exact⟨u,rfl,xU (s:={ s with heap:=h' }) e c d (by decide) ⟨x,H,I1,ru,⟨rfl,λys hy=>by rw[I.tuple_inj hy hq];exact hx⟩,st',λb hb=>(hf b hb).1⟩⟩
 done:=by intro X hP hw hK hc i Qz s O H E I hf st hg;subst hP hw hK;obtain⟨xs,hq,hx⟩:=hg;obtain⟨its,rv,p,hz⟩:=I.tuple hq;obtain⟨f0,f1,f2,f3,f4,f5⟩:=hf it (by simp);have hl:=rv.length;exact wpAny_pyNext_tuple_end (I.ok.hd hc) st (show s.heap.IsTuple a its.toArray from p) (by simp;omega) λh' eb=>⟨rfl,I.turned (t':=s.toks) (λb o hb e=>eb b o hb e) f0 f1 f3 f4 f5⟩
 self:=λ_ _ _ _ _ st h=>wpAny_pyIter_tupleiter st h
def pC {P:PX}{w:PY}{K:Qf}(it:PU)(lo:Int)(n:Nat):Turn P w K tg (Itr lo n) [it] it (λi h=>IsRangeIter h it (lo+(i:Nat)*1) ((n:Int)-(i:Nat)) 1) where
 mem:=by simp
 obj:=λi h st b hb=>by
  have e:b=it:=by simpa using hb
  subst e;exact⟨_,st,λv z=>by have z':Data.fields _=Data.cell v:=z;cases z'⟩
 keep:=λi h h' st k=>k it (by simp) _ st
 item:=by
  walk_at "ko";obtain⟨f0,f1,f2,f3,f4,f5⟩:=hf it (by simp);have W:=Walks.range (prog:=X.prog) (w:=X.w) (I.ok.hd hc) it lo 1 n;refine W.item i s _ _ hg st λv h' tk hv st' kk=>?_
  obtain⟨t,rfl⟩:=hv;have I1:Inv X Qz O H { s with heap:=h',toks:=tk }:=I.turned (λb o hb e=>kk b o (by simpa using hb) e) f0 f1 f3 f4 f5;refine⟨_,rfl,xU (s:={ s with heap:=h',toks:=tk }) (n:="range_iterator") st' rfl rfl (by decide) ⟨.int (lo+i),H,I1,⟨t,?_⟩,⟨rfl,rfl⟩,st',λb hb=>(hf b hb).1⟩⟩;rw[Int.mul_one]
 done:=by intro X hP hw hK hc i Qz s O H E I hf st hg;subst hP hw hK;obtain⟨f0,f1,f2,f3,f4,f5⟩:=hf it (by simp);exact wpAny_pyNext_range_end (I.ok.hd hc) st (by have:n<=i:=hg;omega) λh' eb=>⟨rfl,I.turned (t':=s.toks) (λb o hb e=>eb b o hb e) f0 f1 f3 f4 f5⟩
 self:=λ_ _ _ _ _ st h=>wpAny_pyIter_rangeiter st h
end
variable {fp:List PU}
section
section
variable {X:Cx}
def vj {O:St}{H:Hp}{s:PV}{R:It->Hp->Prop}{E:PR->PV->Prop}{lo hi:Int}{t u v:Tok}{tk:Nat}(I:Inv X Qz O H s)(h1:-(2 ^ 62)<=lo)(h2:lo<2 ^ 62)(h3:-(2 ^ 62)<=hi)(h4:hi<2 ^ 62)
  (q:R (Itr lo (hi-lo).toNat) H):Qm (model X.prog X.w) X.A (pyIter (.ref s.heap.objs.size)) (PIE X Qz O tg R) E { s with heap:=s.heap.push { cls:=.type "range",data:=.fields #[.int lo t,.int hi u,.int 1 v] },toks:=tk }:=by
 refine wpAny_pyIter_range (IsRange.new ..) (small_one h1 h2 h3 h4) ?_;have I1:Inv X Qz O H { s with heap:=s.heap.push { cls:=.type "range",data:=.fields #[.int lo t,.int hi u,.int 1 v] },toks:=tk }:=I.kept λb o e=>Ll _ e
 refine⟨(s.heap.push { cls:=.type "range",data:=.fields #[.int lo t,.int hi u,.int 1 v] }).objs.size,[(s.heap.push { cls:=.type "range",data:=.fields #[.int lo t,.int hi u,.int 1 v] }).objs.size],_,_,H,rfl,
  I1.kept (t':=tk) λb o e=>Ll _ e,pC _ lo (hi-lo).toNat,?_,λb hb=>?_,q⟩
 .have e1:lo+((0:Nat):Int)*1=lo:=by simp
  have e2:(((hi-lo).toNat:Nat):Int)-((0:Nat):Int)=Builtin.Range.rangeSize lo hi 1:=by rw[rangeSize_one];split <;> omega
  show IsRangeIter _ _ (lo+((0:Nat):Int)*1) ((((hi-lo).toNat:Nat):Int)-((0:Nat):Int)) 1;rw[e1,e2];exact LI _ rfl
 .have e:b=(s.heap.push { cls:=.type "range",data:=.fields #[.int lo t,.int hi u,.int 1 v] }).objs.size:=by simpa using hb
  subst e;exact I1.fpOk (Ln _) (I1.hok.fresh (Ln _))
def vQ (ta:TA):TI:=λO H R=>ta O H λvs H1=>∃j:Int,vs=[.int j] /\ -(2 ^ 62)<=j/\j<2 ^ 62/\R (Itr 0 j.toNat) H1
def kD {a:Qd}{ta:TA}{p:Pos}(hg:Gl X "range")(hm:X.mg "range" = none)(ha:PA X [a] ta)(hs:Qh [a] X.env=[(false,eval a X.env)]:=by rfl):PI X tg (.Call (.Name "range" p) [a] [] pos) (vQ ta):=by
 intro Qz s O H R I h;refine Call_ (dq I hg hm boot_range (Np (thn (ha pos Qz s O H _ I h) λus s1 ⟨vs,H1,I1,r1,q1⟩=>?_) hs rfl));obtain⟨j,e,q1,q2,q⟩:=q1;subst e;cases r1 with
 | cons r rr =>cases rr;obtain⟨t,rfl⟩:=r;exact call_range_1 (vj I1 (by omega) (by omega) q1 q2 (by simpa using q))
def uP (wi:TI)(g:TG)(tb:TS):TS:=λD O H=>wi O H λJ H1=>∃W:Nat->Nat->St->Hp->Prop,(∃m,W 0 m O H1)/\∀i m O H,W i m O H ->
 (J.stop i H/\D.nx O H)\/(J.go i H/\∃N:St->Hp->Prop,(∀O' H',N O' H'->∃m',m'<m/\W (i+1) m' O' H')/\∀x H',J.yld i H x H'->g x O H' λσ2 H2=>tb { D with nx:=N,ct:=N,bk:=D.nx } σ2 H2)
def ff (fp:List PU)(h:Qe):List (PU×Qi):=fp.filterMap λb=>(h.get? b).map λo=>(b,o)
def R9 {h:Qe}{b:PU}{o:Qi}(hb:b∈fp)(e:h.get? b=some o):(b,o)∈ff fp h:=Ot.2 ⟨b,hb,by rw[e];rfl⟩
def uR {h:Qe}{p:PU×Qi}(hp:p∈ff fp h):p.1∈fp/\h.get? p.1=some p.2:=by
 obtain⟨b,hb,e⟩:=Ot.1 hp;cases q:h.get? b with
 | none=>rw[q]at e;cases e
 | some o =>rw[q]at e;have e':(b,o)=p:=Lr e;subst e';exact⟨hb,q⟩
def Inv.pinned {O:St}{H:Hp}{s:PV}(I:Inv X Qz O H s)(hf:∀b∈fp,dS X Qz H b)(ho:∀b∈fp,∃o,s.heap.get? b=some o/\∀v,o.data ≠ .cell v):Inv X (Qz++ff fp s.heap) O H s :=
 I.pins_of λp hp=>(Li.1 hp).elim (λz=>I.pin p (LA _ z)) λz=>by obtain⟨hb,e⟩:=uR z;obtain⟨f0,f1,f2,_⟩:=hf p.1 hb;obtain⟨o,e',d⟩:=ho p.1 hb;rw[e]at e';cases e';exact⟨e,f0,f1,f2,d⟩
def Inv.unpinned {pl:List (PU×Qi)}{O:St}{H:Hp}{s:PV}(I:Inv X (Qz++pl) O H s):Inv X Qz O H s:=I.pins_of λp hp=>I.pin p (LA _ (OX _ hp))
def qa {iter:Qd}{wi:TI}{g:TG}{tb:TS}(hp:PassesOwn (model X.prog X.w) X.A X.env X.xe)(hc:X.calm=true)(hi:PI X tg iter wi)(hg:PG X tg g)(hb:PSs X body tb)
  (hs:∀x,Qr iter X.env x=pure x:=by intro _;rfl):PS X (.For tg iter body [] pos) (uP wi g tb):=by
 intro Qz s O H D I h;refine wpAny_For (thn (hi Qz s O H _ I h) λv s1 h1=>thn h1 λitv s2 h2=>?_) hs;obtain⟨it,fp,tn,J,H2,e,I2,T,st2,f2,W,⟨m0,w0⟩,turn⟩:=h2;subst e;have stat:∀{H':Hp},(∀b∈fp,H' b=none)->∀b∈fp,dS X Qz H' b:=λhn b hb=>⟨hn b hb,(f2 b hb).2⟩
 refine codeAny_forLoop_any (λn s'=>∃i O' H',Inv X Qz O' H' s'/\tn i s'.heap/\(∀b∈fp,H' b=none)/\W i n O' H') ?_ m0 ⟨0,O,H2,I2,st2,λb hb=>(f2 b hb).1,w0⟩;rintro n s3 ⟨i,σ3,H3,I3,st3,fr3,w3⟩;rcases turn i n σ3 H3 w3 with ⟨stop,qn⟩ | ⟨go,N,hN,step⟩
 .refine NK hp (thn (T.done X rfl rfl rfl hc i Qz s3 σ3 H3 X.xe I3 (stat fr3) st3 stop) λr s4 ⟨hr,I4⟩=>?_);subst hr;exact OY ⟨σ3,H3,I4,qn⟩
 .refine NK hp (thn (T.item X rfl rfl rfl hc i Qz s3 σ3 H3 X.xe I3 (stat fr3) st3 go) λr s4 ⟨u,hr,h4⟩=>?_);subst hr;refine NK hp (thn h4 λ_ s5 ⟨x,H5,I5,r5,y5,st5,fr5⟩=>?_);have I5':=I5.pinned (stat fr5) (T.obj _ _ st5);refine NK hp (thn (hg _ s5 σ3 H5 x u _ I5' r5 (step x H5 y5)) λ_ s6 ⟨σ6,H6,I6,q6⟩=>?_);refine NK hp (thn (hb _ s6 σ6 H6 _ I6 q6) λf s7 q7=>?_);have again:∀{σ7:St} {H7:Hp},Inv X (Qz++ff fp s5.heap) σ7 H7 s7->N σ7 H7->∃m,m<n/\∃i O' H',Inv X Qz O' H' s7/\tn i s7.heap/\(∀b∈fp,H' b=none)/\W i m O' H':=λ{σ7 H7} I7 n7=>by obtain⟨m',hm,w7⟩:=hN σ7 H7 n7;refine⟨m',hm,i+1,σ7,H7,I7.unpinned,T.keep _ _ _ st5 λb hb o e=>(I7.pin (b,o) (LA _ (LA _ (R9 hb e)))).1,λb hb=>?_,w7⟩;obtain⟨o,e,d⟩:=T.obj _ _ st5 b hb;exact(I7.pin (b,o) (LA _ (LA _ (R9 hb e)))).2.1
  cases f with
  | next=>obtain⟨σ7,H7,I7,n7⟩:=q7;exact again I7 n7
  | cont=>obtain⟨σ7,H7,I7,n7⟩:=q7;exact again I7 n7
  | brk=>obtain⟨σ7,H7,I7,q7⟩:=q7;exact⟨σ7,H7,I7.unpinned,q7⟩
  | ret v=>obtain⟨x7,σ7,H7,I7,r7,q7⟩:=q7;exact⟨x7,σ7,H7,I7.unpinned,r7,q7⟩
end
end
section
abbrev R2 :=V->V->Hp->VK->Prop
def OpR (X:Cx)(f:PR->PR->Sem PR)(r:R2):Prop :=
 ∀(Qz:List (PU×Qi)) (s:PV) (O:St) (H:Hp) (x y:V) (v u:PR) (Q:VK),Inv X Qz O H s->x3 x v->x3 y u->r x y H Q ->
  Qm (model X.prog X.w) X.A (f v u) (EP X Qz O Q) X.xe s
def UnR (X:Cx)(f:PR->Sem PR)(r:V->Hp->VK->Prop):Prop :=
 ∀(Qz:List (PU×Qi)) (s:PV) (O:St) (H:Hp) (x:V) (v:PR) (Q:VK),Inv X Qz O H s->x3 x v->r x H Q ->
  Qm (model X.prog X.w) X.A (f v) (EP X Qz O Q) X.xe s
def J3 (X:Cx)(f:PR)(r:List V->Hp->VK->Prop):Prop :=
 ∀(Qz:List (PU×Qi)) (s:PV) (O:St) (H:Hp) (xs:List V) (us:List PR) (Q:VK),Inv X Qz O H s->r6 xs us->r xs H Q ->
  Qm (model X.prog X.w) X.A (call f us) (EP X Qz O Q) X.xe s
def FX (X:Cx)(r:V->Hp->(Bool->Hp->Prop)->Prop):Prop :=
 ∀(Qz:List (PU×Qi)) (s:PV) (O:St) (H:Hp) (x:V) (v:PR) (Q:Bool->Hp->Prop),Inv X Qz O H s->x3 x v->r x H Q ->
  Qm (model X.prog X.w) X.A (truthy v) (TP X Qz O Q) X.xe s
def tOp (r:R2)(ta tb:TE):TE:=λO H Q=>ta O H λx H1=>tb O H1 λy H2=>r x y H2 Q
def tUn (r:V->Hp->VK->Prop)(ta:TE):TE:=λO H Q=>ta O H λx H1=>r x H1 Q
def rI (C:Int->Int->Prop)(g:Int->Int->V):R2:=λx y H Q=>∃i j,x = .int i/\y = .int j/\C i j/\Q (g i j) H
def rI0 (g:Int->Int->V):R2:=λx y H Q=>∃i j,x = .int i/\y = .int j/\Q (g i j) H
def rU (g:Int->V):V->Hp->VK->Prop:=λx H Q=>∃i,x = .int i/\Q (g i) H
section
variable {X:Cx}{a b c:Qd}{tb tc:TE}
def Di (ha:PE X a ta)(hb:PE X b tb){s:PV}{O:St}{H:Hp}{R:V->V->Hp->Prop}(I:Inv X Qz O H s)
  (h:ta O H λx H1=>tb O H1 λy H2=>R x y H2) {Q:PR->PV->Prop} {f:PR->PR->Sem PR}
  (hf:∀v u s2 x y H2,Inv X Qz O H2 s2->x3 x v->x3 y u->R x y H2->Qm (model X.prog X.w) X.A (f v u) Q X.xe s2) :
  Qm (model X.prog X.w) X.A (eval a X.env) (λv s₁=>Qm (model X.prog X.w) X.A (eval b X.env) (λu s₂=>Qm (model X.prog X.w) X.A (f v u) Q X.xe s₂) X.xe s₁) X.xe s:=by
 refine thn (ha Qz s O H _ I h) λv s1 ⟨x,H1,I1,r1,q1⟩=>?_
 refine thn (hb Qz s1 O H1 _ I1 q1) λu s2 ⟨y,H2,I2,r2,q2⟩=>?_
 exact hf v u s2 x y H2 I2 r1 r2 q2
def D8 {op:Operator}{r:R2}(ho:OpR X (binaryOp op) r)(ha:PE X a ta)(hb:PE X b tb):PE X (.BinOp a op b pos) (tOp r ta tb):=by intro Qz s O H Q I h;exact wpAny_BinOp (Di ha hb I h λv u s2 x y H2 I2 rx ry q=>ho Qz s2 O H2 x y v u Q I2 rx ry q)
def vA {op:UnaryOp}{r:V->Hp->VK->Prop}(ho:UnR X (unaryOp op) r)(ha:PE X a ta):PE X (.UnaryOp op a pos) (tUn r ta):=by intro Qz s O H Q I h;exact UnaryOp_ (thn (ha Qz s O H _ I h) λv s1 ⟨x,H1,I1,r1,q1⟩=>ho Qz s1 O H1 x v Q I1 r1 q1)
def opI {f:PR->PR->Sem PR}{C:Int->Int->Prop}{g:Int->Int->Int}
  (rule:∀(i j:Int) (t u:Tok) (s:PV) (Q:PR->PV->Prop) (E:PR->PV->Prop),C i j->Q (.int (g i j) s.toks) { s with toks:=s.toks+1 }->Qm (model X.prog X.w) X.A (f (.int i t) (.int j u)) Q E s) :
  OpR X f (rI C λi j=>.int (g i j)):=by intro Qz s O H x y v u Q I rx ry h;obtain⟨i,j,rfl,rfl,hc,q⟩:=h;obtain⟨t,rfl⟩:=rx;obtain⟨t',rfl⟩:=ry;exact rule i j t t' s _ _ hc ⟨.int (g i j),H,I.tok _,⟨_,rfl⟩,q⟩
def EY {f:PR->PR->Sem PR}{g:Int->Int->Int}
  (rule:∀(i j:Int) (t u:Tok) (s:PV) (Q:PR->PV->Prop) (E:PR->PV->Prop),Q (.int (g i j) s.toks) { s with toks:=s.toks+1 }->Qm (model X.prog X.w) X.A (f (.int i t) (.int j u)) Q E s) :
  OpR X f (rI0 λi j=>.int (g i j)):=by intro Qz s O H x y v u Q I rx ry h;obtain⟨i,j,rfl,rfl,q⟩:=h;obtain⟨t,rfl⟩:=rx;obtain⟨t',rfl⟩:=ry;exact rule i j t t' s _ _ ⟨.int (g i j),H,I.tok _,⟨_,rfl⟩,q⟩
def zX {f:PR->PR->Sem PR}{g:Int->Int->Bool}
  (rule:∀(i j:Int) (t u:Tok) (s:PV) (Q:PR->PV->Prop) (E:PR->PV->Prop),Q (.bool (g i j)) s->Qm (model X.prog X.w) X.A (f (.int i t) (.int j u)) Q E s) :
  OpR X f (rI0 λi j=>.bl (g i j)):=by intro Qz s O H x y v u Q I rx ry h;obtain⟨i,j,rfl,rfl,q⟩:=h;obtain⟨t,rfl⟩:=rx;obtain⟨t',rfl⟩:=ry;exact rule i j t t' s _ _ ⟨.bl (g i j),H,I,rfl,q⟩
def FH (i j:Int):Prop:=0<j/\j<1073741824
def zF (i j:Int):Prop:=0<=j/\j<=1000000/\i.natAbs<2 ^ 64
def vw (i j:Int):Prop:=(-(2 ^ 64)<i/\i<2 ^ 64)\/(-(2 ^ 64)<j/\j<2 ^ 64)
def vw.ok {i j:Int}(h:vw i j):IntMulOk i j:=by
 rcases h with ⟨h1,h2⟩ | ⟨h1,h2⟩
 .exact .of_left (intBits_le_64 h1 h2)
 .exact .of_right (intBits_le_64 h1 h2)
def aC :OpR X (binaryOp .Add) (rI0 λi j=>.int (i+j)):=EY λ_ _ _ _ _ _ _ q=>add_int q
def vo :OpR X (binaryOp .Sub) (rI0 λi j=>.int (i-j)):=EY λ_ _ _ _ _ _ _ q=>sub_int q
def dI :OpR X (binaryOp .Mult) (rI vw λi j=>.int (i*j)):=opI λ_ _ _ _ _ _ _ hc q=>mul_int q hc.ok
def md :OpR X (binaryOp .FloorDiv) (rI FH λi j=>.int (i / j)):=opI λi j _ _ _ _ _ hc q=>by have h1:(0:Int)<j:=hc.1;have h2:j<1073741824:=hc.2;exact floordiv_int (by omega) (by rw[Int.fdiv_eq_ediv_of_nonneg i (by omega)];exact q) (.inl (PyProof.noPylong_small (by omega)))
def bJ :OpR X (binaryOp .Mod) (rI (λ_ j=>0<j) λi j=>.int (i % j)):=opI λi j _ _ _ _ _ hc q=>by have h1:(0:Int)<j:=hc;exact mod_int' (by omega) (by rw[Int.fmod_eq_emod_of_nonneg i (by omega)];exact q)
def wX :OpR X (binaryOp .Pow) (rI zF λi j=>.int (i ^ j.toNat)):=opI λ_ _ _ _ _ _ _ hc q=>pow_int_small hc.1 hc.2.1 hc.2.2 q
def unI {f:PR->Sem PR}{g:Int->Int}
  (rule:∀(i:Int) (t:Tok) (s:PV) (Q:PR->PV->Prop) (E:PR->PV->Prop),Q (.int (g i) s.toks) { s with toks:=s.toks+1 }->Qm (model X.prog X.w) X.A (f (.int i t)) Q E s) :
  UnR X f (rU λi=>.int (g i)):=by intro Qz s O H x v Q I rx h;obtain⟨i,rfl,q⟩:=h;obtain⟨t,rfl⟩:=rx;exact rule i t s _ _ ⟨.int (g i),H,I.tok _,⟨_,rfl⟩,q⟩
def rh :UnR X (unaryOp .USub) (rU λi=>.int (-i)):=unI λ_ _ _ _ _ q=>neg_int q
end
def EZ:V->V->Bool
 | .non,.non=>true | .non,.int _=>true | .int _,.non=>true | .non,.bl _=>true | .bl _,.non=>true | .non,.str _=>true | .str _,.non=>true
 | .int _,.int _=>true | .bl _,.bl _=>true | .str _,.str _=>true | .byt _,.byt _=>true
 | .int _,.str _=>true | .str _,.int _=>true | .bl _,.str _=>true | .str _,.bl _=>true
 | _,_=>false
def rEq :R2:=λx y H Q=>EZ x y=true/\Q (.bl (decide (x=y))) H
def rNe :R2:=λx y H Q=>EZ x y=true/\Q (.bl (!decide (x=y))) H
def sG {i j:Int}:decide (V.int i=V.int j)=(i == j):=by rw[NX];simp
def wB {i j:Bool}:decide (V.bl i=V.bl j)=(i == j):=by rw[NX];simp
def se {i j:Str}:decide (V.str i=V.str j)=(i == j):=by rw[NX];simp
def sF {i j:Array UInt8}:decide (V.byt i=V.byt j)=(i.toList == j.toList):=by rw[NX];cases i;cases j;simp
section
variable {X:Cx}{a b c:Qd}{tb tc:TE}
def y9 {O:St}{H:Hp}{s:PV}{Q:VK}{k k':Bool}(I:Inv X Qz O H s)(q:Q (.bl k) H)(e:k=k'):EP X Qz O Q (.bool k') s:=by subst e;exact⟨.bl k,H,I,rfl,q⟩
def xu :OpR X (compareOp .Eq) rEq:=by
 intro Qz s O H x y v u Q I rx ry h;obtain⟨hs,q⟩:=h;cases x with
 | non =>
  cases rx;cases y with
  | non=>cases ry;exact PySem.EqNone.eq_none_none (y9 I q (by simp))
  | bl j=>cases ry;exact PySem.EqNone.eq_none_bool (y9 I q (by simp))
  | int j=>obtain⟨t',rfl⟩:=ry;exact PySem.EqNone.eq_none_int (y9 I q (by simp))
  | str j=>obtain⟨t',rfl⟩:=ry;exact PySem.EqNone.eq_none_str (y9 I q (by simp))
  | _=>exact absurd (show false=true from hs) LF
 | bl i =>
  cases rx;cases y with
  | non=>cases ry;exact PySem.EqNone.eq_bool_none (y9 I q (by simp))
  | bl j=>cases ry;exact eq_bool (y9 I q wB)
  | str j=>obtain⟨t',rfl⟩:=ry;exact PySem.EqMixed.eq_bool_str (y9 I q (by simp))
  | _=>exact absurd (show false=true from hs) LF
 | int i =>
  obtain⟨t,rfl⟩:=rx;cases y with
  | non=>cases ry;exact PySem.EqNone.eq_int_none (y9 I q (by simp))
  | int j=>obtain⟨t',rfl⟩:=ry;exact eq_int (y9 I q sG)
  | str j=>obtain⟨t',rfl⟩:=ry;exact PySem.EqMixed.eq_int_str (y9 I q (by simp))
  | _=>exact absurd (show false=true from hs) LF
 | str i =>
  obtain⟨t,rfl⟩:=rx;cases y with
  | non=>cases ry;exact PySem.EqNone.eq_str_none (y9 I q (by simp))
  | bl j=>cases ry;exact PySem.EqMixed.eq_str_bool (y9 I q (by simp))
  | int j=>obtain⟨t',rfl⟩:=ry;exact PySem.EqMixed.eq_str_int (y9 I q (by simp))
  | str j=>obtain⟨t',rfl⟩:=ry;exact eq_str (y9 I q se)
  | _=>exact absurd (show false=true from hs) LF
 | byt i =>
  obtain⟨t,rfl⟩:=rx;cases y with
  | byt j=>obtain⟨t',rfl⟩:=ry;exact PySem.W.eq_bytes (y9 I q sF)
  | _=>exact absurd (show false=true from hs) LF
 | _=>cases y <;> exact absurd (show false=true from hs) LF
def DK :OpR X (compareOp .NotEq) rNe:=by
 intro Qz s O H x y v u Q I rx ry h;obtain⟨hs,q⟩:=h;cases x with
 | non =>
  cases rx;cases y with
  | non=>cases ry;exact PySem.EqNone.ne_none_none (y9 I q (by simp))
  | bl j=>cases ry;exact PySem.EqNone.ne_none_bool (y9 I q (by simp))
  | int j=>obtain⟨t',rfl⟩:=ry;exact PySem.EqNone.ne_none_int (y9 I q (by simp))
  | str j=>obtain⟨t',rfl⟩:=ry;exact PySem.EqNone.ne_none_str (y9 I q (by simp))
  | _=>exact absurd (show false=true from hs) LF
 | bl i =>
  cases rx;cases y with
  | non=>cases ry;exact PySem.EqNone.ne_bool_none (y9 I q (by simp))
  | bl j=>cases ry;exact ne_bool (y9 I q (MF not wB))
  | str j=>obtain⟨t',rfl⟩:=ry;exact PySem.EqMixed.ne_bool_str (y9 I q (by simp))
  | _=>exact absurd (show false=true from hs) LF
 | int i =>
  obtain⟨t,rfl⟩:=rx;cases y with
  | non=>cases ry;exact PySem.EqNone.ne_int_none (y9 I q (by simp))
  | int j=>obtain⟨t',rfl⟩:=ry;exact ne_int (y9 I q (MF not sG))
  | str j=>obtain⟨t',rfl⟩:=ry;exact PySem.EqMixed.ne_int_str (y9 I q (by simp))
  | _=>exact absurd (show false=true from hs) LF
 | str i =>
  obtain⟨t,rfl⟩:=rx;cases y with
  | non=>cases ry;exact PySem.EqNone.ne_str_none (y9 I q (by simp))
  | bl j=>cases ry;exact PySem.EqMixed.ne_str_bool (y9 I q (by simp))
  | int j=>obtain⟨t',rfl⟩:=ry;exact PySem.EqMixed.ne_str_int (y9 I q (by simp))
  | str j=>obtain⟨t',rfl⟩:=ry;exact ne_str (y9 I q (MF not se))
  | _=>exact absurd (show false=true from hs) LF
 | byt i =>
  obtain⟨t,rfl⟩:=rx;cases y with
  | byt j=>obtain⟨t',rfl⟩:=ry;exact PySem.W.ne_bytes (y9 I q (MF not sF))
  | _=>exact absurd (show false=true from hs) LF
 | _=>cases y <;> exact absurd (show false=true from hs) LF
def Ba :OpR X (compareOp .Lt) (rI0 λi j=>.bl (decide (i<j))):=zX λ_ _ _ _ _ _ _ q=>lt_int q
def Fp :OpR X (compareOp .LtE) (rI0 λi j=>.bl (decide (i<=j))):=zX λ_ _ _ _ _ _ _ q=>le_int q
def AZ :OpR X (compareOp .Gt) (rI0 λi j=>.bl (decide (j<i))):=zX λ_ _ _ _ _ _ _ q=>gt_int q
def Bw :OpR X (compareOp .GtE) (rI0 λi j=>.bl (decide (j<=i))):=zX λ_ _ _ _ _ _ _ q=>ge_int q
def BA :OpR X (compareOp .Is) (λx y H Q=>y = .non/\Q (.bl (decide (x = .non))) H):=by
 intro Qz s O H x y v u Q I rx ry h;obtain⟨rfl,q⟩:=h;cases ry;refine is_none_gen (y9 I q ?_);cases x <;> first
  | (cases rx;rfl)
  | (obtain⟨t,rfl⟩:=rx;rfl)
def AC :OpR X (compareOp .IsNot) (λx y H Q=>y = .non/\Q (.bl (!decide (x = .non))) H):=by
 intro Qz s O H x y v u Q I rx ry h;obtain⟨rfl,q⟩:=h;cases ry;refine isnot_none_gen (y9 I q ?_);cases x <;> first
  | (cases rx;rfl)
  | (obtain⟨t,rfl⟩:=rx;rfl)
def Z9 (b:Qd){op:CmpOp}(h:op ≠ .In:=by decide)(h2:op ≠ .NotIn:=by decide):behindInMarks op b=false:=by
 have e1:(op == CmpOp.In)=false:=by cases op <;> first | rfl | exact absurd rfl h
 have e2:(op == CmpOp.NotIn)=false:=by cases op <;> first | rfl | exact absurd rfl h2
 cases b <;> simp[behindInMarks,e1,e2]
def gU {op:CmpOp}{r:R2}(ho:OpR X (compareOp op) r)(ha:PE X a ta)(hb:PE X b tb)(hm:behindInMarks op b=false):PE X (.Compare a [op] [b] pos) (tOp r ta tb):=by intro Qz s O H Q I h;exact wpAny_Compare1 (Di ha hb I h λv u s2 x y H2 I2 rx ry q=>ho Qz s2 O H2 x y v u Q I2 rx ry q) hm
def bR (t:TE):TT:=λO H Q=>t O H λx H'=>∃k,x = .bl k/\Q k H'
def T3 {op:CmpOp}{r:R2}(ho:OpR X (compareOp op) r)(ha:PE X a ta)(hb:PE X b tb)(hm:behindInMarks op b=false):PT X (.Compare a [op] [b] pos) (bR (tOp r ta tb)):=by
 intro Qz s O H Q I h;refine wpAny_isTrue_Compare1 (thn (ha Qz s O H _ I h) λv s1 ⟨x,H1,I1,r1,q1⟩=>thn (hb Qz s1 O H1 _ I1 q1) λu s2 ⟨y,H2,I2,r2,q2⟩ =>
  thn (ho Qz s2 O H2 x y v u _ I2 r1 r2 q2) λc s3 ⟨z,H3,I3,r3,k,e,q3⟩=>?_) hm
 subst e;cases r3;exact Ny ⟨H3,I3,q3⟩
def pM (r r':R2)(ta tb tc:TE):TE:=λO H Q=>ta O H λx H1=>tb O H1 λy H2=>r x y H2 λz H3=>∃k,z = .bl k /\
 (if k=true then tc O H3 λw' H4=>r' y w' H4 Q else Q (.bl false) H3)
def vI {op op':CmpOp}{r r':R2}(ho:OpR X (compareOp op) r)(ho':OpR X (compareOp op') r')(ha:PE X a ta)(hb:PE X b tb)(hc:PE X c tc)
  (hm:lastMarks [op,op'] [b,c]=false:=by with_unfolding_all rfl):PT X (.Compare a [op,op'] [b,c] pos) (bR (pM r r' ta tb tc)):=by
 intro Qz s O H Q I h;refine isTrue_chain (thn (ha Qz s O H _ I h) λv s1 ⟨x,H1,I1,r1,q1⟩=>test_link (thn (hb Qz s1 O H1 _ I1 q1) λu s2 ⟨y,H2,I2,r2,q2⟩ =>
  thn (ho Qz s2 O H2 x y v u _ I2 r1 r2 q2) λd s3 ⟨z,H3,I3,r3,k,e,q3⟩=>?_)) hm
 subst e;cases r3;refine Ny ?_;cases k with
 | false =>obtain⟨k',e',q'⟩:=q3;cases e';exact ite_ff ⟨H3,I3,q'⟩
 | true =>refine ite_tt (test_last (thn (hc Qz s3 O H3 _ I3 q3) λw' s4 ⟨z',H4,I4,r4,q4⟩=>thn (ho' Qz s4 O H4 y z' u w' _ I4 r2 r4 q4) λd' s5 ⟨z2,H5,I5,r5,k2,e2,q5⟩=>?_));subst e2;cases r5;exact Ny ⟨H5,I5,q5⟩
def xE (K:Qf)(x:V)(H:Hp)(k:Bool):Prop :=
 match x with
 | .non=>k=false
 | .bl b=>k=b
 | .int i=>k=(i != 0)
 | .str y=>y.length<=Qg/\k=((y.length:Int) != 0)
 | .byt y=>y.size<=Qg/\k=((y.size:Int) != 0)
 | .ref p=>(∃xs,SqL K H p xs/\k = !xs.isEmpty)\/(∃xs,SqT K H p xs/\k = !xs.isEmpty)\/∃QC,H p=some (.dK QC)/\k = !QC.isEmpty
 | _=>False
def pq {κ:Type}{QC:List (κ×V)}{vs:List (κ×PR)}(r:KV QC vs):(!vs.isEmpty) = !QC.isEmpty:=by cases r <;> rfl
def iy {xs:List V}{its:List PR}(r:r6 xs its):(!its.toArray.isEmpty) = !xs.isEmpty:=by cases r <;> simp
def dC :(Qg:Nat)<2 ^ 63:=by rw[LV];decide
def CU :FX X (λx H Q=>∃k,xE X.K x H k/\Q k H):=by
 intro Qz s O H x v Q I rx h;obtain⟨k,e,q⟩:=h;have hl:=dC;have hs:Qg=16777216:=LV;cases x with
 | non =>cases rx;have e':k=false:=e;subst e';exact truthy_none ⟨H,I,q⟩
 | bl b =>cases rx;have e':k=b:=e;subst e';exact Ny ⟨H,I,q⟩
 | int i =>obtain⟨t,rfl⟩:=rx;have e':k=(i != 0):=e;subst e';exact PySem.P.truthy_int ⟨H,I,q⟩
 | str y =>obtain⟨t,rfl⟩:=rx;obtain⟨hy,e'⟩:y.length<=Qg/\k=((y.length:Int) != 0):=e;subst e';exact PySem.P.truthy_str (by omega) ⟨H,I.tok _,q⟩
 | byt y =>obtain⟨t,rfl⟩:=rx;obtain⟨hy,e'⟩:y.size<=Qg/\k=((y.size:Int) != 0):=e;subst e';exact PySem.W.truthy_bytes (by omega) ⟨H,I.tok _,q⟩
 | ref p =>
  cases rx;have e':(∃xs,SqL X.K H p xs/\k = !xs.isEmpty)\/(∃xs,SqT X.K H p xs/\k = !xs.isEmpty)\/∃QC,H p=some (.dK QC)/\k = !QC.isEmpty:=e;rcases e' with ⟨xs,hx,e'⟩ | ⟨xs,hx,e'⟩ | ⟨QC,hx,e'⟩
  .subst e';obtain⟨its,r,pl,hz⟩:=I.list hx;have hlen:=r.length;exact wpAny_truthy_list pl.isList (by simp only[Ls];omega) ⟨H,I.tok _,by rw[iy r];exact q⟩
  .subst e';obtain⟨its,r,pl,hz⟩:=I.tuple hx;have hlen:=r.length;exact truthy_tuple pl (by simp only[Ls];omega) ⟨H,I.tok _,by rw[iy r];exact q⟩
  .subst e';obtain⟨hz,hS,vs,r,m⟩:QC.length<=Qg/\(p == sysModules)=false/\∃vs,KV QC vs/\s.heap.DictOf (J0 X.prog X.w) p vs:=I.hok p _ hx;have hlen:QC.length=vs.length:=Pr r;exact wpAny_truthy_dict hS m (by omega) ⟨H,I.tok _,by rw[pq r];exact q⟩
 | _=>exact(show False from e).elim
def xa (ha:PE X a ta)(he:∀whole,isTrue a X.env whole=(do let v <-whole;standAt a.pos;holding [v] (truthy v))) :
  PT X a (λO H Q=>ta O H λx H'=>∃k,xE X.K x H' k/\Q k H'):=by intro Qz s O H Q I h;exact isTrue_plain (thn (ha Qz s O H _ I h) λv s1 ⟨x,H1,I1,r1,q1⟩=>CU Qz s1 O H1 x v Q I1 r1 q1) (he _)
def qG :OpR X (binaryOp .Add) (λx y H Q=>∃i j,x = .str i/\y = .str j/\i.length+j.length<=Qg/\Q (.str (i++j)) H):=by intro Qz s O H x y v u Q I rx ry h;obtain⟨i,j,rfl,rfl,hz,q⟩:=h;obtain⟨t,rfl⟩:=rx;obtain⟨t',rfl⟩:=ry;exact add_str (λt' tk=>⟨.str (i++j),H,I.tok _,⟨_,rfl⟩,q⟩) hz
def Q9 {x:V}{us:List PR}(r:r6 [x] us):∃u,us=[u]/\x3 x u:=by
 cases r with
 | cons r1 r2=>cases r2;exact⟨_,rfl,r1⟩
def EX {x y:V}{us:List PR}(r:r6 [x,y] us):∃u w',us=[u,w']/\x3 x u/\x3 y w':=by
 cases r with
 | cons r1 r2 =>
  cases r2 with
  | cons r3 r4=>cases r4;exact⟨_,_,rfl,r1,r3⟩
def tF (hc:X.calm=true):J3 X (.builtin "min") (λxs H Q=>∃i j,xs=[.int i,.int j]/\Q (.int (if j<i then j else i)) H):=by
 walk_at "ks";obtain⟨i,j,rfl,q⟩:=h;obtain⟨u,w',rfl,⟨t,rfl⟩,⟨t',rfl⟩⟩:=EX r;refine min_two_ints (I.ok.hd hc) λh' tk k=>⟨_,H,I.kept k,?_,q⟩
 by_cases hj:j<i
 .rw[Lg hj,Lg hj];exact⟨_,rfl⟩
 .rw[Lk hj,Lk hj];exact⟨_,rfl⟩
def ku :J3 X (.type "int") (λxs H Q=>(∃i,xs=[.int i]/\Q (.int i) H)\/∃k,xs=[.bl k]/\Q (.int (if k then 1 else 0)) H):=by
 walk_at "ks";rcases h with ⟨i,rfl,q⟩ | ⟨k,rfl,q⟩
 .obtain⟨u,rfl,t,rfl⟩:=Q9 r;exact call_int_int ⟨.int i,H,I,⟨_,rfl⟩,q⟩
 .obtain⟨u,rfl,r1⟩:=Q9 r;cases r1;exact call_int_bool ⟨.int (if k then 1 else 0),H,I.tok _,⟨_,rfl⟩,q⟩
end
end
variable {C:PU}
section
section
variable {prog:PX}{w:PY}{A:PZ}{E:PR->PV->Prop}{s:PV}{K:Qf}{x dx f:PU}{mA:Str->Option PR}{name:Str}{v:PR}
end
def jN.some_of {v:V}{o:Option PR}(r:jN (some v) o):∃u,o=some u/\x3 v u:=by
 cases o with
 | none=>exact(show False from r).elim
 | some u=>exact⟨u,rfl,r⟩
section
variable {P:PX}{w:PY}{H H':Hp}{h:Qe}{a dx:PU}{fs fs':List (Str×V)}
end
section
variable {X:Cx}{O:St}{H:Hp}{s:PV}{a dx:PU}{fs:List (Str×V)}{f:Str}{v:V}{A:PZ}{E:PR->PV->Prop}
end
section
variable {X:Cx}{o e value:Qd}{f:Str}{pos' tpos:Pos}{tv:TE}
end
section
variable {X:Cx}{O:St}{H:Hp}{s:PV}{A:PZ}{E:PR->PV->Prop}{Q:PR->PV->Prop}{c:PR}{b:Bool}
end
end
variable {kindOf:Str->Option Qw}
section
structure Room (k:Nat) (A:PZ):Prop where
 hd:A.handled=none
 dp:A.depth+3*k+5<recursionLimit
 un:A.units+16*k+200<Qu
 gd:A.guards=some []
def Room.mono {j k:Nat}{A:PZ}(r:Room k A)(h:j<=k):Room j A:=⟨r.hd,by have:=r.dp;omega,by have:=r.un;omega,r.gd⟩
def Room.deeper {k:Nat}{A:PZ}(r:Room (k+1) A)(env:Qj):Room k (A.deeper env) :=
 ⟨r.hd,by have:=r.dp;show A.depth+1+3*k+5<_;omega,by have:=r.un;show A.units+3+16*k+200<_;omega,r.gd⟩
def Room.depth {k:Nat}{A:PZ}(r:Room k A):A.depth<recursionLimit:=by have:=r.dp;omega
def Room.units {k:Nat}{A:PZ}(r:Room k A):A.units+64<Qu:=by have:=r.un;omega
def K8 :TA:=λ_ H Q=>Q [] H
def B4 (ta:TE)(tr:TA):TA:=λO H Q=>ta O H λx H1=>tr O H1 λxs H2=>Q (x::xs) H2
section
variable {X:Cx}{e:Qd}{t:TA}
def u9 :PA X [] K8:=λ_ _ _ _ H Q I h=>Calls.spliced_nil ⟨[],H,I,.nil,h⟩
def l7 (ha:PE X e te)(hr:PA X es t)(hs:Qh (e::es) X.env=(false,eval e X.env)::Qh es X.env:=by rfl):PA X (e::es) (B4 te t):=by intro pos Qz s O H Q I h;rw[hs];show Qm _ _ (spliced ((false,eval e X.env)::Qk pos (Qh es X.env))) _ _ s;refine Calls.spliced_cons (thn (ha Qz s O H _ I h) λu s1 ⟨x,H1,I1,r1,q1⟩=>?_);exact thn (hr pos Qz s1 O H1 _ I1 q1) λus s2 ⟨xs,H2,I2,r2,q2⟩=>⟨x::xs,H2,I2,.cons r1 r2,q2⟩
def xy (t:TA):TE:=λO H Q=>t O H λxs H1=>xs.length<=Qg/\∀p,H1 p=none->Q (.ref p) (upd H1 p (.tup xs))
def bF (t:TA):TE:=λO H Q=>t O H λxs H1=>xs.length<=Qg/\∀p,H1 p=none->Q (.ref p) (upd H1 p (.lst xs))
def lY {x1}(h:PA X es t):PE X (.Tuple es x1 pos) (xy t):=by intro Qz s O H Q I hq;refine wpAny_Tuple_spliced (thn (h pos Qz s O H _ I hq) λus s1 ⟨xs,H1,I1,r,z,q⟩=>⟨by rw[<-r.length];exact z,?_⟩);have hf:H1 s1.heap.objs.size=none:=I1.hok.fresh (Ln _);refine⟨.ref s1.heap.objs.size,upd H1 s1.heap.objs.size (.tup xs),I1.laid (t':=s1.toks) (λb u e=>Ll _ e) (Ln _) ?_,rfl,q _ hf⟩;exact⟨z,us,r,⟨_,LI _ rfl,rfl,_,rfl⟩⟩
def Q7 (h:PA X es t):PE X (.List es pos) (bF t):=by intro Qz s O H Q I hq;refine wpAny_List_spliced (thn (h pos Qz s O H _ I hq) λus s1 ⟨xs,H1,I1,r,z,q⟩=>⟨by rw[<-r.length];exact z,?_⟩);have hf:H1 s1.heap.objs.size=none:=I1.hok.fresh (Ln _);refine⟨.ref s1.heap.objs.size,upd H1 s1.heap.objs.size (.lst xs),I1.laid (t':=s1.toks) (λb u e=>Ll _ e) (Ln _) ?_,rfl,q _ hf⟩;exact⟨z,us,0,r,LI _ rfl⟩
end
abbrev Sp :=List V->Hp->VK->XK->Prop
abbrev CXT :=List Qj->Hp->PV->XK->PR->PV->Prop
structure Env0 (P:PX) (w:PY) (K:Qf) (mg:Str->Option PR) (base:Qe) (A:PZ) (outer:List Qj) (s:PV) (H:Hp):Prop where
 frames:A.frames=some outer
 mod:Mod K mg base
 bs:∀b o,base.get? b=some o->s.heap.get? b=some o/\H b=none
 bsz:base.objs.size<=s.heap.objs.size
 funs:s.heap.FunFrames base outer
 frf:∀b∈frs outer,H b=none
 hok:HOk P w H s.heap
 bare:AllBare s.gens
def CE (outer:List Qj)(P:PX)(w:PY)(H:Hp)(s:PV)(Q:VK)(u:PR)(s':PV):Prop :=
 ∃v H',s'.os=s.os/\AllBare s'.gens/\Un (frs outer) [] H H' s.heap s'.heap/\HOk P w H' s'.heap/\x3 v u/\Q v H'
def CR (CX:CXT)(outer:List Qj)(P:PX)(w:PY)(H:Hp)(s:PV)(Q:VK)(E:XK)(r:Result)(s':PV):Prop :=
 match r with
 | .ok (.ret u)=>CE outer P w H s Q u s'
 | .ok _=>False
 | .error e=>CX outer H s E e s'
structure FnOk (P:PX) (w:PY) (K:Qf) (mg:Str->Option PR) (base:Qe) (CX:CXT) (k:Nat) (f:PU) (fd:Qb) (ps:List Str) (sp:Sp):Prop where
 len:∀vs H Q E,sp vs H Q E->vs.length=ps.length
 run:∀(A:PZ) (outer:List Qj) (s:PV) (H:Hp) (args:Args) (us:List PR) (vs:List V) (Q:VK) (E:XK),Room k A->Env0 P w K mg base A outer s H->BindsTo s fd args (ps.zip us)->r6 vs us->sp vs H Q E ->
  codeAny (model P w) A (.call (.ref f) args) (CR CX outer P w H s Q E) s
def FnOk.imp {P:PX}{w:PY}{K:Qf}{mg:Str->Option PR}{base:Qe}{CX:CXT}{k:Nat}{f:PU}{fd:Qb}{ps:List Str}{sp sp':Sp}(F:FnOk P w K mg base CX k f fd ps sp)
  (h:∀vs H Q E,sp' vs H Q E->sp vs H Q E):FnOk P w K mg base CX k f fd ps sp' :=
 ⟨λvs H Q E q=>F.len vs H Q E (h _ _ _ _ q),λA outer s H args us vs Q E hr he hb hv hs=>F.run A outer s H args us vs Q E hr he hb hv (h _ _ _ _ hs)⟩
section
variable {X:Cx}{O:St}{H:Hp}{s s':PV}
def Inv.env0 (I:Inv X Qz O H s):Env0 X.prog X.w X.K X.mg X.base X.A X.stack s H :=
 ⟨I.ok.frames,I.ok.mod,I.bs,LS I.ok.bsz I.sz,I.stack,I.stkFree,I.hok,I.bare⟩
def Inv.after {Q:VK}{u:PR}(I:Inv X Qz O H s)(h:CE X.stack X.prog X.w H s Q u s'):EP X Qz O Q u s':=by obtain⟨v,H',os,bare,un,hok,r,q⟩:=h;obtain⟨hh,g,d,t,os'⟩:=s';obtain rfl:os'=s.os:=os;exact⟨v,H',I.call (h':=hh) (g':=g) (d':=d) (t':=t) (ch:=[]) un hok bare (λb z=>absurd z (by simp)),r,q⟩
end
def eY (sp:Sp)(dvs:List V)(E:XK)(t:TA):TE:=λO H Q=>t O H λvs H1=>sp (vs++dvs) H1 Q E
def gc (K:Qf)(fd:Qb)(ps:List Str)(ds:List PR):Prop :=
 ∀(s:PV) (us:List PR),K.In s.heap->(us++ds).length=ps.length->BindsTo s fd ⟨us,[]⟩ (ps.zip (us++ds))
def gc.all {K:Qf}{fd:Qb}{ps:List Str}(h:∀us:List PR,us.length=ps.length->bindArgs fd ⟨us,[]⟩=pure (ps.zip us)):gc K fd ps []:=λs us _ hl=>by rw[Mh]at hl ⊢;exact .of_eq (h us hl)
def pj (CX:CXT)(X:Cx)(E:XK):Prop:=∀(Qz:List (PU×Qi)) (O:St) (H:Hp) (s:PV) (e:PR) (s':PV),Inv X Qz O H s->CX X.stack H s E e s'->X.xe e s'
section
variable {X:Cx}{CX:CXT}{k:Nat}{f:PU}{fd:Qb}{ps:List Str}{sp:Sp}{dvs:List V}{ds:List PR}{E:XK}{x m:Str}{p apos:Pos}{e o:Qd}{t:TA}
def Cu {O:St}{H:Hp}{s:PV}{Q:VK}{us:List PR}{vs:List V}(F:FnOk X.prog X.w X.K X.mg X.base CX k f fd ps sp)(hr:Room k X.A)(hb:gc X.K fd ps ds)(hd:r6 dvs ds)(hx:pj CX X E)
  (I:Inv X Qz O H s) (r:r6 vs us) (h:sp (vs++dvs) H Q E):Qm (model X.prog X.w) X.A (call (.ref f) us) (EP X Qz O Q) X.xe s:=by
 have r2:r6 (vs++dvs) (us++ds):=r.append hd;have hl:(us++ds).length=ps.length:=by rw[<-r2.length];exact F.len _ _ _ _ h
 refine wpAny_call (codeAny_mono (F.run X.A X.stack s H ⟨us,[]⟩ (us++ds) (vs++dvs) Q E hr I.env0 (hb s us I.kIn hl) r2 h) λr s' hq=>?_);cases r with
 | error e=>exact hx Qz O H s e s' I hq
 | ok fl =>
  cases fl with
  | ret u=>exact I.after hq
  | next=>exact False.elim hq
  | brk=>exact False.elim hq
  | cont=>exact False.elim hq
def Ai (F:FnOk X.prog X.w X.K X.mg X.base CX k f fd ps sp)(hr:Room k X.A)(hg:Gl X x)(hm:X.mg x=some (.ref f))(hk:PySem.W.keepIn X.K (.ref f)=true)(hb:gc X.K fd ps ds)(hd:r6 dvs ds)(hx:pj CX X E)
  (ha:PA X (e::es) t) (hdb:(x == ("__debug__":Str))=false:=by decide) (he:Qh (e::es) X.env=(false,eval e X.env)::Qh es X.env:=by rfl) (hpl:(Qk pos (Qh es X.env)).any (·.1)=false:=by rfl) :
  PE X (.Call (.Name x p) (e::es) [] pos) (eY sp dvs E t):=by intro Qz s O H Q I h;refine Pk (rC I hg hm ?_ hdb);refine PySem.W.callWith_K (h₀:=X.base) I.ok.mod.kin hk (thn (ha pos Qz s O H _ I h) λus s1 ⟨vs,H1,I1,r,q⟩=>⟨I1.kIn,?_⟩) he hpl;exact Cu F hr hb hd hx I1 r q
end
section
variable {X:Cx}{CX:CXT}{k:Nat}{f:PU}{fd:Qb}{ps ks:List Str}{sp:Sp}{E:XK}{x m:Str}{p apos kpos:Pos}{e o:Qd}{kws:List Ql}{t tk:TA}{nm:Option Str}
variable {g:List PR->List PR->List PR}{gV:List V->List V->List V}
end
structure FnScope (N P:List Str) (sc:Qa):Prop where
 kind:sc.kind = .function:=by rfl
 co:sc.isCoroutine=false:=by rfl
 gen:sc.isGenerator=false:=by rfl
 nd:N.Nodup:=by decide +kernel
 pre:N.take P.length=P:=by rfl
 par:∀x∈P,sc.names.lookup x=some .local\/sc.names.lookup x=some .cell:=by decide +kernel
 nofree:∀y∈sc.names,y.2 ≠ .free:=by decide +kernel
theorem kN {kindOf:Str->Option Qw}{x:Str}:∀{binds:List (Str×PR)} {m:Str->Option PR},(∀v,(x,v) ∉ binds)->bindL kindOf binds m x=m x
 | [],_,_=>rfl
 | (n,v)::r,m,h=>by
  unfold bindL;rw[kN λw hw=>h w (Le _ hw)];split
  .have:x≠n:=by rintro rfl;exact h v Lq
   simp[this]
  .rfl
theorem kQ {kindOf:Str->Option Qw}{x:Str}:∀{binds:List (Str×PR)} {m:Str->Option PR},(∀v,(x,v) ∉ binds)->bindC kindOf binds m x=m x
 | [],_,_=>rfl
 | (n,v)::r,m,h=>by
  unfold bindC;rw[kQ λw hw=>h w (Le _ hw)];split
  .rfl
  .have:x≠n:=by rintro rfl;exact h v Lq
   simp[this]
def kf {x:Str}{v:PR}:∀{P:List Str} {vs:List PR} {i:Nat} {m:Str->Option PR},P.Nodup->P[i]? = some x->vs[i]? = some v->kindOf x=some .local ->
  bindL kindOf (P.zip vs) m x=some v
 | [],_,_,_,_,h,_,_=>by simp at h
 | _::_,[],_,_,_,_,h,_=>by simp at h
 | p::P,w::vs,0,m,nd,h1,h2,hk=>by
  simp at h1 h2;subst h1;subst h2;show bindL kindOf ((p,w)::P.zip vs) m p=_;unfold bindL;rw[kN λv hv=>(MA.1 nd).1 (PP hv).1,Lg hk];simp
 | p::P,w::vs,i+1,m,nd,h1,h2,hk=>by show bindL kindOf ((p,w)::P.zip vs) m x=_;unfold bindL;exact kf (i:=i) (MA.1 nd).2 (by simpa using h1) (by simpa using h2) hk
def ka {x:Str}{v:PR}:∀{P:List Str} {vs:List PR} {i:Nat} {m:Str->Option PR},P.Nodup->P[i]? = some x->vs[i]? = some v->kindOf x≠some .local ->
  bindC kindOf (P.zip vs) m x=some v
 | [],_,_,_,_,h,_,_=>by simp at h
 | _::_,[],_,_,_,_,h,_=>by simp at h
 | p::P,w::vs,0,m,nd,h1,h2,hk=>by
  simp at h1 h2;subst h1;subst h2;show bindC kindOf ((p,w)::P.zip vs) m p=_;unfold bindC;rw[kQ λv hv=>(MA.1 nd).1 (PP hv).1,Lk hk];simp
 | p::P,w::vs,i+1,m,nd,h1,h2,hk=>by show bindC kindOf ((p,w)::P.zip vs) m x=_;unfold bindC;exact ka (i:=i) (MA.1 nd).2 (by simpa using h1) (by simpa using h2) hk
def O2 (N:List Str)(vs:List V):St:=vs.map some++List.replicate (N.length-vs.length) none
def W6 (CX:CXT)(P:PX)(w:PY)(K:Qf)(mg:Str->Option PR)(base:Qe)(N:List Str)(qual:Str)(scope:Qa)(f:PU)(cd:PR)(A:PZ)(outer:List Qj)(s:PV)(H:Hp)(E:XK):Cx where
 prog:=P
 w:=w
 K:=K
 mg:=mg
 base:=base
 A:=A.deeper (envOfC qual scope s.heap.objs.size f cd)
 N:=N
 s₀:=s
 H₀:=H
 env:=envOfC qual scope s.heap.objs.size f cd
 outer:=outer
 stack:=envOfC qual scope s.heap.objs.size f cd::outer
 ex:=[]
 calm:=true
 fn:=λ_=>true
 pn:=[]
 xe:=λe s'=>Qm (model P w) (A.deeper (envOfC qual scope s.heap.objs.size f cd)) (leaving (envOfC qual scope s.heap.objs.size f cd) e) (λ_ s''=>CX outer H s E e s'') (λe' s''=>CX outer H s E e' s'') s'
def mT {sc:Qa}{n:Nat}{x:Str}(h:sc.names.lookup x=some .cell):∃c,(cellsFrom n sc.names []).lookup x=some c:=by have q:=PySem.W.cellsFrom_some sc.names n [] (.inl h);exact Ou.1 q
def uJ {CX:CXT}{P:PX}{w:PY}{K:Qf}{mg:Str->Option PR}{base:Qe}{N ps:List Str}{qual:Str}{scope:Qa}{f:PU}{cd:PR}{A:PZ}{outer:List Qj}{s s1:PV}{H:Hp}{E:XK}{us:List PR}{vs:List V}
  (S:FnScope N ps scope) (hd:A.handled=none) (e0:Env0 P w K mg base A outer s H) (hl:vs.length=ps.length) (r:r6 vs us)
  (x:InCallC s s.heap.objs.size (bindL (envOfC qual scope s.heap.objs.size f cd).kindOf (ps.zip us) λ_=>none) (cellsFrom (s.heap.objs.size+1) scope.names []) (bindC (envOfC qual scope s.heap.objs.size f cd).kindOf (ps.zip us) λ_=>none) s1) :
  Inv (W6 CX P w K mg base N qual scope f cd A outer s H E) [] (O2 N vs) H s1:=by
 have hpl:ps.length<=N.length:=by have:=MF List.length S.pre;rw[Ms]at this;omega
 obtain⟨h1,tk,rfl,hk⟩:=x.done;have noA:∀b:PU,b ∉ (W6 CX P w K mg base N qual scope f cd A outer s H E).ex:=λb z=>absurd (show b∈([]:List PU) from z) (by simp)
 refine⟨⟨e0.mod,S.kind,rfl,rfl,Ln _,λy z c h1 h2=>?_,λy hy=>?_,λy c _ h=>?_,λ_=>hd,PZ.frames_deeper e0.frames,.inr ⟨rfl,rfl⟩,λb z=>absurd z (noA b),e0.bs,e0.bsz,λb _ _=>noA b,λb z=>absurd z (noA b),e0.funs,e0.frf⟩,
  rfl,e0.bare,Un.kept hk,⟨_,x.toInCall.ns,λi y v h1 h2 h3=>?_⟩,λy c h=>⟨_,x.cell y c h⟩,e0.hok.fresh (Ln _),λy c h=>?_,λp hp=>absurd (show p∈([]:List (PU×Qi)) from hp) (by simp),e0.hok.kept hk,?_⟩
 .exact name_of_addr x.apart (MJ h1) (MJ h2)
 .have hy:scope.names.lookup y=some .cell\/scope.names.lookup y=some .free:=hy;rcases hy with hy | hy
  .exact mT hy
  .exact absurd rfl (S.nofree _ (MJ hy))
 .exact MI (x.above y c (MJ h))
 .have hi:i<vs.length:=by
   unfold O2 at h2;by_cases hi:i<vs.length
   .exact hi
   .rw[LL (by simpa using hi)]at h2;rw[Mg]at h2;split at h2 <;> cases h2
  have ha:vs[i]? = some v:=by
   unfold O2 at h2;rw[LU (by simpa using hi),Lv]at h2;cases e:vs[i]? with
   | none=>rw[e]at h2;cases h2
   | some a=>rw[e]at h2;cases h2;rfl
  obtain⟨u,hu,rv⟩:=r.get ha;have hp:ps[i]? = some y:=by rw[<-S.pre,List.getElem?_take_of_lt (by omega)];exact h1
  have ndP:ps.Nodup:=by rw[<-S.pre];exact S.nd.sublist (List.take_sublist _ _)
  refine⟨u,rv,?_⟩;rcases S.par y (Md hp) with k | k
  .exact .inl ⟨k,kf ndP hp hu k⟩
  .obtain⟨c,e⟩:=mT (n:=s.heap.objs.size+1) k;refine .inr ⟨.inl k,c,e,?_⟩;have q:=x.cell y c e;rw[ka ndP hp hu (by show scope.names.lookup y≠_;rw[k];decide)]at q;exact q
 .exact e0.hok.fresh (MI (x.above y c (MJ h)))
 .unfold O2;show _=N.length;rw[Mp,Lf,Nu];omega
def AK {CX:CXT}{P:PX}{w:PY}{K:Qf}{mg:Str->Option PR}{base:Qe}{k:Nat}{f:PU}{name qual:Str}{params:Arguments}{scope:Qa}{dV kV doc pm QB ct oc:PR}{an od:Option PU}
  {osl:Array (Option PR)} {N ps:List Str} {sp:Sp} (lk:K.lookup f=some ⟨oc,od,.func (PySem.W.fnOf name qual params body scope dV kV doc pm an QB ct),osl⟩) (hcd:PySem.W.codeIn K QB qual=true) (S:FnScope N ps scope)
  (len:∀vs H Q E,sp vs H Q E->vs.length=ps.length)
  (hbody:∀(A:PZ) (outer:List Qj) (s:PV) (H:Hp) (vs:List V) (Q:VK) (E:XK),Room k (A.deeper (envOfC qual scope s.heap.objs.size f QB))->sp vs H Q E ->
   ∃t,PSs (W6 CX P w K mg base N qual scope f QB A outer s H E) body t/\t { nx:=λ_ H'=>Q .non H',rt:=Q } (O2 N vs) H) :
  FnOk P w K mg base CX (k+1) f (PySem.W.fnOf name qual params body scope dV kV doc pm an QB ct) ps sp:=by
 refine⟨len,λA outer s H args us vs Q E hr e0 hb r hsp=>?_⟩;have hl:=len _ _ _ _ hsp;have KX:K.In s.heap:=e0.mod.kin.keeps λb o e=>(e0.bs b o e).1
 have lim:s.heap.NoLimit:=e0.mod.nolimit.keeps λb o e=>(e0.bs b o e).1
 have hkind:∀y∈ps.zip us,scope.names.lookup y.1=some .local\/(scope.names.lookup y.1=some .cell/\((cellsFrom (s.heap.objs.size+1) scope.names []).lookup y.1).isSome=true):=λ⟨n,v⟩ hy=>by
  rcases S.par n (PP hy).1 with q | q
  .exact .inl q
  .exact .inr ⟨q,PySem.W.cellsFrom_some _ _ _ (.inl q)⟩
 refine codeAny_call_function hr.depth (KX _ _ lk) rfl S.co S.gen rfl (PySem.W.codeRec_of KX hcd) (hb _ _ _ _ ?_);refine wpAny_newFunctionEnv_cells S.kind hkind λenv he s1 x=>?_
 subst he;refine⟨lim.keeps x.toInCall.keep,codeAny_func ?_⟩;obtain⟨t,ht,hq⟩:=hbody A outer s H vs Q E (hr.deeper _) hsp;have I:Inv (W6 CX P w K mg base N qual scope f QB A outer s H E) [] (O2 N vs) H s1:=uJ S hr.hd e0 hl r x;refine LX (ht [] s1 (O2 N vs) H _ I hq) (λfl s' hs=>?_) λe s' hs=>hs
 have fin:∀{O':St} {H':Hp} {v:V} {u:PR},Inv (W6 CX P w K mg base N qual scope f QB A outer s H E) [] O' H' s'->x3 v u->Q v H'->CE outer P w H s Q u s' :=
  λ{O' H' v u} J rv q=>⟨v,H',J.os,J.bare,J.base,J.hok,rv,q⟩
 cases fl with
 | ret u =>obtain⟨v,O',H',J,rv,q⟩:=hs;exact fin J rv q
 | next =>obtain⟨O',H',J,q⟩:=hs;exact fin (v:=V.non) (u:=PR.none) J rfl q
 | brk =>obtain⟨_,_,_,q⟩:=hs;exact False.elim q
 | cont =>obtain⟨_,_,_,q⟩:=hs;exact False.elim q
end
section
section
variable {X:Cx}{x:Str}{p:Pos}{e:Qd}{t:TA}{id T:String}{r:List V->Hp->VK->Prop}
def tCB (r:List V->Hp->VK->Prop)(t:TA):TE:=λO H Q=>t O H λvs H1=>r vs H1 Q
def ar (hc:J3 X (.builtin id) r)(hg:Gl X x)(hm:X.mg x=none)(hv:Qq x=some (.builtin id))(ha:PA X (e::es) t)(hn:x ≠ "__name__":=by decide)(hdb:(x == ("__debug__":Str))=false:=by decide)
  (he:Qh (e::es) X.env=(false,eval e X.env)::Qh es X.env:=by rfl) (hpl:(Qk pos (Qh es X.env)).any (·.1)=false:=by rfl):PE X (.Call (.Name x p) (e::es) [] pos) (tCB r t):=by intro Qz s O H Q I h;refine Pk (dq I hg hm hv ?_ hn hdb);exact PyProof.Rows.callWith_builtin1 (thn (ha pos Qz s O H _ I h) λus s1 ⟨vs,H1,I1,r1,q1⟩=>hc Qz s1 O H1 vs us Q I1 r1 q1) he hpl
def cc (hc:J3 X (.type T) r)(hg:Gl X x)(hm:X.mg x=none)(hv:Qq x=some (.type T))(ha:PA X (e::es) t)(hn:x ≠ "__name__":=by decide)(hdb:(x == ("__debug__":Str))=false:=by decide)
  (he:Qh (e::es) X.env=(false,eval e X.env)::Qh es X.env:=by rfl) (hpl:(Qk pos (Qh es X.env)).any (·.1)=false:=by rfl):PE X (.Call (.Name x p) (e::es) [] pos) (tCB r t):=by intro Qz s O H Q I h;refine Pk (dq I hg hm hv ?_ hn hdb);exact Np (thn (ha pos Qz s O H _ I h) λus s1 ⟨vs,H1,I1,r1,q1⟩=>hc Qz s1 O H1 vs us Q I1 r1 q1) he hpl
end
end
end L2
namespace HT
open PySem PyProof.Rows
section
open PySem.SeqAt
open PySem.AutoSeq1 (wpAny_loadPart')
open PySem.MeetsSeq PySem.MeetsSeq2 PySem.MeetsSeq3
end
section
variable {prog:PX}{w:PY}{A:PZ}{E:PR->PV->Prop}{s:PV}
def cat_tup {t b:PU}{vs ws:List PR}{Q:PR->PV->Prop}(ht:IsTup s.heap t vs.toArray)(hb:IsTup s.heap b ws.toArray)(hv:vs≠[])
  (h1:ws=[]->Q (.ref t) s) (h2:ws≠[]->Q (.ref s.heap.objs.size) { s with heap:=s.heap.push { cls:=.type "tuple",data:=.seq (vs++ws).toArray } })
  (hsz:vs.length+ws.length<=Qg):Qm (model prog w) A (binaryOp .Add (.ref t) (.ref b)) Q E s:=by
 obtain⟨⟨cls,dd,data,sl⟩,ho,hc,n,hd⟩:=id ht;obtain⟨⟨cls2,dd2,data2,sl2⟩,ho2,hc2,n2,hd2⟩:=id hb;simp only at hc hd hc2 hd2;subst hc hd hc2 hd2;have e:vs.toArray++ws.toArray=(vs++ws).toArray:=by simp
 by_cases hw:ws=[]
 .exact concat_meets ⟨_,ho,rfl⟩ ⟨_,ho2,rfl⟩ noFill_tuple_add seq_tuple_add OQ OI (Ov _ _)
   (tuple_addW1 t b vs.toArray ws.toArray n n2 dd dd2 sl sl2 (by simpa using hv) (by simp[hw])) ⟨ho,ho2,h1 hw⟩
 .refine concat_meets ⟨_,ho,rfl⟩ ⟨_,ho2,rfl⟩ noFill_tuple_add seq_tuple_add OQ OI (Ov _ _)
   (tuple_addW2 t b vs.toArray ws.toArray n n2 dd dd2 sl sl2 (by simpa using hv) (by simpa using hw) (by rw[Ls,Ls];exact hsz)) ⟨ho,ho2,?_⟩
  rw[e];exact h2 hw
def sIx (n d:Nat):Option Int->Nat
 | none=>d
 | some v=>if v<0 then(v+(n:Int)).toNat else min v.toNat n
def sIx_none (n d:Nat):sIx n d none=d:=rfl
def sIx_nat (n d k:Nat):sIx n d (some (k:Int))=min k n:=by show(if (k:Int)<0 then((k:Int)+(n:Int)).toNat else min (k:Int).toNat n)=min k n;rw[Lk (by omega),MR]
def Cn (n d:Nat)(hd:d<=n)(o:Option Int):sIx n d o<=n:=by
 cases o with
 | none=>exact hd
 | some v =>
  show(if v<0 then(v+(n:Int)).toNat else min v.toNat n)<=n;by_cases hv:v<0
  .rw[Lg hv];omega
  .rw[Lk hv];exact Nat.min_le_right _ _
def rG (v:Int)(n d:Nat):(if v<0 then max (v+(n:Int)) 0 else min v (n:Int))=((sIx n d (some v):Nat):Int):=by
 show(if v<0 then max (v+(n:Int)) 0 else min v (n:Int))=(((if v<0 then(v+(n:Int)).toNat else min v.toNat n):Nat):Int);by_cases hv:v<0
 .simp only[Lg hv];omega
 .simp only[Lk hv];omega
def qL (lo hi:Option Int)(n:Nat):Builtin.Slice.sliceAdjust lo hi 1 (n:Int)=(((sIx n 0 lo:Nat):Int),((sIx n n hi:Nat):Int)):=by
 have h1:¬((1:Int)<0):=by omega
 unfold Builtin.Slice.sliceAdjust;simp only[h1,MO];refine Prod.ext ?_ ?_
 .cases lo with
  | none=>rfl
  | some v=>exact rG v n 0
 .cases hi with
  | none=>rfl
  | some v=>exact rG v n n
def qv (i j:Nat):Builtin.Slice.slicePlaces (i:Int) (j:Int) 1=j-i:=by
 unfold Builtin.Slice.slicePlaces;have h1:(1:Int) > 0:=by omega
 simp only[h1,ML,Int.ediv_one];split <;> omega
def dH {v:PR}{o:Option Int}{Q:Option Int->PV->Prop}(p:IsPart v o)(h:Q o s):Qm (model prog w) A (Builtin.Slice.slicePartIndex v) Q E s:=by
 cases p with
 | none=>exact slicePart_none h
 | int i t=>exact slicePart_int h
def au {sl:PU}{vl vu:PR}{lo hi:Option Int}{n:Nat}{Q:Int×Int×Nat->PV->Prop}(hs:s.heap.IsSliceOf sl vl vu .none)(pl:IsPart vl lo)(pu:IsPart vu hi)
  (h:Q (((sIx n 0 lo:Nat):Int),1,sIx n n hi-sIx n 0 lo) s):Qm (model prog w) A (Builtin.Slice.sliceApplied (.ref sl) (pure (n:Int))) Q E s:=by obtain⟨os,hos,hcs,hds⟩:=id hs;unfold Builtin.Slice.sliceApplied Builtin.Slice.sliceFields;refine Ld (Ld (NH hos hds (x:=vl) rfl (Ld (NH hos hds (x:=vu) rfl (Ld (NH hos hds (x:=.none) rfl (Lo ?_)))))));refine Ld (slicePart_none ?_);show Qm _ _ (if ((1:Int) == 0)=true then _ else _) _ _ s;rw[Lk (by decide)];refine Ld (dH pl (Ld (dH pu (Ld (Lo ?_)))));show Qm _ _ (match Builtin.Slice.sliceAdjust lo hi 1 (n:Int) with | (lo,hi)=>pure (lo,(1:Int),Builtin.Slice.slicePlaces lo hi 1)) _ _ s;rw[qL lo hi n];show Qm _ _ (pure (((sIx n 0 lo:Nat):Int),(1:Int),Builtin.Slice.slicePlaces ((sIx n 0 lo:Nat):Int) ((sIx n n hi:Nat):Int) 1)) _ _ s;rw[qv];exact Lo h
def wR (xs:Array PR)(i k:Nat):((List.range k).filterMap λ(m:Nat)=>xs[((i:Int)+(m:Int)*1).toNat]?).toArray=((xs.toList.drop i).take k).toArray:=by
 have e:(λ(m:Nat)=>xs[((i:Int)+(m:Int)*1).toNat]?) = λm=>xs[i+m]?:=by
  funext m;have:((i:Int)+(m:Int)*1).toNat=i+m:=by omega
  rw[this]
 rw[e];have:=pick_run xs i k;rw[List.filterMap_map]at this;have e2:((λx=>xs[x]?) ∘ λx=>i+x) = λm=>xs[i+m]?:=rfl
 rw[e2]at this;rw[this]
def getItem_tuple_cut {t sl:PU}{items:Array PR}{vl vu:PR}{lo hi:Option Int}{Q:PR->PV->Prop}(ht:IsTup s.heap t items)(hs:s.heap.IsSliceOf sl vl vu .none)(pl:IsPart vl lo)(pu:IsPart vu hi)
  (hw:¬(sIx items.size 0 lo=0/\sIx items.size items.size hi=items.size))
  (h:Q (.ref s.heap.objs.size) { s with heap:=s.heap.push { cls:=.type "tuple",data:=.seq ((items.toList.drop (sIx items.size 0 lo)).take (sIx items.size items.size hi-sIx items.size 0 lo)).toArray } })
  (hsz:items.size<=Qg):Qm (model prog w) A (getItem (.ref t) (.ref sl)) Q E s:=by
 have htake:sizeOk (.seq ((items.toList.drop (sIx items.size 0 lo)).take (sIx items.size items.size hi-sIx items.size 0 lo)).toArray):=by show((items.toList.drop (sIx items.size 0 lo)).take (sIx items.size items.size hi-sIx items.size 0 lo)).toArray.size<=Qg;rw[Ls,Ms,List.length_drop,Na];omega
 have hj:sIx items.size items.size hi<=items.size:=Cn _ _ (Ln _) hi;walk_at "kq";try with_reducible refine MW ?_
 walk_at "kf"
 walk_at "kn";refine Ld (au hs pl pu ?_);have hno:¬((((sIx items.size 0 lo:Nat):Int) == 0&&(1:Int) == 1&&(sIx items.size items.size hi-sIx items.size 0 lo) == items.size)=true):=by intro q;rw[NG,NG]at q;have q1:((sIx items.size 0 lo:Nat):Int)=0:=eq_of_beq q.1.1;have q2:sIx items.size items.size hi-sIx items.size 0 lo=items.size:=eq_of_beq q.2;exact hw ⟨by omega,by omega⟩
 show Qm _ _ (if (((sIx items.size 0 lo:Nat):Int) == 0&&(1:Int) == 1&&(sIx items.size items.size hi-sIx items.size 0 lo) == items.size)=true then _ else _) _ _ s;rw[Lk hno,wR];first
  | exact Ld (m:=Builtin.Tuple.tupleExact _) (Mo (Lo ⟨_,rfl,Lo h⟩) htake)
  | exact Ld (m:=Builtin.Tuple.tupleExact _) (Mo (Ld (Lo (Lo ⟨_,rfl,Lo h⟩))) htake)
  | exact Ld (Ld (m:=Builtin.Tuple.tupleExact _) (Mo (Lo (Lo ⟨_,rfl,Lo h⟩)) htake))
  | exact Ld (Ld (m:=Builtin.Tuple.tupleExact _) (Mo (Lo ⟨_,rfl,Lo h⟩) htake))
end
end HT
namespace L2
open PySem PySem.Spec PyProof.Rows
variable {pos:Pos}
section
abbrev TO :=St->Hp->(Option Int->Hp->Prop)->Prop
def PO (X:Cx)(e:Option Qd)(t:TO):Prop :=
 ∀(Qz:List (PU×Qi)) (s:PV) (O:St) (H:Hp) (Q:Option Int->Hp->Prop),Inv X Qz O H s->t O H Q ->
  Qm (model X.prog X.w) X.A (evalPart e X.env) (λu s'=>∃o H',Inv X Qz O H' s'/\IsPart u o/\Q o H') X.xe s
def rJ :TO:=λ_ H Q=>Q none H
def AQ (t:TE):TO:=λO H Q=>t O H λx H1=>∃i,x = .int i/\Q (some i) H1
def cS {ns:List Int}:∀{us:List PR},r6 (ns.map V.int) us->IntsAre us ns:=by
 induction ns with
 | nil=>intro us r;rw[Mt]at r;cases r;exact .nil
 | cons n ns ih =>
  intro us r;rw[Lu]at r;cases r with
  | cons r1 r2 =>obtain⟨t,e⟩:=r1;subst e;exact .cons n t (ih r2)
section
variable {X:Cx}{e:Qd}{te:TE}{lo hi:Option Qd}{tl th:TO}{p2:Pos}
def rX :PO X none rJ:=by intro Qz s O H Q I h;rw[evalPart_none];exact Lo ⟨none,H,I,.none,h⟩
def mN (h:PE X e te):PO X (some e) (AQ te):=by
 intro Qz s O H Q I hw;rw[evalPart_some];refine thn (h Qz s O H _ I hw) λu s1 ⟨x,H1,I1,r1,q1⟩=>?_
 obtain⟨i,rfl,q⟩:=q1;obtain⟨t,rfl⟩:=r1;exact⟨some i,H1,I1,.int i t,q⟩
def SlR (X:Cx)(r:V->Option Int->Option Int->Hp->VK->Prop):Prop :=
 ∀(Qz:List (PU×Qi)) (s:PV) (O:St) (H:Hp) (x:V) (v vl vu:PR) (lo hi:Option Int) (sl:PU) (Q:VK),Inv X Qz O H s->x3 x v->s.heap.IsSliceOf sl vl vu .none->IsPart vl lo->IsPart vu hi->r x lo hi H Q ->
  ∃T id,typeLookup (.type T) "__getitem__" = pure (some (.builtin id))/\s.TypeIs v T/\Qm (model X.prog X.w) X.A (getItem v (.ref sl)) (EP X Qz O Q) X.xe s
def tSl (r:V->Option Int->Option Int->Hp->VK->Prop)(te:TE)(tl th:TO):TE:=λO H Q=>te O H λx H1=>tl O H1 λl H2=>th O H2 λu H3=>r x l u H3 Q
def oW {r:V->Option Int->Option Int->Hp->VK->Prop}(hr:SlR X r)(he:PE X e te)(hl:PO X lo tl)(hu:PO X hi th):PE X (.Subscript e (.Slice lo hi none p2) pos) (tSl r te tl th):=by
 intro Qz s O H Q I h;refine Subscript_ (thn (he Qz s O H _ I h) λv s1 ⟨x,H1,I1,r1,q1⟩=>?_);refine wpAny_Slice (thn (hl Qz s1 O H1 _ I1 q1) λvl s2 ⟨l,H2,I2,pl,q2⟩=>thn (hu Qz s2 O H2 _ I2 q2) λvu s3 ⟨u,H3,I3,pu,q3⟩=>?_);rw[evalPart_none];refine Lo ?_;have I4:Inv X Qz O H3 { s3 with heap:=s3.heap.push { cls:=.type "slice",data:=.fields #[vl,vu,.none] } }:=I3.kept (t':=s3.toks) λb ob q=>Ll _ q
 obtain⟨T,id,hT,ht,hg⟩:=hr Qz { s3 with heap:=s3.heap.push { cls:=.type "slice",data:=.fields #[vl,vu,.none] } } O H3 x v vl vu l u s3.heap.objs.size Q I4 r1 (Pl ..) pl pu q3;show Qm (model X.prog X.w) X.A (subscriptTail e (.Slice lo hi none p2) v (.ref s3.heap.objs.size)) (EP X Qz O Q) X.xe { s3 with heap:=s3.heap.push { cls:=.type "slice",data:=.fields #[vl,vu,.none] } };exact tail_any (ops:=[.ref s3.heap.objs.size,v]) ht hT hg (by with_unfolding_all rfl)
def fS (xs:List V)(lo hi:Option Int):List V:=(xs.drop (HT.sIx xs.length 0 lo)).take (HT.sIx xs.length xs.length hi-HT.sIx xs.length 0 lo)
def fV (xs:List V)(lo hi:Option Int):(fS xs lo hi).length<=xs.length:=by unfold fS;rw[Ms,List.length_drop];omega
def Gg (K:Qf):V->Option Int->Option Int->Hp->VK->Prop:=λx lo hi H Q=>∃a xs,x = .ref a/\SqT K H a xs /\
 ¬(HT.sIx xs.length 0 lo=0/\HT.sIx xs.length xs.length hi=xs.length)/\∀p,H p=none->Q (.ref p) (upd H p (.tup (fS xs lo hi)))
def CI :SlR X (Gg X.K):=by
 intro Qz s O H x v vl vu lo hi sl Q I rx hs pl pu h;obtain⟨a,xs,rfl,hx,hw,q⟩:=h;cases rx;obtain⟨its,r,ht,hz⟩:=I.tuple hx;have hlen:its.toArray.size=xs.length:=by rw[Ls];exact r.length.symm
 refine⟨"tuple",_,Mf.lookup,ht.typeIs,?_⟩;refine HT.getItem_tuple_cut ht hs pl pu (by rw[hlen];exact hw) ?_ (by rw[hlen];exact hz);rw[hlen];refine⟨.ref s.heap.objs.size,_,I.laid (t':=s.toks) (o:=.tup (fS xs lo hi)) (λb ob q=>Ll _ q) (Ln _) ?_,rfl,q _ (I.hok.fresh (Ln _))⟩;exact⟨LS (fV xs lo hi) hz,_,(r.drop (HT.sIx xs.length 0 lo)).take (HT.sIx xs.length xs.length hi-HT.sIx xs.length 0 lo),Os _ _⟩
def DW (K:Qf):R2:=λx y H Q=>∃a b xs ys,x = .ref a/\y = .ref b/\SqT K H a xs/\SqT K H b ys/\xs≠[]/\xs.length+ys.length<=Qg /\
 (ys=[]->Q (.ref a) H)/\(ys≠[]->∀p,H p=none->Q (.ref p) (upd H p (.tup (xs++ys))))
def r6.nil_iff {xs:List V}{us:List PR}(r:r6 xs us):us=[]↔xs=[]:=by
 cases r with
 | nil=>simp
 | cons _ _=>simp
def yN :OpR X (binaryOp .Add) (DW X.K):=by intro Qz s O H x y v u Q I rx ry h;obtain⟨a,b,xs,ys,rfl,rfl,ha,hb,hx,hz,q1,q2⟩:=h;cases rx;cases ry;obtain⟨its,r1,p1,_⟩:=I.tuple ha;obtain⟨its2,r2,p2,_⟩:=I.tuple hb;refine HT.cat_tup p1 p2 (λz=>hx (r1.nil_iff.1 z)) (λz=>⟨.ref a,H,I,rfl,q1 (r2.nil_iff.1 z)⟩) (λz=>?_) (by rw[<-r1.length,<-r2.length];exact hz);refine⟨.ref s.heap.objs.size,_,I.laid (t':=s.toks) (o:=.tup (xs++ys)) (λb ob q=>Ll _ q) (Ln _) ?_,rfl,q2 (λw=>z (r2.nil_iff.2 w)) _ (I.hok.fresh (Ln _))⟩;exact⟨by rw[Mp];exact hz,_,r1.append r2,Os _ _⟩
end
end
variable {Qz:List (PU×Qi)}{its:List PR}
section
def ixN (n:Nat)(i:Int):Option Nat:=if 0<=i then(if i<n then some i.toNat else none) else if -(n:Int)<=i then some (i+n).toNat else none
def atI {α:Type}(xs:List α)(i:Int):Option α:=(ixN xs.length i).bind λj=>xs[j]?
def rM {n:Nat}{i:Int}{j:Nat}(h:ixN n i=some j):seqIndex? i n=some j/\j<n /\ -(n:Int)<=i/\i<n:=by
 unfold ixN at h;by_cases h0:0<=i
 .rw[Lg h0]at h;by_cases h1:i<n
  .rw[Lg h1]at h;have e:i.toNat=j:=Lr h;exact⟨by rw[seqIndex_of h0 h1,e],by omega,by omega,h1⟩
  .rw[Lk h1]at h;cases h
 .rw[Lk h0]at h;by_cases h1:-(n:Int)<=i
  .rw[Lg h1]at h;have e:(i+n).toNat=j:=Lr h;exact⟨by rw[seqIndex_neg (by omega) h1,e],by omega,h1,by omega⟩
  .rw[Lk h1]at h;cases h
def mq {α:Type}{xs:List α}{i:Int}{v:α}(h:atI xs i=some v):∃j,seqIndex? i xs.length=some j/\xs[j]? = some v/\j<xs.length /\ -(xs.length:Int)<=i/\i<xs.length:=by
 unfold atI at h;cases e:ixN xs.length i with
 | none=>rw[e]at h;cases h
 | some j =>rw[e]at h;obtain⟨h1,h2,h3,h4⟩:=rM e;exact⟨j,h1,h,h2,h3,h4⟩
def gR {α:Type}{xs:List α}{j:Nat}{v:α}(h:xs[j]? = some v):atI xs (j:Int)=some v:=by
 have hj:j<xs.length:=(Lj.1 h).1;have e:ixN xs.length (j:Int)=some j:=by unfold ixN;rw[Lg (by omega),Lg (by omega)];simp
 unfold atI;rw[e];exact h
def mx (b:Qd):Prop:=∀o i,subscripted b false o i=operate [o,i] (getItem o i)
def IxR (X:Cx)(r:R2):Prop :=
 ∀(value slice:Qd) (Qz:List (PU×Qi)) (s:PV) (O:St) (H:Hp) (x y:V) (v u:PR) (Q:VK),Inv X Qz O H s->x3 x v->x3 y u->r x y H Q ->
  subscripted slice false v u=operate [v,u] (getItem v u)->Qm (model X.prog X.w) X.A (subscriptTail value slice v u) (EP X Qz O Q) X.xe s
def MtR (X:Cx)(id:String)(r:V->List V->Hp->VK->Prop):Prop :=
 ∀(Qz:List (PU×Qi)) (s:PV) (O:St) (H:Hp) (x:V) (xs:List V) (v:PR) (us:List PR) (Q:VK),Inv X Qz O H s->x3 x v->r6 xs us->r x xs H Q ->
  Qm (model X.prog X.w) X.A (call (.builtin id) (v::us)) (EP X Qz O Q) X.xe s
section
variable {X:Cx}{a b:Qd}{ta tb:TE}
def P7 {r:R2}(hr:IxR X r)(ha:PE X a ta)(hb:PE X b tb)(hs:mx b):PE X (.Subscript a b pos) (tOp r ta tb):=by intro Qz s O H Q I h;exact Subscript_ (Di ha hb I h λv u s2 x y H2 I2 rx ry q=>hr a b Qz s2 O H2 x y v u Q I2 rx ry q (hs _ _))
def uI (K:Qf):R2:=λx y H Q=>∃p xs i v,x = .ref p/\y = .int i/\SqL K H p xs/\atI xs i=some v/\Q v H
def Cp (K:Qf):R2:=λx y H Q=>∃p xs i v,x = .ref p/\y = .int i/\SqT K H p xs/\atI xs i=some v/\Q v H
def FK :R2:=λx y H Q=>∃z i c,x = .str z/\y = .int i/\z.length<=Qg/\atI z.cps.toList i=some c/\Q (.str ⟨#[c]⟩) H
def F0 :IxR X (uI X.K):=by
 intro value slice Qz s O H x y v u Q I rx ry h hs;obtain⟨p,xs,i,z,rfl,rfl,hq,he,q⟩:=h;cases rx;obtain⟨t,rfl⟩:=ry;obtain⟨its,r,pl,hz⟩:=I.list hq;obtain⟨j,h1,h2,h3,h4,h5⟩:=mq he;obtain⟨w,ew,rw'⟩:=r.get h2;have hl:=r.length;have hn:=dC;have fin:EP X Qz O Q w s:=⟨z,H,I,rw',q⟩;by_cases h0:0<=i
 .have hj:i.toNat=j:=by rw[seqIndex_of h0 h5]at h1;exact Lr h1
  exact item_listR pl.isList h0 (by omega) (by rw[hj];simpa using ew) fin hs
 .have hj:(i+(its.toArray.size:Int)).toNat=j:=by rw[seqIndex_neg (by omega) h4]at h1;rw[Ls,<-hl];exact Lr h1
  exact subscriptTail_builtinR (x:=w) pl.isList.typeIs slot_list_getitem.lookup
   (wpAny_getItem_list_neg (Q:=λr s'=>r=w/\EP X Qz O Q r s') pl.isList (by omega) (by rw[Ls] <;> omega) (by omega) (by rw[hj];simpa using ew) ⟨rfl,fin⟩) hs
def pW :IxR X (Cp X.K):=by
 intro value slice Qz s O H x y v u Q I rx ry h hs;obtain⟨p,xs,i,z,rfl,rfl,hq,he,q⟩:=h;cases rx;obtain⟨t,rfl⟩:=ry;obtain⟨its,r,pl,hz⟩:=I.tuple hq;obtain⟨j,h1,h2,h3,h4,h5⟩:=mq he;obtain⟨w,ew,rw'⟩:=r.get h2;have hl:=r.length;have hn:=dC;have fin:EP X Qz O Q w s:=⟨z,H,I,rw',q⟩;exact subscriptTail_builtinR (x:=w) pl.typeIs slot_tuple_getitem.lookup
  (getItem_tuple (j:=j) (Q:=λr s'=>r=w/\EP X Qz O Q r s') pl (by omega) (by omega) (by rw[Ls,<-hl];exact h1) (by simpa using ew) ⟨rfl,fin⟩) hs
def Cv :IxR X FK:=by
 intro value slice Qz s O H x y v u Q I rx ry h hs;obtain⟨z,i,c,rfl,rfl,hz,he,q⟩:=h;obtain⟨t,rfl⟩:=rx;obtain⟨t',rfl⟩:=ry;obtain⟨j,h1,h2,h3,h4,h5⟩:=mq he;have hl:z.cps.toList.length=z.length:=by simp[Str.length]
 rw[hl]at h1 h4 h5;have hn:=dC;exact tail_any (Pa s z t) slot_str_getitem.lookup (getItem_str (c:=c) (by have e1:decide (i < -(2 ^ 63:Int))=false:=Mz (by omega);have e2:decide (i >= 2 ^ 63)=false:=Mz (by omega);rw[e1,e2,Bool.or_false]) (by rw[h1];simpa using h2) ⟨.str ⟨#[c]⟩,H,I.tok _,⟨_,rfl⟩,q⟩) hs
def pV (its:List PR)(n j:Nat)(u:PR):Qi.mapSeq (·.setIfInBounds j u) { cls:=.type "list",data:=.seq its.toArray n }={ cls:=.type "list",data:=.seq (its.set j u).toArray n }:=by simp[Qi.mapSeq]
def Inv.lst {O:St}{H:Hp}{s:PV}{p:PU}{xs:List V}(I:Inv X Qz O H s)(h:H p=some (.lst xs)) :
  ∃(its:List PR) (n:Nat),r6 xs its/\s.heap.get? p=some { cls:=.type "list",data:=.seq its.toArray n }/\xs.length<=Qg:=by obtain⟨z,its,n,r,e⟩:=I.hok p _ h;exact⟨its,n,r,e,z⟩
def Inv.lstUpd {O:St}{H:Hp}{s:PV}{p:PU}{xs ys:List V}{its':List PR}{n n':Nat}{f:Qi->Qi}(I:Inv X Qz O H s)(h:H p=some (.lst xs))
  (ho:s.heap.get? p=some { cls:=.type "list",data:=.seq its.toArray n }) (hf:f { cls:=.type "list",data:=.seq its.toArray n }={ cls:=.type "list",data:=.seq its'.toArray n' }) (r:r6 ys its') (hz:ys.length<=Qg) (t:Nat) :
  Inv X Qz O (upd H p (.lst ys)) { s with heap:=s.heap.update p f,toks:=t }:=by
 have e:(s.heap.update p f).get? p=some { cls:=.type "list",data:=.seq its'.toArray n' }:=by rw[Qe.get?_update_self f ho (by rw[hf] <;> rfl),hf]
 refine I.write (x:=p) (e:=p) (by rw[h];trivial) (.inl rfl) (λb u hb q=>(Qe.get?_update_other _ _ (LZ hb)).trans q) ⟨_,e⟩ ?_;exact⟨hz,its',n',r,e⟩
def eF :V->V->V->Hp->(Hp->Prop)->Prop:=λo i v H Q=>∃p xs k j,o = .ref p/\i = .int k/\H p=some (.lst xs)/\ixN xs.length k=some j/\Q (upd H p (.lst (xs.set j v)))
def Q1 :DM X eF:=by
 intro Qz s O H o i v ov iv u Q I ro ri rv h;obtain⟨p,xs,k,j,rfl,rfl,hp,hj,q⟩:=h;cases ro;obtain⟨t,rfl⟩:=ri;obtain⟨its,n,r,ho,hz⟩:=I.lst hp;obtain⟨h1,h2,h3,h4⟩:=rM hj;have hl:=r.length;have hn:=dC;have I':Inv X Qz O (upd H p (.lst (xs.set j v))) { s with heap:=s.heap.update p (Qi.mapSeq (·.setIfInBounds j u)) } :=
  I.lstUpd hp ho (pV its n j u) (r.set rv j) (by rw[MB];exact hz) s.toks
 by_cases h0:0<=k
 .have hk:k.toNat=j:=by rw[seqIndex_of h0 h4]at h1;exact Lr h1
  exact PySem.W.ki_setAt ho h0 (by omega) (by rw[Ls,<-hl];exact h4) (by rw[hk];exact⟨_,I',q⟩)
 .have hk:(k+(its.toArray.size:Int)).toNat=j:=by rw[seqIndex_neg (by omega) h3]at h1;rw[Ls,<-hl];exact Lr h1
  exact PySem.W.ki_setBack ho (by omega) (by rw[Ls,<-hl];exact h3) (by omega) (by rw[hk];exact⟨_,I',q⟩)
def lp (lo hi:Option Int)(n:Nat):(sliceBounds lo hi none n).1=((HT.sIx n 0 lo:Nat):Int)/\(sliceBounds lo hi none n).2.1=((HT.sIx n n hi:Nat):Int)/\(sliceBounds lo hi none n).2.2=1:=by
 refine⟨?_,?_,rfl⟩
 .cases lo with
  | none=>simp[sliceBounds,HT.sIx]
  | some i =>
   simp only[sliceBounds,HT.sIx,PL,show(1:Int) > 0 by decide,ML]
   by_cases h:i<0
   .simp only[h,ML] <;> omega
   .simp only[h,MO] <;> omega
 .cases hi with
  | none=>simp[sliceBounds,HT.sIx]
  | some i =>
   simp only[sliceBounds,HT.sIx,PL,show(1:Int) > 0 by decide,ML]
   by_cases h:i<0
   .simp only[h,ML] <;> omega
   .simp only[h,MO] <;> omega
def jR (its:List PR)(lo hi:Option Int):slicePick its.toArray lo hi none=((its.drop (HT.sIx its.length 0 lo)).take (HT.sIx its.length its.length hi-HT.sIx its.length 0 lo)).toArray:=by obtain⟨h1,h2,h3⟩:=lp lo hi its.toArray.size;unfold slicePick;rw[h1,h2,h3];simp only[sliceRange_one,pick_run,Ls] <;> rfl
def Gi (K:Qf):V->Option Int->Option Int->Hp->VK->Prop:=λx lo hi H Q=>∃a xs,x = .ref a/\SqL K H a xs/\∀p,H p=none->Q (.ref p) (upd H p (.lst (fS xs lo hi)))
def sx :SlR X (Gi X.K):=by intro Qz s O H x v vl vu lo hi sl Q I rx hs pl pu h;obtain⟨a,xs,rfl,hx,q⟩:=h;cases rx;obtain⟨its,r,ht,hz⟩:=I.list hx;have hlen:=r.length;refine⟨"list",_,slot_list_getitem.lookup,ht.isList.typeIs,?_⟩;refine wpAny_getItem_list_slice ht.isList hs pl pu .none (by simp) ?_ (by rw[Ls] <;> omega);rw[jR,<-hlen];refine⟨.ref s.heap.objs.size,_,I.laid (t':=s.toks) (o:=.lst (fS xs lo hi)) (λb ob q=>Ll _ q) (Ln _) ?_,rfl,q _ (I.hok.fresh (Ln _))⟩;exact⟨LS (fV xs lo hi) hz,_,0,(r.drop (HT.sIx xs.length 0 lo)).take (HT.sIx xs.length xs.length hi-HT.sIx xs.length 0 lo),LI _ rfl⟩
def N2 :J3 X (.builtin "len") (λxs H Q=>∃p ys,xs=[.ref p]/\(SqL X.K H p ys\/SqT X.K H p ys)/\Q (.int ys.length) H):=by
 walk_at "ks";obtain⟨p,ys,rfl,hq,q⟩:=h;obtain⟨u,rfl,rx⟩:=Q9 r;cases rx;have hn:=dC;rcases hq with hq | hq
 .obtain⟨its,r',pl,hz⟩:=I.list hq;have hlen:=r'.length;exact Calls.call_len_list pl.isList (by simp only[Ls] <;> omega) ⟨.int ys.length,H,I.tok _,⟨s.toks+1,by rw[Ls,hlen]⟩,q⟩
 .obtain⟨its,r',pl,hz⟩:=I.tuple hq;have hlen:=r'.length;exact len_tuple pl (by simp only[Ls] <;> omega) ⟨.int ys.length,H,I.tok _,⟨s.toks+1,by rw[Ls,hlen]⟩,q⟩
def mK :J3 X (.builtin "len") (λxs H Q=>∃z,xs=[.str z]/\z.length<=Qg/\Q (.int z.length) H):=by intro Qz s O H xs us Q I r h;obtain⟨z,rfl,hz,q⟩:=h;obtain⟨u,rfl,t,rfl⟩:=Q9 r;have hn:=dC;exact len_str (by omega) ⟨.int z.length,H,I.tok _,⟨_,rfl⟩,q⟩
def mG :J3 X (.type "list") (λxs H Q=>∃p ys,xs=[.ref p]/\(SqL X.K H p ys\/SqT X.K H p ys)/\∀l,H l=none->Q (.ref l) (upd H l (.lst ys))):=by
 intro Qz s O H xs us Q I r h;obtain⟨p,ys,rfl,hq,q⟩:=h;obtain⟨u,rfl,rx⟩:=Q9 r;cases rx;have fin:∀(its:List PR),r6 ys its->ys.length<=Qg->∀(h':Qe) (c':Nat),(∀b o',s.heap.get? b=some o'->h'.get? b=some o') ->
   h'.get? s.heap.objs.size=some { cls:=.type "list",dict:=none,data:=.seq its.toArray c',slots:=#[] }->EP X Qz O Q (.ref s.heap.objs.size) { s with heap:=h' }:=λits r' hz h' c' kp e =>
  ⟨.ref s.heap.objs.size,_,I.laid (t':=s.toks) kp (Ln _) (show N5 X.prog X.w _ h' _ (.lst ys) from⟨hz,its,c',r',e⟩),rfl,q _ (I.hok.fresh (Ln _))⟩
 rcases hq with hq | hq
 .obtain⟨its,r',pl,hz⟩:=I.list hq;have hlen:=r'.length;obtain⟨o,ho,hc,n,hd⟩:=pl.isList;exact call_list_seq p (.inl rfl) ho hc hd (λh' c' kp e=>fin its r' hz h' c' kp e) (by simp only[Ls] <;> omega)
 .obtain⟨its,r',pl,hz⟩:=I.tuple hq;have hlen:=r'.length;obtain⟨o,ho,hc,n,hd⟩:=pl;exact call_list_seq p (.inr rfl) ho hc hd (λh' c' kp e=>fin its r' hz h' c' kp e) (by simp only[Ls] <;> omega)
def jS :J3 X (.type "tuple") (λxs H Q=>∃p ys,xs=[.ref p]/\((SqL X.K H p ys/\∀l,H l=none->Q (.ref l) (upd H l (.tup ys)))\/(SqT X.K H p ys/\Q (.ref p) H))):=by
 walk_at "ks";obtain⟨p,ys,rfl,h⟩:=h;obtain⟨u,rfl,rx⟩:=Q9 r;cases rx;rcases h with ⟨hq,q⟩ | ⟨hq,q⟩
 .obtain⟨its,r',pl,hz⟩:=I.list hq;have hlen:=r'.length;refine call_tuple_list pl.isList (λh' kp=>?_) (by simp only[Ls] <;> omega);have I1:Inv X Qz O H { s with heap:=h' }:=I.kept (t':=s.toks) kp;have I2:Inv X Qz O (upd H h'.objs.size (.tup ys)) { s with heap:=h'.push { cls:=.type "tuple",data:=.seq its.toArray } } :=
   I1.laid (t':=s.toks) (λb o e=>Ll _ e) (Ln _) (show N5 X.prog X.w _ _ _ (.tup ys) from⟨hz,its,r',Os _ _⟩)
  exact⟨.ref h'.objs.size,_,I2,rfl,q _ (I1.hok.fresh (Ln _))⟩
 .obtain⟨its,r',pl,hz⟩:=I.tuple hq;exact call_tuple_same pl ⟨.ref p,H,I,rfl,q⟩
def tyV (K:Qf)(T:String)(x:V)(H:Hp):Prop:=match x with
 | .str _=>T = "str"
 | .int _=>T = "int"
 | .ref p=>(T = "list" /\ ∃xs,SqL K H p xs)\/(T = "tuple" /\ ∃o,K.lookup p=some o/\o.cls = .type "tuple" /\ o.dict=none) \/
   (T = "dict" /\ ((∃QC,H p=some (.dK QC))\/∃QC,H p=some (.dT QC)))\/(T = "set" /\ ∃S n,H p=some (.set S n))
 | _=>False
def Dq {O:St}{H:Hp}{s:PV}{T:String}{x:V}{v:PR}(I:Inv X Qz O H s)(r:x3 x v)(ty:tyV X.K T x H) :
  s.TypeIs v T/\∀a,v = .ref a->∃ob,s.heap.get? a=some ob/\ob.dict=none:=by
 cases x with
 | str z =>obtain⟨t,rfl⟩:=r;cases(show T = "str" from ty);exact⟨Pa s z t,λ_ e=>nomatch e⟩
 | int i =>obtain⟨t,rfl⟩:=r;cases(show T = "int" from ty);exact⟨typeIs_int s i t,λ_ e=>nomatch e⟩
 | ref p =>
  cases r;rcases ty with ⟨rfl,xs,hq⟩ | ⟨rfl,o,hk,hc,hd⟩ | ⟨rfl,hk⟩ | ⟨rfl,S,n,hk⟩
  .obtain⟨its,_,pl,_⟩:=I.list hq;refine⟨pl.isList.typeIs,λa e=>?_⟩;cases e;obtain⟨o,n,e,c,hd,_⟩:=pl;exact⟨o,e,hd⟩
  .refine⟨⟨o,I.kIn p o hk,hc⟩,λa e=>?_⟩;cases e;exact⟨o,I.kIn _ o hk,hd⟩
  .have z:∃o,s.heap.get? p=some o/\o.ExactDict:=by
    rcases hk with ⟨QC,hk⟩ | ⟨QC,hk⟩
    .obtain⟨_,_,_,_,o,_,_,e,ex,_⟩:=I.hok p _ hk;exact⟨o,e,ex⟩
    .obtain⟨_,_,_,_,o,_,_,e,ex,_⟩:=I.hok p _ hk;exact⟨o,e,ex⟩
   obtain⟨o,e,ex⟩:=z;refine⟨⟨o,e,ex.1⟩,λa e2=>?_⟩;cases e2;exact⟨o,e,ex.2.1⟩
  .obtain⟨o,_,_,_,e,ex,_⟩:=I.hok p _ hk;refine⟨⟨o,e,ex.1⟩,λa e2=>?_⟩;cases e2;exact⟨o,e,ex.2.1⟩
 | _=>exact False.elim ty
def tBM (K:Qf)(T:String)(r:V->List V->Hp->VK->Prop)(to:TE)(t:TA):TE:=λO H Q=>to O H λx H1=>tyV K T x H1/\t O H1 λxs H2=>r x xs H2 Q
variable {o e:Qd}{es:List Qd}{to:TE}{t:TA}{name:Str}{apos cpos:Pos}{T id:String}{r:V->List V->Hp->VK->Prop}
def ke (pa:PlainAttrs T)(slot:Slot T name id)(hty:typeOf (.builtin id)=pure (.type "method_descriptor"))(hm:MtR X id r)(ho:PE X o to)(ha:PA X (e::es) t)
  (hbase:Qp o name X.env (eval o X.env)=eval o X.env:=by rfl)
  (hfew:((Qk cpos (Qh (e::es) X.env)).all (λx=>!x.1)&&(Qx cpos (Qy [] X.env)).all (λx=>x.1.isSome)
   && decide ((e::es).length+([]:List Ql).length+(if ([]:List Ql).isEmpty then 0 else 1)<30))=true:=by rfl)
  (hline:(apos.endLine == cpos.line)=true:=by rfl) (hs:Qh (e::es) X.env=(false,eval e X.env)::Qh es X.env:=by rfl) (hplain:(Qk cpos (Qh es X.env)).any (·.1)=false:=by rfl) :
  PE X (.Call (.Attribute o name apos) (e::es) [] cpos) (tBM X.K T r to t):=by intro Qz s O H Q I h;refine wpAny_Call_method_late hbase hfew hline rfl (thn (ho Qz s O H _ I h) λv s1 ⟨x,H1,I1,r1,ty,q1⟩=>?_);obtain⟨h1,h2⟩:=Dq I1 r1 ty;refine⟨T,id,pa,slot,hty,h1,h2,?_⟩;have hA:=ha cpos Qz s1 O H1 _ I1 q1;rw[hs]at hA ⊢;refine Calls.callWith_builtin (by show(false||(Qk cpos (Qh es X.env)).any (·.1))=false;rw[hplain] <;> rfl) (Calls.evalArgs_plain ?_);exact thn hA λus s2 ⟨vs,H2,I2,r2,q2⟩=>hm Qz s2 O H2 x vs v us Q I2 r1 r2 q2
end
end
variable {t':Nat}
section
def MtM (X:Cx)(id:String)(r:V->List V->Hp->VK->Prop):Prop :=
 ∀(Qz:List (PU×Qi)) (s:PV) (O:St) (H:Hp) (x:V) (xs:List V) (v:PR) (us:List PR) (Q:VK),Inv X Qz O H s->x3 x v->r6 xs us->r x xs H Q ->
  Qm (model X.prog X.w) X.A (call (.builtin id) (v::us)) (EP X Qz O Q) X.xe s
theorem r6.one:∀{x:V} {us:List PR},r6 [x] us->∃u,us=[u]/\x3 x u
 | _,_,.cons r .nil=>⟨_,rfl,r⟩
def r6.reverse {xs:List V}{us:List PR}(h:r6 xs us):r6 xs.reverse us.reverse:=by
 induction h with
 | nil=>exact .nil
 | cons r t ih=>rw[OL,OL];exact r6.append ih (.cons r .nil)
theorem r6.rep {xs:List V}{us:List PR}(h:r6 xs us):∀k:Nat,r6 (List.replicate k xs).flatten (List.replicate k us).flatten
 | 0=>.nil
 | k+1=>by rw[Mi,Mi,MY,MY];exact r6.append h (r6.rep h k)
def fq (its:List PR):∀(k:Nat) (acc:List PR),
  List.foldl (λx1 x2=>x1++x2) acc.toArray (List.replicate k its.toArray)=(acc++(List.replicate k its).flatten).toArray
 | 0,acc=>by simp
 | k+1,acc=>by
  have e:acc.toArray++its.toArray=(acc++its).toArray:=by simp
  have e2:(acc++its)++(List.replicate k its).flatten=acc++(List.replicate (k+1) its).flatten:=by rw[Mi,MY,PB]
  rw[<-e2,<-fq its k (acc++its),<-e,Mi,List.foldl_cons]
section
variable {X:Cx}{O:St}{H:Hp}{s:PV}{l b:PU}{xs ys zs:List V}
def Inv.lset {its':List PR}{n:Nat}{f:Array PR->Array PR}(I:Inv X Qz O H s)(hH:H l=some (.lst xs))
  (e:s.heap.get? l=some { cls:=.type "list",data:=.seq its.toArray n }) (hf:f its.toArray=its'.toArray) (hv:r6 ys its') (hz:ys.length<=Qg) :
  Inv X Qz O (upd H l (.lst ys)) { s with heap:=s.heap.update l (Qi.mapSeq f),toks:=t' }:=by have q:=PySem.IsL.update e f;rw[hf]at q;refine I.write (x:=l) (e:=l) (by rw[hH];exact trivial) (.inl rfl) (λb' u hb hu=>(Qe.get?_update_other s.heap (Qi.mapSeq f) (LZ hb)).trans hu) ⟨_,q⟩ ?_;exact⟨hz,its',_,hv,q⟩
def Inv.lnew (I:Inv X Qz O H s)(hv:r6 ys its)(hz:ys.length<=Qg) :
  Inv X Qz O (upd H s.heap.objs.size (.lst ys)) { s with heap:=s.heap.push { cls:=.type "list",data:=.seq its.toArray },toks:=t' } :=
 I.laid (λ_ _ q=>Ll _ q) (Ln _) ⟨hz,its,0,hv,LI _ rfl⟩
def Inv.fresh (I:Inv X Qz O H s):H s.heap.objs.size=none:=I.hok.fresh (Ln _)
def Inv.lstM (I:Inv X Qz O H s)(hH:H l=some (.lst xs)):xs.length<=Qg/\∃(its:List PR) (n:Nat),r6 xs its/\xs.length=its.length/\s.heap.get? l=some { cls:=.type "list",data:=.seq its.toArray n }:=by obtain⟨z,its,n,r,e⟩:=I.hok l _ hH;exact⟨z,its,n,r,r.length,e⟩
def nY {n:Nat}(h:n<=Qg):Builtin.List.listTooLong n=false:=by unfold Builtin.List.listTooLong;exact Mz (by omega)
end
section
variable {X:Cx}
def Y4 :V->List V->Hp->VK->Prop:=λx vs H Q=>∃l xs y,x = .ref l/\vs=[y]/\H l=some (.lst xs)/\xs.length<Qg/\Q .non (upd H l (.lst (xs++[y])))
def M9 :MtM X "list.append" Y4:=by intro Qz s O H x vs v us Q I rx rv h;obtain⟨l,xs,y,rfl,rfl,hH,hz,q⟩:=h;cases rx;obtain⟨u,rfl,ru⟩:=rv.one;obtain⟨z,its,n,r,hl,e⟩:=I.lstM hH;refine Oe F.slot_list_append ⟨_,e,rfl⟩ F.entry_list_append (F.args_list_append_2 _ _) (PySem.list_append l its.toArray n u (by rw[Ls];omega)) ⟨e,?_⟩;refine⟨.non,_,I.lset (its':=its++[u]) hH e (by simp) (r.append (.cons ru .nil)) ?_,rfl,q⟩;rw[Mp,List.length_singleton];omega
def FF :R2:=λx y H Q=>∃l b xs zs,x = .ref l/\y = .ref b/\H l=some (.lst xs)/\H b=some (.lst zs)/\xs.length+zs.length<=Qg/\∀p,H p=none->Q (.ref p) (upd H p (.lst (xs++zs)))
def wZ :OpR X (binaryOp .Add) FF:=by
 walk_at "kt";obtain⟨l,b,xs,zs,rfl,rfl,hH,hB,hz,q⟩:=h;cases rx;cases ry;obtain⟨z,its,n,r,hl,e⟩:=I.lstM hH;obtain⟨z2,its2,n2,r2,hl2,e2⟩:=I.lstM hB;refine PySem.P.add_list e e2 ?_ (by rw[Ls,Ls];omega);have ea:its.toArray++its2.toArray=(its++its2).toArray:=by simp
 rw[ea];exact⟨.ref _,_,I.lnew (t':=s.toks) (r.append r2) (by rw[Mp];omega),rfl,q _ I.fresh⟩
def FV :R2:=λx y H Q=>∃l k xs,x = .ref l/\y = .int k/\H l=some (.lst xs) /\ -(2 ^ 63)<=k/\k<2 ^ 63/\xs.length*k.toNat<=Qg /\
 ∀p,H p=none->Q (.ref p) (upd H p (.lst (List.replicate k.toNat xs).flatten))
def ll {α:Type}(xs:List α)(k:Nat):(List.replicate k xs).flatten.length=k*xs.length:=by
 induction k with
 | zero=>simp
 | succ k ih=>rw[Mi,MY,Mp,ih,Nat.succ_mul,Nat.add_comm]
def CC :OpR X (binaryOp .Mult) FV:=by
 walk_at "kt";obtain⟨l,k,xs,rfl,rfl,hH,h1,h2,hz,q⟩:=h;cases rx;obtain⟨t,rfl⟩:=ry;obtain⟨z,its,n,r,hl,e⟩:=I.lstM hH;have hlen:its.toArray.size*k.toNat<=Qg:=by rw[Ls,<-hl];exact hz
 have hcap:¬its.toArray.size*k.toNat > (2 ^ 63-1) / 8:=by
  have:(Qg:Nat)<=(2 ^ 63-1) / 8:=by decide
  omega
 have hfit:¬(!Builtin.List.listFitsIndex k)=true:=by rw[fitsIndex_both h1 h2];exact LF
 have hlong:¬Builtin.List.listTooLong (its.toArray.size*k.toNat)=true:=by rw[nY hlen];exact LF
 have hnew:List.foldl (λx1 x2=>x1++x2) #[] (List.replicate (if its.toArray.isEmpty=true then 0 else k.toNat) its.toArray)=(List.replicate k.toNat its).flatten.toArray:=by
  have f0:∀m:Nat,List.foldl (λx1 x2=>x1++x2) #[] (List.replicate m its.toArray)=(List.replicate m its).flatten.toArray:=λm=>by have:=fq its m [];rw[Mu]at this;exact this
  rw[f0];cases its with
  | nil=>simp
  | cons a r'=>rw[Lk (by simp)]
 refine wpAny_binaryOp_repeat_ref (T:="list") (U:="int") (by decide) ⟨_,e,rfl⟩ (λs'=>typeIs_int s' k t) noFill_list_mul F.fills_int_mul Pb repeat_list F.slot_int_index.lookup
  (Oe Pb (typeIs_int s k t) F.entry_int_rmul (F.args_int_rmul_2 _ _) (int___rmul___int_list k t l its.toArray n)
   ⟨e,rfl,⟨_,e,rfl⟩,Oe F.slot_list_mul ⟨_,e,rfl⟩ F.entry_list_mul (F.args_list_mul_2 _ _) (AutoListH.list___mul___list_int_3 l its.toArray n k t hfit hcap hlong) ⟨e,?_⟩⟩)
 rw[hnew];exact⟨.ref _,_,I.lnew (t':=s.toks) (r.rep k.toNat) (by rw[ll,Nat.mul_comm];exact hz),rfl,q _ I.fresh⟩
end
section
variable {prog:PX}{w:PY}{A:PZ}{E:PR->PV->Prop}{s:PV}
end
section
variable {X:Cx}
end
end
variable {o:Option V}{QC:List (Key×V)}{vs:List (Key×PR)}{trs:List (TE×TE)}
section
section
variable {κ:Type}[DecidableEq κ]
def cq (QC:List (κ×V))(k:κ):Option V:=(QC.find? λkv=>decide (kv.1=k)).map (·.2)
def Q3 (QC:List (κ×V))(k:κ)(v:V):List (κ×V) :=
 if (QC.any λkv=>decide (kv.1=k))=true then QC.map (λkv=>if kv.1=k then(kv.1,v) else kv) else QC++[(k,v)]
def W1 {p:κ×V}{r:List (κ×V)}{k:κ}(e:p.1=k):cq (p::r) k=some p.2:=by simp[cq,NY,e]
def D5 {p:κ×V}{r:List (κ×V)}{k:κ}(e:¬p.1=k):cq (p::r) k=cq r k:=by simp[cq,NY,e]
theorem bx (k:κ):∀QC:List (κ×V),(QC.any λkv=>decide (kv.1=k))=(cq QC k).isSome
 | []=>rfl
 | p::r=>by
  rw[Pu];by_cases e:p.1=k
  .simp only[W1 e,MX e,Bool.true_or,Ow]
  .rw[D5 e,Mz e,Bool.false_or];exact bx k r
def bD (QC:List (κ×V))(k:κ)(v:V):(Q3 QC k v).length<=QC.length+1:=by
 unfold Q3;split
 .rw[Lf];omega
 .rw[Mp,Ly,MH];omega
def eO {QC:List (κ×V)}{k:κ}(v:V)(h:cq QC k=none):Q3 QC k v=QC++[(k,v)]:=by unfold Q3;rw[bx,h];exact Lk (by decide)
def jN.isSome_eq {u:Option PR}(r:jN o u):o.isSome=u.isSome:=by
 cases o with
 | none=>cases u with
  | none=>rfl
  | some _=>exact(show False from r).elim
 | some _=>cases u with
  | none=>exact(show False from r).elim
  | some _=>rfl
def KV.val {QC:List (κ×V)}{vs:List (κ×PR)}(r:KV QC vs)(k:κ):jN (cq QC k) (valueAt vs k):=by
 unfold KV at r;induction r with
 | nil=>exact True.intro
 | @cons p q ps qs h t ih =>
  obtain⟨h1,h2⟩:=h;by_cases e:p.1=k
  .have e':q.1=k:=h1.symm.trans e;have b:valueAt (q::qs) k=some q.2:=by simp[valueAt,NY,e']
   rw[W1 e,b];exact h2
  .have e':¬q.1=k:=λz=>e (h1.trans z)
   have b:valueAt (q::qs) k=valueAt qs k:=by simp[valueAt,NY,e']
   rw[D5 e,b];exact ih
def KV.any {QC:List (κ×V)}{vs:List (κ×PR)}(r:KV QC vs)(k:κ):(QC.any λkv=>decide (kv.1=k))=vs.any λkv=>decide (kv.1=k):=by
 unfold KV at r;induction r with
 | nil=>rfl
 | cons h t ih=>rw[Pu,Pu,ih,h.1]
def KV.repl {QC:List (κ×V)}{vs:List (κ×PR)}(r:KV QC vs)(k:κ){y:V}{u:PR}(ry:x3 y u) :
  KV (QC.map λkv=>if kv.1=k then(kv.1,y) else kv) (vs.map λkv=>if kv.1=k then(kv.1,u) else kv):=by
 unfold KV at r ⊢;induction r with
 | nil=>exact .nil
 | @cons p q ps qs h t ih =>
  rw[Lu,Lu];refine .cons ?_ ih;obtain⟨h1,h2⟩:=h;by_cases e:p.1=k
  .rw[Lg e,Lg (h1.symm.trans e)];exact⟨h1,ry⟩
  .rw[Lk e,Lk (λz=>e (h1.trans z))];exact⟨h1,h2⟩
def KV.put {QC:List (κ×V)}{vs:List (κ×PR)}(r:KV QC vs)(k:κ){y:V}{u:PR}(ry:x3 y u):KV (Q3 QC k y) (stored vs k u):=by
 unfold Q3 stored;rw[r.any k];by_cases e:(vs.any λkv=>decide (kv.1=k))=true
 .rw[Lg e,Lg e];exact r.repl k ry
 .rw[Lk e,Lk e];exact Paired.snoc r ⟨rfl,ry⟩
def KV.length {QC:List (κ×V)}{vs:List (κ×PR)}(r:KV QC vs):QC.length=vs.length:=Pr r
end
def sQ {P:PX}{w:PY}{k:Key}{u:PR}(r:x3 (kV k) u):(J0 P w).is k u=true:=by
 cases k with
 | inl i=>obtain⟨t,e⟩:=(show ∃t,u=PR.int i t from r);subst e;exact mQ P w i t
 | inr x=>obtain⟨t,e⟩:=(show ∃t,u=PR.str x t from r);subst e;exact ox P w x t
theorem kB {P:PX}{w:PY}:∀{ks:List Key} {us:List PR},r6 (ks.map kV) us->ItemsAre (J0 P w) ks us
 | [],_,r=>by rw[Mt]at r;cases r;exact .nil
 | k::ks,_,r=>by
  rw[Lu]at r;cases r with
  | cons h t=>exact .cons (sQ h) (kB t)
abbrev KT (H:Hp):List (List Key×V)->List (List Key×PU×PR)->Prop:=Paired λp q=>p.1=q.1/\H q.2.1=some (.tup (p.1.map kV))/\x3 p.2 q.2.2
def KT.val {H:Hp}{QC:List (List Key×V)}{xs:List (List Key×PU×PR)}(r:KT H QC xs)(k:List Key):jN (cq QC k) ((atKey xs k).map (·.2)):=by
 induction r with
 | nil=>exact True.intro
 | @cons p q ps qs h t ih =>
  obtain⟨h1,_,h2⟩:=h;by_cases e:p.1=k
  .have e':q.1=k:=h1.symm.trans e;have b:atKey (q::qs) k=some q.2:=by simp[atKey,NY,e']
   rw[W1 e,b];exact h2
  .have e':¬q.1=k:=λz=>e (h1.trans z)
   have b:atKey (q::qs) k=atKey qs k:=by simp[atKey,NY,e']
   rw[D5 e,b];exact ih
def KT.repl {H:Hp}{QC:List (List Key×V)}{xs:List (List Key×PU×PR)}(r:KT H QC xs)(k:List Key){y:V}{u:PR}(ry:x3 y u) :
  KT H (QC.map λkv=>if kv.1=k then(kv.1,y) else kv) (xs.map (putAt k u)):=by
 induction r with
 | nil=>exact .nil
 | @cons p q ps qs h t ih =>
  rw[Lu,Lu];refine .cons ?_ ih;obtain⟨h1,h2,h3⟩:=h;unfold putAt;by_cases e:p.1=k
  .rw[Lg e,Lg (h1.symm.trans e)];exact⟨h1,h2,ry⟩
  .rw[Lk e,Lk (λz=>e (h1.trans z))];exact⟨h1,h2,h3⟩
def KT.put {H:Hp}{QC:List (List Key×V)}{xs:List (List Key×PU×PR)}(r:KT H QC xs)(k:List Key){b:PU}{y:V}{u:PR}(hb:H b=some (.tup (k.map kV)))(ry:x3 y u) :
  KT H (Q3 QC k y) (storedH xs k b u):=by
 have e:(QC.any λkv=>decide (kv.1=k))=(atKey xs k).isSome:=by rw[bx,(r.val k).isSome_eq,Option.isSome_map]
 unfold Q3 storedH;rw[e];by_cases q:(atKey xs k).isSome=true
 .rw[Lg q,Lg q];exact r.repl k ry
 .rw[Lk q,Lk q];exact Paired.snoc r ⟨rfl,hb,ry⟩
def KT.keeps {H H':Hp}{QC:List (List Key×V)}{xs:List (List Key×PU×PR)}(r:KT H QC xs)(ht:∀b ys,H b=some (.tup ys)->H' b=some (.tup ys)):KT H' QC xs :=
 Paired.mapP r λ_ _ z=>⟨z.1,ht _ _ z.2.1,z.2.2⟩
section
variable {P:PX}{w:PY}{H:Hp}{h:Qe}{a:PU}
def AO {u:HO}(ok:HOk P w H h)(e:Rd H a u):N5 P w H h a u:=e.ok ok
def wD (ok:HOk P w H h)(e:Rd H a (.dK QC)):QC.length<=Qg/\(a == sysModules)=false/\∃vs,KV QC vs/\h.DictOf (J0 P w) a vs :=
 show N5 P w H h a (.dK QC) from AO ok e
def AD (ok:HOk P w H h)(e:H a=some (.dK QC)):QC.length<=Qg/\(a == sysModules)=false/\∃vs,KV QC vs/\h.DictOf (J0 P w) a vs:=wD ok (.inl e)
def pI {ks:List Key}(ok:HOk P w H h)(e:H a=some (.tup (ks.map kV))):(tupleKind (J0 P w)).is h ks a:=by obtain⟨_,its,r,o,h1,h2,n,h3⟩:=(show N5 P w H h a (.tup (ks.map kV)) from ok a _ e);exact⟨o,its.toArray,n,h1,h2,h3,by simpa using kB r⟩
def wu {QC:List (List Key×V)}(ok:HOk P w H h)(e:Rd H a (.dT QC)):QC.length<=Qg/\(a == sysModules)=false /\
  ∃xs,KT H QC xs/\h.DictOfH (tupleKind (J0 P w)) a xs:=by
 obtain⟨z,y,xs,r,o,es,ep,h1,h2,h3,h4,h5⟩:=(show N5 P w H h a (.dT QC) from AO ok e);refine⟨z,y,xs,r,o,es,ep,h1,h2,h3,h4,λx hx=>?_,h5⟩;have all:∀{l:List (List Key×V)} {m:List (List Key×PU×PR)},KT H l m->∀x∈m,(tupleKind (J0 P w)).is h x.1 x.2.1:=by
  intro l m q;induction q with
  | nil=>intro x hx;exact nomatch hx
  | @cons p q ps qs hq t ih =>
   intro x hx;rcases Lh.1 hx with e | hx
   .subst e;exact pI ok (by rw[<-hq.1];exact hq.2.1)
   .exact ih x hx
 exact all r x hx
def DH {QC:List (List Key×V)}(ok:HOk P w H h)(e:H a=some (.dT QC)):QC.length<=Qg/\(a == sysModules)=false /\
  ∃xs,KT H QC xs/\h.DictOfH (tupleKind (J0 P w)) a xs:=wu ok (.inl e)
end
def fy (H:Hp)(a:PU)(y:V)(r:Option V):Prop :=
 (∃QC k,Rd H a (.dK QC)/\y=kV k/\r=cq QC k)\/∃QC k b,Rd H a (.dT QC)/\y = .ref b/\H b=some (.tup (k.map kV))/\r=cq QC k
def oj (H:Hp)(a:PU)(y v:V)(H':Hp):Prop :=
 (∃QC k,H a=some (.dK QC)/\y=kV k/\QC.length<Qg/\H'=upd H a (.dK (Q3 QC k v))) \/
 ∃QC k b,H a=some (.dT QC)/\y = .ref b/\H b=some (.tup (k.map kV))/\QC.length<Qg/\H'=upd H a (.dT (Q3 QC k v))
def fy.k {H:Hp}{a:PU}{k:Key}(e:H a=some (.dK QC)):fy H a (kV k) (cq QC k):=.inl ⟨QC,k,.inl e,rfl,rfl⟩
def oj.k {H:Hp}{a:PU}{k:Key}{v:V}(e:H a=some (.dK QC))(hl:QC.length<Qg):oj H a (kV k) v (upd H a (.dK (Q3 QC k v))):=.inl ⟨QC,k,e,rfl,hl,rfl⟩
section
variable {X:Cx}{O:St}{H:Hp}{s:PV}{a:PU}{y v:V}{u r:PR}{A:PZ}{E:PR->PV->Prop}
def Inv.big (I:Inv X Qz O H s):sysModules<s.heap.objs.size:=by have h:Qn<s.heap.objs.size:=(I.mod.glob.keeps I.bk).lt;exact Nat.lt_trans (by decide) h
def ux {Q:PR->PV->Prop}(hu:A.units+1<Qu)(I:Inv X Qz O H s)(g:fy H a y (some v))(ry:x3 y u)(h:∀w' s',Inv X Qz O H s'->x3 v w'->Q w' s') :
  Qm (model X.prog X.w) A (getItem (.ref a) u) Q E s:=by
 rcases g with ⟨QC,k,e,ey,l⟩ | ⟨QC,k,b,e,ey,eb,l⟩
 .subst ey;obtain⟨z,hd,vs,rel,dd⟩:=wD I.hok e;obtain⟨w',hw,rw'⟩:=jN.some_of (v:=v) (o:=valueAt vs k) (by rw[l];exact rel.val k);exact wpAny_getItem_of (sQ ry) dd.mapOf hw (h w' _ (I.tok _) rw')
 .subst ey;cases(show u=PR.ref b from ry);obtain⟨z,hd,xs,rel,dd⟩:=wu I.hok e;obtain⟨w',hw,rw'⟩:=jN.some_of (v:=v) (o:=(atKey xs k).map (·.2)) (by rw[l];exact rel.val k);obtain⟨p,hp,hp2⟩:=LK.1 hw;refine wpAny_getItem_heap (tupleKind_room_in1 hu) (pI I.hok eb) dd hp ?_;rw[hp2];exact h w' _ (I.tok _) rw'
def lx {h':Qe}{ob:HO}(I:Inv X Qz O H s)(mu:Mut (H a))(hs:Qe.SameBut a s.heap h')(he:∃q,h'.get? a=some q)(new:N5 X.prog X.w (upd H a ob) h' a ob) :
  Inv X Qz O (upd H a ob) { s with heap:=h',toks:=t' } :=
 I.write (x:=a) (e:=a) mu (.inl rfl) (λb q hb z=>(hs.2 b hb).trans z) he new
def vp {P:PX}{w:PY}{H':Hp}{h':Qe}(z:QC.length<=Qg)(hd:(a == sysModules)=false)(rel:KV QC vs)(dd:h'.DictOf (J0 P w) a vs) :
  N5 P w H' h' a (.dK QC):=⟨z,hd,vs,rel,dd⟩
def tV {H':Hp}{Q:Unit->PV->Prop}(hu:A.units+1<Qu)(I:Inv X Qz O H s)(g:oj H a y v H')(ry:x3 y u)(rv:x3 v r)(h:∀s',Inv X Qz O H' s'->Q () s') :
  Qm (model X.prog X.w) A (setItem (.ref a) u r) Q E s:=by
 rcases g with ⟨QC,k,e,ey,l,eH⟩ | ⟨QC,k,b,e,ey,eb,l,eH⟩
 .subst ey eH;obtain⟨z,hd,vs,rel,dd⟩:=AD I.hok e;have hz:vs.length<=Qg:=by rw[<-rel.length];exact z
  have hl:(Q3 QC k v).length<=Qg:=by have:=bD QC k v;omega
  refine wpAny_setItem_pairs (hsz:=hz) (sQ ry) dd λh' dd' hs=>h _ ?_
  have he:∃q,h'.get? a=some q:=let ⟨q,_,_,hq,_⟩:=dd';⟨q,hq⟩;exact lx I (by rw[e];exact True.intro) hs he (vp hl hd (rel.put k rv) dd')
 .subst ey eH;cases(show u=PR.ref b from ry);obtain⟨z,hd,xs,rel,dd⟩:=DH I.hok e;have hz:xs.length<=Qg:=by rw[<-Pr rel];exact z
  have hl:(Q3 QC k v).length<=Qg:=by have:=bD QC k v;omega
  refine wpAny_setItem_heap (hsz:=hz) (tupleKind_room_in1 hu) (pI I.hok eb) dd λh' dd' hs=>h _ ?_
  obtain⟨q,es,ep,hq,h2,h3,h4,_,h5⟩:=dd';refine lx I (by rw[e];exact True.intro) hs ⟨q,hq⟩ ⟨hl,hd,_,(rel.put k eb rv).keeps λc ys ec=>?_,q,es,ep,hq,h2,h3,h4,h5⟩;rw[b9 (FD ec e (λz=>nomatch z))];exact ec
end
section
variable {X:Cx}{O:St}{H:Hp}{s:PV}{a:PU}{k:Key}{u:PR}{A:PZ}{E:PR->PV->Prop}
end
def Fu (i:Qd):Prop:=∀ov iv,subscripted i false ov iv=operate [ov,iv] (getItem ov iv)
def Ae {prog:PX}{w:PY}{A:PZ}{E:PR->PV->Prop}{s:PV}{env:Qj}{value slice:Qd}{T id:String}{Q:PR->PV->Prop}
  (hl:typeLookup (.type T) "__getitem__" = pure (some (.builtin id))) (hs:Fu slice)
  (h:Qm (model prog w) A (eval value env) (λo s₁=>Qm (model prog w) A (eval slice env) (λi s₂=>s₂.TypeIs o T/\Qm (model prog w) A (getItem o i) Q E s₂) E s₁) E s) :
  Qm (model prog w) A (eval (.Subscript value slice pos) env) Q E s:=by
 refine Subscript_ (LX h (λo s₁ h₁=>LX h₁ (λi s₂ h₂=>?_) λ_ _ x=>x) λ_ _ x=>x);obtain⟨hT,h₂⟩:=h₂;unfold subscriptTail;refine Ld ?_;rw[getitemInPython_of_ne hT.not_modules];refine Ld (wpAny_specialOf hT hl ?_);have fin:Qm (model prog w) A (subscripted slice false o i) (λr s₃=>Qm (model prog w) A (letTemporaryGo value o r >>= λ_=>pure r) Q E s₃) E s₂:=by rw[hs o i];exact wpAny_operating (LX h₂ (λr s₃ h₃=>Ld (wpAny_letTemporaryGo (Lo h₃))) λ_ _ x=>x)
 first
  | exact Lo (Ld fin)
  | exact Ld (Lo (Ld fin))
  | exact Ld fin
def oF {X:Cx}{O:St}{H:Hp}{s:PV}{a:PU}{y:V}(I:Inv X Qz O H s)(g:fy H a y o):s.TypeIs (.ref a) "dict":=by
 rcases g with ⟨QC,k,e,_,_⟩ | ⟨QC,k,b,e,_,_,_⟩
 .obtain⟨_,_,vs,_,dd⟩:=wD I.hok e;exact dd.typeIs
 .obtain⟨_,_,xs,_,dd⟩:=wu I.hok e;exact dd.typeIs
def M3 (td ty:TE):TE:=λO H Q=>td O H λx H1=>ty O H1 λy H2=>∃a v,x = .ref a/\fy H2 a y (some v)/\Q v H2
def xT (td ty tv:TE):TS:=λD O H=>tv O H λv H1=>td O H1 λx H2=>ty O H2 λy H3=>∃a H4,x = .ref a/\oj H3 a y v H4/\D.nx O H4
section
variable {X:Cx}{o i e value:Qd}{pos' tpos:Pos}{td ty tv:TE}
def G8 (hu:X.A.units+1<Qu)(ho:PE X o td)(hi:PE X i ty)(hs:Fu i):PE X (.Subscript o i pos) (M3 td ty):=by intro Qz s O H Q I h;refine Ae PySem.F.slot_dict_getitem.lookup hs (thn (ho Qz s O H _ I h) λu s1 ⟨x,H1,I1,rx,q1⟩=>thn (hi Qz s1 O H1 _ I1 q1) λiv s2 ⟨y,H2,I2,ry,a,v,ex,g,q2⟩=>?_);subst ex;obtain rfl:u=PR.ref a:=rx;exact⟨oF I2 g,ux hu I2 g ry λw' s3 I3 rw'=>⟨v,H2,I3,rw',q2⟩⟩
def sM (hu:X.A.units+1<Qu)(ho:PE X o td)(hi:PE X i ty)(hv:PE X value tv)(hs:Qo value (some (.Subscript o i pos')) pos.line X.env=pure false) :
  PS X (.Assign [.Subscript o i pos'] value pos) (xT td ty tv):=by intro Qz s O H D I h;refine wpAny_Assign_Subscript (thn (hv Qz s O H _ I h) λr s1 ⟨v,H1,I1,rv,q1⟩=>thn (ho Qz s1 O H1 _ I1 q1) λu s2 ⟨x,H2,I2,rx,q2⟩=>thn (hi Qz s2 O H2 _ I2 q2) λiv s3 ⟨y,H3,I3,ry,a,H4,ex,g,q3⟩=>?_) hs;subst ex;obtain rfl:u=PR.ref a:=rx;exact tV hu I3 g ry rv λs4 I4=>⟨O,H4,I4,q3⟩
end
def vE {P:PX}{w:PY}{H:Hp}(h:Qe)(hb:sysModules<h.objs.size):N5 P w H (h.push { cls:=.type "dict",data:=.dict #[] }) h.objs.size (.dK []) :=
 ⟨Mb _,Oj.2 (LZ (LH hb)),[],.nil,Qe.DictOf.new h⟩
section
variable {X:Cx}
end
def ph:List (TE×TE)->St->Hp->(List (V×V)->Hp->Prop)->Prop
 | [],_,H,Q=>Q [] H
 | (tk,tv)::r,O,H,Q=>tk O H λx H1=>tv O H1 λy H2=>ph r O H2 λps H3=>Q ((x,y)::ps) H3
abbrev VV :List (V×V)->List (PR×PR)->Prop:=Paired λp q=>x3 p.1 q.1/\x3 p.2 q.2
def PPs (X:Cx)(pos:Pos)(keys:List (Option Qd))(values:List Qd)(trs:List (TE×TE)):Prop :=
 ∀(Qz:List (PU×Qi)) (s:PV) (O:St) (H:Hp) (Q:List (V×V)->Hp->Prop),Inv X Qz O H s->ph trs O H Q ->
  Qm (model X.prog X.w) X.A (evalPairs (pairTrees keys values X.env pos)) (λvs s'=>∃ps H',Inv X Qz O H' s'/\VV ps vs/\Q ps H') X.xe s
def yD {X:Cx}:PPs X pos [] [] []:=λQz s O H Q I h=>pairTrees_nil_walk ⟨[],H,I,.nil,h⟩
def dZ {X:Cx}{k v:Qd}{ks:List (Option Qd)}{vs:List Qd}{tk tv:TE}(hk:PE X k tk)(hv:PE X v tv)(hr:PPs X pos ks vs trs) :
  PPs X pos (some k::ks) (v::vs) ((tk,tv)::trs):=λQz s O H Q I h =>
 pairTrees_cons_walk (thn (hk Qz s O H _ I h) λu s1 ⟨x,H1,I1,rx,q1⟩=>thn (hv Qz s1 O H1 _ I1 q1) λw2 s2 ⟨y,H2,I2,ry,q2⟩ =>
  thn (hr Qz s2 O H2 _ I2 q2) λws s3 ⟨ps,H3,I3,rel,q3⟩=>⟨(x,y)::ps,H3,I3,.cons ⟨rx,ry⟩ rel,q3⟩)
def fo (QC more:List (Key×V)):List (Key×V):=more.foldl (λacc kv=>Q3 acc kv.1 kv.2) QC
def KV.merge :∀{more:List (Key×V)} {rs:List (Key×PR)} {QC:List (Key×V)} {vs:List (Key×PR)},KV more rs->KV QC vs->KV (fo QC more) (merged vs rs):=by
 intro more rs QC vs r;unfold KV at r;induction r generalizing QC vs with
 | nil=>intro q;exact q
 | @cons p q ps qs h t ih =>
  intro r0;have e:KV (Q3 QC p.1 p.2) (stored vs q.1 q.2):=by have:=r0.put p.1 h.2;rw[<-h.1];exact this
  exact ih e
theorem cF:∀(more QC:List (Key×V)),(fo QC more).length<=QC.length+more.length
 | [],QC=>by show QC.length<=QC.length+0;omega
 | p::r,QC=>by have h1:=cF r (Q3 QC p.1 p.2);have h2:=bD QC p.1 p.2;show(fo (Q3 QC p.1 p.2) r).length<=_;rw[Ly];omega
theorem jg {P:PX}{w:PY}:∀{QC:List (Key×V)} {ws:List (PR×PR)},VV (QC.map λkv=>(kV kv.1,kv.2)) ws->∃rs,Carries (J0 P w) ws rs/\KV QC rs
 | [],_,r=>by rw[Mt]at r;cases r;exact⟨[],True.intro,.nil⟩
 | p::QC,_,r=>by
  rw[Lu]at r;cases r with
  | @cons a b as bs h t =>obtain⟨rs,c,q⟩:=jg (P:=P) (w:=w) t;obtain⟨b1,b2⟩:=b;exact⟨(p.1,b2)::rs,⟨sQ h.1,rfl,c⟩,.cons ⟨rfl,h.2⟩ q⟩
def Be (trs:List (TE×TE)):TE:=λO H Q=>∀p,H p=none->ph trs O (upd H p (.dK [])) λps H2=>H2 p=some (.dK [])/\∃QC:List (Key×V),ps=QC.map (λkv=>(kV kv.1,kv.2))/\QC.length<=15/\Q (.ref p) (upd H2 p (.dK (fo [] QC)))
def zw {X:Cx}{keys:List (Option Qd)}{values:List Qd}(h:PPs X pos keys values trs)(hall:keys.all (·.isSome)=true)(hl:keys.length=values.length)(h0:keys≠[])
  (h15:keys.length<=15):PE X (.Dict keys values pos) (Be trs):=by
 intro Qz s O H Q I q;have hn:=I.hok.fresh (Ln s.heap.objs.size);have I1:=I.laid (a:=s.heap.objs.size) (o:=.dK []) (h':=s.heap.push { cls:=.type "dict",data:=.dict #[] }) (t':=s.toks) (λ_ _ q=>Ll _ q) (Ln _) (vE s.heap I.big);refine wpAny_Dict_walk (knd:=J0 X.prog X.w) hall hl h0 h15 (thn (h Qz _ O _ _ I1 (q _ hn)) λws s2 ⟨ps,H2,I2,rel,e,QC,ep,lk,q2⟩=>?_);subst ep;obtain⟨rs,c,rk⟩:=jg (P:=X.prog) (w:=X.w) rel;obtain⟨z,hd,vs0,r0,dd⟩:=AD I2.hok e;cases r0;refine⟨rs,c,dd,λh' dd' hs=>⟨.ref s.heap.objs.size,_,?_,rfl,q2⟩⟩;have hz:(fo [] QC).length<=Qg:=by have h1:=cF QC [];rw[MH]at h1;rw[LV];omega
 have he:∃q,h'.get? s.heap.objs.size=some q:=let ⟨q,_,_,hq,_⟩:=dd';⟨q,hq⟩;exact lx I2 (by rw[e];exact True.intro) hs he (vp hz hd (rk.merge .nil) dd')
section
variable {X:Cx}{O:St}{H:Hp}{s:PV}{a:PU}{y d:V}{u r:PR}{A:PZ}{E:PR->PV->Prop}
end
section
variable {X:Cx}{o e f:Qd}{apos cpos:Pos}{td ty tx:TE}
end
section
variable {X:Cx}{O:St}{H:Hp}{s:PV}{a:PU}{A:PZ}{E:PR->PV->Prop}
end
section
variable {X:Cx}{O:St}{H:Hp}{s:PV}{a:PU}{y:V}{u:PR}{A:PZ}{E:PR->PV->Prop}
end
end
end L2
namespace Att
open PySem PySem.W PySem.Calls PyProof.Rows
def gC {P:Params}{h:Qe}:∀(ns:List Int) (vs:List PR),WellAll P h vs (ns.map WData.int)->IntsAre vs ns:=by
 intro ns;induction ns with
 | nil =>intro vs w;rw[Mt]at w;cases w;exact .nil
 | cons n ns ih =>
  intro vs w;rw[Lu]at w;cases w with
  | cons a b =>cases a;exact .cons _ _ (ih _ b)
def uc {l:OpenLaw}{n:Nat}(hn:l.most=some n){P:Params}{h:Qe}{args:List WData}{vals:List PR}
  (hpre:l.row.toRowW.claim.pre args=true) (hwl:WellAll P h vals args) :
  ∃a vs ns,vals=[PR.ref a]/\args=[WData.list (ns.map WData.int)]/\h.get? a=some { cls:=.type "list",data:=.seq vs.toArray }/\IntsAre vs ns/\ns.length<=n:=by
 have hsh:WShape.hasAll [] args [.list .int]=true:=(pre_splitW hpre).1;have hc:l.pre.holds [] { args:=args }=true:=(pre_splitW hpre).2;obtain⟨d,r,rfl,h1,h2⟩:=hasAllW_cons hsh;obtain rfl:=hasAllW_nil h2;obtain⟨xs,rfl,h3⟩:=hasW_list h1;obtain⟨ns,rfl⟩:=items_int h3;have hlen:ns.length<=n:=by
  unfold OpenLaw.pre at hc;have h4:(WTm.not (.lt (.lit (.int (n:Int))) (.len (.arg 0)))).holds [] { args:=[.list (ns.map .int)] }=true:=by have h4:=(holds_andW hc).1;rw[hn]at h4;exact h4
  have h5:=condW_of h4 (w_not (w_lt w_lit (w_len_list (w_arg rfl))));rw[Lf]at h5;refine Nat.le_of_not_lt λq=>?_
  have q':(n:Int)<((ns.length:Nat):Int):=by omega
  first
   | (rw[MX q']at h5;exact absurd h5 (by decide))
   | (simp at h5;omega)
 cases hwl with
 | cons w1 w2 =>
  cases w2;cases w1 with
  | list ho hall=>exact⟨_,_,ns,rfl,rfl,ho,gC ns _ hall,hlen⟩
def tH (l:OpenLaw)(args:List WData):l.row.toRowW.claim.post args (.bool true) args=true :=
 postW_of (r:=l.row.toRowW) (X:=(true == true))
  (show WShape.has [] (.bool true) .bool=true by first | rfl | decide | simp[WShape.has,WShape.arms,WShape.armsAll])
  (show(WTm.eq .res (.lit (.bool true))).value [] { args:=args,res:=some (.bool true),after:=args }=some (.bool (true == true)) from w_eq_bool (w_res rfl) w_lit) rfl
def attach_call {l:OpenLaw}{n:Nat}{q:PX}{loose:List Str}{XP:(Str->Option PR)->Qe->Prop}{YP:PY->Qe->Prop}{d:DefRec}
  (hn:l.most=some n) (hdf:d.params.defaults=[])
  (call:∀(w:PY) (s₀ s₁:PV) (mg mb:Str->Option PR) (fa:PU) (o:Qi) (pm cd doc:PR) (a:PU) (vs:List PR) (ns:List Int),
   Ground q loose [] XP w s₀ mg mb s₁.heap->YP w s₁.heap ->
   s₁.heap.get? fa=some o->o.data = .func (docDef d.name d.params d.body d.scope pm cd doc)->s₁.heap.CodeRec cd d.name->mg d.name=some (.ref fa) ->
   s₁.heap.get? a=some { cls:=.type "list",data:=.seq vs.toArray }->IntsAre vs ns->ns.length<=n->s₁.gens = #[] ->
   codeAny (model l.prog w) callerA (.call (.ref fa) ⟨[.ref a],[]⟩) (λr s'=>r = .ok (.ret (.bool true))/\OldK s₁.heap s'.heap/\s'.os=s₁.os/\AllBare s'.gens) s₁) :
  WalkO q loose XP YP l.row.toRowW d [] (λf vs=>PySem.call f vs):=by intro w s₀ s₁ mg mb G Y fa o pm cd doc dV kV ho hd hcd hD hmg hg args vals as hpre hlay hrd hwl hlo;obtain rfl:dV = .none:=Dflts.none hD hdf;obtain rfl:kV = .none:=Dflts.noKw hD;obtain⟨a,vs,ns,rfl,rfl,hobj,hints,hlen⟩:=uc hn hpre hwl;refine enter_call (codeAny_mono (call w s₀ s₁ mg mb fa o pm cd doc a vs ns G Y ho (fd_plain hd) hcd hmg hobj hints hlen hg) λr s' hq=>?_);obtain⟨rfl,h2,h3,h4⟩:=hq;exact⟨.inl ⟨.bool true,.bool true,[],rfl,λ_=>rfl,.bool true,tH l _,λ_=>⟨List.Pairwise.nil,λ_ hm=>(nomatch hm)⟩⟩,h2,h3,h4⟩
section
variable {prog:PX}{w:PY}{A:PZ}{E:PR->PV->Prop}{s:PV}{K:Frag}
end
end Att
namespace L2
open PySem PySem.Spec PyProof.Rows
section
theorem fA:∀{vs:List PR} {ns:List Int},IntsAre vs ns->r6 (ns.map V.int) vs
 | _,_,.nil=>.nil
 | _,_,.cons n t h=>.cons ⟨t,rfl⟩ (fA h)
end
section
end
end L2
namespace L2
open PySem PySem.Spec PyProof.Rows
def defArgs (s:Qc):Arguments:=match s with
 | .FunctionDef _ a _ _ _ _ _ _ _ _=>a
 | _=>{ posonlyargs:=[],args:=[],vararg:=none,kwonlyargs:=[],kw_defaults:=[],kwarg:=none,defaults:=[] }
def defBody (s:Qc):List Qc:=match s with
 | .FunctionDef _ _ b _ _ _ _ _ _ _=>b
 | _=>[]
def defScope (s:Qc):Qa:=match s with
 | .FunctionDef _ _ _ _ _ _ sc _ _ _=>sc
 | _=>{ kind:=.function,names:=[],isGenerator:=false,isCoroutine:=false }
abbrev CX0:CXT:=λ_ _ _ _ _ _=>False
abbrev E0:XK:=λ_ _ _=>False
def DQ {X:Cx}:pj CX0 X E0:=λ_ _ _ _ _ _ _ h=>h.elim
structure Fun (K:Qf) (x qual:Str) (st:Qc) (f:PU) (fd:Qb):Prop where
 ex:∃(oc:PR) (od:Option PU) (kV doc pm:PR) (an:Option PU) (QB ct:PR) (osl:Array (Option PR)),
  fd=PySem.W.fnOf x qual (defArgs st) (defBody st) (defScope st) .none kV doc pm an QB ct/\K.lookup f=some ⟨oc,od,.func fd,osl⟩/\PySem.W.codeIn K QB qual=true
 kp:PySem.W.keepIn K (.ref f)=true
section
variable {P:PX}{w:PY}{K:Qf}{mg:Str->Option PR}{base:Qe}
def Fun.ok {x qual:Str}{st:Qc}{f:PU}{fd:Qb}{N ps:List Str}{k:Nat}{sp:Sp}(F:Fun K x qual st f fd)(S:FnScope N ps (defScope st))(len:∀vs H Q E,sp vs H Q E->vs.length=ps.length)
  (hbody:∀(QB:PR) (A:PZ) (outer:List Qj) (s:PV) (H:Hp) (vs:List V) (Q:VK) (E:XK),Room k (A.deeper (envOfC qual (defScope st) s.heap.objs.size f QB))->sp vs H Q E ->
   ∃t,PSs (W6 CX0 P w K mg base N qual (defScope st) f QB A outer s H E).nox (defBody st) t/\t { nx:=λ_ H'=>Q .non H',rt:=Q } (O2 N vs) H):FnOk P w K mg base CX0 (k+1) f fd ps sp:=by
 obtain⟨oc,od,kV,doc,pm,an,QB,ct,osl,rfl,lk,hcd⟩:=F.ex;refine AK lk hcd S len λA outer s H vs Q E hr hsp=>?_
 obtain⟨t,h,q⟩:=hbody QB A outer s H vs Q E hr hsp;exact⟨t,h.nox,q⟩
def Fun.binds {x qual:Str}{st:Qc}{f:PU}{fd:Qb}{ps:List Str}(F:Fun K x qual st f fd)
  (h:∀(kV doc pm:PR) (an:Option PU) (QB ct:PR) (us:List PR),us.length=ps.length->bindArgs (PySem.W.fnOf x qual (defArgs st) (defBody st) (defScope st) .none kV doc pm an QB ct) ⟨us,[]⟩=pure (ps.zip us)):gc K fd ps []:=by obtain⟨oc,od,kV,doc,pm,an,QB,ct,osl,rfl,lk,hcd⟩:=F.ex;exact .all (h kV doc pm an QB ct)
def fun_mk {x qual:Str}{st:Qc}{f:PU}{oc:PR}{od an:Option PU}{osl:Array (Option PR)}{kV doc pm QB ct:PR}(l:K.lookup f=some ⟨oc,od,.func (PySem.W.fnOf x qual (defArgs st) (defBody st) (defScope st) .none kV doc pm an QB ct),osl⟩)
  (c:PySem.W.codeIn K QB qual=true) (k:PySem.W.keepIn K (.ref f)=true):Fun K x qual st f (PySem.W.fnOf x qual (defArgs st) (defBody st) (defScope st) .none kV doc pm an QB ct):=⟨⟨oc,od,kV,doc,pm,an,QB,ct,osl,rfl,l,c⟩,k⟩
end
def EH {A:PZ}{k:Nat}(hr:Room k A):A.units+1<Qu:=NZ (Nat.add_le_add_left (by decide:1<=64) _) hr.units
def V3 {n:Nat}(h:n<=1000):n<Qg:=NZ h (by decide)
section
variable {X:Cx}
def pv (i:Nat){x:Str}{pos:Pos}(hN:X.N[i]? = some x:=by rfl)(hv:Vis X.env.scope x:=by walk_at "v")(hd:(x == ("__debug__":Str))=false:=by decide)
  (hcd:(x == ("__classdict__":Str))=false:=by decide):PE X (.Name x pos) (z7 i):=L7 hN hv hd hcd
end
def wM {A B:Prop}(h:B):if false=true then A else B:=by rw[Lk LF];exact h
def FE {A B:Prop}(h:A):if true=true then A else B:=by rw[Lg rfl];exact h
def ni {c A B:Prop}[Decidable c](h1:c->A)(h2:¬c->B):if c then A else B:=by
 by_cases h:c
 .rw[Lg h];exact h1 h
 .rw[Lk h];exact h2 h
def h8 (H H':Hp):Prop:=∀b o,H b=some o->H' b=some o
def h8.refl (H:Hp):h8 H H:=λ_ _ h=>h
def h8.trans {H H1 H2:Hp}(a:h8 H H1)(b:h8 H1 H2):h8 H H2:=λc o h=>b c o (a c o h)
section
variable {X:Cx}
end
section
variable {κ:Type}[DecidableEq κ]
end
end L2
set_option maxHeartbeats 4000000
namespace L2
open PySem PySem.Spec PyProof.Rows
variable {scope:Qa}{env:Qj}{elt iter:Qd}{pos:Pos}{ifs:List Qd}
section
def K9 (f:Str->PU):List (Str×Qw)->List (Str×PU)->List (Str×PU)
 | [],acc=>acc
 | (n,kd)::r,acc=>K9 f r (if (kd == Qw.free)=true then(n,f n)::acc else acc)
def N1 {f:Str->PU}(h:∀y∈scope.names,y.2 = .free->cellOf env y.1=pure (f y.1)) :
  closureFor scope env=pure (K9 f scope.names []):=by
 have key:∀(l:List (Str×Qw)) (acc:List (Str×PU)),(∀y∈l,y.2 = .free->cellOf env y.1=pure (f y.1)) ->
   (forIn l acc (λ(x:Str×Qw) (cs:List (Str×PU))=>if (x.2 == Qw.free)=true then(do let c <-cellOf env x.1;pure (ForInStep.yield ((x.1,c)::cs))) else pure (ForInStep.yield cs)):Sem (List (Str×PU)))=pure (K9 f l acc):=by
  intro l;induction l with
  | nil=>intro acc _;rfl
  | cons y r ih =>
   intro acc hy;obtain⟨n,kd⟩:=y;rw[List.forIn_cons];by_cases hk:(kd == Qw.free)=true
   .have e:kd = .free:=by simpa using hk
    have hc:=hy (n,kd) Lq e;simp only[hk,ML];dsimp only at hc;rw[hc];show(forIn r ((n,f n)::acc) _:Sem _)=_;rw[ih _ λz hz=>hy z (Le _ hz)];simp only[K9,hk,ML]
   .simp only[hk,MO];show(forIn r acc _:Sem _)=_;rw[ih _ λz hz=>hy z (Le _ hz)];simp only[K9,hk,MO];rfl
 have:=key scope.names [] h;unfold closureFor;show(forIn scope.names [] _ >>= λr=>pure r)=_;rw[show(forIn scope.names ([]:List (Str×PU)) _:Sem _)=_ from this];rfl
theorem Q5 {f:Str->PU}:∀(l:List (Str×Qw)) (acc:List (Str×PU)) {x:Str} {c:PU},(K9 f l acc).lookup x=some c->((x,Qw.free)∈l/\c=f x)\/acc.lookup x=some c
 | [],_,_,_,h=>.inr h
 | (n,kd)::r,acc,x,c,h=>by
  rw[K9]at h;rcases Q5 r _ h with ⟨h1,h2⟩ | h1
  .exact .inl ⟨Le _ h1,h2⟩
  .by_cases hk:(kd == Qw.free)=true
   .rw[Lg hk]at h1;have e:kd = .free:=by simpa using hk
    subst e;by_cases hx:x=n
    .subst hx;simp at h1;exact .inl ⟨Lq,h1.symm⟩
    .have hb:(x == n)=false:=Oj.2 hx;rw[MC,hb]at h1;exact .inr h1
   .rw[Lk hk]at h1;exact .inr h1
theorem aa {f:Str->PU}:∀(l:List (Str×Qw)) (acc:List (Str×PU)) {x:Str},((x,Qw.free)∈l\/acc.lookup x=some (f x))->(K9 f l acc).lookup x=some (f x)
 | [],_,_,h=>by
  rcases h with h | h
  .exact absurd h (by simp)
  .exact h
 | (n,kd)::r,acc,x,h=>by
  rw[K9];refine aa r _ ?_;by_cases hk:(kd == Qw.free)=true
  .rw[Lg hk];have e:kd = .free:=by simpa using hk
   subst e;by_cases hx:x=n
   .subst hx;exact .inr (by simp)
   .have hb:(x == n)=false:=Oj.2 hx;rcases h with h | h
    .rcases Lh.1 h with z | z
     .cases z;exact absurd rfl hx
     .exact .inl z
    .exact .inr (by rw[MC,hb];exact h)
  .rw[Lk hk];rcases h with h | h
   .rcases Lh.1 h with z | z
    .cases z;exact absurd rfl hk
    .exact .inl z
   .exact .inr h
def mP {x:Str}(hn:∀y∈scope.names,y.2 ≠ .cell)(h:(relabel scope env).names.lookup x=some .cell\/(relabel scope env).names.lookup x=some .free):(x,Qw.free)∈scope.names:=by
 have go:∀kd,(relabel scope env).names.lookup x=some kd->kd = .cell\/kd = .free->(x,Qw.free)∈scope.names:=by
  intro kd h hk;have hm:=MJ h;unfold relabel at hm;obtain⟨⟨n,k0⟩,hy,e⟩:=LN.1 hm;by_cases hc:(k0 == Qw.free&&env.scope.kind == .function&&env.kindOf n == some .cell)=true
  .simp only[hc,ML]at e;cases e;have:k0 = .free:=by simp only[NG]at hc;simpa using hc.1.1
   subst this;exact hy
  .simp only[hc,MO]at e;cases e;rcases hk with r | r
   .subst r;exact absurd rfl (hn _ hy)
   .subst r;exact hy
 rcases h with h | h
 .exact go _ h (.inl rfl)
 .exact go _ h (.inr rfl)
theorem cA {φ:Str×Qw->Str×Qw}(hφ:∀n k,φ (n,k)=(n,k)\/(k = .free /\ φ (n,k)=(n,.cell))):∀{names:List (Str×Qw)} {x:Str},names.lookup x=some .free->(names.map φ).lookup x=some .cell\/(names.map φ).lookup x=some .free
 | [],_,h=>by simp at h
 | (n,k)::r,x,h=>by
  have ih:=@cA φ hφ r x;rw[Lu];cases hx:x == n with
  | true =>
   simp only[MC,hx]at h;cases h;rcases hφ n .free with e | ⟨_,e⟩
   .rw[e,MC,hx];exact .inr rfl
   .rw[e,MC,hx];exact .inl rfl
  | false =>
   simp only[MC,hx]at h;rcases hφ n k with e | ⟨_,e⟩
   .rw[e,MC,hx];exact ih h
   .rw[e,MC,hx];exact ih h
def lS {x:Str}(h:scope.names.lookup x=some .free):(relabel scope env).names.lookup x=some .cell\/(relabel scope env).names.lookup x=some .free:=by
 unfold relabel;refine cA (λn k=>?_) h;by_cases hc:(k == Qw.free&&env.scope.kind == .function&&env.kindOf n == some .cell)=true
 .refine .inr ⟨?_,Lg hc⟩;simp only[NG]at hc;simpa using hc.1.1
 .exact .inl (Lk hc)
def rL (target iter:Qd)(ifs:List Qd)(it:PR)(env:Qj)(act:Sem Fin->Sem Fin)(more:Sem Fin):Sem Fin:=do
 standAt iter.pos
 match <-pyNext it with
 | none=>pure (.done .next)
 | some v =>
  letOwnedTupleGo target it v
  assign target env v
  let mut ok:=true
  for c in ifs do
   if ok then ok <-isTrue c env (eval c env)
  if ok then act more else more
def nq (elt:Qd)(acc:PR)(env:Qj):Sem Unit:=do let _ <-call (.builtin "list.append") [acc,<-eval elt env]
section
variable {prog:PX}{w:PY}{A:PZ}{R:Result->PV->Prop}{s:PV}
def EG {gens:List Comprehension}{d:Nat}{it acc:PR}{target:Qd}{act:Sem Fin->Sem Fin}(I:Nat->PV->Prop)
  (ht:compTurn (.ListComp elt gens scope pos) d it acc env=rL target iter ifs it env act (again (.compLoop (.ListComp elt gens scope pos) d it acc env)))
  (turn:∀n s,I n s->Qm (model prog w) A (pyNext it) (λr s₁=>match r with
   | none=>R (.ok .next) s₁
   | some v=>Qm (model prog w) A (letOwnedTupleGo target it v) (λ_ s₀=>Qm (model prog w) A (assign target env v) (λ_ s₂ =>
     Qm (model prog w) A (forIn ifs true λc r=>if r=true then do let ok <-isTrue c env (eval c env);pure (ForInStep.yield ok) else pure (ForInStep.yield r)) (λok s₃ =>
      if ok=true then ∀(k:Sem Fin) (Q:Fin->PV->Prop) (E:PR->PV->Prop),(∀s₅,(∃m,m<n/\I m s₅)->Qm (model prog w) A k Q E s₅)->Qm (model prog w) A (act k) Q E s₃
      else ∃m,m<n/\I m s₃) (λ_ _=>False) s₂) (λ_ _=>False) s₀) (λ_ _=>False) s₁) (λ_ _=>False) s)
  (n:Nat) (h:I n s):codeAny (model prog w) A (.compLoop (.ListComp elt gens scope pos) d it acc env) R s:=by
 refine codeAny_loop rfl I (λn s hI=>?_) n h;show Qm _ A ((compTurn (.ListComp elt gens scope pos) d it acc env).onRaise (λx=>do noteFrame x env;theTreesLotGoes x)) _ _ s;refine wpAny_noted ?_;rw[ht];unfold rL;refine Ld (NA (Ld (LX (turn n s hI) (λr s₁ h₁=>?_) λ_ _ h'=>h'.elim)));cases r with
 | none=>exact Lo h₁
 | some v =>
  refine Ld (LX h₁ (λ_ s₀ h₀=>?_) λ_ _ h'=>h'.elim);refine Ld (LX h₀ (λ_ s₂ h₂=>Ld (LX h₂ (λok s₃ h₃=>?_) λ_ _ h'=>h'.elim)) λ_ _ h'=>h'.elim);cases ok with
  | false=>exact Lo ⟨rfl,h₃⟩
  | true=>exact h₃ _ _ _ λs₅ h₅=>Lo ⟨rfl,h₅⟩
end
def dk (k:Nat)(cap:List Nat)(O:St):St:=List.replicate k none++cap.map λj=>(O[j]?).join
structure Caps (ON:List Str) (osc:Qa) (N:List Str) (k:Nat) (cap:List Nat) (scope:Qa):Prop where
 kind:scope.kind = .function
 nocell:∀y∈scope.names,y.2 ≠ .cell
 loc:∀y∈scope.names,y.2 = .local->scope.names.lookup y.1=some .local
 free:∀y∈scope.names,y.2 = .free->osc.names.lookup y.1=some .cell\/osc.names.lookup y.1=some .free
 len:N.length=k+cap.length
 capx:(cap.map λj=>ON[j]?)=(N.drop k).map some
 capf:∀x∈N.drop k,scope.names.lookup x=some .free
def cxC (X:Cx)(N:List Str)(scope:Qa)(cl:List (Str×PU))(C:PU)(ex:List PU)(Qz:List (PU×Qi))(s₀:PV)(H₀:Hp):Cx where
 prog:=X.prog
 w:=X.w
 K:=X.K
 mg:=X.mg
 base:=X.base
 A:=X.A
 N:=N
 s₀:=s₀
 H₀:=H₀
 env:=compEnvC scope cl C X.env
 outer:=X.stack
 stack:=X.stack
 ex:=ex
 fn:=λ_=>false
 calm:=X.calm
 pn:=X.pn++Qz
 xe:=λ_ _=>False
def PTs (X:Cx)(ifs:List Qd)(t:TT):Prop :=
 ∀(Qz:List (PU×Qi)) (s:PV) (O:St) (H:Hp) (Q:Bool->Hp->Prop),Inv X Qz O H s->t O H Q ->
  Qm (model X.prog X.w) X.A (forIn ifs true λc r=>if r=true then do let ok <-isTrue c X.env (eval c X.env);pure (ForInStep.yield ok) else pure (ForInStep.yield r)) (TP X Qz O Q) X.xe s
def ET :TT:=λ_ H Q=>Q true H
def Ac {X:Cx}:PTs X [] ET:=λ_ _ _ H _ I h=>wpAny_tests_nil ⟨H,I,h⟩
def Ao {X:Cx}{c:Qd}{t:TT}(h:PT X c t):PTs X [c] t:=λQz s O H Q I q=>wpAny_tests_one (h Qz s O H Q I q)
def tLC (wi:TI)(k:Nat)(cap:List Nat)(g:TG)(tt:TT)(te:TE):TE:=λO H Q=>wi O H λJ H1=>∀D,H1 D=none ->
 ∃W:Nat->Nat->St->List V->Hp->Prop,(∃m,W 0 m (dk k cap O) [] (upd H1 D (.lst [])))/\∀i m O' acc H',W i m O' acc H' ->
  (J.stop i H'/\Q (.ref D) H') \/
  (J.go i H'/\∀x H2,J.yld i H' x H2->g x O' H2 λσ2 H3=>tt σ2 H3 λok H4=>if ok=true then te σ2 H4 λy H5=>H5 D=some (.lst acc)/\acc.length<Qg/\∃m',m'<m/\W (i+1) m' σ2 (acc++[y]) (upd H5 D (.lst (acc++[y])))
   else H4 D=some (.lst acc)/\∃m',m'<m/\W (i+1) m' σ2 acc H4)
abbrev TM :=St->Hp->(St->Hp->Prop)->Prop
def PM (Y:Cx)(act:Sem Fin->Sem Fin)(t:TM):Prop:=∀(Qz:List (PU×Qi)) (s:PV) (O:St) (H:Hp) (Q:St->Hp->Prop),Inv Y Qz O H s->t O H Q ->
 ∀(k:Sem Fin) (R:Fin->PV->Prop) (E:PR->PV->Prop),(∀s' O' H',Inv Y Qz O' H' s'->Q O' H'->Qm (model Y.prog Y.w) Y.A k R E s')->Qm (model Y.prog Y.w) Y.A (act k) R E s
def lP {X:Cx}{tg:Qd}{rest:List Comprehension}{osc:Qa}{N:List Str}{k:Nat}{cap:List Nat}{g:TG}{tt:TT}{cl:List (Str×PU)}{act:Qj->Sem Fin->Sem Fin}
  {Qz:List (PU×Qi)} {O:St} {H3:Hp} {s3:PV} {D it:PU} {fp:List PU} {tn:Nat->Qe->Prop} {J:It} {Qs:Hp->Prop} {W:Nat->Nat->St->Hp->Prop} {m0:Nat} {P:PU->Result->PV->Prop}
  (hturn:∀env,compTurn (.ListComp elt (⟨tg,iter,ifs,0⟩::rest) scope pos) 0 (.ref it) (.ref D) env=rL tg iter ifs (.ref it) env (act env) (again (.compLoop (.ListComp elt (⟨tg,iter,ifs,0⟩::rest) scope pos) 0 (.ref it) (.ref D) env)))
  (hc:X.calm=true) (hosc:X.env.scope=osc) (hcap:Caps X.N osc N k cap scope)
  (hcl:∀{x:Str} {c:PU},cl.lookup x=some c->X.env.cells.lookup x=some c) (hhas:∀x,(x,Qw.free)∈scope.names->∃c,cl.lookup x=some c)
  (hg:∀cl C ex Qz s H,PG (cxC X N scope cl C ex Qz s H) tg g)
  (ht:∀cl C ex Qz s H,PTs (cxC X N scope cl C ex Qz s H) ifs tt)
  (I3:Inv X Qz O H3 s3) (T:Turn X.prog X.w X.K tg J fp it tn) (st:tn 0 s3.heap) (f3:∀b∈fp,dS X Qz H3 b) (w0:W 0 m0 (dk k cap O) H3)
  (hend:∀s6 σ5 H5,Inv (cxC X N scope cl s3.heap.objs.size fp Qz s3 H3) [] σ5 H5 s6->Inv X Qz O H5 s6->Qs H5->P s3.heap.objs.size (.ok .next) s6)
  (turn:∀i m O' H',W i m O' H'->(J.stop i H'/\Qs H') \/
   (J.go i H'/\∃C:Bool->St->Hp->Prop,(∀x H2,J.yld i H' x H2->g x O' H2 λσ2 H3=>tt σ2 H3 λok H4=>C ok σ2 H4)/\(∀σ2 H4,C false σ2 H4->∃m',m'<m/\W (i+1) m' σ2 H4) /\
    ∀(pins':List (PU×Qi)) (s:PV) (σ2:St) (H4:Hp),Inv (cxC X N scope cl s3.heap.objs.size fp Qz s3 H3) pins' σ2 H4 s->C true σ2 H4->∀(k:Sem Fin) (R:Fin->PV->Prop) (E:PR->PV->Prop),
     (∀s' σ3 H5,Inv (cxC X N scope cl s3.heap.objs.size fp Qz s3 H3) pins' σ3 H5 s'->(∃m',m'<m/\W (i+1) m' σ3 H5)->Qm (model X.prog X.w) X.A k R E s')->Qm (model X.prog X.w) X.A (act (compEnvC scope cl s3.heap.objs.size X.env) k) R E s)) :
  Qm (model X.prog X.w) X.A (newFunctionEnv scope X.env.globals cl [] X.env.qual none .none (some X.env)) (λcenv s₄ =>
   codeAny (model X.prog X.w) X.A (.compStart (.ListComp elt (⟨tg,iter,ifs,0⟩::rest) scope pos) 0 (.ref it) (.ref D) { cenv with scope:=relabel scope X.env }) (P cenv.locals) s₄) X.xe s3:=by
 refine wpAny_newFunctionEnv hcap.nocell (by intro y hy;simp at hy) (λh₁ hns₁ hsb₁=>?_) hcap.kind;have old:∀b o,s3.heap.get? b=some o->h₁.get? b=some o:=λb o e=>hsb₁.extBut b o (LH (Lw e)) (Ll _ e)
 have neC:∀b∈fp,b≠s3.heap.objs.size:=λb hb=>by obtain⟨o,e,_⟩:=T.obj _ _ st b hb;exact LH (Lw e)
 have nofs:∀{b:PU},b≠X.env.locals->b ∉ X.fs->b ∉ frs X.stack:=λ{b} h1 h2 z=>(Lh.1 (I3.stkSub b z)).elim h1 h2
 have IY:Inv (cxC X N scope cl s3.heap.objs.size fp Qz s3 H3) [] (dk k cap O) H3 { s3 with heap:=h₁,toks:=s3.toks+([]:List (Str×PR)).length }:=by
  refine⟨⟨I3.ok.mod,hcap.kind,I3.ok.glob,I3.ok.blt,Ln _,λx y c h1 h2=>I3.ok.inj x y c (hcl h1) (hcl h2),λx hx=>hhas x (mP hcap.nocell hx),λx c h=>absurd (show false=true from h) LF,I3.ok.hd,I3.ok.frames,.inl rfl,
   λb hb=>⟨neC b hb,λx c e=>(f3 b hb).2.2.2.2.1 x c (hcl e)⟩,I3.bs,LS I3.ok.bsz I3.sz,λb o e hb=>?_,λb hb=>nofs (f3 b hb).2.1 (f3 b hb).2.2.1,I3.stack,I3.stkFree⟩,
   rfl,I3.bare,Un.kept old,⟨_,hns₁,λi x v e1 e2 e3=>?_⟩,λx c e=>?_,I3.hok.fresh (Ln _),λx c e=>I3.freeC x c (hcl e),λp hp=>?_,I3.hok.kept old,?_⟩
  .rcases(f3 b hb).2.2.2.1 with z | z
   .exact I3.ok.noex b o e z
   .exact absurd (LJ (Lw e) (LS I3.ok.bsz z)) (MK _)
  .by_cases hi:i<k
   .unfold dk at e2;rw[LU (by simpa using hi),Mg,Lg hi]at e2;cases e2
   .obtain⟨d,rfl⟩:∃d,i=k+d:=⟨i-k,by omega⟩;unfold dk at e2;rw[LL (by simp),Nu,Nat.add_sub_cancel_left,Lv]at e2;obtain⟨j,hj,hv⟩:=LK.1 e2;have hσ:O[j]? = some (some v):=by
     cases q:O[j]? with
     | none=>rw[q]at hv;cases hv
     | some o=>rw[q]at hv;exact MF some hv
    have e1':(N.drop k)[d]? = some x:=by rw[List.getElem?_drop];exact e1
    have hx:X.N[j]? = some x:=by have z:=MF (λl=>l[d]?) hcap.capx;simp only[Lv,hj,e1',PQ]at z;exact Lr z
    have hfr:=hcap.capf x (Md e1');have hfm:=MJ hfr;have hok:=hcap.free _ hfm rfl;rw[<-hosc]at hok;obtain⟨m,hn,hl⟩:=I3.loc;obtain⟨u,r,l⟩:=hl j x v hx hσ (.inr hok);refine⟨u,r,?_⟩;rcases l with ⟨hk,_⟩ | ⟨hk,c,hc1,hc2⟩
    .have hk:X.env.scope.names.lookup x=some .local:=hk;rcases hok with z | z <;> (rw[hk]at z;cases z)
    .obtain⟨c',hc'⟩:=hhas x hfm;have:c'=c:=Lr ((hcl hc').symm.trans hc1);subst this;exact .inr ⟨lS hfr,c',hc',hc2.keeps old⟩
  .obtain⟨v,z⟩:=I3.cell x c (hcl e);exact⟨v,z.keeps old⟩
  .have hp:p∈(X.pn++Qz)++[]:=hp;rw[Mh]at hp;obtain⟨a1,a2,a3,a4,a5⟩:=I3.pin p hp;exact⟨old _ _ a1,a2,LH (Lw a1),nofs a3 a4,a5⟩
  .show(dk k cap O).length=N.length;unfold dk;rw[Mp,Nu,Lf,hcap.len]
 have stat:∀{H':Hp},(∀b∈fp,H' b=none)->∀b∈fp,dS (cxC X N scope cl s3.heap.objs.size fp Qz s3 H3) [] H' b:=λ{H'} hn b hb=>by obtain⟨a0,a1,a2,a3,a4,a5⟩:=f3 b hb;refine⟨hn b hb,neC b hb,nofs a1 a2,.inl hb,λx c e=>a4 x c (hcl e),λp hp=>a5 p ?_⟩;have hp:p∈(X.pn++Qz)++[]:=hp;rwa [Mh]at hp
 have loop:codeAny (model X.prog X.w) X.A (.compLoop (.ListComp elt (⟨tg,iter,ifs,0⟩::rest) scope pos) 0 (.ref it) (.ref D) (compEnvC scope cl s3.heap.objs.size X.env))
   (P s3.heap.objs.size) { s3 with heap:=h₁,toks:=s3.toks+([]:List (Str×PR)).length }:=by
  refine EG (λn s'=>∃i O' H',Inv (cxC X N scope cl s3.heap.objs.size fp Qz s3 H3) [] O' H' s'/\tn i s'.heap/\(∀b∈fp,H' b=none)/\W i n O' H') (hturn _) ?_ m0
   ⟨0,_,H3,IY,T.keep _ _ _ st λb _ o e=>old b o e,λb hb=>(f3 b hb).1,w0⟩
  rintro n s5 ⟨i,σ5,H5,I5,st5,fr5,w5⟩;rcases turn i n σ5 H5 w5 with ⟨stop,q⟩ | ⟨go,C,step,hno,hyes⟩
  .refine thn (T.done (cxC X N scope cl s3.heap.objs.size fp Qz s3 H3) rfl rfl rfl hc i [] s5 σ5 H5 _ I5 (stat fr5) st5 stop) λr s6 ⟨hr,I6⟩=>?_
   subst hr;have I7:Inv X Qz O H5 s6:=I3.call' I6.os I6.base I6.hok I6.bare λb hb=>by obtain⟨a0,a1,a2,a3,a4,a5⟩:=f3 b hb;exact⟨a3,a1,a4,a5⟩
   exact hend s6 σ5 H5 I6 I7 q
  .refine thn (T.item (cxC X N scope cl s3.heap.objs.size fp Qz s3 H3) rfl rfl rfl hc i [] s5 σ5 H5 _ I5 (stat fr5) st5 go) λr s6 ⟨u,hr,h6⟩=>?_
   subst hr;refine thn h6 λ_ s7 ⟨x,H7,I7,r7,y7,st7,fr7⟩=>?_
   have I7':=I7.pinned (stat fr7) (T.obj _ _ st7);have keepI:∀{s':PV} {O':St} {H':Hp},Inv (cxC X N scope cl s3.heap.objs.size fp Qz s3 H3) ([]++ff fp s7.heap) O' H' s'->tn (i+1) s'.heap/\∀b∈fp,H' b=none:=λ{s' O' H'} I'=>by refine⟨T.keep _ _ _ st7 λb hb o e=>(I'.pin (b,o) (LA _ (LA _ (R9 hb e)))).1,λb hb=>?_⟩;obtain⟨o,e,d⟩:=T.obj _ _ st7 b hb;exact(I'.pin (b,o) (LA _ (LA _ (R9 hb e)))).2.1
   refine thn (hg _ _ _ _ _ _ _ s7 σ5 H7 x u _ I7' r7 (step x H7 y7)) λ_ s8 ⟨σ8,H8,I8,q8⟩=>?_
   refine thn (ht _ _ _ _ _ _ _ s8 σ8 H8 _ I8 q8) λok s9 ⟨H9,I9,q9⟩=>?_
   cases ok with
   | false =>obtain⟨m',hm,w9⟩:=hno _ _ q9;obtain⟨k1,k2⟩:=keepI I9;exact⟨m',hm,i+1,σ8,H9,I9.unpinned,k1,k2,w9⟩
   | true =>
    intro kk R E hk;refine hyes _ s9 σ8 H9 I9 q9 kk R E λs10 O10 H10 I10 ⟨m',hm,w10⟩=>hk s10 ?_
    obtain⟨k1,k2⟩:=keepI I10;exact⟨m',hm,i+1,O10,H10,I10.unpinned,k1,k2,w10⟩
 exact codeAny_compStart_list loop (T.self X.A 0 _ _ _ (T.keep _ _ _ st λb _ o e=>old b o e) loop)
def vf {X:Cx}{tg:Qd}{osc:Qa}{N:List Str}{k:Nat}{cap:List Nat}{g:TG}{tt:TT}{te:TE}{cl:List (Str×PU)}
  {Qz:List (PU×Qi)} {O:St} {H3:Hp} {s3:PV} {D it:PU} {fp:List PU} {tn:Nat->Qe->Prop} {J:It} {Q:VK} {W:Nat->Nat->St->List V->Hp->Prop} {m0:Nat}
  (hc:X.calm=true) (hosc:X.env.scope=osc) (hcap:Caps X.N osc N k cap scope)
  (hcl:∀{x:Str} {c:PU},cl.lookup x=some c->X.env.cells.lookup x=some c) (hhas:∀x,(x,Qw.free)∈scope.names->∃c,cl.lookup x=some c)
  (hg:∀cl C ex Qz s H,PG (cxC X N scope cl C ex Qz s H) tg g)
  (ht:∀cl C ex Qz s H,PTs (cxC X N scope cl C ex Qz s H) ifs tt)
  (he:∀cl C ex Qz s H,PE (cxC X N scope cl C ex Qz s H) elt te)
  (I3:Inv X Qz O H3 s3) (hD:H3 D=some (.lst [])) (T:Turn X.prog X.w X.K tg J fp it tn) (st:tn 0 s3.heap) (f3:∀b∈fp,dS X Qz H3 b) (w0:W 0 m0 (dk k cap O) [] H3)
  (turn:∀i m O' acc H',W i m O' acc H'->(J.stop i H'/\Q (.ref D) H') \/
   (J.go i H'/\∀x H2,J.yld i H' x H2->g x O' H2 λσ2 H3=>tt σ2 H3 λok H4=>if ok=true then te σ2 H4 λy H5=>H5 D=some (.lst acc)/\acc.length<Qg/\∃m',m'<m/\W (i+1) m' σ2 (acc++[y]) (upd H5 D (.lst (acc++[y])))
    else H4 D=some (.lst acc)/\∃m',m'<m/\W (i+1) m' σ2 acc H4)) :
  Qm (model X.prog X.w) X.A (newFunctionEnv scope X.env.globals cl [] X.env.qual none .none (some X.env)) (λcenv s₄ =>
   codeAny (model X.prog X.w) X.A (.compStart (.ListComp elt [⟨tg,iter,ifs,0⟩] scope pos) 0 (.ref it) (.ref D) { cenv with scope:=relabel scope X.env }) (compPost (model X.prog X.w) X.A X.xe none (EP X Qz O Q) (.ref D) cenv.locals) s₄) X.xe s3:=by
 refine lP (act:=λenv k=>do nq elt (.ref D) env;k) (P:=λC=>compPost (model X.prog X.w) X.A X.xe none (EP X Qz O Q) (.ref D) C) (Qs:=Q (.ref D)) (W:=λi m O' H'=>∃acc,H' D=some (.lst acc)/\W i m O' acc H') (λenv=>by rfl) hc hosc hcap hcl hhas hg ht I3 T st f3 ⟨[],hD,w0⟩ (λs6 σ5 H5 I6 I7 q=>?_) λi m O' H' ⟨acc,hD',w⟩=>?_
 .obtain⟨m,hn,_⟩:=id I6.loc;refine⟨m,hn,λh' hsb=>?_⟩;obtain⟨g0,g1,g2,g3,g4,g5⟩:=I3.fpOk (H':=H5) (b:=s3.heap.objs.size) (Ln _) I6.free;exact⟨.ref D,H5,I7.turned (t':=s6.toks) (λb o hb e=>(hsb.2 b hb).trans e) g0 g1 g3 g4 g5,rfl,q⟩
 .rcases turn i m O' acc H' w with h | ⟨go,step⟩
  .exact .inl h
  .refine .inr ⟨go,_,step,λσ2 H4 h=>?_,λpins' s σ2 H4 I h k R E hk=>?_⟩
   .obtain⟨hD9,m',hm,w9⟩:=(show H4 D=some (.lst acc)/\∃m',m'<m/\W (i+1) m' σ2 acc H4 from h);exact⟨m',hm,acc,hD9,w9⟩
   .refine Ld (Ld (LX (he _ _ _ _ _ _ _ s σ2 H4 _ I h) (λyv s10 ⟨y,H10,I10,r10,hD10,hz,m',hm,w10⟩=>?_) λ_ _ h'=>h'.elim));refine Ld (LX (M9 (X:=cxC X N scope cl s3.heap.objs.size fp Qz s3 H3) _ s10 σ2 H10 (.ref D) [y] (.ref D) [yv] (λ_ H'=>H'=upd H10 D (.lst (acc++[y]))) I10 rfl (.cons r10 .nil) ⟨D,acc,y,rfl,rfl,hD10,hz,rfl⟩)
     (λ_ s11 ⟨_,H11,I11,_,e11⟩=>Lo ?_) λ_ _ h'=>h'.elim)
    subst e11;exact hk s11 σ2 _ I11 ⟨m',hm,_,d7,w10⟩
def Bk {X:Cx}{tg:Qd}{osc:Qa}{N:List Str}{k:Nat}{cap:List Nat}{wi:TI}{g:TG}{tt:TT}{te:TE}
  (hc:X.calm=true) (hosc:X.env.scope=osc) (hcap:Caps X.N osc N k cap scope) (hi:PI X tg iter wi)
  (hg:∀cl C ex Qz s H,PG (cxC X N scope cl C ex Qz s H) tg g)
  (ht:∀cl C ex Qz s H,PTs (cxC X N scope cl C ex Qz s H) ifs tt)
  (he:∀cl C ex Qz s H,PE (cxC X N scope cl C ex Qz s H) elt te)
  (hs:∀x,Qr iter X.env x=pure x:=by intro _;rfl) :
  PE X (.ListComp elt [⟨tg,iter,ifs,0⟩] scope pos) (tLC wi k cap g tt te):=by
 walk_at "kb"
 exact vf hc hosc hcap hcl hhas hg ht he I3 d7 T (T.keep _ _ (s2.heap.push { cls:=.type "list",data:=.seq ([]:List PR).toArray }) st2 λb _ o e=>Ll _ e) (λb hb=>⟨by rw[b9 (lt2 b hb)];exact(f2 b hb).1,(f2 b hb).2⟩) w0 turn
end
section
mutual
def b8 (K:Qf)(H:Hp):My->V->Prop
 | .none,v=>v = .non
 | .bool b,v=>v = .bl b
 | .int i,v=>v = .int i
 | .str x,v=>v = .str x
 | .tuple ds,v=>∃a xs,v = .ref a/\SqT K H a xs/\b7 K H ds xs
 | .list ds,v=>∃a xs,v = .ref a/\H a=some (.lst xs)/\b7 K H ds xs
 | .dict _,_=>False
def b7 (K:Qf)(H:Hp):List My->List V->Prop
 | [],xs=>xs=[]
 | d::ds,xs=>∃x r,xs=x::r/\b8 K H d x/\b7 K H ds r
end
section
variable {X:Cx}{Qz:List (PU×Qi)}{O:St}{H:Hp}{s:PV}
mutual
theorem N7 (I:Inv X Qz O H s):∀(d:My) (v:V) (u:PR),b8 X.K H d v->x3 v u->∃as,Reads s.heap u d as
 | .none,v,u,h,r=>by
  simp only[b8]at h;subst h;cases(show u=PR.none from r);exact⟨_,.none⟩
 | .bool b,v,u,h,r=>by
  simp only[b8]at h;subst h;cases(show u=PR.bool b from r);exact⟨_,.bool b⟩
 | .int i,v,u,h,r=>by
  simp only[b8]at h;subst h;obtain⟨t,rfl⟩:=(show ∃t,u=PR.int i t from r);exact⟨_,.int i t⟩
 | .str x,v,u,h,r=>by
  simp only[b8]at h;subst h;obtain⟨t,rfl⟩:=(show ∃t,u=PR.str x t from r);exact⟨_,.str x t⟩
 | .tuple ds,v,u,h,r=>by
  simp only[b8]at h;obtain⟨a,xs,rfl,hq,hd⟩:=h;cases(show u=PR.ref a from r);obtain⟨its,rv,ht,_⟩:=I.tuple hq;obtain⟨o,h1,h2,n,h3⟩:=ht;obtain⟨as,ra⟩:=bC I ds xs its hd rv;exact⟨_,.tuple h1 h2 h3 ra⟩
 | .list ds,v,u,h,r=>by
  simp only[b8]at h;obtain⟨a,xs,rfl,hq,hd⟩:=h;cases(show u=PR.ref a from r);obtain⟨its,rv,ht,_⟩:=I.list (SqL.of hq);obtain⟨o,h1,h2,n,h3⟩:=ht.isList;obtain⟨as,ra⟩:=bC I ds xs its hd rv;exact⟨_,.list h1 h2 h3 ra⟩
 | .dict QC,v,u,h,r=>by simp only[b8]at h
theorem bC (I:Inv X Qz O H s):∀(ds:List My) (xs:List V) (us:List PR),b7 X.K H ds xs->r6 xs us->∃as,ReadsAll s.heap us ds as
 | [],xs,us,h,r=>by
  simp only[b7]at h;subst h;cases r;exact⟨_,.nil⟩
 | d::ds,xs,us,h,r=>by
  simp only[b7]at h;obtain⟨x,rr,rfl,h1,h2⟩:=h;cases r with
  | cons r1 r2 =>obtain⟨as,ra⟩:=N7 I d x _ h1 r1;obtain⟨bs,rb⟩:=bC I ds rr _ h2 r2;exact⟨_,.cons ra rb⟩
end
end
structure Shw (d:My) (dp n:Nat):Prop where
 sh:d.showable=true
 nd:d.hasDict=false
 de:d.depth<=dp
 ln:d.shown.length<=n
def Shw.int {i:Int}{k:Nat}(h:i.natAbs<2 ^ k)(hk:0<k)(hk2:k<=1900):Shw (.int i) 0 (k+20):=by
 have hlog:i.natAbs.log2<1920:=by
  by_cases h0:i.natAbs=0
  .rw[h0];decide
  .have:=(Nat.log2_lt h0).2 h;omega
 refine⟨by simp only[My.showable,hlog,Oa],by simp only[My.hasDict],by simp only[My.depth];omega,?_⟩;have hl2:i.natAbs.log2<k:=by
  by_cases h0:i.natAbs=0
  .rw[h0];exact hk
  .exact(Nat.log2_lt h0).2 h
 have e:=int_text_length_le hk hl2;simp only[My.shown];rw[PySem.ofString_length];omega
section
variable {X:Cx}
def AX (K:Qf):List V->Hp->VK->Prop:=λxs H Q=>∃a d,xs=[.ref a]/\b8 K H d (.ref a)/\Shw d 50 16000000/\Q (.str d.shown) H
def uw (hg:X.A.guards=some [])(hu:X.A.units+64<Qu):J3 X (.builtin "repr") (AX X.K):=by intro Qz s O H xs us Q I r h;obtain⟨a,d,rfl,hd,hs,q⟩:=h;obtain⟨u,rfl,ru⟩:=Q9 r;cases ru;obtain⟨as,rd⟩:=N7 I d (.ref a) (.ref a) hd rfl;refine repr_of_reads' rd hs.sh (My.noDict_hsm hs.nd) hg (by have:=hs.de;omega) (λ_ _ e=>e) (λh' u tk hk=>⟨.str d.shown,H,I.kept hk,⟨u,rfl⟩,q⟩) (LS hs.ln (by rw[LV];decide))
end
end
end L2
namespace HT
open PySem PyProof.Rows
section
variable {prog:PX}{w:PY}{A:PZ}{E:PR->PV->Prop}{s:PV}
def getItem_tuple_whole {t sl:PU}{items:Array PR}{vl vu:PR}{lo hi:Option Int}{Q:PR->PV->Prop}(ht:IsTup s.heap t items)(hs:s.heap.IsSliceOf sl vl vu .none)(pl:IsPart vl lo)(pu:IsPart vu hi)
  (h0:sIx items.size 0 lo=0) (h1:sIx items.size items.size hi=items.size) (h:Q (.ref t) s):Qm (model prog w) A (getItem (.ref t) (.ref sl)) Q E s:=by
 walk_at "kq";try with_reducible refine MW ?_
 walk_at "kf"
 walk_at "kn";refine Ld (au hs pl pu ?_);have hyes:(((sIx items.size 0 lo:Nat):Int) == 0&&(1:Int) == 1&&(sIx items.size items.size hi-sIx items.size 0 lo) == items.size)=true:=by rw[h0,h1];simp
 show Qm _ _ (if (((sIx items.size 0 lo:Nat):Int) == 0&&(1:Int) == 1&&(sIx items.size items.size hi-sIx items.size 0 lo) == items.size)=true then _ else _) _ _ s;rw[Lg hyes];unfold Builtin.Tuple.tupleIsExact;refine Ld ?_;refine Ld (OZ ht.typeIs (Lo ?_));rw[Lg (by decide)];exact Ld (NR (Lo ⟨_,rfl,Lo h⟩))
def qW (n:Nat):Builtin.Slice.sliceAdjust none none (-1) (n:Int)=((n:Int)-1,-1):=by unfold Builtin.Slice.sliceAdjust;simp
def pB (n:Nat):Builtin.Slice.slicePlaces ((n:Int)-1) (-1) (-1)=n:=by
 unfold Builtin.Slice.slicePlaces;rw[Lk (by decide)];split
 .rw[show(-(-1):Int)=1 by decide,Int.ediv_one];omega
 .omega
def fE {sl:PU}{vst:PR}{n:Nat}{Q:Int×Int×Nat->PV->Prop}(hs:s.heap.IsSliceOf sl .none .none vst)(pst:IsPart vst (some (-1)))
  (h:Q ((n:Int)-1,-1,n) s):Qm (model prog w) A (Builtin.Slice.sliceApplied (.ref sl) (pure (n:Int))) Q E s:=by obtain⟨os,hos,hcs,hds⟩:=id hs;unfold Builtin.Slice.sliceApplied Builtin.Slice.sliceFields;refine Ld (Ld (NH hos hds (x:=.none) rfl (Ld (NH hos hds (x:=.none) rfl (Ld (NH hos hds (x:=vst) rfl (Lo ?_)))))));refine Ld (dH pst ?_);show Qm _ _ (if ((-1:Int) == 0)=true then _ else _) _ _ s;rw[Lk (by decide)];refine Ld (slicePart_none (Ld (slicePart_none (Ld (Lo ?_)))));show Qm _ _ (match Builtin.Slice.sliceAdjust none none (-1) (n:Int) with | (lo,hi)=>pure (lo,(-1:Int),Builtin.Slice.slicePlaces lo hi (-1))) _ _ s;rw[qW n];show Qm _ _ (pure ((n:Int)-1,(-1:Int),Builtin.Slice.slicePlaces ((n:Int)-1) (-1) (-1))) _ _ s;rw[pB];exact Lo h
theorem ai {α β:Type}{f g:α->Option β}:∀{l:List α},(∀x∈l,f x=g x)->l.filterMap f=l.filterMap g
 | [],_=>rfl
 | x::r,h=>by rw[NU,NU,h x Lq,ai λy hy=>h y (Le _ hy)]
def xP (xs:Array PR):((List.range xs.size).filterMap λ(m:Nat)=>xs[(((xs.size:Int)-1)+(m:Int)*(-1)).toNat]?).toArray=xs.toList.reverse.toArray:=by
 congr 1;have e:((List.range xs.size).filterMap λ(m:Nat)=>xs[(((xs.size:Int)-1)+(m:Int)*(-1)).toNat]?)=(List.range xs.size).filterMap λm=>xs.toList.reverse[m]?:=by
  refine ai λm hm=>?_
  have hm:=LR.1 hm;rw[List.getElem?_reverse (by simpa using hm)];have:(((xs.size:Int)-1)+(m:Int)*(-1)).toNat=xs.toList.length-1-m:=by rw[Na];omega
  rw[this];simp
 rw[e];have:=PySem.W.krv_all xs.toList.reverse.toArray;simpa using this
def getItem_tuple_rev {t sl:PU}{items:Array PR}{vst:PR}{Q:PR->PV->Prop}(ht:IsTup s.heap t items)(hs:s.heap.IsSliceOf sl .none .none vst)(pst:IsPart vst (some (-1)))
  (h:Q (.ref s.heap.objs.size) { s with heap:=s.heap.push { cls:=.type "tuple",data:=.seq items.toList.reverse.toArray } })
  (hsz:items.size<=Qg):Qm (model prog w) A (getItem (.ref t) (.ref sl)) Q E s:=by
 have htake:sizeOk (.seq items.toList.reverse.toArray):=by show items.toList.reverse.toArray.size<=Qg;rw[Ls,Pg,Na];exact hsz
 walk_at "kq";try with_reducible refine MW ?_
 walk_at "kf"
 walk_at "kn";refine Ld (fE hs pst ?_);have hno:¬(((items.size:Int)-1 == 0&&(-1:Int) == 1&&items.size == items.size)=true):=by simp
 show Qm _ _ (if ((items.size:Int)-1 == 0&&(-1:Int) == 1&&items.size == items.size)=true then _ else _) _ _ s;rw[Lk hno,xP];first
  | exact Ld (m:=Builtin.Tuple.tupleExact _) (Mo (Lo ⟨_,rfl,Lo h⟩) htake)
  | exact Ld (m:=Builtin.Tuple.tupleExact _) (Mo (Ld (Lo (Lo ⟨_,rfl,Lo h⟩))) htake)
  | exact Ld (Ld (m:=Builtin.Tuple.tupleExact _) (Mo (Lo (Lo ⟨_,rfl,Lo h⟩)) htake))
  | exact Ld (Ld (m:=Builtin.Tuple.tupleExact _) (Mo (Lo ⟨_,rfl,Lo h⟩) htake))
end
end HT
namespace L2
open PySem PySem.Spec PyProof.Rows
variable {pos:Pos}
section
section
variable {X:Cx}
def AS (K:Qf):V->Option Int->Option Int->Hp->VK->Prop:=λx lo hi H Q=>∃a xs,x = .ref a/\SqT K H a xs/\((fS xs lo hi=xs/\HT.sIx xs.length 0 lo=0/\HT.sIx xs.length xs.length hi=xs.length->Q (.ref a) H) /\
 (¬(HT.sIx xs.length 0 lo=0/\HT.sIx xs.length xs.length hi=xs.length)->∀p,H p=none->Q (.ref p) (upd H p (.tup (fS xs lo hi)))))
def zB :SlR X (AS X.K):=by
 intro Qz s O H x v vl vu lo hi sl Q I rx hs pl pu h;obtain⟨a,xs,rfl,hx,hw,hn⟩:=h;by_cases hc:HT.sIx xs.length 0 lo=0/\HT.sIx xs.length xs.length hi=xs.length
 .cases rx;obtain⟨its,r,ht,hz⟩:=I.tuple hx;have hlen:its.toArray.size=xs.length:=by rw[Ls];exact r.length.symm
  have hq:=hw ⟨by unfold fS;rw[hc.1,hc.2];simp,hc.1,hc.2⟩;exact⟨"tuple",_,Mf.lookup,ht.typeIs,HT.getItem_tuple_whole ht hs pl pu (by rw[hlen];exact hc.1) (by rw[hlen];exact hc.2) ⟨.ref a,H,I,rfl,hq⟩⟩
 .exact CI Qz s O H (.ref a) v vl vu lo hi sl Q I rx hs pl pu ⟨a,xs,rfl,hx,hc,hn hc⟩
def xv (hc:X.calm=true):J3 X (.builtin "sum") (λxs H Q=>∃(a:PU) (ns:List Int),xs=[.ref a]/\SqL X.K H a (ns.map V.int)/\Q (.int ns.sum) H):=by
 walk_at "ks";obtain⟨a,ns,rfl,hq,q⟩:=h;walk_at "kv";obtain⟨its,rv,p,hz⟩:=I.list hq;have hi:=cS rv;obtain⟨zs,hzs⟩:=hi.allInts.items;have hl:s.heap.IsList a (intItems zs):=hzs▸p.isList;refine sum_intListG (I.ok.hd hc) hl λh' tk t' hk=>⟨.int ns.sum,H,I.kept hk,⟨t',?_⟩,q⟩
 have hn:=hi.numsOf;have e:numsOf (intItems zs).toList=ns:=by rw[<-hzs];exact hn
 rw[nums_intItems]at e;rw[preSum_eq,Mj (by simp),e]
def lR (K:Qf):R2:=λx y H Q=>∃a b xs,x = .ref a/\y = .ref b/\SqL K H a xs/\SqL K H b []/\Q (.bl (!xs.isEmpty)) H
def iz (hu:X.A.units<Qu):OpR X (compareOp .NotEq) (lR X.K):=by
 intro Qz s O H x y v u Q I rx ry h;obtain⟨a,b,xs,rfl,rfl,ha,hb,q⟩:=h;cases rx;cases ry;obtain⟨its,rv,p,hz⟩:=I.list ha;obtain⟨its2,rv2,p2,hz2⟩:=I.list hb;cases rv2;cases rv with
 | nil=>exact(SeqAt.RcNeAt.lists (e:=λ_=>true) p.isList p2.isList rfl hu λj h1 _=>absurd h1 (by simp)) _ _ _ _ ⟨.bl false,H,I,rfl,q⟩
 | cons r1 r2=>exact(SeqAt.RcNeAt.lists_lengths p.isList p2.isList (by simp) hu) _ _ _ _ ⟨.bl true,H,I,rfl,q⟩
def AY (i j k:Nat)(ta:TA):TS:=λD O H=>ta O H λvs H1=>∃u v w,vs=[u,v,w]/\D.nx (((O.set i (some u)).set j (some v)).set k (some w)) H1
def zj {i j k:Nat}{x y z:Str}{a b c:Qd}{ta:TA}{px py pz pt:Pos}{kt k2 pt2}(hc:X.calm=true)(hN:X.N.Nodup)(hi:X.N[i]? = some x)(hj:X.N[j]? = some y)(hk:X.N[k]? = some z)(hij:i≠j)(hik:i≠k)(hjk:j≠k)
  (hx:X.env.scope.names.lookup x=some .local) (hy:X.env.scope.names.lookup y=some .local) (hz:X.env.scope.names.lookup z=some .local) (ha:PA X [a,b,c] ta)
  (hw:swappedStores [.Tuple [.Name x px,.Name y py,.Name z pz] kt pt] (.Tuple [a,b,c] k2 pt2) X.env=pure (some [x,y,z]))
  (hs:swapsWithSole [.Tuple [.Name x px,.Name y py,.Name z pz] kt pt] (.Tuple [a,b,c] k2 pt2) pos.line X.env=pure false:=by rfl) :
  PS X (.Assign [.Tuple [.Name x px,.Name y py,.Name z pz] kt pt] (.Tuple [a,b,c] k2 pt2) pos) (AY i j k ta):=by
 intro Qz s O H D I h;rw[exec_Assign_arm];refine Ld (NA ?_);rw[hs];refine Ld (Lo ?_);rw[Lk (by decide)];refine Ld (Tuple_ (thn (ha _ Qz s O H _ I h) λus s1 ⟨vs,H1,I1,r1,q1⟩=>?_));obtain⟨v,w,t,e1,q1⟩:=q1;subst e1;obtain⟨u1,u2,u3,rfl,rv,rw',rt⟩:∃u1 u2 u3,us=[u1,u2,u3]/\x3 v u1/\x3 w u2/\x3 t u3:=by
  cases r1 with
  | cons p q =>
   cases q with
   | cons p' q' =>
    cases q' with
    | cons p'' q'' =>cases q'';exact⟨_,_,_,rfl,p,p',p''⟩
 refine Mo ?_ (by show 3<=Qg;decide);have I2:Inv X Qz O H1 { s1 with heap:=s1.heap.push { cls:=.type "tuple",data:=.seq [u1,u2,u3].toArray } }:=I1.kept (t':=s1.toks) λb o e=>Ll _ e
 rw[hw];refine Ld (Lo ?_);show Qm (model X.prog X.w) X.A (do rule "assign.swapped-stores";let items <-unpackItems (.ref s1.heap.objs.size) 3 none;assignInOrder [λv=>bindName X.env z v,λv=>bindName X.env y v,λv=>bindName X.env x v] items.reverse;pure Flow.next) _ _ _;refine Ld (NR (Ld (unpackItems_tuple (items:=#[u1,u2,u3]) (I.ok.hd hc) (Os s1.heap _) λh' hx'=>?_)));have I3:=I2.kept (h':=h') (t':=s1.toks) λb o e=>hx' b o (LH (Lw e)) e
 show Qm _ _ (assignInOrder [λv=>bindName X.env z v,λv=>bindName X.env y v,λv=>bindName X.env x v] [u3,u2,u1] >>= λ_=>pure Flow.next) _ _ _;refine Ld (NI (OE (P9 I3 hN hk (.inl hz) rt (λs2 I4=>?_) (.inr hz))));refine NI (OE (P9 I4 hN hj (.inl hy) rw' (λs3 I5=>?_) (.inr hy)));refine NI (OE (P9 I5 hN hi (.inl hx) rv (λs4 I6=>assignInOrder_nil (Lo ?_)) (.inr hx)));rw[Pt _ _ (LZ hjk),Pt _ _ (LZ hik),Pt _ _ (LZ hij)]at I6;exact⟨_,H1,I6,q1⟩
end
end
variable {H':Hp}
section
def d0 (P:PX)(w:PY)(K:Qf)(mg:Str->Option PR)(base:Qe)(x:Str)(k:Nat)(ps:List Str)(sp:Sp):Prop :=
 ∃f fd,FnOk P w K mg base CX0 k f fd ps sp/\mg x=some (.ref f)/\PySem.W.keepIn K (.ref f)=true/\gc K fd ps []
def bU {X:Cx}{x:Str}{k:Nat}{ps:List Str}{sp:Sp}{p:Pos}{e:Qd}{es:List Qd}{t:TA}(C:d0 X.prog X.w X.K X.mg X.base x k ps sp)(hr:Room k X.A)(hg:Gl X x)(ha:PA X (e::es) t)
  (hdb:(x == ("__debug__":Str))=false:=by decide) (he:Qh (e::es) X.env=(false,eval e X.env)::Qh es X.env:=by rfl) (hpl:(Qk pos (Qh es X.env)).any (·.1)=false:=by rfl) :
  PE X (.Call (.Name x p) (e::es) [] pos) (eY sp [] E0 t):=by obtain⟨f,fd,G,m,kp,b⟩:=C;exact Ai G hr hg m kp b .nil DQ ha hdb he hpl
def KpE (D:PU->Prop)(H H':Hp):Prop:=∀b o,H b=some o->¬D b->H' b=some o
def SqT.kp {K:Qf}{H:Hp}{a:PU}{xs:List V}{D:PU->Prop}(h:SqT K H a xs)(k:KpE D H H')(hD:∀b,D b->∃QC,H b=some (.dK QC)):SqT K H' a xs:=by
 rcases h with (h | ⟨o,h⟩) | h
 .refine .inl (.inl (k _ _ h λz=>?_));obtain⟨QC,e⟩:=hD _ z;rw[h]at e;cases e
 .refine .inl (.inr ⟨o,k _ _ h λz=>?_⟩);obtain⟨QC,e⟩:=hD _ z;rw[h]at e;cases e
 .exact .inr h
section
variable {K:Qf}{H:Hp}{D:PU->Prop}
mutual
theorem b8.kp (k:KpE D H H')(hD:∀b,D b->∃QC,H b=some (.dK QC)):∀(d:My) (v:V),b8 K H d v->b8 K H' d v
 | .none,v,h=>by simpa only[b8] using h
 | .bool b,v,h=>by simpa only[b8] using h
 | .int i,v,h=>by simpa only[b8] using h
 | .str x,v,h=>by simpa only[b8] using h
 | .tuple ds,v,h=>by
  simp only[b8]at h ⊢;obtain⟨a,xs,e,hq,hd⟩:=h;exact⟨a,xs,e,hq.kp k hD,b7.kp k hD ds xs hd⟩
 | .list ds,v,h=>by
  simp only[b8]at h ⊢;obtain⟨a,xs,e,hq,hd⟩:=h;refine⟨a,xs,e,k _ _ hq λz=>?_,b7.kp k hD ds xs hd⟩;obtain⟨QC,e⟩:=hD _ z;rw[hq]at e;cases e
 | .dict QC,v,h=>by simp only[b8]at h
theorem b7.kp (k:KpE D H H')(hD:∀b,D b->∃QC,H b=some (.dK QC)):∀(ds:List My) (xs:List V),b7 K H ds xs->b7 K H' ds xs
 | [],xs,h=>by simpa only[b7] using h
 | d::ds,xs,h=>by simp only[b7]at h ⊢;obtain⟨x,r,e,h1,h2⟩:=h;exact⟨x,r,e,b8.kp k hD d x h1,b7.kp k hD ds r h2⟩
end
end
def h8.kpE {H:Hp}(s:h8 H H'):KpE (λ_=>False) H H':=λb o h _=>s b o h
def b8.same {K:Qf}{H:Hp}{d:My}{v:V}(h:b8 K H d v)(s:h8 H H'):b8 K H' d v:=b8.kp s.kpE (λ_ z=>z.elim) d v h
def b7.same {K:Qf}{H:Hp}{ds:List My}{xs:List V}(h:b7 K H ds xs)(s:h8 H H'):b7 K H' ds xs:=b7.kp s.kpE (λ_ z=>z.elim) ds xs h
def SqT.same {K:Qf}{H:Hp}{a:PU}{xs:List V}(h:SqT K H a xs)(s:h8 H H'):SqT K H' a xs:=h.kp s.kpE (λ_ z=>z.elim)
def h8.upd {H:Hp}{p:PU}{o:HO}(hp:H p=none):h8 H (upd H p o):=λb u e=>by rw[b9 (i3 e hp)];exact e
section
variable {K:Qf}{H:Hp}
theorem b7.length:∀{ds:List My} {xs:List V},b7 K H ds xs->xs.length=ds.length
 | [],xs,h=>by simp only[b7]at h;subst h;rfl
 | d::ds,xs,h=>by simp only[b7]at h;obtain⟨x,r,rfl,h1,h2⟩:=h;rw[Ly,Ly,h2.length]
theorem b7.get:∀{ds:List My} {xs:List V} {i:Nat} {x:V},b7 K H ds xs->xs[i]? = some x->∃d,ds[i]? = some d/\b8 K H d x
 | [],xs,i,x,h,e=>by simp only[b7]at h;subst h;simp at e
 | d::ds,xs,i,x,h,e=>by
  simp only[b7]at h;obtain⟨y,r,rfl,h1,h2⟩:=h;cases i with
  | zero=>simp at e;subst e;exact⟨d,rfl,h1⟩
  | succ i=>simpa using h2.get (i:=i) (by simpa using e)
theorem b7.snoc:∀{ds:List My} {xs:List V} {d:My} {x:V},b7 K H ds xs->b8 K H d x->b7 K H (ds++[d]) (xs++[x])
 | [],xs,d,x,h,h'=>by simp only[b7]at h;subst h;simp only[Mu,b7];exact⟨x,[],rfl,h',rfl⟩
 | e::ds,xs,d,x,h,h'=>by simp only[b7]at h;obtain⟨y,r,rfl,h1,h2⟩:=h;simp only[MD,b7];exact⟨y,r++[x],rfl,h1,h2.snoc h'⟩
theorem b7.append {ds':List My}{xs':List V}(h':b7 K H ds' xs'):∀{ds:List My} {xs:List V},b7 K H ds xs->b7 K H (ds++ds') (xs++xs')
 | [],xs,h=>by simp only[b7]at h;subst h;simpa using h'
 | e::ds,xs,h=>by simp only[b7]at h;obtain⟨y,r,rfl,h1,h2⟩:=h;simp only[MD,b7];exact⟨y,r++xs',rfl,h1,b7.append h' h2⟩
theorem b7.reverse:∀{ds:List My} {xs:List V},b7 K H ds xs->b7 K H ds.reverse xs.reverse
 | [],xs,h=>by simp only[b7]at h;subst h;simp[b7]
 | d::ds,xs,h=>by simp only[b7]at h;obtain⟨y,r,rfl,h1,h2⟩:=h;rw[OL,OL];exact(b7.reverse h2).snoc h1
theorem b7.take:∀{ds:List My} {xs:List V} (n:Nat),b7 K H ds xs->b7 K H (ds.take n) (xs.take n)
 | [],xs,n,h=>by simp only[b7]at h;subst h;simp[b7]
 | d::ds,xs,0,h=>by simp[b7]
 | d::ds,xs,n+1,h=>by simp only[b7]at h;obtain⟨y,r,rfl,h1,h2⟩:=h;simp only[Ol,b7];exact⟨y,r.take n,rfl,h1,b7.take n h2⟩
def b8.tup {ds:List My}{xs:List V}{a:PU}(h:H a=some (.tup xs))(h2:b7 K H ds xs):b8 K H (.tuple ds) (.ref a):=by simp only[b8];exact⟨a,xs,rfl,SqT.of h,h2⟩
def b8.lst {ds:List My}{xs:List V}{a:PU}(h:H a=some (.lst xs))(h2:b7 K H ds xs):b8 K H (.list ds) (.ref a):=by simp only[b8];exact⟨a,xs,rfl,h,h2⟩
def b7.nil :b7 K H [] []:=by simp only[b7]
def b7.cons {d:My}{x:V}{ds:List My}{xs:List V}(h:b8 K H d x)(h2:b7 K H ds xs):b7 K H (d::ds) (x::xs):=by simp only[b7];exact⟨x,xs,rfl,h,h2⟩
def b8.int {i:Int}:b8 K H (.int i) (.int i):=by simp only[b8]
def b8.bl {b:Bool}:b8 K H (.bool b) (.bl b):=by simp only[b8]
def b8.st {x:Str}:b8 K H (.str x) (.str x):=by simp only[b8]
def b8.non :b8 K H .none .non:=by simp only[b8]
def b8.ofTup {ds:List My}{v:V}(h:b8 K H (.tuple ds) v):∃a xs,v = .ref a/\SqT K H a xs/\b7 K H ds xs:=by simpa only[b8] using h
end
def Da {J:It}{D:PU}(n:Nat){g:TG}{tt:TT}{te:TE}{Q:Hp->Prop}{σ0:St}{H0:Hp}(Pv:Nat->St->List V->Hp->Prop)(h0:Pv 0 σ0 [] H0)
  (hgo:∀i O acc H,i<n->Pv i O acc H->J.go i H) (hstop:∀O acc H,Pv n O acc H->J.stop n H)
  (hs:∀i O acc H,i<n->Pv i O acc H->∀x H2,J.yld i H x H2->∀R:St->List V->Hp->Prop,(∀O acc H,Pv (i+1) O acc H->R O acc H) ->
   g x O H2 λσ2 H3=>tt σ2 H3 λok H4=>if ok=true then te σ2 H4 λy H5=>H5 D=some (.lst acc)/\acc.length<Qg/\R σ2 (acc++[y]) (upd H5 D (.lst (acc++[y]))) else H4 D=some (.lst acc)/\R σ2 acc H4)
  (hd:∀O acc H,Pv n O acc H->Q H) :
  ∃W:Nat->Nat->St->List V->Hp->Prop,(∃m,W 0 m σ0 [] H0)/\∀i m O' acc H',W i m O' acc H' ->
  (J.stop i H'/\Q H') \/
  (J.go i H'/\∀x H2,J.yld i H' x H2->g x O' H2 λσ2 H3=>tt σ2 H3 λok H4=>if ok=true then te σ2 H4 λy H5=>H5 D=some (.lst acc)/\acc.length<Qg/\∃m',m'<m/\W (i+1) m' σ2 (acc++[y]) (upd H5 D (.lst (acc++[y])))
   else H4 D=some (.lst acc)/\∃m',m'<m/\W (i+1) m' σ2 acc H4):=by
 refine⟨λi m O acc H=>m=n-i/\i<=n/\Pv i O acc H,⟨n,by simp,Mb _,h0⟩,?_⟩;rintro i m O acc H ⟨rfl,hi,p⟩;by_cases hlt:i<n
 .exact .inr ⟨hgo i O acc H hlt p,λx H2 y=>hs i O acc H hlt p x H2 y (λO acc H=>∃m',m'<n-i/\m'=n-(i+1)/\i+1<=n/\Pv (i+1) O acc H) λO acc H q=>⟨n-(i+1),by omega,rfl,hlt,q⟩⟩
 .have e:i=n:=by omega
  subst e;exact .inl ⟨hstop O acc H p,hd O acc H p⟩
end
section
section
variable {X:Cx}{K:Qf}
def rT {es:List Qd}{k:Nat}{t:TGs}{n:Nat}(hK:X.K=K)(hc:X.calm=true)(h:PGs X es t)
  (hn:(Qt es X.env).length=n:=by rfl) (hst:(Qt es X.env).findIdx? (·.1)=none:=by rfl):PG X (.Tuple es k pos) (zK K n t):=by subst hK;exact BQ hc h hn hst
def zH (hK:X.K=K):IxR X (Cp K):=by subst hK;exact pW
def vk (hK:X.K=K):IxR X (uI K):=by subst hK;exact F0
def cJ (hK:X.K=K):J3 X (.builtin "len") (λxs H Q=>∃p ys,xs=[.ref p]/\(SqL K H p ys\/SqT K H p ys)/\Q (.int ys.length) H):=by subst hK;exact N2
def aZ (hK:X.K=K):J3 X (.type "tuple") (λxs H Q=>∃p ys,xs=[.ref p]/\((SqL K H p ys/\∀l,H l=none->Q (.ref l) (upd H l (.tup ys)))\/(SqT K H p ys/\Q (.ref p) H))):=by subst hK;exact jS
def jk (hK:X.K=K)(hg:X.A.guards=some [])(hu:X.A.units+64<Qu):J3 X (.builtin "repr") (AX K):=by subst hK;exact uw hg hu
def ya (hK:X.K=K):SlR X (AS K):=by subst hK;exact zB
def tU {a:Qd}{ta:TE}(hK:X.K=K)(ha:PE X a ta)(he:∀whole,isTrue a X.env whole=(do let v <-whole;standAt a.pos;holding [v] (truthy v))) :
  PT X a (λO H Q=>ta O H λx H'=>∃k,xE K x H' k/\Q k H'):=by subst hK;exact xa ha he
end
end
section
section
variable {X:Cx}{K:Qf}
def Ed (K:Qf):R2:=λx y H Q=>∃a b xs ys,x = .ref a/\y = .ref b/\SqT K H a xs/\SqT K H b ys/\xs.length+ys.length<=Qg /\
 (xs=[]->Q (.ref b) H)/\(ys=[]->Q (.ref a) H)/\∀p,H p=none->Q (.ref p) (upd H p (.tup (xs++ys)))
def Af (hK:X.K=K):OpR X (binaryOp .Add) (Ed K):=by
 subst hK;walk_at "kt";obtain⟨a,b,xs,ys,rfl,rfl,ha,hb,hz,q0,q1,q2⟩:=h;by_cases hx:xs=[]
 .cases rx;cases ry;obtain⟨its,r1,p1,_⟩:=I.tuple ha;obtain⟨its2,r2,p2,_⟩:=I.tuple hb;subst hx;cases r1;obtain⟨⟨cls,dd,data,sl⟩,ho,hc,n,hd⟩:=id p1;obtain⟨⟨cls2,dd2,data2,sl2⟩,ho2,hc2,n2,hd2⟩:=id p2;simp only at hc hd hc2 hd2;subst hc hd hc2 hd2;exact concat_meets ⟨_,ho,rfl⟩ ⟨_,ho2,rfl⟩ noFill_tuple_add seq_tuple_add OQ OI (Ov _ _)
   (tuple_addW0 a b #[] its2.toArray n n2 dd dd2 sl sl2 rfl) ⟨ho,ho2,⟨.ref b,H,I,rfl,q0 rfl⟩⟩
 .exact yN Qz s O H (.ref a) (.ref b) v u Q I rx ry ⟨a,b,xs,ys,rfl,rfl,ha,hb,hx,hz,q1,λ_=>q2⟩
end
end
section
def uo {X:Cx}{y:Str}{py:Pos}{ix:Nat}{elt tg iter:Qd}{ifs:List Qd}{scope osc:Qa}{N:List Str}{k:Nat}{cap:List Nat}{g:TG}{tt:TT}{te:TE}{cl:List (Str×PU)}
  {Qz:List (PU×Qi)} {O:St} {H3:Hp} {s3:PV} {D it:PU} {fp:List PU} {tn:Nat->Qe->Prop} {J:It} {Q:St->Hp->Prop} {W:Nat->Nat->St->List V->Hp->Prop} {m0:Nat}
  (hNd:X.N.Nodup) (hix:X.N[ix]? = some y) (hLy:Loc X.env.scope y) (hfy:X.fn y=true\/X.env.scope.names.lookup y=some .local)
  (hc:X.calm=true) (hosc:X.env.scope=osc) (hcap:Caps X.N osc N k cap scope)
  (hcl:∀{x:Str} {c:PU},cl.lookup x=some c->X.env.cells.lookup x=some c) (hhas:∀x,(x,Qw.free)∈scope.names->∃c,cl.lookup x=some c)
  (hg:∀cl C ex Qz s H,PG (cxC X N scope cl C ex Qz s H) tg g)
  (ht:∀cl C ex Qz s H,PTs (cxC X N scope cl C ex Qz s H) ifs tt)
  (he:∀cl C ex Qz s H,PE (cxC X N scope cl C ex Qz s H) elt te)
  (I3:Inv X Qz O H3 s3) (hD:H3 D=some (.lst [])) (T:Turn X.prog X.w X.K tg J fp it tn) (st:tn 0 s3.heap) (f3:∀b∈fp,dS X Qz H3 b) (w0:W 0 m0 (dk k cap O) [] H3)
  (turn:∀i m O' acc H',W i m O' acc H'->(J.stop i H'/\Q (O.set ix (some (.ref D))) H') \/
   (J.go i H'/\∀x H2,J.yld i H' x H2->g x O' H2 λσ2 H3=>tt σ2 H3 λok H4=>if ok=true then te σ2 H4 λy H5=>H5 D=some (.lst acc)/\acc.length<Qg/\∃m',m'<m/\W (i+1) m' σ2 (acc++[y]) (upd H5 D (.lst (acc++[y])))
    else H4 D=some (.lst acc)/\∃m',m'<m/\W (i+1) m' σ2 acc H4)) :
  Qm (model X.prog X.w) X.A (newFunctionEnv scope X.env.globals cl [] X.env.qual none .none (some X.env)) (λcenv s₄ =>
   codeAny (model X.prog X.w) X.A (.compStart (.ListComp elt [⟨tg,iter,ifs,0⟩] scope pos) 0 (.ref it) (.ref D) { cenv with scope:=relabel scope X.env }) (compPost (model X.prog X.w) X.A X.xe (some (assign (.Name y py) X.env)) (λ_ s'=>∃O' H',Inv X Qz O' H' s'/\Q O' H') (.ref D) cenv.locals) s₄) X.xe s3:=by
 refine lP (act:=λenv k=>do nq elt (.ref D) env;k) (P:=λC=>compPost (model X.prog X.w) X.A X.xe (some (assign (.Name y py) X.env)) (λ_ s'=>∃O' H',Inv X Qz O' H' s'/\Q O' H') (.ref D) C) (Qs:=λH'=>Q (O.set ix (some (.ref D))) H') (W:=λi m O' H'=>∃acc,H' D=some (.lst acc)/\W i m O' acc H') (λenv=>by rfl) hc hosc hcap hcl hhas hg ht I3 T st f3 ⟨[],hD,w0⟩ (λs6 σ5 H5 I6 I7 q=>?_) λi m O' H' ⟨acc,hD',w⟩=>?_
 .obtain⟨m,hn,_⟩:=id I6.loc;obtain⟨g0,g1,g2,g3,g4,g5⟩:=I3.fpOk (H':=H5) (b:=s3.heap.objs.size) (Ln _) I6.free;obtain⟨o,es,ep,ho,hdat,rest⟩:=id hn;have I7p:Inv X (Qz++[(s3.heap.objs.size,o)]) O H5 s6:=I7.pins_of λp hp=>by
   rcases Li.1 hp with z | z
   .exact I7.pin p (LA _ z)
   .rw[Mv.1 z];exact⟨ho,g0,g1,g2,λv z=>by have z':o.data = .cell v:=z;rw[hdat]at z';cases z'⟩
  show Qm (model X.prog X.w) X.A (assign (.Name y py) X.env (.ref D)) _ _ s6;refine wpAny_assign_Name (P9 I7p hNd hix hLy (v:=.ref D) rfl (λs7 I8=>?_) hfy);have hC7:=(I8.pin (s3.heap.objs.size,o) (LA _ (LA _ (Mv.2 rfl)))).1;refine⟨m,⟨o,es,ep,hC7,hdat,rest⟩,λh' hsb=>?_⟩;exact⟨_,H5,I8.unpinned.turned (t':=s7.toks) (λb o hb e=>(hsb.2 b hb).trans e) g0 g1 g3 g4 g5,q⟩
 .rcases turn i m O' acc H' w with h | ⟨go,step⟩
  .exact .inl h
  .refine .inr ⟨go,_,step,λσ2 H4 h=>?_,λpins' s σ2 H4 I h k R E hk=>?_⟩
   .obtain⟨hD9,m',hm,w9⟩:=(show H4 D=some (.lst acc)/\∃m',m'<m/\W (i+1) m' σ2 acc H4 from h);exact⟨m',hm,acc,hD9,w9⟩
   .refine Ld (Ld (LX (he _ _ _ _ _ _ _ s σ2 H4 _ I h) (λyv s10 ⟨y,H10,I10,r10,hD10,hz,m',hm,w10⟩=>?_) λ_ _ h'=>h'.elim));refine Ld (LX (M9 (X:=cxC X N scope cl s3.heap.objs.size fp Qz s3 H3) _ s10 σ2 H10 (.ref D) [y] (.ref D) [yv] (λ_ H'=>H'=upd H10 D (.lst (acc++[y]))) I10 rfl (.cons r10 .nil) ⟨D,acc,y,rfl,rfl,hD10,hz,rfl⟩)
     (λ_ s11 ⟨_,H11,I11,_,e11⟩=>Lo ?_) λ_ _ h'=>h'.elim)
    subst e11;exact hk s11 σ2 _ I11 ⟨m',hm,_,d7,w10⟩
def xI {X:Cx}{y:Str}{py spos:Pos}{ix:Nat}{elt tg iter:Qd}{ifs:List Qd}{scope osc:Qa}{N:List Str}{k:Nat}{cap:List Nat}{wi:TI}{g:TG}{tt:TT}{te:TE}
  (hNd:X.N.Nodup) (hix:X.N[ix]? = some y) (hLy:Loc X.env.scope y)
  (hc:X.calm=true) (hosc:X.env.scope=osc) (hcap:Caps X.N osc N k cap scope) (hi:PI X tg iter wi)
  (hg:∀cl C ex Qz s H,PG (cxC X N scope cl C ex Qz s H) tg g)
  (ht:∀cl C ex Qz s H,PTs (cxC X N scope cl C ex Qz s H) ifs tt)
  (he:∀cl C ex Qz s H,PE (cxC X N scope cl C ex Qz s H) elt te)
  (hs:∀x,Qr iter X.env x=pure x:=by intro _;rfl) (hfy:X.fn y=true\/X.env.scope.names.lookup y=some .local:=by walk_at "v")
  (hsw:Qo (.ListComp elt [⟨tg,iter,ifs,0⟩] scope pos) (some (.Name y py)) spos.line X.env=pure true:=by rfl) :
  PS X (.Assign [.Name y py] (.ListComp elt [⟨tg,iter,ifs,0⟩] scope pos) spos) (O6 (tLC wi k cap g tt te) (M6 ix)):=by
 intro Qz s O H D0 I h;have hcell:∀y∈scope.names,y.2 = .free->∃c,X.env.cells.lookup y.1=some c:=λy hy hk=>I.ok.has y.1 (by show X.env.scope.names.lookup y.1=_\/X.env.scope.names.lookup y.1=_;rw[hosc];exact hcap.free y hy hk)
 walk_at "ka"
 generalize K9 f scope.names []=cl at hclos hcl hhas;rw[exec_Assign_Name_used _ _ _ _ hsw];refine Ld (NA (Ld ?_));show Qm _ X.A (do let _ <-comprehension (.ListComp elt [⟨tg,iter,ifs,0⟩] scope pos) scope X.env _ (newList []) false (eval iter X.env) (some (assign (.Name y py) X.env))) _ _ s;refine Ld (LX (Ox (use:=some (assign (.Name y py) X.env)) (cl:=cl) (Q:=λ_ s'=>∃O' H',Inv X Qz O' H' s'/\D0.nx O' H') rfl hs hclos hcap.kind hcap.loc ?_) (λ_ s' hq=>Lo (Lo hq)) λ_ _ e=>e);refine thn (hi Qz s O H _ I h) λv s1 h1=>thn h1 λitv s2 h2=>?_
 obtain⟨it,fp,tn,J,H2,e,I2,T,st2,f2,q2⟩:=h2;subst e;obtain⟨W,⟨m0,w0⟩,turn⟩:=q2 s2.heap.objs.size (I2.hok.fresh (Ln _));refine Mo ?_;have I3:Inv X Qz O (upd H2 s2.heap.objs.size (.lst [])) { s2 with heap:=s2.heap.push { cls:=.type "list",data:=.seq ([]:List PR).toArray } }:=I2.lnew (ys:=[]) (its:=[]) (t':=s2.toks) .nil (Mb _);have lt2:∀b∈fp,b≠s2.heap.objs.size:=λb hb=>by obtain⟨o,e,_⟩:=T.obj _ _ st2 b hb;exact LH (Lw e)
 exact uo hNd hix hLy hfy hc hosc hcap hcl hhas hg ht he I3 d7 T (T.keep _ _ (s2.heap.push { cls:=.type "list",data:=.seq ([]:List PR).toArray }) st2 λb _ o e=>Ll _ e) (λb hb=>⟨by rw[b9 (lt2 b hb)];exact(f2 b hb).1,(f2 b hb).2⟩) w0 turn
end
section
section
variable {X:Cx}{K:Qf}
def zy (K:Qf):List V->Hp->VK->Prop:=λxs H Q=>∃(a:PU) (ns:List Int),xs=[.ref a]/\SqL K H a (ns.map V.int)/\ns.length<64 /\
 ∀(p:PU) (ns':List Int),H p=none->ns'.Perm ns->ns'.Pairwise (· <= ·)->Q (.ref p) (upd H p (.lst (ns'.map V.int)))
def nU (hK:X.K=K):J3 X (.builtin "sorted") (zy K):=by
 subst hK;walk_at "ks";obtain⟨a,ns,rfl,hq,h64,q⟩:=h;walk_at "kv";obtain⟨its,rv,p,hz⟩:=I.list hq;have hi:=cS rv;have hlen:its.length=ns.length:=by rw[<-rv.length,Lf]
 refine PyProof.Rows.sorted_ints p.isList hi (by omega) λout ns' a1 a2 a3=>?_
 obtain⟨e,he⟩:=sortedAll_at s.heap its out;have I1:Inv X Qz O (upd H (s.heap.objs.size+1) (.lst (ns'.map V.int))) { s with heap:=sortedAll s.heap its out,toks:=s.toks } :=
  I.laid (a:=s.heap.objs.size+1) (λb o ho=>sortedAll_old ho) (NS _) ⟨by rw[Lf,a2.length_eq,<-Lf (f:=V.int)];exact hz,out.toList,e,fA a1,by rw[he]⟩
 exact⟨.ref (s.heap.objs.size+1),_,I1,rfl,q _ ns' (I.hok.fresh (NS _)) a2 a3⟩
def FA (ta:TA):TE:=λO H Q=>ta O H λvs H1=>∃j:Int,vs=[.int j]/\∀p,H1 p=none->Q (.ref p) (upd H1 p (.rng 0 j))
def yn {a:Qd}{ta:TA}{p:Pos}(hg:Gl X "range")(hm:X.mg "range" = none)(ha:PA X [a] ta)(hs:Qh [a] X.env=[(false,eval a X.env)]:=by rfl):PE X (.Call (.Name "range" p) [a] [] pos) (FA ta):=by
 intro Qz s O H Q I h;refine Call_ (dq I hg hm boot_range (Np (thn (ha pos Qz s O H _ I h) λus s1 ⟨vs,H1,I1,r1,q1⟩=>?_) hs rfl));obtain⟨j,e,q⟩:=q1;subst e;cases r1 with
 | cons r rr =>cases rr;obtain⟨t,rfl⟩:=r;refine call_range_1 ?_;exact⟨.ref s1.heap.objs.size,_,I1.laid (a:=s1.heap.objs.size) (o:=.rng 0 j) (λb o e=>Ll _ e) (Ln _) ⟨_,_,_,LI _ rfl⟩,rfl,q _ (I1.hok.fresh (Ln _))⟩
theorem Y2:∀{xs:List V} {us:List PR},xs.length=us.length->(∀(i:Nat) x u,xs[i]? = some x->us[i]? = some u->x3 x u)->r6 xs us
 | [],[],_,_=>.nil
 | [],_::_,e,_=>by simp at e
 | _::_,[],e,_=>by simp at e
 | x::xs,u::us,e,h=>.cons (h 0 x u rfl rfl) (Y2 (by simpa using e) λi y v h1 h2=>h (i+1) y v (by simpa using h1) (by simpa using h2))
end
end
section
def isT (a T:String):Bool:=a == T||(a == "bool" && T == "int")
section
variable {X:Cx}{K:Qf}
end
end
section
section
variable {X:Cx}{K:Qf}
end
end
section
section
variable {X:Cx}{K:Qf}
def DJ (K:Qf):List V->Hp->VK->Prop:=λxs H Q=>∃(a:PU) (ns:List Int),xs=[.ref a]/\SqT K H a (ns.map V.int)/\ns≠[]/\∀m,m∈ns->(∀n∈ns,m<=n)->Q (.int m) H
def uV (hK:X.K=K)(hc:X.calm=true):J3 X (.builtin "min") (DJ K):=by
 subst hK;walk_at "ks";obtain⟨a,ns,rfl,hq,hne,q⟩:=h;walk_at "kv";obtain⟨its,rv,p,hz⟩:=I.tuple hq;have hlen:its.length=ns.length:=by rw[<-rv.length,Lf]
 have hpos:0<ns.length:=Ph.2 hne;have p':s.heap.IsTuple a its.toArray:=p;have hlt:a<s.heap.objs.size:=by obtain⟨o,e,_⟩:=p;exact Lw e
 have hval:∀(i:Nat) (v:PR),its.toArray[i]? = some v->∃t,v = .int (ns.getD i 0) t:=λi v hv=>by
  have hv:its[i]? = some v:=by simpa using hv
  obtain⟨hi,_⟩:=Lj.1 hv;have hb:(ns.map V.int)[i]? = some (V.int (ns.getD i 0)):=by rw[Lv,Lz (by omega)];simp[List.getD,Lz (show i<ns.length by omega)]
  obtain⟨u,hu,ru⟩:=rv.get hb;rw[hv]at hu;cases hu;exact ru
 refine call_min_walk (NJ p' ?_);have hne':a≠s.heap.objs.size:=LH hlt;refine⟨_,_,_,_,_,_,_,rfl,Walks.tuple (A:=X.A.in1) (I.ok.hd hc) _ a hne' its.toArray,⟨⟨_,LI _ rfl,rfl,rfl⟩,?_⟩,?_,?_,CmpOf.ints_lt (λi=>ns.getD i 0) hval,λv h' tk hP hk=>?_⟩
 .exact p'.at λo e=>Ll _ e
 .intro b hb;rw[OF];have:b=s.heap.objs.size\/b=a:=by simpa using hb
  rcases this with e | e
  .rw[e];exact MV _
  .rw[e];exact Nn hlt
 .rw[Ls,hlen];exact hpos
 .obtain⟨h1,h2⟩:=argBest_lt (λi=>ns.getD i 0) (its.toArray.size-1);obtain⟨t,rfl⟩:=hval _ v hP;have hsz:its.toArray.size=ns.length:=by rw[Ls,hlen]
  refine⟨.int _,H,I.kept λb o e=>hk b o (by simp;exact LH (Lw e)) (Ll _ e),⟨t,rfl⟩,q _ ?_ λn hn=>?_⟩
  .exact getD_mem (by omega)
  .obtain⟨j,hj,rfl⟩:=mem_getD hn;exact h2 j (by omega)
end
end
end L2
namespace L2
open PySem PyProof.Rows
def kT {prog:PX}{w:PY}{A:PZ}{E:PR->PV->Prop}{s:PV}{a b:Bool}{Q:PR->PV->Prop}(h:Q (.bool (decide ((if a then(1:Int) else 0)<if b then 1 else 0))) s) :
  Qm (model prog w) A (call (.builtin "int.__lt__") [.bool a,.bool b]) Q E s:=by refine NF PySem.F.slot_bool_lt (T:="bool") rfl entry_int_lt ?_ (args_int_lt _ _);show Qm _ _ (ret (.bool (decide ((if a then(1:Int) else 0)<if b then 1 else 0)))) _ _ s;exact Lo ⟨_,rfl,h⟩
def pX {prog:PX}{w:PY}{A:PZ}{E:PR->PV->Prop}{s:PV}{a b:Bool}{Q:Bool->PV->Prop}(h:Q (decide ((if a then(1:Int) else 0)<if b then 1 else 0)) s):Qm (model prog w) A (oneLt' true (.bool a) (.bool b)) Q E s:=by rw[oneLt'_eq];simp only[ML];refine Ld (wpAny_cRoomFor_byValue rfl ?_);refine Ld (wpAny_callSpecialIfBound?_slot (T:="bool") rfl PySem.F.slot_bool_lt (kT ?_));exact Ny h
def Lx (κ:Nat->Int)(i j:Nat):Prop:=κ i < κ j\/(κ i = κ j/\i<j)
structure SB (kd:SortKind) (a0:Array Qv) (st:SortSt):Prop where
 size:(arrOf st).size=a0.size
 kind:kindOf st=kd
 failed:failedOf st=none
 pend:pendingOf st = #[]
variable {kd:SortKind}
def SB.setArr {a0:Array Qv}{st:SortSt}(h:SB kd a0 st){xs:Array Qv}(hp:xs.size=(arrOf st).size):SB kd a0 (PyProof.Rows.setArr st xs):=⟨hp.trans h.size,h.kind,h.failed,h.pend⟩
structure SG (kd:SortKind) (a0:Array Qv) (st:SortSt) (p:Nat->Nat):Prop where
 base:SB kd a0 st
 inj:∀i j,i<a0.size->j<a0.size->p i=p j->i=j
 at_:∀i,i<a0.size->(arrOf st)[i]? = a0[p i]?
 lt:∀i,i<a0.size->p i<a0.size
def iF (prog:PX)(w:PY)(A:PZ)(s:PV)(kd:SortKind)(a0:Array Qv)(κ:Nat->Int):Prop :=
 ∀(i j:Nat) (x y:Qv),i≠j->a0[i]? = some x->a0[j]? = some y->∀(E:PR->PV->Prop) (Q:Bool->PV->Prop),Q (decide (κ i < κ j)) s->Qm (model prog w) A (keyLt' kd x.1 y.1) Q E s
def SoK (κ:Nat->Int)(p:Nat->Nat)(n:Nat):Prop:=∀i j,i<=j->j<n->κ (p i) <= κ (p j)
def SoS (κ:Nat->Int)(p:Nat->Nat)(n:Nat):Prop:=(∀i j,i<j->j<n->Lx κ (p i) (p j))/\(∀i,n<=i->p i=i)/\∀i,i<n->p i<n
variable {κ:Nat->Int}
def SoS.sorted {p:Nat->Nat}{n:Nat}(h:SoS κ p n):SoK κ p n:=by
 intro i j hij hj;by_cases e:i=j
 .subst e;exact Oi _
 .rcases h.1 i j (by omega) hj with q | q
  .exact Int.le_of_lt q
  .exact Int.le_of_eq q.1
def SoS.more {p:Nat->Nat}{n m:Nat}(h:SoS κ p n)(hnm:n<=m)(hs:SoK κ p m):SoS κ p m:=by
 refine⟨λi j hij hj=>?_,λi hi=>h.2.1 i (by omega),λi hi=>?_⟩
 .by_cases hjn:j<n
  .exact h.1 i j hij hjn
  .have q:=hs i j (by omega) hj;have ej:=h.2.1 j (by omega);rcases Oy q with q | q
   .exact .inl q
   .refine .inr ⟨q,?_⟩;rw[ej];by_cases hin:i<n
    .have:=h.2.2 i hin;omega
    .rw[h.2.1 i (by omega)];exact hij
 .by_cases hin:i<n
  .have:=h.2.2 i hin;omega
  .rw[h.2.1 i (by omega)];exact hi
variable {nrem:Nat}
section
variable {prog:PX}{w:PY}{A:PZ}{E:PR->PV->Prop}{s:PV}{a0:Array Qv}
def oX {st:SortSt}{p:Nat->Nat}{i j:Nat}{Q:Option Bool->SortSt->Prop}(g:SG kd a0 st p)(hL:iF prog w A s kd a0 κ)(hi:i<a0.size)(hj:j<a0.size)(hij:i≠j)
  (h:Q (some (decide (κ (p i) < κ (p j)))) st):wpS (model prog w) A E s (ltAt' i j) Q st:=by have e1:=g.at_ i hi;have e2:=g.at_ j hj;have l1:=g.lt i hi;have l2:=g.lt j hj;have f1:a0[p i]? = some a0[p i]:=getElem?_pos a0 (p i) l1;have f2:a0[p j]? = some a0[p j]:=getElem?_pos a0 (p j) l2;rw[ltAt'_eq];refine Mm (wpS_get ?_);show wpS _ _ _ _ (do let x <-elem' (arrOf st) i;let y <-elem' (arrOf st) j;lt' x y) Q st;rw[elem'_eq,elem'_eq,e1,e2,f1,f2];refine Mm (MP (Mm (MP ?_)));rw[lt'_eq];refine Mm (wpS_get ?_);rw[g.base.kind];refine Mm (wpS_lift (wpAny_attempt (hL _ _ _ _ (λz=>hij (g.inj i j hi hj z)) f1 f2 _ _ ?_)));exact⟨rfl,MP h⟩
def SG.bub {st:SortSt}{p:Nat->Nat}(g:SG kd a0 st p){k l:Nat}(hk:k<a0.size)(hl:l<=k) :
  SG kd a0 (setArr st (bubble (arrOf st) k (k-l))) (λi=>if i=l then p k else if l<i/\i<=k then p (i-1) else p i):=by
 refine⟨g.base.setArr (bubble_size _ _ _),λi j hi hj e=>?_,λi hi=>?_,λi hi=>?_⟩
 .have q:=g.inj;try dsimp only at e
  repeat' split at e
  all_goals first
   | omega
   | (have:=q _ _ (by omega) (by omega) e;omega)
 .have e:=getElem?_bubble (xs:=arrOf st) (src:=k) (by rw[g.base.size];exact hk) (k-l) (by omega) i;rw[show k-(k-l)=l by omega]at e;show(bubble (arrOf st) k (k-l))[i]? = _;rw[e];repeat' split
  .exact g.at_ _ hk
  .exact g.at_ _ (by omega)
  .exact g.at_ _ hi
 .try dsimp only
  repeat' split
  .exact g.lt _ hk
  .exact g.lt _ (by omega)
  .exact g.lt _ hi
def SG.mir {st:SortSt}{p:Nat->Nat}(g:SG kd a0 st p){u v:Nat}(hv:v<=a0.size) :
  SG kd a0 (setArr st (mirror (arrOf st) u v ((v-u) / 2))) (λi=>if u<=i/\i<v then p (u+v-1-i) else p i):=by
 refine⟨g.base.setArr (mirror_size _ _ _ _),λi j hi hj e=>?_,λi hi=>?_,λi hi=>?_⟩
 .have q:=g.inj;try dsimp only at e
  repeat' split at e
  all_goals first
   | omega
   | (have:=q _ _ (by omega) (by omega) e;omega)
 .have e:=getElem?_mirror_all (xs:=arrOf st) (i:=u) (j:=v) (by rw[g.base.size];exact hv) i;show(mirror (arrOf st) u v ((v-u) / 2))[i]? = _;rw[e];repeat' split
  .exact g.at_ _ (by omega)
  .exact g.at_ _ hi
 .try dsimp only
  split
  .exact g.lt _ (by omega)
  .exact g.lt _ hi
def ui {st:SortSt}{p:Nat->Nat}{n ok:Nat}{Q:Bool->SortSt->Prop}(hL:iF prog w A s kd a0 κ)(hn:n<=a0.size)(hok:ok<=n)(hB:SG kd a0 st p)(hs:SoS κ p ok)
  (h:∀st' p',SG kd a0 st' p'->SoS κ p' n->Q true st'):wpS (model prog w) A E s (binarySort' 0 n ok) Q st:=by
 rw[binarySort'_eq];simp only[Ml];refine Mm (wpS_mono (Oz (I:=λk c st'=>c=(none,())/\∃p',SG kd a0 st' p'/\SoS κ p' (min k n))
  (Q:=λc st'=>c=(none,())/\∃p',SG kd a0 st' p'/\SoS κ p' n) ?step ?fin ?init) ?post)
 case post =>
  rintro c st' ⟨rfl,p',hB',hs'⟩
  exact MP (h st' p' hB' hs')
 case init =>
  refine⟨rfl,p,hB,?_⟩
  by_cases h1:ok=0
  .subst h1
   refine hs.more (by omega) λi j hij hj=>?_
   have:i=j:=by omega
   subst this;exact Oi _
  .rw[show min (max ok 1) n=ok by omega];exact hs
 case fin =>
  rintro c st' ⟨hc,p',hB',hs'⟩
  refine⟨hc,p',hB',?_⟩
  rwa [show min (max (max ok 1) n) n=n by omega]at hs'
 case step =>
  rintro k c st' hak hkn ⟨rfl,p',hG',hS'⟩
  rw[show min k n=k by omega]at hS'
  have hk:k<a0.size:=by omega
  have hs':=hS'.sorted
  have hB':=hG'.base
  refine Mm (wpS_mono (Oz (I:=λx c st''=>st''=st'/\∃l r,c=(none,l,r)/\l<=r/\r<=k/\r-l<=k-x /\
    (∀i,i<l->κ (p' i) <= κ (p' k))/\(∀i,r<=i->i<k->κ (p' k) < κ (p' i)))
   (Q:=λc st''=>st''=st'/\∃l r,c=(none,l,r)/\l<=k /\
    (∀i,i<l->κ (p' i) <= κ (p' k))/\(∀i,l<=i->i<k->κ (p' k) < κ (p' i))) ?istep ?ifin ?iinit) ?ipost)
  case iinit=>exact⟨rfl,0,k,rfl,by omega,by omega,by omega,λi hi=>by omega,λi h1 h2=>by omega⟩
  case ifin =>
   rintro c st'' ⟨rfl,l,r,rfl,hlr,hrk,hm,hlo,hhi⟩
   have:l=r:=by omega
   subst this
   exact⟨rfl,l,l,rfl,hrk,hlo,hhi⟩
  case istep =>
   rintro x c st'' _ hxk ⟨rfl,l,r,rfl,hlr,hrk,hm,hlo,hhi⟩
   dsimp only
   by_cases hge:l >= r
   .rw[Lg hge]
    have:l=r:=by omega
    subst this
    exact MP ⟨rfl,l,l,rfl,hrk,hlo,hhi⟩
   .rw[Lk hge]
    refine Mm (oX hG' hL hk (by omega) (by omega) ?_)
    by_cases hless:κ (p' k) < κ (p' ((l+r) / 2))
    .simp only[hless,Oa,ML]
     refine MP ⟨rfl,l,(l+r) / 2,rfl,by omega,by omega,by omega,hlo,λi h1 h2=>?_⟩
     exact Int.lt_of_lt_of_le hless (hs' _ _ h1 h2)
    .simp only[hless,Pc,Mq,MO]
     refine MP ⟨rfl,(l+r) / 2+1,r,rfl,by omega,by omega,by omega,λi h1=>?_,hhi⟩
     exact Int.le_trans (hs' i ((l+r) / 2) (by omega) (by omega)) (Int.not_lt.1 hless)
  case ipost =>
   rintro c st'' ⟨rfl,l,r,rfl,hlk,hlo,hhi⟩
   show wpS _ _ _ _ (do moveDown' k l;pure (ForInStep.yield (none,()))) _ _
   rw[moveDown'_eq]
   refine Mm (wpS_modify (MP ⟨rfl,_,hG'.bub hk hlk,?_⟩))
   rw[show min (k+1) n=k+1 by omega]
   have ek:=hS'.2.1 k (Ln _)
   have lo':∀i,i<l->Lx κ (p' i) (p' k):=λi hi=>by
    have q:=hlo i hi;rcases Oy q with q | q
    .exact .inl q
    .refine .inr ⟨q,?_⟩;rw[ek];exact hS'.2.2 i (by omega)
   have hi':∀i,l<=i->i<k->Lx κ (p' k) (p' i):=λi h1 h2=>by have q:=hhi i h1 h2;exact .inl q
   refine⟨λi j hij hj=>?_,λi hi=>?_,λi hi=>?_⟩
   .dsimp only
    repeat' split
    all_goals first
     | (exfalso;omega)
     | exact lo' _ (by omega)
     | exact hi' _ (by omega) (by omega)
     | exact hS'.1 _ _ (by omega) (by omega)
   .dsimp only
    rw[Lk (by omega),Lk (by omega)]
    exact hS'.2.1 i (by omega)
   .dsimp only
    repeat' split
    .rw[ek];omega
    .have:=hS'.2.2 (i-1) (by omega);omega
    .have:=hS'.2.2 i (by omega);omega
def vM {st:SortSt}{p:Nat->Nat}{a:Nat}{Q:AscSt->SortSt->Prop}(hL:iF prog w A s kd a0 κ)(hn:nrem<=a0.size)(ha:1<=a)(han:a<=nrem)(hG:SG kd a0 st p)
  (hs:SoK κ p a)
  (h:∀n,a<=n->n<=nrem->SoK κ p n->(n=nrem \/ κ (p n) < κ (p (n-1)))->Q (none,n) st) :
  wpS (model prog w) A E s (ascLoop a nrem) Q st:=by
 unfold ascLoop;refine Oz (I:=λx c st'=>st'=st/\c=(none,x)/\SoK κ p x) ?step ?fin ⟨rfl,rfl,hs⟩;case fin =>
  rintro c st' ⟨rfl,rfl,hs'⟩
  rw[show max a nrem=nrem by omega]at hs' ⊢
  exact h nrem han (Ln _) hs' (.inl rfl)
 case step =>
  rintro x c st' hax hxn ⟨rfl,rfl,hs'⟩
  dsimp only
  refine Mm (oX hG hL (by omega) (by omega) (by omega) ?_)
  by_cases hless:κ (p x) < κ (p (x-1))
  .simp only[hless,Oa,ML]
   exact MP (h x hax (by omega) hs' (.inr hless))
  .simp only[hless,Pc,Mq,MO]
   refine MP ⟨rfl,rfl,λi j hij hj=>?_⟩
   by_cases hjx:j<x
   .exact hs' i j hij hjx
   .have hj':j=x:=by omega
    subst hj'
    by_cases hi':i=j
    .subst hi';exact Oi _
    .exact Int.le_trans (hs' i (j-1) (by omega) (by omega)) (Int.not_lt.1 hless)
def DoS (κ:Nat->Int)(p:Nat->Nat)(n:Nat):Prop:=(∀i j,i<j->j<n->Lx κ (p j) (p i))/\(∀i,n<=i->p i=i)/\∀i,i<n->p i<n
def oH {st:SortSt}{p:Nat->Nat}{n:Nat}{Q:Option Nat->SortSt->Prop}(hL:iF prog w A s kd a0 κ)(hn:nrem<=a0.size)(h1:1<=n)(hnn:n<=nrem)(hB:SG kd a0 st p)
  (hs:DoS κ p n) (h:∀m st' p',SG kd a0 st' p'->1<=m->m<=nrem->SoS κ p' m->Q (some m) st') :
  wpS (model prog w) A E s (tail3 n nrem) Q st:=by
 unfold tail3;refine Mm (wpS_reverse ?_);have hG:=hB.mir (u:=0) (v:=n) (by omega);have hS:SoS κ (λi=>if 0<=i/\i<n then p (0+n-1-i) else p i) n:=by
  refine⟨λi j hij hj=>?_,λi hi=>?_,λi hi=>?_⟩
  .dsimp only;rw[Lg (by omega),Lg (by omega)];exact hs.1 _ _ (by omega) (by omega)
  .dsimp only;rw[Lk (by omega)];exact hs.2.1 i hi
  .dsimp only;rw[Lg (by omega)];exact hs.2.2 _ (by omega)
 exact Mm (vM hL hn h1 hnn hG hS.sorted λm hm1 hm2 hsm _=>MP (h m _ _ hG (by omega) hm2 (hS.more hm1 hsm)))
def GoS (κ:Nat->Int)(p:Nat->Nat)(g n:Nat):Prop :=
 DoS κ p g/\g<n/\(∀i,g<=i->i<n->κ i = κ (n-1))/\∀i,i<g->κ (n-1) < κ (p i)
def GoS.close {st:SortSt}{p:Nat->Nat}{g n:Nat}(hG:SG kd a0 st p)(h:GoS κ p g n)(hn:n<=a0.size):DoS κ (λi=>if g<=i/\i<n then p (g+n-1-i) else p i) n:=by
 obtain⟨hd,hg,he,hl⟩:=h;refine⟨λi j hij hj=>?_,λi hi=>?_,λi hi=>?_⟩
 .dsimp only;by_cases h1:g<=i
  .rw[Lg (by omega),Lg (by omega),hd.2.1 _ (by omega),hd.2.1 _ (by omega)];refine .inr ⟨?_,by omega⟩;rw[he _ (by omega) (by omega),he (g+n-1-i) (by omega) (by omega)]
  .by_cases h2:g<=j
   .rw[Lg (by omega),Lk (by omega),hd.2.1 _ (by omega)];refine .inl ?_;rw[he _ (by omega) (by omega)];exact hl i (by omega)
   .rw[Lk (by omega),Lk (by omega)];exact hd.1 i j hij (by omega)
 .dsimp only;rw[Lk (by omega)];exact hd.2.1 i (by omega)
 .dsimp only;split
  .rw[hd.2.1 _ (by omega)];omega
  .have:=hd.2.2 i (by omega);omega
def GoS.close1 {p:Nat->Nat}{g n:Nat}(h:GoS κ p g n)(e:n=g+1):DoS κ p n:=by
 obtain⟨hd,hg,he,hl⟩:=h;subst e;refine⟨λi j hij hj=>?_,λi hi=>hd.2.1 i (by omega),λi hi=>?_⟩
 .by_cases h2:j<g
  .exact hd.1 i j hij h2
  .have:j=g:=by omega
   subst this;rw[hd.2.1 j (Ln _)];exact .inl (hl i hij)
 .by_cases h2:i<g
  .have:=hd.2.2 i h2;omega
  .rw[hd.2.1 i (by omega)];exact hi
def Aa {st:SortSt}{p:Nat->Nat}{n:Nat}{Q:DescSt->SortSt->Prop}(hL:iF prog w A s kd a0 κ)(hn:nrem<=a0.size)(h1:1<=n)(hnn:n<=nrem)(hB:SG kd a0 st p)
  (hs:GoS κ p (n-1) n)
  (h:∀m neq st' p',SG kd a0 st' p'->n<=m->m<=nrem->neq+1<=m->GoS κ p' (m-(neq+1)) m->Q (none,m,neq) st') :
  wpS (model prog w) A E s (descLoop n nrem) Q st:=by
 unfold descLoop;refine Oz (I:=λx c st'=>∃neq p',c=(none,x,neq)/\SG kd a0 st' p'/\neq+1<=x/\GoS κ p' (x-(neq+1)) x) ?step ?fin ⟨0,p,rfl,hB,by omega,hs⟩;case fin =>
  rintro c st' ⟨neq,p',rfl,hG',hq,hS'⟩
  rw[show max n nrem=nrem by omega]at hq hS' ⊢
  exact h nrem neq st' p' hG' hnn (Ln _) hq hS'
 case step =>
  rintro x c st' hax hxn ⟨neq,p',rfl,hG',hq,hS'⟩
  dsimp only
  refine Mm (oX hG' hL (by omega) (by omega) (by omega) ?_)
  have k1:p' x=x:=hS'.1.2.1 x (by omega)
  have k2:p' (x-1)=x-1:=hS'.1.2.1 (x-1) (by omega)
  rw[k1,k2]
  have put:∀{p2:Nat->Nat},κ x < κ (x-1)->DoS κ p2 x->(∀i,i<x->κ (x-1) <= κ (p2 i))->GoS κ p2 (x+1-(0+1)) (x+1):=by
   intro p2 hless d ge;rw[show x+1-(0+1)=x by omega];refine⟨d,by omega,λi h1 h2=>?_,λi hi=>?_⟩
   .rw[show i=x by omega];rfl
   .exact Int.lt_of_lt_of_le hless (ge i hi)
  have ge0:∀i,i<x->κ (x-1) <= κ (p' i):=λi hi=>by
   by_cases hg:i<x-(neq+1)
   .exact Int.le_of_lt (hS'.2.2.2 i hg)
   .rw[hS'.1.2.1 i (by omega)];exact Int.le_of_eq (hS'.2.2.1 i (by omega) hi).symm
  by_cases hless:κ x < κ (x-1)
  .simp only[hless,Oa,ML]
   by_cases hneq:neq > 0
   .rw[Lg hneq]
    have hG2:=hG'.mir (u:=x-(neq+1)) (v:=x) (by omega)
    refine Mm (wpS_reverse (MP ⟨0,_,rfl,hG2,by omega,put hless (hS'.close hG' (by omega)) λi hi=>?_⟩))
    try dsimp only
    split
    .exact ge0 _ (by omega)
    .exact ge0 _ hi
   .rw[Lk hneq]
    exact MP ⟨0,p',rfl,hG',by omega,put hless (hS'.close1 (by omega)) ge0⟩
  .simp only[hless,Pc,Mq,MO]
   refine Mm (oX hG' hL (by omega) (by omega) (by omega) ?_)
   rw[k1,k2]
   by_cases hlarger:κ (x-1) < κ x
   .simp only[hlarger,Oa,ML]
    exact MP (h x neq st' p' hG' hax (by omega) hq hS')
   .simp only[hlarger,Pc,Mq,MO]
    have heqx:κ x = κ (x-1):=by omega
    refine MP ⟨neq+1,p',rfl,hG',by omega,?_⟩
    rw[show x+1-(neq+1+1)=x-(neq+1) by omega]
    refine⟨hS'.1,by omega,λi h1 h2=>?_,λi hi=>?_⟩
    .rw[show x+1-1=x by omega]
     by_cases hix:i=x
     .subst hix;rfl
     .rw[heqx];exact hS'.2.2.1 i h1 (by omega)
    .rw[show x+1-1=x by omega,heqx];exact hS'.2.2.2 i hi
def gz {st:SortSt}{p:Nat->Nat}{n:Nat}{Q:Option Nat->SortSt->Prop}(hL:iF prog w A s kd a0 κ)(hn:nrem<=a0.size)(hnn:n+1<=nrem)(hB:SG kd a0 st p)
  (hs:GoS κ p n (n+1)) (h:∀m st' p',SG kd a0 st' p'->1<=m->m<=nrem->SoS κ p' m->Q (some m) st') :
  wpS (model prog w) A E s (descPart n nrem) Q st:=by
 unfold descPart;refine Mm (wpS_lift (NR ⟨rfl,?_⟩));refine Mm (Aa hL hn (by omega) hnn hB hs λm neq st' p' hG' hm1 hm2 hq hS'=>?_);dsimp only;by_cases hneq:neq > 0
 .rw[Lg hneq];exact Mm (wpS_reverse (oH hL hn (by omega) hm2 (hG'.mir (by omega)) (hS'.close hG' (by omega)) h))
 .rw[Lk hneq];exact oH hL hn (by omega) hm2 hG' (hS'.close1 (by omega)) h
def vC {st:SortSt}{Q:Option Nat->SortSt->Prop}(hL:iF prog w A s kd a0 κ)(hn:nrem<=a0.size)(h1:1<=nrem)(hB:SG kd a0 st id)
  (h:∀m st' p',SG kd a0 st' p'->1<=m->m<=nrem->SoS κ p' m->Q (some m) st') :
  wpS (model prog w) A E s (countRun' 0 nrem) Q st:=by
 rw[countRun0_eq];have S0:SoS κ id 0:=⟨λi j _ hj=>by omega,λi _=>rfl,λi hi=>by omega⟩;have one:SoK κ id 1:=λi j hij hj=>by
  have:i=j:=by omega
  subst this;exact Oi _
 refine Mm (vM hL hn (Ln 1) h1 hB one λn hn1 hn2 hsn hor=>?_);dsimp only;by_cases hnn:n=nrem
 .rw[Lg (by simpa using hnn)];exact MP (h n st id hB hn1 hn2 (S0.more (by omega) hsn))
 .rw[Lk (by simpa using hnn)];have hlt:κ n < κ (n-1):=hor.resolve_left hnn;by_cases hgt:n > 1
  .rw[Lg hgt];refine Mm (oX hB hL (by omega) (by omega) (by omega) ?_);simp only[id];by_cases hrose:κ 0 < κ (n-1)
   .simp only[hrose,Oa,ML];exact MP (h n st id hB hn1 hn2 (S0.more (by omega) hsn))
   .simp only[hrose,Pc,Mq,MO];have hall:∀j,j<n->κ j = κ (n-1):=by intro j hk;have a1:κ 0 <= κ j:=hsn 0 j (by omega) hk;have a2:κ j <= κ (n-1):=hsn j (n-1) (by omega) (by omega);omega
    refine Mm (wpS_reverse (gz hL hn (by omega) (hB.mir (by omega)) ?_ h));refine⟨⟨λi j hij hj=>?_,λi hi=>?_,λi hi=>?_⟩,by omega,λi h1 h2=>?_,λi hi=>?_⟩
    .dsimp only;rw[Lg (by omega),Lg (by omega)];refine .inr ⟨?_,by simp only[id];omega⟩;simp only[id];rw[hall _ (by omega),hall (0+n-1-i) (by omega)]
    .dsimp only;rw[Lk (by omega)];rfl
    .dsimp only;rw[Lg (by omega)];simp only[id];omega
    .rw[show i=n by omega];rfl
    .dsimp only;rw[Lg (by omega)];simp only[id]at hlt ⊢;rw[hall (0+n-1-i) (by omega),show n+1-1=n by omega];exact hlt
  .rw[Lk hgt];have hn1':n=1:=by omega
   subst hn1';refine gz hL hn (by omega) hB ⟨⟨λi j hij hj=>by omega,λi hi=>rfl,λi hi=>hi⟩,by omega,λi h1 h2=>?_,λi hi=>?_⟩ h
   .rw[show i=1 by omega]
   .rw[show i=0 by omega];exact hlt
def qC (κ:Nat->Int)(a0:Array Qv)(st:SortSt):Prop :=
 failedOf st=none/\pendingOf st = #[(0,a0.size,0)]/\(arrOf st).size=a0.size/\∃p,(∀i,i<a0.size->(arrOf st)[i]? = a0[p i]?)/\SoS κ p a0.size
def SG.done {st:SortSt}{p:Nat->Nat}(g:SG kd a0 st p)(h:SoS κ p a0.size):qC κ a0 (setPending st ((pendingOf st).push (0,a0.size,0))) :=
 ⟨g.base.failed,by show(pendingOf st).push _=_;rw[g.base.pend];rfl,g.base.size,p,g.at_,h⟩
def rF {st:SortSt}{Q:Unit->SortSt->Prop}(hL:iF prog w A s kd a0 κ)(hB:SG kd a0 st id)(h2:2<=a0.size)(h64:a0.size<64)
  (h:∀st',failedOf st'=none->(arrOf st').size=a0.size->(∃p,(∀i,i<a0.size->(arrOf st')[i]? = a0[p i]?)/\SoS κ p a0.size)->Q () st'):wpS (model prog w) A E s sortRuns' Q st:=by
 rw[sortRuns'_eq];refine Mm (wpS_get ?_);dsimp only;have hmr:minRun' a0.size a0.size 0=a0.size:=by
  obtain⟨f,hf⟩:∃f,a0.size=f+1:=⟨a0.size-1,by omega⟩;have:minRun' (f+1) a0.size 0=a0.size:=by rw[minRun'_succ,Lg h64];rfl
  rwa [<-hf]at this
 simp only[hB.base.size,hmr];refine Mm (wpS_mono (Oz
  (I:=λx c st'=>(x=0/\c=(none,0)/\SG kd a0 st' id)\/(1<=x/\c=(none,a0.size)/\qC κ a0 st'))
  (Q:=λc st'=>c=(none,a0.size)/\qC κ a0 st') ?step ?fin (.inl ⟨rfl,rfl,hB⟩)) ?post)
 case fin =>
  rintro c st' (⟨hx,_,_⟩ | ⟨_,hc,hD⟩)
  .omega
  .exact⟨hc,hD⟩
 case step =>
  rintro x c st' _ hx (⟨rfl,rfl,hB'⟩ | ⟨hx1,rfl,hD⟩)
  .dsimp only
   rw[Lk (by omega)]
   simp only[Nat.sub_zero,Nat.min_self,Ml]
   refine Mm (vC hL (Ln _) (by omega) hB' λm st2 p2 hB2 hm1 hm2 hs2=>?_)
   dsimp only
   by_cases hlt:m<a0.size
   .rw[Lg hlt]
    refine Mm (wpS_lift (NR ⟨rfl,?_⟩))
    refine Mm (ui hL (Ln _) hm2 hB2 hs2 λst3 p3 hB3 hs3=>?_)
    simp only[Pw,Mq,MO]
    refine Mm (wpS_get ?_)
    have hb:(pendingOf st3).back? = none:=by rw[hB3.base.pend];rfl
    rw[hb]
    dsimp only
    exact Mm (wpS_modify (MP (.inr ⟨by omega,rfl,hB3.done hs3⟩)))
   .rw[Lk hlt]
    have hm:m=a0.size:=by omega
    subst hm
    refine Mm (wpS_get ?_)
    have hb:(pendingOf st2).back? = none:=by rw[hB2.base.pend];rfl
    rw[hb]
    dsimp only
    exact Mm (wpS_modify (MP (.inr ⟨by omega,rfl,hB2.done hs2⟩)))
  .dsimp only
   rw[Lg (Ln _)]
   exact MP ⟨rfl,hD⟩
 case post =>
  rintro c st' ⟨rfl,hD⟩
  dsimp only
  refine Mm (wpS_mono (Oz (I:=λ_ c st''=>st''=st'/\c=(none,())) (Q:=λc st''=>st''=st'/\c=(none,())) ?_ (λ_ _ hh=>hh) ⟨rfl,rfl⟩) ?_)
  .rintro x c st'' _ _ ⟨rfl,rfl⟩
   refine Mm (wpS_get ?_)
   rw[Lg (by rw[hD.2.1];exact Ln 1)]
   exact MP ⟨rfl,rfl⟩
  .rintro c st'' ⟨rfl,rfl⟩
   exact MP (h _ hD.1 hD.2.2.1 hD.2.2.2)
end
end L2
namespace L2
open PySem PySem.Spec PyProof.Rows PySem.W
variable {Qz:List (PU×Qi)}{params:Arguments}
section
def cdO (c:PU)(q:Str):HO:=.ext λh=>h.CodeRec (.ref c) q
def jV (H:Hp)(P:PU)(q:Str):Prop:=∃ps,H P=some (.tbl ps)/\TriplesOk ps.toList/\∀pos cv,codeAmong pos ps.toList=some cv->∃c,cv = .ref c/\H c=some (cdO c q)
def qu {q p:Pos}{c cv:PR}:∀(l:List PR),TriplesOk l->codeAmong q (l++[rawInt p.line,rawInt p.col,c])=some cv->codeAmong q l=some cv\/cv=c:=by
 intro l h e;fun_induction TriplesOk l with
 | case1 =>
  simp only[Mu,codeAmong,rawInt]at e
  split at e
  .exact .inr (Lr e).symm
  .cases e
 | case2 a b c' d e' rest ih =>
  simp only[MD,codeAmong]at e ⊢
  split
  .rename_i h1
   rw[Lg h1]at e
   exact .inl e
  .rename_i h1
   rw[Lk h1]at e
   exact ih h e
 | case3=>exact h.elim
def BMd (base:Qe)(mg:Str->Option PR):Prop:=∃bm ob,mg "__builtins__" = some (.ref bm)/\bm≠builtinsNs/\base.get? bm=some ob/\ob.cls = .type "module" /\ ob.dict=some builtinsNs/\ob.data = .plain
def Cz (P:PU)(q:Str)(H H':Hp):Prop:=H'=H\/∃ps more c,H P=some (.tbl ps)/\H c=none/\c≠P/\H'=upd (upd H P (.tbl (ps++more))) c (cdO c q)
def vc {c:PU}{q:Str}:∀h1 h2:Qe,h1.CodeRec (.ref c) q->(∀o,h1.get? c=some o->h2.get? c=some o)->h2.CodeRec (.ref c) q:=λh1 h2 ⟨c',o,vs,t,e,g,r⟩ k=>by cases e;exact⟨c,o,vs,t,rfl,k o g,r⟩
section
variable {X:Cx}{O:St}{H:Hp}{s:PV}
def Inv.pin1 {a:PU}{o:Qi}(I:Inv X Qz O H s)(ho:s.heap.get? a=some o)(hH:H a=none)(hL:a≠X.env.locals)(hf:a ∉ X.fs)(hd:∀v,o.data ≠ .cell v):Inv X ((a,o)::Qz) O H s :=
 I.pins_of λp hp=>by
  rcases Lh.1 hp with rfl | hp
  .exact⟨ho,hH,hL,hf,hd⟩
  .exact I.pin p (LA _ hp)
def Inv.pinFresh {a:PU}{o:Qi}{s0:PV}{pins0:List (PU×Qi)}{σ0:St}{H0:Hp}(I:Inv X Qz O H s)(I0:Inv X pins0 σ0 H0 s0)(ho:s.heap.get? a=some o)(h:s0.heap.objs.size<=a)(hH:H a=none)(hd:∀v,o.data ≠ .cell v):Inv X ((a,o)::Qz) O H s :=
 I.pin1 ho hH (λe=>absurd (LJ I0.lt h) (by rw[e];exact MK _)) (I0.nofs h) hd
def ve {body:Qd}{scope:Qa}{lpos:Pos}{c P:PU}{q:Str}{cl:List (Str×PU)}{Q:PR->PV->Prop}(I:Inv X Qz O H s)(hdef:defaultsOf params X.env=([],[]))(hcl:closureFor scope X.env=pure cl)
  (hcode:X.env.code = .ref c) (C:CodeHd X.base c P) (BM:BMd X.base X.mg) (T:jV H P q) (hq:X.env.qual ++ "<lambda>" = q)
  (h:∀f c' ctv H' s',Cz P q H H'->jV H' P q->H' c'=some (cdO c' q)->Inv X ((f,kla_obj "<lambda>" q params body scope cl ((X.mg "__name__").getD .none) c' ctv)::Qz) O H' s'->Q (.ref f) s') :
  Qm (model X.prog X.w) X.A (eval (.Lambda params body scope lpos) X.env) Q X.xe s:=by
 subst hq;obtain⟨ps,hP,ht,hall⟩:=T;have hP':s.heap.get? P=some (tabObj ps):=I.hok P _ hP;have hg:s.heap.Ns Qn X.mg:=I.mod.glob.keeps I.bk;obtain⟨bm,ob,b1,b2,b3,b4,b5,b6⟩:=BM;have hgP:Qn≠P:=λq=>by obtain⟨o,es,ep,e,hd,_⟩:=hg;rw[q,hP']at e;cases e;cases hd
 have hbP:bm≠P:=λq=>by have e:=I.bk _ _ b3;rw[q,hP']at e;cases e;cases b4
 have hbG:bm≠Qn:=λq=>by obtain⟨o,es,ep,e,hd,_⟩:=I.mod.glob;rw[q,e]at b3;cases b3;rw[hd]at b6;cases b6
 have hB:s.heap.BuiltinsAt X.mg P:=⟨bm,ob,b1,b2,hbG,hbP,I.bk _ _ b3,b4,b5,b6⟩;refine kla_eval hdef ?_;cases hf:codeAmong lpos ps.toList with
 | some cv =>
  obtain⟨c',rfl,hc'⟩:=hall _ _ hf;refine kla_makeFunctionHit hcl I.ok.glob hg hcode (C.keeps I.bk) hP' ht hf hB λctv h' tk hk hsz=>?_
  have I1:Inv X Qz O H { s with heap:=h'.push (kla_obj "<lambda>" (X.env.qual ++ "<lambda>") params body scope cl ((X.mg "__name__").getD .none) c' ctv),toks:=tk }:=I.kept λb o e=>Ll _ (hk b o e)
  exact h _ c' ctv H _ (.inl rfl) ⟨ps,hP,ht,hall⟩ hc' (I1.pinFresh I (LI _ rfl) hsz (I.hok.fresh hsz) (λv e=>nomatch e))
 | none =>
  refine kla_makeFunction hcl I.ok.glob hg hcode (C.keeps I.bk) hP' ht hf hgP hB λc' ctv h' tk hx hge hlt hrec htb=>?_
  have hcP:c'≠P:=λe=>absurd (LJ (Lw hP') hge) (by rw[e];exact MK _)
  have hcn:H c'=none:=I.hok.fresh hge;have hk:∀b o,b≠P->s.heap.get? b=some o->(h'.push (kla_obj "<lambda>" (X.env.qual ++ "<lambda>") params body scope cl ((X.mg "__name__").getD .none) c' ctv)).get? b=some o:=λb o hb e=>Ll _ (hx b o hb e)
  have hrec':=hrec.push (kla_obj "<lambda>" (X.env.qual ++ "<lambda>") params body scope cl ((X.mg "__name__").getD .none) c' ctv);have htb':=Ll (kla_obj "<lambda>" (X.env.qual ++ "<lambda>") params body scope cl ((X.mg "__name__").getD .none) c' ctv) htb;have hsz:s.heap.objs.size<=h'.objs.size:=LS hge (MI hlt);generalize hH':upd (upd H P (.tbl (ps ++ #[rawInt lpos.line,rawInt lpos.col,.ref c']))) c' (cdO c' (X.env.qual ++ "<lambda>"))=H';have a1:H' c'=some (cdO c' (X.env.qual ++ "<lambda>")):=by rw[<-hH'];exact d7
  have a2:H' P=some (.tbl (ps ++ #[rawInt lpos.line,rawInt lpos.col,.ref c'])):=by rw[<-hH',b9 hcP.symm];exact d7
  have a3:∀b,b≠c'->b≠P->H' b=H b:=λb h1 h2=>by rw[<-hH',b9 h1,b9 h2]
  have ne:∀b o,H b=some o->b≠c':=λb o e z=>by rw[z,hcn]at e;cases e
  generalize hh2:h'.push (kla_obj "<lambda>" (X.env.qual ++ "<lambda>") params body scope cl ((X.mg "__name__").getD .none) c' ctv)=h2 at hk hrec' htb';have un:Un X.fs [] H H' s.heap h2:=by
   refine⟨λb o e n _ _=>hk b o (λz=>by rw[z,hP]at n;cases n) e,λb o e n _ _=>⟨o.slots,hk b o (λz=>by rw[z,hP]at n;cases n) e⟩,λb o e n _=>?_,λb o e _=>?_,λb xs e=>?_,λb o u e=>?_,λb qs e=>?_⟩
   .rw[a3 b (λz=>absurd (LJ (Lw e) hge) (by rw[z];exact MK _)) λz=>by rw[z,hP]at n;cases n];exact n
   .by_cases hb:b=P
    .exact⟨_,by rw[hb];exact htb'⟩
    .exact⟨o,hk b o hb e⟩
   .rw[a3 b (ne b _ e) λz=>by rw[z,hP]at e;cases e];exact e
   .rw[a3 b (ne b _ e) λz=>by rw[z,hP]at e;cases e];exact e
   .by_cases hb:b=P
    .subst hb;rw[hP]at e;cases e;exact⟨_,a2⟩
    .exact⟨#[],by rw[a3 b (ne b _ e) hb,e];simp⟩
  have ok:HOk X.prog X.w H' h2:=by
   intro b u e;by_cases hb:b=c'
   .subst hb;rw[a1]at e;cases e;obtain⟨c2,o,vs,t,e2,g,r⟩:=id hrec';cases e2;exact⟨hrec',⟨o,g⟩,vc⟩
   .by_cases hbP':b=P
    .subst hbP';rw[a2]at e;cases e;exact htb'
    .rw[a3 b hb hbP']at e;refine(I.hok b u e).stay (λb2 u2 hc q=>hk b2 u2 ?_ q) (λb2 q=>?_) λb2 xs q=>?_
     .rcases hc with z | z
      .rw[z];exact hbP'
      .intro z2;rw[z2,hP]at z;cases z
     .rw[a3 b2 (ne b2 _ q) λz=>by rw[z,hP]at q;cases q];exact q
     .rw[a3 b2 (ne b2 _ q) λz=>by rw[z,hP]at q;cases q];exact q
  have I1:Inv X Qz O H' { s with heap:=h2,toks:=tk }:=I.un un ok;have hfn:H' h'.objs.size=none:=by rw[a3 _ (PJ hlt) λz=>absurd (LJ (Lw hP') hsz) (by rw[z];exact MK _)];exact I.hok.fresh hsz
  refine h _ c' ctv H' _ (.inr ⟨ps,_,c',hP,hcn,hcP,hH'.symm⟩) ⟨_,a2,?_,λpos cv e=>?_⟩ a1 (I1.pinFresh I (by rw[<-hh2];exact LI _ rfl) hsz hfn (λv e=>nomatch e))
  .rw[Array.toList_append];exact TriplesOk_snoc _ _ _ _ ht
  .rw[Array.toList_append]at e;rcases qu _ ht e with e | e
   .obtain⟨c2,r1,r2⟩:=hall _ _ e;refine⟨c2,r1,?_⟩;by_cases hb:c2=c'
    .subst hb;exact a1
    .rw[a3 c2 hb λz=>by rw[z,hP]at r2;cases r2];exact r2
   .exact⟨c',e,a1⟩
end
end
section
def cxL (X:Cx)(N:List Str)(q:Str)(scope:Qa)(cl:List (Str×PU))(f c:PU)(Y:PZ)(s₀:PV)(H₀:Hp):Cx where
 prog:=X.prog
 w:=X.w
 K:=X.K
 mg:=X.mg
 base:=X.base
 A:=Y.deeper (envX q scope s₀.heap.objs.size f (.ref c) cl)
 N:=N
 s₀:=s₀
 H₀:=H₀
 env:=envX q scope s₀.heap.objs.size f (.ref c) cl
 outer:=X.stack
 stack:=envX q scope s₀.heap.objs.size f (.ref c) cl::X.stack
 ex:=[]
 fn:=λ_=>false
 calm:=true
 pn:=[]
 xe:=λ_ _=>False
structure LamOk (ON:List Str) (osc:Qa) (x:Str) (N:List Str) (cap:List Nat) (scope:Qa):Prop where
 kind:scope.kind = .function
 co:scope.isCoroutine=false
 gen:scope.isGenerator=false
 nocell:∀y∈scope.names,y.2 ≠ .cell
 par:scope.names.lookup x=some .local
 first:N.head? = some x
 free:∀y∈scope.names,y.2 = .free->osc.names.lookup y.1=some .cell\/osc.names.lookup y.1=some .free
 len:N.length=1+cap.length
 capx:(cap.map λj=>ON[j]?)=(N.drop 1).map some
 capf:∀y∈N.drop 1,scope.names.lookup y=some .free
def dc (v:V)(cap:List Nat)(O:St):St:=some v::cap.map λj=>(O[j]?).join
section
variable {X:Cx}{O:St}{H:Hp}{s:PV}
def wC {Y:PZ}{E:PR->PV->Prop}{body:Qd}{scope osc:Qa}{f c:PU}{q x:Str}{cl:List (Str×PU)}{pm ctv:PR}{N:List Str}{cap:List Nat}{te:TE}{v:V}{u:PR}{R:VK}
  (I:Inv X Qz O H s) (hY:Y.frames=some X.stack) (hd:Y.handled=none) (hdp:Y.depth<recursionLimit)
  (hf:(f,kla_obj "<lambda>" q params body scope cl pm c ctv)∈X.pn++Qz) (hc:H c=some (cdO c q)) (hosc:X.env.scope=osc) (L:LamOk X.N osc x N cap scope)
  (hcl:∀{x:Str} {c:PU},cl.lookup x=some c->X.env.cells.lookup x=some c) (hhas:∀x,(x,Qw.free)∈scope.names->∃c,cl.lookup x=some c)
  (hbind:bindArgs (kla_fn "<lambda>" q params body scope cl pm (.ref c) ctv) ⟨[u],[]⟩=pure [(x,u)])
  (he:∀s H,PE (cxL X N q scope cl f c Y s H) body te) (ru:x3 v u) (h:te (dc v cap O) H R) :
  Qm (model X.prog X.w) Y (call (.ref f) [u]) (EP X Qz O R) E s:=by
 obtain⟨p1,p2,p3,p4,p5⟩:=I.pin _ hf;obtain⟨hrec,_,_⟩:=I.hok c _ hc;refine wpAny_call (kla_callFunE hdp p1 rfl L.co L.gen rfl hrec ?_);rw[hbind];refine Lo (wpAny_newFunctionEnv L.nocell (λy hy=>?_) (λh₁ hns hsb=>⟨I.nolimit.fresh _ hsb,?_⟩) L.kind)
 .have e:y=(x,u):=by simpa using hy
  rw[e];exact L.par
 show codeAny _ _ (.expr body (envX q scope s.heap.objs.size f (.ref c) cl)) _ _;have old:∀b o,s.heap.get? b=some o->h₁.get? b=some o:=λb o e=>hsb.extBut b o (LH (Lw e)) (Ll _ e)
 have noA:∀b:PU,b ∉ (cxL X N q scope cl f c Y s H).ex:=λb z=>absurd (show b∈([]:List PU) from z) (by simp)
 have IY:Inv (cxL X N q scope cl f c Y s H) [] (dc v cap O) H { s with heap:=h₁,toks:=s.toks+[(x,u)].length }:=by
  refine⟨⟨I.ok.mod,L.kind,rfl,rfl,Ln _,λx y c h1 h2=>I.ok.inj x y c (hcl h1) (hcl h2),λy hy=>?_,λx c h=>absurd (show false=true from h) LF,λ_=>hd,PZ.frames_deeper hY,.inr ⟨rfl,rfl⟩,
   λb z=>absurd z (noA b),I.bs,LS I.ok.bsz I.sz,λb _ _=>noA b,λb z=>absurd z (noA b),I.stack,I.stkFree⟩,
   rfl,I.bare,Un.kept old,⟨_,hns,λi y w e1 e2 e3=>?_⟩,λy c' e=>?_,I.hok.fresh (Ln _),λy c' e=>I.freeC y c' (hcl e),λp hp=>absurd (show p∈([]:List (PU×Qi)) from hp) (by simp),I.hok.kept old,?_⟩
  .have hy:scope.names.lookup y=some .cell\/scope.names.lookup y=some .free:=hy;rcases hy with hy | hy
   .exact absurd rfl (L.nocell _ (MJ hy))
   .exact hhas y (MJ hy)
  .cases i with
   | zero =>
    have e2':some (some v)=some (some w):=e2
    cases e2'
    have ex:y=x:=by have z:=L.first;have e1':N[0]? = some y:=e1;rw[List.head?_eq_getElem?,e1']at z;exact Lr z
    subst ex
    exact⟨u,ru,.inl ⟨L.par,by simp⟩⟩
   | succ d =>
    have e2':(cap.map λj=>(O[j]?).join)[d]? = some (some w):=e2
    rw[Lv]at e2'
    obtain⟨j,hj,hv⟩:=LK.1 e2'
    have hσ:O[j]? = some (some w):=by
     cases r:O[j]? with
     | none=>rw[r]at hv;cases hv
     | some o=>rw[r]at hv;exact MF some hv
    have e1':(N.drop 1)[d]? = some y:=by rw[List.getElem?_drop,Nat.add_comm];exact e1
    have hx:X.N[j]? = some y:=by have z:=MF (λl=>l[d]?) L.capx;simp only[Lv,hj,e1',PQ]at z;exact Lr z
    have hfr:=L.capf y (Md e1')
    have hfm:=MJ hfr
    have hok:=L.free _ hfm rfl
    rw[<-hosc]at hok
    obtain⟨m,hn,hl⟩:=I.loc
    obtain⟨u',r,l⟩:=hl j y w hx hσ (.inr hok)
    refine⟨u',r,?_⟩
    rcases l with ⟨hk,_⟩ | ⟨hk,c1,hc1,hc2⟩
    .have hk:X.env.scope.names.lookup y=some .local:=hk
     rcases hok with z | z <;> (rw[hk]at z;cases z)
    .obtain⟨c',hc'⟩:=hhas y hfm
     have:c'=c1:=Lr ((hcl hc').symm.trans hc1)
     subst this
     exact .inr ⟨.inr hfr,c',hc',hc2.keeps old⟩
  .obtain⟨w,z⟩:=I.cell y c' (hcl e);exact⟨w,z.keeps old⟩
  .show(dc v cap O).length=N.length;unfold dc;rw[Ly,Lf,L.len,Nat.add_comm]
 refine kla_codeExpr (LX (he s H [] _ _ _ _ IY h) (λuv s' hs=>?_) λe s' hs=>hs.elim);obtain⟨w,H',J,rw',qw⟩:=hs;exact⟨w,H',I.call' (ch:=[]) J.os J.base J.hok J.bare (λb hb=>nomatch hb),rw',qw⟩
end
end
variable {its vs:List PR}{ks:List V}{keys:Array PR}
section
def jJ:V->Int
 | .int i=>i
 | .bl b=>if b then 1 else 0
 | _=>0
def gg (ks:List V):Prop:=(∀k∈ks,∃i,k=V.int i)\/∀k∈ks,∃b,k=V.bl b
def Z6 (ks:List V)(i:Nat):Int:=jJ (ks.getD i .non)
def gw (ks xs ys:List V):Prop:=ys.length=xs.length/\∃p,SoS (Z6 ks) p xs.length/\∀i,i<xs.length->ys[i]? = xs[p i]?
theorem ak:∀{vs:List PR},(∀v∈vs,∃b,v = .bool b)->vs.mapM firstOfTuple'=pure (vs.map λ_=>none)
 | [],_=>by simp
 | v::vs,h=>by obtain⟨b,rfl⟩:=h v Lq;rw[Nv,show firstOfTuple' (.bool b)=pure none from rfl,ak λw hw=>h w (Le _ hw)];simp
theorem Y6:∀{vs:List PR},(∀v∈vs,∃b,v = .bool b)->vs.mapM typeOf=pure (vs.map λ_=>PR.type "bool")
 | [],_=>by simp
 | v::vs,h=>by obtain⟨b,rfl⟩:=h v Lq;rw[Nv,Y6 λw hw=>h w (Le _ hw)];show(pure (PR.type "bool") >>= λb=>pure _ >>= λbs=>pure (b::bs))=_;simp
def jO {v₁ v₂:PR}(hI:∀v∈(v₁::v₂::vs),∃b,v = .bool b):keyKind' (v₁::v₂::vs).toArray=pure oneType':=by
 rw[keyKind'_eq,List.mapM_toArray,ak hI];simp only[map_pure,pure_bind];rw[Lk (by simp),Lk (by simp)];rw[oneTypeOnly'_eq,List.mapM_toArray,Y6 hI];simp only[map_pure,pure_bind];have hall:((List.map (λ_=>PR.type "bool") (v₁::v₂::vs)).toArray.all λx=>x == PR.type "bool")=true:=by simp only[List.all_toArray,List.all_map,OV];intro _ _;rfl
 have h0:(List.map (λ_=>PR.type "bool") (v₁::v₂::vs)).toArray[0]? = some (PR.type "bool"):=by simp
 rw[h0];simp only[hall,ML,pure_bind,Ow]
theorem dR:∀{ks:List V} {us:List PR},r6 ks us->(∀k∈ks,∃i,k=V.int i)->IntsAre us (ks.map jJ)
 | _,_,.nil,_=>.nil
 | k::ks,u::us,.cons r t,h=>by obtain⟨i,rfl⟩:=h k Lq;obtain⟨t',rfl⟩:=r;exact .cons i t' (dR t λk hk=>h k (Le _ hk))
theorem il:∀{ks:List V} {us:List PR},r6 ks us->(∀k∈ks,∃b,k=V.bl b)->∀u∈us,∃b,u = .bool b
 | _,_,.nil,_,u,hu=>by simp at hu
 | k::ks,u::us,.cons r t,h,w,hw=>by
  rcases Lh.1 hw with rfl | hw
  .obtain⟨b,rfl⟩:=h k Lq;exact⟨b,r⟩
  .exact il t (λk hk=>h k (Le _ hk)) w hw
def yC (r:r6 ks keys.toList)(h:gg ks)(h2:2<=keys.size):keyKind' keys=pure oneType':=by
 obtain⟨v₁,v₂,rest,e⟩:∃v₁ v₂ rest,keys.toList=v₁::v₂::rest:=by
  have hl:2<=keys.toList.length:=by rw[Na];exact h2
  cases q:keys.toList with
  | nil=>rw[q]at hl;simp at hl
  | cons v₁ r =>
   cases r with
   | nil=>rw[q]at hl;simp at hl
   | cons v₂ rest=>exact⟨v₁,v₂,rest,rfl⟩
 have ek:keys=(v₁::v₂::rest).toArray:=by rw[<-e,Array.toArray_toList]
 rw[e]at r;rw[ek];rcases h with h | h
 .exact keyKind_ints (dR r h)
 .exact jO (il r h)
def EL {prog:PX}{w:PY}{A:PZ}{s:PV}(r:r6 ks keys.toList)(h:gg ks):iF prog w A s oneType' (keys.zip its.toArray) (Z6 ks):=by
 have one:∀(i:Nat) (x:Qv),(keys.zip its.toArray)[i]? = some x->∃k,ks[i]? = some k/\x3 k x.1:=λi x e=>by
  rw[<-Mx,ksk_zip,Nw]at e;cases q:ks[i]? with
  | none =>rw[r.none_of q]at e;exact absurd e.1 (by simp)
  | some k =>obtain⟨u,h1,h2⟩:=r.get q;rw[h1]at e;exact⟨k,rfl,by rw[<-Lr e.1];exact h2⟩
 intro i j x y _ ex ey E Q hq;rw[keyLt'_oneType];obtain⟨k1,a1,r1⟩:=one i x ex;obtain⟨k2,a2,r2⟩:=one j y ey;have n1:Z6 ks i=jJ k1:=by unfold Z6;rw[LG,a1];rfl
 have n2:Z6 ks j=jJ k2:=by unfold Z6;rw[LG,a2];rfl
 rw[n1,n2]at hq;obtain⟨x1,x2⟩:=x;obtain⟨y1,y2⟩:=y;rcases h with h | h
 .obtain⟨m,rfl⟩:=h k1 (Md a1);obtain⟨n,rfl⟩:=h k2 (Md a2);obtain⟨t,e⟩:=r1;obtain⟨t',e'⟩:=r2;dsimp only at e e';subst e;subst e';exact oneLt_int hq
 .obtain⟨m,rfl⟩:=h k1 (Md a1);obtain⟨n,rfl⟩:=h k2 (Md a2);have e:x1 = .bool m:=r1;have e':y1 = .bool n:=r2;subst e;subst e';exact pX hq
section
variable {X:Cx}{O:St}{H:Hp}{s:PV}
def New (X:Cx)(Qz:List (PU×Qi))(b:PU):Prop:=X.s₀.heap.objs.size<=b/\b≠X.env.locals/\(∀x c,X.env.cells.lookup x=some c->c≠b)/\(∀p∈X.pn++Qz,p.1≠b)/\b ∉ X.fs
def Inv.new {b:PU}(I:Inv X Qz O H s)(h:s.heap.objs.size<=b):New X Qz b:=by
 have ne:∀{c:PU} {o:Qi},s.heap.get? c=some o->c≠b:=λe z=>absurd (LJ (Lw e) h) (by rw[z];exact MK _)
 refine⟨LS I.sz h,λz=>absurd (LJ I.lt h) (by rw[z];exact MK _),λx c e=>?_,λp hp=>ne (I.pin p hp).1,I.nofs h⟩;obtain⟨v,o,ho,_⟩:=I.cell x c e;exact ne ho
def Inv.turn1 {b:PU}{h':Qe}{t':Nat}(I:Inv X Qz O H s)(hb:New X Qz b)(hn:H b=none)(k:∀c o,c≠b->s.heap.get? c=some o->h'.get? c=some o):Inv X Qz O H { s with heap:=h',toks:=t' } :=
 I.turned k hn hb.2.1 (.inr hb.1) hb.2.2.1 hb.2.2.2.1
def Inv.relay {a k:PU}{ys:List V}{us:List PR}{n:Nat}{h':Qe}{t':Nat}(I:Inv X Qz O H s)(ha:New X Qz a)(hk:New X Qz k)(Ha:H a=none)(Hk:H k=none)
  (hs:∀c o,c≠a->c≠k->s.heap.get? c=some o->h'.get? c=some o) (hth:∃o,h'.get? k=some o) (hz:ys.length<=Qg) (r:r6 ys us) (ho:h'.get? a=some { cls:=.type "list",data:=.seq us.toArray n }) :
  Inv X Qz O (upd H a (.lst ys)) { s with heap:=h',toks:=t' }:=by
 have nin:∀{b:PU},b ∉ [a,k]->b≠a/\b≠k:=λhb=>⟨λz=>hb (by simp[z]),λz=>hb (by simp[z])⟩
 have nu:∀{b:PU} {u:HO},H b=some u->b≠a/\b≠k:=λe=>⟨λz=>(by rw[z,Ha]at e;cases e),λz=>(by rw[z,Hk]at e;cases e)⟩
 refine I.step (g':=s.gens) (d':=s.drawn) (ch:=[a,k]) (λb hb=>?_) (λb o _ _ hc e _=>hs b o (nin hc).1 (nin hc).2 e) (λb o _ _ hc e _=>⟨o.slots,hs b o (nin hc).1 (nin hc).2 e⟩) (λb o hc _ n=>by rw[b9 (nin hc).1];exact n)
  (λb o hc e=>⟨o,hs b o (nin hc).1 (nin hc).2 e⟩) (λb xs e=>by rw[b9 (nu e).1];exact e) (λb o u e=>by rw[b9 (nu e).1];exact e) (λb ps e=>⟨#[],by rw[b9 (nu e).1,e];simp⟩) (λm hm=>?_) (λb u e=>?_) I.bare
 .have hb':b=a\/b=k:=by simpa using hb
  rcases hb' with rfl | rfl
  .exact⟨.inr ha.1,ha.2.1,ha.2.2.1,ha.2.2.2.1⟩
  .exact⟨.inr hk.1,hk.2.1,hk.2.2.1,hk.2.2.2.1⟩
 .obtain⟨o,es,ep,ho',r'⟩:=hm;exact⟨o,es,ep,hs _ o ha.2.1.symm hk.2.1.symm ho',r'⟩
 .by_cases hb:b=a
  .subst hb;rw[d7]at e;cases e;exact⟨hz,us,n,r,ho⟩
  .rw[b9 hb]at e;refine(I.hok b u e).stay (λc v hc q=>?_) (λc q=>by rw[b9 (nu q).1];exact q) λc xs q=>by rw[b9 (nu q).1];exact q
   rcases hc with rfl | z
   .exact hs c v (nu e).1 (nu e).2 q
   .exact hs c v (nu z).1 (nu z).2 q
end
end
variable {J:Nat->Hp->Prop}
section
def atl {α:Type}(a:Array α):a.toList.length=a.size:=Na
section
variable {X:Cx}{O:St}{H:Hp}{s:PV}{Y:PZ}{E:PR->PV->Prop}{P:PySem.Fin->PV->Prop}{a kS:PU}{xs:List V}{e1:Nat}
def rO {e:Nat}{st:SortSt}{p:Nat->Nat}(I:Inv X ((kS,seqObj "list" keys e)::(a,seqObj "list" #[] e1)::Qz) O H s)(ha:New X Qz a)(hk:New X Qz kS)(hka:kS≠a)
  (rx:r6 xs its) (hkl:keys.size<=64) (h64:its.length<64) (hfl:failedOf st=none) (hsz:(arrOf st).size=its.length) (hp:∀i,i<its.length->(arrOf st)[i]? = (keys.zip its.toArray)[p i]?) (hS:SoS (Z6 ks) p its.length) (hke:keys.size=its.length)
  (h:∀s' ys,gw ks xs ys->Inv X Qz O (upd H a (.lst ys)) s'->P (.done (.ret .none)) s') :
  Qm (model X.prog X.w) Y (ksk_tail a false e1 (.ref kS) st) P E s:=by
 obtain⟨nk,Hk,_⟩:=I.pin (kS,seqObj "list" keys e) (LA _ (.head _));obtain⟨na,Ha,_⟩:=I.pin (a,seqObj "list" #[] e1) (LA _ (.tail _ (.head _)));have I0:Inv X Qz O H s:=I.pins_of λp hp=>I.pin p (LA _ (.tail _ (.tail _ hp)))
 have s1:=Nq s.heap kS (Qi.mapSeq λ_=>(#[]:Array PR));have na1:(s.heap.update kS (Qi.mapSeq λ_=>(#[]:Array PR))).get? a=some (seqObj "list" #[] e1):=(s1.2 a hka.symm).trans na;have s2:=Nq (s.heap.update kS (Qi.mapSeq λ_=>(#[]:Array PR))) a (Qi.mapSeq λ_=>(arrOf st).map (·.2));obtain⟨c2,hc2⟩:∃c2,((s.heap.update kS (Qi.mapSeq λ_=>(#[]:Array PR))).update a (Qi.mapSeq λ_=>(arrOf st).map (·.2))).get? a=some (seqObj "list" ((arrOf st).map (·.2)) c2) :=
  ⟨_,Om na1 λ_=>(arrOf st).map (·.2)⟩
 have hout:((arrOf st).map (·.2)).size=its.length:=by rw[Pj];exact hsz
 unfold ksk_tail;try dsimp only
 refine Ld (NW nk rfl ?_ (by rw[LV];omega) (Mb _));refine Ld (wpAny_letGo ?_);refine Ld (seqEpoch_at na1 rfl ?_);refine Ld (NW na1 rfl ?_ (Mb _) (by rw[Lk LF,hout,LV];omega));rw[hfl];simp only[PF,Mq,MO];have xl:xs.length=its.length:=rx.length;have outv:∀i,i<its.length->((arrOf st).map (·.2)).toList[i]? = its[p i]?:=λi hi=>by rw[Mx,Array.getElem?_map,hp i hi,<-Mx,ksk_zip];have hpi:=hS.2.2 i hi;have e1:its[p i]? = some (its[p i]):=Lz hpi;have e2:keys.toList[p i]? = some (keys.toList[p i]'(by rw[atl keys,hke];exact hpi)):=Lz _;rw[show(keys.toList.zip its)[p i]? = some (keys.toList[p i]'(by rw[atl keys,hke];exact hpi),its[p i]) from Nw.2 ⟨e2,e1⟩,e1];rfl
 have ysl:((List.range its.length).map λi=>xs.getD (p i) .non).length=its.length:=by rw[Lf,LY]
 have ysg:∀i,i<its.length->((List.range its.length).map λi=>xs.getD (p i) .non)[i]? = xs[p i]?:=λi hi=>by rw[Lv,ND hi];have hpi:=hS.2.2 i hi;show some (xs.getD (p i) .non)=_;rw[LG,Lz (by omega)];rfl
 refine Lo (h _ ((List.range its.length).map λi=>xs.getD (p i) .non) ⟨by rw[ysl,xl],p,by rw[xl];exact hS,λi hi=>ysg i (by omega)⟩ (I0.relay (k:=kS) (n:=c2) ha hk Ha Hk (λc o h1 h2 e=>(s2.2 c h1).trans ((s1.2 c h2).trans e)) ?_ (by rw[ysl,LV];omega)
  (us:=((arrOf st).map (·.2)).toList) ?_ (by rw[hc2])))
 .obtain⟨c3,hc3⟩:∃c3,(s.heap.update kS (Qi.mapSeq λ_=>(#[]:Array PR))).get? kS=some (seqObj "list" #[] c3):=⟨_,Om nk λ_=>(#[]:Array PR)⟩;exact⟨_,(s2.2 kS hka).trans hc3⟩
 .refine Y2 (by rw[ysl,atl ((arrOf st).map (·.2)),hout]) λi x u hx hu=>?_
  have hi:i<its.length:=by have:=(Lj.1 hx).1;rwa [ysl]at this
  rw[ysg i hi]at hx;rw[outv i hi]at hu;obtain⟨u',h1,h2⟩:=rx.get hx;rw[h1]at hu;rw[<-Lr hu];exact h2
def DC {e:Nat}(I:Inv X ((kS,seqObj "list" keys e)::(a,seqObj "list" #[] e1)::Qz) O H s)(ha:New X Qz a)(hk:New X Qz kS)(hka:kS≠a)
  (rx:r6 xs its) (rk:r6 ks keys.toList) (hl:ks.length=xs.length) (hko:gg ks) (h64:its.length<64)
  (h:∀s' ys,gw ks xs ys->Inv X Qz O (upd H a (.lst ys)) s'->P (.done (.ret .none)) s') :
  Qm (model X.prog X.w) Y (ksk_end a false its.toArray e1 (.ref kS) keys) P E s:=by
 have xl:xs.length=its.length:=rx.length;have hke:keys.size=its.length:=by have:=rk.length;rw[atl keys]at this;omega
 have hzs:(keys.zip its.toArray).size=its.length:=by rw[Array.size_zip,hke,Ls,Nat.min_self]
 unfold ksk_end;simp only[Mq,MO];by_cases h2:its.toArray.size<2
 .rw[Lg h2,Lg h2];refine Ld (Lo ?_);rw[StateT.run_pure];refine Ld (Lo ?_);try dsimp only
  rw[Ls]at h2;refine rO (st:=SortSt.mk' general' (keys.zip its.toArray) #[] 7 none) (p:=id) I ha hk hka rx (by omega) h64 rfl hzs (λi _=>rfl) ⟨λi j h1 h3=>by omega,λi _=>rfl,λi hi=>hi⟩ hke h
 .rw[Lk h2,Lk h2];rw[Ls]at h2;rw[yC rk hko (by omega)];refine Ld (Lo ?_);refine Ld (LX (rF (a0:=keys.zip its.toArray) (κ:=Z6 ks) (st:=SortSt.mk' oneType' (keys.zip its.toArray) #[] 7 none)
   (Q:=λ_ st'=>failedOf st'=none/\(arrOf st').size=(keys.zip its.toArray).size/\∃p,(∀i,i<(keys.zip its.toArray).size->(arrOf st')[i]? = (keys.zip its.toArray)[p i]?)/\SoS (Z6 ks) p (keys.zip its.toArray).size)
   (EL rk hko) ⟨⟨rfl,rfl,rfl,rfl⟩,λi j _ _ e=>e,λi _=>rfl,λi hi=>hi⟩ (by rw[hzs];omega) (by rw[hzs];exact h64) λst' a1 a2 a3=>⟨a1,a2,a3⟩) ?_ λ_ _ e=>e)
  rintro ⟨⟨⟩,st'⟩ s' ⟨rfl,hf,hsz,p,hp,hS⟩;try dsimp only
  rw[hzs]at hsz hp hS;exact rO I ha hk hka rx (by omega) h64 hf hsz hp hS hke h
def zL {f:PU}(I:Inv X ((kS,seqObj "list" #[] 0)::(a,seqObj "list" #[] e1)::Qz) O H s)(ha:New X Qz a)(hk:New X Qz kS)(hka:kS≠a)
  (rx:r6 xs its) (hl:ks.length=xs.length) (hko:gg ks) (h64:its.length<64) (j0:J 0 H)
  (turn:∀(i:Nat) (v:V) (u:PR) (pn:List (PU×Qi)) (H':Hp) (s':PV),xs[i]? = some v->x3 v u->J i H'->Inv X (pn++Qz) O H' s' ->
   Qm (model X.prog X.w) Y (call (.ref f) [u]) (EP X (pn++Qz) O λk H2=>ks[i]? = some k/\J (i+1) H2) (λ_ _=>False) s')
  (h:∀s' H' ys,J xs.length H'->H' a=none->gw ks xs ys->Inv X Qz O (upd H' a (.lst ys)) s'->P (.done (.ret .none)) s') :
  Qm (model X.prog X.w) Y (ksk_rest a (.ref f) false its.toArray e1 (.ref kS)) P E s:=by
 have xl:xs.length=its.length:=rx.length;have hk2:New X ((a,seqObj "list" #[] e1)::Qz) kS:=⟨hk.1,hk.2.1,hk.2.2.1,λp hp=>by
  rcases Li.1 hp with z | z
  .exact hk.2.2.2.1 p (OX _ z)
  .rcases Lh.1 z with rfl | z
   .exact hka.symm
   .exact hk.2.2.2.1 p (LA _ z),hk.2.2.2.2⟩
 unfold ksk_rest;refine Ld (NR ?_);first
  | rw[List.forIn_toArray]
  | (rw[<-Array.forIn_toList];simp only[List.toList_toArray])
  | rw[<-Array.forIn_toList]
 refine Ld (ksk_fold (λi s'=>∃H' kA e,Inv X ((kS,seqObj "list" kA e)::(a,seqObj "list" #[] e1)::Qz) O H' s'/\J i H'/\r6 (ks.take i) kA.toList) its 0 s ⟨H,#[],0,I,j0,by simpa using Paired.nil⟩ ?step ?done);case step =>
  rintro j x s' hx ⟨H',kA,e,I',hJ,hv⟩
  simp only[Ml]at hJ hv ⊢
  have hj:j<its.length:=(Lj.1 hx).1
  obtain⟨v,hxv⟩:∃v,xs[j]? = some v:=⟨_,Lz (by omega)⟩
  obtain⟨u,hu,ru⟩:=rx.get hxv
  rw[hx]at hu
  cases hu
  have hz:kA.size<=its.length:=by have h1:=hv.length;rw[atl kA,Ms]at h1;omega
  refine Ld (wpAny_attempt (LX (turn j v x [(kS,seqObj "list" kA e),(a,seqObj "list" #[] e1)] H' s' hxv ru hJ I') (λkv s'' he=>?_) λ_ _ hF=>hF.elim))
  obtain⟨kk,H2,I2,rk,hkk,hJ2⟩:=he
  try dsimp only
  obtain⟨nk,Hk,_⟩:=I2.pin (kS,seqObj "list" kA e) (LA _ (.head _))
  have I3:Inv X ((a,seqObj "list" #[] e1)::Qz) O H2 s'':=I2.pins_of λp hp=>I2.pin p (LA _ (.tail _ hp))
  have s1:=Nq s''.heap kS (Qi.mapSeq (·.push kv))
  obtain⟨c2,hc2⟩:∃c2,(s''.heap.update kS (Qi.mapSeq (·.push kv))).get? kS=some (seqObj "list" (kA.push kv) c2):=⟨_,Om nk (·.push kv)⟩
  refine Ld (NW nk rfl ?_ (by rw[LV];omega) (LS (Nat.le_of_eq (Array.size_push ..)) (by rw[LV];omega)))
  have I4:=I3.turn1 (h':=s''.heap.update kS (Qi.mapSeq (·.push kv))) (t':=s''.toks) hk2 Hk λc o hc e=>(s1.2 c hc).trans e
  have ek:ks.take (j+1)=ks.take j++[kk]:=by rw[OM,hkk];simp
  have ea:(kA.push kv).toList=kA.toList++[kv]:=by simp
  exact Lo ⟨rfl,H2,kA.push kv,c2,I4.pin1 hc2 Hk hk.2.1 hk.2.2.2.2 (λv e=>nomatch e),hJ2,by rw[ea,ek];exact hv.append (.cons rk .nil)⟩
 case done =>
  rintro s' ⟨H',kA,e,I',hJ,hv⟩
  have e3:ks.take (0+its.length)=ks:=Mj (by omega)
  rw[e3]at hv
  rw[Ml,<-xl]at hJ
  obtain⟨nk,Hk,_⟩:=I'.pin (kS,seqObj "list" kA e) (LA _ (.head _))
  obtain⟨_,Ha,_⟩:=I'.pin (a,seqObj "list" #[] e1) (LA _ (.tail _ (.head _)))
  try dsimp only
  refine Ld (listItems_at nk rfl ?_)
  exact DC I' ha hk hka rx hv hl hko h64 λs2 ys o J2=>h s2 H' ys hJ Ha o J2
end
end
section
section
variable {X:Cx}{O:St}{H:Hp}{s:PV}{Y:PZ}{E:PR->PV->Prop}{P:PySem.Fin->PV->Prop}{a:PU}{xs:List V}
def yQ {f:PU}{n:Nat}(I:Inv X Qz O H s)(ho:s.heap.get? a=some (seqObj "list" its.toArray n))(ha:New X Qz a)(Ha:H a=none)
  (rx:r6 xs its) (hl:ks.length=xs.length) (hko:gg ks) (h64:its.length<64) (j0:J 0 H)
  (turn:∀(i:Nat) (v:V) (u:PR) (pn:List (PU×Qi)) (H':Hp) (s':PV),xs[i]? = some v->x3 v u->J i H'->Inv X (pn++Qz) O H' s' ->
   Qm (model X.prog X.w) Y (call (.ref f) [u]) (EP X (pn++Qz) O λk H2=>ks[i]? = some k/\J (i+1) H2) (λ_ _=>False) s')
  (h:∀s' H' ys,J xs.length H'->H' a=none->gw ks xs ys->Inv X Qz O (upd H' a (.lst ys)) s'->P (.done (.ret .none)) s') :
  Qm (model X.prog X.w) Y (ksk_tree a (.ref f) false) P E s:=by
 have hlt:a<s.heap.objs.size:=Lw ho;have s1:=Nq s.heap a (Qi.mapSeq λ_=>(#[]:Array PR));obtain⟨e1,ho1⟩:∃e1,(s.heap.update a (Qi.mapSeq λ_=>(#[]:Array PR))).get? a=some (seqObj "list" #[] e1):=⟨_,Om ho λ_=>#[]⟩;have hkS:((s.heap.update a (Qi.mapSeq λ_=>(#[]:Array PR))).push (seqObj "tuple" its.toArray 0)).objs.size=s.heap.objs.size+1:=by rw[size_push',Of]
 have hz:s.heap.objs.size<=((s.heap.update a (Qi.mapSeq λ_=>(#[]:Array PR))).push (seqObj "tuple" its.toArray 0)).objs.size:=by rw[hkS];exact NS _
 unfold ksk_tree;refine Ld (listItems_at ho rfl ?_);refine Ld (NW ho rfl ?_ (by rw[Ls,LV];omega) (Mb _));refine Ld (seqEpoch_at ho1 rfl ?_);refine Ld (wpAny_newTuple ?_ (by show its.length<=_;rw[LV];omega));refine Ld (Px ?_ (Mb _));refine MW ?_;have I1:Inv X Qz O H { s with heap:=((s.heap.update a (Qi.mapSeq λ_=>(#[]:Array PR))).push (seqObj "tuple" its.toArray 0)).push (seqObj "list" #[] 0),toks:=s.toks } :=
  I.turn1 ha Ha λc o hc e=>Ll _ (Ll _ ((s1.2 c hc).trans e))
 have hk:=I.new hz;have Hk:=I.hok.fresh hz;have hka:((s.heap.update a (Qi.mapSeq λ_=>(#[]:Array PR))).push (seqObj "tuple" its.toArray 0)).objs.size≠a:=by rw[hkS];exact PJ (Nn hlt)
 have I2:=I1.pin1 (a:=a) (o:=seqObj "list" #[] e1) (Ll _ (Ll _ ho1)) Ha ha.2.1 ha.2.2.2.2 (λv e=>nomatch e);have I3:=I2.pin1 (a:=((s.heap.update a (Qi.mapSeq λ_=>(#[]:Array PR))).push (seqObj "tuple" its.toArray 0)).objs.size) (o:=seqObj "list" #[] 0) (LI _ rfl) Hk hk.2.1 hk.2.2.2.2 (λv e=>nomatch e);exact zL I3 ha hk hka rx hl hko h64 j0 turn h
def uh {l f:PU}{Q:PR->PV->Prop}(I:Inv X Qz O H s)(hl':s.heap.IsList l its.toArray)
  (rx:r6 xs its) (hl:ks.length=xs.length) (hko:gg ks) (h64:its.length<64) (j0:J 0 H)
  (turn:∀(i:Nat) (v:V) (u:PR) (pn:List (PU×Qi)) (H':Hp) (s':PV),xs[i]? = some v->x3 v u->J i H'->Inv X (pn++Qz) O H' s' ->
   Qm (model X.prog X.w) X.A.in1.in1 (call (.ref f) [u]) (EP X (pn++Qz) O λk H2=>ks[i]? = some k/\J (i+1) H2) (λ_ _=>False) s')
  (h:∀a s' H' ys,J xs.length H'->H' a=none->gw ks xs ys->Inv X Qz O (upd H' a (.lst ys)) s'->Q (.ref a) s') :
  Qm (model X.prog X.w) X.A (call (.builtin "sorted") [.ref l] [(Str.ofString "key",.ref f)]) Q E s:=by
 refine call_function_entry_kw kind_sorted plain_sorted entry_sorted (ksk_s1 _ _) ?_;unfold Builtin.«sorted»;refine Ld (m:=checkCount "sorted" 1 1 _) (Lo ?_);refine Ld (collect_list hl' ?_ (by rw[LV];omega));refine Ld (Px ?_ (by rw[LV];omega));have hsz:((s.heap.push (seqObj "list" #[] 0)).update s.heap.objs.size (Qi.mapSeq (· ++ its.toArray))).objs.size=s.heap.objs.size+1:=by rw[Of,size_push']
 have hoL:(((s.heap.push (seqObj "list" #[] 0)).update s.heap.objs.size (Qi.mapSeq (· ++ its.toArray))).push (seqObj "list" its.toArray 0)).get? (s.heap.objs.size+1)=some (seqObj "list" its.toArray 0):=by rw[<-hsz];exact LI _ rfl
 have keep:∀b o,s.heap.get? b=some o->(((s.heap.push (seqObj "list" #[] 0)).update s.heap.objs.size (Qi.mapSeq (· ++ its.toArray))).push (seqObj "list" its.toArray 0)).get? b=some o:=λb o q=>by have hlt:b<s.heap.objs.size:=Lw q;rw[NP _ _ _ (by rw[hsz];exact LH (Nn hlt)),Qe.get?_update_ne _ _ _ _ (LH hlt),NP _ _ _ (LH hlt)];exact q
 show Qm _ _ _ _ _ { s with heap:=((s.heap.push (seqObj "list" #[] 0)).update s.heap.objs.size (Qi.mapSeq (· ++ its.toArray))).push (seqObj "list" its.toArray 0) };rw[hsz];refine Ld (MW (wpAny_call_entry_kw slot_list_sort ⟨_,hoL,rfl⟩ entry_list_sort ?body (ksk_l1 _ _)));case body =>
  have ht':=ksk_t1 f (s.heap.objs.size+1)
  show Qm (model X.prog X.w) X.A.in1.in1 (Builtin.«list.sort» ⟨[.ref (s.heap.objs.size+1)],[(Str.ofString "key",.ref f)]⟩) _ _ _
  rw[ht']
  have I1:Inv X Qz O H { s with heap:=((s.heap.push (seqObj "list" #[] 0)).update s.heap.objs.size (Qi.mapSeq (· ++ its.toArray))).push (seqObj "list" its.toArray 0),toks:=s.toks }:=I.kept keep
  refine yQ I1 hoL (I.new (NS _)) (I.hok.fresh (NS _)) rx hl hko h64 j0 turn λs' H' ys hJ Ha o I'=>⟨_,rfl,?_⟩
  exact Lo ⟨_,rfl,h _ s' H' ys hJ Ha o I'⟩
end
end
section
def tSK (K:Frag)(P:PU)(q:Str)(cap:List Nat)(ta:TA)(te:TE):TE:=λO H Q=>ta O H λvs H1=>∃l xs,vs=[.ref l]/\SqL K H1 l xs/\xs.length<64/\jV H1 P q /\
 ∀H2,Cz P q H1 H2->jV H2 P q->∀c,H2 c=some (cdO c q)->∃(J:Nat->Hp->Prop) (ks:List V),ks.length=xs.length/\gg ks/\SqL K H2 l xs/\J 0 H2/\(∀i H',J i H'->H' c=some (cdO c q)) /\
  (∀i v H',xs[i]? = some v->J i H'->te (dc v cap O) H' λk H3=>ks[i]? = some k/\J (i+1) H3) /\
  ∀a H' ys,J xs.length H'->H' a=none->gw ks xs ys->Q (.ref a) (upd H' a (.lst ys))
def Aw {M:Model}{A:PZ}{E:PR->PV->Prop}{s:PV}{env:Qj}{x:Str}{p pos:Pos}{args:List Qd}{kws:List Ql}{Q:PR->PV->Prop}
  (h:Qm M A (eval (.Name x p) env) (λf s₁=>Qm M A (callWith pos f [] (Qk pos (Qh args env)) (Qx pos (Qy kws env))) Q E s₁) E s):Qm M A (eval (.Call (.Name x p) args kws pos) env) Q E s:=by rw[show eval (.Call (.Name x p) args kws pos) env=(do callWith pos (<-eval (.Name x p) env) [] (Qk pos (Qh args env)) (Qx pos (Qy kws env))) from rfl];exact Ld h
def DU {X:Cx}{e:Qd}{body:Qd}{scope osc:Qa}{p pos lpos kp:Pos}{c P:PU}{q x:Str}{N:List Str}{cap:List Nat}{ta:TA}{te:TE}{k:Nat}
  (hg:Gl X "sorted") (hm:X.mg "sorted" = none) (hr:Room k X.A) (hc:X.calm=true) (ha:PA X [e] ta) (hdef:defaultsOf params X.env=([],[])) (hosc:X.env.scope=osc) (L:LamOk X.N osc x N cap scope)
  (hcode:X.env.code = .ref c) (C:CodeHd X.base c P) (BM:BMd X.base X.mg) (hq:X.env.qual ++ "<lambda>" = q)
  (hbind:∀(cl:List (Str×PU)) (pm:PR) (c':PU) (ctv u:PR),bindArgs (kla_fn "<lambda>" q params body scope cl pm (.ref c') ctv) ⟨[u],[]⟩=pure [(x,u)])
  (he:∀cl f c' Y s H,PE (cxL X N q scope cl f c' Y s H) body te) (hs:Qh [e] X.env=[(false,eval e X.env)]:=by rfl) :
  PE X (.Call (.Name "sorted" p) [e] [⟨some "key",.Lambda params body scope lpos,kp⟩] pos) (tSK X.K P q cap ta te):=by
 intro Qz s O H Q I h;have hcell:∀y∈scope.names,y.2 = .free->∃c,X.env.cells.lookup y.1=some c:=λy hy hk=>I.ok.has y.1 (by show X.env.scope.names.lookup y.1=_\/X.env.scope.names.lookup y.1=_;rw[hosc];exact L.free y hy hk)
 walk_at "ka"
 generalize K9 f scope.names []=cl at hclos hcl hhas;refine Aw (dq I hg hm (by decide +kernel:Qq "sorted" = some (.builtin "sorted")) (callWith_kw (kws:=[⟨some "key",.Lambda params body scope lpos,kp⟩]) (thn (ha pos Qz s O H _ I h) λus s1 ⟨vs,H1,I1,r1,q1⟩=>?_) (by rw[hs];rfl) (by rw[hs];rfl)));obtain⟨l,xs,e0,hq0,h64,hT,q2⟩:=q1;subst e0;obtain⟨u,rfl,ru⟩:=Q9 r1;cases ru;refine kws_cons (ve I1 hdef hclos hcode C BM hT hq λf c' ctv H2 s2 gr hT2 hc2 I2=>kws_nil ?_);obtain⟨J,ks,hlk,hko,hq2,j0,jc,turn,fin⟩:=q2 H2 gr hT2 c' hc2;obtain⟨its,rv,pl,hz⟩:=I2.list hq2;have xl:xs.length=its.length:=rv.length;show Qm (model X.prog X.w) X.A (call (.builtin "sorted") [.ref l] [(Str.ofString "key",.ref f)]) _ X.xe s2;refine uh I2 pl.isList rv hlk hko (by omega) j0 (λi v u pn H' s' hx r hJ I'=>?_) λa s' H' ys hJ Ha o I'=>?_
 .exact wC I' I.ok.frames (I.ok.hd hc) (by have:=hr.dp;show X.A.depth<_;omega) (LA _ (LA _ (.head _))) (jc i H' hJ) hosc L hcl hhas (hbind _ _ _ _ _) (λs H=>he _ _ _ _ s H) r (turn i v H' hx hJ)
 .exact⟨.ref a,_,I'.pins_of (λp hp=>I'.pin p (LA _ (.tail _ hp))),rfl,fin a H' ys hJ Ha o⟩
end
variable {kd:SortKind}{κ:Nat->Int}
section
section
variable {prog:PX}{w:PY}{A:PZ}{E:PR->PV->Prop}{s:PV}
def lq {a:PU}{n:Nat}{P:PySem.Fin->PV->Prop}(ho:s.heap.get? a=some (seqObj "list" vs.toArray n))(h64:vs.length<64)
  (hkind:2<=vs.length->∀(h':Qe) (Q:SortKind->PV->Prop),(∀b o,b≠a->s.heap.get? b=some o->h'.get? b=some o)->Q kd { s with heap:=h' }->Qm (model prog w) A (keyKind' vs.toArray) Q E { s with heap:=h' })
  (hlt:∀h':Qe,(∀b o,b≠a->s.heap.get? b=some o->h'.get? b=some o)->iF prog w A { s with heap:=h' } kd (pairsOf vs) κ)
  (h:∀(out:Array PR) (p:Nat->Nat),out.size=vs.length->(∀i,i<vs.length->out.toList[i]? = vs[p i]?)->SoS κ p vs.length->P (.done (.ret .none)) { s with heap:=sortedHeap s.heap a vs out }) :
  Qm (model prog w) A (Builtin.«list.sort» ⟨[.ref a],[]⟩) P E s:=by
 rw[list_sort_plain];have ha:a<s.heap.objs.size:=Lw ho;refine Ld (listItems_at ho rfl ?_);refine Ld (NW ho rfl ?_ (by rw[Ls,LV];omega) (Mb _));obtain⟨e1,ho1⟩:∃e1,(s.heap.update a (Qi.mapSeq λ_=>#[])).get? a=some (seqObj "list" #[] e1):=⟨_,Om ho (λ_=>#[])⟩;refine Ld (seqEpoch_at ho1 rfl ?_);refine Ld (wpAny_newTuple ?_ (by show vs.length<=_;rw[LV];omega));refine Ld (Px ?_ (Mb _));refine MW ?_;have ho6:(((s.heap.update a (Qi.mapSeq λ_=>#[])).push (seqObj "tuple" vs.toArray 0)).push (seqObj "list" #[] 0)).get? a=some (seqObj "list" #[] e1):=by rw[NP _ _ _ (by rw[size_push',Of];exact LH (Nn ha)),NP _ _ _ (by rw[Of];exact LH ha)];exact ho1
 have s1:=Nq s.heap a (Qi.mapSeq λ_=>(#[]:Array PR));have kept:∀b o,b≠a->s.heap.get? b=some o->(((s.heap.update a (Qi.mapSeq λ_=>#[])).push (seqObj "tuple" vs.toArray 0)).push (seqObj "list" #[] 0)).get? b=some o:=λb o hb e=>Ll _ (Ll _ ((s1.2 b hb).trans e))
 show Qm (model prog w) A _ P E { s with heap:=((s.heap.update a (Qi.mapSeq λ_=>#[])).push (seqObj "tuple" vs.toArray 0)).push (seqObj "list" #[] 0) };dsimp only;have hsz:vs.toArray.size=vs.length:=by simp
 have fin:∀(st':SortSt) (p:Nat->Nat),(arrOf st').size=vs.length->(∀i,i<vs.length->(arrOf st')[i]? = (pairsOf vs)[p i]?)->SoS κ p vs.length->P (.done (.ret .none)) { s with heap:=sortedHeap s.heap a vs ((arrOf st').map (·.2)) }:=by intro st' p hz hp hS;refine h _ p (by rw[Pj];exact hz) (λi hi=>?_) hS;rw[Mx,Array.getElem?_map,hp i hi,<-Mx,pairsOf_toList];have hpi:=hS.2.2 i hi;have e1:vs[p i]? = some vs[p i]:=Lz hpi;rw[show(vs.zip vs)[p i]? = some (vs[p i],vs[p i]) from Nw.2 ⟨e1,e1⟩,e1];rfl
 by_cases h2:vs.toArray.size<2
 .rw[Lg h2,Lg h2];refine Ld (Lo ?_);rw[StateT.run_pure];refine Ld (Lo ?_);dsimp only;refine Ld (seqEpoch_at ho6 rfl ?_);refine Ld (NW ho6 rfl ?_ (hsz2:=by rw[Pj];show(pairsOf vs).size<=_;rw[Pd,LV];omega));simp only[PF,Mq,MO];rw[hsz]at h2;exact Lo (fin (SortSt.mk' general' (vs.toArray.zip vs.toArray) #[] 7 none) id (Pd vs) (λi _=>rfl) ⟨λi j h1 h3=>by omega,λi _=>rfl,λi hi=>hi⟩)
 .rw[Lk h2,Lk h2];rw[hsz]at h2;refine Ld (hkind (by omega) _ _ kept ?_);refine Ld (LX (rF (a0:=pairsOf vs) (κ:=κ) (kd:=kd) (st:=SortSt.mk' kd (vs.toArray.zip vs.toArray) #[] 7 none)
   (Q:=λ_ st'=>failedOf st'=none/\(arrOf st').size=(pairsOf vs).size/\∃p,(∀i,i<(pairsOf vs).size->(arrOf st')[i]? = (pairsOf vs)[p i]?)/\SoS κ p (pairsOf vs).size)
   (hlt _ kept) ⟨⟨rfl,rfl,rfl,rfl⟩,λi j _ _ e=>e,λi _=>rfl,λi hi=>hi⟩ (by rw[Pd];omega) (by rw[Pd];exact h64) λst' a1 a2 a3=>⟨a1,a2,a3⟩) ?_ λ_ _ e=>e)
  rintro ⟨⟨⟩,st'⟩ s' ⟨rfl,hf,hz,p,hp,hS⟩;rw[Pd]at hz hp hS;dsimp only;refine Ld (seqEpoch_at ho6 rfl ?_);refine Ld (NW ho6 rfl ?_ (hsz2:=by rw[Pj,hz,LV];omega));rw[hf];simp only[PF,Mq,MO];exact Lo (fin st' p hz hp hS)
def uM {l:PU}{Q:PR->PV->Prop}(hl:s.heap.IsList l vs.toArray)(h64:vs.length<64)
  (hkind:2<=vs.length->∀(h':Qe) (Q:SortKind->PV->Prop),(∀b o,s.heap.get? b=some o->h'.get? b=some o)->Q kd { s with heap:=h' }->Qm (model prog w) A.in1.in1 (keyKind' vs.toArray) Q E { s with heap:=h' })
  (hlt:∀h':Qe,(∀b o,s.heap.get? b=some o->h'.get? b=some o)->iF prog w A.in1.in1 { s with heap:=h' } kd (pairsOf vs) κ)
  (h:∀(out:Array PR) (p:Nat->Nat),out.size=vs.length->(∀i,i<vs.length->out.toList[i]? = vs[p i]?)->SoS κ p vs.length->Q (.ref (s.heap.objs.size+1)) { s with heap:=sortedAll s.heap vs out }) :
  Qm (model prog w) A (call (.builtin "sorted") [.ref l]) Q E s:=by
 refine Calls.call_function_entry kind_sorted plain_sorted entry_sorted (args_sorted1 _) ?_;unfold Builtin.«sorted»;refine Ld (m:=checkCount "sorted" 1 1 _) (Lo ?_);refine Ld (collect_list hl ?_ (by rw[LV];omega));refine Ld (Px ?_ (by rw[LV];omega));have hsz:((s.heap.push (seqObj "list" #[] 0)).update s.heap.objs.size (Qi.mapSeq (· ++ vs.toArray))).objs.size=s.heap.objs.size+1:=by rw[Of,size_push']
 have hoL:(((s.heap.push (seqObj "list" #[] 0)).update s.heap.objs.size (Qi.mapSeq (· ++ vs.toArray))).push (seqObj "list" vs.toArray 0)).get? (s.heap.objs.size+1)=some (seqObj "list" vs.toArray 0):=by rw[<-hsz];exact LI _ rfl
 have keep:∀b o,s.heap.get? b=some o->(((s.heap.push (seqObj "list" #[] 0)).update s.heap.objs.size (Qi.mapSeq (· ++ vs.toArray))).push (seqObj "list" vs.toArray 0)).get? b=some o/\b≠s.heap.objs.size+1:=λb o q=>by have hlt:b<s.heap.objs.size:=Lw q;refine⟨?_,LH (Nn hlt)⟩;rw[NP _ _ _ (by rw[hsz];exact LH (Nn hlt)),Qe.get?_update_ne _ _ _ _ (LH hlt),NP _ _ _ (LH hlt)];exact q
 show Qm _ _ _ _ _ { s with heap:=((s.heap.push (seqObj "list" #[] 0)).update s.heap.objs.size (Qi.mapSeq (· ++ vs.toArray))).push (seqObj "list" vs.toArray 0) };rw[hsz];refine Ld (MW (NF slot_list_sort ⟨_,hoL,rfl⟩ entry_list_sort (lq (s:={ s with heap:=((s.heap.push (seqObj "list" #[] 0)).update s.heap.objs.size (Qi.mapSeq (· ++ vs.toArray))).push (seqObj "list" vs.toArray 0) }) hoL h64
  (λh2 h' Q hk hq=>hkind h2 h' Q (λb o e=>hk b o (keep b o e).2 (keep b o e).1) hq) (λh' hk=>hlt h' λb o e=>hk b o (keep b o e).2 (keep b o e).1) λout p a1 a2 a3=>⟨_,rfl,?_⟩) (args_list_sort _)))
 exact Lo ⟨_,rfl,h out p a1 a2 a3⟩
end
def oh (K:Frag)(H:Hp):List Int->List V->Prop
 | [],xs=>xs=[]
 | n::ns,xs=>∃t r ys,xs = .ref t::ys/\SqT K H t (.int n::r)/\oh K H ns ys
theorem oh.len {K:Frag}{H:Hp}:∀{ns:List Int} {xs:List V},oh K H ns xs->xs.length=ns.length
 | [],_,h=>by cases h;rfl
 | n::ns,_,⟨t,r,ys,rfl,_,h⟩=>by simp[oh.len h]
theorem oh.get {K:Frag}{H:Hp}:∀{ns:List Int} {xs:List V} {i:Nat} {n:Int},oh K H ns xs->ns[i]? = some n->∃t r,xs[i]? = some (.ref t)/\SqT K H t (.int n::r)
 | [],_,_,_,_,e=>by simp at e
 | m::ns,_,0,n,⟨t,r,ys,rfl,h1,h⟩,e=>by
  simp at e;subst e;exact⟨t,r,rfl,h1⟩
 | m::ns,_,i+1,n,⟨t,r,ys,rfl,h1,h⟩,e=>by obtain⟨t',r',a,b⟩:=h.get (i:=i) (by simpa using e);exact⟨t',r',by simpa using a,b⟩
section
variable {X:Cx}{K:Qf}
def CJ (K:Frag):List V->Hp->VK->Prop:=λxs H Q=>∃(a:PU) (zs:List V) (ns:List Int),xs=[.ref a]/\SqL K H a zs/\oh K H ns zs/\ns.Nodup/\ns.length<64 /\
 ∀(p:PU) (ys:List V),H p=none->gw (ns.map V.int) zs ys->Q (.ref p) (upd H p (.lst ys))
def qO (hK:X.K=K):J3 X (.builtin "sorted") (CJ K):=by
 subst hK;intro Qz s O H xs us Q I r h;obtain⟨a,zs,ns,rfl,hq,hT,hnd,h64,q⟩:=h;obtain⟨u,rfl,ru⟩:=Q9 r;cases ru;obtain⟨its,rv,p,hz⟩:=I.list hq;have hl1:=hT.len;have hl2:its.length=zs.length:=rv.length.symm;have item:∀(i:Nat) (n:Int),ns[i]? = some n->∃(t:PU) (o:Qi) (ys:Array PR) (k:Nat) (tk:Tok),its[i]? = some (.ref t)/\s.heap.get? t=some o/\o.cls = .type "tuple" /\ o.data = .seq ys k/\ys[0]? = some (.int n tk):=λi n e=>by
  obtain⟨t,r,e1,e2⟩:=hT.get e;obtain⟨u,e3,e4⟩:=rv.get e1;cases e4;obtain⟨ys,ry,⟨o,ho,hc,k,hd⟩,_⟩:=I.tuple e2;cases ry with
  | cons r1 r2 =>obtain⟨tk,rfl⟩:=r1;exact⟨t,o,_,k,tk,e3,ho,hc,hd,by simp⟩
 have tups:∀(h':Qe),(∀b o,s.heap.get? b=some o->h'.get? b=some o)->∀(ms:List Int) (vs:List PR),ms.length=vs.length->(∀(i:Nat) (n:Int),ms[i]? = some n->∃(t:PU) (o:Qi) (ys:Array PR) (k:Nat) (tk:Tok),vs[i]? = some (.ref t)/\s.heap.get? t=some o/\o.cls = .type "tuple" /\ o.data = .seq ys k/\ys[0]? = some (.int n tk)) ->
   ∃fs:List PR,KatTups h' vs fs/\fs.length=vs.length/\∀v∈fs,∃n t,v=PR.int n t:=by
  intro h' hk ms;induction ms with
  | nil =>intro vs hl _;rw[MU.1 hl.symm];exact⟨[],KatTups.nil,rfl,λv hv=>by simp at hv⟩
  | cons m ms ih =>
   intro vs hl hi;cases vs with
   | nil=>simp at hl
   | cons v vs =>
    obtain⟨t,o,ys,k,tk,e1,e2,e3,e4,e5⟩:=hi 0 m rfl;have e1:some v=some (PR.ref t):=e1;cases e1;obtain⟨fs,f1,f2,f3⟩:=ih vs (by simpa using hl) λi n e=>by obtain⟨t,o,ys,k,tk,g1,g⟩:=hi (i+1) n (by simpa using e);exact⟨t,o,ys,k,tk,by simpa using g1,g⟩
    refine⟨.int m tk::fs,KatTups.cons (hk _ _ e2) e3 e4 e5 f1,by simp[f2],λv hv=>?_⟩;rcases Lh.1 hv with rfl | hv
    .exact⟨m,tk,rfl⟩
    .exact f3 v hv
 refine uM (kd:=tuples' true) (κ:=Z6 (ns.map V.int)) p.isList (by omega) (λh2 h' Q' hk hQ=>?_) (λh' hk=>?_) λout p' a1 a2 a3=>?_
 .obtain⟨fs,f1,f2,f3⟩:=tups h' hk ns its (by omega) item;refine kat_kind (T:=.type "int") (s:={ s with heap:=h' }) f1 (by omega) (λv hv=>?_) rfl hQ;obtain⟨n,t,rfl⟩:=f3 v hv;exact .now
 .intro i j x y hij ex ey E Q' hQ;rw[<-Mx,pairsOf_toList,Nw]at ex ey;have hi:i<ns.length:=by have:=(Lj.1 ex.1).1;omega
  have hj:j<ns.length:=by have:=(Lj.1 ey.1).1;omega
  obtain⟨t1,o1,ys1,k1,tk1,b1,b2,b3,b4,b5⟩:=item i ns[i] (Lz hi);obtain⟨t2,o2,ys2,k2,tk2,c1,c2,c3,c4,c5⟩:=item j ns[j] (Lz hj);rw[b1]at ex;rw[c1]at ey;rw[<-Lr ex.1,<-Lr ey.1];have n1:Z6 (ns.map V.int) i=ns[i]:=by unfold Z6;rw[LG,Lv,Lz hi];rfl
  have n2:Z6 (ns.map V.int) j=ns[j]:=by unfold Z6;rw[LG,Lv,Lz hj];rfl
  rw[n1,n2]at hQ;have hne:ns[i]≠ns[j]:=λe=>hij ((List.getElem_inj hnd).1 e)
  refine kat_lt (s:={ s with heap:=h' }) (hk _ _ b2) b4 (hk _ _ c2) c4 ?_;obtain⟨r1,er1⟩:∃r1,ys1.toList = .int ns[i] tk1::r1:=by
   cases e:ys1.toList with
   | nil=>rw[<-Mx,e]at b5;simp at b5
   | cons z r=>rw[<-Mx,e]at b5;simp at b5;exact⟨r,by rw[b5]⟩
  obtain⟨r2,er2⟩:∃r2,ys2.toList = .int ns[j] tk2::r2:=by
   cases e:ys2.toList with
   | nil=>rw[<-Mx,e]at c5;simp at c5
   | cons z r=>rw[<-Mx,e]at c5;simp at c5;exact⟨r,by rw[c5]⟩
  rw[er1,er2,List.zip_cons_cons];refine kat_cons (wpAny_eqBool_int ?_);have hb:(ns[i] == ns[j])=false:=by simpa using hne
  rw[hb];refine kat_no ?_;exact oneLt_int hQ
 .have hlen:zs.length=its.length:=hl2.symm;obtain⟨e,he⟩:=sortedAll_at s.heap its out;have ysl:((List.range its.length).map λi=>zs.getD (p' i) .non).length=its.length:=by rw[Lf,LY]
  have ysg:∀i,i<its.length->((List.range its.length).map λi=>zs.getD (p' i) .non)[i]? = zs[p' i]?:=λi hi=>by rw[Lv,ND hi];have hpi:=a3.2.2 i hi;show some (zs.getD (p' i) .non)=_;rw[LG,Lz (by omega)];rfl
  have I1:Inv X Qz O (upd H (s.heap.objs.size+1) (.lst ((List.range its.length).map λi=>zs.getD (p' i) .non))) { s with heap:=sortedAll s.heap its out,toks:=s.toks } :=
   I.laid (a:=s.heap.objs.size+1) (λb o ho=>sortedAll_old ho) (NS _) ⟨by rw[ysl,LV];omega,out.toList,e,Y2 (by rw[ysl,atl out,a1]) (λi x u hx hu=>by
    have hi:i<its.length:=by have:=(Lj.1 hx).1;rwa [ysl]at this
    rw[ysg i hi]at hx;rw[a2 i hi]at hu;obtain⟨u',g1,g2⟩:=rv.get hx;rw[g1]at hu;rw[<-Lr hu];exact g2),by rw[he]⟩
  exact⟨.ref (s.heap.objs.size+1),_,I1,rfl,q _ _ (I.hok.fresh (NS _)) ⟨by rw[ysl,hlen],p',by rw[hlen];exact a3,λi hi=>ysg i (by omega)⟩⟩
end
end
end L2
namespace L2
def aF {α:Type}(p:Int × α):List (Int × α)->List (Int × α)
 | []=>[p]
 | q::r=>if p.1<=q.1 then p::q::r else q::aF p r
def C1 {α:Type}:List (Int × α)->List (Int × α)
 | []=>[]
 | p::r=>aF p (C1 r)
theorem nV {α β:Type}(f:α->β)(p:Int × α):∀l:List (Int × α),aF (p.1,f p.2) (l.map λq=>(q.1,f q.2))=(aF p l).map λq=>(q.1,f q.2)
 | []=>rfl
 | q::r=>by
  simp only[Lu,aF];split
  .rfl
  .rw[Lu,nV f p r]
theorem dA {α β:Type}(f:α->β):∀l:List (Int × α),C1 (l.map λq=>(q.1,f q.2))=(C1 l).map λq=>(q.1,f q.2)
 | []=>rfl
 | p::r=>by rw[Lu,C1,C1,dA f r];exact nV f p _
theorem ao {α:Type}(p:Int × α):∀l:List (Int × α),(aF p l).Perm (p::l)
 | []=>.refl _
 | q::r=>by
  rw[aF];split
  .exact .refl _
  .exact((ao p r).cons q).trans (.swap p q r)
theorem G3 {α:Type}:∀l:List (Int × α),(C1 l).Perm l
 | []=>.refl _
 | p::r=>(ao p _).trans ((G3 r).cons p)
def LxP (a b:Int×Nat):Prop:=a.1<b.1\/(a.1=b.1/\a.2<b.2)
theorem sy {p:Int×Nat}:∀{l:List (Int×Nat)},l.Pairwise LxP->(∀q∈l,p.2<q.2)->(aF p l).Pairwise LxP
 | [],_,_=>by simp[aF]
 | q::r,h,hl=>by
  rw[LO]at h;rw[aF];split
  .rename_i hle;refine LO.2 ⟨λz hz=>?_,LO.2 h⟩;have h1:LxP p q:=by
    rcases Oy hle with e | e
    .exact .inl e
    .exact .inr ⟨e,hl q Lq⟩
   rcases Lh.1 hz with rfl | hz
   .exact h1
   .have h2:=h.1 z hz;unfold LxP at h1 h2 ⊢;omega
  .rename_i hgt;refine LO.2 ⟨λz hz=>?_,sy h.2 λz hz=>hl z (Le _ hz)⟩;rcases Lh.1 ((ao p r).mem_iff.mp hz) with rfl | hz
   .exact .inl (by omega)
   .exact h.1 z hz
theorem kF:∀{l:List (Int×Nat)},l.Pairwise (λa b=>a.2<b.2)->(C1 l).Pairwise LxP
 | [],_=>.nil
 | p::r,h=>by rw[LO]at h;exact sy (kF h.2) λq hq=>h.1 q ((G3 r).mem_iff.mp hq)
theorem kj:∀{l₁ l₂:List (Int×Nat)},l₁.Perm l₂->l₁.Pairwise LxP->l₂.Pairwise LxP->l₁=l₂
 | [],l₂,p,_,_=>p.nil_eq
 | a::r,[],p,_,_=>by have:=p.length_eq;simp at this
 | a::r,b::t,p,h1,h2=>by
  rw[LO]at h1 h2;have ab:a=b:=by
   rcases Lh.1 (p.mem_iff.1 (Lq (a:=a) (l:=r))) with e | e
   .exact e
   .rcases Lh.1 (p.mem_iff.2 (Lq (a:=b) (l:=t))) with e2 | e2
    .exact e2.symm
    .have q1:=h2.1 a e;have q2:=h1.1 b e2;unfold LxP at q1 q2;omega
  subst ab;rw[kj (p.cons_inv) h1.2 h2.2]
theorem jr:∀(n:Nat) (l:List Nat),l.Nodup->(∀x∈l,x<n)->l.length=n->l.Perm (List.range n)
 | 0,l,_,_,hl=>by rw[MU.1 hl];exact .refl _
 | n+1,l,hd,hb,hl=>by
  have short:∀(m:Nat) (l:List Nat),l.Nodup->(∀x∈l,x<m)->l.length<=m:=by
   intro m;induction m with
   | zero =>
    intro l _ hb;cases l with
    | nil=>simp
    | cons a r=>exact absurd (hb a Lq) (by omega)
   | succ m ih =>
    intro l hd hb;by_cases hm:m∈l
    .have e:=ih (l.erase m) (hd.erase m) λx hx=>by
      have h1:=hb x (List.mem_of_mem_erase hx);have h2:x≠m:=λz=>by subst z;exact(List.Nodup.not_mem_erase hd) hx
      omega
     rw[List.length_erase_of_mem hm]at e;omega
    .have e:=ih l hd λx hx=>by
      have h1:=hb x hx;have h2:x≠m:=λz=>hm (z▸hx)
      omega
     omega
  have hn:n∈l:=by
   by_cases hm:n∈l
   .exact hm
   .have e:=short n l hd λx hx=>by
     have h1:=hb x hx;have h2:x≠n:=λz=>hm (z▸hx)
     omega
    omega
  have ih:=jr n (l.erase n) (hd.erase n) (λx hx=>by
   have h1:=hb x (List.mem_of_mem_erase hx);have h2:x≠n:=λz=>by subst z;exact(List.Nodup.not_mem_erase hd) hx
   omega) (by rw[List.length_erase_of_mem hn];omega)
  refine(List.perm_cons_erase hn).trans ((ih.cons n).trans ?_);rw[MM];exact(List.perm_append_singleton n (List.range n)).symm
def nE {ks xs ys:List V}(h:gw ks xs ys)(hl:ks.length=xs.length):ys=(C1 ((ks.map jJ).zip xs)).map Prod.snd:=by
 obtain⟨hy,p,hS,hp⟩:=h;generalize hn:xs.length=n at hy hS hp hl;have nd:((List.range n).map p).Nodup:=by
  rw[NO,MQ];intro i j hi hj hij;have hj':j<n:=by simpa using hj
  simp only[List.getElem_map,Pm];intro e;have q:=hS.1 i j hij hj';rw[e]at q;unfold Lx at q;omega
 have pr:=jr n ((List.range n).map p) nd (λx hx=>by obtain⟨i,hi,rfl⟩:=LN.1 hx;exact hS.2.2 i (LR.1 hi)) (by simp)
 have q1:(((List.range n).map p).map λi=>(Z6 ks i,i)).Pairwise LxP:=by
  rw[MQ];intro i j hi hj hij;have hj':j<n:=by simpa using hj
  simp only[List.getElem_map,Pm];exact hS.1 i j hij hj'
 have q2:(C1 ((List.range n).map λi=>(Z6 ks i,i))).Pairwise LxP:=kF (by rw[MQ];intro i j hi hj hij;simpa using hij)
 have e:=kj ((pr.map λi=>(Z6 ks i,i)).trans (G3 _).symm) q1 q2;have ez:(ks.map jJ).zip xs=((List.range n).map λi=>(Z6 ks i,i)).map λq=>(q.1,xs.getD q.2 .non):=by
  refine Oc λi=>?_
  rw[LQ];by_cases hi:i<n
  .have h1:(ks.map jJ)[i]? = some (Z6 ks i):=by rw[Lv];unfold Z6;rw[LG,Lz (by omega)];rfl
   have h2:xs[i]? = some (xs.getD i .non):=by rw[LG,Lz (by omega)];rfl
   rw[show((ks.map jJ).zip xs)[i]? = some (Z6 ks i,xs.getD i .non) from Nw.2 ⟨h1,h2⟩,Lv,ND hi];rfl
  .rw[Mr (by rw[List.length_zip,Lf];omega),Mr (by simp;omega)]
 rw[ez,dA (λi=>xs.getD i .non),<-e,LQ,LQ,LQ];refine Oc λi=>?_
 by_cases hi:i<n
 .rw[hp i hi,Lv,ND hi];have hpi:=hS.2.2 i hi;show xs[p i]? = some (xs.getD (p i) .non);rw[LG,Lz (by omega)];rfl
 .rw[Mr (by omega),Mr (by simp;omega)]
end L2
namespace L3
open PySem PySem.Spec PyProof.Rows L2
variable {fp:List PU}{H':Hp}{ts:List (Str×PU×PU)}
section
abbrev St :=L2.St
def hid (H:Hp)(B:List PU):Hp:=λb=>if b∈B then none else H b
def i6 {H:Hp}{B:List PU}{b:PU}(h:b ∉ B):hid H B b=H b:=by unfold hid;rw[Lk h]
def D2 {H:Hp}{B:List PU}{b:PU}(h:b∈B):hid H B b=none:=by unfold hid;rw[Lg h]
def f8 {H:Hp}{B:List PU}:h8 (hid H B) H:=λb o e=>by
 by_cases h:b∈B
 .rw[D2 h]at e;cases e
 .rwa [i6 h]at e
def N3 {H:Hp}{B B':List PU}(s:∀b∈B',b∈B):h8 (hid H B) (hid H B'):=λb o e=>by
 by_cases h:b∈B
 .rw[D2 h]at e;cases e
 .rw[i6 h]at e;rw[i6 λz=>h (s b z)];exact e
def Kp (fp:List PU)(H H':Hp):Prop:=∀b o,H b=some o->b ∉ fp->H' b=some o
def Kp.refl {H:Hp}:Kp fp H H:=λ_ _ e _=>e
def Kp.trans {H H1 H2:Hp}(a:Kp fp H H1)(b:Kp fp H1 H2):Kp fp H H2:=λc o e n=>b c o (a c o e n) n
def Kp.same {H:Hp}(s:h8 H H'):Kp fp H H':=λb o e _=>s b o e
def Kp.upd {H:Hp}{p:PU}{o:HO}(hp:H p=none):Kp fp H (upd H p o):=Kp.same (h8.upd hp)
def Kp.hid {B:List PU}{H:Hp}(k:Kp fp H H')(s:∀b∈fp,b∈B):h8 (hid H B) (hid H' B):=λb o e=>by
 by_cases h:b∈B
 .rw[D2 h]at e;cases e
 .rw[i6 h]at e ⊢;exact k b o e λz=>h (s b z)
def X9 {H:Hp}{B:List PU}{a:PU}{o:HO}(h:a∈B):hid (upd H a o) B=hid H B:=by
 funext b;by_cases hb:b∈B
 .rw[D2 hb,D2 hb]
 .rw[i6 hb,i6 hb,b9];intro e;subst e;exact hb h
def N8 (K:Qf)(fp B:List PU)(H:Hp):My->V->Prop
 | .tuple ds,v=>∃a xs,v = .ref a/\SqT K (hid H B) a xs/\b7 K (hid H B) ds xs
 | .list ds,v=>∃a xs,v = .ref a/\hid H fp a=some (.lst xs)/\b7 K (hid H B) ds xs
 | .none,v=>v = .non
 | .bool b,v=>v = .bl b
 | .int i,v=>v = .int i
 | .str x,v=>v = .str x
 | .dict _,_=>False
section
variable {K:Qf}{B:List PU}{H:Hp}{d:My}{v:V}
def cw (h:b8 K (hid H B) d v)(s:∀b∈fp,b∈B):N8 K fp B H d v:=by
 cases d with
 | tuple ds =>simp only[b8]at h;obtain⟨a,xs,e,hq,hd⟩:=h;exact⟨a,xs,e,hq,hd⟩
 | list ds =>simp only[b8]at h;obtain⟨a,xs,e,hq,hd⟩:=h;exact⟨a,xs,e,N3 s _ _ hq,hd⟩
 | _=>simpa only[b8,N8] using h
def N8.dat (h:N8 K fp B H d v):b8 K H d v:=by
 cases d with
 | tuple ds =>obtain⟨a,xs,e,hq,hd⟩:=h;simp only[b8];exact⟨a,xs,e,hq.same f8,hd.same f8⟩
 | list ds =>obtain⟨a,xs,e,hq,hd⟩:=h;simp only[b8];exact⟨a,xs,e,f8 _ _ hq,hd.same f8⟩
 | _=>simpa only[b8,N8] using h
def N8.step (h:N8 K fp B H d v)(k:Kp fp H H')(s:∀b∈fp,b∈B):N8 K fp B H' d v:=by
 have sm:=k.hid s;have sf:=k.hid (B:=fp) λ_ z=>z
 cases d with
 | tuple ds =>obtain⟨a,xs,e,hq,hd⟩:=h;exact⟨a,xs,e,hq.same sm,hd.same sm⟩
 | list ds =>obtain⟨a,xs,e,hq,hd⟩:=h;exact⟨a,xs,e,sf _ _ hq,hd.same sm⟩
 | _=>exact h
def N8.tup {ds:List My}(h:N8 K fp B H (.tuple ds) v):b8 K (hid H B) (.tuple ds) v:=by obtain⟨a,xs,e,hq,hd⟩:=h;simp only[b8];exact⟨a,xs,e,hq,hd⟩
def BOk (H:Hp)(B:List PU):Prop:=∀b∈B,∃o,H b=some o
def BOk.nin (h:BOk H B){p:PU}(hp:H p=none):p ∉ B:=λz=>by obtain⟨o,e⟩:=h p z;rw[hp]at e;cases e
def V1 {p:PU}{ds:List My}{xs:List V}(bk:BOk H B)(hp:H p=none)(h:b7 K (hid H B) ds xs):b8 K (hid (upd H p (.tup xs)) B) (.tuple ds) (.ref p):=by have e:h8 (hid H B) (hid (upd H p (.tup xs)) B):=(Kp.upd (fp:=[]) hp).hid (by simp);refine b8.tup ?_ (h.same e);rw[i6 (bk.nin hp)];exact d7
def Q2 {p:PU}{ds:List My}{xs:List V}(bk:BOk H B)(hp:H p=none)(h:b7 K (hid H B) ds xs):b8 K (hid (upd H p (.lst xs)) B) (.list ds) (.ref p):=by have e:h8 (hid H B) (hid (upd H p (.lst xs)) B):=(Kp.upd (fp:=[]) hp).hid (by simp);refine b8.lst ?_ (h.same e);rw[i6 (bk.nin hp)];exact d7
end
def NoT (o:HO):Prop:=(∀ps,o ≠ .tbl ps)/\∀φ,o ≠ .ext φ
class Feeds where
 S:Type
 At:PU->PU->Hp->S->Prop
 some1:∀{d c H F},At d c H F->∃o,H d=some o/\NoT o
 some2:∀{d c H F},At d c H F->∃o,H c=some o/\NoT o
 congr:∀{d c H H' F},At d c H F->H' d=H d->H' c=H c->At d c H' F
 lam:List Str
abbrev GF :=Option (PU×PU)
def tabsK (l:List Str)(K:Qf):List (Str×PU×PU):=l.filterMap λx=>(PySem.W.tabIn K x).map λp=>(x,p)
def nh (x:Str):Str:=x ++ ".<locals>." ++ "<lambda>"
def G5 (ts:List (Str×PU×PU))(H:Hp):Prop:=∀t∈ts,jV H t.2.2 (nh t.1)
def G5.congr {H:Hp}(h:G5 ts H)(e:∀b,(b∈ts.map (·.2.2)\/∃φ,H b=some (.ext φ))->H' b=H b):G5 ts H':=λt ht=>by obtain⟨ps,h1,h2,h3⟩:=h t ht;refine⟨ps,(e _ (.inl (Nb ht))).trans h1,h2,λpos cv q=>?_⟩;obtain⟨c,r1,r2⟩:=h3 pos cv q;exact⟨c,r1,(e c (.inr ⟨_,r2⟩)).trans r2⟩
def G5.but {H:Hp}{d:PU}{o0:HO}(h:G5 ts H)(hd:H d=some o0)(hn:NoT o0)(kp:∀b o,H b=some o->b≠d->H' b=some o):G5 ts H':=h.congr λb hb=>by
 obtain⟨o,e,hne⟩:∃o,H b=some o/\b≠d:=by
  rcases hb with hb | ⟨φ,e⟩
  .obtain⟨t,ht,rfl⟩:=LN.1 hb;obtain⟨ps,e,_⟩:=h t ht;exact⟨_,e,λz=>by rw[z,hd]at e;exact hn.1 ps (Lr e)⟩
  .exact⟨_,e,λz=>by rw[z,hd]at e;exact hn.2 φ (Lr e)⟩
 rw[e];exact kp b o e hne
section
variable [Feeds]
def tabP (K:Qf):List PU:=(tabsK Feeds.lam K).map (·.2.2)
def u4 (K:Qf):GF->List PU
 | none=>tabP K
 | some (d,c)=>d::c::tabP K
def lL {K:Qf}{G:GF}{b:PU}(h:b∈tabP K):b∈u4 K G:=by
 cases G with
 | none=>exact h
 | some p=>exact Le _ (Le _ h)
abbrev FS :=Feeds.S
abbrev M (α:Type):=FS->Option (α×FS)
def FM (G:GF)(H:Hp)(F:FS):Prop:=match G with
 | none=>True
 | some (d,c)=>Feeds.At d c H F
def FAt (K:Qf)(G:GF)(H:Hp)(F:FS):Prop:=FM G H F/\G5 (tabsK Feeds.lam K) H
def FAt.bok {K:Qf}{G:GF}{H:Hp}{F:FS}(h:FAt K G H F):BOk H (u4 K G):=λb hb=>by
 have tb:b∈tabP K->∃o,H b=some o:=λz=>by obtain⟨t,ht,rfl⟩:=LN.1 z;obtain⟨ps,h1,_⟩:=h.2 t ht;exact⟨_,h1⟩
 cases G with
 | none=>exact tb hb
 | some p =>
  obtain⟨d,c⟩:=p;simp only[u4,Lh]at hb;rcases hb with rfl | rfl | hb
  .obtain⟨o,e,_⟩:=Feeds.some1 h.1;exact⟨o,e⟩
  .obtain⟨o,e,_⟩:=Feeds.some2 h.1;exact⟨o,e⟩
  .exact tb hb
def FAt.congr {K:Qf}{G:GF}{H:Hp}{F:FS}(h:FAt K G H F)(e:∀b,(b∈u4 K G\/∃φ,H b=some (.ext φ))->H' b=H b):FAt K G H' F:=by
 refine⟨?_,h.2.congr λb hb=>e b (hb.imp lL id)⟩;cases G with
 | none=>trivial
 | some p =>obtain⟨d,c⟩:=p;exact Feeds.congr h.1 (e d (.inl (by simp[u4]))) (e c (.inl (by simp[u4])))
def FAt.same {K:Qf}{G:GF}{H:Hp}{F:FS}(h:FAt K G H F)(s:h8 H H'):FAt K G H' F:=h.congr λb hb=>by
 rcases hb with hb | ⟨φ,e⟩
 .obtain⟨o,e⟩:=h.bok b hb;rw[e];exact s b o e
 .rw[e];exact s b _ e
inductive DV where
 | dat (d:My) | feed | own (ds:List My) | fn (x:Str) | adr (a:PU)
abbrev DE :=List (Option DV)
def DVr (K:Qf)(G:GF)(B:List PU)(H:Hp):DV->V->Prop
 | .dat d,v=>b8 K (hid H B) d v
 | .feed,v=>∃d c,G=some (d,c)/\v = .ref d
 | .fn x,v=>∃a,v = .ref a/\PySem.W.nsIn K Qn x=some (some (.ref a))
 | .adr a,v=>v = .ref a
 | .own ds,v=>∃a xs,v = .ref a/\a∈B/\a ∉ u4 K G/\H a=some (.lst xs)/\b7 K (hid H B) ds xs
structure SitE (K:Qf) (G:GF) (B:List PU) (E:DE) (F:FS) (O:St) (H:Hp):Prop where
 fd:FAt K G H F
 fB:∀b∈u4 K G,b∈B
 bk:BOk H B
 ln:E.length = O.length
 loc:∀(i:Nat) (x:DV),E[i]? = some (some x)->∃v,O[i]? = some (some v)/\DVr K G B H x v
section
variable {K:Qf}{G:GF}{B:List PU}{E:DE}{F F':FS}{O:St}{H:Hp}
def C8 (bk:BOk H B)(k:Kp (u4 K G) H H')(f:FAt K G H' F'):BOk H' B:=λb hb=>by
 by_cases h:b∈u4 K G
 .exact f.bok b h
 .obtain⟨o,e⟩:=bk b hb;exact⟨o,k b o e h⟩
def DVr.step {x:DV}{v:V}(h:DVr K G B H x v)(k:Kp (u4 K G) H H')(fB:∀b∈u4 K G,b∈B):DVr K G B H' x v:=by
 cases x with
 | dat d=>exact b8.same (h:b8 _ _ _ _) (k.hid fB)
 | feed=>exact h
 | fn _=>exact h
 | adr _=>exact h
 | own ds =>obtain⟨a,xs,e,hB,hf,ha,hd⟩:=h;exact⟨a,xs,e,hB,hf,k a _ ha hf,hd.same (k.hid fB)⟩
def SitE.step (I:SitE K G B E F O H)(k:Kp (u4 K G) H H')(f:FAt K G H' F'):SitE K G B E F' O H' :=
 ⟨f,I.fB,C8 I.bk k f,I.ln,λi x e=>by obtain⟨v,h1,h2⟩:=I.loc i x e;exact⟨v,h1,h2.step k I.fB⟩⟩
end
end
end
variable {te:TE}{pos:Pos}{rest:List Qd}
section
section
variable [Feeds]
def TEd (K:Qf)(te:TE)(m:DE->M My):Prop:=∀(G:GF) (B:List PU) (E:DE) (F:FS) (O:St) (H:Hp) (Q:VK) (d:My) (F':FS),SitE K G B E F O H->m E F=some (d,F') ->
 (∀v H',Kp (u4 K G) H H'->FAt K G H' F'->b8 K (hid H' B) d v->Q v H')->te O H Q
def TEs (K:Qf)(te:TE)(m:DE->M My):Prop:=∀(G:GF) (B:List PU) (E:DE) (F:FS) (O:St) (H:Hp) (Q:VK) (d:My) (F':FS),SitE K G B E F O H->m E F=some (d,F') ->
 (∀v H',Kp (u4 K G) H H'->FAt K G H' F'->N8 K (u4 K G) B H' d v->Q v H')->te O H Q
def TEd.sh {K:Qf}{m:DE->M My}(h:TEd K te m):TEs K te m:=λG B E F O H Q d F' I e q=>h G B E F O H Q d F' I e λv H' k f hd=>q v H' k f (cw hd I.fB)
def TTd (K:Qf)(tt:TT)(m:DE->M Bool):Prop:=∀(G:GF) (B:List PU) (E:DE) (F:FS) (O:St) (H:Hp) (Q:Bool->Hp->Prop) (b:Bool) (F':FS),SitE K G B E F O H->m E F=some (b,F') ->
 (∀H',Kp (u4 K G) H H'->FAt K G H' F'->Q b H')->tt O H Q
def TAd (K:Qf)(ta:TA)(m:DE->M (List My)):Prop:=∀(G:GF) (B:List PU) (E:DE) (F:FS) (O:St) (H:Hp) (Q:List V->Hp->Prop) (ds:List My) (F':FS),SitE K G B E F O H->m E F=some (ds,F') ->
 (∀vs H',Kp (u4 K G) H H'->FAt K G H' F'->b7 K (hid H' B) ds vs->Q vs H')->ta O H Q
def iR (K:Qf)(fp B:List PU)(H:Hp):List My->List V->Prop
 | [],vs=>vs=[]
 | d::ds,vs=>∃v r,vs=v::r/\N8 K fp B H d v/\iR K fp B H ds r
def TAs (K:Qf)(ta:TA)(m:DE->M (List My)):Prop:=∀(G:GF) (B:List PU) (E:DE) (F:FS) (O:St) (H:Hp) (Q:List V->Hp->Prop) (ds:List My) (F':FS),SitE K G B E F O H->m E F=some (ds,F') ->
 (∀vs H',Kp (u4 K G) H H'->FAt K G H' F'->iR K (u4 K G) B H' ds vs->Q vs H')->ta O H Q
structure Ev (K:Qf) (X:Cx) (e:Qd) (te:TE) (m:DE->M My):Prop where
 pe:PE X e te
 ok:TEd K te m
structure Eb (K:Qf) (X:Cx) (e:Qd) (te:TE) (m:DE->M My):Prop where
 pe:PE X e te
 ok:TEs K te m
structure Et (K:Qf) (X:Cx) (e:Qd) (tt:TT) (m:DE->M Bool):Prop where
 pt:PT X e tt
 ok:TTd K tt m
structure Ew (K:Qf) (X:Cx) (e:Qd) (tt:TT) (m:DE->M Bool):Prop where
 pw:PW X e tt
 ok:TTd K tt m
structure Ea (K:Qf) (X:Cx) (es:List Qd) (ta:TA) (m:DE->M (List My)):Prop where
 pa:PA X es ta
 ok:TAd K ta m
structure Es (K:Qf) (X:Cx) (es:List Qd) (ta:TA) (m:DE->M (List My)):Prop where
 pa:PA X es ta
 ok:TAs K ta m
variable {K:Qf}{X:Cx}{a b c e:Qd}{es:List Qd}{ta tb tc:TE}{ma mb mc m:DE->M My}
def Ev.bw (h:Ev K X e te m):Eb K X e te m:=⟨h.pe,h.ok.sh⟩
def sC (d:My):DE->M My:=λ_ F=>some (d,F)
def sV (i:Nat):DE->M My:=λE F=>match E[i]? with
 | some (some (.dat d))=>some (d,F)
 | _=>none
def sW (i:Nat):DE->M My:=λE F=>match E[i]? with
 | some (some (.dat d))=>some (d,F)
 | some (some (.own ds))=>some (.list ds,F)
 | _=>none
def zk {d:My}{v:V}(h:∀H,b8 K H d v):TEd K (tC v) (sC d):=λG B E F O H Q d' F' I e q=>by cases e;exact q v H Kp.refl I.fd (h _)
def i4 {i j}:Ev K X (.Constant (.int i) j pos) (tC (.int i)) (sC (.int i)):=⟨k8,zk λ_=>b8.int⟩
def cy {x j}:Ev K X (.Constant (.bool x) j pos) (tC (.bl x)) (sC (.bool x)):=⟨Fy,zk λ_=>b8.bl⟩
def bj {j}:Ev K X (.Constant .none j pos) (tC .non) (sC .none):=⟨BL,zk λ_=>b8.non⟩
def fK {x j}:Ev K X (.Constant (.str x) j pos) (tC (.str x)) (sC (.str x)):=⟨C4,zk λ_=>b8.st⟩
def DX (i:Nat):TEd K (z7 i) (sV i):=λG B E F O H Q d F' I e q=>by
 unfold sV at e;split at e
 .rename_i x hx;cases e;obtain⟨v,h1,h2⟩:=I.loc i _ hx;exact⟨v,h1,q v H Kp.refl I.fd h2⟩
 .cases e
def Fm (i:Nat):TEs K (z7 i) (sW i):=λG B E F O H Q d F' I e q=>by
 unfold sW at e;split at e
 .rename_i x hx;cases e;obtain⟨v,h1,h2⟩:=I.loc i _ hx;exact⟨v,h1,q v H Kp.refl I.fd (cw h2 I.fB)⟩
 .rename_i x hx;cases e;obtain⟨v,h1,h2⟩:=I.loc i _ hx;refine⟨v,h1,q v H Kp.refl I.fd ?_⟩;obtain⟨p,xs,rfl,hB,hf,hp,hd⟩:=h2;exact⟨p,xs,rfl,by rw[i6 hf];exact hp,hd⟩
 .cases e
def l4 (i:Nat){x:Str}(hN:X.N[i]? = some x:=by rfl)(hv:Vis X.env.scope x:=by walk_at "v")(hd:(x == ("__debug__":Str))=false:=by decide)
  (hcd:(x == ("__classdict__":Str))=false:=by decide):Ev K X (.Name x pos) (z7 i) (sV i):=⟨L7 hN hv hd hcd,DX i⟩
def i5 (i:Nat){x:Str}(hN:X.N[i]? = some x:=by rfl)(hv:Vis X.env.scope x:=by walk_at "v")(hd:(x == ("__debug__":Str))=false:=by decide)
  (hcd:(x == ("__classdict__":Str))=false:=by decide):Eb K X (.Name x pos) (z7 i) (sW i):=⟨L7 hN hv hd hcd,Fm i⟩
def rD1 (K:Qf)(f:My->Option My):V->Hp->VK->Prop:=λx H Q=>∃fp B d r,BOk H B/\N8 K fp B H d x/\f d=some r/\∀v H',h8 H H'->b8 K (hid H' B) r v->Q v H'
def rD2 (K:Qf)(f:My->My->Option My):R2:=λx y H Q=>∃fp B d e r,BOk H B/\N8 K fp B H d x/\N8 K fp B H e y/\f d e=some r/\∀v H',h8 H H'->b8 K (hid H' B) r v->Q v H'
def rDN (K:Qf)(f:List My->Option My):List V->Hp->VK->Prop:=λxs H Q=>∃fp B ds r,BOk H B/\iR K fp B H ds xs/\f ds=some r/\∀v H',h8 H H'->b8 K (hid H' B) r v->Q v H'
def s1 (f:My->Option My)(a:DE->M My):DE->M My:=λE F=>(a E F).bind λp=>(f p.1).bind λz=>some (z,p.2)
def s2 (f:My->My->Option My)(a b:DE->M My):DE->M My:=λE F=>(a E F).bind λp=>(b E p.2).bind λq=>(f p.1 q.1).bind λz=>some (z,q.2)
def sN (f:List My->Option My)(a:DE->M (List My)):DE->M My:=λE F=>(a E F).bind λp=>(f p.1).bind λz=>some (z,p.2)
def AU {f:My->Option My}(ha:TEs K ta ma):TEd K (tUn (rD1 K f) ta) (s1 f ma):=λG B E F O H Q d F' I e q=>by obtain⟨⟨x,F1⟩,e1,e⟩:=bS9 e;obtain⟨z,e2,e⟩:=bS9 e;cases e;refine ha G B E F O H _ x F1 I e1 λv H1 k1 f1 h1=>⟨u4 K G,B,x,_,C8 I.bk k1 f1,h1,e2,λw H2 s hw=>q w H2 (k1.trans (Kp.same s)) (f1.same s) hw⟩
def rK {f:My->My->Option My}(ha:TEs K ta ma)(hb:TEs K tb mb):TEd K (tOp (rD2 K f) ta tb) (s2 f ma mb):=λG B E F O H Q d F' I e q=>by
 obtain⟨⟨x,F1⟩,e1,e⟩:=bS9 e;obtain⟨⟨y,F2⟩,e2,e⟩:=bS9 e;obtain⟨z,e3,e⟩:=bS9 e;cases e;refine ha G B E F O H _ x F1 I e1 λv H1 k1 f1 h1=>?_
 refine hb G B E F1 O H1 _ y F2 (I.step k1 f1) e2 λw H2 k2 f2 h2=>⟨u4 K G,B,x,y,_,C8 I.bk (k1.trans k2) f2,h1.step k2 I.fB,h2,e3,λu H3 s hu=>q u H3 ((k1.trans k2).trans (Kp.same s)) (f2.same s) hu⟩
def Bd {f:List My->Option My}{t:TA}{ms:DE->M (List My)}(ha:TAs K t ms):TEd K (tCB (rDN K f) t) (sN f ms):=λG B E F O H Q d F' I e q=>by obtain⟨⟨x,F1⟩,e1,e⟩:=bS9 e;obtain⟨z,e2,e⟩:=bS9 e;cases e;exact ha G B E F O H _ x F1 I e1 λvs H1 k1 f1 h1=>⟨u4 K G,B,x,_,C8 I.bk k1 f1,h1,e2,λw H2 s hw=>q w H2 (k1.trans (Kp.same s)) (f1.same s) hw⟩
def B7 {op:Operator}{f:My->My->Option My}(ho:OpR X (binaryOp op) (rD2 K f))(ha:Eb K X a ta ma)(hb:Eb K X b tb mb):Ev K X (.BinOp a op b pos) (tOp (rD2 K f) ta tb) (s2 f ma mb):=⟨D8 ho ha.pe hb.pe,rK ha.ok hb.ok⟩
def Bq {op:UnaryOp}{f:My->Option My}(ho:UnR X (unaryOp op) (rD1 K f))(ha:Eb K X a ta ma):Ev K X (.UnaryOp op a pos) (tUn (rD1 K f) ta) (s1 f ma):=⟨vA ho ha.pe,AU ha.ok⟩
def dz {op:CmpOp}{f:My->My->Option My}(ho:OpR X (compareOp op) (rD2 K f))(ha:Eb K X a ta ma)(hb:Eb K X b tb mb)(hm:behindInMarks op b=false:=by first | exact Z9 _ | rfl):Ev K X (.Compare a [op] [b] pos) (tOp (rD2 K f) ta tb) (s2 f ma mb):=⟨gU ho ha.pe hb.pe hm,rK ha.ok hb.ok⟩
def C2 {f:My->My->Option My}(hr:IxR X (rD2 K f))(ha:Eb K X a ta ma)(hb:Eb K X b tb mb)(hs:mx b:=by intro _ _;rfl):Ev K X (.Subscript a b pos) (tOp (rD2 K f) ta tb) (s2 f ma mb):=⟨P7 hr ha.pe hb.pe hs,rK ha.ok hb.ok⟩
def n6 {f:List My->Option My}{id:String}{x:Str}{p:Pos}{t:TA}{ms:DE->M (List My)}(hc:J3 X (.builtin id) (rDN K f))(hm:X.mg x=none)(hv:Qq x=some (.builtin id))(ha:Es K X (e::es) t ms)(hg:Gl X x:=by rfl)(hn:x ≠ "__name__":=by decide)(hdb:(x == ("__debug__":Str))=false:=by decide)
  (he:Qh (e::es) X.env=(false,eval e X.env)::Qh es X.env:=by rfl) (hpl:(Qk pos (Qh es X.env)).any (·.1)=false:=by rfl):Ev K X (.Call (.Name x p) (e::es) [] pos) (tCB (rDN K f) t) (sN f ms):=⟨ar hc hg hm hv ha.pa hn hdb he hpl,Bd ha.ok⟩
def D4 {f:List My->Option My}{T:String}{x:Str}{p:Pos}{t:TA}{ms:DE->M (List My)}(hc:J3 X (.type T) (rDN K f))(hm:X.mg x=none)(hv:Qq x=some (.type T))(ha:Es K X (e::es) t ms)(hg:Gl X x:=by rfl)(hn:x ≠ "__name__":=by decide)(hdb:(x == ("__debug__":Str))=false:=by decide)
  (he:Qh (e::es) X.env=(false,eval e X.env)::Qh es X.env:=by rfl) (hpl:(Qk pos (Qh es X.env)).any (·.1)=false:=by rfl):Ev K X (.Call (.Name x p) (e::es) [] pos) (tCB (rDN K f) t) (sN f ms):=⟨cc hc hg hm hv ha.pa hn hdb he hpl,Bd ha.ok⟩
def i7 :DE->M (List My):=λ_ F=>some ([],F)
def c7 (a:DE->M My)(r:DE->M (List My)):DE->M (List My):=λE F=>(a E F).bind λp=>(r E p.2).bind λq=>some (p.1::q.1,q.2)
def l0 :Ea K X [] K8 i7:=⟨u9,λG B E F O H Q ds F' I e q=>by cases e;exact q [] H Kp.refl I.fd b7.nil⟩
def d9 {t:TA}{ms:DE->M (List My)}(ha:Ev K X e te m)(hr:Ea K X es t ms)(hs:Qh (e::es) X.env=(false,eval e X.env)::Qh es X.env:=by rfl):Ea K X (e::es) (B4 te t) (c7 m ms) :=
 ⟨l7 ha.pe hr.pa hs,λG B E F O H Q ds F' I e q=>by
  walk_at "km"
  refine hr.ok G B E F1 O H1 _ ys F2 (I.step k1 f1) e2 λvs H2 k2 f2 h2=>q _ H2 (k1.trans k2) f2 (.cons (h1.same (k2.hid I.fB)) h2)⟩
def l9 :Es K X [] K8 i7:=⟨u9,λG B E F O H Q ds F' I e q=>by cases e;exact q [] H Kp.refl I.fd rfl⟩
def j6 {t:TA}{ms:DE->M (List My)}(ha:Eb K X e te m)(hr:Es K X es t ms)(hs:Qh (e::es) X.env=(false,eval e X.env)::Qh es X.env:=by rfl):Es K X (e::es) (B4 te t) (c7 m ms) :=
 ⟨l7 ha.pe hr.pa hs,λG B E F O H Q ds F' I e q=>by
  walk_at "km"
  refine hr.ok G B E F1 O H1 _ ys F2 (I.step k1 f1) e2 λvs H2 k2 f2 h2=>q _ H2 (k1.trans k2) f2 ⟨v,vs,rfl,h1.step k2 I.fB,h2⟩⟩
def P2 (a:DE->M (List My)):DE->M My:=λE F=>(a E F).bind λp=>if p.1.length<=Qg then some (.tuple p.1,p.2) else none
def pU (a:DE->M (List My)):DE->M My:=λE F=>(a E F).bind λp=>if p.1.length<=Qg then some (.list p.1,p.2) else none
def C9 {k}{t:TA}{ms:DE->M (List My)}(h:Ea K X es t ms):Ev K X (.Tuple es k pos) (xy t) (P2 ms):=⟨lY h.pa,λG B E F O H Q d F' I e q=>by
 obtain⟨⟨x,F1⟩,e1,e⟩:=bS9 e;split at e
 .rename_i hl;cases e;refine h.ok G B E F O H _ x F1 I e1 λvs H1 k1 f1 h1=>⟨by rw[h1.length];exact hl,λp hp=>q _ _ (k1.trans (Kp.upd hp)) (f1.same (h8.upd hp)) (V1 (C8 I.bk k1 f1) hp h1)⟩
 .cases e⟩
def pD {t:TA}{ms:DE->M (List My)}(h:Ea K X es t ms):Ev K X (.List es pos) (bF t) (pU ms):=⟨Q7 h.pa,λG B E F O H Q d F' I e q=>by
 obtain⟨⟨x,F1⟩,e1,e⟩:=bS9 e;split at e
 .rename_i hl;cases e;refine h.ok G B E F O H _ x F1 I e1 λvs H1 k1 f1 h1=>⟨by rw[h1.length];exact hl,λp hp=>q _ _ (k1.trans (Kp.upd hp)) (f1.same (h8.upd hp)) (Q2 (C8 I.bk k1 f1) hp h1)⟩
 .cases e⟩
def bu:My->Option Bool
 | .bool b=>some b
 | _=>none
def M7 {d:My}{b:Bool}(h:bu d=some b):d = .bool b:=by cases d <;> simp[bu]at h;rw[h]
def pG (a b:DE->M My):DE->M My:=λE F=>(a E F).bind λp=>(bu p.1).bind λc=>if c=true then b E p.2 else some (.bool false,p.2)
def yq (a:DE->M My):DE->M My:=λE F=>(a E F).bind λp=>(bu p.1).bind λc=>some (.bool (!c),p.2)
def Dv {op}(h:Ev K X a te m):Ev K X (.BoolOp op [a] pos) te m:=⟨wg h.pe,h.ok⟩
def BI (ha:Ev K X a ta ma)(hb:Ev K X (.BoolOp .And (b::rest) pos) tb mb):Ev K X (.BoolOp .And (a::b::rest) pos) (yc ta tb) (pG ma mb):=⟨vJ ha.pe hb.pe,λG B E F O H Q d F' I e q=>by
 obtain⟨⟨x,F1⟩,e1,e⟩:=bS9 e;obtain⟨c,e2,e⟩:=bS9 e;refine ha.ok G B E F O H _ x F1 I e1 λv H1 k1 f1 h1=>?_
 have:=M7 e2;simp only at this;subst this;simp only[b8]at h1;refine⟨c,h1,?_⟩;cases c with
 | true=>exact hb.ok G B E F1 O H1 _ d F' (I.step k1 f1) e λw H2 k2 f2 h2=>q w H2 (k1.trans k2) f2 h2
 | false=>cases e;exact q _ H1 k1 f1 b8.bl⟩
def Dz (ha:Ev K X a ta ma):Ev K X (.UnaryOp .Not a pos) (AE ta) (yq ma):=⟨CT ha.pe,λG B E F O H Q d F' I e q=>by
 obtain⟨⟨x,F1⟩,e1,e⟩:=bS9 e;obtain⟨c,e2,e⟩:=bS9 e;cases e;refine ha.ok G B E F O H _ x F1 I e1 λv H1 k1 f1 h1=>?_
 have:=M7 e2;simp only at this;subst this;simp only[b8]at h1;exact⟨_,h1,q _ H1 k1 f1 b8.bl⟩⟩
def sIf (c:DE->M Bool)(a b:DE->M My):DE->M My:=λE F=>(c E F).bind λp=>if p.1=true then a E p.2 else b E p.2
def mZ {tt:TT}{mt:DE->M Bool}(hc:Et K X c tt mt)(ha:Ev K X a ta ma)(hb:Ev K X b tb mb):Ev K X (.IfExp c a b pos) (tIf tt ta tb) (sIf mt ma mb):=⟨nj hc.pt ha.pe hb.pe,λG B E F O H Q d F' I e q=>by
 obtain⟨⟨x,F1⟩,e1,e⟩:=bS9 e;refine hc.ok G B E F O H _ x F1 I e1 λH1 k1 f1=>?_
 cases x with
 | true=>exact ha.ok G B E F1 O H1 _ d F' (I.step k1 f1) e λw H2 k2 f2 h2=>q w H2 (k1.trans k2) f2 h2
 | false=>exact hb.ok G B E F1 O H1 _ d F' (I.step k1 f1) e λw H2 k2 f2 h2=>q w H2 (k1.trans k2) f2 h2⟩
variable {tA tB:TT}{na nb:DE->M Bool}
def uB (a:DE->M My):DE->M Bool:=λE F=>(a E F).bind λp=>(bu p.1).bind λc=>some (c,p.2)
def zT (a b:DE->M Bool):DE->M Bool:=λE F=>(a E F).bind λp=>if p.1=true then b E p.2 else some (false,p.2)
def uOr (a b:DE->M Bool):DE->M Bool:=λE F=>(a E F).bind λp=>if p.1=true then some (true,p.2) else b E p.2
def uU (a:DE->M Bool):DE->M Bool:=λE F=>(a E F).bind λp=>some (!p.1,p.2)
def C3 {op:CmpOp}{f:My->My->Option My}(ho:OpR X (compareOp op) (rD2 K f))(ha:Eb K X a ta ma)(hb:Eb K X b tb mb)(hm:behindInMarks op b=false:=by first | exact Z9 _ | rfl):Et K X (.Compare a [op] [b] pos) (bR (tOp (rD2 K f) ta tb)) (uB (s2 f ma mb)) :=
 ⟨T3 ho ha.pe hb.pe hm,λG B E F O H Q d F' I e q=>by
  obtain⟨⟨x,F1⟩,e1,e⟩:=bS9 e;obtain⟨c,e2,e⟩:=bS9 e;cases e;refine rK ha.ok hb.ok G B E F O H _ x F1 I e1 λv H1 k1 f1 h1=>?_
  have:=M7 e2;simp only at this;subst this;simp only[b8]at h1;exact⟨_,h1,q H1 k1 f1⟩⟩
def zS (ha:Et K X a tA na):Ew K X (.BoolOp .And [a] pos) tA na:=⟨kW ha.pt,ha.ok⟩
def lz (ha:Et K X a tA na):Ew K X (.BoolOp .Or [a] pos) tA na:=⟨Cg ha.pt,ha.ok⟩
def Cb (ha:Et K X a tA na)(hb:Ew K X (.BoolOp .And (b::rest) pos) tB nb):Ew K X (.BoolOp .And (a::b::rest) pos) (zE tA tB) (zT na nb):=⟨qV ha.pt hb.pw,λG B E F O H Q d F' I e q=>by
 obtain⟨⟨x,F1⟩,e1,e⟩:=bS9 e;refine ha.ok G B E F O H _ x F1 I e1 λH1 k1 f1=>?_
 cases x with
 | true=>exact hb.ok G B E F1 O H1 _ d F' (I.step k1 f1) e λH2 k2 f2=>q H2 (k1.trans k2) f2
 | false=>cases e;exact q H1 k1 f1⟩
def sL (ha:Et K X a tA na)(hb:Ew K X (.BoolOp .Or (b::rest) pos) tB nb):Ew K X (.BoolOp .Or (a::b::rest) pos) (tOr tA tB) (uOr na nb):=⟨Ee ha.pt hb.pw,λG B E F O H Q d F' I e q=>by
 obtain⟨⟨x,F1⟩,e1,e⟩:=bS9 e;refine ha.ok G B E F O H _ x F1 I e1 λH1 k1 f1=>?_
 cases x with
 | false=>exact hb.ok G B E F1 O H1 _ d F' (I.step k1 f1) e λH2 k2 f2=>q H2 (k1.trans k2) f2
 | true=>cases e;exact q H1 k1 f1⟩
def Ew.t (h:Ew K X a tA na):Et K X a tA na:=⟨h.pw.pt,h.ok⟩
def qp (ha:Et K X a tA na):Et K X (.UnaryOp .Not a pos) (EU tA) (uU na):=⟨Dl ha.pt,λG B E F O H Q d F' I e q=>by obtain⟨⟨x,F1⟩,e1,e⟩:=bS9 e;cases e;exact ha.ok G B E F O H _ x F1 I e1 λH1 k1 f1=>q H1 k1 f1⟩
def Aq:My->Option Bool
 | .none=>some false
 | .bool b=>some b
 | .int i=>some (i != 0)
 | .str x=>if x.length<=Qg then some ((x.length:Int) != 0) else none
 | .tuple ds=>some (!ds.isEmpty)
 | .list ds=>some (!ds.isEmpty)
 | .dict _=>none
def uT (a:DE->M My):DE->M Bool:=λE F=>(a E F).bind λp=>(Aq p.1).bind λc=>some (c,p.2)
def dJ {H:Hp}{ds:List My}{xs:List V}(h:b7 K H ds xs):xs.isEmpty=ds.isEmpty:=by
 cases ds with
 | nil=>simp only[b7]at h;subst h;rfl
 | cons d r=>simp only[b7]at h;obtain⟨x,r,rfl,_⟩:=h;rfl
def Dg {B:List PU}{H:Hp}{d:My}{v:V}{c:Bool}(h:N8 K fp B H d v)(e:Aq d=some c):xE K v H c:=by
 cases d with
 | none=>cases h;cases e;rfl
 | bool b=>cases h;cases e;rfl
 | int i=>cases h;cases e;rfl
 | str x =>
  cases h;simp only[Aq]at e;split at e
  .rename_i hl;cases e;exact⟨hl,rfl⟩
  .cases e
 | tuple ds =>obtain⟨p,xs,rfl,hq,hd⟩:=h;cases e;exact .inr (.inl ⟨xs,hq.same f8,by rw[dJ hd]⟩)
 | list ds =>obtain⟨p,xs,rfl,hq,hd⟩:=h;cases e;exact .inl ⟨xs,SqL.of (f8 _ _ hq),by rw[dJ hd]⟩
 | dict QC=>exact(show False from h).elim
def iu (ha:Eb K X a ta ma)(hK:X.K=K:=by rfl)(he:∀whole,isTrue a X.env whole=(do let v <-whole;standAt a.pos;holding [v] (truthy v)):=by intro _;rfl) :
  Et K X a (λO H Q=>ta O H λx H'=>∃k,xE K x H' k/\Q k H') (uT ma):=⟨tU hK ha.pe he,λG B E F O H Q d F' I e q=>by obtain⟨⟨x,F1⟩,e1,e⟩:=bS9 e;obtain⟨c,e2,e⟩:=bS9 e;cases e;exact ha.ok G B E F O H _ x F1 I e1 λv H1 k1 f1 h1=>⟨_,Dg h1 e2,q H1 k1 f1⟩⟩
end
end
section
section
variable {K:Qf}{X:Cx}
def fk {B:List PU}{H:Hp}{ds:List My}{d:My}{vs:List V}(h:iR K fp B H ds vs)(e:ds=[d]):∃v,vs=[v]/\N8 K fp B H d v:=by subst e;obtain⟨v,r,rfl,h1,h2⟩:=h;cases h2;exact⟨v,rfl,h1⟩
def FR {B:List PU}{H:Hp}{ds:List My}{d e:My}{vs:List V}(h:iR K fp B H ds vs)(eq:ds=[d,e]):∃v w,vs=[v,w]/\N8 K fp B H d v/\N8 K fp B H e w:=by subst eq;obtain⟨v,r,rfl,h1,w,r2,rfl,h2,h3⟩:=h;cases h3;exact⟨v,w,rfl,h1,h2⟩
def i2 (C:Int->Int->Prop)[∀i j,Decidable (C i j)](g:Int->Int->My):My->My->Option My
 | .int i,.int j=>if C i j then some (g i j) else none
 | _,_=>none
def zQ {C:Int->Int->Prop}[∀i j,Decidable (C i j)]{g:Int->Int->My}{d e r:My}(h:i2 C g d e=some r):∃i j,d = .int i/\e = .int j/\C i j/\r=g i j:=by
 cases d <;> cases e <;> simp only[i2]at h <;> try cases h
 split at h
 .rename_i hc;cases h;exact⟨_,_,rfl,rfl,hc,rfl⟩
 .cases h
def iX {f:PR->PR->Sem PR}{g:Int->Int->V}{gd:Int->Int->My}(ho:OpR X f (rI0 g))(hg:∀H i j,b8 K H (gd i j) (g i j)):OpR X f (rD2 K (i2 (λ_ _=>True) gd)):=by intro Qz s O H x y v u Q I rx ry h;obtain⟨fp,B,d,e,r,bk,h1,h2,hf,q⟩:=h;obtain⟨i,j,rfl,rfl,hc,rfl⟩:=zQ hf;cases h1;cases h2;exact ho Qz s O H _ _ v u Q I rx ry ⟨i,j,rfl,rfl,q _ H (h8.refl H) (hg _ i j)⟩
abbrev fQ :=i2 (λ_ _=>True) λi j=>.int (i-j)
def cX :OpR X (binaryOp .Sub) (rD2 K fQ):=iX vo λ_ _ _=>b8.int
instance:∀i j,Decidable (zF i j):=λi j=>inferInstanceAs (Decidable (_/\_/\_))
instance:∀i j,Decidable (vw i j):=λi j=>inferInstanceAs (Decidable ((_/\_)\/(_/\_)))
@[irreducible] def yF:Nat:=2 ^ 400000
def Ag :yF=2 ^ 400000:=by unfold yF;rfl
def Big (i j:Int):Prop:=vw i j\/(i.natAbs<yF/\j.natAbs<yF)
instance {i j:Int}:Decidable (Big i j):=inferInstanceAs (Decidable (_\/_))
def rR {n:Nat}{i:Int}(h:i.natAbs<2 ^ n):Builtin.Int.intBits i<=n:=by
 unfold Builtin.Int.intBits;split
 .exact Mb _
 .rename_i h0;have h0:i.natAbs≠0:=λz=>h0 (by simpa using z)
  exact(Nat.log2_lt h0).2 h
def Big.ok {i j:Int}(h:Big i j):IntMulOk i j:=by
 rcases h with h | ⟨h1,h2⟩
 .exact h.ok
 .unfold IntMulOk;have e:Builtin.Int.intTooBig ((Builtin.Int.intBits i:Int)+Builtin.Int.intBits j)=false:=by
   unfold Builtin.Int.intTooBig;rw[Ag]at h1 h2;have a:=rR h1;have b:=rR h2;have c:(bitsLine:Nat)=134217728:=by decide
   refine Mz ?_;rw[c];omega
  rw[e,OG];exact LF
def yu :OpR X (binaryOp .Mult) (rI Big λi j=>.int (i*j)):=opI λ_ _ _ _ _ _ _ hc q=>mul_int q hc.ok
abbrev ltD :=i2 (λ_ _=>True) λi j=>.bool (decide (i<j))
abbrev leD :=i2 (λ_ _=>True) λi j=>.bool (decide (i<=j))
abbrev gtD :=i2 (λ_ _=>True) λi j=>.bool (decide (j<i))
abbrev geD :=i2 (λ_ _=>True) λi j=>.bool (decide (j<=i))
def rl :OpR X (compareOp .Lt) (rD2 K ltD):=iX Ba λ_ _ _=>b8.bl
def EN :OpR X (compareOp .LtE) (rD2 K leD):=iX Fp λ_ _ _=>b8.bl
def Bf :OpR X (compareOp .Gt) (rD2 K gtD):=iX AZ λ_ _ _=>b8.bl
def EE :OpR X (compareOp .GtE) (rD2 K geD):=iX Bw λ_ _ _=>b8.bl
def M5:My->My->Option My
 | .int i,.int j=>some (.int (i+j))
 | .str x,.str y=>if x.length+y.length<=Qg then some (.str (x++y)) else none
 | .tuple xs,.tuple ys=>if xs.length+ys.length<=Qg then some (.tuple (xs++ys)) else none
 | .list xs,.list ys=>if xs.length+ys.length<=Qg then some (.list (xs++ys)) else none
 | _,_=>none
def b7.nil_of {H:Hp}{ds:List My}{xs:List V}(h:b7 K H ds xs)(e:xs=[]):ds=[]:=by subst e;exact MU.1 (by rw[<-h.length];rfl)
def E8 (hK:X.K=K):OpR X (binaryOp .Add) (rD2 K M5):=by
 walk_at "kd";cases d <;> cases e <;> simp only[M5]at hf <;> try cases hf
 .cases h1;cases h2;exact aC Qz s O H _ _ v u Q I rx ry ⟨_,_,rfl,rfl,q _ H (h8.refl H) b8.int⟩
 .cases h1;cases h2;split at hf
  .rename_i hl;cases hf;exact qG Qz s O H _ _ v u Q I rx ry ⟨_,_,rfl,rfl,hl,q _ H (h8.refl H) b8.st⟩
  .cases hf
 .obtain⟨a,xs,rfl,ha,hd⟩:=h1;obtain⟨b,ys,rfl,hb,he⟩:=h2;split at hf
  .rename_i hl;cases hf;refine wZ Qz s O H _ _ v u Q I rx ry ⟨a,b,xs,ys,rfl,rfl,f8 _ _ ha,f8 _ _ hb,by rw[hd.length,he.length];exact hl,λp hp=>q _ _ (h8.upd hp) (Q2 bk hp (b7.append he hd))⟩
  .cases hf
 .obtain⟨a,xs,rfl,ha,hd⟩:=h1;obtain⟨b,ys,rfl,hb,he⟩:=h2;split at hf
  .rename_i hl;cases hf;refine Af hK Qz s O H _ _ v u Q I rx ry ⟨a,b,xs,ys,rfl,rfl,ha.same f8,hb.same f8,by rw[hd.length,he.length];exact hl,λz=>q _ H (h8.refl H) ?_,λz=>q _ H (h8.refl H) ?_,λp hp=>q _ _ (h8.upd hp) (V1 bk hp (b7.append he hd))⟩
   .cases b7.nil_of hd z;simp only[b8,Mu];exact⟨b,ys,rfl,hb,he⟩
   .cases b7.nil_of he z;simp only[b8,Mh];exact⟨a,xs,rfl,ha,hd⟩
  .cases hf
def Df:My->My->Option My
 | .int i,.int j=>if Big i j then some (.int (i*j)) else none
 | .list xs,.int k=>if -(2 ^ 63)<=k/\k<2 ^ 63/\xs.length*k.toNat<=Qg then some (.list (List.replicate k.toNat xs).flatten) else none
 | _,_=>none
theorem b7.rep {H:Hp}{ds:List My}{xs:List V}(h:b7 K H ds xs):∀n,b7 K H (List.replicate n ds).flatten (List.replicate n xs).flatten
 | 0=>b7.nil
 | n+1=>by rw[Mi,Mi,MY,MY];exact b7.append (b7.rep h n) h
def BZ :OpR X (binaryOp .Mult) (rD2 K Df):=by
 walk_at "kd";cases d <;> cases e <;> simp only[Df]at hf <;> try cases hf
 .cases h1;cases h2;split at hf
  .rename_i hc;cases hf;exact yu Qz s O H _ _ v u Q I rx ry ⟨_,_,rfl,rfl,hc,q _ H (h8.refl H) b8.int⟩
  .cases hf
 .obtain⟨a,xs,rfl,ha,hd⟩:=h1;cases h2;split at hf
  .rename_i hc;cases hf;exact CC Qz s O H _ _ v u Q I rx ry ⟨a,_,xs,rfl,rfl,f8 _ _ ha,hc.1,hc.2.1,by rw[hd.length];exact hc.2.2,λp hp=>q _ _ (h8.upd hp) (Q2 bk hp (b7.rep hd _))⟩
  .cases hf
open PySem.SeqAt in
def eqD (neg:Bool):My->My->Option My
 | .str x,.str y=>some (.bool (if neg then !decide (x=y) else decide (x=y)))
 | d,e=>if shaped d=true/\shaped e=true then some (.bool (if neg then !PyData.eqv d e else My.eqv d e)) else none
def sq (hK:X.K=K)(hu:X.A.units+64<Qu):OpR X (compareOp .Eq) (rD2 K (eqD false)):=by
 subst hK;walk_at "kd";unfold eqD at hf;split at hf
 .cases hf;cases h1;cases h2;have z:=q _ H (h8.refl H) b8.bl;rename_i a b;have e:decide (V.str a=V.str b)=decide (a=b):=by simp
  exact xu Qz s O H _ _ v u Q I rx ry ⟨rfl,by rw[e];exact z⟩
 .split at hf
  .rename_i hs;cases hf;obtain⟨as,ra⟩:=N7 I _ x v h1.dat rx;obtain⟨bs,rb⟩:=N7 I _ y u h2.dat ry;exact eq_dataH ra rb hs.1 hs.2 hu ⟨.bl _,H,I,rfl,q _ H (h8.refl H) b8.bl⟩
  .cases hf
def gj (hK:X.K=K)(hu:X.A.units+64<Qu):OpR X (compareOp .NotEq) (rD2 K (eqD true)):=by
 subst hK;walk_at "kd";unfold eqD at hf;split at hf
 .cases hf;cases h1;cases h2;have z:=q _ H (h8.refl H) b8.bl;rename_i a b;have e:decide (V.str a=V.str b)=decide (a=b):=by simp
  exact DK Qz s O H _ _ v u Q I rx ry ⟨rfl,by rw[e];exact z⟩
 .split at hf
  .rename_i hs;cases hf;obtain⟨as,ra⟩:=N7 I _ x v h1.dat rx;obtain⟨bs,rb⟩:=N7 I _ y u h2.dat ry;exact ne_dataH ra rb hs.1 hs.2 hu ⟨.bl _,H,I,rfl,q _ H (h8.refl H) b8.bl⟩
  .cases hf
open PySem.SeqAt in
def inD (neg:Bool):My->My->Option My
 | d,.list xs=>if shaped (.list xs)=true/\shaped d=true then some (.bool (if neg then !(xs.any λy=>My.eqv y d) else xs.any λy=>My.eqv y d)) else none
 | d,.tuple xs=>if shaped (.tuple xs)=true/\shaped d=true then some (.bool (if neg then !(xs.any λy=>My.eqv y d) else xs.any λy=>My.eqv y d)) else none
 | _,_=>none
def aV (hK:X.K=K)(hu:X.A.units+65<Qu):OpR X (compareOp .In) (rD2 K (inD false)):=by
 subst hK;walk_at "kd";obtain⟨as,ra⟩:=N7 I _ x v h1.dat rx;obtain⟨bs,rb⟩:=N7 I _ y u h2.dat ry;cases e <;> simp only[inD]at hf <;> try cases hf
 .split at hf
  .rename_i hs;cases hf;exact PySem.SeqAt.in_list_reads rb ra (by have:=ME hs.1;simpa only[My.canLay0] using this) (ME hs.2) (room_in_shaped hs.2 hu) ⟨.bl _,H,I,rfl,q _ H (h8.refl H) b8.bl⟩
  .cases hf
 .split at hf
  .rename_i hs;cases hf;exact PySem.SeqAt.in_tuple_reads rb ra (by have:=ME hs.1;simpa only[My.canLay0] using this) (ME hs.2) (room_in_shaped hs.2 hu) ⟨.bl _,H,I,rfl,q _ H (h8.refl H) b8.bl⟩
  .cases hf
def nQ (hK:X.K=K)(hu:X.A.units+65<Qu):OpR X (compareOp .NotIn) (rD2 K (inD true)):=by
 subst hK;walk_at "kd";obtain⟨as,ra⟩:=N7 I _ x v h1.dat rx;obtain⟨bs,rb⟩:=N7 I _ y u h2.dat ry;cases e <;> simp only[inD]at hf <;> try cases hf
 .split at hf
  .rename_i hs;cases hf;exact PySem.SeqAt.notIn_list_reads rb ra (by have:=ME hs.1;simpa only[My.canLay0] using this) (ME hs.2) (room_in_shaped hs.2 hu) ⟨.bl _,H,I,rfl,q _ H (h8.refl H) b8.bl⟩
  .cases hf
 .split at hf
  .rename_i hs;cases hf;exact PySem.SeqAt.notIn_tuple_reads rb ra (by have:=ME hs.1;simpa only[My.canLay0] using this) (ME hs.2) (room_in_shaped hs.2 hu) ⟨.bl _,H,I,rfl,q _ H (h8.refl H) b8.bl⟩
  .cases hf
end
end
variable {p2:Pos}
section
section
variable {K:Qf}{X:Cx}
def b7.at {H:Hp}{ds:List My}{xs:List V}{i:Int}{d:My}(h:b7 K H ds xs)(e:atI ds i=some d):∃v,atI xs i=some v/\b8 K H d v:=by
 unfold atI at e ⊢;rw[h.length];cases q:ixN ds.length i with
 | none=>rw[q]at e;cases e
 | some j =>
  rw[q]at e;have e:ds[j]? = some d:=e;obtain⟨hj,_⟩:=Lj.1 e;have hx:xs[j]? = some (xs[j]'(by rw[h.length];exact hj)):=by simp
  obtain⟨d',h1,h2⟩:=h.get hx;rw[e]at h1;cases h1;exact⟨_,hx,h2⟩
def ixD:My->My->Option My
 | .list ds,.int i=>atI ds i
 | .tuple ds,.int i=>atI ds i
 | .str x,.int i=>if x.length<=Qg then(atI x.cps.toList i).map λc=>.str ⟨#[c]⟩ else none
 | _,_=>none
def B8 (hK:X.K=K):IxR X (rD2 K ixD):=by
 intro value slice Qz s O H x y v u Q I rx ry h hs;obtain⟨fp,B,d,e,r,bk,h1,h2,hf,q⟩:=h;cases d <;> cases e <;> simp only[ixD]at hf <;> try cases hf
 .cases h1;cases h2;split at hf
  .rename_i hl;obtain⟨c,e1,rfl⟩:=LK.1 hf;exact Cv value slice Qz s O H _ _ v u Q I rx ry ⟨_,_,c,rfl,rfl,hl,e1,q _ H (h8.refl H) b8.st⟩ hs
  .cases hf
 .obtain⟨a,xs,rfl,ha,hd⟩:=h1;cases h2;obtain⟨w,e1,e2⟩:=b7.at hd hf;exact vk hK value slice Qz s O H _ _ v u Q I rx ry ⟨a,xs,_,w,rfl,rfl,SqL.of (f8 _ _ ha),e1,q w H (h8.refl H) e2⟩ hs
 .obtain⟨a,xs,rfl,ha,hd⟩:=h1;cases h2;obtain⟨w,e1,e2⟩:=b7.at hd hf;exact zH hK value slice Qz s O H _ _ v u Q I rx ry ⟨a,xs,_,w,rfl,rfl,ha.same f8,e1,q w H (h8.refl H) e2⟩ hs
def gJ {α:Type}(xs:List α)(lo hi:Option Int):List α:=(xs.drop (HT.sIx xs.length 0 lo)).take (HT.sIx xs.length xs.length hi-HT.sIx xs.length 0 lo)
def uO (lo hi:Option Int):My->Option My
 | .list ds=>some (.list (gJ ds lo hi))
 | .tuple ds=>some (.tuple (gJ ds lo hi))
 | .str x=>if x.length<=Qg then some (.str (Txt.slice x lo hi)) else none
 | _=>none
theorem b7.drop {H:Hp}:∀{ds:List My} {xs:List V} (n:Nat),b7 K H ds xs->b7 K H (ds.drop n) (xs.drop n)
 | ds,xs,0,h=>h
 | [],xs,n+1,h=>by simp only[b7]at h;subst h;simp[b7]
 | d::ds,xs,n+1,h=>by simp only[b7]at h;obtain⟨y,r,rfl,h1,h2⟩:=h;simp only[List.drop_succ_cons];exact b7.drop n h2
def b7.cut {H:Hp}{ds:List My}{xs:List V}(h:b7 K H ds xs)(lo hi:Option Int):b7 K H (gJ ds lo hi) (fS xs lo hi):=by unfold gJ fS;rw[h.length];exact b7.take _ (b7.drop _ h)
def En (K:Qf):V->Option Int->Option Int->Hp->VK->Prop:=λx lo hi H Q=>∃fp B d r,BOk H B/\N8 K fp B H d x/\uO lo hi d=some r/\∀v H',h8 H H'->b8 K (hid H' B) r v->Q v H'
def kX {v:PR}{o:Option Int}(h:IsPart v o):∃p:Option (Int×Tok),v=partValue p/\p.map (·.1)=o:=by
 cases h with
 | none=>exact⟨none,rfl,rfl⟩
 | int i t=>exact⟨some (i,t),rfl,rfl⟩
def BK (hK:X.K=K):SlR X (En K):=by
 intro Qz s O H x v vl vu lo hi sl Q I rx hs pl pu h;obtain⟨fp,B,d,r,bk,h1,hf,q⟩:=h;cases d <;> simp only[uO]at hf <;> try cases hf
 .rename_i x0;cases h1;split at hf
  .rename_i hl;cases hf;obtain⟨t,rfl⟩:=rx;obtain⟨l,rfl,rfl⟩:=kX pl;obtain⟨m,rfl,rfl⟩:=kX pu;refine⟨"str",_,OA.lookup,Pa _ _ _,getItem_meets (Pa _ _ _) (by decide) OA F.entry_str_getitem (F.args_str_getitem_2 _ _) (meets_str_getitem_slice _ t sl l m none rfl) ⟨hs,?_⟩⟩;have z:=q _ H (h8.refl H) b8.st;unfold sliceMade;unfold Txt.slice at z;have e:slicePicked x0 l m none=Builtin.Str.strSliceIndices (l.map (·.1)) (m.map (·.1)) 1 x0.length:=rfl;rw[e];simp only[Option.map_none,PL];split
   .rename_i hc;rw[Lg hc]at z;exact⟨.str x0,H,I,⟨t,rfl⟩,z⟩
   .rename_i hc;rw[Lk hc]at z;refine⟨?_,⟨.str _,H,I.tok _,⟨_,rfl⟩,z⟩⟩;have:=Txt.slice_le x0 (l.map (·.1)) (m.map (·.1));unfold Txt.slice at this;rw[Lk hc]at this;exact LS this hl
  .cases hf
 .obtain⟨a,xs,rfl,ha,hd⟩:=h1;subst hK;exact sx Qz s O H _ v vl vu lo hi sl Q I rx hs pl pu ⟨a,xs,rfl,SqL.of (f8 _ _ ha),λp hp=>q _ _ (h8.upd hp) (Q2 bk hp (b7.cut hd lo hi))⟩
 .obtain⟨a,xs,rfl,ha,hd⟩:=h1;refine ya hK Qz s O H _ v vl vu lo hi sl Q I rx hs pl pu ⟨a,xs,rfl,ha.same f8,λz=>q _ H (h8.refl H) ?_,λ_ p hp=>q _ _ (h8.upd hp) (V1 bk hp (b7.cut hd lo hi))⟩;have:=b7.cut hd lo hi;rw[z.1]at this;simp only[b8];exact⟨a,xs,rfl,ha,this⟩
end
section
variable [Feeds]{K:Qf}{X:Cx}{e:Qd}{m:DE->M My}
def TOd (K:Qf)(to:TO)(m:DE->M (Option Int)):Prop:=∀(G:GF) (B:List PU) (E:DE) (F:FS) (O:St) (H:Hp) (Q:Option Int->Hp->Prop) (d:Option Int) (F':FS),SitE K G B E F O H->m E F=some (d,F') ->
 (∀H',Kp (u4 K G) H H'->FAt K G H' F'->Q d H')->to O H Q
structure Eo (K:Qf) (X:Cx) (e:Option Qd) (to:TO) (m:DE->M (Option Int)):Prop where
 po:PO X e to
 ok:TOd K to m
def oNo :DE->M (Option Int):=λ_ F=>some (none,F)
def gp:My->Option Int
 | .int i=>some i
 | _=>none
def cW {d:My}{i:Int}(h:gp d=some i):d = .int i:=by cases d <;> simp[gp]at h;rw[h]
def oI (a:DE->M My):DE->M (Option Int):=λE F=>(a E F).bind λp=>(gp p.1).bind λi=>some (some i,p.2)
def AW :Eo K X none rJ oNo:=⟨rX,λG B E F O H Q d F' I e q=>by cases e;exact q H Kp.refl I.fd⟩
def DZ (h:Ev K X e te m):Eo K X (some e) (AQ te) (oI m):=⟨mN h.pe,λG B E F O H Q d F' I e q=>by
 obtain⟨⟨x,F1⟩,e1,e⟩:=bS9 e;obtain⟨i,e2,e⟩:=bS9 e;cases e;refine h.ok G B E F O H _ x F1 I e1 λv H1 k1 f1 h1=>?_
 have:=cW e2;simp only at this;subst this;simp only[b8]at h1;exact⟨i,h1,q H1 k1 f1⟩⟩
def pK (a:DE->M My)(l u:DE->M (Option Int)):DE->M My:=λE F=>(a E F).bind λp=>(l E p.2).bind λx=>(u E x.2).bind λy=>(uO x.1 y.1 p.1).bind λz=>some (z,y.2)
def vL {lo hi:Option Qd}{tl th:TO}{ml mh:DE->M (Option Int)}(he:Eb K X e te m)(hl:Eo K X lo tl ml)(hh:Eo K X hi th mh)(hK:X.K=K:=by rfl):Ev K X (.Subscript e (.Slice lo hi none p2) pos) (tSl (En K) te tl th) (pK m ml mh) :=
 ⟨oW (BK hK) he.pe hl.po hh.po,λG B E F O H Q d F' I e q=>by
  obtain⟨⟨x,F1⟩,e1,e⟩:=bS9 e;obtain⟨⟨l,F2⟩,e2,e⟩:=bS9 e;obtain⟨⟨h,F3⟩,e3,e⟩:=bS9 e;obtain⟨z,e4,e⟩:=bS9 e;cases e;refine he.ok G B E F O H _ x F1 I e1 λv H1 k1 f1 h1=>?_
  refine hl.ok G B E F1 O H1 _ l F2 (I.step k1 f1) e2 λH2 k2 f2=>?_
  refine hh.ok G B E F2 O H2 _ h F3 (I.step (k1.trans k2) f2) e3 λH3 k3 f3=>?_
  exact⟨u4 K G,B,x,_,C8 I.bk ((k1.trans k2).trans k3) f3,h1.step (k2.trans k3) I.fB,e4,λu H4 s hu=>q u H4 (((k1.trans k2).trans k3).trans (Kp.same s)) (f3.same s) hu⟩⟩
end
section
variable {K:Qf}{X:Cx}
def X3:List My->Option My
 | [.list ds]=>some (.int ds.length)
 | [.tuple ds]=>some (.int ds.length)
 | [.str x]=>if x.length<=Qg then some (.int x.length) else none
 | _=>none
def O7 (hK:X.K=K):J3 X (.builtin "len") (rDN K X3):=by
 walk_at "kl";unfold X3 at hf;walk_at "ku"
 .obtain⟨v,rfl,a,xs,rfl,ha,hd⟩:=fk h1 rfl;have:=q _ H (h8.refl H) b8.int;rw[<-hd.length]at this;exact cJ hK Qz s O H _ us Q I r ⟨a,xs,rfl,.inl (SqL.of (f8 _ _ ha)),this⟩
 .obtain⟨v,rfl,a,xs,rfl,ha,hd⟩:=fk h1 rfl;have:=q _ H (h8.refl H) b8.int;rw[<-hd.length]at this;exact cJ hK Qz s O H _ us Q I r ⟨a,xs,rfl,.inr (ha.same f8),this⟩
 .rename_i x0;obtain⟨v,rfl,hv⟩:=fk h1 rfl;have hv:v = .str x0:=hv;subst hv;split at hf
  .rename_i hl;cases hf;exact mK Qz s O H _ us Q I r ⟨_,rfl,hl,q _ H (h8.refl H) b8.int⟩
  .cases hf
def K0:List My->Option My
 | [.list ds]=>some (.tuple ds)
 | [.tuple ds]=>some (.tuple ds)
 | _=>none
def J4 (hK:X.K=K):J3 X (.type "tuple") (rDN K K0):=by
 walk_at "kl";unfold K0 at hf;walk_at "ku"
 .obtain⟨v,rfl,a,xs,rfl,ha,hd⟩:=fk h1 rfl;exact aZ hK Qz s O H _ us Q I r ⟨a,xs,rfl,.inl ⟨SqL.of (f8 _ _ ha),λl hl=>q _ _ (h8.upd hl) (V1 bk hl hd)⟩⟩
 .obtain⟨v,rfl,hv⟩:=fk h1 rfl;have hv':=hv.tup;obtain⟨a,xs,rfl,ha,hd⟩:=hv;exact aZ hK Qz s O H _ us Q I r ⟨a,xs,rfl,.inr ⟨ha.same f8,q _ H (h8.refl H) hv'⟩⟩
def W0:List My->Option (List Int)
 | []=>some []
 | .int i::r=>(W0 r).map (i :: ·)
 | _=>none
theorem T4:∀{ds:List My} {ns:List Int},W0 ds=some ns->ds=ns.map .int
 | [],ns,h=>by cases h;rfl
 | d::r,ns,h=>by
  cases d <;> simp only[W0]at h <;> try cases h
  obtain⟨m,e,rfl⟩:=LK.1 h;rw[T4 e];rfl
theorem iD {H:Hp}:∀{ns:List Int} {xs:List V},b7 K H (ns.map .int) xs->xs=ns.map V.int
 | [],xs,h=>by simpa only[Mt,b7] using h
 | n::ns,xs,h=>by simp only[Lu,b7]at h;obtain⟨x,r,rfl,h1,h2⟩:=h;simp only[b8]at h1;rw[h1,iD h2];rfl
def U4 (d:My):Bool:=d.showable && !d.hasDict&&decide (d.depth<=50)&&decide (d.shown.length<=16000000)
end
end
section
section
variable {K:Qf}{X:Cx}
def qQ {d:My}(h:U4 d=true):Shw d 50 16000000:=by unfold U4 at h;simp only[NG,MS,Bool.not_eq_true']at h;exact⟨h.1.1.1,h.1.1.2,h.1.2,h.2⟩
def U0:List My->Option My
 | [d]=>if U4 d=true then some (.str d.shown) else none
 | _=>none
def T2 (hK:X.K=K)(hg:X.A.guards=some [])(hu:X.A.units+64<Qu):J3 X (.builtin "repr") (rDN K U0):=by
 walk_at "kl";unfold U0 at hf;walk_at "ku"
 rename_i d;split at hf
 .rename_i ho;cases hf;obtain⟨v,rfl,hv⟩:=fk h1 rfl;have sh:=qQ ho;have qq:=q _ H (h8.refl H) b8.st;cases d with
  | tuple ds =>have hd:=hv.dat;obtain⟨a,xs,rfl,ha,_⟩:=hv;exact jk hK hg hu Qz s O H _ us Q I r ⟨a,_,rfl,hd,sh,qq⟩
  | list ds =>have hd:=hv.dat;obtain⟨a,xs,rfl,ha,_⟩:=hv;exact jk hK hg hu Qz s O H _ us Q I r ⟨a,_,rfl,hd,sh,qq⟩
  | none =>cases(show v = .non from hv);obtain⟨u,rfl,rfl⟩:=Q9 r;exact PySem.P.repr_of_none ⟨.str _,H,I.tok _,⟨_,rfl⟩,by simpa only[My.shown] using qq⟩
  | bool b =>cases(show v = .bl b from hv);obtain⟨u,rfl,rfl⟩:=Q9 r;exact PySem.P.repr_of_bool ⟨.str _,H,I.tok _,⟨_,rfl⟩,by simpa only[My.shown] using qq⟩
  | int i =>
   cases(show v = .int i from hv);obtain⟨u,rfl,t,rfl⟩:=Q9 r;have hl:i.natAbs.log2<1920:=by have:=sh.sh;simpa only[My.showable,MS] using this
   exact PySem.P.repr_of_int hl ⟨.str _,H,I.tok _,⟨_,rfl⟩,by simpa only[My.shown] using qq⟩
  | str x =>
   cases(show v = .str x from hv);obtain⟨u,rfl,t,rfl⟩:=Q9 r;have hl:(reprText x).length<=Qg:=by have:=sh.ln;simp only[My.shown]at this;exact LS this (by rw[LV];decide)
   exact PySem.P.repr_of_str ⟨.str _,H,I.tok _,⟨_,rfl⟩,by simpa only[My.shown] using qq⟩ hl
  | dict b=>exact(show False from hv).elim
 .cases hf
def nX:List My->Option My
 | [.int i]=>some (.int i)
 | [.bool b]=>some (.int (if b then 1 else 0))
 | _=>none
def wq :J3 X (.type "int") (rDN K nX):=by
 walk_at "kl";unfold nX at hf;walk_at "ku"
 .rename_i i;obtain⟨v,rfl,hv⟩:=fk h1 rfl;cases(show v = .int i from hv);exact ku Qz s O H _ us Q I r (.inl ⟨i,rfl,q _ H (h8.refl H) b8.int⟩)
 .rename_i b;obtain⟨v,rfl,hv⟩:=fk h1 rfl;cases(show v = .bl b from hv);exact ku Qz s O H _ us Q I r (.inr ⟨b,rfl,q _ H (h8.refl H) b8.int⟩)
def lZ:List Int->Int
 | []=>0
 | [a]=>a
 | a::b::r=>min a (lZ (b::r))
theorem nR:∀{ns:List Int},ns≠[]->lZ ns∈ns/\∀n∈ns,lZ ns<=n
 | [],h=>absurd rfl h
 | [a],_=>⟨by simp[lZ],by simp[lZ]⟩
 | a::b::r,_=>by
  obtain⟨h1,h2⟩:=nR (ns:=b::r) (by simp);rw[lZ];constructor
  .by_cases h:a<=lZ (b::r)
   .rw[Int.min_eq_left h];simp
   .rw[Int.min_eq_right (by omega)];exact Le _ h1
  .intro n hn;rcases Lh.1 hn with rfl | hn
   .exact Int.min_le_left _ _
   .exact Int.le_trans (Int.min_le_right _ _) (h2 n hn)
def DD:List My->Option My
 | [.tuple ds]=>(W0 ds).bind λns=>if ns=[] then none else some (.int (lZ ns))
 | [.int i,.int j]=>some (.int (if j<i then j else i))
 | _=>none
def Cw (hK:X.K=K)(hc:X.calm=true):J3 X (.builtin "min") (rDN K DD):=by
 walk_at "kl";unfold DD at hf;walk_at "ku"
 .obtain⟨ns,e,hf⟩:=bS9 hf;split at hf
  .cases hf
  .rename_i hne;cases hf;cases T4 e;obtain⟨v,rfl,a,xs,rfl,ha,hd⟩:=fk h1 rfl;cases iD hd;refine uV hK hc Qz s O H _ us Q I r ⟨a,ns,rfl,ha.same f8,hne,λm hm hle=>?_⟩;obtain⟨m1,m2⟩:=nR hne;have:m=lZ ns:=by have:=hle _ m1;have:=m2 _ hm;omega
   rw[this];exact q _ H (h8.refl H) b8.int
 .rename_i i j;obtain⟨v,w,rfl,hv,hw⟩:=FR h1 rfl;cases(show v = .int i from hv);cases(show w = .int j from hw);exact tF hc Qz s O H _ us Q I r ⟨i,j,rfl,q _ H (h8.refl H) b8.int⟩
def yU:My->Option My
 | .int i=>some (.int (-i))
 | _=>none
def xK :UnR X (unaryOp .USub) (rD1 K yU):=by
 intro Qz s O H x v Q I rx h;obtain⟨fp,B,d,r,bk,h1,hf,q⟩:=h;cases d <;> simp only[yU]at hf <;> try cases hf
 rename_i i;cases(show x = .int i from h1);exact rh Qz s O H _ v Q I rx ⟨i,rfl,q _ H (h8.refl H) b8.int⟩
end
section
variable [Feeds]{K:Qf}{X:Cx}{e:Qd}{m:DE->M My}{p p3:Pos}
end
section
variable {K:Qf}{X:Cx}
def isD (neg:Bool):My->My->Option My
 | d,.none=>some (.bool (match d with | .none=>!neg | _=>neg))
 | _,_=>none
def su {B:List PU}{H:Hp}{d:My}{x:V}(h:N8 K fp B H d x):decide (x = .non)=(match d with | .none=>true | _=>false):=by
 cases d with
 | none=>cases(show x = .non from h);rfl
 | bool b=>cases(show x = .bl b from h);rfl
 | int b=>cases(show x = .int b from h);rfl
 | str b=>cases(show x = .str b from h);rfl
 | tuple ds=>obtain⟨a,xs,rfl,_⟩:=h;rfl
 | list ds=>obtain⟨a,xs,rfl,_⟩:=h;rfl
 | dict b=>exact(show False from h).elim
def vP :OpR X (compareOp .Is) (rD2 K (isD false)):=by
 walk_at "kd";cases e <;> simp only[isD]at hf <;> try cases hf
 cases(show y = .non from h2);have z:=q (.bl (decide (x = .non))) H (h8.refl H) (by rw[su h1];cases d <;> exact b8.bl);exact BA Qz s O H _ _ v u Q I rx ry ⟨rfl,z⟩
def xw :OpR X (compareOp .IsNot) (rD2 K (isD true)):=by
 walk_at "kd";cases e <;> simp only[isD]at hf <;> try cases hf
 cases(show y = .non from h2);have z:=q (.bl (!decide (x = .non))) H (h8.refl H) (by rw[su h1];cases d <;> exact b8.bl);exact AC Qz s O H _ _ v u Q I rx ry ⟨rfl,z⟩
end
end
section
section
variable [Feeds]{K:Qf}{X:Cx}{e:Qd}{m:DE->M My}{p p3:Pos}
def wx (x:Str):Str:=⟨((Builtin.Str.strSliceIndices none none (-1) x.length).filterMap (x.cps[·]?)).toArray⟩
def vH (x:Str):(wx x).length<=x.length:=by
 have h:=sliceIndicesBy_le none none (-1) (by decide) x.length;have h2:=List.length_filterMap_le (λ(i:Nat)=>x.cps[i]?) (Builtin.Str.strSliceIndices none none (-1) x.length);have e:(wx x).length=((Builtin.Str.strSliceIndices none none (-1) x.length).filterMap (x.cps[·]?)).length:=by simp[wx,Str.length]
 rw[e];exact LS h2 h
def wc:My->Option My
 | .list ds=>some (.list ds.reverse)
 | .tuple ds=>some (.tuple ds.reverse)
 | .str x=>if x.length<=Qg then some (.str (wx x)) else none
 | _=>none
def zW {j}(hK:X.K=K)(he:PE X e te):PE X (.Subscript e (.Slice none none (some (.UnaryOp .USub (.Constant (.int 1) j p) p3)) p2) pos) (tUn (rD1 K wc) te):=by
 subst hK;intro Qz s O H Q I h;refine Subscript_ (thn (he Qz s O H _ I h) λv s1 ⟨x,H1,I1,r1,q1⟩=>?_);refine wpAny_Slice ?_;rw[evalPart_none];refine Lo (Lo ?_);refine thn (mN (vA rh k8) Qz s1 O H1 (λo H2=>o=some (-1)/\H2=H1) I1 ⟨1,rfl,_,rfl,rfl,rfl⟩) λvst s2 ⟨o,H2,I2,ps,ho,hH⟩=>?_
 subst ho hH;obtain⟨fp,B,d,r,bk,h1,hf,q⟩:=q1;have I4:Inv X Qz O H2 { s2 with heap:=s2.heap.push { cls:=.type "slice",data:=.fields #[.none,.none,vst] } }:=I2.kept (t':=s2.toks) λb ob q=>Ll _ q
 show Qm (model X.prog X.w) X.A (subscriptTail e (.Slice none none (some (.UnaryOp .USub (.Constant (.int 1) j p) p3)) p2) v (.ref s2.heap.objs.size)) (EP X Qz O Q) X.xe { s2 with heap:=s2.heap.push { cls:=.type "slice",data:=.fields #[.none,.none,vst] } };cases d <;> simp only[wc]at hf <;> try cases hf
 .rename_i x0;cases(show x = .str x0 from h1);split at hf
  .rename_i hl;cases hf;obtain⟨t,rfl⟩:=r1;obtain⟨l,rfl,e2⟩:=kX ps;obtain⟨⟨i0,t0⟩,rfl⟩:∃z,l=some z:=by
    cases l with
    | none=>cases e2
    | some z=>exact⟨z,rfl⟩
   simp at e2;subst e2;have z:=q _ H2 (h8.refl H2) b8.st;refine tail_any (ops:=[.str x0 t,.ref s2.heap.objs.size]) (Pa _ _ _) OA.lookup (getItem_meets (Pa _ _ _) (by decide) OA F.entry_str_getitem (F.args_str_getitem_2 _ _) (meets_str_getitem_slice x0 t s2.heap.objs.size none none (some (-1,t0)) rfl) ⟨⟨_,LI _ rfl,rfl,rfl⟩,?_⟩) (by with_unfolding_all rfl);unfold sliceMade;rw[Lk (by simp)];exact⟨LS (vH x0) hl,⟨.str (wx x0),H2,I4.tok _,⟨_,rfl⟩,z⟩⟩
  .cases hf
 .obtain⟨a,xs,rfl,ha,hd⟩:=h1;cases r1;obtain⟨its,r,ht,hz⟩:=I4.list (SqL.of (K:=X.K) (f8 _ _ ha));have hlen:=r.length;refine tail_any (ops:=[.ref a,.ref s2.heap.objs.size]) ht.isList.typeIs slot_list_getitem.lookup (wpAny_getItem_list_slice ht.isList (Pl ..) .none .none ps (by decide) ?_ (by rw[Ls] <;> omega)) (by with_unfolding_all rfl);rw[PySem.W.krv_pick];refine⟨.ref _,_,I4.laid (t':=s2.toks) (o:=.lst xs.reverse) (λb ob q=>Ll _ q) (Ln _) ?_,rfl,?_⟩
  .exact⟨by rw[Pg];exact hz,its.reverse,0,r.reverse,LI _ rfl⟩
  .have hf:=I4.hok.fresh (Ln _);exact q _ _ (h8.upd hf) (Q2 bk hf (b7.reverse hd))
 .obtain⟨a,xs,rfl,ha,hd⟩:=h1;cases r1;obtain⟨its,r,ht,hz⟩:=I4.tuple (ha.same f8);have hlen:its.toArray.size=xs.length:=by rw[Ls];exact r.length.symm
  refine tail_any (ops:=[.ref a,.ref s2.heap.objs.size]) ht.typeIs Mf.lookup (HT.getItem_tuple_rev ht (Pl ..) ps ?_ (by rw[hlen];exact hz)) (by with_unfolding_all rfl);refine⟨.ref _,_,I4.laid (t':=s2.toks) (o:=.tup xs.reverse) (λb ob q=>Ll _ q) (Ln _) ?_,rfl,?_⟩
  .exact⟨by rw[Pg];exact hz,_,r.reverse,Os _ _⟩
  .have hf:=I4.hok.fresh (Ln _);exact q _ _ (h8.upd hf) (V1 bk hf (b7.reverse hd))
def BN {j}(h:Eb K X e te m)(hK:X.K=K:=by rfl):Ev K X (.Subscript e (.Slice none none (some (.UnaryOp .USub (.Constant (.int 1) j p) p3)) p2) pos) (tUn (rD1 K wc) te) (s1 wc m):=⟨zW hK h.pe,AU h.ok⟩
end
end
end L3
namespace L3
open PySem PySem.Spec L2
def fN:fillsNumberSlot (.type "tuple") "mul" = pure false :=
 fillsNumberSlot_seq (id:="tuple.__mul__") (r:=some (.builtin "tuple.__rmul__")) Og.lookup (by decide +kernel) F.slot_tuple_rmul.lookup (by decide +kernel)
def lV:seqRepeat? (.type "tuple")=pure (some (.builtin "tuple.__mul__")):=by unfold seqRepeat?;rw[seqSlot_of (T:="tuple") (name:="__mul__") (id:="tuple.__mul__") Og.lookup (by decide +kernel),seqSlot_of (T:="tuple") (name:="__rmul__") (id:="tuple.__rmul__") F.slot_tuple_rmul.lookup (by decide +kernel)];rfl
def iw (a:Int)(t:Tok)(l:PU)(items:Array PR)(n:Nat)(dd:Option PU)(sl:Array (Option PR)) :
  Meets (Builtin.«int.__rmul__» ⟨[.int a t,.ref l],[]⟩) (λ_ R s=>s.heap.get? l=some { cls:=.type "tuple",dict:=dd,data:=.seq items n,slots:=sl }/\R (.ok (.ret PR.notImplemented)) s) :=
 .of_wp λprog w A R s h=>by obtain⟨hp,g,d,tk,os⟩:=s;obtain⟨hl,h⟩:=h;wp_walk;exact⟨_,rfl,h⟩
def rf (l:PU)(items:Array PR)(n:Nat)(dd:Option PU)(sl:Array (Option PR))(k:Int)(u:Tok)(hc0:(decide (k < -(2 ^ 63))||decide (k >= 2 ^ 63))=false)(hc1:(items.isEmpty||k == 1)=true) :
  Meets (Builtin.«tuple.__mul__» ⟨[.ref l,.int k u],[]⟩) (λ_ R s=>s.heap.get? l=some { cls:=.type "tuple",dict:=dd,data:=.seq items n,slots:=sl }/\R (.ok (.ret (.ref l))) s) :=
 .of_wp λprog w A R s h=>by obtain⟨hp,g,d,tk,os⟩:=s;obtain⟨hl,h⟩:=h;have f1:=AutoSeq1.idx_int;have f2:=OB;have f3:=OR;have f4:=OJ;have f5:=OK;wp_walk;refine Pe (by rw[hc0];rfl) ?_;wp_walk;exact⟨_,rfl,h⟩
def pP (l:PU)(items:Array PR)(n:Nat)(dd:Option PU)(sl:Array (Option PR))(k:Int)(u:Tok)(hc0:(decide (k < -(2 ^ 63))||decide (k >= 2 ^ 63))=false)(hc1:(items.isEmpty||k == 1)=false)(hc2:(decide (k<=0)||items.isEmpty)=true) :
  Meets (Builtin.«tuple.__mul__» ⟨[.ref l,.int k u],[]⟩) (λ_ R s=>s.heap.get? l=some { cls:=.type "tuple",dict:=dd,data:=.seq items n,slots:=sl }/\R (.ok (.ret (.ref s.heap.objs.size))) { s with heap:=s.heap.push { cls:=.type "tuple",data:=.seq #[] } }) :=
 .of_wp λprog w A R s h=>by obtain⟨hp,g,d,tk,os⟩:=s;obtain⟨hl,h⟩:=h;have f1:=AutoSeq1.idx_int;have f2:=OB;have f3:=OR;have f4:=OJ;have f5:=OK;wp_walk;refine Pe (by rw[hc0];rfl) ?_;wp_walk;exact⟨_,rfl,h⟩
def pO (l:PU)(items:Array PR)(n:Nat)(dd:Option PU)(sl:Array (Option PR))(k:Int)(u:Tok)(hc0:(decide (k < -(2 ^ 63))||decide (k >= 2 ^ 63))=false)(hc1:(items.isEmpty||k == 1)=false)(hc2:(decide (k<=0)||items.isEmpty)=false)(hc3:decide ((items.size:Int)*k > (2 ^ 63-1) / 8)=false)(hc4:Builtin.Tuple.tupleTooMany ((items.size:Int)*k)=false)
  (hsz:(List.foldl (λx1 x2=>x1++x2) #[] (List.replicate k.toNat items)).size<=Qg) :
  Meets (Builtin.«tuple.__mul__» ⟨[.ref l,.int k u],[]⟩) (λ_ R s=>s.heap.get? l=some { cls:=.type "tuple",dict:=dd,data:=.seq items n,slots:=sl }/\R (.ok (.ret (.ref s.heap.objs.size))) { s with heap:=s.heap.push { cls:=.type "tuple",data:=.seq (List.foldl (λx1 x2=>x1++x2) #[] (List.replicate k.toNat items)) } }) :=
 .of_wp λprog w A R s h=>by obtain⟨hp,g,d,tk,os⟩:=s;obtain⟨hl,h⟩:=h;have f1:=AutoSeq1.idx_int;have f2:=OB;have f3:=OR;have f4:=OJ;have f5:=OK;wp_walk;refine Pe (by rw[hc0];rfl) ?_;wp_walk;refine Pe hc3 ?_;wp_walk;exact⟨_,rfl,h⟩
section
open PyProof.Rows
variable {K:Qf}{X:Cx}
def R0:My->My->Option My
 | .tuple xs,.int k=>if -(2 ^ 63)<=k/\k<2 ^ 63/\xs.length*k.toNat<=Qg then some (.tuple (List.replicate k.toNat xs).flatten) else none
 | d,e=>Df d e
def zV (hK:X.K=K):OpR X (binaryOp .Mult) (λx y H Q=>∃l k xs,x = .ref l/\y = .int k/\SqT K H l xs /\ -(2 ^ 63)<=k/\k<2 ^ 63/\xs.length*k.toNat<=Qg /\
  ((List.replicate k.toNat xs).flatten=xs->Q (.ref l) H)/\∀p,H p=none->Q (.ref p) (upd H p (.tup (List.replicate k.toNat xs).flatten))):=by
 subst hK;walk_at "kt";obtain⟨l,k,xs,rfl,rfl,hq,h1,h2,hz,q0,q1⟩:=h;cases rx;obtain⟨t,rfl⟩:=ry;obtain⟨its,r,p,hl⟩:=I.tuple hq;have hlen:=r.length;obtain⟨⟨cls,dd,data,sl⟩,ho,hc,n,hd⟩:=id p;simp only at hc hd;subst hc hd;have hc0:(decide (k < -(2 ^ 63))||decide (k >= 2 ^ 63))=false:=by rw[Mz (by omega),Mz (by omega)];rfl
 have e1:s.TypeIs (.ref l) "tuple":=⟨_,ho,rfl⟩;refine wpAny_binaryOp_repeat_ref (T:="tuple") (U:="int") (by decide) e1 (λs'=>typeIs_int s' k t) fN F.fills_int_mul Pb lV F.slot_int_index.lookup
  (Oe Pb (typeIs_int s k t) F.entry_int_rmul (F.args_int_rmul_2 _ _) (iw k t l its.toArray n dd sl) ⟨ho,rfl,e1,?_⟩)
 by_cases c1:(its.toArray.isEmpty||k == 1)=true
 .refine Oe Og e1 F.entry_tuple_mul (Po _ _) (rf l its.toArray n dd sl k t hc0 c1) ⟨ho,⟨.ref l,H,I,rfl,q0 ?_⟩⟩;simp only[Bool.or_eq_true,beq_iff_eq]at c1;rcases c1 with c1 | c1
  .have:xs=[]:=by
    cases r with
    | nil=>rfl
    | cons a b=>simp at c1
   subst this;simp
  .subst c1;simp
 .have c1:(its.toArray.isEmpty||k == 1)=false:=by simpa using c1
  by_cases c2:(decide (k<=0)||its.toArray.isEmpty)=true
  .refine Oe Og e1 F.entry_tuple_mul (Po _ _) (pP l its.toArray n dd sl k t hc0 c1 c2) ⟨ho,?_⟩;have ez:(List.replicate k.toNat xs).flatten=[]:=by
    rw[Bool.or_eq_false_iff]at c1;rw[c1.1,Bool.or_false]at c2;have:k.toNat=0:=by have:=Mc c2;omega
    rw[this];rfl
   have z:=q1 _ I.fresh;rw[ez]at z;exact⟨.ref _,_,I.laid (t':=s.toks) (o:=.tup []) (λb ob q=>Ll _ q) (Ln _) ⟨Mb _,[],.nil,Os _ _⟩,rfl,z⟩
  .have c2:(decide (k<=0)||its.toArray.isEmpty)=false:=by simpa using c2
   have hk0:0<k:=by rw[Bool.or_eq_false_iff]at c2;have:=MG c2.1;omega
   have hm:(its.toArray.size:Int)*k<=Qg:=by obtain⟨j,rfl⟩:∃j:Nat,k=j:=⟨k.toNat,by omega⟩;rw[Ls,<-hlen];simp only[MR]at hz;exact_mod_cast hz
   have hfold:List.foldl (λx1 x2=>x1++x2) #[] (List.replicate k.toNat its.toArray)=(List.replicate k.toNat its).flatten.toArray:=by have:=fq its k.toNat [];rw[Mu]at this;exact this
   have hsl:(Qg:Int)<=(2 ^ 63-1) / 8:=by rw[LV];decide
   refine Oe Og e1 F.entry_tuple_mul (Po _ _) (pO l its.toArray n dd sl k t hc0 c1 c2 (Mz (by omega)) (Mz (by omega)) ?_) ⟨ho,?_⟩
   .rw[hfold,Ls,ll,<-hlen,Nat.mul_comm];exact hz
   .rw[hfold];exact⟨.ref _,_,I.laid (t':=s.toks) (o:=.tup (List.replicate k.toNat xs).flatten) (λb ob q=>Ll _ q) (Ln _) ⟨by rw[ll,Nat.mul_comm];exact hz,_,r.rep k.toNat,Os _ _⟩,rfl,q1 _ I.fresh⟩
def aA (hK:X.K=K):OpR X (binaryOp .Mult) (rD2 K R0):=by
 walk_at "kd";unfold R0 at hf;split at hf
 .rename_i ds k;obtain⟨a,xs,rfl,ha,hd⟩:=h1;cases(show y = .int k from h2);split at hf
  .rename_i hc;cases hf;refine zV hK Qz s O H _ _ v u Q I rx ry ⟨a,k,xs,rfl,rfl,ha.same f8,hc.1,hc.2.1,by rw[hd.length];exact hc.2.2,λe=>q _ H (h8.refl H) ?_,λp hp=>q _ _ (h8.upd hp) (V1 bk hp (b7.rep hd _))⟩;have:=b7.rep hd k.toNat;rw[e]at this;simp only[b8];exact⟨a,xs,rfl,ha,this⟩
  .cases hf
 .exact BZ Qz s O H x y v u Q I rx ry ⟨fp,B,d,e,r,bk,h1,h2,hf,q⟩
end
end L3
namespace L3
open PySem PySem.Spec PyProof.Rows L2
variable {iter tg:Qd}{te:TE}{pos:Pos}{es:List Qd}{br:List My->DE->Option DE}{o:HO}{wi:TI}
section
section
variable [Feeds]
def fO (K:Qf)(P:Hp->List PU->Prop)(J:It)(items:List My):Prop:=∀H B,P H B ->
 (∀i d,items[i]? = some d->J.go i H/\∀x H2,J.yld i H x H2->h8 H H2/\(BOk H B->b8 K (hid H2 B) d x))/\J.stop items.length H
def TId (K:Qf)(wi:TI)(mi:DE->M (List My)):Prop:=∀(G:GF) (B:List PU) (E:DE) (F:FS) (O:St) (H:Hp) (R:It->Hp->Prop) (ds:List My) (F':FS),SitE K G B E F O H->mi E F=some (ds,F') ->
 (∀J H',Kp (u4 K G) H H'->FAt K G H' F'->fO K (λH2 B2=>h8 (hid H' B) (hid H2 B2)) J ds->R J H')->wi O H R
def TIs (K:Qf)(wi:TI)(mi:DE->M (List My)):Prop:=∀(G:GF) (B:List PU) (E:DE) (F:FS) (O:St) (H:Hp) (R:It->Hp->Prop) (ds:List My) (F':FS),SitE K G B E F O H->mi E F=some (ds,F') ->
 (∀J H',Kp (u4 K G) H H'->FAt K G H' F'->fO K (λH2 B2=>Kp (u4 K G) H' H2/\h8 (hid H' B) (hid H2 B2)) J ds->R J H')->wi O H R
structure Ei (K:Qf) (X:Cx) (tg iter:Qd) (wi:TI) (mi:DE->M (List My)):Prop where
 pi:PI X tg iter wi
 ok:TId K wi mi
structure Eib (K:Qf) (X:Cx) (tg iter:Qd) (wi:TI) (mi:DE->M (List My)):Prop where
 pi:PI X tg iter wi
 ok:TIs K wi mi
variable {K:Qf}{X:Cx}{e:Qd}{m:DE->M My}{p:Pos}
def Cf (K:Qf)(tl:TE):TI:=λO H R=>tl O H λx H1=>∃a,x = .ref a/\(((∃xs,SqL K H1 a xs)/\R (Itl K a) H1)\/((∃xs,SqT K H1 a xs)/\R (Itt K a) H1))
def xo {l:Qd}{tl:TE}(hK:X.K=K)(hl:PE X l tl):PI X tg l (Cf K tl):=by
 subst hK;intro Qz s O H R I h;refine thn (hl Qz s O H _ I h) λv s1 ⟨x,H1,I1,r1,q1⟩=>?_
 obtain⟨a,e,q⟩:=q1;subst e;cases r1;rcases q with ⟨⟨xs,hq⟩,q⟩ | ⟨⟨xs,hq⟩,q⟩
 .obtain⟨its,rv,p,hz⟩:=I1.list hq;refine wpAny_pyIter_list p.isList ?_;refine⟨s1.heap.objs.size,[s1.heap.objs.size],_,_,H1,rfl,I1.kept (t':=s1.toks) λb o e=>Ll _ e,ua a _,⟨_,LI _ rfl,rfl,rfl⟩,λb hb=>?_,q⟩;have e:b=s1.heap.objs.size:=by simpa using hb
  subst e;exact I1.fpOk (Ln _) (I1.hok.fresh (Ln _))
 .obtain⟨its,rv,p,hz⟩:=I1.tuple hq;refine NJ (show s1.heap.IsTuple a its.toArray from p) ?_;refine⟨s1.heap.objs.size,[s1.heap.objs.size],_,_,H1,rfl,I1.kept (t':=s1.toks) λb o e=>Ll _ e,pE a _,⟨_,LI _ rfl,rfl,rfl⟩,λb hb=>?_,q⟩;have e:b=s1.heap.objs.size:=by simpa using hb
  subst e;exact I1.fpOk (Ln _) (I1.hok.fresh (Ln _))
def ki:My->Option (List My)
 | .list ds=>some ds
 | .tuple ds=>some ds
 | _=>none
def R5 (a:DE->M My):DE->M (List My):=λE F=>(a E F).bind λp=>(ki p.1).bind λds=>some (ds,p.2)
def b7.item {H:Hp}{ds:List My}{xs:List V}{i:Nat}{d:My}(h:b7 K H ds xs)(e:ds[i]? = some d):∃v,xs[i]? = some v/\b8 K H d v:=by
 obtain⟨hj,_⟩:=Lj.1 e;have hx:xs[i]? = some (xs[i]'(by rw[h.length];exact hj)):=by simp
 obtain⟨d',h1,h2⟩:=h.get hx;rw[e]at h1;cases h1;exact⟨_,hx,h2⟩
def rZ {P:Hp->List PU->Prop}{a:PU}{ds:List My}{xs:List V}(h:∀H B,P H B->H a=some (.lst xs)/\b7 K (hid H B) ds xs):fO K P (Itl K a) ds:=λH B hp=>by obtain⟨h1,h2⟩:=h H B hp;refine⟨λi d e=>?_,⟨xs,SqL.of h1,by rw[h2.length];exact Ln _⟩⟩;obtain⟨v,e1,e2⟩:=b7.item h2 e;refine⟨⟨xs,v,SqL.of h1,e1⟩,λx H2 y=>?_⟩;obtain⟨rfl,y⟩:=y;have:=y xs (SqL.of h1);rw[e1]at this;cases this;exact⟨h8.refl _,λ_=>e2⟩
def xO {P:Hp->List PU->Prop}{a:PU}{ds:List My}{xs:List V}(h:∀H B,P H B->SqT K H a xs/\b7 K (hid H B) ds xs):fO K P (Itt K a) ds:=λH B hp=>by obtain⟨h1,h2⟩:=h H B hp;refine⟨λi d e=>?_,⟨xs,h1,by rw[h2.length];exact Ln _⟩⟩;obtain⟨v,e1,e2⟩:=b7.item h2 e;refine⟨⟨xs,v,h1,e1⟩,λx H2 y=>?_⟩;obtain⟨rfl,y⟩:=y;have:=y xs h1;rw[e1]at this;cases this;exact⟨h8.refl _,λ_=>e2⟩
def bE (h:Ev K X e te m)(hK:X.K=K:=by rfl):Ei K X tg e (Cf K te) (R5 m):=⟨xo hK h.pe,λG B E F O H R ds F' I e q=>by
 walk_at "kk"
 cases y with
 | list ys =>cases e2;simp only[b8]at h1;obtain⟨a,xs,rfl,ha,hd⟩:=h1;refine⟨a,rfl,.inl ⟨⟨xs,SqL.of (f8 _ _ ha)⟩,q _ H1 k1 f1 (rZ λH2 B2 s=>⟨f8 _ _ (s _ _ ha),hd.same s⟩)⟩⟩
 | tuple ys =>cases e2;simp only[b8]at h1;obtain⟨a,xs,rfl,ha,hd⟩:=h1;refine⟨a,rfl,.inr ⟨⟨xs,ha.same f8⟩,q _ H1 k1 f1 (xO λH2 B2 s=>⟨(ha.same s).same f8,hd.same s⟩)⟩⟩
 | _=>cases e2⟩
def T1 (h:Eb K X e te m)(hK:X.K=K:=by rfl):Eib K X tg e (Cf K te) (R5 m):=⟨xo hK h.pe,λG B E F O H R ds F' I e q=>by
 walk_at "kk"
 cases y with
 | list ys =>cases e2;obtain⟨a,xs,rfl,ha,hd⟩:=h1;refine⟨a,rfl,.inl ⟨⟨xs,SqL.of (f8 _ _ ha)⟩,q _ H1 k1 f1 (rZ λH2 B2 k=>⟨f8 _ _ (k.1.hid (B:=u4 K G) (λ_ z=>z) _ _ ha),hd.same k.2⟩)⟩⟩
 | tuple ys =>cases e2;obtain⟨a,xs,rfl,ha,hd⟩:=h1;refine⟨a,rfl,.inr ⟨⟨xs,ha.same f8⟩,q _ H1 k1 f1 (xO λH2 B2 k=>⟨(ha.same k.2).same f8,hd.same k.2⟩)⟩⟩
 | _=>cases e2⟩
def aQ (lo:Int)(n:Nat):List My:=(List.range n).map λ(i:Nat)=>.int (lo+i)
def CP {P:Hp->List PU->Prop}{lo:Int}{n:Nat}:fO K P (Itr lo n) (aQ lo n):=λH B _=>by refine⟨λi d e=>?_,by show n<=_;simp[aQ]⟩;unfold aQ at e;rw[Lv]at e;obtain⟨j,e1,rfl⟩:=LK.1 e;obtain⟨hj,e2⟩:=Lj.1 e1;simp at hj e2;subst e2;refine⟨hj,λx H2 y=>?_⟩;obtain⟨rfl,rfl⟩:=y;exact⟨h8.refl _,λ_=>b8.int⟩
def U1:List My->Option (List My)
 | [.int j]=>if -(2 ^ 62)<=j/\j<2 ^ 62 then some (aQ 0 j.toNat) else none
 | _=>none
def mv:List My->Option (List My)
 | [.int i,.int j]=>if -(2 ^ 62)<=i/\i<2 ^ 62 /\ -(2 ^ 62)<=j/\j<2 ^ 62 then some (aQ i (j-i).toNat) else none
 | _=>none
def eI (a:DE->M (List My)):DE->M (List My):=λE F=>(a E F).bind λp=>(U1 p.1).bind λds=>some (ds,p.2)
def bV {a:Qd}{ta:TA}{ms:DE->M (List My)}(h:Ea K X [a] ta ms)(hm:X.mg "range" = none)(hg:Gl X "range":=by rfl)(hs:Qh [a] X.env=[(false,eval a X.env)]:=by rfl):Ei K X tg (.Call (.Name "range" p) [a] [] pos) (vQ ta) (eI ms):=⟨kD hg hm h.pa hs,λG B E F O H R ds F' I e q=>by
 obtain⟨⟨ys,F1⟩,e1,e⟩:=bS9 e;obtain⟨z,e2,e⟩:=bS9 e;cases e;refine h.ok G B E F O H _ ys F1 I e1 λvs H1 k1 f1 h1=>?_
 unfold U1 at e2;split at e2
 .rename_i j hj;split at e2
  .rename_i hc;cases e2;have hj:ys=[.int j]:=hj;subst hj;simp only[b7]at h1;obtain⟨x,r,rfl,h2,rfl⟩:=h1;simp only[b8]at h2;subst h2;exact⟨j,rfl,hc.1,hc.2,q _ H1 k1 f1 CP⟩
  .cases e2
 .cases e2⟩
def TGd (K:Qf)(g:TG)(bd:My->DE->Option DE):Prop:=∀(G:GF) (B:List PU) (E:DE) (F:FS) (O:St) (H:Hp) (x:V) (d:My) (E':DE) (Q:St->Hp->Prop),SitE K G B E F O H->b8 K (hid H B) d x->bd d E=some E' ->
 (∀O',SitE K G B E' F O' H->(∀i:Nat,(∀y,E'[i]? ≠ some (some (.dat y)))->E'[i]? = E[i]? /\ O'[i]? = O[i]?)->Q O' H)->g x O H Q
def FP (K:Qf)(g:TGs)(bd:List My->DE->Option DE):Prop:=∀(G:GF) (B:List PU) (E:DE) (F:FS) (O:St) (H:Hp) (xs:List V) (ds:List My) (E':DE) (Q:St->Hp->Prop),SitE K G B E F O H->b7 K (hid H B) ds xs->bd ds E=some E' ->
 (∀O',SitE K G B E' F O' H->(∀i:Nat,(∀y,E'[i]? ≠ some (some (.dat y)))->E'[i]? = E[i]? /\ O'[i]? = O[i]?)->Q O' H)->g xs O H Q
structure Eg (K:Qf) (X:Cx) (tg:Qd) (g:TG) (bd:My->DE->Option DE):Prop where
 pg:PG X tg g
 ok:TGd K g bd
structure Egs (K:Qf) (X:Cx) (tgs:List Qd) (g:TGs) (bd:List My->DE->Option DE):Prop where
 pg:PGs X tgs g
 ok:FP K g bd
def bN (i:Nat):My->DE->Option DE:=λd E=>if i<E.length then some (E.set i (some (.dat d))) else none
def SitE.set {G:GF}{B:List PU}{E:DE}{F:FS}{O:St}{H:Hp}{i:Nat}{d:My}{v:V}(I:SitE K G B E F O H)(h:b8 K (hid H B) d v)(hi:i<E.length):SitE K G B (E.set i (some (.dat d))) F (O.set i (some v)) H:=by
 refine⟨I.fd,I.fB,I.bk,by rw[MB,MB];exact I.ln,λj x e=>?_⟩;have hs:i < O.length:=by rw[<-I.ln];exact hi
 by_cases hj:i=j
 .subst hj;rw[Lp hi]at e;cases e;exact⟨v,by rw[Lp hs],h⟩
 .rw[Lm hj]at e;rw[Lm hj];exact I.loc j x e
def v9 {i:Nat}{x:Str}(hN:X.N.Nodup)(hi:X.N[i]? = some x:=by rfl)(hx:Loc X.env.scope x:=by walk_at "v")(hf:X.fn x=true\/X.env.scope.names.lookup x=some .local:=by walk_at "v"):Eg K X (.Name x pos) (M6 i) (bN i):=⟨gQ hN hi hx hf,λG B E F O H x d E' Q I h e q=>by
 unfold bN at e;split at e
 .rename_i hl;cases e;refine q _ (I.set h hl) λj hj=>?_
  by_cases hij:i=j
  .subst hij;exact absurd (Lp hl) (hj d)
  .rw[Lm hij,Lm hij];exact⟨rfl,rfl⟩
 .cases e⟩
def M1 :List My->DE->Option DE:=λds E=>if ds.isEmpty then some E else none
def i9 (a:My->DE->Option DE)(r:List My->DE->Option DE):List My->DE->Option DE
 | d::ds,E=>(a d E).bind λE1=>r ds E1
 | [],_=>none
def A8 :Egs K X [] Ce M1:=⟨rA,λG B E F O H xs ds E' Q I h e q=>by
 cases ds with
 | nil=>cases e;simp only[b7]at h;exact⟨h,q O I λ_ _=>⟨rfl,rfl⟩⟩
 | cons d r=>cases e⟩
def f7 {t:TG}{u:TGs}{ba:My->DE->Option DE}(h1:Eg K X e t ba)(h2:Egs K X es u br)
  (hs:(Qt (e::es) X.env).map (·.2)=assign e X.env::(Qt es X.env).map (·.2):=by rfl):Egs K X (e::es) (rq t u) (i9 ba br):=⟨ir h1.pg h2.pg hs,λG B E F O H xs ds E' Q I h e q=>by
 cases ds with
 | nil=>cases e
 | cons d r =>
  obtain⟨E1,e1,e⟩:=bS9 e;simp only[b7]at h;obtain⟨x,rr,rfl,hx,hr⟩:=h;refine⟨x,rr,rfl,h1.ok G B E F O H x d E1 _ I hx e1 λσ1 I1 k1=>?_⟩;refine h2.ok G B E1 F σ1 H rr r E' _ I1 hr e λσ2 I2 k2=>q σ2 I2 λi hi=>?_
  obtain⟨a1,a2⟩:=k2 i hi;obtain⟨b1,b2⟩:=k1 i (λy z=>hi y (a1.trans z));exact⟨a1.trans b1,a2.trans b2⟩⟩
def L6 (n:Nat)(r:List My->DE->Option DE):My->DE->Option DE
 | .tuple ds,E=>if ds.length=n then r ds E else none
 | _,_=>none
def D7 {k:Nat}{t:TGs}{n:Nat}(hc:X.calm=true)(h:Egs K X es t br)(hK:X.K=K:=by rfl)
  (hn:(Qt es X.env).length=n:=by rfl) (hst:(Qt es X.env).findIdx? (·.1)=none:=by rfl):Eg K X (.Tuple es k pos) (zK K n t) (L6 n br):=⟨rT hK hc h.pg hn hst,λG B E F O H x d E' Q I hd e q=>by
 cases d <;> simp only[L6]at e <;> try cases e
 split at e
 .rename_i hl;simp only[b8]at hd;obtain⟨a,xs,rfl,ha,hx⟩:=hd;exact⟨a,xs,rfl,ha.same f8,by rw[hx.length];exact hl,h.ok G B E F O H xs _ E' Q I hx e q⟩
 .cases e⟩
def iM (k:Nat)(cap:List Nat)(E:DE):DE:=List.replicate k none++cap.map λj=>(E[j]?).join
def SitE.cap {G:GF}{B:List PU}{E:DE}{F:FS}{O:St}{H:Hp}(I:SitE K G B E F O H)(k:Nat)(cap:List Nat):SitE K G B (iM k cap E) F (dk k cap O) H:=by
 refine⟨I.fd,I.fB,I.bk,by simp[iM,dk],λi x e=>?_⟩;unfold iM at e;by_cases hi:i<k
 .rw[LU (by simpa using hi),Mg,Lg hi]at e;cases e
 .rw[LL (by simpa using hi),Nu,Lv]at e;obtain⟨j,hj,hv⟩:=LK.1 e;have hE:E[j]? = some (some x):=by
   cases q:E[j]? with
   | none=>rw[q]at hv;cases hv
   | some o=>rw[q]at hv;exact MF some hv
  obtain⟨v,h1,h2⟩:=I.loc j x hE;refine⟨v,?_,h2⟩;unfold dk;rw[LL (by simpa using hi),Nu,Lv,hj,PQ,h1];rfl
def SitE.more {G:GF}{B:List PU}{E:DE}{F:FS}{O:St}{H:Hp}{D:PU}(I:SitE K G B E F O H)(hD:H D=none):SitE K G (D::B) E F O (upd H D o):=by
 have hn:D ∉ B:=I.bk.nin hD;have e1:hid (upd H D o) (D::B)=hid H B:=by
  funext b;by_cases hb:b=D
  .subst hb;rw[D2 Lq,i6 hn,hD]
  .by_cases hB:b∈B
   .rw[D2 hB,D2 (Le _ hB)]
   .rw[i6 hB,i6 (by simp[hb,hB]),b9 hb]
 refine⟨I.fd.same (h8.upd hD),λb hb=>Le _ (I.fB b hb),λb hb=>?_,I.ln,λi x e=>?_⟩
 .rcases Lh.1 hb with rfl | hb
  .exact⟨o,d7⟩
  .obtain⟨u,e⟩:=I.bk b hb;exact⟨u,by rw[b9 (i3 e hD)];exact e⟩
 .obtain⟨v,h1,h2⟩:=I.loc i x e;refine⟨v,h1,?_⟩;cases x with
  | dat d=>show b8 K (hid (upd H D o) (D::B)) d v;rw[e1];exact h2
  | feed=>exact h2
  | fn _=>exact h2
  | adr _=>exact h2
  | own ds =>obtain⟨a,xs,ea,hB,hf,ha,hd⟩:=h2;exact⟨a,xs,ea,Le _ hB,hf,by rw[b9 (i3 ha hD)];exact ha,by rw[e1];exact hd⟩
def SitE.wr {G:GF}{B:List PU}{E:DE}{F:FS}{O:St}{H:Hp}{D:PU}(I:SitE K G (D::B) E F O H)(hf:D ∉ u4 K G)(hown:∀(i:Nat) (ds:List My),E[i]? = some (some (DV.own ds))->O[i]? ≠ some (some (V.ref D))){acc:List V}(hD:H D=some (.lst acc)):SitE K G (D::B) E F O (upd H D o):=by
 have e1:hid (upd H D o) (D::B)=hid H (D::B):=X9 Lq;refine⟨I.fd.congr λb hb=>b9 (λe=>hb.elim (λhb=>hf (e▸hb)) λ⟨φ,q⟩=>by rw[e,hD]at q;cases q),I.fB,λb hb=>?_,I.ln,λi x e=>?_⟩
 .by_cases h:b=D
  .subst h;exact⟨o,d7⟩
  .rw[b9 h];exact I.bk b hb
 .obtain⟨v,h1,h2⟩:=I.loc i x e;refine⟨v,h1,?_⟩;cases x with
  | dat d=>show b8 K (hid (upd H D o) (D::B)) d v;rw[e1];exact h2
  | feed=>exact h2
  | fn _=>exact h2
  | adr _=>exact h2
  | own ds =>
   obtain⟨a,xs,rfl,hB,hfa,ha,hd⟩:=h2;have hne:a≠D:=λz=>hown i ds e (by rw[<-z];exact h1)
   exact⟨a,xs,rfl,hB,hfa,by rw[b9 hne];exact ha,by rw[e1];exact hd⟩
structure Ets (K:Qf) (X:Cx) (ifs:List Qd) (tt:TT) (m:DE->M Bool):Prop where
 pts:PTs X ifs tt
 ok:TTd K tt m
def Z3 :DE->M Bool:=λ_ F=>some (true,F)
def O4 :Ets K X [] ET Z3:=⟨Ac,λG B E F O H Q b F' I e q=>by cases e;exact q H Kp.refl I.fd⟩
def ze {c:Qd}{tt:TT}{mt:DE->M Bool}(h:Et K X c tt mt):Ets K X [c] tt mt:=⟨Ao h.pt,h.ok⟩
def bf (bd:My->DE->Option DE)(mt:DE->M Bool)(me:DE->M My):List My->DE->M (List My)
 | [],_,F=>some ([],F)
 | d::r,E,F=>(bd d E).bind λE1=>(mt E1 F).bind λp=>if p.1=true then(me E1 p.2).bind λy=>(bf bd mt me r E1 y.2).bind λz=>some (y.1::z.1,z.2) else bf bd mt me r E1 p.2
def sLC (mi:DE->M (List My))(k:Nat)(cap:List Nat)(bd:My->DE->Option DE)(mt:DE->M Bool)(me:DE->M My):DE->M My:=λE F =>
 (mi E F).bind λp=>if p.1.length<=Qg then(bf bd mt me p.1 (iM k cap E) p.2).bind λz=>some (.list z.1,z.2) else none
def Ek (K:Qf)(G:GF)(B:List PU)(D:PU)(H1:Hp)(bd:My->DE->Option DE)(mt:DE->M Bool)(me:DE->M My)(items whole:List My)(Fz:FS)(i:Nat)(O:St)(acc:List V)(H:Hp):Prop :=
 ∃E F done rest,SitE K G (D::B) E F O H/\H D=some (.lst acc)/\Kp (u4 K G) H1 H/\(∀(j:Nat) (ds:List My),E[j]? = some (some (DV.own ds))->O[j]? ≠ some (some (V.ref D)))/\b7 K (hid H (D::B)) done acc/\bf bd mt me (items.drop i) E F=some (rest,Fz)/\whole=done++rest/\done.length<=i
def TFd (K:Qf)(te:TE)(m:DE->M (List My)):Prop:=∀(G:GF) (B:List PU) (E:DE) (F:FS) (O:St) (H:Hp) (Q:VK) (ds:List My) (F':FS),SitE K G B E F O H->m E F=some (ds,F') ->
 (∀a vs H',H a=none->H' a=some (.lst vs)->Kp (u4 K G) H H'->FAt K G H' F'->b7 K (hid H' (a::B)) ds vs->Q (.ref a) H')->te O H Q
def Kp.none {fp:List PU}{H H':Hp}{b:PU}(k:Kp fp H H')(h:H' b=none)(n:b ∉ fp):H b=none:=by
 cases q:H b with
 | none=>rfl
 | some o=>rw[k b o q n]at h;cases h
def fLC (mi:DE->M (List My))(k:Nat)(cap:List Nat)(bd:My->DE->Option DE)(mt:DE->M Bool)(me:DE->M My):DE->M (List My):=λE F =>
 (mi E F).bind λp=>if p.1.length<=Qg then(bf bd mt me p.1 (iM k cap E) p.2).bind λz=>some (z.1,z.2) else none
def Br {mi:DE->M (List My)}{k:Nat}{cap:List Nat}{g:TG}{bd:My->DE->Option DE}{tt:TT}{mt:DE->M Bool}{me:DE->M My}(hi:TIs K wi mi)(hg:TGd K g bd)(ht:TTd K tt mt)(he:TEd K te me) :
  TFd K (tLC wi k cap g tt te) (fLC mi k cap bd mt me):=λG B E F O H Q d F' I e q=>by
 obtain⟨⟨items,F1⟩,e1,e⟩:=bS9 e;split at e
 .rename_i hsz;obtain⟨⟨whole,F2⟩,e2,e⟩:=bS9 e;cases e;refine hi G B E F O H _ items F1 I e1 λJ H1 k1 f1 ok D hD=>?_
  have I1:SitE K G B E F1 O H1:=I.step k1 f1;have hBD:D ∉ B:=I1.bk.nin hD;have hfD:D ∉ u4 K G:=λz=>hBD (I.fB D z)
  have hsz:items.length<=Qg:=hsz;have stab:∀{H':Hp},Kp (u4 K G) H1 H'->Kp (u4 K G) H1 H'/\h8 (hid H1 B) (hid H' (D::B)):=λ{H'} k=>⟨k,λb o eb=>by
   by_cases hb:b∈B
   .rw[D2 hb]at eb;cases eb
   .rw[i6 hb]at eb;rw[i6 (by
     intro z;rcases Lh.1 z with rfl | z
     .rw[hD]at eb;cases eb
     .exact hb z)]
    exact k b o eb λz=>hb (I.fB b z)⟩
  refine Da items.length (Ek K G B D H1 bd mt me items whole F2) ?_ ?_ ?_ ?_ ?_
  .refine⟨iM k cap E,F1,[],whole,(I1.cap k cap).more hD,d7,Kp.upd hD,λj ds ej z=>?_,b7.nil,e2,rfl,Ln _⟩;obtain⟨v,v1,a,xs,rfl,_,_,ha,_⟩:=(I1.cap k cap).loc j _ ej;rw[v1]at z;cases z;rw[hD]at ha;cases ha
  .rintro i O' acc H' hlt ⟨E',F3,done,rest,I2,hD2,k2,ow,hd2,e3,ew,hdi⟩;exact((ok H' (D::B) (stab k2)).1 i items[i] (by simp[hlt])).1
  .rintro O' acc H' ⟨E',F3,done,rest,I2,hD2,k2,ow,hd2,e3,ew,hdi⟩;exact(ok H' (D::B) (stab k2)).2
  .rintro i O' acc H' hlt ⟨E',F3,done,rest,I2,hD2,k2,ow,hd2,e3,ew,hdi⟩ x H2 y R hR;obtain⟨s2,hx⟩:=((ok H' (D::B) (stab k2)).1 i items[i] (by simp[hlt])).2 x H2 y;have hx':=hx I2.bk;rw[Nd hlt,bf]at e3;obtain⟨E4,e4,e3⟩:=bS9 e3;obtain⟨⟨b,F5⟩,e5,e3⟩:=bS9 e3;have I3:SitE K G (D::B) E' F3 O' H2:=I2.step (Kp.same s2) (I2.fd.same s2);refine hg G (D::B) E' F3 O' H2 x items[i] E4 _ I3 hx' e4 λσ4 I4 fr=>?_
   have ow4:∀(j:Nat) (ds:List My),E4[j]? = some (some (DV.own ds))->σ4[j]? ≠ some (some (V.ref D)):=λj ds ej=>by
    obtain⟨a1,a2⟩:=fr j λy z=>by rw[ej]at z;cases z
    rw[a2];exact ow j ds (a1▸ej)
   refine ht G (D::B) E4 F3 σ4 H2 _ b F5 I4 e5 λH5 k5 f5=>?_
   have kall:Kp (u4 K G) H1 H5:=(k2.trans (Kp.same s2)).trans k5;have I5:SitE K G (D::B) E4 F5 σ4 H5:=I4.step k5 f5;have hD5:H5 D=some (.lst acc):=k5 D _ (s2 D _ hD2) hfD;have hd5:b7 K (hid H5 (D::B)) done acc:=(hd2.same ((Kp.same s2).hid (fp:=[]) (by simp))).same (k5.hid I4.fB);cases b with
   | false =>exact⟨hD5,hR _ _ _ ⟨E4,F5,done,rest,I5,hD5,kall,ow4,hd5,e3,ew,by omega⟩⟩
   | true =>
    obtain⟨⟨yd,F6⟩,e6,e3⟩:=bS9 e3;obtain⟨⟨zs,F7⟩,e7,e3⟩:=bS9 e3;cases e3;refine he G (D::B) E4 F5 σ4 H5 _ yd F6 I5 e6 λv H6 k6 f6 h6=>?_
    have hD6:H6 D=some (.lst acc):=k6 D _ hD5 hfD;have I6:SitE K G (D::B) E4 F6 σ4 H6:=I5.step k6 f6;have hd6:=hd5.same (k6.hid I5.fB);have hlen:acc.length<Qg:=by rw[hd2.length];omega
    refine⟨hD6,hlen,hR _ _ _ ⟨E4,F6,done++[yd],zs,I6.wr hfD ow4 hD6,d7,λb o eb nb=>?_,ow4,?_,e7,by rw[ew];simp,by simp;omega⟩⟩
    .have:=k6 b o (kall b o eb nb) nb;rw[b9];exact this;intro z;subst z;rw[hD]at eb;cases eb
    .rw[X9 Lq];exact hd6.snoc h6
  .rintro O' acc H' ⟨E',F3,done,rest,I2,hD2,k2,ow,hd2,e3,ew,hdi⟩;rw[NT,bf]at e3;cases e3;rw[Mh]at ew;subst ew;exact q D acc H' (k1.none hD hfD) hD2 (k1.trans k2) I2.fd hd2
 .cases e
def Fv {mi:DE->M (List My)}{k:Nat}{cap:List Nat}{g:TG}{bd:My->DE->Option DE}{tt:TT}{mt:DE->M Bool}{me:DE->M My}(hi:TIs K wi mi)(hg:TGd K g bd)(ht:TTd K tt mt)(he:TEd K te me) :
  TEd K (tLC wi k cap g tt te) (sLC mi k cap bd mt me):=λG B E F O H Q d F' I e q=>by
 obtain⟨ds,rfl,ef⟩:∃ds,d = .list ds/\fLC mi k cap bd mt me E F=some (ds,F'):=by
  obtain⟨⟨items,F1⟩,e1,e⟩:=bS9 e;split at e
  .rename_i hsz;obtain⟨⟨whole,F2⟩,e2,e⟩:=bS9 e;cases e;refine⟨whole,rfl,?_⟩;unfold fLC;rw[e1,LC,Lg hsz,e2];rfl
  .cases e
 exact Br hi hg ht he G B E F O H Q ds F' I ef λz ws H' hz hw k1 f1 hd=>q _ H' k1 f1 (b8.lst (by rw[i6 (I.bk.nin hz)];exact hw) (hd.same (N3 λb hb=>Le _ hb)))
def fZ {elt:Qd}{ifs:List Qd}{scope osc:Qa}{N:List Str}{k:Nat}{cap:List Nat}{g:TG}{tt:TT}{mi:DE->M (List My)}{bd:My->DE->Option DE}{mt:DE->M Bool}{me:DE->M My}
  (hc:X.calm=true) (hosc:X.env.scope=osc) (hcap:Caps X.N osc N k cap scope) (hi:Eib K X tg iter wi mi)
  (hg:∀cl C ex Qz s H,Eg K (cxC X N scope cl C ex Qz s H) tg g bd)
  (ht:∀cl C ex Qz s H,Ets K (cxC X N scope cl C ex Qz s H) ifs tt mt)
  (he:∀cl C ex Qz s H,Ev K (cxC X N scope cl C ex Qz s H) elt te me)
  (hs:∀x,Qr iter X.env x=pure x:=by intro _;rfl) :
  Ev K X (.ListComp elt [⟨tg,iter,ifs,0⟩] scope pos) (tLC wi k cap g tt te) (sLC mi k cap bd mt me) :=
 ⟨Bk hc hosc hcap hi.pi (λcl C ex Qz s H=>(hg cl C ex Qz s H).pg) (λcl C ex Qz s H=>(ht cl C ex Qz s H).pts) (λcl C ex Qz s H=>(he cl C ex Qz s H).pe) hs,
  Fv hi.ok (hg [] 0 [] [] X.s₀ X.H₀).ok (ht [] 0 [] [] X.s₀ X.H₀).ok (he [] 0 [] [] X.s₀ X.H₀).ok⟩
end
end
variable {rest sts:List Qc}{p2:Pos}{B0:List PU}{H0:Hp}
section
section
variable [Feeds]
inductive Out where
 | nx (E:DE) | rt (d:My) | bk (E:DE) | ct (E:DE)
structure Sit (K:Qf) (G:GF) (B0:List PU) (H0:Hp) (E:DE) (F:FS) (O:St) (H:Hp):Prop where
 ex:∃B,(∀b∈B0,b∈B)/\(∀b∈B,b∈B0\/H0 b=none)/\SitE K G B E F O H
 fB:∀b∈u4 K G,b∈B0
 kp:Kp (u4 K G) H0 H
 own:∀(i:Nat) (ds:List My) (a:PU),E[i]? = some (some (DV.own ds))->O[i]? = some (some (V.ref a))->H0 a=none/\a ∉ B0
 inj:∀(i j:Nat) (ds es:List My) (a:PU),E[i]? = some (some (DV.own ds))->E[j]? = some (some (DV.own es))->O[i]? = some (some (V.ref a))->O[j]? = some (some (V.ref a))->i=j
def DT (K:Qf)(G:GF)(B0:List PU)(H0:Hp)(F:FS)(D:Ends):Out->Prop
 | .nx E=>∀O H,Sit K G B0 H0 E F O H->D.nx O H
 | .bk E=>∀O H,Sit K G B0 H0 E F O H->D.bk O H
 | .ct E=>∀O H,Sit K G B0 H0 E F O H->D.ct O H
 | .rt d=>∀v H,Kp (u4 K G) H0 H->FAt K G H F->b8 K (hid H B0) d v->D.rt v H
def TSd (K:Qf)(ts:TS)(m:DE->M Out):Prop:=∀(G:GF) (B0:List PU) (H0:Hp) (E:DE) (F:FS) (O:St) (H:Hp) (D:Ends) (r:Out) (F':FS),Sit K G B0 H0 E F O H->m E F=some (r,F')->DT K G B0 H0 F' D r->ts D O H
structure Ss (K:Qf) (X:Cx) (st:Qc) (ts:TS) (m:DE->M Out):Prop where
 ps:PS X st ts
 ok:TSd K ts m
structure Sss (K:Qf) (X:Cx) (sts:List Qc) (ts:TS) (m:DE->M Out):Prop where
 ps:PSs X sts ts
 ok:TSd K ts m
variable {K:Qf}{X:Cx}{a b c e:Qd}{st:Qc}{ta tb:TE}{ma mb m:DE->M My}{t u:TS}{mt mu:DE->M Out}{pos' p:Pos}
def Sit.step {G:GF}{E:DE}{F F':FS}{O:St}{H H':Hp}(S:Sit K G B0 H0 E F O H)(k:Kp (u4 K G) H H')(f:FAt K G H' F'):Sit K G B0 H0 E F' O H':=by obtain⟨B,s,sn,I⟩:=S.ex;exact⟨⟨B,s,sn,I.step k f⟩,S.fB,S.kp.trans k,S.own,S.inj⟩
def mNx :DE->M Out:=λE F=>some (.nx E,F)
def mSq (a b:DE->M Out):DE->M Out:=λE F=>(a E F).bind λp=>match p.1 with
 | .nx E1=>b E1 p.2
 | o=>some (o,p.2)
def M4 :Sss K X [] wN mNx:=⟨gN,λG B0 H0 E F O H D r F' S e q=>by cases e;exact q O H S⟩
def d8 (h1:Ss K X st t mt)(h2:Sss K X rest u mu):Sss K X (st::rest) (U3 t u) (mSq mt mu):=⟨r8 h1.ps h2.ps,λG B0 H0 E F O H D r F' S e q=>by
 obtain⟨⟨o,F1⟩,e1,e⟩:=bS9 e;refine h1.ok G B0 H0 E F O H _ o F1 S e1 ?_;cases o with
 | nx E1=>exact λO' H' S'=>h2.ok G B0 H0 E1 F1 O' H' D r F' S' e q
 | rt d=>cases e;exact q
 | bk E1=>cases e;exact q
 | ct E1=>cases e;exact q⟩
def j9 (h1:Ss K X st t mt):Sss K X [st] t mt:=⟨G9 h1.ps,h1.ok⟩
def mRt (a:DE->M My):DE->M Out:=λE F=>(a E F).bind λp=>some (.rt p.1,p.2)
def z8 (h:Ev K X e te m):Ss K X (.Return (some e) pos) (uu te) (mRt m):=⟨aR h.pe,λG B0 H0 E F O H D r F' S e q=>by obtain⟨⟨d,F1⟩,e1,e⟩:=bS9 e;cases e;obtain⟨B,s,sn,I⟩:=S.ex;exact h.ok G B E F O H _ d F1 I e1 λv H1 k1 f1 h1=>q v H1 (S.kp.trans k1) f1 (h1.same (N3 s))⟩
def sO (i:Nat){x:Str}(hN:X.N[i]? = some x:=by rfl)(hv:Vis X.env.scope x:=by walk_at "v")(hd:(x == ("__debug__":Str))=false:=by decide)
  (hcd:(x == ("__classdict__":Str))=false:=by decide):Ss K X (.Return (some (.Name x p)) pos) (uu (z7 i)) (mRt (sW i)):=⟨aR (L7 hN hv hd hcd),λG B0 H0 E F O H D r F' S e q=>by
 obtain⟨⟨d,F1⟩,e1,e⟩:=bS9 e;cases e;obtain⟨B,s,sn,I⟩:=S.ex;unfold sW at e1;split at e1
 .rename_i x hx;cases e1;obtain⟨v,h1,h2⟩:=I.loc i _ hx;exact⟨v,h1,q v H S.kp I.fd (b8.same h2 (N3 s))⟩
 .rename_i x hx;cases e1;obtain⟨v,h1,p,xs,rfl,hB,hf,hp,hd⟩:=I.loc i _ hx;obtain⟨n1,n2⟩:=S.own i x p hx h1;exact⟨_,h1,q _ H S.kp I.fd (b8.lst (by rw[i6 n2];exact hp) (hd.same (N3 s)))⟩
 .cases e1⟩
def C5 (i:Nat)(a:DE->M My):DE->M Out:=λE F=>(a E F).bind λp=>(bN i p.1 E).bind λE1=>some (.nx E1,p.2)
def Sit.bind {G:GF}{B:List PU}{E E':DE}{F F':FS}{O O':St}{H:Hp}(S:Sit K G B0 H0 E F O H)(s:∀b∈B0,b∈B)(sn:∀b∈B,b∈B0\/H0 b=none)(I:SitE K G B E' F' O' H)(fr:∀i:Nat,(∀y,E'[i]? ≠ some (some (.dat y)))->E'[i]? = E[i]? /\ O'[i]? = O[i]?):Sit K G B0 H0 E' F' O' H:=by
 refine⟨⟨B,s,sn,I⟩,S.fB,S.kp,λi ds a ei si=>?_,λi j ds es a ei ej si sj=>?_⟩
 .obtain⟨a1,a2⟩:=fr i λy z=>by rw[ei]at z;cases z
  exact S.own i ds a (a1▸ei) (a2▸si)
 .obtain⟨a1,a2⟩:=fr i λy z=>by rw[ei]at z;cases z
  obtain⟨b1,b2⟩:=fr j λy z=>by rw[ej]at z;cases z
  exact S.inj i j ds es a (a1▸ei) (b1▸ej) (a2▸si) (b2▸sj)
def xQ {g:TG}{bd:My->DE->Option DE}(he:TEd K te m)(hg:TGd K g bd):TSd K (O6 te g) (λE F=>(m E F).bind λp=>(bd p.1 E).bind λE1=>some (.nx E1,p.2)):=λG B0 H0 E F O H D r F' S e q=>by
 obtain⟨⟨d,F1⟩,e1,e⟩:=bS9 e;obtain⟨E1,e2,e⟩:=bS9 e;cases e;obtain⟨B,s,sn,I⟩:=S.ex;refine he G B E F O H _ d F1 I e1 λv H1 k1 f1 h1=>?_
 have S1:=S.step k1 f1;exact hg G B E F1 O H1 v d E1 _ (I.step k1 f1) h1 e2 λO' I' fr=>q O' H1 (S1.bind s sn I' fr)
def lU (i:Nat):TGd K (M6 i) (bN i):=λG B E F O H x d E' Q I h e q=>by
 unfold bN at e;split at e
 .rename_i hl;cases e;refine q _ (I.set h hl) λj hj=>?_
  by_cases hij:i=j
  .subst hij;exact absurd (Lp hl) (hj d)
  .rw[Lm hij,Lm hij];exact⟨rfl,rfl⟩
 .cases e
def x6 (i:Nat){x:Str}(hN:X.N.Nodup)(he:Ev K X e te m)(hi:X.N[i]? = some x:=by rfl)(hx:Loc X.env.scope x:=by walk_at "v")(hs:Qo e (some (.Name x pos')) pos.line X.env=pure false:=by rfl)(hf:X.fn x=true\/X.env.scope.names.lookup x=some .local:=by walk_at "v") :
  Ss K X (.Assign [.Name x pos'] e pos) (O6 te (M6 i)) (C5 i m):=⟨O8 hN hi hx he.pe hs hf,xQ he.ok (lU i)⟩
def bQ (bd:My->DE->Option DE)(a:DE->M My):DE->M Out:=λE F=>(a E F).bind λp=>(bd p.1 E).bind λE1=>some (.nx E1,p.2)
def aJ {g:TG}{bd:My->DE->Option DE}(he:Ev K X e te m)(hg:Eg K X tg g bd)(hs:swapsWithSole [tg] e pos.line X.env=pure false:=by rfl)(hw:swappedStores [tg] e X.env=pure none:=by rfl)
  (h1:(Qt [tg] X.env).map (·.2)=[assign tg X.env]:=by rfl):Ss K X (.Assign [tg] e pos) (O6 te g) (bQ bd m):=⟨U5 he.pe hg.pg hs hw h1,xQ he.ok hg.ok⟩
def mX (i:Nat){y:Str}{py:Pos}{elt:Qd}{ifs:List Qd}{scope osc:Qa}{N:List Str}{k:Nat}{cap:List Nat}{g:TG}{tt:TT}{mi:DE->M (List My)}{bd:My->DE->Option DE}{mt:DE->M Bool}{me:DE->M My}
  (hN:X.N.Nodup) (hc:X.calm=true) (hosc:X.env.scope=osc) (hcap:Caps X.N osc N k cap scope) (hi:Eib K X tg iter wi mi)
  (hg:∀cl C ex Qz s H,Eg K (cxC X N scope cl C ex Qz s H) tg g bd)
  (ht:∀cl C ex Qz s H,Ets K (cxC X N scope cl C ex Qz s H) ifs tt mt)
  (he:∀cl C ex Qz s H,Ev K (cxC X N scope cl C ex Qz s H) elt te me)
  (hix:X.N[i]? = some y:=by rfl) (hLy:Loc X.env.scope y:=by walk_at "v")
  (hs:∀x,Qr iter X.env x=pure x:=by intro _;rfl) (hfy:X.fn y=true\/X.env.scope.names.lookup y=some .local:=by walk_at "v")
  (hsw:Qo (.ListComp elt [⟨tg,iter,ifs,0⟩] scope p) (some (.Name y py)) pos.line X.env=pure true:=by rfl) :
  Ss K X (.Assign [.Name y py] (.ListComp elt [⟨tg,iter,ifs,0⟩] scope p) pos) (O6 (tLC wi k cap g tt te) (M6 i)) (C5 i (sLC mi k cap bd mt me)) :=
 ⟨xI hN hix hLy hc hosc hcap hi.pi (λcl C ex Qz s H=>(hg cl C ex Qz s H).pg) (λcl C ex Qz s H=>(ht cl C ex Qz s H).pts) (λcl C ex Qz s H=>(he cl C ex Qz s H).pe) hs hfy hsw,
  xQ (Fv hi.ok (hg [] 0 [] [] X.s₀ X.H₀).ok (ht [] 0 [] [] X.s₀ X.H₀).ok (he [] 0 [] [] X.s₀ X.H₀).ok) (lU i)⟩
def mIf (c:DE->M Bool)(a b:DE->M Out):DE->M Out:=λE F=>(c E F).bind λp=>if p.1=true then a E p.2 else b E p.2
def Q8 {x y:List Qc}{tt:TT}{mc:DE->M Bool}(hc:Et K X c tt mc)(ha:Sss K X x t mt)(hb:Sss K X y u mu):Ss K X (.If c x y pos) (oi tt t u) (mIf mc mt mu):=⟨jI hc.pt ha.ps hb.ps,λG B0 H0 E F O H D r F' S e q=>by
 obtain⟨⟨d,F1⟩,e1,e⟩:=bS9 e;obtain⟨B,s,sn,I⟩:=S.ex;refine hc.ok G B E F O H _ d F1 I e1 λH1 k1 f1=>?_
 cases d with
 | true=>exact ha.ok G B0 H0 E F1 O H1 D r F' (S.step k1 f1) e q
 | false=>exact hb.ok G B0 H0 E F1 O H1 D r F' (S.step k1 f1) e q⟩
end
end
section
section
variable [Feeds]{K:Qf}{X:Cx}{a b c e:Qd}{st:Qc}{ta tb:TE}{ma mb m:DE->M My}{t u:TS}{mt mu:DE->M Out}{pos' p:Pos}
def O1 (H:Hp)(B B0:List PU):Hp:=hid H (B.filter λb=>decide (b ∉ B0))
def R4 {H:Hp}{B:List PU}{b:PU}(h1:b∈B)(h2:b ∉ B0):O1 H B B0 b=none:=D2 (Ma.2 ⟨h1,by simpa using h2⟩)
def J8 {H:Hp}{B:List PU}{b:PU}(h:b ∉ B\/b∈B0):O1 H B B0 b=H b:=i6 λz=>by
 obtain⟨z1,z2⟩:=Ma.1 z;rcases h with h | h
 .exact h z1
 .simp at z2;exact z2 h
section
variable {G:GF}{B:List PU}{E E2:DE}{F F2:FS}{O σ2:St}{H H2:Hp}
def Sit.base (S:Sit K G B0 H0 E F O H)(s:∀b∈B0,b∈B)(sn:∀b∈B,b∈B0\/H0 b=none)(I:SitE K G B E F O H):Sit K G B0 (O1 H B B0) E F O H:=by
 refine⟨⟨B,s,λb hb=>?_,I⟩,S.fB,Kp.same f8,λi ds a ei si=>?_,S.inj⟩
 .by_cases h:b∈B0
  .exact .inl h
  .exact .inr (R4 hb h)
 .obtain⟨v,v1,a',xs,rfl,hB,_⟩:=I.loc i _ ei;rw[v1]at si;cases si;exact⟨R4 hB (S.own i ds _ ei v1).2,(S.own i ds _ ei v1).2⟩
def yb (S:Sit K G B0 H0 E F O H)(sn:∀b∈B,b∈B0\/H0 b=none)(k:Kp (u4 K G) (O1 H B B0) H2):Kp (u4 K G) H0 H2:=λb o e n=>by
 refine k b o ?_ n;rw[J8]
 .exact S.kp b o e n
 .by_cases hb:b∈B
  .rcases sn b hb with h | h
   .exact .inr h
   .rw[h]at e;cases e
  .exact .inl hb
def Sit.unbase (S:Sit K G B0 H0 E F O H)(sn:∀b∈B,b∈B0\/H0 b=none)(S2:Sit K G B0 (O1 H B B0) E2 F2 σ2 H2):Sit K G B0 H0 E2 F2 σ2 H2:=by
 have no:∀b,O1 H B B0 b=none->b∈B0\/H0 b=none:=λb e=>by
  by_cases hb:b∈B
  .exact sn b hb
  .rw[J8 (.inl hb)]at e;by_cases hf:b∈u4 K G
   .exact .inl (S.fB b hf)
   .cases q:H0 b with
    | none=>exact .inr rfl
    | some o=>rw[S.kp b o q hf]at e;cases e
 obtain⟨B2,s2,sn2,I2⟩:=S2.ex;refine⟨⟨B2,s2,λb hb=>?_,I2⟩,S.fB,yb S sn S2.kp,λi ds a ei si=>?_,S2.inj⟩
 .rcases sn2 b hb with h | h
  .exact .inl h
  .exact no b h
 .obtain⟨h1,h2⟩:=S2.own i ds a ei si;exact⟨(no a h1).resolve_left h2,h2⟩
end
def O3 (bd:My->DE->Option DE)(body:DE->M Out):List My->DE->M Out
 | [],E,F=>some (.nx E,F)
 | d::r,E,F=>(bd d E).bind λE1=>(body E1 F).bind λp=>match p.1 with
  | .nx E2=>O3 bd body r E2 p.2
  | .ct E2=>O3 bd body r E2 p.2
  | .bk E2=>some (.nx E2,p.2)
  | .rt d=>some (.rt d,p.2)
def aS (mi:DE->M (List My))(bd:My->DE->Option DE)(body:DE->M Out):DE->M Out:=λE F=>(mi E F).bind λp=>O3 bd body p.1 E p.2
def Ep {g:TG}{tb:TS}{mi:DE->M (List My)}{bd:My->DE->Option DE}{mb:DE->M Out}(hi:TId K wi mi)(hg:TGd K g bd)(hb:TSd K tb mb):TSd K (uP wi g tb) (aS mi bd mb):=λG B0 H0 E F O H D r F' S e q=>by
 obtain⟨⟨items,F1⟩,e1,e⟩:=bS9 e;obtain⟨B,s,sn,I⟩:=S.ex;refine hi G B E F O H _ items F1 I e1 λJ H1 k1 f1 ok=>?_
 have S1:=S.step k1 f1;have I1:=I.step k1 f1;have S1':=S1.base s sn I1;have qn:∀{E2:DE} {F2:FS},r = .nx E2->F'=F2->∀σ2 H2,Sit K G B0 (O1 H1 B B0) E2 F2 σ2 H2->D.nx σ2 H2:=λ{E2 F2} er ef σ2 H2 S2=>by subst er ef;exact q σ2 H2 (S1.unbase sn S2)
 have stab:∀{E2:DE} {F2:FS} {σ2:St} {H2:Hp} {B2:List PU},Sit K G B0 (O1 H1 B B0) E2 F2 σ2 H2->(∀b∈B2,b∈B0\/O1 H1 B B0 b=none)->h8 (hid H1 B) (hid H2 B2):=λ{E2 F2 σ2 H2 B2} S2 sn2 b o eb=>by
  by_cases hB:b∈B
  .rw[D2 hB]at eb;cases eb
  .rw[i6 hB]at eb;have ec:O1 H1 B B0 b=some o:=by rw[J8 (.inl hB)];exact eb
   rw[i6 λz=>(sn2 b z).elim (λh=>hB (s b h)) λh=>by rw[h]at ec;cases ec];exact S2.kp b o ec λz=>hB (s b (S.fB b z))
 refine⟨λi m O H=>m=items.length-i/\i<=items.length/\∃E F,Sit K G B0 (O1 H1 B B0) E F O H/\O3 bd mb (items.drop i) E F=some (r,F'),⟨items.length,by simp,Mb _,E,F1,S1',e⟩,?_⟩;rintro i mm σ2 H2 ⟨rfl,hi2,E2,F2,S2,e2⟩;obtain⟨B2,s2,sn2,I2⟩:=S2.ex;have st2:=stab S2 sn2;by_cases hlt:i<items.length
 .refine .inr ⟨((ok H2 B2 st2).1 i items[i] (by simp[hlt])).1,λO' H'=>i+1<=items.length/\∃E F,Sit K G B0 (O1 H1 B B0) E F O' H'/\O3 bd mb (items.drop (i+1)) E F=some (r,F'),λO' H' ⟨h1,h2⟩=>⟨items.length-(i+1),by omega,rfl,h1,h2⟩,λx H3 y=>?_⟩;obtain⟨s3,hx⟩:=((ok H2 B2 st2).1 i items[i] (by simp[hlt])).2 x H3 y;have hx:=hx I2.bk;rw[Nd hlt,O3]at e2;obtain⟨E4,e4,e2⟩:=bS9 e2;obtain⟨⟨o,F5⟩,e5,e2⟩:=bS9 e2;have S3:=S2.step (Kp.same s3) (I2.fd.same s3);have I3:SitE K G B2 E2 F2 σ2 H3:=I2.step (Kp.same s3) (I2.fd.same s3);refine hg G B2 E2 F2 σ2 H3 x items[i] E4 _ I3 hx e4 λσ4 I4 fr=>?_
  refine hb G B0 (O1 H1 B B0) E4 F2 σ4 H3 _ o F5 (S3.bind s2 sn2 I4 fr) e5 ?_;cases o with
  | nx E6=>exact λσ6 H6 S6=>⟨hlt,E6,F5,S6,e2⟩
  | ct E6=>exact λσ6 H6 S6=>⟨hlt,E6,F5,S6,e2⟩
  | bk E6=>cases e2;exact λσ6 H6 S6=>qn rfl rfl σ6 H6 S6
  | rt d=>cases e2;exact λv H6 k6 f6 h6=>q v H6 (yb S1 sn k6) f6 h6
 .have ei:i=items.length:=by omega
  subst ei;rw[NT,O3]at e2;cases e2;exact .inl ⟨(ok H2 B2 st2).2,qn rfl rfl σ2 H2 S2⟩
def R7 {body:List Qc}{g:TG}{tb:TS}{mi:DE->M (List My)}{bd:My->DE->Option DE}{mb:DE->M Out}(hc:X.calm=true)(hi:Ei K X tg iter wi mi)(hg:Eg K X tg g bd)(hb:Sss K X body tb mb)(hp:PassesOwn (model X.prog X.w) X.A X.env X.xe:=by exact On)
  (hs:∀x,Qr iter X.env x=pure x:=by intro _;rfl):Ss K X (.For tg iter body [] pos) (uP wi g tb) (aS mi bd mb):=⟨qa hp hc hi.pi hg.pg hb.ps hs,Ep hi.ok hg.ok hb.ok⟩
def yz :Ss K X (.Continue pos) Bu (λE F=>some (.ct E,F)):=⟨oC,λG B0 H0 E F O H D r F' S e q=>by cases e;exact q O H S⟩
structure Ef (K:Qf) (X:Cx) (e:Qd) (te:TE) (m:DE->M (List My)):Prop where
 pe:PE X e te
 ok:TFd K te m
def xh {H:Hp}{B:List PU}{p:PU}(hp:H p=none):h8 (hid H B) (hid (upd H p o) (p::B)):=λb u e=>by
 by_cases hb:b∈B
 .rw[D2 hb]at e;cases e
 .rw[i6 hb]at e;have hne:=i3 e hp;rw[i6 (by simp[hne,hb]),b9 hne];exact e
def cY (a:DE->M (List My)):DE->M (List My):=λE F=>(a E F).bind λp=>if p.1.length<=Qg then some (p.1,p.2) else none
def U6 {t:TA}{ms:DE->M (List My)}(h:Ea K X es t ms):Ef K X (.List es pos) (bF t) (cY ms):=⟨Q7 h.pa,λG B E F O H Q d F' I e q=>by
 obtain⟨⟨x,F1⟩,e1,e⟩:=bS9 e;split at e
 .rename_i hl;cases e;refine h.ok G B E F O H _ x F1 I e1 λvs H1 k1 f1 h1=>⟨by rw[h1.length];exact hl,λp hp=>?_⟩
  have hnf:p ∉ u4 K G:=λz=>(C8 I.bk k1 f1).nin hp (I.fB p z)
  exact q p vs _ (k1.none hp hnf) d7 (k1.trans (Kp.upd hp)) (f1.same (h8.upd hp)) (h1.same (xh hp))
 .cases e⟩
def gB (i:Nat)(a:DE->M (List My)):DE->M Out:=λE F=>(a E F).bind λp=>if i<E.length then some (.nx (E.set i (some (.own p.1))),p.2) else none
def EC {i:Nat}{mf:DE->M (List My)}(he:TFd K te mf):TSd K (O6 te (M6 i)) (gB i mf):=λG B0 H0 E F O H D r F' S e q=>by
 obtain⟨⟨ds,F1⟩,e1,e⟩:=bS9 e;split at e
 .rename_i hl;cases e;obtain⟨B,s,sn,I⟩:=S.ex;refine he G B E F O H _ ds _ I e1 λa vs H1 hn ha k1 f1 h1=>?_
  have I1:=I.step k1 f1;have hsl:i < O.length:=by rw[<-I.ln];exact hl
  have haB:a ∉ B:=I.bk.nin hn;have haf:a ∉ u4 K G:=λz=>haB (I.fB a z)
  have h0:H0 a=none:=S.kp.none hn haf;have sm:h8 (hid H B) (hid H1 (a::B)):=λb o eb=>by
   by_cases hb:b∈B
   .rw[D2 hb]at eb;cases eb
   .rw[i6 hb]at eb;have hne:=i3 eb hn;rw[i6 (by simp[hne,hb])];exact k1 b o eb λz=>hb (I.fB b z)
  refine q _ H1 ⟨⟨a::B,λb hb=>Le _ (s b hb),λb hb=>?_,⟨f1,λb hb=>Le _ (I.fB b hb),λb hb=>?_,by rw[MB,MB];exact I.ln,λj x ej=>?_⟩⟩,S.fB,S.kp.trans k1,λj es a' ej sj=>?_,λj k es es' a' ej ek sj sk=>?_⟩
  .rcases Lh.1 hb with rfl | hb
   .exact .inr h0
   .exact sn b hb
  .rcases Lh.1 hb with rfl | hb
   .exact⟨_,ha⟩
   .exact I1.bk b hb
  .by_cases hj:i=j
   .subst hj;rw[Lp hl]at ej;cases ej;exact⟨.ref a,by rw[Lp hsl],a,vs,rfl,Lq,haf,ha,h1⟩
   .rw[Lm hj]at ej;obtain⟨v,v1,v2⟩:=I.loc j x ej;refine⟨v,by rw[Lm hj];exact v1,?_⟩;cases x with
    | dat d=>exact b8.same (show b8 K (hid H B) d v from v2) sm
    | feed=>exact v2
    | fn _=>exact v2
    | adr _=>exact v2
    | own es =>obtain⟨a',xs',rfl,hB',hf',ha',hd'⟩:=v2;exact⟨a',xs',rfl,Le _ hB',hf',k1 _ _ ha' hf',hd'.same sm⟩
  .by_cases hj:i=j
   .subst hj;rw[Lp hsl]at sj;cases sj;exact⟨h0,λz=>haB (s a z)⟩
   .rw[Lm hj]at ej sj;exact S.own j es a' ej sj
  .have other:∀(j:Nat) (es:List My),i≠j->E[j]? = some (some (DV.own es))->O[j]? ≠ some (some (V.ref a)):=λj es _ ej z=>by obtain⟨v,v1,a',xs',rfl,hB',_⟩:=I.loc j _ ej;rw[v1]at z;cases z;exact haB hB'
   by_cases hj:i=j
   .by_cases hk:i=k
    .exact hj.symm.trans hk
    .subst hj;rw[Lp hsl]at sj;cases sj;rw[Lm hk]at ek sk;exact absurd sk (other k es' hk ek)
   .rw[Lm hj]at ej sj;by_cases hk:i=k
    .subst hk;rw[Lp hsl]at sk;cases sk;exact absurd sj (other j es hj ej)
    .rw[Lm hk]at ek sk;exact S.inj j k es es' a' ej ek sj sk
 .cases e
def da (i:Nat){x:Str}{mf:DE->M (List My)}(hN:X.N.Nodup)(he:Ef K X e te mf)(hi:X.N[i]? = some x:=by rfl)(hx:Loc X.env.scope x:=by walk_at "v")(hs:Qo e (some (.Name x pos')) pos.line X.env=pure false:=by rfl)(hf:X.fn x=true\/X.env.scope.names.lookup x=some .local:=by walk_at "v") :
  Ss K X (.Assign [.Name x pos'] e pos) (O6 te (M6 i)) (gB i mf):=⟨O8 hN hi hx he.pe hs hf,EC he.ok⟩
end
end
section
section
variable [Feeds]{K:Qf}{X:Cx}{a b c e:Qd}{st:Qc}{ta tb:TE}{ma mb m:DE->M My}{t u:TS}{mt mu:DE->M Out}{pos' p:Pos}
section
variable {G:GF}{B:List PU}{E:DE}{F:FS}{O:St}{H:Hp}
def Sit.write {i:Nat}{ds ds':List My}{x:PU}{vs':List V}(S:Sit K G B0 H0 E F O H)(s:∀b∈B0,b∈B)(sn:∀b∈B,b∈B0\/H0 b=none)(I:SitE K G B E F O H)(ei:E[i]? = some (some (DV.own ds)))(si:O[i]? = some (some (V.ref x)))
  (hd:b7 K (hid H B) ds' vs'):Sit K G B0 H0 (E.set i (some (.own ds'))) F O (upd H x (.lst vs')):=by
 have hl:i<E.length:=(Lj.1 ei).1;obtain⟨v,v1,x',xs,rfl,hB,hf,hx,_⟩:=I.loc i _ ei;rw[si]at v1;cases v1;have e1:hid (upd H x (.lst vs')) B=hid H B:=X9 hB;obtain⟨n1,n2⟩:=S.own i ds x ei si;refine⟨⟨B,s,sn,⟨I.fd.congr λb hb=>b9 (λz=>hb.elim (λhb=>hf (z▸hb)) λ⟨φ,q⟩=>by rw[z,hx]at q;cases q),I.fB,λb hb=>?_,by rw[MB];exact I.ln,λj y ej=>?_⟩⟩,S.fB,λb o eb nb=>?_,λj es a' ej sj=>?_,λj k es es' a' ej ek sj sk=>?_⟩
 .by_cases h:b=x
  .subst h;exact⟨_,d7⟩
  .rw[b9 h];exact I.bk b hb
 .by_cases hj:i=j
  .subst hj;rw[Lp hl]at ej;cases ej;exact⟨.ref x,si,x,vs',rfl,hB,hf,d7,by rw[e1];exact hd⟩
  .rw[Lm hj]at ej;obtain⟨w,w1,w2⟩:=I.loc j y ej;refine⟨w,w1,?_⟩;cases y with
   | dat d=>show b8 K (hid (upd H x (.lst vs')) B) d w;rw[e1];exact w2
   | feed=>exact w2
   | fn _=>exact w2
   | adr _=>exact w2
   | own es =>
    obtain⟨a',xs',rfl,hB',hf',ha',hd'⟩:=w2;have hne:a'≠x:=λz=>hj (S.inj i j ds es x ei ej si (z▸w1))
    exact⟨a',xs',rfl,hB',hf',by rw[b9 hne];exact ha',by rw[e1];exact hd'⟩
 .rw[b9]
  .exact S.kp b o eb nb
  .intro z;subst z;rw[n1]at eb;cases eb
 .by_cases hj:i=j
  .subst hj;exact S.own i ds a' ei sj
  .rw[Lm hj]at ej;exact S.own j es a' ej sj
 .have back:∀(j:Nat) (es:List My),(E.set i (some (.own ds')))[j]? = some (some (DV.own es))->∃es,E[j]? = some (some (DV.own es)):=λj es ej=>by
   by_cases hj:i=j
   .subst hj;exact⟨ds,ei⟩
   .rw[Lm hj]at ej;exact⟨es,ej⟩
  obtain⟨f1,ej'⟩:=back j es ej;obtain⟨f2,ek'⟩:=back k es' ek;exact S.inj j k f1 f2 a' ej' ek' sj sk
end
def aT (E:DE)(i:Nat):Option (List My):=match E[i]? with
 | some (some (.own ds))=>some ds
 | _=>none
def aG {E:DE}{i:Nat}{ds:List My}(h:aT E i=some ds):E[i]? = some (some (DV.own ds)):=by
 unfold aT at h;split at h
 .rename_i q;cases h;exact q
 .cases h
def tW (i:Nat)(v k:DE->M My):DE->M Out:=λE F=>(v E F).bind λp=>(k E p.2).bind λq=>(gp q.1).bind λn=>(aT E i).bind λds=>(ixN ds.length n).bind λj=>some (.nx (E.set i (some (.own (ds.set j p.1)))),q.2)
theorem b7.set {H:Hp}:∀{ds:List My} {xs:List V} {d:My} {v:V} (j:Nat),b7 K H ds xs->b8 K H d v->b7 K H (ds.set j d) (xs.set j v)
 | [],xs,d,v,j,h,h'=>by simp only[b7]at h;subst h;simp[b7]
 | e::ds,xs,d,v,0,h,h'=>by
  simp only[b7]at h;obtain⟨y,r,rfl,h1,h2⟩:=h;simp only[List.set_cons_zero,b7];exact⟨v,r,rfl,h',h2⟩
 | e::ds,xs,d,v,j+1,h,h'=>by simp only[b7]at h;obtain⟨y,r,rfl,h1,h2⟩:=h;simp only[List.set_cons_succ,b7];exact⟨y,r.set j v,rfl,h1,b7.set j h2 h'⟩
def BP (i:Nat){x:Str}{px:Pos}(hv:Ev K X e te m)(hk:Ev K X b tb mb)(hN:X.N[i]? = some x:=by rfl)(hvis:Vis X.env.scope x:=by walk_at "v")(hd:(x == ("__debug__":Str))=false:=by decide)(hcd:(x == ("__classdict__":Str))=false:=by decide)
  (ha:∀v,assign (.Subscript (.Name x px) b p) X.env v=(do
   let ov <-holding [v] (eval (.Name x px) X.env)
   let iv <-holding [v,ov] (eval b X.env)
   standAt p
   holding [v,ov,iv] (setItem ov iv v)
   release [v,ov,iv] []):=by intro _;rfl)
  (hs:swapsWithSole [.Subscript (.Name x px) b p] e pos.line X.env=pure false:=by rfl) (hw:swappedStores [.Subscript (.Name x px) b p] e X.env=pure none:=by rfl)
  (h1:(Qt [.Subscript (.Name x px) b p] X.env).map (·.2)=[assign (.Subscript (.Name x px) b p) X.env]:=by rfl) :
  Ss K X (.Assign [.Subscript (.Name x px) b p] e pos) (O6 te (my (z7 i) tb eF)) (tW i m mb) :=
 ⟨U5 hv.pe (aN (L7 hN hvis hd hcd) hk.pe Q1 ha) hs hw h1,λG B0 H0 E F O H D r F' S e q=>by
  obtain⟨⟨d,F1⟩,e1,e⟩:=bS9 e;obtain⟨⟨n,F2⟩,e2,e⟩:=bS9 e;obtain⟨k,e3,e⟩:=bS9 e;obtain⟨ds,e4,e⟩:=bS9 e;obtain⟨j,e5,e⟩:=bS9 e;cases e;obtain⟨B,s,sn,I⟩:=S.ex;have eo:=aG e4;refine hv.ok G B E F O H _ d F1 I e1 λv H1 k1 f1 h1=>?_
  have I1:=I.step k1 f1;obtain⟨w,w1,a,xs,rfl,hB,hf,hx,hdx⟩:=I1.loc i _ eo;refine⟨_,w1,hk.ok G B E F1 O H1 _ n _ I1 e2 λu H2 k2 f2 h2=>?_⟩;have:=cW e3;simp only at this;subst this;simp only[b8]at h2;subst h2;have I2:=I1.step k2 f2;have S2:=S.step (k1.trans k2) f2;have hd2:=hdx.same (k2.hid I.fB);refine⟨a,xs,k,j,rfl,rfl,k2 a _ hx hf,by rw[hd2.length];exact e5,q O _ (S2.write s sn I2 eo w1 (b7.set j hd2 (h1.same (k2.hid I.fB))))⟩⟩
def cn (i:Nat)(v:DE->M My):DE->M Out:=λE F=>(v E F).bind λp=>(aT E i).bind λds=>if ds.length<Qg then some (.nx (E.set i (some (.own (ds++[p.1])))),p.2) else none
def EA {i:Nat}(hv:TEd K te m):TSd K (bc (tBM K "list" Y4 (z7 i) (B4 te K8))) (cn i m):=λG B0 H0 E F O H D r F' S e q=>by
 obtain⟨⟨d,F1⟩,e1,e⟩:=bS9 e;obtain⟨ds,e4,e⟩:=bS9 e;split at e
 .rename_i hl;cases e;obtain⟨B,s,sn,I⟩:=S.ex;have eo:=aG e4;obtain⟨w,w1,a,xs,rfl,hB,hf,hx,hdx⟩:=I.loc i _ eo;refine⟨_,w1,.inl ⟨rfl,xs,SqL.of hx⟩,hv G B E F O H _ d _ I e1 λu H2 k2 f2 h2=>?_⟩;have hd2:=hdx.same (k2.hid I.fB);exact⟨a,xs,u,rfl,rfl,k2 a _ hx hf,by rw[hdx.length];exact hl,q O _ ((S.step k2 f2).write s sn (I.step k2 f2) eo w1 (hd2.snoc h2))⟩
 .cases e
def jM (K:Qf)(G:GF)(B:List PU)(H:Hp):List DV->List V->Prop
 | [],vs=>vs=[]
 | x::xs,vs=>∃v r,vs=v::r/\(∀ds,x ≠ .own ds)/\DVr K G B H x v/\jM K G B H xs r
def spD (K:Qf)(n:Nat)(f:List DV->M My):Sp:=λvs H Q _=>∃G B F args d F',vs.length=n/\(∀b∈u4 K G,b∈B)/\BOk H B/\FAt K G H F/\jM K G B H args vs/\f args F=some (d,F') /\
 ∀v H',Kp (u4 K G) H H'->FAt K G H' F'->b8 K (hid H' B) d v->Q v H'
def K4 (N:List Str)(args:List DV):DE:=args.map some++List.replicate (N.length-args.length) none
def U2 (N:List Str)(m:DE->M Out):List DV->M My:=λargs F=>(m (K4 N args) F).bind λp=>match p.1 with
 | .rt d=>some (d,p.2)
 | .nx _=>some (.none,p.2)
 | _=>none
theorem jM.length {G:GF}{B:List PU}{H:Hp}:∀{args:List DV} {vs:List V},jM K G B H args vs->vs.length=args.length
 | [],vs,h=>by cases h;rfl
 | x::xs,vs,⟨v,r,e,_,_,h⟩=>by subst e;rw[Ly,Ly,h.length]
theorem jM.get {G:GF}{B:List PU}{H:Hp}:∀{args:List DV} {vs:List V} {i:Nat} {x:DV},jM K G B H args vs->args[i]? = some x->∃v,vs[i]? = some v/\(∀ds,x ≠ .own ds)/\DVr K G B H x v
 | [],vs,i,x,h,e=>by simp at e
 | y::xs,vs,i,x,⟨v,r,e1,h1,h2,h3⟩,e=>by
  subst e1;cases i with
  | zero=>simp at e;subst e;exact⟨v,rfl,h1,h2⟩
  | succ i=>simpa using h3.get (i:=i) (by simpa using e)
def km {N:List Str}{args:List DV}{i:Nat}{x:DV}(h:(K4 N args)[i]? = some (some x)):args[i]? = some x:=by
 unfold K4 at h;by_cases hi:i<args.length
 .rw[LU (by simpa using hi),Lv]at h;obtain⟨y,e1,e2⟩:=LK.1 h;cases e2;exact e1
 .rw[LL (by simpa using hi),Mg]at h;split at h <;> simp at h
def kH {G:GF}{B:List PU}{F:FS}{H:Hp}{N:List Str}{args:List DV}{vs:List V}(fB:∀b∈u4 K G,b∈B)(bk:BOk H B)(f:FAt K G H F)(h:jM K G B H args vs):Sit K G B H (K4 N args) F (L2.O2 N vs) H:=by
 have noown:∀(i:Nat) (ds:List My),(K4 N args)[i]? ≠ some (some (DV.own ds)):=λi ds e=>by obtain⟨v,_,n,_⟩:=h.get (km e);exact n ds rfl
 refine⟨⟨B,λ_ z=>z,λb hb=>.inl hb,⟨f,fB,bk,by simp[K4,L2.O2,h.length],λi x e=>?_⟩⟩,fB,Kp.refl,λi ds a e _=>absurd e (noown i ds),λi j ds es a e _ _ _=>absurd e (noown i ds)⟩;obtain⟨v,v1,_,v2⟩:=h.get (km e);refine⟨v,?_,v2⟩;have hi:i<vs.length:=(Lj.1 v1).1;unfold L2.O2;rw[LU (by simpa using hi),Lv,v1];rfl
variable {P:PX}{w:PY}{mg:Str->Option PR}{base:Qe}
def K3 {x qual:Str}{f:PU}{fd:Qb}{N ps:List Str}{k:Nat}{m:DE->M Out}(Fn:Fun K x qual st f fd)(S:FnScope N ps (defScope st))
  (hbody:∀(QB:PR) (A:PZ) (outer:List Qj) (s:PV) (H:Hp) (E:XK),Room k (A.deeper (envOfC qual (defScope st) s.heap.objs.size f QB)) ->
   ∃ts,Sss K (W6 CX0 P w K mg base N qual (defScope st) f QB A outer s H E).nox (defBody st) ts m):FnOk P w K mg base CX0 (k+1) f fd ps (spD K ps.length (U2 N m)):=by
 refine Fn.ok S (λvs H Q E h=>?_) (λQB A outer s H vs Q E hr h=>?_)
 .obtain⟨G,B,F,args,d,F',hl,_⟩:=h;exact hl
 .obtain⟨G,B,F,args,d,F',hl,fB,bk,fa,ha,hm,q⟩:=h;obtain⟨ts,hts⟩:=hbody QB A outer s H E hr;refine⟨ts,hts.ps,?_⟩;obtain⟨⟨o,F1⟩,e1,e⟩:=bS9 hm;refine hts.ok G B H (K4 N args) F (L2.O2 N vs) H _ o F1 (kH fB bk fa ha) e1 ?_;cases o with
  | rt d'=>cases e;exact λv H' k1 f1 h1=>q v H' k1 f1 h1
  | nx E'=>cases e;exact λO' H' S'=>q _ H' S'.kp (by obtain⟨B,_,_,I⟩:=S'.ex;exact I.fd) b8.non
  | bk E'=>cases e
  | ct E'=>cases e
def TVd (K:Qf)(ta:TA)(m:DE->M (List DV)):Prop:=∀(G:GF) (B:List PU) (E:DE) (F:FS) (O:St) (H:Hp) (Q:List V->Hp->Prop) (ds:List DV) (F':FS),SitE K G B E F O H->m E F=some (ds,F') ->
 (∀vs H',Kp (u4 K G) H H'->FAt K G H' F'->jM K G B H' ds vs->Q vs H')->ta O H Q
structure Evs (K:Qf) (X:Cx) (es:List Qd) (ta:TA) (m:DE->M (List DV)):Prop where
 pa:PA X es ta
 ok:TVd K ta m
def B9 :DE->M (List DV):=λ_ F=>some ([],F)
def vD (a:DE->M My)(r:DE->M (List DV)):DE->M (List DV):=λE F=>(a E F).bind λp=>(r E p.2).bind λq=>some (.dat p.1::q.1,q.2)
def vF (i:Nat)(r:DE->M (List DV)):DE->M (List DV):=λE F=>match E[i]? with
 | some (some .feed)=>(r E F).bind λq=>some (.feed::q.1,q.2)
 | _=>none
def n8 :Evs K X [] K8 B9:=⟨u9,λG B E F O H Q ds F' I e q=>by cases e;exact q [] H Kp.refl I.fd rfl⟩
def x5 {tl:TA}{ms:DE->M (List DV)}(ha:Ev K X e te m)(hr:Evs K X es tl ms)(hs:Qh (e::es) X.env=(false,eval e X.env)::Qh es X.env:=by rfl):Evs K X (e::es) (B4 te tl) (vD m ms) :=
 ⟨l7 ha.pe hr.pa hs,λG B E F O H Q ds F' I e q=>by
  walk_at "km"
  refine hr.ok G B E F1 O H1 _ ys _ (I.step k1 f1) e2 λvs H2 k2 f2 h2=>q _ H2 (k1.trans k2) f2 ⟨v,vs,rfl,(λ_ z=>by cases z),h1.same (k2.hid I.fB),h2⟩⟩
def Z4 (i:Nat){x:Str}{tl:TA}{ms:DE->M (List DV)}(hr:Evs K X es tl ms)(hN:X.N[i]? = some x:=by rfl)(hv:Vis X.env.scope x:=by walk_at "v")(hd:(x == ("__debug__":Str))=false:=by decide)
  (hcd:(x == ("__classdict__":Str))=false:=by decide) (hs:Qh (.Name x p::es) X.env=(false,eval (.Name x p) X.env)::Qh es X.env:=by rfl):Evs K X (.Name x p::es) (B4 (z7 i) tl) (vF i ms) :=
 ⟨l7 (L7 hN hv hd hcd) hr.pa hs,λG B E F O H Q ds F' I e q=>by
  unfold vF at e;split at e
  .rename_i hx;obtain⟨⟨ys,F2⟩,e2,e⟩:=bS9 e;cases e;obtain⟨v,v1,v2⟩:=I.loc i _ hx;refine⟨v,v1,hr.ok G B E F O H _ ys _ I e2 λvs H2 k2 f2 h2=>q _ H2 k2 f2 ⟨v,vs,rfl,(λ_ z=>by cases z),v2.step k2 I.fB,h2⟩⟩
  .cases e⟩
def t8 (f:List DV->M My)(ms:DE->M (List DV)):DE->M My:=λE F=>(ms E F).bind λp=>f p.1 p.2
def BC {n:Nat}{f:List DV->M My}{ta:TA}{ms:DE->M (List DV)}(h:TVd K ta ms)(hn:∀E F args F',ms E F=some (args,F')->args.length=n):TEd K (eY (spD K n f) [] E0 ta) (t8 f ms):=λG B E F O H Q d F' I e q=>by
 obtain⟨⟨args,F1⟩,e1,e⟩:=bS9 e;refine h G B E F O H _ args F1 I e1 λvs H1 k1 f1 h1=>?_
 rw[Mh];exact⟨G,B,F1,args,d,F',by rw[h1.length];exact hn _ _ _ _ e1,I.fB,C8 I.bk k1 f1,f1,h1,e,λv H2 k2 f2 h2=>q v H2 (k1.trans k2) f2 h2⟩
def n5 :∀E F args F',B9 E F=some (args,F')->args.length=0:=λE F args F' e=>by cases e;rfl
def w6 {n:Nat}{ms:DE->M (List DV)}(h:∀E F args F',ms E F=some (args,F')->args.length=n):∀E F args F',vD m ms E F=some (args,F')->args.length=n+1:=λE F args F' e=>by obtain⟨⟨x,F1⟩,e1,e⟩:=bS9 e;obtain⟨⟨ys,F2⟩,e2,e⟩:=bS9 e;cases e;rw[Ly,h _ _ _ _ e2]
def Y9 {n i:Nat}{ms:DE->M (List DV)}(h:∀E F args F',ms E F=some (args,F')->args.length=n):∀E F args F',vF i ms E F=some (args,F')->args.length=n+1:=λE F args F' e=>by
 unfold vF at e;split at e
 .obtain⟨⟨ys,F2⟩,e2,e⟩:=bS9 e;cases e;rw[Ly,h _ _ _ _ e2]
 .cases e
def j7 {x:Str}{k n:Nat}{ps:List Str}{f:List DV->M My}{tl:TA}{ms:DE->M (List DV)}(C:d0 X.prog X.w X.K X.mg X.base x k ps (spD K n f))(hr:Room k X.A)(ha:Evs K X (e::es) tl ms)(hn:∀E F args F',ms E F=some (args,F')->args.length=n)(hg:Gl X x:=by rfl)
  (hdb:(x == ("__debug__":Str))=false:=by decide) (he:Qh (e::es) X.env=(false,eval e X.env)::Qh es X.env:=by rfl) (hpl:(Qk pos (Qh es X.env)).any (·.1)=false:=by rfl) :
  Ev K X (.Call (.Name x p) (e::es) [] pos) (eY (spD K n f) [] E0 tl) (t8 f ms):=⟨bU C hr hg ha.pa hdb he hpl,BC ha.ok hn⟩
end
end
section
def Q0 (a b:Str):((Sum.inr a:Key)=Sum.inr b)=(a=b):=by
 apply propext;constructor
 .intro h;injection h
 .intro h;rw[h]
section
variable {H:Hp}{d c:PU}{a l t:Int}
end
structure FdS where
 ns:List Int
 a:Int
 l:Int
 t:Int
class Fam where
 At:PU->PU->Hp->FdS->Prop
 some1:∀{d c H F},At d c H F->∃o,H d=some o/\NoT o
 some2:∀{d c H F},At d c H F->∃o,H c=some o/\NoT o
 congr:∀{d c H H' F},At d c H F->H' d=H d->H' c=H c->At d c H' F
 lam:List Str
 drawF:Int->FdS->Option (Int×FdS)
 draw_some:∀{m:Int} {F:FdS},0<m->m<1073741824->F.t<199999->∃r F',drawF m F=some (r,F')/\0<=r/\r<m/\F'.t=F.t+1
instance fdI [Fam]:Feeds where
 S:=FdS
 At:=Fam.At
 some1:=Fam.some1
 some2:=Fam.some2
 congr:=Fam.congr
 lam:=Fam.lam
def FdS.cell (F:FdS):Int:=if F.ns=[] then 11 else(F.ns[(F.a % (F.ns.length:Int)).toNat]?).getD 0
def C6 [Fam]:List DV->M My
 | [.feed,.dat (.int m)]=>λF=>(Fam.drawF m F).bind λp=>some (.int p.1,p.2)
 | _=>λ_=>none
def qP {x m:Int}(h:0<m):0<=x % m/\x % m<m:=⟨Int.emod_nonneg _ (by omega),Int.emod_lt_of_pos _ h⟩
def yG {F:FdS}(h0:¬F.ns=[]):atI (F.ns.map V.int) (F.a % ((F.ns.map V.int).length:Int))=some (.int F.cell):=by
 have hp:0<F.ns.length:=Ph.2 h0;rw[Lf];obtain⟨q1,q2⟩:=qP (x:=F.a) (m:=(F.ns.length:Int)) (by omega);obtain⟨j,hj⟩:∃j:Nat,F.a % (F.ns.length:Int)=j:=⟨(F.a % (F.ns.length:Int)).toNat,by omega⟩;have hjl:j<F.ns.length:=by omega
 unfold FdS.cell;rw[Lk h0,hj];refine gR ?_;rw[Lv];simp[hjl]
def FdS.cellL (F:FdS):Int:=if F.ns=[] then 0 else(F.ns[(F.a % (F.ns.length:Int)).toNat]?).getD 0
def xX {F:FdS}(h0:¬F.ns=[]):atI (F.ns.map V.int) (F.a % ((F.ns.map V.int).length:Int))=some (.int F.cellL):=by
 have e:F.cellL=F.cell:=by unfold FdS.cellL FdS.cell;rw[Lk h0,Lk h0]
 rw[e];exact yG h0
def iG (ns:List Int):FdS:=⟨ns,0,0,0⟩
end
section
def cC:Const->Option My
 | .int i=>some (.int i)
 | .bool b=>some (.bool b)
 | .none=>some .none
 | .str x=>some (.str x)
 | _=>none
def cI:Qd->Option Int
 | .Constant c _ _=>match c with
  | .int i=>some i
  | _=>none
 | _=>none
def cU:UnaryOp->Bool
 | .USub=>true
 | _=>false
def cP:Operator->Bool
 | .Pow=>true
 | _=>false
mutual
def dB:Qd->Option My
 | .Constant c _ _=>cC c
 | .UnaryOp o e _=>if cU o=true then(cI e).map λi=>.int (-i) else none
 | .BinOp a o b _=>if cP o=true then(cI a).bind λi=>(cI b).bind λj=>if zF i j then some (.int (i ^ j.toNat)) else none else none
 | .Tuple es _ _=>(ck es).bind λds=>if ds.length<=10000 then some (.tuple ds) else none
 | .List es _=>(ck es).bind λds=>if ds.length<=10000 then some (.list ds) else none
 | _=>none
def ck:List Qd->Option (List My)
 | []=>some []
 | e::es=>(dB e).bind λd=>(ck es).bind λds=>some (d::ds)
end
mutual
def S4:My->TE
 | .int i=>tC (.int i)
 | .bool b=>tC (.bl b)
 | .none=>tC .non
 | .str x=>tC (.str x)
 | .tuple ds=>xy (bZ ds)
 | .list ds=>bF (bZ ds)
 | .dict _=>λ_ _ _=>False
def bZ:List My->TA
 | []=>K8
 | d::ds=>B4 (S4 d) (bZ ds)
end
def kZ {e:Qd}{i:Int}(h:cI e=some i):∃k p,e = .Constant (.int i) k p:=by
 unfold cI at h;split at h
 .split at h
  .cases h;exact⟨_,_,rfl⟩
  .cases h
 .cases h
def qT {e:Qd}{env:Qj}{d:My}(h:dB e=some d):Qh (e::es) env=(false,eval e env)::Qh es env:=by
 unfold dB at h;split at h
 .rfl
 .rfl
 .rfl
 .rfl
 .rfl
 .cases h
section
variable [Feeds]{K:Qf}{X:Cx}
def uL :∀n:Nat,(∀(e:Qd) (d:My),sizeOf e<n->dB e=some d->Ev K X e (S4 d) (sC d))/\(∀(es:List Qd) (ds:List My),sizeOf es<n->ck es=some ds->Ea K X es (bZ ds) (λ_ F=>some (ds,F))):=by
 intro n;induction n with
 | zero=>exact⟨λ_ _ h=>absurd h (Oo _),λ_ _ h=>absurd h (Oo _)⟩
 | succ n ih =>
  refine⟨λe d hn h=>?_,λes ds hn h=>?_⟩
  .unfold dB at h;split at h
   .unfold cC at h;split at h
    .cases h;simp only[S4];exact i4
    .cases h;simp only[S4];exact cy
    .cases h;simp only[S4];exact bj
    .cases h;simp only[S4];exact fK
    .cases h
   .rename_i o e1 p1;split at h
    .rename_i ho;obtain⟨i,e2,h2⟩:=LK.1 h;clear h;obtain⟨k,p,rfl⟩:=kZ e2;have:o = .USub:=by cases o <;> first | rfl | (exact absurd ho (by decide))
     subst this h2;simp only[S4];have hp:PE X (.UnaryOp .USub (.Constant (.int i) k p) p1) (tUn (rU λi=>.int (-i)) (tC (.int i))):=vA rh k8;exact⟨λQz s O H Q I h=>hp Qz s O H Q I ⟨i,rfl,h⟩,λG B E F O H Q d F' I e q=>by cases e;exact q _ H Kp.refl I.fd b8.int⟩
    .cases h
   .rename_i a o b p1;split at h
    .rename_i ho;obtain⟨i,e2,h2⟩:=bS9 h;clear h;obtain⟨j,e3,h⟩:=bS9 h2;clear h2;obtain⟨k,p,rfl⟩:=kZ e2;obtain⟨k',p',rfl⟩:=kZ e3;have:o = .Pow:=by cases o <;> first | rfl | (exact absurd ho (by decide))
     subst this;split at h
     .rename_i hc;cases h;simp only[S4];have hp:PE X (.BinOp (.Constant (.int i) k p) .Pow (.Constant (.int j) k' p') p1) (tOp (rI zF λi j=>.int (i ^ j.toNat)) (tC (.int i)) (tC (.int j))):=D8 wX k8 k8;exact⟨λQz s O H Q I h=>hp Qz s O H Q I ⟨i,j,rfl,rfl,hc,h⟩,λG B E F O H Q d F' I e q=>by cases e;exact q _ H Kp.refl I.fd b8.int⟩
     .cases h
    .cases h
   .rename_i es k p;obtain⟨ds,e1,h⟩:=bS9 h;split at h
    .rename_i hl;cases h;simp only[S4];have hh:=ih.2 es ds (by simp at hn;omega) e1;exact⟨lY hh.pa,λG B E F O H Q d F' I e q=>by
      cases e;refine hh.ok G B E F O H _ ds _ I rfl λvs H1 k1 f1 h1=>⟨?_,λp hp=>q _ _ (k1.trans (Kp.upd hp)) (f1.same (h8.upd hp)) (V1 (C8 I.bk k1 f1) hp h1)⟩
      rw[h1.length];exact LS hl (by rw[LV];decide)⟩
    .cases h
   .rename_i es p;obtain⟨ds,e1,h⟩:=bS9 h;split at h
    .rename_i hl;cases h;simp only[S4];have hh:=ih.2 es ds (by simp at hn;omega) e1;exact⟨Q7 hh.pa,λG B E F O H Q d F' I e q=>by
      cases e;refine hh.ok G B E F O H _ ds _ I rfl λvs H1 k1 f1 h1=>⟨?_,λp hp=>q _ _ (k1.trans (Kp.upd hp)) (f1.same (h8.upd hp)) (Q2 (C8 I.bk k1 f1) hp h1)⟩
      rw[h1.length];exact LS hl (by rw[LV];decide)⟩
    .cases h
   .cases h
  .cases es with
   | nil=>simp only[ck]at h;cases h;simp only[bZ];exact l0
   | cons e es =>
    simp only[ck]at h
    obtain⟨d,e1,h⟩:=bS9 h
    obtain⟨ds',e2,h⟩:=bS9 h
    cases h
    simp only[bZ]
    exact d9 (ih.1 e d (by simp at hn;omega) e1) (ih.2 es ds' (by simp at hn;omega) e2) (qT e1)
def wJ (e:Qd)(d:My)(h:dB e=some d):Ev K X e (S4 d) (sC d):=(uL (sizeOf e+1)).1 e d (MV _) h
def P8 (d:My){e:Qd}(h:dB e=some d):Ev K X e (S4 d) (sC d):=wJ e d h
end
end
end L3
namespace L3
open PySem
def O9:Qq "len" = some (.builtin "len"):=by decide +kernel
def Dm:Qq "sum" = some (.builtin "sum"):=by decide +kernel
def Dn:Qq "min" = some (.builtin "min"):=by decide +kernel
def S8:Qq "repr" = some (.builtin "repr"):=by decide +kernel
def jX:Qq "sorted" = some (.builtin "sorted"):=by decide +kernel
def J9:Qq "tuple" = some (.type "tuple"):=by decide +kernel
def kY:Qq "list" = some (.type "list"):=by decide +kernel
def xR:Qq "int" = some (.type "int"):=by decide +kernel
end L3
namespace L3
open PySem PySem.Spec PyProof.Rows L2
variable {iter tg:Qd}{es:List Qd}{ta tc te:TE}{p2 pos pos':Pos}
section
section
variable [Feeds]{K:Qf}{X:Cx}{a b c e:Qd}{tb:TE}{ma mb mc m:DE->M My}{p:Pos}
def sCh (f g:My->My->Option My)(a b c:DE->M My):DE->M My:=λE F=>(a E F).bind λp=>(b E p.2).bind λq=>(f p.1 q.1).bind λz=>(bu z).bind λt=>if t then(c E q.2).bind λr=>(g q.1 r.1).bind λy=>some (y,r.2) else some (.bool false,q.2)
def Ax {f g:My->My->Option My}(ha:TEs K ta ma)(hb:TEs K tb mb)(hc:TEs K tc mc):TEd K (pM (rD2 K f) (rD2 K g) ta tb tc) (sCh f g ma mb mc):=λG B E F O H Q d F' I e q=>by
 obtain⟨⟨x,F1⟩,e1,e⟩:=bS9 e;obtain⟨⟨y,F2⟩,e2,e⟩:=bS9 e;obtain⟨z,e3,e⟩:=bS9 e;obtain⟨t,e4,eL⟩:=bS9 e;refine ha G B E F O H _ x F1 I e1 λv H1 k1 f1 h1=>?_
 refine hb G B E F1 O H1 _ y F2 (I.step k1 f1) e2 λw H2 k2 f2 h2=>⟨u4 K G,B,x,y,_,C8 I.bk (k1.trans k2) f2,h1.step k2 I.fB,h2,e3,λu H3 s hu=>?_⟩
 have:=M7 e4;subst this;simp only[b8]at hu;refine⟨t,hu,?_⟩;have k3:=(k1.trans k2).trans (Kp.same s);cases t with
 | false =>rw[Lk (by decide)]at eL ⊢;cases eL;exact q _ H3 k3 (f2.same s) b8.bl
 | true =>rw[Lg rfl]at eL ⊢;obtain⟨⟨r,F3⟩,e5,eM⟩:=bS9 eL;obtain⟨z2,e6,eN⟩:=bS9 eM;cases eN;refine hc G B E F2 O H3 _ r F3 (I.step k3 (f2.same s)) e5 λw' H4 k4 f4 h4=>⟨u4 K G,B,y,r,_,C8 I.bk (k3.trans k4) f4,(h2.step (Kp.same s) I.fB).step k4 I.fB,h4,e6,λu5 H5 s5 hu5=>q u5 H5 ((k3.trans k4).trans (Kp.same s5)) (f4.same s5) hu5⟩
def we {op op':CmpOp}{f g:My->My->Option My}(ho:OpR X (compareOp op) (rD2 K f))(ho':OpR X (compareOp op') (rD2 K g))(ha:Eb K X a ta ma)(hb:Eb K X b tb mb)(hc:Eb K X c tc mc)
  (hm:lastMarks [op,op'] [b,c]=false:=by with_unfolding_all rfl):Et K X (.Compare a [op,op'] [b,c] pos) (bR (pM (rD2 K f) (rD2 K g) ta tb tc)) (uB (sCh f g ma mb mc)) :=
 ⟨vI ho ho' ha.pe hb.pe hc.pe hm,λG B E F O H Q d F' I e q=>by
  obtain⟨⟨x,F1⟩,e1,e⟩:=bS9 e;obtain⟨t,e2,e⟩:=bS9 e;cases e;refine Ax ha.ok hb.ok hc.ok G B E F O H _ x F1 I e1 λv H1 k1 f1 h1=>?_
  have:=M7 e2;simp only at this;subst this;simp only[b8]at h1;exact⟨_,h1,q H1 k1 f1⟩⟩
def Y8 (i:Nat){x:Str}{px ap cp:Pos}(hK:X.K=K)(hv:Ev K X e te m)(hN:X.N[i]? = some x:=by rfl)(hvis:Vis X.env.scope x:=by walk_at "v")(hd:(x == ("__debug__":Str))=false:=by decide)(hcd:(x == ("__classdict__":Str))=false:=by decide)
  (hbase:Qp (.Name x px) "append" X.env (eval (.Name x px) X.env)=eval (.Name x px) X.env:=by rfl)
  (hfew:((Qk cp (Qh [e] X.env)).all (λx=>!x.1)&&(Qx cp (Qy [] X.env)).all (λx=>x.1.isSome)
   && decide ([e].length+([]:List Ql).length+(if ([]:List Ql).isEmpty then 0 else 1)<30))=true:=by rfl)
  (hline:(ap.endLine == cp.line)=true:=by rfl) (hst:Qh [e] X.env=(false,eval e X.env)::Qh [] X.env:=by rfl) (hplain:(Qk cp (Qh [] X.env)).any (·.1)=false:=by rfl)
  (hs:Qo (.Call (.Attribute (.Name x px) "append" ap) [e] [] cp) none pos.line X.env=pure false:=by rfl) :
  Ss K X (.Expr (.Call (.Attribute (.Name x px) "append" ap) [e] [] cp) pos) (bc (tBM K "list" Y4 (z7 i) (B4 te K8))) (cn i m):=by subst hK;exact⟨Y0 (ke Nl Nh Ni M9 (L7 hN hvis hd hcd) (l7 hv.pe u9 hst) hbase hfew hline hst hplain) hs,EA hv.ok⟩
end
end
section
section
variable [Feeds]{K:Qf}{X:Cx}{a b c e:Qd}{tb:TE}{ma mb mc m:DE->M My}{p:Pos}{P:PX}{w:PY}{mg:Str->Option PR}{base:Qe}
def GD (K:Qf)(mg:Str->Option PR)(x:Str)(d:My):Prop:=∃a,mg x=some (.ref a)/\∀H,b8 K H d (.ref a)
def FW {x:Str}{d:My}(h:GD K X.mg x d)(hg:Gl X x:=by rfl)(hd:(x == ("__debug__":Str))=false:=by decide):Ev K X (.Name x p) (tC (.ref h.choose)) (sC d) :=
 ⟨zi hg h.choose_spec.1 rfl hd,λG B E F O H Q d F' I e q=>by cases e;exact q _ H Kp.refl I.fd (h.choose_spec.2 _)⟩
def strsOf:List PR->Option (List Str)
 | []=>some []
 | .str x _::r=>(strsOf r).map (x :: ·)
 | _=>none
theorem kJ:∀{us:List PR} {ss:List Str},strsOf us=some ss->r6 (ss.map V.str) us/\∀H,b7 K H (ss.map .str) (ss.map V.str)
 | [],ss,h=>by cases h;exact⟨.nil,λH=>b7.nil⟩
 | u::r,ss,h=>by
  cases u with
  | str x t =>obtain⟨ss',e1,rfl⟩:=LK.1 (show(strsOf r).map (x :: ·)=some ss from h);obtain⟨h1,h2⟩:=kJ e1;exact⟨.cons ⟨t,rfl⟩ h1,λH=>⟨_,_,rfl,rfl,h2 H⟩⟩
  | _=>cases h
def gd_mk {h:Qe}{x:Str}{t:PU}{its:Array PR}{n:Nat}{dd:Option PU}{sl:Array (Option PR)}{ss:List Str}(X:K.In h)(G:h.Ns Qn mg)(hn:PySem.W.nsIn K Qn x=some (some (.ref t)))(hl:K.lookup t=some ⟨.type "tuple",dd,.seq its n,sl⟩)(hs:strsOf its.toList=some ss)(hz:ss.length<=1000):GD K mg x (.tuple (ss.map .str)):=by
 obtain⟨h1,h2⟩:=kJ (K:=K) hs;refine⟨t,OU X G hn,λH=>⟨t,ss.map V.str,rfl,.inr ⟨_,its,n,hl,rfl,rfl,?_,h1⟩,h2 H⟩⟩;have:=h1.length;rw[Lf]at this;have e:its.size=ss.length:=by rw[this];simp
 rw[e];exact LS hz (by rw[LV];decide)
end
end
variable {prog:PX}{items:Array PR}{Qz:List (PU×Qi)}
section
section
variable {w:PY}{A:PZ}{E:PR->PV->Prop}{s:PV}
def dM {it l:PU}{i:Nat}{items}{x:PR}{Q:PR->PV->Prop}(hit:s.heap.IsTupleIter it l i)
  (hl:s.heap.IsTuple l items) (hx:items[i]? = some x)
  (hQ:∀h',h'.IsTupleIter it l (i+1)->Qe.SameBut it s.heap h'->Q x { s with heap:=h' }) :
  Qm (model prog w) A (Builtin.SmallTypes.nextOf (.ref it)) Q E s:=by
 obtain⟨o,ho,hc,hd⟩:=id hit;obtain⟨ol,hol,_,nl,hdl⟩:=hl;unfold Builtin.SmallTypes.nextOf;refine Ld (NB (name:=Str.ofString "__next__") hit.typeIs Nr
  (NF Nr hit.typeIs OS ?_ (OO _)))
 walk_at "kj";simp only[MR,hx];refine Ld (wpAny_setField ho hd (by simp) (Lo ⟨x,rfl,Lo (hQ _ ?_ (Nq ..))⟩));exact⟨_,Qe.get?_update_self _ ho (Qi.isFreed_of_fields (Qi.data_mapFields hd _)),(Qi.cls_mapFields ..).trans hc,by rw[Qi.data_mapFields hd];simp[rawInt]⟩
def fR {it l:PU}{i:Nat}{items}{Q:PR->PV->Prop}(hh:A.handled=none)
  (hit:s.heap.IsTupleIter it l i) (hl:s.heap.IsTuple l items) (hx:items[i]? = none)
  (hE:∀h' e,Qe.ExtBut it s.heap h'->(∃o,h'.get? e=some o/\o.cls = .type "StopIteration")->E (.ref e) { s with heap:=h' }) :
  Qm (model prog w) A (Builtin.SmallTypes.nextOf (.ref it)) Q E s:=by
 obtain⟨o,ho,hc,hd⟩:=id hit;obtain⟨ol,hol,_,nl,hdl⟩:=hl;unfold Builtin.SmallTypes.nextOf;refine Ld (NB (name:=Str.ofString "__next__") hit.typeIs Nr
  (NF Nr hit.typeIs OS ?_ (OO _)))
 walk_at "kj";simp only[MR,hx];refine Ld (NR (Ld (wpAny_setField ho hd (by simp) ?_)));show Qm _ _ (newExc (.type "StopIteration") [] >>= _) _ _ _;refine Ld ?_;simp only[newExc,newTuple];refine Ld (Mo ?_ (by size_fits));refine Ld (m:=firstArgMember _ _) (wpAny_of_eq (a:=PR.none) (by first | rfl | (simp only[firstArgMember];rfl)) ?_);refine Mo ?_ (by size_fits);simp only[raiseNew];refine Ld (wpAny_handled ?_);first | rw[show A.in1.handled=none from hh] | rw[hh]
 refine Ld (Lo (wpAny_throw ?_));exact hE _ _ (((Nq ..).extBut.push _).push _) ⟨_,LI _ rfl,rfl⟩
end
def oE (b:Bool)(h:Qe)(it l:PU)(i:Nat):Prop:=if b then h.IsListIter it l i else h.IsTupleIter it l i
def tI (b:Bool)(h:Qe)(l:PU)(items:Array PR):Prop:=if b then h.IsList l items else h.IsTuple l items
def oE.at {b:Bool}{h h':Qe}{it l:PU}{i:Nat}(x:oE b h it l i)(k:∀o,h.get? it=some o->h'.get? it=some o):oE b h' it l i:=by
 cases b
 .exact Qe.IsTupleIter.at (show h.IsTupleIter it l i from x) k
 .exact Qe.IsListIter.at (show h.IsListIter it l i from x) k
def tI.at {b:Bool}{h h':Qe}{l:PU}(x:tI b h l items)(k:∀o,h.get? l=some o->h'.get? l=some o):tI b h' l items:=by
 cases b
 .obtain⟨o,ho,r⟩:=(show h.IsTuple l items from x);exact⟨o,k o ho,r⟩
 .exact Qe.IsList.at (show h.IsList l items from x) k
def oE.obj {b:Bool}{h:Qe}{it l:PU}{i:Nat}(x:oE b h it l i):∃o,h.get? it=some o/\∀v,o.data ≠ .cell v:=by
 cases b
 .obtain⟨o,e,c,d⟩:=(show h.IsTupleIter it l i from x);exact⟨o,e,λv z=>by rw[d]at z;cases z⟩
 .obtain⟨o,e,c,d⟩:=(show h.IsListIter it l i from x);exact⟨o,e,λv z=>by rw[d]at z;cases z⟩
def nL {w:PY}{A:PZ}(b:Bool)(hh:A.handled=none)(it l:PU)(hne:l≠it)(items:Array PR) :
  Draws prog w A it [it,l] items.size (λi v=>items[i]? = some v) (λi h=>oE b h it l i/\tI b h l items) where
 live:=λ_ _ st=>let ⟨o,ho,_⟩:=st.1.obj;⟨o,ho⟩
 frame:=λ_ _ _ st hk=>⟨st.1.at λo e=>hk it (by simp) o e,st.2.at λo e=>hk l (by simp) o e⟩
 item:=λi s Q E hi st hQ=>by
  cases b
  .refine dM (show s.heap.IsTupleIter it l i from st.1) (show s.heap.IsTuple l items from st.2) (x:=items[i]) (by simp[hi]) λh' hit' hs'=>?_
   exact hQ _ h' s.toks (by simp[hi]) ⟨hit',st.2.at λo e=>hs'.extBut l o hne e⟩ hs'
  .refine wpAny_nextOf_list_item (show s.heap.IsListIter it l i from st.1) (show s.heap.IsList l items from st.2) (x:=items[i]) (by simp[hi]) λh' hit' hs'=>?_
   exact hQ _ h' s.toks (by simp[hi]) ⟨hit',st.2.at λo e=>hs'.extBut l o hne e⟩ hs'
 done:=λs Q E st hE=>by
  cases b
  .exact fR hh (show s.heap.IsTupleIter it l items.size from st.1) (show s.heap.IsTuple l items from st.2) (by simp) hE
  .exact wpAny_nextOf_list_end hh (show s.heap.IsListIter it l items.size from st.1) (show s.heap.IsList l items from st.2) (by simp) hE
open AutoSeq1 (wpAny_loadPart') in
def bh (l:PU)(items:Array PR)(n:Nat)(dct:Option PU)(sl:Array (Option PR)) :
  Meets (Builtin.«enumerate.__new__» ⟨[.type "enumerate",.ref l],[]⟩) (λ_ R s=>s.heap.get? l=some { cls:=.type "tuple",dict:=dct,data:=.seq items n,slots:=sl } /\
   R (.ok (.ret (.ref (s.heap.push { cls:=.type "tuple_iterator",data:=.fields #[.ref l,.int 0 0] }).objs.size)))
    { s with heap:=(s.heap.push { cls:=.type "tuple_iterator",data:=.fields #[.ref l,.int 0 0] }).push { cls:=.type "enumerate",data:=.fields #[.none,.bool false,.ref s.heap.objs.size,rawInt 0,.none,.none] } }) :=
 .of_wp λprog w A R s h=>by
  obtain⟨hp,g,d,tk,os⟩:=s;obtain⟨hl,h⟩:=h;have hsub:=sub_enumerate;have hL:Qe.IsTuple (PV.heap ⟨hp,g,d,tk,os⟩) l items:=⟨_,hl,rfl,n,rfl⟩;wp_walk using wpAny_loadPart' hl;refine wpAny_stack_any λst=>Lo ?_
  split
  .rename_i c _ _ _ _ _;cases(c == PR.type "enumerate")
   .wp_walk using wpAny_loadPart' hl,NJ hL;exact⟨_,rfl,h⟩
   .wp_walk using wpAny_loadPart' hl,NJ hL;exact⟨_,rfl,h⟩
  .wp_walk using wpAny_loadPart' hl,NJ hL;exact⟨_,rfl,h⟩
section
variable {w:PY}{A:PZ}{E:PR->PV->Prop}{s:PV}
def bq {l:PU}{Q:PR->PV->Prop}(hL:s.heap.IsTuple l items)
  (h:∀h',IsEnum h' (s.heap.objs.size+1) s.heap.objs.size 0 .none->h'.IsTupleIter s.heap.objs.size l 0->h'.objs.size=s.heap.objs.size+2 ->
   (∀b o,s.heap.get? b=some o->h'.get? b=some o)->Q (.ref (s.heap.objs.size+1)) { s with heap:=h' }) :
  Qm (model prog w) A (call (.type "enumerate") [.ref l]) Q E s:=by
 obtain⟨⟨c,dct,dt,sl⟩,hl,hc,n,hd⟩:=hL;replace hc:c = .type "tuple":=hc;replace hd:dt = .seq items n:=hd;subst hc hd;refine callType_new PySem.F.called_enumerate (by decide) (PySem.F.typeCall_enumerate_1 _) (PySem.F.newCall_enumerate_1 _) (λobj=>PySem.F.args_object_init_2 obj _) PySem.F.entry_enumerate_new
  (bh l items n dct sl) ⟨hl,?_⟩
 have hz:(s.heap.push { cls:=.type "tuple_iterator",data:=.fields #[.ref l,.int 0 0] }).objs.size=s.heap.objs.size+1:=OF ..;show _/\_;rw[hz];have he:IsEnum ((s.heap.push { cls:=.type "tuple_iterator",data:=.fields #[.ref l,.int 0 0] }).push
   { cls:=.type "enumerate",data:=.fields #[.none,.bool false,.ref s.heap.objs.size,rawInt 0,.none,.none] }) (s.heap.objs.size+1) s.heap.objs.size 0 .none:=by
  have:=LI (s.heap.push { cls:=.type "tuple_iterator",data:=.fields #[.ref l,.int 0 0] })
   (o:={ cls:=.type "enumerate",data:=.fields #[.none,.bool false,.ref s.heap.objs.size,rawInt 0,.none,.none] }) rfl
  rw[hz]at this;exact this
 refine⟨⟨_,he,rfl⟩,h _ he ⟨_,Ll _ (LI _ rfl),rfl,rfl⟩ (by rw[OF,hz]) λb o x=>Ll _ (Ll _ x)⟩
def uG {b:Bool}{l:PU}{Q:PR->PV->Prop}(hL:tI b s.heap l items)
  (h:∀h',IsEnum h' (s.heap.objs.size+1) s.heap.objs.size 0 .none->oE b h' s.heap.objs.size l 0->h'.objs.size=s.heap.objs.size+2 ->
   (∀b o,s.heap.get? b=some o->h'.get? b=some o)->Q (.ref (s.heap.objs.size+1)) { s with heap:=h' }) :
  Qm (model prog w) A (call (.type "enumerate") [.ref l]) Q E s:=by
 cases b
 .exact bq (show s.heap.IsTuple l items from hL) h
 .exact call_enumerate_list (show s.heap.IsList l items from hL) h
end
def SqA (b:Bool)(K:Qf)(H:Hp)(a:PU)(xs:List V):Prop:=if b then SqL K H a xs else SqT K H a xs
def Ite (b:Bool)(K:Qf)(a:PU):It :=
 ⟨λi H=>∃xs x,SqA b K H a xs/\xs[i]? = some x,λi H v H'=>∃t x,v = .ref t/\H t=none/\H'=upd H t (.tup [.int i,x])/\∀xs,SqA b K H a xs->xs[i]? = some x,λi H=>∃xs,SqA b K H a xs/\xs.length=i⟩
def SqA.get {b:Bool}{X:Cx}{O:St}{H:Hp}{s:PV}{a:PU}{xs:List V}(I:Inv X Qz O H s)(h:SqA b X.K H a xs):∃its:List PR,r6 xs its/\tI b s.heap a its.toArray:=by
 cases b
 .obtain⟨its,rv,p,_⟩:=I.tuple (show SqT X.K H a xs from h);exact⟨its,rv,p⟩
 .obtain⟨its,rv,p,_⟩:=I.list (show SqL X.K H a xs from h);exact⟨its,rv,p.isList⟩
def SqA.inj {b:Bool}{X:Cx}{O:St}{H:Hp}{s:PV}{a:PU}{xs ys:List V}(I:Inv X Qz O H s)(h:SqA b X.K H a xs)(h':SqA b X.K H a ys):ys=xs:=by
 cases b
 .exact I.tuple_inj (show SqT X.K H a ys from h') (show SqT X.K H a xs from h)
 .exact I.list_inj (show SqL X.K H a ys from h') (show SqL X.K H a xs from h)
end
section
def wO {h:Qe}{c:PU}{o o':Qi}(hl:c<h.objs.size)(e:(h.push o).get? c=some o'):h.get? c=some o':=by obtain⟨e1,e2⟩:=Qe.get?_some_iff.1 e;refine Qe.get?_some_iff.2 ⟨?_,e2⟩;have:=LH hl;cases h;simpa [Qe.push,Array.getElem?_push,this] using e1
def jC {X:Cx}{O:St}{H:Hp}{s:PV}{h':Qe}{t':Nat}{fp:List PU}(I:Inv X Qz O H s)(hf:∀b∈fp,dS X Qz H b)(k:∀b o,b ∉ fp->s.heap.get? b=some o->h'.get? b=some o):Inv X Qz O H { s with heap:=h',toks:=t' }:=by
 have nit:∀b u,H b=some u->b ∉ fp:=λb u e z=>by rw[(hf b z).1]at e;cases e
 refine I.step (g':=s.gens) (d':=s.drawn) (ch:=fp) (λb hb=>?_) (λb o _ _ hc e _=>k b o hc e) (λb o _ _ hc e _=>⟨o.slots,k b o hc e⟩) (λ_ _ _ _ n=>n)
  (λb o hc e=>⟨o,k b o hc e⟩) (λ_ _ e=>e) (λ_ _ _ e=>e) (λb ps e=>⟨#[],by rw[e];simp⟩) (λm hm=>?_) (λb u e=>?_) I.bare
 .obtain⟨_,f1,f2,f3,f4,f5⟩:=hf b hb;exact⟨f3,f1,f4,f5⟩
 .obtain⟨o,es,ep,ho,r⟩:=hm;exact⟨o,es,ep,k _ o (λz=>(hf _ z).2.1 rfl) ho,r⟩
 .refine(I.hok b u e).stay (λc v hc q=>k c v ?_ q) (λ_ q=>q) λ_ _ q=>q
  rcases hc with z | z
  .rw[z];exact nit b u e
  .exact nit c _ z
def tN {P:PX}{w:PY}{K:Qf}{k:Nat}(b:Bool)(a e it:PU):Turn P w K (.Tuple es k pos) (Ite b K a) [e,it] e (λi h=>(e≠it/\a≠e/\a≠it)/\(∃old,IsEnum h e it i old)/\oE b h it a i) where
 mem:=by simp
 obj:=λi h st c hb=>by
  obtain⟨_,⟨old,he⟩,hit⟩:=st;rcases Lh.1 hb with rfl | hb
  .exact⟨_,he,λv z=>by cases(show Data.fields _=Data.cell v from z)⟩
  .rw[Mv.1 hb];exact hit.obj
 keep:=λi h h' st kk=>by obtain⟨n,⟨old,he⟩,hit⟩:=st;exact⟨n,⟨old,kk e (by simp) _ he⟩,hit.at λo z=>kk it (by simp) o z⟩
 item:=by
  walk_at "ko";obtain⟨⟨n1,n2,n3⟩,⟨old,he⟩,hit⟩:=st;obtain⟨xs,x,hq,hx⟩:=hg;obtain⟨its,rv,p⟩:=SqA.get I hq;obtain⟨u,hu,ru⟩:=rv.get hx;have hlt:i<its.toArray.size:=by have:=(Lj.1 hu).1;simpa using this
  have hel:e<s.heap.objs.size:=Lw he;have hil:it<s.heap.objs.size:=by obtain⟨o,z,_⟩:=hit.obj;exact Lw z
  refine wpAny_pyNext_enum_itemD (nL b (A:=X.A.in1) (I.ok.hd hc) it a n3 its.toArray) he ⟨hit,p⟩ hlt n1 (by simp[n1,LZ n2]) λy h' tk hy ho hst' ht hz hk=>?_
  have hyu:y=u:=by have hy:its.toArray[i]? = some y:=hy;rw[List.getElem?_toArray,hu]at hy;exact(Lr hy).symm
  subst hyu;refine⟨_,rfl,wpAny_letOwnedTupleGo_enum ho λh2 he2 hs2=>?_⟩;have hs2:Qe.SameBut e h' h2:=hs2;have hf0:H s.heap.objs.size=none:=I.hok.fresh (Ln _);have I1:Inv X Qz O (upd H s.heap.objs.size (.tup [.int i,x])) { s with heap:=s.heap.push { cls:=.type "tuple",data:=.seq #[.int i tk,y] },toks:=tk }:=by refine I.laid (t':=tk) (λb u e=>Ll _ e) (Ln _) ?_;exact⟨LS (show 2<=10000 by decide) (by rw[LV];decide),[.int i tk,y],.cons ⟨tk,rfl⟩ (.cons ru .nil),⟨_,LI _ rfl,rfl,_,rfl⟩⟩
  have hfp:∀c∈[e,it],dS X Qz (upd H s.heap.objs.size (.tup [.int i,x])) c:=λc hcm=>by
   obtain⟨f0,f⟩:=hf c hcm;have hne:c≠s.heap.objs.size:=by
    rcases Lh.1 hcm with rfl | hcm
    .exact LH hel
    .rw[Mv.1 hcm];exact LH hil
   exact⟨by rw[b9 hne];exact f0,f⟩
  have hT2:h2.get? s.heap.objs.size=some { cls:=.type "tuple",data:=.seq #[.int i tk,y] }:=hs2.extBut _ _ (PJ hel) ht;have I2:Inv X Qz O (upd H s.heap.objs.size (.tup [.int i,x])) { s with heap:=h2,toks:=tk+1 }:=by
   refine jC (s:={ s with heap:=s.heap.push { cls:=.type "tuple",data:=.seq #[.int i tk,y] },toks:=tk }) I1 hfp λc o hcn ec=>?_
   have c1:c≠e:=λz=>hcn (by simp[z])
   have c2:c≠it:=λz=>hcn (by simp[z])
   by_cases hcT:c=s.heap.objs.size
   .subst hcT;have:(s.heap.push { cls:=.type "tuple",data:=.seq #[.int i tk,y] }).get? s.heap.objs.size=some o:=ec;rw[LI _ rfl]at this;rw[hT2];exact this
   .have hlc:c<s.heap.objs.size:=by have h1:c<(s.heap.push { cls:=.type "tuple",data:=.seq #[.int i tk,y] }).objs.size:=Lw ec;rw[OF]at h1;exact Nat.lt_of_le_of_ne (Nat.le_of_lt_succ h1) hcT
    have ec':s.heap.get? c=some o:=by have ec:(s.heap.push { cls:=.type "tuple",data:=.seq #[.int i tk,y] }).get? c=some o:=ec;exact wO hlc ec
    exact hs2.extBut c o c1 (hk c o c1 c2 ec')
  refine⟨.ref s.heap.objs.size,upd H s.heap.objs.size (.tup [.int i,x]),I2,rfl,⟨_,x,rfl,hf0,rfl,λys hy=>by rw[SqA.inj I hq hy];exact hx⟩,⟨⟨n1,n2,n3⟩,⟨y,by simpa using he2⟩,hst'.1.at λo z=>hs2.extBut it o (LZ n1) z⟩,λc hcm=>(hfp c hcm).1⟩
 done:=by
  walk_at "ko";obtain⟨⟨n1,n2,n3⟩,⟨old,he⟩,hit⟩:=st;obtain⟨xs,hq,hx⟩:=hg;obtain⟨its,rv,p⟩:=SqA.get I hq;have hl:its.toArray.size=i:=by rw[Ls,<-rv.length];exact hx
  refine wpAny_pyNext_enum_endD (nL b (A:=X.A.in1) (I.ok.hd hc) it a n3 its.toArray) he (by rw[hl];exact⟨hit,p⟩) λh' eb=>⟨rfl,jC (t':=s.toks) I hf λc o hc ec=>eb c o (λz=>hc (by simp[z])) ec⟩
 self:=λ_ _ _ _ _ st h=>by obtain⟨_,⟨old,he⟩,_⟩:=st;exact wpAny_pyIter_enum he h
section
variable [Feeds]{K:Qf}{X:Cx}{e:Qd}{m:DE->M My}{p tp:Pos}{tk:Nat}
def T7:Nat->List My->List My
 | _,[]=>[]
 | k,d::r=>.tuple [.int k,d]::T7 (k+1) r
theorem kO:∀{ds:List My} {k:Nat},(T7 k ds).length=ds.length
 | [],k=>rfl
 | d::r,k=>by rw[T7,Ly,Ly,kO]
theorem kE:∀{ds:List My} {k i:Nat} {z:My},(T7 k ds)[i]? = some z->∃d,ds[i]? = some d/\z = .tuple [.int ((k+i:Nat)),d]
 | [],k,i,z,h=>by simp[T7]at h
 | d::r,k,0,z,h=>by simp[T7]at h;exact⟨d,by simp,by simp[h]⟩
 | d::r,k,i+1,z,h=>by rw[T7,NV]at h;obtain⟨d',h1,h2⟩:=kE h;refine⟨d',by simpa using h1,?_⟩;rw[h2,show k+1+i=k+(i+1) by omega]
def cN (a:DE->M My):DE->M (List My):=λE F=>(a E F).bind λp=>(ki p.1).bind λds=>some (T7 0 ds,p.2)
def wL (K:Qf)(tl:TA):TI:=λO H R=>tl O H λxs H1=>∃a,xs=[.ref a]/\∃b ys,SqA b K H1 a ys/\R (Ite b K a) H1
def sR {l:Qd}{tl:TA}(hK:X.K=K)(hg:Gl X "enumerate")(hm:X.mg "enumerate" = none)(ha:PA X [l] tl)(hs:Qh [l] X.env=[(false,eval l X.env)]:=by rfl):PI X (.Tuple es tk tp) (.Call (.Name "enumerate" p) [l] [] pos) (wL K tl):=by
 subst hK;intro Qz s O H R I h;refine Call_ (dq I hg hm boot_enumerate (Np (thn (ha pos Qz s O H _ I h) λus s1 ⟨vs,H1,I1,r1,q1⟩=>?_) hs rfl));obtain⟨a,e,b,ys,hq,q⟩:=q1;subst e;cases r1 with
 | cons r rr =>
  cases rr;cases r;obtain⟨its,rv,p⟩:=SqA.get I1 hq;refine uG p λh' he hit hz hk=>?_
  have I2:Inv X Qz O H1 { s1 with heap:=h' }:=I1.kept (t':=s1.toks) hk;have hal:a<s1.heap.objs.size:=by
   cases b
   .obtain⟨o,z,_⟩:=(show s1.heap.IsTuple a its.toArray from p);exact Lw z
   .obtain⟨o,z,_⟩:=(show s1.heap.IsList a its.toArray from p);exact Lw z
  refine wpAny_pyIter_enum he ⟨s1.heap.objs.size+1,[s1.heap.objs.size+1,s1.heap.objs.size],_,_,H1,rfl,I2,tN b a _ _,⟨⟨Nat.succ_ne_self _,LH (Nn hal),LH hal⟩,⟨_,he⟩,hit⟩,λc hc=>?_,q⟩;have hle:s1.heap.objs.size<=c:=by
   rcases Lh.1 hc with rfl | hc
   .exact NS _
   .rw[Mv.1 hc];exact Ln _
  exact I1.fpOk hle (I1.hok.fresh hle)
def gL {P:Hp->List PU->Prop}{b:Bool}{a:PU}{ds:List My}{xs:List V}(h:∀H B,P H B->SqA b K H a xs/\b7 K (hid H B) ds xs):fO K P (Ite b K a) (T7 0 ds):=λH B hp=>by obtain⟨h1,h2⟩:=h H B hp;refine⟨λi d e=>?_,⟨xs,h1,by rw[kO,h2.length]⟩⟩;obtain⟨d',hd',rfl⟩:=kE e;obtain⟨v,e1,e2⟩:=b7.item h2 hd';refine⟨⟨xs,v,h1,e1⟩,λx H2 y=>?_⟩;obtain⟨t,x',rfl,ht,rfl,y⟩:=y;have:=y xs h1;rw[e1]at this;cases this;refine⟨h8.upd ht,λbk=>?_⟩;rw[Ml];exact V1 bk ht ⟨_,_,rfl,b8.int,_,_,rfl,e2,rfl⟩
def sr (h:Ev K X e te m)(hm:X.mg "enumerate" = none)(hK:X.K=K:=by rfl)(hg:Gl X "enumerate":=by rfl)(hs:Qh [e] X.env=[(false,eval e X.env)]:=by rfl):Ei K X (.Tuple es tk tp) (.Call (.Name "enumerate" p) [e] [] pos) (wL K (B4 te K8)) (cN m):=⟨sR hK hg hm (l7 h.pe u9 hs) hs,λG B E F O H R ds F' I e q=>by
 walk_at "kk"
 cases y with
 | list ys =>cases e2;simp only[b8]at h1;obtain⟨a,xs,rfl,ha,hd⟩:=h1;exact⟨a,rfl,true,xs,SqL.of (f8 _ _ ha),q _ H1 k1 f1 (gL λH2 B2 s=>⟨SqL.of (f8 _ _ (s _ _ ha)),hd.same s⟩)⟩
 | tuple ys =>cases e2;simp only[b8]at h1;obtain⟨a,xs,rfl,ha,hd⟩:=h1;exact⟨a,rfl,false,xs,ha.same f8,q _ H1 k1 f1 (gL λH2 B2 s=>⟨(ha.same s).same f8,hd.same s⟩)⟩
 | _=>cases e2⟩
def nD (h:Eb K X e te m)(hm:X.mg "enumerate" = none)(hK:X.K=K:=by rfl)(hg:Gl X "enumerate":=by rfl)(hs:Qh [e] X.env=[(false,eval e X.env)]:=by rfl):Eib K X (.Tuple es tk tp) (.Call (.Name "enumerate" p) [e] [] pos) (wL K (B4 te K8)) (cN m):=⟨sR hK hg hm (l7 h.pe u9 hs) hs,λG B E F O H R ds F' I e q=>by
 walk_at "kk"
 cases y with
 | list ys =>cases e2;obtain⟨a,xs,rfl,ha,hd⟩:=h1;exact⟨a,rfl,true,xs,SqL.of (f8 _ _ ha),q _ H1 k1 f1 (gL λH2 B2 k=>⟨SqL.of (f8 _ _ (k.1.hid (B:=u4 K G) (λ_ z=>z) _ _ ha)),hd.same k.2⟩)⟩
 | tuple ys =>cases e2;obtain⟨a,xs,rfl,ha,hd⟩:=h1;exact⟨a,rfl,false,xs,ha.same f8,q _ H1 k1 f1 (gL λH2 B2 k=>⟨(ha.same k.2).same f8,hd.same k.2⟩)⟩
 | _=>cases e2⟩
end
end
section
section
variable [Feeds]{K:Qf}{X:Cx}{a b c e:Qd}{tb:TE}{ma mb mc m:DE->M My}{p:Pos}{t u:TS}{mt mu:DE->M Out}
def aK (c:DE->M Bool)(b:DE->M Out):Nat->DE->M Out
 | 0,_,_=>none
 | n+1,E,F=>(c E F).bind λp=>if p.1=true then(b E p.2).bind λq=>match q.1 with
  | .nx E2=>aK c b n E2 q.2
  | .ct E2=>aK c b n E2 q.2
  | .bk E2=>some (.nx E2,q.2)
  | .rt d=>some (.rt d,q.2)
  else some (.nx E,p.2)
theorem cm {c:DE->M Bool}{b:DE->M Out}:∀{n m:Nat} {E:DE} {F:FS} {r:Out×FS},n<=m->aK c b n E F=some r->aK c b m E F=some r
 | 0,m,E,F,r,_,h=>by cases h
 | n+1,0,E,F,r,hl,h=>absurd hl (by omega)
 | n+1,m+1,E,F,r,hl,h=>by
  rw[aK]at h ⊢;obtain⟨⟨x,F1⟩,e1,h⟩:=bS9 h;rw[e1,LC];dsimp only at h ⊢;cases x with
  | false=>exact h
  | true =>
   rw[Lg rfl]at h ⊢;obtain⟨⟨o,F2⟩,e2,h⟩:=bS9 h;rw[e2,LC];cases o with
   | nx E2=>exact cm (n:=n) (m:=m) (by omega) h
   | ct E2=>exact cm (n:=n) (m:=m) (by omega) h
   | bk E2=>exact h
   | rt d=>exact h
open Classical in
def mWh (c:DE->M Bool)(b:DE->M Out):DE->M Out:=λE F=>if h:∃n r,aK c b n E F=some r then some (Classical.choose (Nf h)) else none
def uZ {c:DE->M Bool}{b:DE->M Out}{n:Nat}{E:DE}{F:FS}{r:Out×FS}(h:aK c b n E F=some r):mWh c b E F=some r:=by unfold mWh;have hx:∃n r,aK c b n E F=some r:=⟨n,r,h⟩;rw[dif_pos hx];have h2:=Nf (Nf hx);have a1:=cm (Nat.le_max_left n (Classical.choose hx)) h;have a2:=cm (Nat.le_max_right n (Classical.choose hx)) h2;rw[a1]at a2;exact a2.symm
def wW {c:DE->M Bool}{b:DE->M Out}{E:DE}{F:FS}{r:Out×FS}(h:mWh c b E F=some r):∃n,aK c b n E F=some r:=by
 unfold mWh at h;split at h
 .rename_i hx;cases h;exact⟨_,Nf (Nf hx)⟩
 .cases h
def yX {tt:TT}{tb:TS}{mc:DE->M Bool}{mb:DE->M Out}(hc:TTd K tt mc)(hb:TSd K tb mb):TSd K (jv tt tb) (mWh mc mb):=λG B0 H0 E F O H D r F' S e q=>by
 obtain⟨n,e⟩:=wW e;refine⟨λm O H=>∃E F,Sit K G B0 H0 E F O H/\aK mc mb m E F=some (r,F'),⟨n,E,F,S,e⟩,?_⟩;rintro m σ2 H2 ⟨E2,F2,S2,e2⟩;cases m with
 | zero=>cases e2
 | succ m =>
  rw[aK]at e2;obtain⟨⟨x,F3⟩,e3,e2⟩:=bS9 e2;obtain⟨B,s,sn,I⟩:=S2.ex;refine hc G B E2 F2 σ2 H2 _ x F3 I e3 λH3 k3 f3=>?_
  have S3:=S2.step k3 f3;cases x with
  | false =>rw[Lk LF];cases e2;exact q σ2 H3 S3
  | true =>
   rw[Lg rfl];rw[Lg rfl]at e2;obtain⟨⟨o,F4⟩,e4,e2⟩:=bS9 e2;refine⟨λO' H'=>∃E F,Sit K G B0 H0 E F O' H'/\aK mc mb m E F=some (r,F'),λO' H' h=>⟨m,MV _,h⟩,?_⟩;refine hb G B0 H0 E2 F3 σ2 H3 _ o F4 S3 e4 ?_;cases o with
   | nx E6=>exact λσ6 H6 S6=>⟨E6,F4,S6,e2⟩
   | ct E6=>exact λσ6 H6 S6=>⟨E6,F4,S6,e2⟩
   | bk E6=>cases e2;exact λσ6 H6 S6=>q σ6 H6 S6
   | rt d=>cases e2;exact λv H6 k6 f6 h6=>q v H6 k6 f6 h6
def xb {body:List Qc}{tt:TT}{tb:TS}{mc:DE->M Bool}{mb:DE->M Out}(hc:Et K X c tt mc)(hb:Sss K X body tb mb)(hp:PassesOwn (model X.prog X.w) X.A X.env X.xe:=by exact On):Ss K X (.While c body [] pos) (jv tt tb) (mWh mc mb) :=
 ⟨ot hp hc.pt hb.ps,yX hc.ok hb.ok⟩
def oa (f:Int->Int->Int)(i:Nat)(a:DE->M My):DE->M Out:=λE F=>match E[i]? with
 | some (some (.dat (.int x)))=>(a E F).bind λp=>(gp p.1).bind λy=>(bN i (.int (f x y)) E).bind λE1=>some (.nx E1,p.2)
 | _=>none
def DY {f:Int->Int->Int}{i:Nat}(he:TEd K te m):TSd K (yo i te (ipI f)) (oa f i m):=λG B0 H0 E F O H D r F' S e q=>by
 unfold oa at e;split at e
 .rename_i x hx;obtain⟨⟨d,F1⟩,e1,e⟩:=bS9 e;obtain⟨y,e2,e⟩:=bS9 e;obtain⟨E1,e3,e⟩:=bS9 e;cases e;obtain⟨B,s,sn,I⟩:=S.ex;obtain⟨v,v1,v2⟩:=I.loc i _ hx;have v2:b8 K (hid H B) (.int x) v:=v2;simp only[b8]at v2;subst v2;refine⟨_,v1,he G B E F O H _ d F1 I e1 λv H1 k1 f1 h1=>?_⟩;have:=cW e2;simp only at this;subst this;simp only[b8]at h1;subst h1;refine⟨x,y,rfl,rfl,?_⟩;have S1:=S.step k1 f1;exact lU i G B E F1 O H1 (.int (f x y)) _ E1 (λO' H'=>D.nx O' H') (I.step k1 f1) b8.int e3 λO' I' fr=>q O' H1 (S1.bind s sn I' fr)
 .cases e
def lh (i:Nat){x:Str}(hN:X.N.Nodup)(he:Ev K X e te m)(hi:X.N[i]? = some x:=by rfl)(hx:Loc X.env.scope x:=by walk_at "v")(hf:X.fn x=true\/X.env.scope.names.lookup x=some .local:=by walk_at "v") :
  Ss K X (.AugAssign (.Name x pos') .Add e pos) (yo i te (ipI λi j=>i+j)) (oa (λi j=>i+j) i m):=⟨vN hN hi hx he.pe By hf,DY he.ok⟩
def tw (i:Nat)(v:DE->M My):DE->M Out:=λE F=>(v E F).bind λp=>(aT E i).bind λds=>match p.1 with
 | .list zs=>if ds.length+zs.length<=Qg then some (.nx (E.set i (some (.own (ds++zs)))),p.2) else none
 | _=>none
end
end
section
section
variable [Feeds]{K:Qf}{X:Cx}{a b c e:Qd}{tb:TE}{ma mb mc m:DE->M My}{p:Pos}
end
end
section
section
variable {X:Cx}
end
section
variable [Feeds]{K:Qf}{X:Cx}{a b c e:Qd}{tb:TE}{ma mb mc m:DE->M My}{p pos2:Pos}
def AI (ta:TA):TE:=λO H Q=>ta O H λvs H1=>∃i j:Int,vs=[.int i,.int j]/\∀p,H1 p=none->Q (.ref p) (upd H1 p (.rng i j))
def tX {ta:TA}(hg:Gl X "range")(hm:X.mg "range" = none)(ha:PA X [a,b] ta)(hs:Qh [a,b] X.env=[(false,eval a X.env),(false,eval b X.env)]:=by rfl)(hs2:Qh [b] X.env=[(false,eval b X.env)]:=by rfl):PE X (.Call (.Name "range" p) [a,b] [] pos) (AI ta):=by
 intro Qz s O H Q I h;refine Call_ (dq I hg hm boot_range (Np (thn (ha pos Qz s O H _ I h) λus s1 ⟨vs,H1,I1,r1,q1⟩=>?_) (by rw[hs,hs2]) (by rw[hs2];rfl)));obtain⟨i,j,e,q⟩:=q1;subst e;cases r1 with
 | cons r rr =>
  cases rr with
  | cons r2 rr =>cases rr;obtain⟨t,rfl⟩:=r;obtain⟨t2,rfl⟩:=r2;refine call_range_2 ?_;exact⟨.ref s1.heap.objs.size,_,I1.laid (a:=s1.heap.objs.size) (o:=.rng i j) (λb o e=>Ll _ e) (Ln _) ⟨_,_,_,LI _ rfl⟩,rfl,q _ (I1.hok.fresh (Ln _))⟩
def ud {lo:Int}{n:Nat}{acc:Array PR}(h:ItemsOf (λi v=>∃t,v=PR.int (lo+i*1) t) acc n):r6 ((List.range n).map λ(i:Nat)=>V.int (lo+(i:Int))) acc.toList:=by
 obtain⟨h1,h2⟩:=h;refine Y2 (by rw[Lf,LY,Na,h1]) λi x u hx hu=>?_
 rw[Lv]at hx;obtain⟨j,hj,rfl⟩:=LK.1 hx;obtain⟨hlt,e⟩:=Lj.1 hj;rw[Pm]at e;subst e;obtain⟨t,rfl⟩:=h2 i u (by rw[<-Mx];exact hu);exact⟨t,by congr 1;omega⟩
def vz :List V->Hp->VK->Prop:=λxs H Q=>∃(p:PU) (i j:Int),xs=[.ref p]/\H p=some (.rng i j) /\ -(2 ^ 62)<=i/\i<2 ^ 62 /\ -(2 ^ 62)<=j/\j<2 ^ 62/\(j-i).toNat<=1000/\∀l,H l=none->Q (.ref l) (upd H l (.lst ((List.range (j-i).toNat).map λ(k:Nat)=>V.int (i+(k:Int)))))
def aX (hc:X.calm=true):J3 X (.type "list") vz:=by
 walk_at "ks";obtain⟨p,i,j,rfl,hp,i0,i1,j0,j1,hz,q⟩:=h;walk_at "kv";obtain⟨t,u,v,hr⟩:=(show N5 X.prog X.w H s.heap p (.rng i j) from I.hok p _ hp);have hn:Builtin.Range.rangeSize i j 1=((j-i).toNat:Int):=by rw[rangeSize_one];split <;> omega
 refine call_list_range (n:=(j-i).toNat) (I.ok.hd hc) hr (small_one (by omega) (by omega) (by omega) (by omega)) hn (by omega) λh' tk acc c' hk hS hit=>?_
 have I1:Inv X Qz O (upd H s.heap.objs.size (.lst ((List.range (j-i).toNat).map λ(k:Nat)=>V.int (i+(k:Int))))) { s with heap:=h',toks:=tk } :=
  I.laid (a:=s.heap.objs.size) hk (Ln _) ⟨by rw[Lf,LY];exact MI (V3 (by omega)),acc.toList,c',ud hit,by rw[hS]⟩
 exact⟨.ref s.heap.objs.size,_,I1,rfl,q _ (I.hok.fresh (Ln _))⟩
theorem iN {H:Hp}{lo:Int}:∀{ns:List Nat},b7 K H (ns.map λ(i:Nat)=>My.int (lo+i)) (ns.map λ(k:Nat)=>V.int (lo+(k:Int)))
 | []=>b7.nil
 | n::r=>⟨_,_,rfl,b8.int,iN (ns:=r)⟩
def lG (a:DE->M (List My)):DE->M My:=λE F=>(a E F).bind λp=>(U1 p.1).bind λds=>if ds.length<=1000 then some (.list ds,p.2) else none
def mC (a:DE->M (List My)):DE->M My:=λE F=>(a E F).bind λp=>(mv p.1).bind λds=>if ds.length<=1000 then some (.list ds,p.2) else none
def xM {ta:TA}{ms:DE->M (List My)}(h:Ea K X [a] ta ms)(hc:X.calm=true)(hm:X.mg "range" = none)(hml:X.mg "list" = none)(hbt:Qq "list" = some (.type "list"))(hg:Gl X "range":=by rfl)(hgl:Gl X "list":=by rfl)(hs:Qh [a] X.env=[(false,eval a X.env)]:=by rfl)
  (he:Qh [.Call (.Name "range" p2) [a] [] pos2] X.env=(false,eval (.Call (.Name "range" p2) [a] [] pos2) X.env)::Qh [] X.env:=by rfl) (hpl:(Qk pos (Qh [] X.env)).any (·.1)=false:=by rfl) :
  Ev K X (.Call (.Name "list" p) [.Call (.Name "range" p2) [a] [] pos2] [] pos) (tCB vz (B4 (FA ta) K8)) (lG ms) :=
 ⟨cc (aX hc) hgl hml hbt (l7 (yn hg hm h.pa hs) u9 he) (by decide) (by decide) he hpl,λG B E F O H Q d F' I e q=>by
  obtain⟨⟨ys,F1⟩,e1,e⟩:=bS9 e;obtain⟨z,e2,e⟩:=bS9 e;split at e
  .rename_i hz;cases e;refine h.ok G B E F O H _ ys F1 I e1 λvs H1 k1 f1 h1=>?_
   unfold U1 at e2;split at e2
   .rename_i j hj;split at e2
    .rename_i hc;cases e2;have hj:ys=[.int j]:=hj;subst hj;simp only[b7]at h1;obtain⟨x,r,rfl,h2,rfl⟩:=h1;simp only[b8]at h2;subst h2;have hz:(aQ 0 j.toNat).length<=1000:=hz;simp[aQ]at hz;refine⟨j,rfl,λp hp=>⟨p,0,j,rfl,d7,by omega,by omega,hc.1,hc.2,by omega,λl hl=>?_⟩⟩;have bk1:=C8 I.bk k1 f1;have bk2:BOk (upd H1 p (.rng 0 j)) B:=λb hb=>by obtain⟨o,eo⟩:=bk1 b hb;exact⟨o,by rw[b9 (i3 eo hp)];exact eo⟩
     rw[Int.sub_zero];exact q _ _ ((k1.trans (Kp.upd hp)).trans (Kp.upd hl)) ((f1.same (h8.upd hp)).same (h8.upd hl)) (Q2 bk2 hl iN)
    .cases e2
   .cases e2
  .cases e⟩
def vY {ta:TA}{ms:DE->M (List My)}(h:Ea K X [a,b] ta ms)(hc:X.calm=true)(hm:X.mg "range" = none)(hml:X.mg "list" = none)(hbt:Qq "list" = some (.type "list"))(hg:Gl X "range":=by rfl)(hgl:Gl X "list":=by rfl)(hs:Qh [a,b] X.env=[(false,eval a X.env),(false,eval b X.env)]:=by rfl)(hs2:Qh [b] X.env=[(false,eval b X.env)]:=by rfl)
  (he:Qh [.Call (.Name "range" p2) [a,b] [] pos2] X.env=(false,eval (.Call (.Name "range" p2) [a,b] [] pos2) X.env)::Qh [] X.env:=by rfl) (hpl:(Qk pos (Qh [] X.env)).any (·.1)=false:=by rfl) :
  Ev K X (.Call (.Name "list" p) [.Call (.Name "range" p2) [a,b] [] pos2] [] pos) (tCB vz (B4 (AI ta) K8)) (mC ms) :=
 ⟨cc (aX hc) hgl hml hbt (l7 (tX hg hm h.pa hs hs2) u9 he) (by decide) (by decide) he hpl,λG B E F O H Q d F' I e q=>by
  obtain⟨⟨ys,F1⟩,e1,e⟩:=bS9 e;obtain⟨z,e2,e⟩:=bS9 e;split at e
  .rename_i hz;cases e;refine h.ok G B E F O H _ ys F1 I e1 λvs H1 k1 f1 h1=>?_
   unfold mv at e2;split at e2
   .rename_i i j hj;split at e2
    .rename_i hc;cases e2;have hj:ys=[.int i,.int j]:=hj;subst hj;simp only[b7]at h1;obtain⟨x,r,rfl,h2,y,r2,rfl,h3,rfl⟩:=h1;simp only[b8]at h2 h3;subst h2 h3;have hz:(aQ i (j-i).toNat).length<=1000:=hz;simp[aQ]at hz;refine⟨i,j,rfl,λp hp=>⟨p,i,j,rfl,d7,by omega,by omega,by omega,by omega,by omega,λl hl=>?_⟩⟩;have bk1:=C8 I.bk k1 f1;have bk2:BOk (upd H1 p (.rng i j)) B:=λb hb=>by obtain⟨o,eo⟩:=bk1 b hb;exact⟨o,by rw[b9 (i3 eo hp)];exact eo⟩
     exact q _ _ ((k1.trans (Kp.upd hp)).trans (Kp.upd hl)) ((f1.same (h8.upd hp)).same (h8.upd hl)) (Q2 bk2 hl iN)
    .cases e2
   .cases e2
  .cases e⟩
end
end
section
section
variable {w:PY}{A:PZ}{E:PR->PV->Prop}{s:PV}
end
section
variable {X:Cx}{K:Qf}{p pos2:Pos}
end
section
variable {w:PY}{A:PZ}{E:PR->PV->Prop}{s:PV}
def lB {l:PU}{xs:Array (Int×Tok)}{Q:PR->PV->Prop}(hh:A.handled=none)(hl:s.heap.IsTuple l (intItems xs))
  (h:∀h' tk t',(∀b o,s.heap.get? b=some o->h'.get? b=some o)->Q (.int (preSum (numAt xs) xs.size) t') { s with heap:=h',toks:=tk }) :
  Qm (model prog w) A (call (.builtin "sum") [.ref l]) Q E s:=by
 have hlt:l<s.heap.objs.size:=by obtain⟨_,e,_⟩:=hl;exact Lw e
 refine call_sum_walkG (NJ hl ?_);refine⟨s.heap.objs.size,[s.heap.objs.size,l],[s.heap.objs.size],_,_,_,numAt xs,rfl,Walks.tuple (A:=A.in1) hh _ l (LH hlt) (intItems xs),⟨⟨_,LI _ rfl,rfl,rfl⟩,hl.push _⟩,λb hb=>?_,(λ_ _=>intItems_at),λh' tk t' hk=>?_⟩
 .show b<(s.heap.push _).objs.size;rw[OF];rcases Lh.1 hb with rfl | hb
  .exact MV _
  .rw[Mv.1 hb];exact Nn hlt
 .have:=h h' tk t' λb o e=>hk b o (λhm=>by rw[Mv.1 hm]at e;exact absurd (Lw e) (MK _)) (Ll _ e)
  simpa [intItems] using this
end
section
variable {X:Cx}{K:Qf}{p pos2:Pos}
def tG (hc:X.calm=true):J3 X (.builtin "sum") (λxs H Q=>∃(a:PU) (ns:List Int),xs=[.ref a]/\SqT X.K H a (ns.map V.int)/\Q (.int ns.sum) H):=by
 walk_at "ks";obtain⟨a,ns,rfl,hq,q⟩:=h;walk_at "kv";obtain⟨its,rv,p,hz⟩:=I.tuple hq;have hi:=cS rv;obtain⟨zs,hzs⟩:=hi.allInts.items;have hl:s.heap.IsTuple a (intItems zs):=hzs▸p;refine lB (I.ok.hd hc) hl λh' tk t' hk=>⟨.int ns.sum,H,I.kept hk,⟨t',?_⟩,q⟩
 have hn:=hi.numsOf;have e:numsOf (intItems zs).toList=ns:=by rw[<-hzs];exact hn
 rw[nums_intItems]at e;rw[preSum_eq,Mj (by simp),e]
def xZ:List My->Option My
 | [.list ds]=>(W0 ds).map λns=>.int ns.sum
 | [.tuple ds]=>(W0 ds).map λns=>.int ns.sum
 | _=>none
def za (hK:X.K=K)(hc:X.calm=true):J3 X (.builtin "sum") (rDN K xZ):=by
 subst hK;walk_at "kl";unfold xZ at hf;walk_at "ku"
 .obtain⟨ns,e,rfl⟩:=LK.1 hf;cases T4 e;obtain⟨v,rfl,a,xs,rfl,ha,hd⟩:=fk h1 rfl;cases iD hd;exact xv hc Qz s O H _ us Q I r ⟨a,ns,rfl,SqL.of (f8 _ _ ha),q _ H (h8.refl H) b8.int⟩
 .obtain⟨ns,e,rfl⟩:=LK.1 hf;cases T4 e;obtain⟨v,rfl,a,xs,rfl,ha,hd⟩:=fk h1 rfl;cases iD hd;exact tG hc Qz s O H _ us Q I r ⟨a,ns,rfl,ha.same f8,q _ H (h8.refl H) b8.int⟩
variable [Feeds]
end
end
section
section
variable {X:Cx}{K:Qf}
variable {mg:Str->Option PR}
end
section
variable [Feeds]{X:Cx}{K:Qf}
def nO (i:Nat)(m:DE->M Out):DE->M Out:=λE F=>(aT E i).bind λds=>m (E.set i (some (.dat (.list ds)))) F
def Ff {i:Nat}{ts:TS}{m:DE->M Out}(h:TSd K ts m):TSd K ts (nO i m):=λG B0 H0 E F O H D r F' S e q=>by
 obtain⟨ds,e4,e⟩:=bS9 e;obtain⟨B,s,sn,I⟩:=S.ex;have eo:=aG e4;have hil:i<E.length:=(Lj.1 eo).1;obtain⟨w,w1,a,xs,rfl,hB,hf,hx,hdx⟩:=I.loc i _ eo;have ha:=S.own i ds a eo w1;have sub:∀b∈B.filter (λb=>decide (b≠a)),b∈B:=λb hb=>(Ma.1 hb).1
 have inB:∀b∈B,b≠a->b∈B.filter (λb=>decide (b≠a)):=λb hb hn=>Ma.2 ⟨hb,MX hn⟩
 have ng:a ∉ B.filter (λb=>decide (b≠a)):=λhb=>absurd rfl (Mc (Ma.1 hb).2)
 have sm:h8 (hid H B) (hid H (B.filter (λb=>decide (b≠a)))):=N3 sub;have get:∀j,j≠i->(E.set i (some (.dat (.list ds))))[j]? = E[j]?:=λj hj=>by rw[Lm (LZ hj)]
 have geti:(E.set i (some (.dat (.list ds))))[i]? = some (some (.dat (.list ds))):=by rw[Lp hil]
 refine h G B0 H0 (E.set i (some (.dat (.list ds)))) F O H D r F' ⟨⟨_,λb hb=>inB b (s b hb) λz=>ha.2 (z▸hb),λb hb=>sn b (sub b hb),⟨I.fd,λb hb=>inB b (I.fB b hb) λz=>hf (z▸hb),λb hb=>I.bk b (sub b hb),by rw[MB];exact I.ln,λj x ej=>?_⟩⟩,S.fB,S.kp,λj es b ej=>?_,λj k es fs b ej ek=>?_⟩ e q
 .by_cases hj:j=i
  .subst hj;rw[geti]at ej;cases ej;refine⟨_,w1,b8.lst (by rw[i6 ng];exact hx) (hdx.same sm)⟩
  .rw[get j hj]at ej;obtain⟨v,v1,hv⟩:=I.loc j x ej;refine⟨v,v1,?_⟩;cases x with
   | dat d=>exact b8.same (hv:b8 _ _ _ _) sm
   | feed=>exact hv
   | fn _=>exact hv
   | adr _=>exact hv
   | own es =>obtain⟨b,ys,e1,hb1,hb2,hb3,hb4⟩:=hv;subst e1;exact⟨b,ys,rfl,inB b hb1 λz=>hj (S.inj j i es ds a ej eo (z▸v1) w1),hb2,hb3,hb4.same sm⟩
 .by_cases hj:j=i
  .subst hj;rw[geti]at ej;cases ej
  .rw[get j hj]at ej;exact S.own j es b ej
 .by_cases hj:j=i
  .subst hj;rw[geti]at ej;cases ej
  .by_cases hk:k=i
   .subst hk;rw[geti]at ek;cases ek
   .rw[get j hj]at ej;rw[get k hk]at ek;exact S.inj j k es fs b ej ek
def yi (i:Nat){st:Qc}{ts:TS}{m:DE->M Out}(h:Ss K X st ts m):Ss K X st ts (nO i m):=⟨h.ps,Ff h.ok⟩
end
end
section
section
variable {X:Cx}
end
section
variable [Feeds]{X:Cx}{K:Qf}{e:Qd}{m:DE->M My}
def Bj :DE->M Out:=λ_ _=>none
def zr {st:Qc}:Ss K X st (λ_ _ _=>False) Bj:=⟨λ_ _ _ _ _ _ h=>h.elim,λ_ _ _ _ _ _ _ _ _ _ _ e=>by cases e⟩
end
end
section
section
variable {w:PY}{A:PZ}{E:PR->PV->Prop}{s:PV}
end
section
variable [Feeds]{K:Qf}{X:Cx}
end
end
section
section
variable [Feeds]{X:Cx}{K:Qf}{e:Qd}{m:DE->M My}
def mDo (m:DE->M My):DE->M Out:=λE F=>(m E F).bind λp=>some (.nx E,p.2)
def Ge (h:TEd K te m):TSd K (bc te) (mDo m):=λG B0 H0 E F O H D r F' S e q=>by obtain⟨⟨d,F1⟩,e1,e⟩:=bS9 e;cases e;obtain⟨B,s,sn,I⟩:=S.ex;exact h G B E F O H _ d F1 I e1 λv H1 k1 f1 h1=>q O H1 (S.step k1 f1)
def DO (h:Ev K X e te m)(hs:Qo e none pos.line X.env=pure false:=by rfl):Ss K X (.Expr e pos) (bc te) (mDo m):=⟨Y0 h.pe hs,Ge h.ok⟩
end
end
section
section
variable [Feeds]{X:Cx}{K:Qf}{e:Qd}{m:DE->M My}
end
end
section
def len_1 {us:List PR}(h:us.length=1):∃a,us=[a]:=List.length_eq_one_iff.1 h
def AR {us:List PR}{n:Nat}(h:us.length=n+1):∃a r,us=a::r/\r.length=n:=by
 cases us with
 | nil=>cases h
 | cons a r=>exact⟨a,r,rfl,Nat.succ.inj h⟩
def len_2 {us:List PR}(h:us.length=2):∃a b,us=[a,b]:=by obtain⟨a,r,rfl,h2⟩:=AR h;obtain⟨b,rfl⟩:=len_1 h2;exact⟨a,b,rfl⟩
def len_3 {us:List PR}(h:us.length=3):∃a b c,us=[a,b,c]:=by obtain⟨a,r,rfl,h2⟩:=AR h;obtain⟨b,c,rfl⟩:=len_2 h2;exact⟨a,b,c,rfl⟩
def wo (B A:List PU):List PU:=B.filter λb=>decide (b ∉ A)
def iO {B A:List PU}{b:PU}:b∈wo B A↔b∈B/\b ∉ A:=by unfold wo;rw[Ma];simp
section
variable {K:Qf}{H:Hp}{B A:List PU}
end
section
variable [Feeds]
variable {K:Qf}{X:Cx}{e:Qd}{m:DE->M My}{tl:TA}{ms:DE->M (List DV)}{p:Pos}
end
end
section
def nX?:My->Option Int
 | .int i=>some i
 | _=>none
def fU?:My->Option Int
 | .bool b=>some (if b then 1 else 0)
 | _=>none
def fX (ks:List My):Option (List Int):=match ks.mapM nX? with
 | some r=>some r
 | none=>ks.mapM fU?
def vOf:My->V
 | .int i=>.int i
 | .bool b=>.bl b
 | _=>.non
theorem oA:∀{ks:List My} {ns:List Int},ks.mapM nX? = some ns->ks=ns.map .int
 | [],ns,h=>by simp at h;subst h;rfl
 | k::ks,ns,h=>by rw[Nv]at h;obtain⟨a,e1,h⟩:=bS9 h;obtain⟨r,e2,h⟩:=bS9 h;cases h;rw[oA e2];cases k <;> cases e1;rfl
theorem kC:∀{ks:List My} {ns:List Int},ks.mapM fU? = some ns->∃bs:List Bool,ks=bs.map .bool/\ns=bs.map λb=>if b then 1 else 0
 | [],ns,h=>by simp at h;subst h;exact⟨[],rfl,rfl⟩
 | k::ks,ns,h=>by
  rw[Nv]at h;obtain⟨a,e1,h⟩:=bS9 h;obtain⟨r,e2,h⟩:=bS9 h;cases h;obtain⟨bs,rfl,rfl⟩:=kC e2;cases k with
  | bool b=>cases e1;exact⟨b::bs,rfl,rfl⟩
  | _=>cases e1
def vd {ks:List My}{ns:List Int}(h:fX ks=some ns):gg (ks.map vOf)/\(ks.map vOf).map jJ=ns/\∀k∈ks,∀(K:Qf) (H:Hp) (v:V),b8 K H k v->v=vOf k:=by
 unfold fX at h;split at h
 .rename_i r e;cases h;rw[oA e];refine⟨.inl λk hk=>?_,?_,λk hk K H v hv=>?_⟩
  .simp only[LQ,LN]at hk;obtain⟨n,_,rfl⟩:=hk;exact⟨n,rfl⟩
  .rw[LQ,LQ];exact(Me λn _=>rfl).trans (List.map_id _)
  .obtain⟨n,_,rfl⟩:=LN.1 hk;simp only[b8]at hv;exact hv
 .obtain⟨bs,rfl,rfl⟩:=kC h;refine⟨.inr λk hk=>?_,?_,λk hk K H v hv=>?_⟩
  .simp only[LQ,LN]at hk;obtain⟨n,_,rfl⟩:=hk;exact⟨n,rfl⟩
  .rw[LQ,LQ];exact Me λn _=>rfl
  .obtain⟨n,_,rfl⟩:=LN.1 hk;simp only[b8]at hv;exact hv
inductive Al (K:Qf) (H:Hp):List (Int×My)->List (Int×V)->Prop
 | nil:Al K H [] []
 | cons {k:Int} {d:My} {v:V} {l m}:b8 K H d v->Al K H l m->Al K H ((k,d)::l) ((k,v)::m)
theorem Al.ins {K:Qf}{H:Hp}{k:Int}{d:My}{v:V}(h:b8 K H d v):∀{l m},Al K H l m->Al K H (aF (k,d) l) (aF (k,v) m)
 | _,_,.nil=>.cons h .nil
 | _,_,.cons (k:=k') h' r=>by
  simp only[aF];split
  .exact .cons h (.cons h' r)
  .exact .cons h' (Al.ins h r)
theorem Al.sort {K:Qf}{H:Hp}:∀{l m},Al K H l m->Al K H (C1 l) (C1 m)
 | _,_,.nil=>.nil
 | _,_,.cons h r=>Al.ins h r.sort
theorem Al.dats {K:Qf}{H:Hp}:∀{l m},Al K H l m->b7 K H (l.map Prod.snd) (m.map Prod.snd)
 | _,_,.nil=>b7.nil
 | _,_,.cons h r=>b7.cons h r.dats
theorem qD {K:Qf}{H:Hp}:∀{ns:List Int} {ds:List My} {xs:List V},b7 K H ds xs->Al K H (ns.zip ds) (ns.zip xs)
 | [],_,_,_=>.nil
 | n::ns,[],xs,h=>by
  have e:xs=[]:=MU.1 (by rw[h.length];rfl);subst e;exact .nil
 | n::ns,d::ds,xs,h=>by
  cases xs with
  | nil=>have:=h.length;simp at this
  | cons x xs =>simp only[b7]at h;obtain⟨y,ys,e,h1,h2⟩:=h;cases e;exact .cons h1 (qD h2)
section
variable [Feeds]{K:Qf}{X:Cx}
structure LamB (K:Qf) (mg:Str->Option PR) (base:Qe) (x:Str) (fd:Qb) (c P:PU):Prop where
 mem:(x,c,P)∈tabsK Feeds.lam K
 code:fd.code = .ref c
 hd:PySem.W.CodeHd base c P
 bm:BMd base mg
 nd:(tabP K).Nodup
def gk (me:DE->M My)(E0:DE):List My->M (List My)
 | []=>λF=>some ([],F)
 | d::r=>λF=>(me (some (.dat d)::E0) F).bind λp=>(gk me E0 r p.2).bind λq=>some (p.1::q.1,q.2)
def sSK (ma:DE->M (List My))(cap:List Nat)(me:DE->M My):DE->M My:=λE F=>(ma E F).bind λp=>match p.1 with
 | [.list ds]=>if ds.length<64 then(gk me (cap.map λj=>(E[j]?).join) ds p.2).bind λq=>(fX q.1).bind λns=>some (.list ((C1 (ns.zip ds)).map Prod.snd),q.2) else none
 | _=>none
theorem fu {me:DE->M My}{E0:DE}:∀{ds:List My} {F:FS} {ks:List My} {F':FS},gk me E0 ds F=some (ks,F')->ks.length=ds.length
 | [],F,ks,F',h=>by cases h;rfl
 | d::r,F,ks,F',h=>by obtain⟨p,_,h⟩:=bS9 h;obtain⟨q,e,h⟩:=bS9 h;cases h;simp[fu (F:=p.2) (ks:=q.1) (F':=q.2) e]
theorem cG {α β:Type}{f:α->β}:∀{l:List α},(l.map f).Nodup->∀{a b},a∈l->b∈l->f a=f b->a=b
 | [],_,_,_,h,_,_=>by simp at h
 | x::l,h,a,b,ha,hb,e=>by
  rw[Lu,MA]at h;rcases Lh.1 ha with e1 | ha1
  .rcases Lh.1 hb with e2 | hb1
   .rw[e1,e2]
   .exact absurd (by rw[<-e1,e];exact Nb hb1) h.1
  .rcases Lh.1 hb with e2 | hb1
   .exact absurd (by rw[<-e2,<-e];exact Nb ha1) h.1
   .exact cG h.2 ha1 hb1 e
def yY {G:GF}{H H2:Hp}{F:FS}{x:Str}{c P:PU}(hm:(x,c,P)∈tabsK Feeds.lam K)(nd:(tabP K).Nodup)(f:FAt K G H F)(g:Cz P (nh x) H H2)(hT:jV H2 P (nh x)):Kp (u4 K G) H H2/\FAt K G H2 F:=by
 rcases g with rfl | ⟨ps,more,c',hP,hc',hcP,rfl⟩
 .exact⟨Kp.refl,f⟩
 .have hPf:P∈tabP K:=Nb (f:=λt:Str×PU×PU=>t.2.2) hm;have stay:∀b o,H b=some o->b≠P->upd (upd H P (.tbl (ps++more))) c' (cdO c' (nh x)) b=some o:=λb o e hb=>by rw[b9 (i3 e hc'),b9 hb];exact e
  have ne:∀{b o},H b=some o->NoT o->b≠P:=λ{b o} e h z=>by rw[z,hP]at e;exact h.1 _ (Lr e).symm
  refine⟨λb o e hb=>stay b o e λz=>hb (z▸lL hPf),?_,λt ht=>?_⟩
  .cases G with
   | none=>trivial
   | some p =>
    obtain⟨d,c0⟩:=p
    obtain⟨o1,a1,b1⟩:=Feeds.some1 f.1
    obtain⟨o2,a2,b2⟩:=Feeds.some2 f.1
    exact Feeds.congr f.1 (by rw[a1];exact stay _ _ a1 (ne a1 b1)) (by rw[a2];exact stay _ _ a2 (ne a2 b2))
  .by_cases htP:t.2.2=P
   .have e:t=(x,c,P):=cG (f:=λt:Str×PU×PU=>t.2.2) nd ht hm htP;rw[e];exact hT
   .obtain⟨qs,h1,h2,h3⟩:=f.2 t ht;refine⟨qs,stay _ _ h1 htP,h2,λpos cv q=>?_⟩;obtain⟨c2,r1,r2⟩:=h3 pos cv q;exact⟨c2,r1,stay _ _ r2 λz=>by rw[z,hP]at r2;cases r2⟩
def wt {G:GF}{H:Hp}{F:FS}{c:PU}{q:Str}(f:FAt K G H F)(h:H c=some (cdO c q)):c ∉ u4 K G:=λz=>by
 have tb:c∈tabP K->False:=λz=>by obtain⟨t,ht,e⟩:=LN.1 z;obtain⟨ps,h1,_⟩:=f.2 t ht;rw[e,h]at h1;cases h1
 cases G with
 | none=>exact tb z
 | some p =>
  obtain⟨d,c0⟩:=p;simp only[u4,Lh]at z;rcases z with rfl | rfl | z
  .obtain⟨o,e,hn⟩:=Feeds.some1 f.1;rw[h]at e;exact hn.2 _ (Lr e).symm
  .obtain⟨o,e,hn⟩:=Feeds.some2 f.1;rw[h]at e;exact hn.2 _ (Lr e).symm
  .exact tb z
def SitE.lamS {G:GF}{B:List PU}{E:DE}{F F':FS}{O:St}{H H':Hp}{d:My}{v:V}(I:SitE K G B E F O H)(k:Kp (u4 K G) H H')(f:FAt K G H' F')(h:b8 K (hid H' B) d v)(cap:List Nat) :
  SitE K G B (some (.dat d)::cap.map λj=>(E[j]?).join) F' (dc v cap O) H':=by
 have J:=(I.step k f).cap 0 cap;refine⟨f,I.fB,J.bk,by simp[dc],λi x e=>?_⟩;cases i with
 | zero =>have e:some (some (DV.dat d))=some (some x):=e;cases e;exact⟨v,rfl,h⟩
 | succ i=>exact J.loc i x e
def xc {e:Qd}{params:Arguments}{body:Qd}{scope osc:Qa}{p lpos kp:Pos}{c P:PU}{x y:Str}{N:List Str}{cap:List Nat}{ta:TA}{ma:DE->M (List My)}{me:DE->M My}{k:Nat}{fd:Qb}
  (LB:LamB K X.mg X.base x fd c P) (hK:X.K=K) (hm:X.mg "sorted" = none) (hr:Room k X.A) (hc:X.calm=true) (ha:Ea K X [e] ta ma) (hosc:X.env.scope=osc) (L:LamOk X.N osc y N cap scope)
  (hcode:X.env.code = .ref c) (hq:X.env.qual ++ "<lambda>" = nh x)
  (hE:∀cl f c' Y s H,Ev K (cxL X N (nh x) scope cl f c' Y s H) body te me)
  (hdef:defaultsOf params X.env=([],[]):=by rfl)
  (hbind:∀(cl:List (Str×PU)) (pm:PR) (c':PU) (ctv u:PR),bindArgs (PySem.W.kla_fn "<lambda>" (nh x) params body scope cl pm (.ref c') ctv) ⟨[u],[]⟩=pure [(y,u)]:=by intros;rfl)
  (hg:Gl X "sorted":=by rfl) (hs:Qh [e] X.env=[(false,eval e X.env)]:=by rfl) :
  Ev K X (.Call (.Name "sorted" p) [e] [⟨some "key",.Lambda params body scope lpos,kp⟩] pos) (tSK K P (nh x) cap ta te) (sSK ma cap me):=by
 subst hK;refine⟨DU hg hm hr hc ha.pa hdef hosc L hcode LB.hd LB.bm hq hbind (λcl f c' Y s H=>(hE cl f c' Y s H).pe) hs,λG B E F O H Q d F' I e q=>?_⟩;obtain⟨⟨as,F1⟩,e1,e⟩:=bS9 e;refine ha.ok G B E F O H _ as F1 I e1 λvs H1 k1 f1 h1=>?_
 dsimp only at e;split at e;case h_2=>cases e
 rename_i ds;split at e;case isFalse=>cases e
 rename_i h64;obtain⟨⟨kds,F2⟩,e2,e⟩:=bS9 e;obtain⟨ns,e3,e⟩:=bS9 e;cases e;obtain⟨hko,hnum,hv⟩:=vd e3;obtain⟨l,xs,rfl,hl,hd⟩:∃l xs,vs=[.ref l]/\hid H1 B l=some (.lst xs)/\b7 X.K (hid H1 B) ds xs:=by simp only[b7]at h1;obtain⟨v,r,rfl,h2,rfl⟩:=h1;simp only[b8]at h2;obtain⟨l,xs,rfl,h3,h4⟩:=h2;exact⟨l,xs,rfl,h3,h4⟩
 have xl:=hd.length;refine⟨l,xs,rfl,SqL.of (f8 _ _ hl),by omega,f1.2 _ LB.mem,λH2 gr hT2 c' hc'=>?_⟩;obtain⟨k2,f2⟩:=yY LB.mem LB.nd f1 gr hT2;have hlB:l ∉ u4 X.K G:=λz=>by rw[D2 (I.fB l z)]at hl;cases hl
 refine⟨λi H'=>∃Fi rest,Kp (u4 X.K G) H2 H'/\FAt X.K G H' Fi/\gk me (cap.map λj=>(E[j]?).join) (ds.drop i) Fi=some (rest,F2)/\kds.drop i=rest,kds.map vOf,by rw[Lf,fu e2,xl],hko,
  SqL.of (k2 l _ (f8 _ _ hl) hlB),⟨F1,kds,Kp.refl,f2,e2,rfl⟩,λi H' ⟨Fi,rest,a1,a2,_⟩=>a1 _ _ hc' (wt f2 hc'),λi v H' hx ⟨Fi,rest,a1,a2,a3,a4⟩=>?_,λa H' ys ⟨Fi,rest,a1,a2,a3,a4⟩ Ha o=>?_⟩
 .have hd':=hd.same ((k2.trans a1).hid I.fB);obtain⟨dd,hdd,hdv⟩:=hd'.get hx;have edr:ds.drop i=dd::ds.drop (i+1):=by have hi:=(Lj.1 hdd);obtain⟨hi,e⟩:=hi;rw[Nd hi,e]
  rw[edr]at a3;obtain⟨⟨kk,Fk⟩,g1,g⟩:=bS9 a3;obtain⟨⟨kr,Fr'⟩,g2,g⟩:=bS9 g;cases g;have hki:kds[i]? = some kk:=by have:=MF (λl=>l[0]?) a4;simpa using this
  refine(hE [] 0 0 X.A X.s₀ H').ok G B _ Fi _ H' _ kk Fk (I.lamS ((k1.trans k2).trans a1) a2 hdv cap) g1 λw H3 k3 f3 h3=>?_
  refine⟨?_,Fk,kr,a1.trans k3,f3,g2,?_⟩
  .rw[Lv,hki,hv kk (Md hki) _ _ _ h3];rfl
  .have:=MF List.tail a4;simpa using this
 .have hend:gk me (cap.map λj=>(E[j]?).join) (ds.drop xs.length) Fi=some ([],Fi):=by rw[xl,NT];rfl
  rw[hend]at a3;cases a3;have ey:=nE o (by rw[Lf,fu e2,xl]);rw[hnum]at ey;subst ey;have bk':=C8 I.bk ((k1.trans k2).trans a1) a2;have hdz:=(qD (ns:=ns) (hd.same ((k2.trans a1).hid I.fB))).sort.dats;exact q _ _ (((k1.trans k2).trans a1).trans (Kp.upd Ha)) (a2.same (h8.upd Ha)) (Q2 bk' Ha hdz)
end
end
section
def qk (p:Int):List Int->List Int
 | []=>[p]
 | q::r=>if p<=q then p::q::r else q::qk p r
def nc:List Int->List Int
 | []=>[]
 | p::r=>qk p (nc r)
theorem fj (p:Int):∀l:List Int,(qk p l).Perm (p::l)
 | []=>.refl _
 | q::r=>by
  rw[qk];split
  .exact .refl _
  .exact((fj p r).cons q).trans (.swap p q r)
theorem cT:∀l:List Int,(nc l).Perm l
 | []=>.refl _
 | p::r=>(fj p _).trans ((cT r).cons p)
theorem rQ {p:Int}:∀{l:List Int},l.Pairwise (· <= ·)->(qk p l).Pairwise (· <= ·)
 | [],_=>by simp[qk]
 | q::r,h=>by
  rw[LO]at h;rw[qk];split
  .rename_i hle;refine LO.2 ⟨λz hz=>?_,LO.2 h⟩;rcases Lh.1 hz with rfl | hz
   .exact hle
   .have:=h.1 z hz;omega
  .rename_i hgt;refine LO.2 ⟨λz hz=>?_,rQ h.2⟩;rcases Lh.1 ((fj p r).mem_iff.mp hz) with rfl | hz
   .omega
   .exact h.1 z hz
theorem jG:∀l:List Int,(nc l).Pairwise (· <= ·)
 | []=>.nil
 | p::r=>rQ (jG r)
theorem fJ:∀{l₁ l₂:List Int},l₁.Perm l₂->l₁.Pairwise (· <= ·)->l₂.Pairwise (· <= ·)->l₁=l₂
 | [],l₂,p,_,_=>p.nil_eq
 | a::r,[],p,_,_=>by have:=p.length_eq;simp at this
 | a::r,b::t,p,h1,h2=>by
  rw[LO]at h1 h2;have ab:a=b:=by
   rcases Lh.1 (p.mem_iff.1 (Lq (a:=a) (l:=r))) with e | e
   .exact e
   .rcases Lh.1 (p.mem_iff.2 (Lq (a:=b) (l:=t))) with e2 | e2
    .exact e2.symm
    .have q1:=h2.1 a e;have q2:=h1.1 b e2;omega
  subst ab;rw[fJ (p.cons_inv) h1.2 h2.2]
def lO:My->Option Int
 | .tuple (.int n::_)=>some n
 | _=>none
def ee:List My->Option My
 | [.list ds]=>match W0 ds with
  | some ns=>if ns.length<64 then some (.list ((nc ns).map .int)) else none
  | none=>(ds.mapM lO).bind λns=>if ns.Nodup/\ns.length<64 then some (.list ((C1 (ns.zip ds)).map Prod.snd)) else none
 | _=>none
theorem sA {K:Qf}{H H':Hp}(s:h8 H H'):∀{ds:List My} {ns:List Int} {zs:List V},ds.mapM lO=some ns->b7 K H ds zs->oh K H' ns zs
 | [],ns,zs,e,h=>by
  simp at e;subst e;exact MU.1 (by rw[h.length];rfl)
 | d::ds,ns,zs,e,h=>by
  rw[Nv]at e;obtain⟨n,e1,e⟩:=bS9 e;obtain⟨ns',e2,e⟩:=bS9 e;cases e;simp only[b7]at h;obtain⟨z,zs',rfl,h1,h2⟩:=h;unfold lO at e1;split at e1
  .cases e1;obtain⟨t,xs,rfl,hq,hd⟩:=h1.ofTup;simp only[b7]at hd;obtain⟨v,r,rfl,hv,_⟩:=hd;simp only[b8]at hv;subst hv;exact⟨t,r,zs',rfl,hq.same s,sA s e2 h2⟩
  .cases e1
theorem oZ {α β:Type}{f:α->Option β}:∀{l:List α} {m:List β},l.mapM f=some m->m.length=l.length
 | [],m,e=>by simp at e;subst e;rfl
 | a::l,m,e=>by rw[Nv]at e;obtain⟨b,_,e⟩:=bS9 e;obtain⟨m',e2,e⟩:=bS9 e;cases e;simp[oZ e2]
theorem kq {K:Qf}{H:Hp}:∀ns:List Int,b7 K H (ns.map .int) (ns.map V.int)
 | []=>b7.nil
 | n::ns=>b7.cons b8.int (kq ns)
section
variable [Feeds]{K:Qf}{X:Cx}
def ko (hK:X.K=K):J3 X (.builtin "sorted") (rDN K ee):=by
 walk_at "kl";unfold ee at hf;walk_at "ku"
 split at hf
 .rename_i ns e;split at hf;case isFalse=>cases hf
  rename_i h64;cases hf;cases T4 e;obtain⟨v,rfl,a,xs,rfl,ha,hd⟩:=fk h1 rfl;cases iD hd;refine nU hK Qz s O H _ us Q I r ⟨a,ns,rfl,SqL.of (f8 _ _ ha),h64,λp ns' hp pm pw=>?_⟩;cases fJ (pm.trans (cT ns).symm) pw (jG ns);exact q _ _ (h8.upd hp) (Q2 bk hp (kq _))
 .obtain⟨ns,e,hf⟩:=bS9 hf;split at hf;case isFalse=>cases hf
  rename_i hc;cases hf;obtain⟨v,rfl,a,xs,rfl,ha,hd⟩:=fk h1 rfl;refine qO hK Qz s O H _ us Q I r ⟨a,xs,ns,rfl,SqL.of (f8 _ _ ha),sA f8 e hd,hc.1,hc.2,λp ys hp o=>?_⟩;have ey:=nE o (by rw[Lf,oZ e,hd.length]);rw[LQ,show(jJ ∘ V.int)=id from rfl,List.map_id]at ey;subst ey;exact q _ _ (h8.upd hp) (Q2 bk hp (qD (ns:=ns) hd).sort.dats)
end
end
end L3
namespace L2
open PySem PySem.Spec PyProof.Rows
section
variable {P:PX}{w:PY}{K:Qf}{mg:Str->Option PR}{base:Qe}
def Fun.okC {x qual:Str}{st:Qc}{f:PU}{fd:Qb}{N ps:List Str}{k:Nat}{sp:Sp}(F:Fun K x qual st f fd)(S:FnScope N ps (defScope st))(len:∀vs H Q E,sp vs H Q E->vs.length=ps.length)
  (hbody:∀(QB:PR) (A:PZ) (outer:List Qj) (s:PV) (H:Hp) (vs:List V) (Q:VK) (E:XK),fd.code=QB->Room k (A.deeper (envOfC qual (defScope st) s.heap.objs.size f QB))->sp vs H Q E ->
   ∃t,PSs (W6 CX0 P w K mg base N qual (defScope st) f QB A outer s H E).nox (defBody st) t/\t { nx:=λ_ H'=>Q .non H',rt:=Q } (O2 N vs) H):FnOk P w K mg base CX0 (k+1) f fd ps sp:=by
 obtain⟨oc,od,kV,doc,pm,an,QB,ct,osl,rfl,lk,hcd⟩:=F.ex;refine AK lk hcd S len λA outer s H vs Q E hr hsp=>?_
 obtain⟨t,h,q⟩:=hbody QB A outer s H vs Q E rfl hr hsp;exact⟨t,h.nox,q⟩
end
end L2
namespace L3
open PySem PySem.Spec PyProof.Rows L2
section
section
variable [Feeds]{P:PX}{w:PY}{K:Qf}{mg:Str->Option PR}{base:Qe}
def rH {x qual:Str}{st:Qc}{f:PU}{fd:Qb}{N ps:List Str}{k:Nat}{m:DE->M Out}(Fn:Fun K x qual st f fd)(S:FnScope N ps (defScope st))
  (hbody:∀(QB:PR) (A:PZ) (outer:List Qj) (s:PV) (H:Hp) (E:XK),fd.code=QB->Room k (A.deeper (envOfC qual (defScope st) s.heap.objs.size f QB)) ->
   ∃ts,Sss K (W6 CX0 P w K mg base N qual (defScope st) f QB A outer s H E).nox (defBody st) ts m):FnOk P w K mg base CX0 (k+1) f fd ps (spD K ps.length (U2 N m)):=by
 refine Fn.okC S (λvs H Q E h=>?_) (λQB A outer s H vs Q E hcd hr h=>?_)
 .obtain⟨G,B,F,args,d,F',hl,_⟩:=h;exact hl
 .obtain⟨G,B,F,args,d,F',hl,fB,bk,fa,ha,hm,q⟩:=h;obtain⟨ts,hts⟩:=hbody QB A outer s H E hcd hr;refine⟨ts,hts.ps,?_⟩;obtain⟨⟨o,F1⟩,e1,e⟩:=bS9 hm;refine hts.ok G B H (K4 N args) F (L2.O2 N vs) H _ o F1 (kH fB bk fa ha) e1 ?_;cases o with
  | rt d'=>cases e;exact λv H' k1 f1 h1=>q v H' k1 f1 h1
  | nx E'=>cases e;exact λO' H' S'=>q _ H' S'.kp (by obtain⟨B,_,_,I⟩:=S'.ex;exact I.fd) b8.non
  | bk E'=>cases e
  | ct E'=>cases e
end
end
section
abbrev Fs :=List (Str×PU×PU)
def CQ (ts:Fs)(h:Qe):Prop:=∀t∈ts,PySem.W.CodeHd h t.2.1 t.2.2/\h.get? t.2.2=some (PySem.W.tabObj #[])
def uX {P:PX}{w:PY}{K:Qf}{mg mb:Str->Option PR}{CX:CXT}{k:Nat}{fa a:PU}{fd:Qb}{x:Str}{sp:Sp}{s₁:PV}{vs:List PR}{ns:List Int}{ts:Fs}
  (KX:K.In s₁.heap) (hns:s₁.heap.Ns Qn mg) (hb:s₁.heap.Ns builtinsNs mb) (hbb:∀x:Str,x ≠ "__name__"->mb x=Qq x) (hlim:s₁.heap.NoLimit) (hg:s₁.gens = #[])
  (ha:s₁.heap.get? a=some { cls:=.type "list",data:=.seq vs.toArray }) (hi:IntsAre vs ns) (hl:ns.length<=Qg) (hr:Room k callerA)
  (hT:CQ ts s₁.heap) (hnt:PySem.W.noTabs K=true) (BM:BMd s₁.heap mg)
  (F:∀base:Qe,K.In base->base.Ns Qn mg->BMd base mg->(∀t∈ts,PySem.W.CodeHd base t.2.1 t.2.2)->FnOk P w K mg base CX k fa fd [x] sp) (hbind:∀(s:PV) (u:PR),BindsTo s fd ⟨[u],[]⟩ [(x,u)])
  (hsp:∀H:Hp,SqL K H a (ns.map V.int)->G5 ts H->sp [.ref a] H (λv _=>v = .bl true) λ_ _ _=>False)
  (hCX:∀H e s',CX [] H s₁ (λ_ _ _=>False) e s'->False) :
  codeAny (model P w) callerA (.call (.ref fa) ⟨[.ref a],[]⟩) (λr s'=>r = .ok (.ret (.bool true))/\OldK s₁.heap s'.heap/\s'.os=s₁.os/\AllBare s'.gens) s₁:=by
 have rv:=fA hi;have lenV:=hi.length;have aP:∀t∈ts,t.2.2≠a:=λt ht e=>by have:=(hT t ht).2;rw[e,ha]at this;cases this
 have core:∀H:Hp,(∀b,H b=none\/(b=a/\H b=some (.frz { cls:=.type "list",data:=.seq vs.toArray } (.lst (ns.map V.int))))\/(b∈ts.map (·.2.2)/\H b=some (.tbl #[])))->(∀t∈ts,H t.2.2=some (.tbl #[]))->SqL K H a (ns.map V.int)->(H a≠none->K.lookup a=none) ->
   codeAny (model P w) callerA (.call (.ref fa) ⟨[.ref a],[]⟩) (λr s'=>r = .ok (.ret (.bool true))/\OldK s₁.heap s'.heap/\s'.os=s₁.os/\AllBare s'.gens) s₁:=by
  intro H hO hTH hS hK;have tabO:∀{b:PU},b∈ts.map (·.2.2)->s₁.heap.get? b=some (PySem.W.tabObj #[]):=λ{b} hb=>by obtain⟨t,ht,rfl⟩:=LN.1 hb;exact(hT t ht).2
  have hok:HOk P w H s₁.heap:=λb u e=>by
   rcases hO b with z | ⟨rfl,z⟩ | ⟨hb,z⟩
   .rw[z]at e;cases e
   .rw[z]at e;cases e;exact⟨ha,by rw[Lf];exact hl,vs,_,rv,ha⟩
   .rw[z]at e;cases e;exact tabO hb
  have base_of:∀{b:PU} {o:Qi},s₁.heap.get? b=some o->H b=none->(iH s₁.heap H).get? b=some o:=λe n=>yk e n
  have other:∀{b:PU} {o:Qi},s₁.heap.get? b=some o->o≠{ cls:=.type "list",data:=.seq vs.toArray }->o≠PySem.W.tabObj #[]->H b=none:=λ{b o} e h1 h2=>by
   rcases hO b with z | ⟨rfl,z⟩ | ⟨hb,z⟩
   .exact z
   .rw[ha]at e;exact absurd (Lr e).symm h1
   .rw[tabO hb]at e;exact absurd (Lr e).symm h2
  have nsK:∀{b:PU} {m:Str->Option PR},s₁.heap.Ns b m->(iH s₁.heap H).Ns b m:=λ{b m} ⟨o,es,ep,e,d,r⟩=>⟨o,es,ep,base_of e (other e (λz=>by rw[z]at d;cases d) λz=>by rw[z]at d;cases d),d,r⟩
  have hKb:K.In (iH s₁.heap H):=λb o e=>base_of (KX b o e) (by
   rcases hO b with z | ⟨rfl,z⟩ | ⟨hb,z⟩
   .exact z
   .rw[hK (by rw[z];simp)]at e;cases e
   .have e2:=KX b o e;rw[tabO hb]at e2;cases e2;have h2:=OV.1 hnt _ (PySem.W.mem_of_lookupK e);exact absurd (show false=true from h2) LF)
  have hM:Mod K mg (iH s₁.heap H):=⟨hKb,nsK hns,⟨mb,nsK hb,hbb⟩,let ⟨mc,h1,h2⟩:=hlim;⟨mc,nsK h1,h2⟩⟩;have hBM:BMd (iH s₁.heap H) mg:=by obtain⟨bm,ob,b1,b2,b3,b4,b5,b6⟩:=BM;exact⟨bm,ob,b1,b2,base_of b3 (other b3 (λz=>by rw[z]at b4;have b4:PR.type "list" = PR.type "module":=b4;exact absurd b4 (by decide)) λz=>by rw[z]at b4;have b4:PR.none=PR.type "module":=b4;exact absurd b4 (by decide)),b4,b5,b6⟩
  have hCd:∀t∈ts,PySem.W.CodeHd (iH s₁.heap H) t.2.1 t.2.2:=λt ht=>by obtain⟨o,vs',file,tf,flags,tg,inF,text,tt,e1,r1,r2⟩:=(hT t ht).1;exact⟨o,vs',file,tf,flags,tg,inF,text,tt,base_of e1 (other e1 (λz=>by rw[z]at r1;have r1:PR.type "list" = PR.type "code":=r1;exact absurd r1 (by decide)) λz=>by rw[z]at r1;have r1:PR.none=PR.type "code":=r1;exact absurd r1 (by decide)),r1,r2⟩
  have e0:Env0 P w K mg (iH s₁.heap H) callerA [] s₁ H:=⟨rfl,hM,λb o e=>yJ e,Nat.le_of_eq (tS _ _),trivial,λb hb=>absurd (show b∈([]:List PU) from hb) (by simp),hok,.of_eq hg⟩;have hTO:G5 ts H:=λt ht=>⟨#[],hTH t ht,trivial,λpos cv e=>by cases e⟩
  refine codeAny_mono ((F _ hKb (nsK hns) hBM hCd).run callerA [] s₁ H ⟨[.ref a],[]⟩ [.ref a] [.ref a] _ _ hr e0 (hbind s₁ (.ref a)) (.cons rfl .nil) (hsp H hS hTO)) λr s' h=>?_
  cases r with
  | error e=>exact(hCX H e s' h).elim
  | ok fl =>
   cases fl with
   | next=>exact False.elim h
   | brk=>exact False.elim h
   | cont=>exact False.elim h
   | ret u =>
    obtain⟨v,H',os,bare,un,hok',r',q⟩:=h;have q':v = .bl true:=q;subst q';obtain rfl:u=PR.bool true:=r';have kept:∀b o,s₁.heap.get? b=some o->H b=none->s'.heap.get? b=some o:=λb o e q=>un.keep b o e q (by intro z;exact absurd (show b∈([]:List PU) from z) (by simp)) (by simp)
    have scr:∀b o,s₁.heap.get? b=some o->b=a->H b=some (.frz { cls:=.type "list",data:=.seq vs.toArray } (.lst (ns.map V.int)))->s'.heap.get? b=some o:=λb o e hb z=>by have z2:=un.frzs b _ _ z;obtain⟨e1,_⟩:=hok b _ z;obtain⟨e2,_⟩:=hok' b _ z2;rw[e]at e1;cases e1;exact e2
    have tab:∀b,H b=some (.tbl #[])->∃more,s'.heap.get? b=some (PySem.W.tabObj more):=λb z=>by obtain⟨more,z2⟩:=un.tbls b _ z;exact⟨_,hok' b _ z2⟩
    refine⟨rfl,⟨λb o e=>?_,λb o e=>?_⟩,os,bare⟩
    .rcases hO b with z | ⟨hb,z⟩ | ⟨hb,z⟩
     .exact .inl (kept b o e z)
     .exact .inl (scr b o e hb z)
     .obtain⟨more,e2⟩:=tab b z;have e3:=tabO hb;rw[e]at e3;cases e3;obtain⟨t,ht,rfl⟩:=LN.1 hb;refine .inr (.inl ⟨((hT t ht).1.tab (hT t ht).2).isCodeTable,rfl,#[],more,rfl,by rw[Array.empty_append];exact e2⟩)
    .rcases hO b with z | ⟨hb,z⟩ | ⟨hb,z⟩
     .exact⟨o,kept b o e z⟩
     .exact⟨o,scr b o e hb z⟩
     .obtain⟨more,e2⟩:=tab b z;exact⟨_,e2⟩
 cases hk:K.lookup a with
 | some o =>
  have e:=KX a o hk;rw[ha]at e;cases e;have haT:a ∉ ts.map (·.2.2):=λz=>by obtain⟨t,ht,e⟩:=LN.1 z;exact aP t ht e
  refine core (λb=>if b∈ts.map (·.2.2) then some (.tbl #[]) else none) (λb=>?_) (λt ht=>Lg (Nb ht)) (.inr ⟨_,vs.toArray,_,hk,rfl,rfl,rfl,by rw[Ls,lenV];exact hl,by simpa using rv⟩) λz=>absurd (Lk haT) z
  by_cases hb:b∈ts.map (·.2.2)
  .exact .inr (.inr ⟨hb,Lg hb⟩)
  .exact .inl (Lk hb)
 | none =>
  refine core (λb=>if b=a then some (.frz { cls:=.type "list",data:=.seq vs.toArray } (.lst (ns.map V.int))) else if b∈ts.map (·.2.2) then some (.tbl #[]) else none) (λb=>?_) (λt ht=>?_) (.inl (.inr ⟨{ cls:=.type "list",data:=.seq vs.toArray },Lg rfl⟩)) λ_=>hk
  .by_cases hb:b=a
   .exact .inr (.inl ⟨hb,Lg hb⟩)
   .by_cases hb2:b∈ts.map (·.2.2)
    .exact .inr (.inr ⟨hb2,by rw[Lk hb,Lg hb2]⟩)
    .exact .inl (by rw[Lk hb,Lk hb2])
  .rw[Lk (aP t ht)];exact Lg (Nb (f:=λt:Str×PU×PU=>t.2.2) ht)
def walk_ofT {l:PySem.W.OpenLaw}{n k:Nat}{q:PX}{loose:List Str}{XP:(Str->Option PR)->Qe->Prop}{YP:PY->Qe->Prop}{d:DefRec}{K:Params->Qf}{CX:PY->CXT}{sp:PY->Sp}{x:Str}(lam:List Str)
  (hn:l.most=some n) (hn2:n<=Qg) (hdf:d.params.defaults=[]) (hr:Room k callerA)
  (hrec:(lam.all λx=>((recsOf q).find? λe=>e.name == x).isSome)=true) (hnt:∀w:PY,PySem.W.noTabs (K w.params)=true)
  (hY:∀(w:PY) (h:Qe),YP w h->(K w.params).In h)
  (F:∀(w:PY) (mg:Str->Option PR) (fa:PU) (h:Qe),(K w.params).In h->h.Ns Qn mg->mg d.name=some (.ref fa) ->
   ∃fd:Qb,(∀(s:PV) (u:PR),BindsTo s fd ⟨[u],[]⟩ [(x,u)]) /\
    ∀base:Qe,(K w.params).In base->base.Ns Qn mg->BMd base mg->(∀t∈tabsK lam (K w.params),PySem.W.CodeHd base t.2.1 t.2.2)->FnOk l.prog w (K w.params) mg base (CX w) k fa fd [x] (sp w))
  (hsp:∀(w:PY) (H:Hp) (a:PU) (ns:List Int),ns.length<=n->SqL (K w.params) H a (ns.map V.int)->G5 (tabsK lam (K w.params)) H->sp w [.ref a] H (λv _=>v = .bl true) λ_ _ _=>False)
  (hCX:∀(w:PY) (H:Hp) (s:PV) (e:PR) (s':PV),CX w [] H s (λ_ _ _=>False) e s'->False) :
  PySem.W.WalkO q loose XP YP l.row.toRowW d [] (λf vs=>PySem.call f vs):=by
 refine Att.attach_call hn hdf λw s₀ s₁ mg mb fa o pm cd doc a vs ns G Y ho hd hcd hmg hobj hints hlen hg=>?_
 have KX:=hY w _ Y;obtain⟨fd,hb,hF⟩:=F w mg fa _ KX G.T.g hmg;refine uX (ts:=tabsK lam (K w.params)) KX G.T.g G.T.b G.T.builtins G.T.nolimit hg hobj hints (LS hlen hn2) hr (λt ht=>?_) (hnt w) G.T.bmain hF hb (λH hS hT=>hsp w H a ns hlen hS hT) λH e s'=>hCX w H s₁ e s'
 obtain⟨x,hx,e⟩:=Ot.1 ht;obtain⟨⟨c,P⟩,e1,e2⟩:=LK.1 e;cases e2;obtain⟨dr,hdr⟩:=Ou.1 (OV.1 hrec x hx);exact PySem.W.tab_of G.T KX hdr e1
def lamB_mk [Feeds]{K:Qf}{mg:Str->Option PR}{base:Qe}{x:Str}{f:PU}{oc:PR}{od:Option PU}{fd:Qb}{osl:Array (Option PR)}(ga:PySem.W.nsIn K Qn x=some (some (.ref f)))(gl:K.lookup f=some ⟨oc,od,.func fd,osl⟩)
  (hx:x∈(Feeds.lam:List Str)) (hs:(PySem.W.tabIn K x).isSome=true) (nd:(tabP K).Nodup) (BM:BMd base mg) (hC:∀t∈tabsK Feeds.lam K,PySem.W.CodeHd base t.2.1 t.2.2):∃c P,LamB K mg base x fd c P:=by
 obtain⟨⟨c,P⟩,e⟩:=Ou.1 hs;have hm:(x,c,P)∈tabsK Feeds.lam K:=Ot.2 ⟨x,hx,by rw[e];rfl⟩;refine⟨c,P,hm,?_,hC _ hm,BM,nd⟩;unfold PySem.W.tabIn at e;rw[ga]at e;simp only[gl]at e;split at e
 .rename_i c2 hc;split at e
  .split at e
   .cases e;exact hc
   .cases e
  .cases e
 .cases e
end
variable {t2 te:TE}{pos px:Pos}
section
section
variable [Feeds]{K:Qf}{X:Cx}{e a b c:Qd}
def zc (K:Qf)(B:List PU)(H H':Hp):DV->V->Prop
 | .dat d,v=>b8 K (hid H' B) d v
 | .own ds,v=>∃a vs,v = .ref a/\H a=none/\H' a=some (.lst vs)/\b7 K (hid H' (a::B)) ds vs
 | .feed,_=>False
 | .fn _,_=>False
 | .adr _,_=>False
def jQ (B:List PU):DV->V->List PU
 | .own _,.ref a=>a::B
 | _,_=>B
def TCd (K:Qf)(te:TE)(mc:DE->M DV):Prop:=∀(G:GF) (B:List PU) (E:DE) (F:FS) (O:St) (H:Hp) (Q:VK) (dv:DV) (F':FS),SitE K G B E F O H->mc E F=some (dv,F') ->
 (∀v H',Kp (u4 K G) H H'->FAt K G H' F'->zc K B H H' dv v->Q v H')->te O H Q
structure Ec (K:Qf) (X:Cx) (e:Qd) (te:TE) (m:DE->M DV):Prop where
 pe:PE X e te
 ok:TCd K te m
def cD (m:DE->M My):DE->M DV:=λE F=>(m E F).bind λp=>some (.dat p.1,p.2)
def cO (m:DE->M (List My)):DE->M DV:=λE F=>(m E F).bind λp=>some (.own p.1,p.2)
def FY {m:DE->M My}(h:Ev K X e te m):Ec K X e te (cD m):=⟨h.pe,λG B E F O H Q dv F' I e q=>by obtain⟨⟨d,F1⟩,e1,e⟩:=bS9 e;cases e;exact h.ok G B E F O H _ d F1 I e1 λv H' k f r=>q v H' k f r⟩
def uY {m:DE->M (List My)}(h:Ef K X e te m):Ec K X e te (cO m):=⟨h.pe,λG B E F O H Q dv F' I e q=>by obtain⟨⟨d,F1⟩,e1,e⟩:=bS9 e;cases e;exact h.ok G B E F O H _ d F1 I e1 λa vs H' h1 h2 k f r=>q _ H' k f ⟨a,vs,rfl,h1,h2,r⟩⟩
section
variable {G:GF}{B B0:List PU}{E:DE}{F F1:FS}{O:St}{H H1 H0:Hp}{dv:DV}{v:V}{i:Nat}
def Cy (I:SitE K G B E F O H)(k1:Kp (u4 K G) H H1)(r:zc K B H H1 dv v):h8 (hid H B) (hid H1 (jQ B dv v)):=by
 cases dv with
 | dat d=>exact k1.hid I.fB
 | feed=>exact r.elim
 | fn _=>exact r.elim
 | adr _=>exact r.elim
 | own ds =>
  obtain⟨a,vs,rfl,hn,ha,h1⟩:=r;intro b o eb;by_cases hb:b∈B
  .rw[D2 hb]at eb;cases eb
  .rw[i6 hb]at eb;have hne:=i3 eb hn;show hid H1 (a::B) b=some o;rw[i6 (by simp[hne,hb])];exact k1 b o eb λz=>hb (I.fB b z)
def jl :∀b∈B,b∈jQ B dv v:=λb hb=>by cases dv <;> cases v <;> first | exact hb | exact Le _ hb
def SitE.moreC (I:SitE K G B E F O H)(k1:Kp (u4 K G) H H1)(f1:FAt K G H1 F1)(r:zc K B H H1 dv v):SitE K G (jQ B dv v) E F1 O H1:=by
 have sm:=Cy I k1 r;refine⟨f1,λb hb=>jl b (I.fB b hb),λb hb=>?_,I.ln,λj x ej=>?_⟩
 .have old:b∈B->∃o,H1 b=some o:=λhb=>(I.step k1 f1).bk b hb
  cases dv with
  | dat d=>cases v <;> exact old hb
  | feed=>exact r.elim
  | fn _=>exact r.elim
  | adr _=>exact r.elim
  | own ds =>
   obtain⟨a,vs,rfl,hn,ha,h1⟩:=r;rcases Lh.1 hb with rfl | hb
   .exact⟨_,ha⟩
   .exact old hb
 .obtain⟨w,v1,v2⟩:=I.loc j x ej;refine⟨w,v1,?_⟩;cases x with
  | dat d=>exact b8.same (show b8 K (hid H B) d w from v2) sm
  | feed=>exact v2
  | fn _=>exact v2
  | adr _=>exact v2
  | own es =>obtain⟨a',xs',rfl,hB',hf',ha',hd'⟩:=v2;exact⟨a',xs',rfl,jl _ hB',hf',k1 _ _ ha' hf',hd'.same sm⟩
def Sit.putC (S:Sit K G B0 H0 E F O H)(s:∀b∈B0,b∈B)(sn:∀b∈B,b∈B0\/H0 b=none)(I:SitE K G B E F O H)(k1:Kp (u4 K G) H H1)(f1:FAt K G H1 F1)(r:zc K B H H1 dv v)(hl:i<E.length) :
  Sit K G B0 H0 (E.set i (some dv)) F1 (O.set i (some v)) H1/\(∀b∈B0,b∈jQ B dv v)/\(∀b∈jQ B dv v,b∈B0\/H0 b=none)/\SitE K G (jQ B dv v) (E.set i (some dv)) F1 (O.set i (some v)) H1:=by
 have hsl:i < O.length:=by rw[<-I.ln];exact hl
 have s':∀b∈B0,b∈jQ B dv v:=λb hb=>jl b (s b hb)
 have newB:∀ds,dv = .own ds->∃a vs,v = .ref a/\H1 a=some (.lst vs)/\b7 K (hid H1 (a::B)) ds vs/\a ∉ B/\a ∉ u4 K G/\H0 a=none:=λds e=>by
  subst e;obtain⟨a,vs,rfl,hn,ha,h1⟩:=r;have haB:a ∉ B:=I.bk.nin hn;have haf:a ∉ u4 K G:=λz=>haB (I.fB a z)
  exact⟨a,vs,rfl,ha,h1,haB,haf,S.kp.none hn haf⟩
 have sn':∀b∈jQ B dv v,b∈B0\/H0 b=none:=λb hb=>by
  cases dv with
  | dat d=>cases v <;> exact sn b hb
  | feed=>exact r.elim
  | fn _=>exact r.elim
  | adr _=>exact r.elim
  | own ds =>
   obtain⟨a,vs,rfl,ha,h1,haB,haf,h0⟩:=newB ds rfl;rcases Lh.1 hb with rfl | hb
   .exact .inr h0
   .exact sn b hb
 have IC:=I.moreC k1 f1 r;have I':SitE K G (jQ B dv v) (E.set i (some dv)) F1 (O.set i (some v)) H1:=by
  refine⟨IC.fd,IC.fB,IC.bk,by rw[MB,MB];exact I.ln,λj x ej=>?_⟩;by_cases hj:i=j
  .subst hj;rw[Lp hl]at ej;cases ej;refine⟨v,by rw[Lp hsl],?_⟩;cases dv with
   | dat d=>cases v <;> exact r
   | feed=>exact r.elim
   | fn _=>exact r.elim
   | adr _=>exact r.elim
   | own ds =>obtain⟨a,vs,rfl,ha,h1,haB,haf,h0⟩:=newB ds rfl;exact⟨a,vs,rfl,Lq,haf,ha,h1⟩
  .rw[Lm hj]at ej;obtain⟨w,v1,v2⟩:=IC.loc j x ej;exact⟨w,by rw[Lm hj];exact v1,v2⟩
 have other:∀(ds:List My) (j:Nat) (es:List My) (a:PU),dv = .own ds->v = .ref a->E[j]? = some (some (DV.own es))->O[j]? ≠ some (some (V.ref a)):=λds j es a e ev ej z=>by obtain⟨a1,vs,ev1,ha,h1,haB,haf,h0⟩:=newB ds e;rw[ev]at ev1;cases ev1;obtain⟨w,v1,a',xs',rfl,hB',_⟩:=I.loc j _ ej;rw[v1]at z;cases z;exact haB hB'
 refine⟨⟨⟨jQ B dv v,s',sn',I'⟩,S.fB,S.kp.trans k1,λj es a' ej sj=>?_,λj k es es' a' ej ek sj sk=>?_⟩,s',sn',I'⟩
 .by_cases hj:i=j
  .subst hj;rw[Lp hl]at ej;rw[Lp hsl]at sj;have e1:dv = .own es:=Lr (Lr ej);have e2:v = .ref a':=Lr (Lr sj);obtain⟨a,vs,ev,ha,h1,haB,haf,h0⟩:=newB es e1;rw[e2]at ev;cases ev;exact⟨h0,λz=>haB (s _ z)⟩
  .rw[Lm hj]at ej sj;exact S.own j es a' ej sj
 .by_cases hj:i=j
  .by_cases hk:i=k
   .rw[<-hj,<-hk]
   .subst hj;rw[Lp hl]at ej;rw[Lp hsl]at sj;rw[Lm hk]at ek sk;have e1:dv = .own es:=Lr (Lr ej);have e2:v = .ref a':=Lr (Lr sj);exact absurd sk (other es k es' a' e1 e2 ek)
  .by_cases hk:i=k
   .subst hk;rw[Lp hl]at ek;rw[Lp hsl]at sk;rw[Lm hj]at ej sj;have e1:dv = .own es':=Lr (Lr ek);have e2:v = .ref a':=Lr (Lr sk);exact absurd sj (other es' j es a' e1 e2 ej)
   .rw[Lm hj]at ej sj;rw[Lm hk]at ek sk;exact S.inj j k es es' a' ej ek sj sk
end
def jZ (i j:Nat)(c1 c2:DE->M DV):DE->M Out:=λE F=>(c1 E F).bind λp=>(c2 E p.2).bind λq=>if i<E.length/\j<E.length then some (.nx ((E.set i (some p.1)).set j (some q.1)),q.2) else none
def zR (i j:Nat){x y:Str}{t1:TE}{c1 c2:DE->M DV}{py pt:Pos}{kt k2 pt2}(hc:X.calm=true)(hN:X.N.Nodup)(h1:Ec K X a t1 c1)(h2:Ec K X b t2 c2)(hi:X.N[i]? = some x:=by rfl)(hj:X.N[j]? = some y:=by rfl)(hij:i≠j:=by decide)
  (hx:X.env.scope.names.lookup x=some .local:=by rfl) (hy:X.env.scope.names.lookup y=some .local:=by rfl)
  (hw:swappedStores [.Tuple [.Name x px,.Name y py] kt pt] (.Tuple [a,b] k2 pt2) X.env=pure (some [x,y]):=by rfl)
  (hs:swapsWithSole [.Tuple [.Name x px,.Name y py] kt pt] (.Tuple [a,b] k2 pt2) pos.line X.env=pure false:=by rfl)
  (hs1:Qh [a,b] X.env=(false,eval a X.env)::Qh [b] X.env:=by rfl) (hs2:Qh [b] X.env=(false,eval b X.env)::Qh [] X.env:=by rfl) :
  Ss K X (.Assign [.Tuple [.Name x px,.Name y py] kt pt] (.Tuple [a,b] k2 pt2) pos) (Ex i j (B4 t1 (B4 t2 K8))) (jZ i j c1 c2):=⟨Do hc hN hi hj hij hx hy (l7 h1.pe (l7 h2.pe u9 hs2) hs1) hw hs,λG B0 H0 E F O H D r F' S e q=>by
 obtain⟨⟨d1,F1⟩,e1,e⟩:=bS9 e;obtain⟨⟨d2,F2⟩,e2,e⟩:=bS9 e;split at e;case isFalse=>cases e
 rename_i hl;cases e;obtain⟨B,s,sn,I⟩:=S.ex;refine h1.ok G B E F O H _ d1 F1 I e1 λv H1 k1 f1 r1=>?_
 obtain⟨S1,s1,sn1,I1⟩:=S.putC s sn I k1 f1 r1 hl.1;refine h2.ok G _ E F1 O H1 _ d2 F2 (I.moreC k1 f1 r1) e2 λw H2 k2' f2 r2=>?_
 obtain⟨S2,_⟩:=S1.putC s1 sn1 I1 k2' f2 r2 (i:=j) (by rw[MB];exact hl.2);exact⟨v,w,rfl,q _ _ S2⟩⟩
def lC (i j k:Nat)(c1 c2 c3:DE->M DV):DE->M Out:=λE F=>(c1 E F).bind λp=>(c2 E p.2).bind λq=>(c3 E q.2).bind λr=>if i<E.length/\j<E.length/\k<E.length then some (.nx (((E.set i (some p.1)).set j (some q.1)).set k (some r.1)),r.2) else none
def xC (i j k:Nat){x y z:Str}{t1 t3:TE}{c1 c2 c3:DE->M DV}{py pz pt:Pos}{kt k2 pt2}(hc:X.calm=true)(hN:X.N.Nodup)(h1:Ec K X a t1 c1)(h2:Ec K X b t2 c2)(h3:Ec K X c t3 c3)(hi:X.N[i]? = some x:=by rfl)(hj:X.N[j]? = some y:=by rfl)(hk:X.N[k]? = some z:=by rfl)(hij:i≠j:=by decide)(hik:i≠k:=by decide)(hjk:j≠k:=by decide)
  (hx:X.env.scope.names.lookup x=some .local:=by rfl) (hy:X.env.scope.names.lookup y=some .local:=by rfl) (hz:X.env.scope.names.lookup z=some .local:=by rfl)
  (hw:swappedStores [.Tuple [.Name x px,.Name y py,.Name z pz] kt pt] (.Tuple [a,b,c] k2 pt2) X.env=pure (some [x,y,z]):=by rfl)
  (hs:swapsWithSole [.Tuple [.Name x px,.Name y py,.Name z pz] kt pt] (.Tuple [a,b,c] k2 pt2) pos.line X.env=pure false:=by rfl)
  (hs1:Qh [a,b,c] X.env=(false,eval a X.env)::Qh [b,c] X.env:=by rfl) (hs2:Qh [b,c] X.env=(false,eval b X.env)::Qh [c] X.env:=by rfl) (hs3:Qh [c] X.env=(false,eval c X.env)::Qh [] X.env:=by rfl) :
  Ss K X (.Assign [.Tuple [.Name x px,.Name y py,.Name z pz] kt pt] (.Tuple [a,b,c] k2 pt2) pos) (AY i j k (B4 t1 (B4 t2 (B4 t3 K8)))) (lC i j k c1 c2 c3):=⟨zj hc hN hi hj hk hij hik hjk hx hy hz (l7 h1.pe (l7 h2.pe (l7 h3.pe u9 hs3) hs2) hs1) hw hs,λG B0 H0 E F O H D r F' S e q=>by
 obtain⟨⟨d1,F1⟩,e1,e⟩:=bS9 e;obtain⟨⟨d2,F2⟩,e2,e⟩:=bS9 e;obtain⟨⟨d3,F3⟩,e3,e⟩:=bS9 e;split at e;case isFalse=>cases e
 rename_i hl;cases e;obtain⟨B,s,sn,I⟩:=S.ex;refine h1.ok G B E F O H _ d1 F1 I e1 λv H1 k1 f1 r1=>?_
 obtain⟨S1,s1,sn1,I1⟩:=S.putC s sn I k1 f1 r1 hl.1;refine h2.ok G _ E F1 O H1 _ d2 F2 (I.moreC k1 f1 r1) e2 λw H2 k2' f2 r2=>?_
 obtain⟨S2,s2,sn2,I2⟩:=S1.putC s1 sn1 I1 k2' f2 r2 (i:=j) (by rw[MB];exact hl.2.1);refine h3.ok G _ E F2 O H2 _ d3 F3 ((I.moreC k1 f1 r1).moreC k2' f2 r2) e3 λu H3 k3 f3 r3=>?_
 obtain⟨S3,_⟩:=S2.putC s2 sn2 I2 k3 f3 r3 (i:=k) (by rw[MB,MB];exact hl.2.2);exact⟨v,w,u,rfl,q _ _ S3⟩⟩
end
end
section
section
variable {K:Qf}{X0:Cx}{tg iter:Qd}
def ie {env:Qj}:∀{names:List (Str×Qw)} {x:Str},names.lookup x=some .cell\/names.lookup x=some .free ->
  (names.map λ(n,k)=>if (k == Qw.free&&env.scope.kind == .function&&env.kindOf n == some .cell) then(n,Qw.cell) else(n,k)).lookup x=some .cell\/(names.map λ(n,k)=>if (k == Qw.free&&env.scope.kind == .function&&env.kindOf n == some .cell) then(n,Qw.cell) else(n,k)).lookup x=some .free
 | [],_,h=>by simp at h
 | (n,k)::r,x,h=>by
  have ih:=@ie env r x;show List.lookup x ((if (k == Qw.free&&env.scope.kind == .function&&env.kindOf n == some .cell)=true then(n,Qw.cell) else(n,k))::_)=_\/List.lookup x ((if (k == Qw.free&&env.scope.kind == .function&&env.kindOf n == some .cell)=true then(n,Qw.cell) else(n,k))::_)=_;cases hx:x == n with
  | true =>
   simp only[MC,hx]at h;by_cases hc:(k == Qw.free&&env.scope.kind == .function&&env.kindOf n == some .cell)=true
   .rw[Lg hc];simp[MC,hx]
   .rw[Lk hc];simpa [MC,hx] using h
  | false =>
   simp only[MC,hx]at h;by_cases hc:(k == Qw.free&&env.scope.kind == .function&&env.kindOf n == some .cell)=true
   .rw[Lg hc];simp only[MC,hx];exact ih h
   .rw[Lk hc];simp only[MC,hx];exact ih h
def CL [Feeds]{elt:Qd}{ifs:List Qd}{scope0 scope:Qa}{N0 N:List Str}{cl0 C0 ex0 pins0 s0 H0}{k:Nat}{cap:List Nat}{wi:TI}{g:TG}{tt:TT}{mi:DE->M (List My)}{bd:My->DE->Option DE}{mt:DE->M Bool}{me:DE->M My}
  (hc:(cxC X0 N0 scope0 cl0 C0 ex0 pins0 s0 H0).calm=true) (hcap:Caps N0 scope0 N k cap scope) (hi:Eib K (cxC X0 N0 scope0 cl0 C0 ex0 pins0 s0 H0) tg iter wi mi)
  (hg:∀cl C ex Qz s H,Eg K (cxC (cxC X0 N0 scope0 cl0 C0 ex0 pins0 s0 H0) N scope cl C ex Qz s H) tg g bd)
  (ht:∀cl C ex Qz s H,Ets K (cxC (cxC X0 N0 scope0 cl0 C0 ex0 pins0 s0 H0) N scope cl C ex Qz s H) ifs tt mt)
  (he:∀cl C ex Qz s H,Ev K (cxC (cxC X0 N0 scope0 cl0 C0 ex0 pins0 s0 H0) N scope cl C ex Qz s H) elt te me)
  (hs:∀x,Qr iter (cxC X0 N0 scope0 cl0 C0 ex0 pins0 s0 H0).env x=pure x:=by intro _;rfl) :
  Ev K (cxC X0 N0 scope0 cl0 C0 ex0 pins0 s0 H0) (.ListComp elt [⟨tg,iter,ifs,0⟩] scope pos) (tLC wi k cap g tt te) (sLC mi k cap bd mt me) :=
 fZ (osc:=relabel scope0 X0.env) hc rfl ⟨hcap.kind,hcap.nocell,hcap.loc,λy hy e=>ie (hcap.free y hy e),hcap.len,hcap.capx,hcap.capf⟩ hi hg ht he hs
end
section
variable {K:Qf}{X:Cx}[Feeds]
end
def FdS.fstN (F:FdS):Int:=(F.cellL % 1000003+37*F.a*F.a+13*F.a+5)*48271 % 999983
def FdS.mixN (F:FdS):Int:=((F.fstN*F.fstN+7919*F.a+11) % 2097143)*69621 % 2147483629 / 7
def gm (m:Int)(F:FdS):Option (Int×FdS):=if 0<m/\m<1073741824/\F.t<199999 then
  some (if 0<F.l then(F.l % m,⟨F.ns,F.a,F.l / m,F.t+1⟩)
   else if 10 ^ 18<=F.cellL/\F.a<F.ns.length then(F.cellL % m,⟨F.ns,F.a+1,F.cellL / m,F.t+1⟩)
   else(F.mixN % m,⟨F.ns,F.a+1,F.l,F.t+1⟩))
 else none
def qE {m:Int}{F:FdS}(h0:0<m)(h1:m<1073741824)(h2:F.t<199999):∃r F',gm m F=some (r,F')/\0<=r/\r<m/\F'.t=F.t+1:=by
 have b:∀x:Int,0<=x % m/\x % m<m:=λx=>⟨Int.emod_nonneg _ (by omega),Int.emod_lt_of_pos _ h0⟩
 unfold gm;rw[Lg ⟨h0,h1,h2⟩];by_cases hl:0<F.l
 .rw[Lg hl];exact⟨_,_,rfl,(b _).1,(b _).2,rfl⟩
 .rw[Lk hl];by_cases hc:10 ^ 18<=F.cellL/\F.a<F.ns.length
  .rw[Lg hc];exact⟨_,_,rfl,(b _).1,(b _).2,rfl⟩
  .rw[Lk hc];exact⟨_,_,rfl,(b _).1,(b _).2,rfl⟩
@[reducible] def FQ (l:List Str):Fam where
 At:=λd c H F=>H d=some (.lst [.ref c,.int F.a,.int F.l])/\H c=some (.lst (F.ns.map V.int))/\F.ns.length<=63/\0<=F.a/\F.a<=F.t/\d≠c
 some1:=λh=>⟨_,h.1,⟨λ_ z=>(by cases z),λ_ z=>(by cases z)⟩⟩
 some2:=λh=>⟨_,h.2.1,⟨λ_ z=>(by cases z),λ_ z=>(by cases z)⟩⟩
 lam:=l
 congr:=λh e1 e2=>⟨e1.trans h.1,e2.trans h.2.1,h.2.2⟩
 drawF:=gm
 draw_some:=qE
end
section
end
section
section
variable {K:Qf}{X:Cx}[Feeds]
end
end
section
section
variable {M:Lang}{A:PZ}{E:PR->PV->Prop}{s:PV}
def jP :seqSlot? (.type "list") (dunderI "add")=pure (some (.builtin "list.__iadd__")):=PySem.seqSlot_of OT.lookup (by decide +kernel)
def jz :fillsInplaceSlot (.type "list") "add" (Operator.Add == .Add)=pure false:=by
 unfold fillsInplaceSlot;show(typeLookup (.type "list") (dunderI "add") >>= λfi=>pure (fi.isSome && !isSeqSlot fi))=pure false;rw[OT.lookup];show(pure ((some (PR.builtin "list.__iadd__")).isSome && !isSeqSlotId "list.__iadd__"):Sem Bool)=pure false;have:isSeqSlotId "list.__iadd__" = true:=by decide +kernel
 rw[this];rfl
end
section
variable {prog:PX}{w:PY}{A:PZ}{E:PR->PV->Prop}{s:PV}
def tY {a b:PR}{Q:PR->PV->Prop}(ha:s.TypeIs a "list")(hb:s.TypeIs b "list")(hc:Qm (model prog w) A (call (.builtin "list.__iadd__") [a,b]) Q E s):Qm (model prog w) A (inplaceOp .Add a b) Q E s:=by unfold inplaceOp;refine MW ?_;refine Ld (OZ ha (Ld (wpAny_of_eq jz ?_)));show Qm _ A (if false=true then _ else _) Q E s;rw[Lk LF];refine Ld (binaryOp1_none (nm:="add") ha hb noFill_list_add ?_);refine Ld (wpAny_of_eq jP ?_);exact Ld (NR hc)
end
section
variable {K:Qf}{X:Cx}[Feeds]
def ipE :TIp:=λx y H Q=>∃l b xs zs,x = .ref l/\y = .ref b/\H l=some (.lst xs)/\H b=some (.lst zs)/\xs.length+zs.length<=Qg/\Q (.ref l) (upd H l (.lst (xs++zs)))
def Ds :PIp X .Add ipE:=by
 walk_at "kt";obtain⟨l,b,xs,zs,rfl,rfl,hH,hB,hz,q⟩:=h;cases rx;cases ry;obtain⟨z,its,n,r,hl,e⟩:=I.lstM hH;obtain⟨z2,its2,n2,r2,hl2,e2⟩:=I.lstM hB;have hsz:its.toArray.size+its2.toArray.size<=Qg:=by rw[Ls,Ls];omega
 have hlong:¬(!its.toArray.isEmpty&&Builtin.List.listTooLong (its.toArray.size+its2.toArray.size))=true:=by rw[nY hsz,OG];exact LF
 refine tY ⟨_,e,rfl⟩ ⟨_,e2,rfl⟩ ?_;refine Oe OT ⟨_,e,rfl⟩ PySem.F.entry_list_iadd (PySem.F.args_list_iadd_2 _ _)
  (AutoSeq1.list___iadd___list_list_0 l its.toArray n b its2.toArray n2 hlong (by rw[Ls];omega) (by omega)) ⟨e,e2,?_⟩
 refine⟨.ref l,_,I.lset (its':=its++its2) hH e (by simp) (r.append r2) ?_,rfl,q⟩;rw[Mp];omega
def wy {v w:V}:[v,w].length<=Qg:=by show 2<=Qg;rw[LV];decide
theorem og {α:Type}:∀{l:List α} {i:Nat} {a:α},l[i]? = some a->l.set i a=l
 | [],_,_,h=>by simp at h
 | x::l,0,a,h=>by simp at h;simp[h]
 | x::l,i+1,a,h=>by simp at h;simp[og h]
variable {e:Qd}{m:DE->M My}
def DB {i:Nat}(hv:TEs K te m):TSd K (yo i te ipE) (tw i m):=λG B0 H0 E F O H D r F' S e q=>by
 obtain⟨⟨d,F1⟩,e1,e⟩:=bS9 e;obtain⟨ds,e4,e⟩:=bS9 e;dsimp only at e;split at e
 .split at e
  .rename_i hl;cases e;obtain⟨B,s,sn,I⟩:=S.ex;have eo:=aG e4;obtain⟨w,w1,a,xs,rfl,hB,hf,hx,hdx⟩:=I.loc i _ eo;refine⟨_,w1,hv G B E F O H _ (.list _) _ I e1 λu H2 k2 f2 h2=>?_⟩;obtain⟨b,ys,rfl,hb,hdb⟩:=h2;have hd2:=hdx.same (k2.hid I.fB);refine⟨a,b,xs,ys,rfl,rfl,k2 a _ hx hf,f8 _ _ hb,by rw[hdx.length,hdb.length];exact hl,?_⟩;show D.nx (List.set O i (some (V.ref a))) _;rw[og w1];exact q O _ ((S.step k2 f2).write s sn (I.step k2 f2) eo w1 (b7.append hdb hd2))
  .cases e
 .cases e
def sH (i:Nat){x:Str}{pos':Pos}(hN:X.N.Nodup)(he:Eb K X e te m)(hi:X.N[i]? = some x:=by rfl)(hx:Loc X.env.scope x:=by walk_at "v")(hf:X.fn x=true\/X.env.scope.names.lookup x=some .local:=by walk_at "v") :
  Ss K X (.AugAssign (.Name x pos') .Add e pos) (yo i te ipE) (tw i m):=⟨vN hN hi hx he.pe Ds hf,DB he.ok⟩
variable {a b:Qd}
def wU (i j:Nat){x y:Str}{t1:TE}{c1 c2:DE->M DV}{py pt:Pos}{kt k2 pt2}(hK:X.K=K)(hc:X.calm=true)(hN:X.N.Nodup)(h1:Ec K X a t1 c1)(h2:Ec K X b t2 c2)(hi:X.N[i]? = some x:=by rfl)(hj:X.N[j]? = some y:=by rfl)
  (hx:Loc X.env.scope x:=by walk_at "v") (hy:Loc X.env.scope y:=by walk_at "v")
  (hfx:X.fn x=true\/X.env.scope.names.lookup x=some .local:=by walk_at "v") (hfy:X.fn y=true\/X.env.scope.names.lookup y=some .local:=by walk_at "v")
  (hw:swappedStores [.Tuple [.Name x px,.Name y py] kt pt] (.Tuple [a,b] k2 pt2) X.env=pure none:=by rfl)
  (hs:swapsWithSole [.Tuple [.Name x px,.Name y py] kt pt] (.Tuple [a,b] k2 pt2) pos.line X.env=pure false:=by rfl)
  (ha1:(Qt [.Tuple [.Name x px,.Name y py] kt pt] X.env).map (·.2)=[assign (.Tuple [.Name x px,.Name y py] kt pt) X.env]:=by rfl)
  (hs1:Qh [a,b] X.env=(false,eval a X.env)::Qh [b] X.env:=by rfl) (hs2:Qh [b] X.env=(false,eval b X.env)::Qh [] X.env:=by rfl) :
  Ss K X (.Assign [.Tuple [.Name x px,.Name y py] kt pt] (.Tuple [a,b] k2 pt2) pos) (O6 (xy (B4 t1 (B4 t2 K8))) (zK K 2 (rq (M6 i) (rq (M6 j) Ce)))) (jZ i j c1 c2) :=
 ⟨U5 (lY (l7 h1.pe (l7 h2.pe u9 hs2) hs1)) (rT hK hc (ir (gQ hN hi hx hfx) (ir (gQ hN hj hy hfy) rA))) hs hw ha1,λG B0 H0 E F O H D r F' S e q=>by
 obtain⟨⟨d1,F1⟩,e1,e⟩:=bS9 e
 obtain⟨⟨d2,F2⟩,e2,e⟩:=bS9 e
 split at e
 case isFalse=>cases e
 rename_i hl
 cases e
 obtain⟨B,s,sn,I⟩:=S.ex
 refine h1.ok G B E F O H _ d1 F1 I e1 λv H1 k1 f1 r1=>?_
 obtain⟨S1,s1,sn1,I1⟩:=S.putC s sn I k1 f1 r1 hl.1
 refine h2.ok G _ E F1 O H1 _ d2 F2 (I.moreC k1 f1 r1) e2 λw H2 k2' f2 r2=>?_
 obtain⟨S2,_⟩:=S1.putC s1 sn1 I1 k2' f2 r2 (i:=j) (by rw[MB];exact hl.2)
 refine⟨wy,λp hp=>⟨p,[v,w],rfl,SqT.of d7,rfl,v,[w],rfl,w,[],rfl,rfl,?_⟩⟩
 exact q _ _ (S2.step (Kp.upd hp) (f2.same (h8.upd hp)))⟩
def Eh {tg iter elt:Qd}{ifs:List Qd}{scope osc:Qa}{N:List Str}{k:Nat}{cap:List Nat}{wi:TI}{g:TG}{tt:TT}{mi:DE->M (List My)}{bd:My->DE->Option DE}{mt:DE->M Bool}{me:DE->M My}
  (hc:X.calm=true) (hosc:X.env.scope=osc) (hcap:Caps X.N osc N k cap scope) (hi:Eib K X tg iter wi mi)
  (hg:∀cl C ex Qz s H,Eg K (cxC X N scope cl C ex Qz s H) tg g bd)
  (ht:∀cl C ex Qz s H,Ets K (cxC X N scope cl C ex Qz s H) ifs tt mt)
  (he:∀cl C ex Qz s H,Ev K (cxC X N scope cl C ex Qz s H) elt te me)
  (hs:∀x,Qr iter X.env x=pure x:=by intro _;rfl) :
  Ef K X (.ListComp elt [⟨tg,iter,ifs,0⟩] scope pos) (tLC wi k cap g tt te) (fLC mi k cap bd mt me) :=
 ⟨Bk hc hosc hcap hi.pi (λcl C ex Qz s H=>(hg cl C ex Qz s H).pg) (λcl C ex Qz s H=>(ht cl C ex Qz s H).pts) (λcl C ex Qz s H=>(he cl C ex Qz s H).pe) hs,
  Br hi.ok (hg [] 0 [] [] X.s₀ X.H₀).ok (ht [] 0 [] [] X.s₀ X.H₀).ok (he [] 0 [] [] X.s₀ X.H₀).ok⟩
end
end
section
section
variable [Feeds]
variable {K:Qf}{X:Cx}{e i v1 v2 v3:Qd}{es:List Qd}{t1 t3 ti:TE}{m1 m2 m3 mi:DE->M My}{p p1 p2 p3:Pos}
variable {P:PX}{w:PY}{mg:Str->Option PR}{base:Qe}
end
end
section
section
variable {prog:PX}{w:PY}{A:PZ}{E:PR->PV->Prop}{s:PV}
variable {b1 b2:Bool}{z TI TO i1 i2 l1 l2:PU}{k:Nat}{xs ys:Array PR}{x y a b:PR}
end
end
section
section
variable {prog:PX}{w:PY}{A:PZ}{E:PR->PV->Prop}{s:PV}
end
section
variable [Feeds]{K:Qf}{X:Cx}{tg e1 e2:Qd}{te1 te2:TE}{m1 m2:DE->M My}{p tp:Pos}{es:List Qd}{tk:Nat}
end
end
end L3
namespace L2
open PySem PySem.Spec PyProof.Rows
variable {elt iter:Qd}{scope:Qa}{pos:Pos}{ifs ifs1:List Qd}
section
def xg (target iter:Qd)(ifs:List Qd)(it:PR)(env:Qj)(act:Sem Unit)(more:Sem Fin):Sem Fin:=do
 standAt iter.pos
 match <-pyNext it with
 | none=>pure (.done .next)
 | some v =>
  letOwnedTupleGo target it v
  assign target env v
  let mut ok:=true
  for c in ifs do
   if ok then ok <-isTrue c env (eval c env)
  if ok then act
  more
def rm (e:Qd)(iter1:Qd)(acc:PR)(env:Qj)(k:Sem Fin):Sem Fin:=do
 let x <-eval iter1 env
 standAt iter1.pos
 let x <-Qr iter1 env x
 let _ <-runOwn (.compStart e 1 (<-holding [x] (pyIter x)) acc env) env
 k
def xj (elt tg iter tg1 iter1:Qd)(ifs ifs1:List Qd)(scope:Qa)(pos:Pos)(it acc:PR)(env:Qj) :
  compTurn (.ListComp elt [⟨tg,iter,ifs,0⟩,⟨tg1,iter1,ifs1,0⟩] scope pos) 0 it acc env=rL tg iter ifs it env (rm (.ListComp elt [⟨tg,iter,ifs,0⟩,⟨tg1,iter1,ifs1,0⟩] scope pos) iter1 acc env) (again (.compLoop (.ListComp elt [⟨tg,iter,ifs,0⟩,⟨tg1,iter1,ifs1,0⟩] scope pos) 0 it acc env)):=by rfl
def Az (elt tg iter tg1 iter1:Qd)(ifs ifs1:List Qd)(scope:Qa)(pos:Pos)(it acc:PR)(env:Qj) :
  compTurn (.ListComp elt [⟨tg,iter,ifs,0⟩,⟨tg1,iter1,ifs1,0⟩] scope pos) 1 it acc env=xg tg1 iter1 ifs1 it env (nq elt acc env) (again (.compLoop (.ListComp elt [⟨tg,iter,ifs,0⟩,⟨tg1,iter1,ifs1,0⟩] scope pos) 1 it acc env)):=by rfl
section
variable {prog:PX}{w:PY}{A:PZ}{R:Result->PV->Prop}{s:PV}
def DG {gens:List Comprehension}{d:Nat}{it acc:PR}{env:Qj}{target:Qd}{act:Sem Unit}(I:Nat->PV->Prop)
  (ht:compTurn (.ListComp elt gens scope pos) d it acc env=xg target iter ifs it env act (again (.compLoop (.ListComp elt gens scope pos) d it acc env)))
  (turn:∀n s,I n s->Qm (model prog w) A (pyNext it) (λr s₁=>match r with
   | none=>R (.ok .next) s₁
   | some v=>Qm (model prog w) A (letOwnedTupleGo target it v) (λ_ s₀=>Qm (model prog w) A (assign target env v) (λ_ s₂ =>
     Qm (model prog w) A (forIn ifs true λc r=>if r=true then do let ok <-isTrue c env (eval c env);pure (ForInStep.yield ok) else pure (ForInStep.yield r)) (λok s₃ =>
      if ok=true then Qm (model prog w) A act (λ_ s₅=>∃m,m<n/\I m s₅) (λ_ _=>False) s₃
      else ∃m,m<n/\I m s₃) (λ_ _=>False) s₂) (λ_ _=>False) s₀) (λ_ _=>False) s₁) (λ_ _=>False) s)
  (n:Nat) (h:I n s):codeAny (model prog w) A (.compLoop (.ListComp elt gens scope pos) d it acc env) R s:=by
 refine codeAny_loop rfl I (λn s hI=>?_) n h;show Qm _ A ((compTurn (.ListComp elt gens scope pos) d it acc env).onRaise (λx=>do noteFrame x env;theTreesLotGoes x)) _ _ s;refine wpAny_noted ?_;rw[ht];unfold xg;refine Ld (NA (Ld (LX (turn n s hI) (λr s₁ h₁=>?_) λ_ _ h'=>h'.elim)));cases r with
 | none=>exact Lo h₁
 | some v =>
  refine Ld (LX h₁ (λ_ s₀ h₀=>?_) λ_ _ h'=>h'.elim);refine Ld (LX h₀ (λ_ s₂ h₂=>Ld (LX h₂ (λok s₃ h₃=>?_) λ_ _ h'=>h'.elim)) λ_ _ h'=>h'.elim);cases ok with
  | false=>exact Lo ⟨rfl,h₃⟩
  | true=>exact Ld (LX h₃ (λ_ s₅ h₅=>Lo ⟨rfl,h₅⟩) λ_ _ h'=>h'.elim)
def wI {g0:Comprehension}{target:Qd}{rest:List Comprehension}{it acc:PR}{env:Qj}
  (h0:codeAny (model prog w) A (.compLoop (.ListComp elt (g0::⟨target,iter,ifs,0⟩::rest) scope pos) 1 it acc env) R s)
  (h:Qm (model prog w) A (pyIter it) (λit' s'=>codeAny (model prog w) A (.compLoop (.ListComp elt (g0::⟨target,iter,ifs,0⟩::rest) scope pos) 1 it' acc env) R s') (notedBy (model prog w) A env λx s'=>R (.error x) s') s) :
  codeAny (model prog w) A (.compStart (.ListComp elt (g0::⟨target,iter,ifs,0⟩::rest) scope pos) 1 it acc env) R s:=by
 refine codeAny_of_tree ?_;show Qm _ _ ((compStart (.ListComp elt (g0::⟨target,iter,ifs,0⟩::rest) scope pos) 1 it acc env).onRaise (λx=>do noteFrame x env;standAt theWindowsPlace)) _ _ s;refine wpAny_notedAt ?_;unfold compStart;show Qm _ _ (ask >>= _) _ _ s;refine Ld (wpAny_askSetting (wpAny_ite ?_));split
 .first | exact Ld (Lo (Lo (And.intro rfl h0))) | exact Lo (And.intro rfl h0)
 .first | exact Ld (NR (Ld (NA (Ld (LX h (λit' s' h'=>Lo (And.intro rfl h')) λ_ _ x=>x))))) | (refine Ld (NR ?_);show Qm _ _ (standAt iter.pos >>= _) _ _ s;exact Ld (NA (Ld (LX h (λit' s' h'=>Lo (And.intro rfl h')) λ_ _ x=>x))))
end
def tIn (wi:TI)(g:TG)(tt:TT)(te:TE)(D:PU):TM:=λO H Q=>wi O H λJ H1 =>
 ∃W:Nat->Nat->St->List V->Hp->Prop,(∃m acc,H1 D=some (.lst acc)/\W 0 m O acc H1)/\∀i m O' acc H',W i m O' acc H' ->
  (J.stop i H'/\Q O' H') \/
  (J.go i H'/\∀x H2,J.yld i H' x H2->g x O' H2 λσ2 H3=>tt σ2 H3 λok H4=>if ok=true then te σ2 H4 λy H5=>H5 D=some (.lst acc)/\acc.length<Qg/\∃m',m'<m/\W (i+1) m' σ2 (acc++[y]) (upd H5 D (.lst (acc++[y])))
   else H4 D=some (.lst acc)/\∃m',m'<m/\W (i+1) m' σ2 acc H4)
def Fj {Y:Cx}{tg tg1 iter1:Qd}{wi:TI}{g:TG}{tt:TT}{te:TE}{D:PU}(hx:Y.xe = λ_ _=>False)(hc:Y.calm=true)(hi:PI Y tg1 iter1 wi)(hg:PG Y tg1 g)(ht:PTs Y ifs1 tt)(he:PE Y elt te)
  (hs:∀x,Qr iter1 Y.env x=pure x):PM Y (rm (.ListComp elt [⟨tg,iter,ifs,0⟩,⟨tg1,iter1,ifs1,0⟩] scope pos) iter1 (.ref D) Y.env) (tIn wi g tt te D):=by
 intro Qz s O H Q I h k R E hk;unfold rm;have hxe:∀{a b},Y.xe a b->False:=λ{a b} z=>by rw[hx]at z;exact z
 refine Ld (LX (hi Qz s O H _ I h) (λv s1 h1=>Ld (NA ?_)) λ_ _ z=>(hxe z).elim);rw[hs];refine Ld (Lo (Ld (MW (LX h1 (λitv s2 h2=>?_) λ_ _ z=>(hxe z).elim))));obtain⟨it,fp,tn,J,H2,e,I2,T,st2,f2,W,⟨m0,acc0,hD0,w0⟩,turn⟩:=h2;subst e;have stat:∀{H':Hp},(∀b∈fp,H' b=none)->∀b∈fp,dS Y Qz H' b:=λhn b hb=>⟨hn b hb,(f2 b hb).2⟩
 refine Ld (wpAny_runOwn ?_);have loop:codeAny (model Y.prog Y.w) (Y.A.mark none) (.compLoop (.ListComp elt [⟨tg,iter,ifs,0⟩,⟨tg1,iter1,ifs1,0⟩] scope pos) 1 (.ref it) (.ref D) Y.env) (λr s'=>match r with | .ok f=>Qm (model Y.prog Y.w) Y.A k R E s' | .error e=>cameBackBy (model Y.prog Y.w) Y.A Y.env E e s') s2:=by
  refine DG (A:=Y.A) (λn s'=>∃i O' acc H',Inv Y Qz O' H' s'/\tn i s'.heap/\(∀b∈fp,H' b=none)/\H' D=some (.lst acc)/\W i n O' acc H') (Az ..) ?_ m0 ⟨0,O,acc0,H2,I2,st2,λb hb=>(f2 b hb).1,hD0,w0⟩;rintro n s5 ⟨i,σ5,acc,H5,I5,st5,fr5,hD5,w5⟩;rcases turn i n σ5 acc H5 w5 with ⟨stop,q⟩ | ⟨go,step⟩
  .refine LX (T.done Y rfl rfl rfl hc i Qz s5 σ5 H5 _ I5 (stat fr5) st5 stop) (λr s6 ⟨hr,I6⟩=>?_) λ_ _ z=>z
   subst hr;exact hk s6 σ5 H5 I6 q
  .refine LX (T.item Y rfl rfl rfl hc i Qz s5 σ5 H5 _ I5 (stat fr5) st5 go) (λr s6 ⟨u,hr,h6⟩=>?_) λ_ _ z=>z
   subst hr;refine LX h6 (λ_ s7 ⟨x,H7,I7,r7,y7,st7,fr7⟩=>?_) λ_ _ z=>z
   have I7':=I7.pinned (stat fr7) (T.obj _ _ st7);have keepI:∀{s':PV} {O':St} {H':Hp},Inv Y (Qz++ff fp s7.heap) O' H' s'->tn (i+1) s'.heap/\∀b∈fp,H' b=none:=λ{s' O' H'} I'=>by refine⟨T.keep _ _ _ st7 λb hb o e=>(I'.pin (b,o) (LA _ (LA _ (R9 hb e)))).1,λb hb=>?_⟩;obtain⟨o,e,d⟩:=T.obj _ _ st7 b hb;exact(I'.pin (b,o) (LA _ (LA _ (R9 hb e)))).2.1
   refine LX (hg _ s7 σ5 H7 x u _ I7' r7 (step x H7 y7)) (λ_ s8 ⟨σ8,H8,I8,q8⟩=>?_) λ_ _ z=>hxe z
   refine LX (ht _ s8 σ8 H8 _ I8 q8) (λok s9 ⟨H9,I9,q9⟩=>?_) λ_ _ z=>hxe z
   cases ok with
   | false =>have q9:H9 D=some (.lst acc)/\∃m',m'<n/\W (i+1) m' σ8 acc H9:=q9;obtain⟨hD9,m',hm,w9⟩:=q9;obtain⟨k1,k2⟩:=keepI I9;exact⟨m',hm,i+1,σ8,acc,H9,I9.unpinned,k1,k2,hD9,w9⟩
   | true =>show Qm _ _ (nq elt (.ref D) Y.env) _ _ _;unfold nq;refine Ld (LX (he _ s9 σ8 H9 _ I9 q9) (λyv s10 ⟨y,H10,I10,r10,hD10,hz,m',hm,w10⟩=>?_) λ_ _ z=>hxe z);refine Ld (LX (M9 (X:=Y) _ s10 σ8 H10 (.ref D) [y] (.ref D) [yv] (λ_ H'=>H'=upd H10 D (.lst (acc++[y]))) I10 rfl (.cons r10 .nil) ⟨D,acc,y,rfl,rfl,hD10,hz,rfl⟩) (λ_ s11 ⟨_,H11,I11,_,e11⟩=>Lo ?_) λ_ _ z=>hxe z);subst e11;obtain⟨k1,k2⟩:=keepI I11;exact⟨m',hm,i+1,σ8,acc++[y],_,I11.unpinned,k1,k2,d7,w10⟩
 exact wI loop (T.self _ 0 _ _ _ st2 loop)
end
section
def tD {X:Cx}{tg tg1 iter1:Qd}{osc:Qa}{N:List Str}{k:Nat}{cap:List Nat}{g:TG}{tt:TT}{tm:TM}{cl:List (Str×PU)}
  {Qz:List (PU×Qi)} {O:St} {H3:Hp} {s3:PV} {D it:PU} {fp:List PU} {tn:Nat->Qe->Prop} {J:It} {Q:VK} {W:Nat->Nat->St->Hp->Prop} {m0:Nat}
  (hc:X.calm=true) (hosc:X.env.scope=osc) (hcap:Caps X.N osc N k cap scope)
  (hcl:∀{x:Str} {c:PU},cl.lookup x=some c->X.env.cells.lookup x=some c) (hhas:∀x,(x,Qw.free)∈scope.names->∃c,cl.lookup x=some c)
  (hg:∀cl C ex Qz s H,PG (cxC X N scope cl C ex Qz s H) tg g)
  (ht:∀cl C ex Qz s H,PTs (cxC X N scope cl C ex Qz s H) ifs tt)
  (he:∀cl C ex Qz s H,PM (cxC X N scope cl C ex Qz s H) (rm (.ListComp elt [⟨tg,iter,ifs,0⟩,⟨tg1,iter1,ifs1,0⟩] scope pos) iter1 (.ref D) (cxC X N scope cl C ex Qz s H).env) tm)
  (I3:Inv X Qz O H3 s3) (T:Turn X.prog X.w X.K tg J fp it tn) (st:tn 0 s3.heap) (f3:∀b∈fp,dS X Qz H3 b) (w0:W 0 m0 (dk k cap O) H3)
  (turn:∀i m O' H',W i m O' H'->(J.stop i H'/\Q (.ref D) H') \/
   (J.go i H'/\∀x H2,J.yld i H' x H2->g x O' H2 λσ2 H3=>tt σ2 H3 λok H4=>if ok=true then tm σ2 H4 λσ3 H5=>∃m',m'<m/\W (i+1) m' σ3 H5 else ∃m',m'<m/\W (i+1) m' σ2 H4)) :
  Qm (model X.prog X.w) X.A (newFunctionEnv scope X.env.globals cl [] X.env.qual none .none (some X.env)) (λcenv s₄ =>
   codeAny (model X.prog X.w) X.A (.compStart (.ListComp elt [⟨tg,iter,ifs,0⟩,⟨tg1,iter1,ifs1,0⟩] scope pos) 0 (.ref it) (.ref D) { cenv with scope:=relabel scope X.env }) (compPost (model X.prog X.w) X.A X.xe none (EP X Qz O Q) (.ref D) cenv.locals) s₄) X.xe s3:=by
 refine lP (P:=λC=>compPost (model X.prog X.w) X.A X.xe none (EP X Qz O Q) (.ref D) C) (Qs:=Q (.ref D)) (W:=W) (λenv=>xj ..) hc hosc hcap hcl hhas hg ht I3 T st f3 w0 (λs6 σ5 H5 I6 I7 q=>?_) λi m O' H' w=>?_
 .obtain⟨m,hn,_⟩:=id I6.loc;refine⟨m,hn,λh' hsb=>?_⟩;obtain⟨g0,g1,g2,g3,g4,g5⟩:=I3.fpOk (H':=H5) (b:=s3.heap.objs.size) (Ln _) I6.free;exact⟨.ref D,H5,I7.turned (t':=s6.toks) (λb o hb e=>(hsb.2 b hb).trans e) g0 g1 g3 g4 g5,rfl,q⟩
 .rcases turn i m O' H' w with h | ⟨go,step⟩
  .exact .inl h
  .exact .inr ⟨go,_,step,λσ2 H4 h=>h,λpins' s σ2 H4 I h k R E hk=>he _ _ _ _ _ _ _ s σ2 H4 _ I h k R E hk⟩
def Dw (wi:TI)(k:Nat)(cap:List Nat)(g:TG)(tt:TT)(wi1:TI)(g1:TG)(tt1:TT)(te:TE):TE:=λO H Q=>wi O H λJ H1=>∀D,H1 D=none ->
 ∃W:Nat->Nat->St->Hp->Prop,(∃m,W 0 m (dk k cap O) (upd H1 D (.lst [])))/\∀i m O' H',W i m O' H' ->
  (J.stop i H'/\Q (.ref D) H') \/
  (J.go i H'/\∀x H2,J.yld i H' x H2->g x O' H2 λσ2 H3=>tt σ2 H3 λok H4=>if ok=true then tIn wi1 g1 tt1 te D σ2 H4 λσ3 H5=>∃m',m'<m/\W (i+1) m' σ3 H5 else ∃m',m'<m/\W (i+1) m' σ2 H4)
def BR {X:Cx}{tg tg1 iter1:Qd}{osc:Qa}{N:List Str}{k:Nat}{cap:List Nat}{wi:TI}{g:TG}{tt:TT}{wi1:TI}{g1:TG}{tt1:TT}{te:TE}
  (hc:X.calm=true) (hosc:X.env.scope=osc) (hcap:Caps X.N osc N k cap scope) (hi:PI X tg iter wi)
  (hg:∀cl C ex Qz s H,PG (cxC X N scope cl C ex Qz s H) tg g)
  (ht:∀cl C ex Qz s H,PTs (cxC X N scope cl C ex Qz s H) ifs tt)
  (hi1:∀cl C ex Qz s H,PI (cxC X N scope cl C ex Qz s H) tg1 iter1 wi1)
  (hg1:∀cl C ex Qz s H,PG (cxC X N scope cl C ex Qz s H) tg1 g1)
  (ht1:∀cl C ex Qz s H,PTs (cxC X N scope cl C ex Qz s H) ifs1 tt1)
  (he:∀cl C ex Qz s H,PE (cxC X N scope cl C ex Qz s H) elt te)
  (hs1:∀cl C ex Qz s H x,Qr iter1 (cxC X N scope cl C ex Qz s H).env x=pure x:=by intros;rfl)
  (hs:∀x,Qr iter X.env x=pure x:=by intro _;rfl) :
  PE X (.ListComp elt [⟨tg,iter,ifs,0⟩,⟨tg1,iter1,ifs1,0⟩] scope pos) (Dw wi k cap g tt wi1 g1 tt1 te):=by
 walk_at "kb"
 exact tD hc hosc hcap hcl hhas hg ht (λcl C ex Qz s H=>Fj (Y:=cxC X N scope cl C ex Qz s H) rfl hc (hi1 cl C ex Qz s H) (hg1 cl C ex Qz s H) (ht1 cl C ex Qz s H) (he cl C ex Qz s H) (hs1 cl C ex Qz s H)) I3 T (T.keep _ _ (s2.heap.push { cls:=.type "list",data:=.seq ([]:List PR).toArray }) st2 λb _ o e=>Ll _ e) (λb hb=>⟨by rw[b9 (lt2 b hb)];exact(f2 b hb).1,(f2 b hb).2⟩) w0 turn
end
end L2
namespace L3
open PySem PySem.Spec PyProof.Rows L2
variable {bd1:My->DE->Option DE}
section
section
variable [Feeds]
variable {K:Qf}{X:Cx}{tg iter tg1 iter1 elt:Qd}{te:TE}{pos:Pos}
def qF (bd:My->DE->Option DE)(mt:DE->M Bool)(me:DE->M My):List My->DE->M (List My×DE)
 | [],E,F=>some (([],E),F)
 | d::r,E,F=>(bd d E).bind λE1=>(mt E1 F).bind λp=>if p.1=true then(me E1 p.2).bind λy=>(qF bd mt me r E1 y.2).bind λz=>some ((y.1::z.1.1,z.1.2),z.2) else qF bd mt me r E1 p.2
def iP (bd:My->DE->Option DE)(mt:DE->M Bool)(mi1:DE->M (List My))(bd1:My->DE->Option DE)(mt1:DE->M Bool)(me:DE->M My):List My->DE->M (List My)
 | [],_,F=>some ([],F)
 | d::r,E,F=>(bd d E).bind λE1=>(mt E1 F).bind λp=>if p.1=true then(mi1 E1 p.2).bind λits=>(qF bd1 mt1 me its.1 E1 its.2).bind λz=>(iP bd mt mi1 bd1 mt1 me r z.1.2 z.2).bind λw=>some (z.1.1++w.1,w.2) else iP bd mt mi1 bd1 mt1 me r E1 p.2
def BE (mi:DE->M (List My))(k:Nat)(cap:List Nat)(bd:My->DE->Option DE)(mt:DE->M Bool)(mi1:DE->M (List My))(bd1:My->DE->Option DE)(mt1:DE->M Bool)(me:DE->M My):DE->M My:=λE F =>
 (mi E F).bind λp=>(iP bd mt mi1 bd1 mt1 me p.1 (iM k cap E) p.2).bind λz=>if z.1.length<=Qg then some (.list z.1,z.2) else none
def EK {wi wi1:TI}{mi mi1:DE->M (List My)}{k:Nat}{cap:List Nat}{g g1:TG}{bd:My->DE->Option DE}{tt tt1:TT}{mt mt1:DE->M Bool}{me:DE->M My}(hi:TIs K wi mi)(hg:TGd K g bd)(ht:TTd K tt mt)
  (hi1:TId K wi1 mi1) (hg1:TGd K g1 bd1) (ht1:TTd K tt1 mt1) (he:TEd K te me):TEd K (Dw wi k cap g tt wi1 g1 tt1 te) (BE mi k cap bd mt mi1 bd1 mt1 me):=λG B E F O H Q d F' I e q=>by
 obtain⟨⟨items,F1⟩,e1,e⟩:=bS9 e;obtain⟨⟨whole,F2⟩,e2,e⟩:=bS9 e;split at e
 .rename_i hsz;cases e;have hsz:whole.length<=Qg:=hsz;refine hi G B E F O H _ items F1 I e1 λJ H1 k1 f1 ok D hD=>?_
  have I1:SitE K G B E F1 O H1:=I.step k1 f1;have hBD:D ∉ B:=I1.bk.nin hD;have hfD:D ∉ u4 K G:=λz=>hBD (I.fB D z)
  have stab:∀{H':Hp},Kp (u4 K G) H1 H'->Kp (u4 K G) H1 H'/\h8 (hid H1 B) (hid H' (D::B)):=λ{H'} k=>⟨k,λb o eb=>by
   by_cases hb:b∈B
   .rw[D2 hb]at eb;cases eb
   .rw[i6 hb]at eb;rw[i6 (by
     intro z;rcases Lh.1 z with rfl | z
     .rw[hD]at eb;cases eb
     .exact hb z)]
    exact k b o eb λz=>hb (I.fB b z)⟩
  obtain⟨W,hW⟩:∃W:Nat->Nat->St->Hp->Prop,W = λi m O' H'=>m=items.length-i/\i<=items.length/\∃E F done rest acc,SitE K G (D::B) E F O' H'/\H' D=some (.lst acc)/\Kp (u4 K G) H1 H'/\(∀(j:Nat) (ds:List My),E[j]? = some (some (DV.own ds))->O'[j]? ≠ some (some (V.ref D)))/\b7 K (hid H' (D::B)) done acc/\iP bd mt mi1 bd1 mt1 me (items.drop i) E F=some (rest,F2)/\whole=done++rest:=⟨_,rfl⟩
  have w0:W 0 items.length (dk k cap O) (upd H1 D (.lst [])):=by rw[hW];refine⟨by simp,Mb _,iM k cap E,F1,[],whole,[],(I1.cap k cap).more hD,d7,Kp.upd hD,λj ds ej z=>?_,b7.nil,e2,rfl⟩;obtain⟨v,v1,a,xs,rfl,_,_,ha,_⟩:=(I1.cap k cap).loc j _ ej;rw[v1]at z;cases z;rw[hD]at ha;cases ha
  refine⟨W,⟨_,w0⟩,λi m O' H' w=>?_⟩;have wn:∀{i m O' H'},(m=items.length-i/\i<=items.length/\∃E F done rest acc,SitE K G (D::B) E F O' H'/\H' D=some (.lst acc)/\Kp (u4 K G) H1 H'/\(∀(j:Nat) (ds:List My),E[j]? = some (some (DV.own ds))->O'[j]? ≠ some (some (V.ref D)))/\b7 K (hid H' (D::B)) done acc/\iP bd mt mi1 bd1 mt1 me (items.drop i) E F=some (rest,F2)/\whole=done++rest)->W i m O' H':=λh=>by rw[hW];exact h
  rw[hW]at w;clear hW w0;obtain⟨rfl,hil,E',F3,done,rest,acc,I2,hD2,k2,ow,hd2,e3,ew⟩:=w;by_cases hlt:i<items.length
  .refine .inr ⟨((ok H' (D::B) (stab k2)).1 i items[i] (by simp[hlt])).1,λx H2 y=>?_⟩;obtain⟨s2,hx⟩:=((ok H' (D::B) (stab k2)).1 i items[i] (by simp[hlt])).2 x H2 y;have hx':=hx I2.bk;rw[Nd hlt,iP]at e3;obtain⟨E4,e4,e3⟩:=bS9 e3;obtain⟨⟨b,F5⟩,e5,e3⟩:=bS9 e3;have I3:SitE K G (D::B) E' F3 O' H2:=I2.step (Kp.same s2) (I2.fd.same s2);refine hg G (D::B) E' F3 O' H2 x items[i] E4 _ I3 hx' e4 λσ4 I4 fr=>?_
   have ow4:∀(j:Nat) (ds:List My),E4[j]? = some (some (DV.own ds))->σ4[j]? ≠ some (some (V.ref D)):=λj ds ej=>by
    obtain⟨a1,a2⟩:=fr j λy z=>by rw[ej]at z;cases z
    rw[a2];exact ow j ds (a1▸ej)
   refine ht G (D::B) E4 F3 σ4 H2 _ b F5 I4 e5 λH5 k5 f5=>?_
   have kall:Kp (u4 K G) H1 H5:=(k2.trans (Kp.same s2)).trans k5;have I5:SitE K G (D::B) E4 F5 σ4 H5:=I4.step k5 f5;have hD5:H5 D=some (.lst acc):=k5 D _ (s2 D _ hD2) hfD;have hd5:b7 K (hid H5 (D::B)) done acc:=(hd2.same ((Kp.same s2).hid (fp:=[]) (by simp))).same (k5.hid I4.fB);cases b with
   | false=>exact⟨items.length-(i+1),by omega,wn ⟨rfl,hlt,E4,F5,done,rest,acc,I5,hD5,kall,ow4,hd5,e3,ew⟩⟩
   | true =>
    obtain⟨⟨its,F6⟩,e6,e3⟩:=bS9 e3;obtain⟨⟨⟨zs,Ez⟩,F7⟩,e7,e3⟩:=bS9 e3;obtain⟨⟨ws,F8⟩,e8,e3⟩:=bS9 e3;cases e3;refine hi1 G (D::B) E4 F5 σ4 H5 _ its F6 I5 e6 λJ1 H6 k6 f6 ok1=>?_
    have I6:SitE K G (D::B) E4 F6 σ4 H6:=I5.step k6 f6;have hD6:H6 D=some (.lst acc):=k6 D _ hD5 hfD;obtain⟨V5,hV⟩:∃V5:Nat->Nat->St->List V->Hp->Prop,V5 = λj n σ5 acc5 H7=>n=its.length-j/\j<=its.length/\∃E F done' rest',SitE K G (D::B) E F σ5 H7/\H7 D=some (.lst acc5)/\Kp (u4 K G) H1 H7/\h8 (hid H6 (D::B)) (hid H7 (D::B))/\(∀(j:Nat) (ds:List My),E[j]? = some (some (DV.own ds))->σ5[j]? ≠ some (some (V.ref D)))/\b7 K (hid H7 (D::B)) done' acc5/\qF bd1 mt1 me (its.drop j) E F=some ((rest',Ez),F7)/\whole=done'++rest'++ws:=⟨_,rfl⟩
    have v0:V5 0 its.length σ4 acc H6:=by rw[hV];exact⟨by simp,Mb _,E4,F6,done,zs,I6,hD6,kall.trans k6,λ_ _ z=>z,ow4,hd5.same (k6.hid I5.fB),e7,by rw[ew,PB]⟩
    refine⟨V5,⟨its.length,acc,hD6,v0⟩,λj n σ5 acc5 H7 w=>?_⟩;have vn:∀{j n σ5 acc5 H7},(n=its.length-j/\j<=its.length/\∃E F done' rest',SitE K G (D::B) E F σ5 H7/\H7 D=some (.lst acc5)/\Kp (u4 K G) H1 H7/\h8 (hid H6 (D::B)) (hid H7 (D::B))/\(∀(j:Nat) (ds:List My),E[j]? = some (some (DV.own ds))->σ5[j]? ≠ some (some (V.ref D)))/\b7 K (hid H7 (D::B)) done' acc5/\qF bd1 mt1 me (its.drop j) E F=some ((rest',Ez),F7)/\whole=done'++rest'++ws)->V5 j n σ5 acc5 H7:=λh=>by rw[hV];exact h
    rw[hV]at w;clear hV v0;obtain⟨rfl,hj,E5,F9,done5,rest5,I7,hD7,k7,s7,ow5,hd7,e9,ew9⟩:=w;by_cases hjl:j<its.length
    .refine .inr ⟨((ok1 H7 (D::B) s7).1 j its[j] (by simp[hjl])).1,λx1 H8 y1=>?_⟩;obtain⟨s8,hx8⟩:=((ok1 H7 (D::B) s7).1 j its[j] (by simp[hjl])).2 x1 H8 y1;have hx8':=hx8 I7.bk;rw[Nd hjl,qF]at e9;obtain⟨Ea,ea,e9⟩:=bS9 e9;obtain⟨⟨bb,Fb⟩,eb,e9⟩:=bS9 e9;have I8:SitE K G (D::B) E5 F9 σ5 H8:=I7.step (Kp.same s8) (I7.fd.same s8);refine hg1 G (D::B) E5 F9 σ5 H8 x1 its[j] Ea _ I8 hx8' ea λσa Ia fra=>?_
     have owa:∀(j:Nat) (ds:List My),Ea[j]? = some (some (DV.own ds))->σa[j]? ≠ some (some (V.ref D)):=λj ds ej=>by
      obtain⟨a1,a2⟩:=fra j λy z=>by rw[ej]at z;cases z
      rw[a2];exact ow5 j ds (a1▸ej)
     refine ht1 G (D::B) Ea F9 σa H8 _ bb Fb Ia eb λHb kb fb=>?_
     have kallb:Kp (u4 K G) H1 Hb:=(k7.trans (Kp.same s8)).trans kb;have Ib:SitE K G (D::B) Ea Fb σa Hb:=Ia.step kb fb;have hDb:Hb D=some (.lst acc5):=kb D _ (s8 D _ hD7) hfD;have s78:h8 (hid H7 (D::B)) (hid H8 (D::B)):=(Kp.same s8).hid (fp:=[]) (by simp);have s8b:h8 (hid H8 (D::B)) (hid Hb (D::B)):=kb.hid Ia.fB;have hdb:b7 K (hid Hb (D::B)) done5 acc5:=(hd7.same s78).same s8b;have s6b:h8 (hid H6 (D::B)) (hid Hb (D::B)):=λb o z=>s8b b o (s78 b o (s7 b o z))
     cases bb with
     | false=>exact⟨hDb,its.length-(j+1),by omega,vn ⟨rfl,hjl,Ea,Fb,done5,rest5,Ib,hDb,kallb,s6b,owa,hdb,e9,ew9⟩⟩
     | true =>
      obtain⟨⟨yd,Fc⟩,ec,e9⟩:=bS9 e9;obtain⟨⟨⟨zs',Ez'⟩,Fd⟩,ed,e9⟩:=bS9 e9;cases e9;refine he G (D::B) Ea Fb σa Hb _ yd Fc Ib ec λv Hc kc fc hc=>?_
      have hDc:Hc D=some (.lst acc5):=kc D _ hDb hfD;have Ic:SitE K G (D::B) Ea Fc σa Hc:=Ib.step kc fc;have hdc:=hdb.same (kc.hid Ib.fB);have hlen:acc5.length<Qg:=by have h1:=hd7.length;have h2:=MF List.length ew9;simp only[Mp,Ly]at h2;omega
      refine⟨hDc,hlen,its.length-(j+1),by omega,vn ⟨rfl,hjl,Ea,Fc,done5++[yd],zs',Ic.wr hfD owa hDc,d7,λb o eb nb=>?_,?_,owa,?_,ed,by rw[ew9];simp⟩⟩
      .have:=kc b o (kallb b o eb nb) nb;rw[b9];exact this;intro z;subst z;rw[hD]at eb;cases eb
      .rw[X9 Lq];exact λb o z=>kc.hid Ib.fB b o (s6b b o z)
      .rw[X9 Lq];exact hdc.snoc hc
    .have hje:j=its.length:=by omega
     subst hje;rw[NT,qF]at e9;cases e9;rw[Mh]at ew9;exact .inl ⟨(ok1 H7 (D::B) s7).2,items.length-(i+1),by omega,wn ⟨rfl,hlt,_,_,done5,ws,acc5,I7,hD7,k7,ow5,hd7,e8,ew9⟩⟩
  .have hie:i=items.length:=by omega
   subst hie;rw[NT,iP]at e3;cases e3;rw[Mh]at ew;subst ew;exact .inl ⟨(ok H' (D::B) (stab k2)).2,q _ H' (k1.trans k2) I2.fd (b8.lst (by rw[i6 hBD];exact hD2) (hd2.same (N3 λb hb=>Le _ hb)))⟩
 .cases e
def CZ {ifs ifs1:List Qd}{scope osc:Qa}{N:List Str}{k:Nat}{cap:List Nat}{wi wi1:TI}{g g1:TG}{tt tt1:TT}{mi mi1:DE->M (List My)}{bd:My->DE->Option DE}{mt mt1:DE->M Bool}{me:DE->M My}
  (hc:X.calm=true) (hosc:X.env.scope=osc) (hcap:Caps X.N osc N k cap scope) (hi:Eib K X tg iter wi mi)
  (hg:∀cl C ex Qz s H,Eg K (cxC X N scope cl C ex Qz s H) tg g bd)
  (ht:∀cl C ex Qz s H,Ets K (cxC X N scope cl C ex Qz s H) ifs tt mt)
  (hi1:∀cl C ex Qz s H,Ei K (cxC X N scope cl C ex Qz s H) tg1 iter1 wi1 mi1)
  (hg1:∀cl C ex Qz s H,Eg K (cxC X N scope cl C ex Qz s H) tg1 g1 bd1)
  (ht1:∀cl C ex Qz s H,Ets K (cxC X N scope cl C ex Qz s H) ifs1 tt1 mt1)
  (he:∀cl C ex Qz s H,Ev K (cxC X N scope cl C ex Qz s H) elt te me)
  (hs1:∀cl C ex Qz s H x,Qr iter1 (cxC X N scope cl C ex Qz s H).env x=pure x:=by intros;rfl)
  (hs:∀x,Qr iter X.env x=pure x:=by intro _;rfl) :
  Ev K X (.ListComp elt [⟨tg,iter,ifs,0⟩,⟨tg1,iter1,ifs1,0⟩] scope pos) (Dw wi k cap g tt wi1 g1 tt1 te) (BE mi k cap bd mt mi1 bd1 mt1 me) :=
 ⟨BR hc hosc hcap hi.pi (λcl C ex Qz s H=>(hg cl C ex Qz s H).pg) (λcl C ex Qz s H=>(ht cl C ex Qz s H).pts) (λcl C ex Qz s H=>(hi1 cl C ex Qz s H).pi) (λcl C ex Qz s H=>(hg1 cl C ex Qz s H).pg) (λcl C ex Qz s H=>(ht1 cl C ex Qz s H).pts) (λcl C ex Qz s H=>(he cl C ex Qz s H).pe) hs1 hs,
  EK hi.ok (hg [] 0 [] [] X.s₀ X.H₀).ok (ht [] 0 [] [] X.s₀ X.H₀).ok (hi1 [] 0 [] [] X.s₀ X.H₀).ok (hg1 [] 0 [] [] X.s₀ X.H₀).ok (ht1 [] 0 [] [] X.s₀ X.H₀).ok (he [] 0 [] [] X.s₀ X.H₀).ok⟩
end
end
section
section
variable [Feeds]
variable {K:Qf}{X:Cx}{st:Qc}{rest:List Qc}{t u:TS}{mt:DE->M Out}{mu:DE->M (List My)}{p pos:Pos}
variable {P:PX}{w:PY}{mg:Str->Option PR}{base:Qe}
def gSq (a:DE->M Out)(b:DE->M (List My)):DE->M (List My):=λE F=>(a E F).bind λp=>match p.1 with
 | .nx E1=>b E1 p.2
 | _=>none
def CY (i:Nat):DE->M (List My):=λE F=>match E[i]? with
 | some (some (.own ds))=>some (ds,F)
 | _=>none
structure SsG (K:Qf) (X:Cx) (sts:List Qc) (ts:TS) (m:DE->M (List My)):Prop where
 ps:PSs X sts ts
 ok:∀(G:GF) (B0:List PU) (H0:Hp) (E:DE) (F:FS) (O:St) (H:Hp) (D:Ends) (ds:List My) (F':FS),Sit K G B0 H0 E F O H->m E F=some (ds,F') ->
  (∀a ws H',H0 a=none->H' a=some (.lst ws)->Kp (u4 K G) H0 H'->FAt K G H' F'->b7 K (hid H' (a::B0)) ds ws->D.rt (.ref a) H')->ts D O H
def DA (i:Nat){x:Str}(hN:X.N[i]? = some x:=by rfl)(hv:Vis X.env.scope x:=by walk_at "v")(hd:(x == ("__debug__":Str))=false:=by decide)
  (hcd:(x == ("__classdict__":Str))=false:=by decide):SsG K X [.Return (some (.Name x p)) pos] (uu (z7 i)) (CY i):=⟨G9 (aR (L7 hN hv hd hcd)),λG B0 H0 E F O H D ds F' S e q=>by
 obtain⟨B,s,sn,I⟩:=S.ex;unfold CY at e;split at e
 .rename_i x hx;cases e;obtain⟨v,h1,p,xs,rfl,hB,hf,hp,hd⟩:=I.loc i _ hx;obtain⟨n1,n2⟩:=S.own i _ p hx h1;exact⟨_,h1,q p xs H n1 hp S.kp I.fd (hd.same (N3 λb hb=>by
   rcases Lh.1 hb with rfl | hb
   .exact hB
   .exact s b hb))⟩
 .cases e⟩
def rY (h1:Ss K X st t mt)(h2:SsG K X rest u mu):SsG K X (st::rest) (U3 t u) (gSq mt mu):=⟨r8 h1.ps h2.ps,λG B0 H0 E F O H D ds F' S e q=>by
 obtain⟨⟨o,F1⟩,e1,e⟩:=bS9 e;refine h1.ok G B0 H0 E F O H _ o F1 S e1 ?_;cases o with
 | nx E1=>exact λO' H' S'=>h2.ok G B0 H0 E1 F1 O' H' D ds F' S' e q
 | rt d=>cases e
 | bk E1=>cases e
 | ct E1=>cases e⟩
end
end
end L3
namespace L2
open PySem PySem.Spec PyProof.Rows
section
variable {X:Cx}{K:Qf}
end
end L2
namespace L3
open PySem PySem.Spec PyProof.Rows L2
section
section
variable [Feeds]{K:Qf}{X:Cx}
end
end
section
section
variable [Feeds]
variable {K:Qf}{X:Cx}{e:Qd}{es:List Qd}{p pos:Pos}
end
end
section
section
variable [Feeds]
variable {K:Qf}{X:Cx}{e:Qd}{te:TE}{m:DE->M My}{p pos:Pos}
end
end
end L3
namespace L3
open PySem PySem.Spec PyProof.Rows L2 PySem.SeqAt
section
variable [Feeds]{K:Qf}{X:Cx}
end
end L3
namespace L3
open PySem PySem.Spec PyProof.Rows L2
section
section
variable {prog:PX}{w:PY}{A:PZ}{E:PR->PV->Prop}{s:PV}
variable {b1 b2 f:Bool}{z TI TO T0 i1 i2 l1 l2:PU}{k:Nat}{xs ys:Array PR}{x y a b:PR}{oT:Qi}
end
end
variable {pos:Pos}
section
section
variable {X:Cx}{K:Qf}{p p2 pos2:Pos}
end
section
variable [Feeds]{X:Cx}{K:Qf}{p p2 pos2:Pos}{e1 e2:Qd}{te1 te2:TE}{m1 m2:DE->M My}
end
end
section
section
variable {prog:PX}{w:PY}{A:PZ}{E:PR->PV->Prop}{s:PV}
end
section
variable [Feeds]{K:Qf}{X:Cx}{tg e1 e2:Qd}{te1 te2:TE}{m1 m2:DE->M My}{p tp:Pos}{es:List Qd}{tk:Nat}
end
end
variable {γ:Type}{args:List DV}{o:Option (Option DV)}
section
variable [Fam]
def wp {α O:Type}(m:Option (α × O))(Q:α->O->Prop):Prop:=∃a F',m=some (a,F')/\Q a F'
section
variable {α β O τ:Type}{Q:α->O->Prop}
def c9 {a:α}{F:O}:wp (some (a,F)) Q↔Q a F:=⟨λ⟨_,_,e,q⟩=>by cases e;exact q,λq=>⟨_,_,rfl,q⟩⟩
def D1 :wp (none:Option (α × O)) Q↔False:=⟨λ⟨_,_,e,_⟩=>(by cases e),False.elim⟩
def d5 {x:Option (β × τ)}{f:β × τ->Option (α × O)}:wp (x.bind f) Q↔wp x λa F'=>wp (f (a,F')) Q:=by
 constructor
 .rintro ⟨a,F',e,q⟩;obtain⟨⟨b,F1⟩,e1,e2⟩:=bS9 e;exact⟨b,F1,e1,a,F',e2,q⟩
 .rintro ⟨b,F1,e1,a,F',e2,q⟩;exact⟨a,F',by rw[e1];exact e2,q⟩
def G4 {o:Option γ}{f:γ->Option (α × O)}:wp (o.bind f) Q↔∃z,o=some z/\wp (f z) Q:=by
 constructor
 .rintro ⟨a,F',e,q⟩;obtain⟨z,e1,e2⟩:=bS9 e;exact⟨z,e1,a,F',e2,q⟩
 .rintro ⟨z,e1,a,F',e2,q⟩;exact⟨a,F',by rw[e1];exact e2,q⟩
def jq {c:Prop}[Decidable c]{a b:Option (α × O)}:wp (if c then a else b) Q↔if c then wp a Q else wp b Q:=by split <;> rfl
def i8 {m:Option (α × O)}{Q':α->O->Prop}(h:wp m Q)(hq:∀a F,Q a F->Q' a F):wp m Q':=by obtain⟨a,F,e,q⟩:=h;exact⟨a,F,e,hq a F q⟩
def J7 {m:Option (α × O)}{Q':α->O->Prop}(h:∀a F,Q a F↔Q' a F):wp m Q↔wp m Q':=⟨λz=>i8 z λa F q=>(h a F).1 q,λz=>i8 z λa F q=>(h a F).2 q⟩
def sd {z:γ}{P:γ->Prop}:(∃y,some z=some y/\P y)↔P z:=⟨λ⟨_,e,p⟩=>by cases e;exact p,λp=>⟨_,rfl,p⟩⟩
def K7 {m:Int}{F:FdS}{Q:My->FdS->Prop}(h0:0<m)(h1:m<1073741824)(h2:F.t<199999)(q:∀r F',0<=r->r<m->F'.t=F.t+1->Q (.int r) F'):wp (C6 [.feed,.dat (.int m)] F) Q:=by obtain⟨r,F',e,r0,r1,ht⟩:=Fam.draw_some h0 h1 h2;exact⟨.int r,F',by show(Fam.drawF m F).bind _=_;rw[e];rfl,q r F' r0 r1 ht⟩
end
def gD (o:Option (Option DV))(P:My->Prop):Prop:=match o with
 | some (some (.dat d))=>P d
 | _=>False
def gW (o:Option (Option DV))(P:My->Prop):Prop:=match o with
 | some (some (.dat d))=>P d
 | some (some (.own ds))=>P (.list ds)
 | _=>False
def gF (o:Option (Option DV))(P:Prop):Prop:=match o with
 | some (some .feed)=>P
 | _=>False
def oB (o:Option γ)(P:γ->Prop):Prop:=∃z,o=some z/\P z
def cIf (c:Bool)(A B:Prop):Prop:=if c=true then A else B
def cz {A B:Prop}:cIf true A B↔A:=by simp[cIf]
def T5 {A B:Prop}:cIf false A B↔B:=by simp[cIf]
def V0 {c:Bool}{A B:Prop}(h1:c=true->A)(h2:c=false->B):cIf c A B:=by
 cases c
 .exact T5.2 (h2 rfl)
 .exact cz.2 (h1 rfl)
section
variable [Feeds]{E:DE}{F:FS}
def u6 {d:My}{Q:My->FS->Prop}:wp (sC d E F) Q↔Q d F:=c9
def v5 {i:Nat}{Q:My->FS->Prop}:wp (sV i E F) Q↔gD E[i]? λd=>Q d F:=by
 unfold sV gD;generalize E[i]? = o;rcases o with _ | _ | x
 .exact D1
 .exact D1
 .cases x <;> first | exact c9 | exact D1
def l6 {i:Nat}{Q:My->FS->Prop}:wp (sW i E F) Q↔gW E[i]? λd=>Q d F:=by
 unfold sW gW;generalize E[i]? = o;rcases o with _ | _ | x
 .exact D1
 .exact D1
 .cases x <;> first | exact c9 | exact D1
def CW {f:My->Option My}{a:DE->M My}{Q:My->FS->Prop}:wp (s1 f a E F) Q↔wp (a E F) λx F1=>oB (f x) λz=>Q z F1:=by unfold s1;rw[d5];simp only[G4,c9,oB]
def u7 {f:My->My->Option My}{a b:DE->M My}{Q:My->FS->Prop}:wp (s2 f a b E F) Q↔wp (a E F) λx F1=>wp (b E F1) λy F2=>oB (f x y) λz=>Q z F2:=by unfold s2;rw[d5];refine J7 λx F1=>?_;rw[d5];refine J7 λy F2=>?_;simp only[G4,c9,oB]
def M2 {f:List My->Option My}{a:DE->M (List My)}{Q:My->FS->Prop}:wp (sN f a E F) Q↔wp (a E F) λx F1=>oB (f x) λz=>Q z F1:=by unfold sN;rw[d5];simp only[G4,c9,oB]
def f9 {Q:List My->FS->Prop}:wp (i7 E F) Q↔Q [] F:=c9
def c6 {a:DE->M My}{r:DE->M (List My)}{Q:List My->FS->Prop}:wp (c7 a r E F) Q↔wp (a E F) λx F1=>wp (r E F1) λxs F2=>Q (x::xs) F2:=by unfold c7;rw[d5];simp only[d5,c9]
def L8 {a:DE->M (List My)}{Q:My->FS->Prop}:wp (P2 a E F) Q↔wp (a E F) λxs F1=>xs.length<=Qg/\Q (.tuple xs) F1:=by
 unfold P2;rw[d5];constructor
 .exact λh=>i8 h λxs F1 h=>by
   split at h
   .rename_i hl;exact⟨hl,c9.1 h⟩
   .exact(D1.1 h).elim
 .exact λh=>i8 h λxs F1 h=>by rw[Lg h.1];exact c9.2 h.2
def lT {a:DE->M (List My)}{Q:My->FS->Prop}:wp (pU a E F) Q↔wp (a E F) λxs F1=>xs.length<=Qg/\Q (.list xs) F1:=by
 unfold pU;rw[d5];constructor
 .exact λh=>i8 h λxs F1 h=>by
   split at h
   .rename_i hl;exact⟨hl,c9.1 h⟩
   .exact(D1.1 h).elim
 .exact λh=>i8 h λxs F1 h=>by rw[Lg h.1];exact c9.2 h.2
def A4 {Q:List DV->FS->Prop}:wp (B9 E F) Q↔Q [] F:=c9
def E3 {a:DE->M My}{r:DE->M (List DV)}{Q:List DV->FS->Prop}:wp (vD a r E F) Q↔wp (a E F) λx F1=>wp (r E F1) λxs F2=>Q (.dat x::xs) F2:=by unfold vD;rw[d5];simp only[d5,c9]
def ji {i:Nat}{r:DE->M (List DV)}{Q:List DV->FS->Prop}:wp (vF i r E F) Q↔gF E[i]? (wp (r E F) λxs F2=>Q (.feed::xs) F2):=by
 unfold vF gF;generalize E[i]? = o;rcases o with _ | _ | x
 .exact D1
 .exact D1
 .cases x with
  | feed=>exact d5.trans (J7 λ_ _=>c9)
  | _=>exact D1
def v4 {f:List DV->M My}{ms:DE->M (List DV)}{Q:My->FS->Prop}:wp (t8 f ms E F) Q↔wp (ms E F) λxs F1=>wp (f xs F1) Q:=by unfold t8;rw[d5]
def xN {a:DE->M My}{l u:DE->M (Option Int)}{Q:My->FS->Prop}:wp (pK a l u E F) Q↔wp (a E F) λx F1=>wp (l E F1) λlo F2=>wp (u E F2) λhi F3=>oB (uO lo hi x) λz=>Q z F3:=by unfold pK;rw[d5];refine J7 λx F1=>?_;rw[d5];refine J7 λy F2=>?_;rw[d5];refine J7 λy F2=>?_;simp only[G4,c9,oB]
def xt {Q:Option Int->FS->Prop}:wp (oNo E F) Q↔Q none F:=c9
def BV {a:DE->M My}{Q:Option Int->FS->Prop}:wp (oI a E F) Q↔wp (a E F) λx F1=>oB (gp x) λi=>Q (some i) F1:=by unfold oI;rw[d5];simp only[G4,c9,oB]
def qe {a b:DE->M My}{Q:My->FS->Prop}:wp (pG a b E F) Q↔wp (a E F) λx F1=>oB (bu x) λc=>cIf c (wp (b E F1) Q) (Q (.bool false) F1):=by unfold pG;rw[d5];simp only[G4,jq,c9,oB,cIf]
def ip {c:DE->M Bool}{a b:DE->M My}{Q:My->FS->Prop}:wp (sIf c a b E F) Q↔wp (c E F) λx F1=>cIf x (wp (a E F1) Q) (wp (b E F1) Q):=by unfold sIf;rw[d5];simp only[jq,cIf]
def V9 {a:DE->M My}{Q:Bool->FS->Prop}:wp (uB a E F) Q↔wp (a E F) λx F1=>oB (bu x) λc=>Q c F1:=by unfold uB;rw[d5];simp only[G4,c9,oB]
def qJ {a:DE->M My}{Q:Bool->FS->Prop}:wp (uT a E F) Q↔wp (a E F) λx F1=>oB (Aq x) λc=>Q c F1:=by unfold uT;rw[d5];simp only[G4,c9,oB]
def wF {a b:DE->M Bool}{Q:Bool->FS->Prop}:wp (zT a b E F) Q↔wp (a E F) λx F1=>cIf x (wp (b E F1) Q) (Q false F1):=by unfold zT;rw[d5];simp only[jq,c9,cIf]
def jY {a b:DE->M Bool}{Q:Bool->FS->Prop}:wp (uOr a b E F) Q↔wp (a E F) λx F1=>cIf x (Q true F1) (wp (b E F1) Q):=by unfold uOr;rw[d5];simp only[jq,c9,cIf]
def qZ {a:DE->M Bool}{Q:Bool->FS->Prop}:wp (uU a E F) Q↔wp (a E F) λx F1=>Q (!x) F1:=by unfold uU;rw[d5];simp only[c9]
def lN {Q:Bool->FS->Prop}:wp (Z3 E F) Q↔Q true F:=c9
def X6 {Q:Out->FS->Prop}:wp (mNx E F) Q↔Q (.nx E) F:=c9
def sqK (b:DE->M Out)(Q:Out->FS->Prop)(o:Out)(F1:FS):Prop:=match o with
  | .nx E1=>wp (b E1 F1) Q
  | o=>Q o F1
def j5 {b:DE->M Out}{Q:Out->FS->Prop}{E1:DE}(h:wp (b E1 F) Q):sqK b Q (.nx E1) F:=h
def wA {b:DE->M Out}{Q:Out->FS->Prop}{d:My}(h:Q (.rt d) F):sqK b Q (.rt d) F:=h
def Fx {b:DE->M Out}{Q:Out->FS->Prop}{d:DE}(h:Q (.ct d) F):sqK b Q (.ct d) F:=h
def k9 {a b:DE->M Out}{Q:Out->FS->Prop}:wp (mSq a b E F) Q↔wp (a E F) (sqK b Q):=by
 unfold mSq;rw[d5];refine J7 λo F1=>?_
 cases o with
 | nx E1=>exact Iff.rfl
 | rt d=>exact c9
 | bk d=>exact c9
 | ct d=>exact c9
def aw {a:DE->M My}{Q:Out->FS->Prop}:wp (mRt a E F) Q↔wp (a E F) λx F1=>Q (.rt x) F1:=by unfold mRt;rw[d5];simp only[c9]
def x4 {i:Nat}{a:DE->M My}{Q:Out->FS->Prop}:wp (C5 i a E F) Q↔wp (a E F) λx F1=>i<E.length/\Q (.nx (E.set i (some (.dat x)))) F1:=by
 unfold C5;rw[d5];refine J7 λx F1=>?_
 unfold bN;by_cases h:i<E.length
 .rw[Lg h];simp only[G4,c9,sd,h,true_and]
 .rw[Lk h];simp only[G4,h,false_and];exact⟨λ⟨_,e,_⟩=>(by cases e),False.elim⟩
def aI {bd:My->DE->Option DE}{a:DE->M My}{Q:Out->FS->Prop}:wp (bQ bd a E F) Q↔wp (a E F) λx F1=>oB (bd x E) λE1=>Q (.nx E1) F1:=by unfold bQ;rw[d5];simp only[G4,c9,oB]
def U9 {c:DE->M Bool}{a b:DE->M Out}{Q:Out->FS->Prop}:wp (mIf c a b E F) Q↔wp (c E F) λx F1=>cIf x (wp (a E F1) Q) (wp (b E F1) Q):=by unfold mIf;rw[d5];simp only[jq,cIf]
def fw {i:Nat}{a:DE->M (List My)}{Q:Out->FS->Prop}:wp (gB i a E F) Q↔wp (a E F) λx F1=>i<E.length/\Q (.nx (E.set i (some (.own x)))) F1:=by
 unfold gB;rw[d5];refine J7 λx F1=>?_
 by_cases h:i<E.length
 .rw[Lg h];simp only[c9,h,true_and]
 .rw[Lk h];simp only[h,false_and];exact D1
def Dy {i:Nat}{v k:DE->M My}{ds:List My}{Q:Out->FS->Prop}(h:E[i]? = some (some (.own ds))):wp (tW i v k E F) Q↔wp (v E F) λx F1=>wp (k E F1) λy F2=>oB (gp y) λn=>oB (ixN ds.length n) λj=>Q (.nx (E.set i (some (.own (ds.set j x))))) F2:=by
 unfold tW;rw[d5];have e:aT E i=some ds:=by unfold aT;rw[h]
 refine J7 λx F1=>?_;rw[d5];refine J7 λy F2=>?_
 simp only[G4,c9,e,sd,oB]
def W7 {mi:DE->M (List My)}{bd:My->DE->Option DE}{body:DE->M Out}{Q:Out->FS->Prop}:wp (aS mi bd body E F) Q↔wp (mi E F) λds F1=>wp (O3 bd body ds E F1) Q:=by unfold aS;rw[d5]
def eP {a:DE->M (List My)}{Q:List My->FS->Prop}:wp (eI a E F) Q↔wp (a E F) λx F1=>oB (U1 x) λds=>Q ds F1:=by unfold eI;rw[d5];simp only[G4,c9,oB]
def P3 {a:DE->M My}{Q:List My->FS->Prop}:wp (R5 a E F) Q↔wp (a E F) λx F1=>oB (ki x) λds=>Q ds F1:=by unfold R5;rw[d5];simp only[G4,c9,oB]
def Z0 {a:DE->M (List My)}{Q:List My->FS->Prop}:wp (cY a E F) Q↔wp (a E F) λx F1=>x.length<=Qg/\Q x F1:=by
 unfold cY;rw[d5];constructor
 .exact λh=>i8 h λxs F1 h=>by
   split at h
   .rename_i hl;exact⟨hl,c9.1 h⟩
   .exact(D1.1 h).elim
 .exact λh=>i8 h λxs F1 h=>by rw[Lg h.1];exact c9.2 h.2
def gh {mi:DE->M (List My)}{k:Nat}{cap:List Nat}{bd:My->DE->Option DE}{mt:DE->M Bool}{me:DE->M My}{Q:My->FS->Prop}:wp (sLC mi k cap bd mt me E F) Q↔wp (mi E F) λds F1=>ds.length<=Qg/\wp (bf bd mt me ds (iM k cap E) F1) λzs F2=>Q (.list zs) F2:=by
 unfold sLC;rw[d5];constructor
 .refine λh=>i8 h λds F1 h=>?_
  dsimp only at h;split at h
  .rename_i hl;rw[d5]at h;exact⟨hl,i8 h λzs F2 h=>c9.1 h⟩
  .exact(D1.1 h).elim
 .refine λh=>i8 h λds F1 h=>?_
  dsimp only;rw[Lg h.1,d5];exact i8 h.2 λzs F2 h=>c9.2 h
def uQ (Q:My->FS->Prop)(o:Out)(F1:FS):Prop:=match o with
  | .rt d=>Q d F1
  | .nx _=>Q .none F1
  | _=>False
def bL {Q:My->FS->Prop}{d:My}(h:Q d F):uQ Q (.rt d) F:=h
def cQ {N:List Str}{m:DE->M Out}{Q:My->FS->Prop}:wp (U2 N m args F) Q↔wp (m (K4 N args) F) (uQ Q):=by
 unfold U2;rw[d5];refine J7 λo F1=>?_
 cases o with
 | nx E1=>exact c9
 | rt d=>exact c9
 | bk d=>exact D1
 | ct d=>exact D1
def v6 {d:My}{P:My->Prop}(h:o=some (some (.dat d)))(q:P d):gD o P:=by rw[h];exact q
def n9 {d:My}{P:My->Prop}(h:o=some (some (.dat d)))(q:P d):gW o P:=by rw[h];exact q
def eT {ds:List My}{P:My->Prop}(h:o=some (some (.own ds)))(q:P (.list ds)):gW o P:=by rw[h];exact q
def ij {P:Prop}(h:o=some (some .feed))(q:P):gF o P:=by rw[h];exact q
def d6 {o:Option γ}{z:γ}{P:γ->Prop}(h:o=some z)(q:P z):oB o P:=⟨z,h,q⟩
def Z7 {c:Bool}{A B:Prop}(h:c=true)(q:A):cIf c A B:=by rw[h];exact cz.2 q
def A9 {c:Bool}{A B:Prop}(h:c=false)(q:B):cIf c A B:=by rw[h];exact T5.2 q
def A7 {n:Nat}(h:Nat.ble n 10000=true):n<=Qg:=LS (Nat.le_of_ble_eq_true h) (by rw[LV];decide)
def l3 {i n:Nat}(h:Nat.ble (i+1) n=true):i<n:=Nat.le_of_ble_eq_true h
end
def Tr (f:List DV->M My)(args:List DV)(c:Int)(P:My->Prop):Prop:=∀F:FdS,F.t+c<=199999->∃d F',f args F=some (d,F')/\F'.t<=F.t+c/\P d
def Tr.wp {f:List DV->M My}{c:Int}{P:My->Prop}{F:FdS}{Q:My->FdS->Prop}(h:Tr f args c P)(hF:F.t+c<=199999)(q:∀d F',F'.t<=F.t+c->P d->Q d F'):wp (f args F) Q:=by obtain⟨d,F',e,ht,p⟩:=h F hF;exact⟨d,F',e,q d F' ht p⟩
def Tr.of {f:List DV->M My}{c:Int}{P:My->Prop}(h:∀F:FdS,F.t+c<=199999->L3.wp (f args F) λd F'=>F'.t<=F.t+c/\P d):Tr f args c P:=λF hF=>by obtain⟨d,F',e,q⟩:=h F hF;exact⟨d,F',e,q⟩
mutual
def cnt:My->Nat
 | .tuple ds=>1+Z1 ds
 | .list ds=>1+Z1 ds
 | _=>1
def Z1:List My->Nat
 | []=>0
 | d::ds=>cnt d+Z1 ds
end
def asc (x:Str):Prop:=∀c∈x.cps.toList,c<128
mutual
def scs (n:Nat):My->Prop
 | .none=>True
 | .bool _=>True
 | .int i=>i.natAbs<10 ^ 300+n
 | .str x=>x.length<=600+n/\asc x
 | .tuple ds=>uK n ds
 | .list ds=>uK n ds
 | .dict _=>False
def uK (n:Nat):List My->Prop
 | []=>True
 | d::ds=>scs n d/\uK n ds
end
theorem dP {n:Nat}:∀{ds:List My},uK n ds↔∀d∈ds,scs n d
 | []=>by simp[uK]
 | d::ds=>by simp[uK,dP (ds:=ds)]
theorem gv:∀{xs ys:List My},Z1 (xs++ys)=Z1 xs+Z1 ys
 | [],ys=>by simp[Z1]
 | x::xs,ys=>by simp[Z1,gv (xs:=xs)];omega
structure Gd (n N k:Nat) (d:My):Prop where
 sc:scs n d
 dp:d.depth<=k
 ct:cnt d<=N
theorem P6 {k:Nat}:∀{ds:List My},My.depthAll ds<=k↔∀d∈ds,d.depth<=k
 | []=>by simp[My.depthAll]
 | d::ds=>by have:=P6 (k:=k) (ds:=ds);simp only[My.depthAll,Lh,forall_eq_or_imp];rw[<-this];omega
def Gd.tup {n N k M:Nat}{ds:List My}(h:∀d∈ds,Gd n M k d)(hc:1+Z1 ds<=N):Gd n N (k+1) (.tuple ds):=by
 refine⟨?_,?_,?_⟩
 .simp only[scs];rw[dP];exact λd hd=>(h d hd).sc
 .simp only[My.depth];have:My.depthAll ds<=k:=P6.2 λd hd=>(h d hd).dp
  omega
 .simp only[cnt];exact hc
def Gd.lst {n N k M:Nat}{ds:List My}(h:∀d∈ds,Gd n M k d)(hc:1+Z1 ds<=N):Gd n N (k+1) (.list ds):=by obtain⟨a,b,c⟩:=Gd.tup h hc;exact⟨a,b,c⟩
end
section
variable [Fam]
structure Nod (d:My):Prop where
 sh:d.showable=true
 nd:d.hasDict=false
 cl:d.canLay0=true
 ln:d.shown.length+2<=7100*cnt d
def yp :(10:Nat) ^ 300<=2 ^ 1000:=by have h:((10:Nat) ^ 3) ^ 100<=(2 ^ 10) ^ 100:=Nat.pow_le_pow_left (by decide) 100;rwa [<-Nat.pow_mul,<-Nat.pow_mul]at h
def Dd {n:Nat}(hn:n<=100):10 ^ 300+n<=2 ^ 1001:=by
 have h0:=yp;have h1:(2:Nat) ^ 1001=2 ^ 1000+2 ^ 1000:=by rw[Nat.pow_succ,Nat.mul_two]
 have h2:(2:Nat) ^ 7<=2 ^ 1000:=Nat.pow_le_pow_right (by decide) (by decide);have h3:(2:Nat) ^ 7=128:=by decide
 rw[h1];generalize (10:Nat) ^ 300=A at *;generalize (2:Nat) ^ 1000=B at *;omega
def DN {ds:List My}:(∀d∈ds,Nod d)->My.showableAll ds=true/\My.hasDictAll ds=false/\My.canLayAll0 ds=true/\((My.shownAll ds).map (·.length)).sum+2*ds.length<=7100*Z1 ds:=by
 walk_at "kh"
def Dr {n:Nat}(hn:n<=100):∀m:Nat,∀d:My,sizeOf d<m->scs n d->Nod d:=by
 intro m;induction m with
 | zero=>intro d h;exact absurd h (Oo _)
 | succ m ih =>
  intro d hm hs;cases d with
  | none=>exact⟨rfl,rfl,rfl,by decide⟩
  | bool b=>exact⟨rfl,rfl,rfl,by cases b <;> decide⟩
  | int i =>simp only[scs]at hs;have hb:i.natAbs<2 ^ 1001:=LJ hs (Dd hn);have:=Shw.int hb (by decide) (by decide);exact⟨this.sh,this.nd,rfl,by have:=this.ln;simp only[cnt];omega⟩
  | str x =>
   simp only[scs]at hs;refine⟨rfl,rfl,?_,?_⟩
   .simp only[My.canLay0,My.strOk];rw[Array.all_eq_true'];intro c hc;have:=hs.2 c (by simpa using hc);exact MX (by omega)
   .have h1:=Py x λc hc=>LJ (hs.2 c hc) (by decide)
    simp only[My.shown,cnt];omega
  | tuple ds =>
   simp only[scs]at hs;rw[dP]at hs;obtain⟨a,b,c,e⟩:=DN λd hd=>ih d (by have:=Od hd;simp at hm;omega) (hs d hd)
   refine⟨by simpa only[My.showable] using a,by simpa only[My.hasDict] using b,by simpa only[My.canLay0] using c,?_⟩;have h5:=tupleText_len_le (My.shownAll ds);have h6:=Ob ds;simp only[My.shown,cnt];omega
  | list ds =>
   simp only[scs]at hs;rw[dP]at hs;obtain⟨a,b,c,e⟩:=DN λd hd=>ih d (by have:=Od hd;simp at hm;omega) (hs d hd)
   refine⟨by simpa only[My.showable] using a,by simpa only[My.hasDict] using b,by simpa only[My.canLay0] using c,?_⟩;have h5:=listText_len_le (My.shownAll ds);have h6:=Ob ds;simp only[My.shown,cnt];omega
  | dict QC=>simp only[scs]at hs
section
variable {n N k:Nat}{d:My}
def Gd.nod (h:Gd n N k d)(hn:n<=100):Nod d:=Dr hn _ d (MV _) h.sc
def Gd.shaped (h:Gd n N k d)(hn:n<=100)(hk:k<=50):PySem.SeqAt.shaped d=true:=by unfold PySem.SeqAt.shaped;rw[(h.nod hn).cl];have h3:=h.dp;simp;omega
def qj {i:Int}(h:i.natAbs<10 ^ 300+n):Gd n 1 0 (.int i):=⟨h,by simp[My.depth],by simp[cnt]⟩
end
def fx {i:Int}{n:Nat}(h:i.natAbs<=100000000000000000000000000000000000000000):i.natAbs<10 ^ 300+n:=by
 have h1:(10:Nat) ^ 42<=10 ^ 300:=Nat.pow_le_pow_right (by decide) (by decide);have h2:100000000000000000000000000000000000000000<(10:Nat) ^ 42:=by decide
 generalize (10:Nat) ^ 300=A at *;omega
end
section
variable [Fam]
section
variable {ds es:List My}{i j:Int}{x y:Str}{b c:Bool}{d:My}{T:String}
def ja :M5 (.int i) (.int j)=some (.int (i+j)):=rfl
def dE :fQ (.int i) (.int j)=some (.int (i-j)):=rfl
def AL :gtD (.int i) (.int j)=some (.bool (decide (j<i))):=rfl
def dF :X3 [.tuple ds]=some (.int ds.length):=rfl
def qy :X3 [.list ds]=some (.int ds.length):=rfl
def wK :K0 [.list ds]=some (.tuple ds):=rfl
def EO :gp (.int i)=some i:=rfl
def Ct {lo hi:Option Int}:uO lo hi (.tuple ds)=some (.tuple (gJ ds lo hi)):=rfl
def Cs {lo hi:Option Int}:uO lo hi (.list ds)=some (.list (gJ ds lo hi)):=rfl
def cZ :ki (.tuple ds)=some ds:=rfl
def bg :ki (.list ds)=some ds:=rfl
end
end
end L3
set_option hygiene false
local macro_rules | `(tactic| walk_at "st")=>`(tactic| first | (with_reducible first | refine L3.j5 ?_ | refine L3.wA ?_ | refine L3.bL ?_ | refine L3.k9.2 ?_ | refine L3.U9.2 ?_ | refine L3.x4.2 ?_ | refine L3.aw.2 ?_ | refine L3.X6.2 ?_ | refine L3.wF.2 ?_ | refine L3.jY.2 ?_ | refine L3.qZ.2 ?_ | refine L3.V9.2 ?_ | refine L3.qJ.2 ?_ | refine L3.lN.2 ?_ | refine L3.u7.2 ?_ | refine L3.CW.2 ?_ | refine L3.M2.2 ?_ | refine L3.u6.2 ?_ | refine L3.v5.2 ?_ | refine L3.l6.2 ?_ | refine L3.f9.2 ?_ | refine L3.c6.2 ?_ | refine L3.L8.2 ?_ | refine L3.lT.2 ?_ | refine L3.A4.2 ?_ | refine L3.E3.2 ?_ | refine L3.ji.2 ?_ | refine L3.v4.2 ?_ | refine L3.xN.2 ?_ | refine L3.xt.2 ?_ | refine L3.BV.2 ?_ | refine L3.qe.2 ?_ | refine r_sOr.2 ?_ | refine r_sNot.2 ?_ | refine L3.ip.2 ?_ | refine L3.aI.2 ?_ | refine L3.fw.2 ?_ | refine L3.W7.2 ?_ | refine L3.eP.2 ?_ | refine L3.P3.2 ?_ | refine L3.Z0.2 ?_ | refine r_fCat.2 ?_ | refine L3.gh.2 ?_) | ((with_reducible refine L3.cQ.2 ?_);try dsimp only[L3.K4,Lu,Mt,Ly,MH,List.replicate,MD,Mu,Nat.reduceAdd,Nat.reduceSub]) | ((with_reducible apply L3.v6);exact rfl) | ((with_reducible apply L3.n9);exact rfl) | ((with_reducible apply L3.eT);exact rfl) | ((with_reducible apply L3.ij);exact rfl) | ((with_reducible apply L3.d6);first | exact e_isin | exact rfl) | ((with_reducible refine And.intro (L3.A7 ?_) ?_);exact rfl) | ((with_reducible refine And.intro (L3.l3 ?_) ?_);exact rfl;try dsimp only[List.set_cons_zero,List.set_cons_succ]))
local macro_rules | `(tactic| walk_at "rd")=>`(tactic| (repeat walk_at "st"))
local macro_rules | `(tactic| walk_at "ty")=>`(tactic| first | refine L3.A9 L3.ft ?_ | refine L3.A9 L3.gG ?_ | refine L3.A9 L3.iJ ?_ | refine L3.A9 L3.iV ?_ | refine L3.A9 L3.gI ?_ | refine L3.A9 L3.mw ?_ | refine L3.Z7 L3.mU ?_ | refine L3.Z7 L3.qU ?_ | refine L3.A9 L3.pR ?_ | refine L3.A9 L3.nF ?_ | refine L3.A9 L3.pd ?_ | refine L3.A9 L3.qz ?_ | refine L3.Z7 L3.uf ?_ | refine L3.A9 L3.uk ?_ | refine L3.A9 L3.pH ?_ | refine L3.A9 L3.mY ?_ | refine L3.A9 L3.qx ?_ | refine L3.A9 L3.tM ?_ | refine L3.Z7 L3.uN ?_ | refine L3.A9 L3.qS ?_ | refine L3.A9 L3.lD ?_ | refine L3.A9 L3.mS ?_ | refine L3.A9 L3.pS ?_ | refine L3.A9 L3.qN ?_ | refine L3.Z7 L3.oz ?_ | refine L3.Z7 L3.jL ?_ | refine L3.A9 L3.mJ ?_ | refine L3.A9 L3.mV ?_ | refine L3.A9 L3.oJ ?_ | refine L3.A9 L3.mH ?_)
local macro_rules | `(tactic| walk_at "go")=>`(tactic| (repeat first | walk_at "st" | walk_at "ty"))
namespace L3
open PySem PySem.Spec PyProof.Rows L2
variable [Fam]
def ft:isT "NoneType" "tuple" = false:=by decide +kernel
def gG:isT "NoneType" "bool" = false:=by decide +kernel
def iJ:isT "NoneType" "int" = false:=by decide +kernel
def iV:isT "NoneType" "str" = false:=by decide +kernel
def gI:isT "NoneType" "list" = false:=by decide +kernel
def mw:isT "bool" "tuple" = false:=by decide +kernel
def mU:isT "bool" "bool" = true:=by decide +kernel
def qU:isT "bool" "int" = true:=by decide +kernel
def pR:isT "bool" "str" = false:=by decide +kernel
def nF:isT "bool" "list" = false:=by decide +kernel
def pd:isT "int" "tuple" = false:=by decide +kernel
def qz:isT "int" "bool" = false:=by decide +kernel
def uf:isT "int" "int" = true:=by decide +kernel
def uk:isT "int" "str" = false:=by decide +kernel
def pH:isT "int" "list" = false:=by decide +kernel
def mY:isT "str" "tuple" = false:=by decide +kernel
def qx:isT "str" "bool" = false:=by decide +kernel
def tM:isT "str" "int" = false:=by decide +kernel
def uN:isT "str" "str" = true:=by decide +kernel
def qS:isT "str" "list" = false:=by decide +kernel
def lD:isT "list" "tuple" = false:=by decide +kernel
def mS:isT "list" "bool" = false:=by decide +kernel
def pS:isT "list" "int" = false:=by decide +kernel
def qN:isT "list" "str" = false:=by decide +kernel
def oz:isT "list" "list" = true:=by decide +kernel
def jL:isT "tuple" "tuple" = true:=by decide +kernel
def mJ:isT "tuple" "bool" = false:=by decide +kernel
def mV:isT "tuple" "int" = false:=by decide +kernel
def oJ:isT "tuple" "str" = false:=by decide +kernel
def mH:isT "tuple" "list" = false:=by decide +kernel
section
variable {s N k:Nat}
end
variable [Fam]
def sz {n:Nat}(h:n<=100000):n<=Qg:=LS h (by rw[LV];decide)
variable [Fam]
variable [Fam]
def G7 {bd:My->DE->Option DE}{body:DE->M Out}{Q:Out->FdS->Prop}(I:Nat->DE->FdS->Prop):∀(items:List My) (n:Nat) (E:DE) (F:FdS),I n E F ->
  (∀i d,items[i]? = some d->∀E F,I (n+i) E F->∃E1,bd d E=some E1/\wp (body E1 F) λo F'=>∃E2,o = .nx E2/\I (n+i+1) E2 F')->(∀E F,I (n+items.length) E F->Q (.nx E) F)->wp (O3 bd body items E F) Q
 | [],n,E,F,h,_,hq=>c9.2 (hq E F h)
 | d::r,n,E,F,h,st,hq=>by
  walk_at "ki"
def bT {lo:Int}{n:Nat}:(aQ lo n).length=n:=by simp[aQ]
variable [Fam]
section
variable {F:FdS}{Q:My->FdS->Prop}{n:Nat}
def cM {d:My}(h:U4 d=true):U0 [d]=some (.str d.shown):=Lg h
def vb {xs ys:List My}(h:xs.length+ys.length<=100000):M5 (.list xs) (.list ys)=some (.list (xs++ys)):=Lg (sz h)
def yf {xs ys:List My}(h:xs.length+ys.length<=100000):M5 (.tuple xs) (.tuple ys)=some (.tuple (xs++ys)):=Lg (sz h)
abbrev W8:List My:=[.str "first",.str "last",.str "short",.str "front",.str "lastoff",.str "shortoff",.str "frontoff",.str "turns"]
def dX:List DV->M My:=U2 ["rule"] (mRt (s2 (inD false) (sW 0) (sC (.tuple [.str "first",.str "last",.str "short",.str "front"]))))
def kb:My->Bool
 | .str x=>(([.str "first",.str "last",.str "short",.str "front"]:List My)).any λy=>My.eqv y (.str x)
 | _=>false
def in4 {x:Str}(h:SeqAt.shaped (.str x)=true):inD false (.str x) (.tuple [.str "first",.str "last",.str "short",.str "front"])=some (.bool (kb (.str x))):=by show(if SeqAt.shaped (.tuple [.str "first",.str "last",.str "short",.str "front"])=true/\SeqAt.shaped (.str x)=true then _ else none)=_;rw[Lg ⟨by decide +kernel,h⟩,Lk (by decide)];rfl
def R3 {r:My}(h:r∈W8):∃x:Str,r = .str x/\SeqAt.shaped (.str x)=true:=by simp only[Lh,Mn,Nt]at h;rcases h with rfl | rfl | rfl | rfl | rfl | rfl | rfl | rfl <;> exact⟨_,rfl,by decide +kernel⟩
def rz {r:My}(h:r∈W8)(q:Q (.bool (kb r)) F):wp (dX [.dat r] F) Q:=by obtain⟨x,rfl,hx⟩:=R3 h;unfold dX;walk_at "go";refine d6 (in4 hx) ?_;walk_at "go";exact q
end
section
variable {F:FdS}{Q:Out->FdS->Prop}{E:DE}{i:Nat}{ds:List My}
def cB {v:DE->M My}(he:aT E i=some ds)(hl:ds.length<=100000)(q:wp (v E F) λx F1=>Q (.nx (E.set i (some (.own (ds++[x]))))) F1):wp (cn i v E F) Q:=by
 unfold cn;rw[d5];refine i8 q λx F1 h=>?_
 rw[he,LC,Lg (NZ hl (by rw[LV];decide))];exact c9.2 h
def Bh {v:DE->M My}(he:aT E i=some ds)(q:wp (v E F) λx F1=>∃zs,x = .list zs/\ds.length+zs.length<=100000/\Q (.nx (E.set i (some (.own (ds++zs))))) F1):wp (tw i v E F) Q:=by
 unfold tw;rw[d5];refine i8 q λx F1 h=>?_
 obtain⟨zs,rfl,hl,q⟩:=h;rw[he,LC];dsimp only;rw[Lg (sz hl)];exact c9.2 q
def pN {a:DE->M My}{Q:List My->FdS->Prop}(q:wp (a E F) λx F1=>oB (ki x) λds=>Q (T7 0 ds) F1):wp (cN a E F) Q:=by
 unfold cN;rw[d5];refine i8 q λx F1 h=>?_
 obtain⟨ds,e,q⟩:=h;dsimp only;rw[e,LC];exact c9.2 q
def AG {mi:DE->M (List My)}{k:Nat}{cap:List Nat}{bd:My->DE->Option DE}{mt:DE->M Bool}{me:DE->M My}{Q:List My->FdS->Prop}(h:wp (mi E F) λds F1=>ds.length<=Qg/\wp (bf bd mt me ds (iM k cap E) F1) λzs F2=>Q zs F2):wp (fLC mi k cap bd mt me E F) Q:=by
 unfold fLC;rw[d5];refine i8 h λds F1 h=>?_
 dsimp only;rw[Lg h.1,d5];exact i8 h.2 λzs F2 h=>c9.2 h
end
variable [Fam]
theorem eZ {c:Nat}:∀{ds:List My},(∀d∈ds,cnt d<=c)->Z1 ds<=c*ds.length
 | [],_=>by simp[Z1]
 | d::ds,h=>by
  have h1:=h d Lq;have h2:=eZ (c:=c) (ds:=ds) λd hd=>h d (Le _ hd)
  rw[Z1,Ly,Nat.mul_add,Nat.mul_one];omega
def FZ {xs:List My}{k:Int}(h:xs.length*k.toNat<=100000)(h1:-(2 ^ 63)<=k)(h2:k<2 ^ 63):R0 (.tuple xs) (.int k)=some (.tuple (List.replicate k.toNat xs).flatten):=by unfold R0;exact Lg ⟨h1,h2,sz h⟩
variable [Fam]
def xV {c:DE->M Bool}{b:DE->M Out}{Q:Out->FdS->Prop}(I:DE->FdS->Prop)(μ:DE->Nat)
  (st:∀E F,I E F->wp (c E F) λt F1=>cIf t (wp (b E F1) λo F2=>∃E2,o = .nx E2/\I E2 F2 /\ μ E2 < μ E) (Q (.nx E) F1)):∀(n:Nat) (E:DE) (F:FdS),I E F->μ E<n->wp (aK c b n E F) Q
 | 0,E,F,_,h=>absurd h (Oo _)
 | n+1,E,F,hI,h=>by
  rw[aK,d5];refine i8 (st E F hI) λt F1 h1=>?_
  cases t with
  | false=>rw[T5]at h1;rw[Lk (by simp)];exact c9.2 h1
  | true =>
   rw[cz]at h1;rw[Lg rfl,d5];refine i8 h1 λo F2 ⟨E2,e,hI2,hm⟩=>?_
   subst e;exact xV I μ st n E2 F2 hI2 (by omega)
def Gk {c:DE->M Bool}{b:DE->M Out}{Q:Out->FdS->Prop}(I:DE->FdS->Prop)(μ:DE->Nat){E:DE}{F:FdS}(h0:I E F)
  (st:∀E F,I E F->wp (c E F) λt F1=>cIf t (wp (b E F1) λo F2=>∃E2,o = .nx E2/\I E2 F2 /\ μ E2 < μ E) (Q (.nx E) F1)):wp (mWh c b E F) Q:=by obtain⟨o,F',e,q⟩:=xV I μ st (μ E+1) E F h0 (MV _);exact⟨o,F',uZ e,q⟩
variable [Fam]
variable [Fam]
variable [Fam]
section
variable {B:Int}
end
section
variable {F:FdS}{E:DE}
end
variable [Fam]
def ig {i:Int}(h0:-(2 ^ 62)<=i)(h1:i<2 ^ 62):U1 [.int i]=some (aQ 0 i.toNat):=Lg ⟨h0,h1⟩
def vU {n:Nat}(h:n<=100000):U1 [.int (n:Nat)]=some (aQ 0 n):=by have e:=ig (i:=(n:Int)) (by omega) (by omega);rwa [MR]at e
end L3
namespace L3
open L2
abbrev Pn:=Int×Int×Bool
def pAt (ps:List Pn)(i:Nat):Pn:=ps.getD i (0,0,false)
def Z8 (k:Nat)(ps:List Pn):List Nat :=
 if k=1 then(List.range ps.length).reverse
 else if k=2 then(C1 ((List.range ps.length).map λi=>((pAt ps i).2.1,i))).map Prod.snd
 else if k=3 then(C1 ((List.range ps.length).map λi=>((pAt ps i).1,i))).map Prod.snd
 else List.range ps.length
def bI (b:Bool):Int:=if b then 1 else 0
def order (k:Nat)(kp:Bool)(ps:List Pn):List Nat :=
 if kp then(C1 ((Z8 k ps).map λi=>(bI (!(pAt ps i).2.2),i))).map Prod.snd else Z8 k ps
def W4 (k:Nat)(ps:List Pn)(i j:Nat):Prop :=
 if k=1 then j<i else if k=2 then(pAt ps i).2.1<(pAt ps j).2.1\/((pAt ps i).2.1=(pAt ps j).2.1/\i<j)
 else if k=3 then(pAt ps i).1<(pAt ps j).1\/((pAt ps i).1=(pAt ps j).1/\i<j) else i<j
def E7 (k:Nat)(kp:Bool)(ps:List Pn)(i j:Nat):Prop :=
 if kp then(bI (!(pAt ps i).2.2)<bI (!(pAt ps j).2.2)\/(bI (!(pAt ps i).2.2)=bI (!(pAt ps j).2.2)/\W4 k ps i j)) else W4 k ps i j
theorem yg {T:Nat->Nat->Prop}{p:Int×Nat}(tr:∀a b c,T a b->T b c->T a c):∀{l:List (Int×Nat)},l.Pairwise (λa b=>a.1<b.1\/(a.1=b.1/\T a.2 b.2))->(∀q∈l,T p.2 q.2)->(aF p l).Pairwise λa b=>a.1<b.1\/(a.1=b.1/\T a.2 b.2)
 | [],_,_=>by simp[aF]
 | q::r,h,hl=>by
  rw[LO]at h;rw[aF];split
  .rename_i hle;refine LO.2 ⟨λz hz=>?_,LO.2 h⟩;have hz':=hl z hz;have hle':p.1<=z.1:=by
    rcases Lh.1 hz with rfl | hz
    .exact hle
    .rcases h.1 z hz with e | e <;> omega
   rcases Oy hle' with e | e
   .exact .inl e
   .exact .inr ⟨e,hz'⟩
  .rename_i hgt;refine LO.2 ⟨λz hz=>?_,yg tr h.2 λz hz=>hl z (Le _ hz)⟩;rcases Lh.1 ((ao p r).mem_iff.mp hz) with rfl | hz
   .exact .inl (by omega)
   .exact h.1 z hz
theorem ou {T:Nat->Nat->Prop}(tr:∀a b c,T a b->T b c->T a c):∀{l:List (Int×Nat)},l.Pairwise (λa b=>T a.2 b.2)->(C1 l).Pairwise λa b=>a.1<b.1\/(a.1=b.1/\T a.2 b.2)
 | [],_=>.nil
 | p::r,h=>by rw[LO]at h;exact yg tr (ou tr h.2) λq hq=>h.1 q ((G3 r).mem_iff.mp hq)
def jh {T:Nat->Nat->Prop}(tr:∀a b c,T a b->T b c->T a c)(g:Nat->Int){l:List Nat}(h:l.Pairwise T):((C1 (l.map λi=>(g i,i))).map Prod.snd).Pairwise λi j=>g i<g j\/(g i=g j/\T i j):=by
 have h1:(l.map λi=>(g i,i)).Pairwise (λa b=>T a.2 b.2):=by rw[Nz];exact h
 have h2:=ou tr h1;rw[Nz];refine h2.imp_of_mem λ{a b} ha hb hab=>?_
 have ea:a.1=g a.2:=by obtain⟨i,_,rfl⟩:=LN.1 ((G3 _).mem_iff.mp ha);rfl
 have eb:b.1=g b.2:=by obtain⟨i,_,rfl⟩:=LN.1 ((G3 _).mem_iff.mp hb);rfl
 rw[<-ea,<-eb];exact hab
def bK (g:Nat->Int)(l:List Nat):((C1 (l.map λi=>(g i,i))).map Prod.snd).Perm l:=by have:=(G3 (l.map λi=>(g i,i))).map Prod.snd;rw[LQ]at this;exact this.trans (.of_eq ((Me λi _=>rfl).trans (List.map_id _)))
def W3 (n:Nat):(List.range n).Pairwise (· < ·):=by rw[MQ];intro i j hi hj hij;simpa using hij
def Y5 (k:Nat)(ps:List Pn):(Z8 k ps).Perm (List.range ps.length):=by
 unfold Z8;repeat' split
 .exact List.reverse_perm _
 .exact bK (λi=>(pAt ps i).2.1) _
 .exact bK (λi=>(pAt ps i).1) _
 .exact .refl _
def B5 (k:Nat)(kp:Bool)(ps:List Pn):(order k kp ps).Perm (List.range ps.length):=by
 unfold order;split
 .exact(bK (λi=>bI (!(pAt ps i).2.2)) _).trans (Y5 k ps)
 .exact Y5 k ps
def dW (k:Nat)(ps:List Pn):(Z8 k ps).Pairwise (W4 k ps):=by
 unfold Z8 W4;repeat' split
 .rw[List.pairwise_reverse];exact W3 _
 .exact jh (T:=λa b=>a<b) (λa b c h1 h2=>Nat.lt_trans h1 h2) (λi=>(pAt ps i).2.1) (W3 _)
 .exact jh (T:=λa b=>a<b) (λa b c h1 h2=>Nat.lt_trans h1 h2) (λi=>(pAt ps i).1) (W3 _)
 .exact W3 _
def oR {k:Nat}{ps:List Pn}(a b c:Nat)(h1:W4 k ps a b)(h2:W4 k ps b c):W4 k ps a c:=by
 unfold W4 at *;repeat' split
 all_goals simp_all
 all_goals omega
def gb {k:Nat}{ps:List Pn}(a b:Nat)(h1:W4 k ps a b)(h2:W4 k ps b a):False:=by
 unfold W4 at *;split at h1
 .simp_all;omega
 .split at h1
  .simp_all;omega
  .split at h1
   .simp_all;omega
   .simp_all;omega
def dY (k:Nat)(kp:Bool)(ps:List Pn):(order k kp ps).Pairwise (E7 k kp ps):=by
 unfold order E7;cases kp with
 | true =>simp only[ML];exact jh oR (λi=>bI (!(pAt ps i).2.2)) (dW k ps)
 | false=>simpa using dW k ps
def eX {k:Nat}{kp:Bool}{ps:List Pn}(a b:Nat)(h1:E7 k kp ps a b)(h2:E7 k kp ps b a):False:=by
 unfold E7 at *;cases kp with
 | true =>simp only[ML]at h1 h2;rcases h1 with h1 | ⟨e1,h1⟩ <;> rcases h2 with h2 | ⟨e2,h2⟩ <;> first | omega | exact gb a b h1 h2
 | false =>simp only[Mq,MO]at h1 h2;exact gb a b h1 h2
theorem nM {S:Nat->Nat->Prop}[DecidableRel S](as:∀a b,S a b->S b a->False):∀{L:List Nat} {h i:Nat},L.Pairwise S->L.Nodup->i∈L->(i∈L.take h↔(L.filter λj=>decide (j≠i/\S j i)).length<h)
 | [],h,i,_,_,hi=>by simp at hi
 | a::L,h,i,hp,hn,hi=>by
  rw[LO]at hp;rw[MA]at hn;cases h with
  | zero=>simp
  | succ h =>
   rw[Ol,Lh];by_cases e:i=a
   .subst e;have z:(List.filter (λj=>decide (j≠i/\S j i)) (i::L))=[]:=by
     rw[List.filter_eq_nil_iff];intro j hj;simp only[MS];rintro ⟨h1,h2⟩;rcases Lh.1 hj with rfl | hj
     .exact h1 rfl
     .exact as _ _ (hp.1 j hj) h2
    rw[z];simp
   .have hi':i∈L:=(Lh.1 hi).resolve_left e;have c:decide (a≠i/\S a i)=true:=MX ⟨λz=>e z.symm,hp.1 i hi'⟩;rw[Nm (by simpa using c),Ly,nM as hp.2 hn.2 hi'];constructor
    .rintro (z | z)
     .exact absurd z e
     .omega
    .intro z;exact .inr (by omega)
def r9 (h k:Nat)(kp:Bool)(ps:List Pn):List Nat:=(List.range ps.length).filter λi=>decide (i∈(order k kp ps).take h)
def P5 (n:Nat):(List.range n).Nodup:=by rw[NO];exact(W3 n).imp λh=>LH h
def bz (k:Nat)(kp:Bool)(ps:List Pn):(order k kp ps).Nodup:=(B5 k kp ps).nodup_iff.mpr (P5 _)
def dw {l m:List Nat}(h1:l.Nodup)(h2:m.Nodup)(h:∀x,x∈l↔x∈m):l.Perm m:=(List.perm_ext_iff_of_nodup h1 h2).2 h
def jD (h k:Nat)(kp:Bool)(ps:List Pn):(r9 h k kp ps).Perm ((order k kp ps).take h):=by
 refine dw ((P5 _).sublist Nc) ((bz k kp ps).sublist (List.take_sublist _ _)) λx=>?_
 unfold r9;rw[Ma,MS];exact⟨λz=>z.2,λz=>⟨(B5 k kp ps).mem_iff.mp (Nx z),z⟩⟩
def aE (h k:Nat)(kp:Bool)(ps:List Pn):(r9 h k kp ps).length=min h ps.length:=by rw[(jD h k kp ps).length_eq,Ms,(B5 k kp ps).length_eq,LY]
def xp (h k:Nat)(kp:Bool)(ps:List Pn):(r9 h k kp ps).Pairwise (· < ·):=(W3 _).sublist Nc
def lM (h k:Nat)(kp:Bool)(ps:List Pn):nc (((order k kp ps).take h).map Int.ofNat)=(r9 h k kp ps).map Int.ofNat:=by refine fJ ((cT _).trans ((jD h k kp ps).map Int.ofNat).symm) (jG _) ?_;rw[Nz];exact(xp h k kp ps).imp λ{a b} h=>by simp only[Int.ofNat_eq_natCast];omega
instance ahead_dec (k:Nat) (ps:List Pn):DecidableRel (W4 k ps):=λi j=>by unfold W4;infer_instance
instance sooner_dec (k:Nat) (kp:Bool) (ps:List Pn):DecidableRel (E7 k kp ps):=λi j=>by unfold E7;infer_instance
def bA (h k:Nat)(kp:Bool)(ps:List Pn):r9 h k kp ps=(List.range ps.length).filter λi=>decide (((List.range ps.length).filter λj=>decide (j≠i/\E7 k kp ps j i)).length<h):=by
 unfold r9;refine OP λi hi=>?_
 have hm:=(B5 k kp ps).mem_iff.mpr hi;have e:=nM (S:=E7 k kp ps) eX (h:=h) (dY k kp ps) (bz k kp ps) hm;have e2:=((B5 k kp ps).filter λj=>decide (j≠i/\E7 k kp ps j i)).length_eq;rw[<-e2];exact Nj.2 e
end L3
namespace L3
open PySem PySem.Spec PyProof.Rows L2
abbrev pnD (p:Pn):My:=.tuple [.int p.1,.int p.2.1,.bool p.2.2]
def j4 (l:List Nat):List My:=l.map λi:Nat=>My.int (i:Int)
def kOf:My->Nat
 | .str x=>if x = "last" \/ x = "lastoff" then 1 else if x = "short" \/ x = "shortoff" then 2 else if x = "front" \/ x = "frontoff" then 3 else 0
 | _=>0
def J6 (l:List Nat):(j4 l).length=l.length:=by simp[j4]
def vg (l:List Nat):(j4 l).reverse=j4 l.reverse:=by simp[j4]
def rE (n:Nat):aQ 0 n=j4 (List.range n):=by unfold aQ j4;exact Me λi _=>by congr 1;omega
theorem kI:∀(l:List Int),(l.map My.int).mapM nX? = some l
 | []=>rfl
 | i::l=>by rw[Lu,Nv,kI l];rfl
theorem jy:∀(l:List Bool),(l.map My.bool).mapM fU? = some (l.map bI)
 | []=>rfl
 | i::l=>by rw[Lu,Nv,jy l];rfl
def pJ (l:List Int):fX (l.map .int)=some l:=by unfold fX;rw[kI]
def nv (l:List Bool):fX (l.map .bool)=some (l.map bI):=by
 unfold fX;cases l with
 | nil=>rfl
 | cons b l=>exact jy (b::l)
theorem az {α β γ:Type}(f:α->β)(g:α->γ):∀l:List α,(l.map f).zip (l.map g)=l.map λx=>(f x,g x)
 | []=>rfl
 | x::l=>by rw[Lu,Lu,List.zip_cons_cons,az f g l];rfl
def iB (g:Nat->Int)(l:List Nat):((C1 ((l.map g).zip (j4 l))).map Prod.snd)=j4 ((C1 (l.map λi=>(g i,i))).map Prod.snd):=by
 have e:(l.map g).zip (j4 l)=(l.map λi=>(g i,i)).map λq=>(q.1,(λi:Nat=>My.int (i:Int)) q.2):=by rw[LQ];exact az g _ l
 rw[e,dA (λi:Nat=>My.int (i:Int)),LQ];unfold j4;rw[LQ];rfl
section
variable [Fam]
def sD {r:My}(h:r∈W8):inD false r (.tuple [.str "last",.str "lastoff"])=some (.bool (decide (kOf r=1))):=by obtain⟨x,rfl,hx⟩:=R3 h;show(if SeqAt.shaped (.tuple [.str "last",.str "lastoff"])=true/\SeqAt.shaped (.str x)=true then _ else none)=_;rw[Lg ⟨by decide +kernel,hx⟩,Lk (by decide)];simp only[Lh,Mn,Nt,My.str.injEq]at h;rcases h with rfl | rfl | rfl | rfl | rfl | rfl | rfl | rfl <;> exact MF (λb=>some (My.bool b)) (by decide +kernel)
def nN {r:My}(h:r∈W8):inD false r (.tuple [.str "short",.str "shortoff"])=some (.bool (decide (kOf r=2))):=by obtain⟨x,rfl,hx⟩:=R3 h;show(if SeqAt.shaped (.tuple [.str "short",.str "shortoff"])=true/\SeqAt.shaped (.str x)=true then _ else none)=_;rw[Lg ⟨by decide +kernel,hx⟩,Lk (by decide)];simp only[Lh,Mn,Nt,My.str.injEq]at h;rcases h with rfl | rfl | rfl | rfl | rfl | rfl | rfl | rfl <;> exact MF (λb=>some (My.bool b)) (by decide +kernel)
def nP {r:My}(h:r∈W8):inD false r (.tuple [.str "front",.str "frontoff"])=some (.bool (decide (kOf r=3))):=by obtain⟨x,rfl,hx⟩:=R3 h;show(if SeqAt.shaped (.tuple [.str "front",.str "frontoff"])=true/\SeqAt.shaped (.str x)=true then _ else none)=_;rw[Lg ⟨by decide +kernel,hx⟩,Lk (by decide)];simp only[Lh,Mn,Nt,My.str.injEq]at h;rcases h with rfl | rfl | rfl | rfl | rfl | rfl | rfl | rfl <;> exact MF (λb=>some (My.bool b)) (by decide +kernel)
end
def Bm {ps:List Pn}{i:Nat}(h:i<ps.length):atI (ps.map pnD) (i:Int)=some (pnD (pAt ps i)):=by refine gR ?_;rw[Lv,Lz h];unfold pAt;rw[LG,Lz h];rfl
section
variable [Fam]
def GL:List DV->M My:=U2 ["rule","stand","places"] (mSq (C5 2 (lG (c7 (sN X3 (c7 (sW 1) i7)) i7)))
  (mSq (mIf (uB (s2 (inD false) (sW 0) (sC (.tuple [.str "last",.str "lastoff"])))) (mRt (s1 wc (sW 2))) mNx)
  (mSq (mIf (uB (s2 (inD false) (sW 0) (sC (.tuple [.str "short",.str "shortoff"])))) (mRt (sSK (c7 (sV 2) i7) [1] (s2 ixD (s2 ixD (sW 1) (sW 0)) (sC (.int 1))))) mNx)
  (mSq (mIf (uB (s2 (inD false) (sW 0) (sC (.tuple [.str "front",.str "frontoff"])))) (mRt (sSK (c7 (sV 2) i7) [1] (s2 ixD (s2 ixD (sW 1) (sW 0)) (sC (.int 0))))) mNx)
  (mRt (sV 2))))))
def Hf:List DV->M My:=U2 ["house","stand","hands","places","rule","order"] (mSq (bQ (L6 3 (i9 (bN 2) (i9 (bN 3) (i9 (bN 4) M1)))) (sV 0))
  (mSq (C5 5 (t8 GL (vD (sV 4) (vD (sV 1) B9))))
  (mSq (mIf (uT (t8 dX (vD (sV 4) B9))) (C5 5 (sSK (c7 (sV 5) i7) [1] (yq (s2 ixD (s2 ixD (sW 1) (sW 0)) (sC (.int 2)))))) mNx)
  (mRt (sN K0 (c7 (sN ee (c7 (pK (sW 5) oNo (oI (sV 2))) i7)) i7))))))
theorem fD {me:DE->M My}{E0:DE}{g:Nat->My}:∀(l:List Nat) (F:FdS),(∀i∈l,me (some (.dat (.int (i:Int)))::E0) F=some (g i,F))->gk me E0 (j4 l) F=some (l.map g,F)
 | [],F,_=>rfl
 | d::ds,F,h=>by show(me (some (.dat (.int (d:Int)))::E0) F).bind _=_;rw[h d Lq,LC];show(gk me E0 (j4 ds) F).bind _=_;rw[fD ds F λx hx=>h x (Le _ hx)];rfl
variable {F:FdS}{Q:My->FdS->Prop}
def Ej {ma:DE->M (List My)}{cap:List Nat}{me:DE->M My}{E:DE}(q:wp (ma E F) λxs F1=>∃ds kd ns,xs=[.list ds]/\ds.length<64/\gk me (cap.map λj=>(E[j]?).join) ds F1=some (kd,F1)/\fX kd=some ns/\Q (.list ((C1 (ns.zip ds)).map Prod.snd)) F1):wp (sSK ma cap me E F) Q:=by
 unfold sSK;rw[d5];refine i8 q λxs F1 ⟨ds,kd,ns,e,h64,e2,e3,q⟩=>?_
 subst e;dsimp only;rw[Lg h64,e2,LC,e3,LC];exact c9.2 q
def xk {ma:DE->M (List My)}{cap:List Nat}{me:DE->M My}{E:DE}{g:Nat->Int}(q:wp (ma E F) λxs F1=>∃l:List Nat,xs=[.list (j4 l)]/\l.length<64/\(∀i∈l,me (some (.dat (.int (i:Int)))::cap.map λj=>(E[j]?).join) F1=some (.int (g i),F1))/\Q (.list (j4 ((C1 (l.map λi=>(g i,i))).map Prod.snd))) F1):wp (sSK ma cap me E F) Q:=by refine Ej (i8 q λxs F1 ⟨l,e,h1,h2,h3⟩=>⟨j4 l,l.map λi=>.int (g i),l.map g,e,by rw[J6];exact h1,fD l F1 h2,?_,by rw[iB];exact h3⟩);rw[<-pJ (l.map g),LQ];rfl
def zm {ma:DE->M (List My)}{cap:List Nat}{me:DE->M My}{E:DE}{g:Nat->Bool}(q:wp (ma E F) λxs F1=>∃l:List Nat,xs=[.list (j4 l)]/\l.length<64/\(∀i∈l,me (some (.dat (.int (i:Int)))::cap.map λj=>(E[j]?).join) F1=some (.bool (g i),F1))/\Q (.list (j4 ((C1 (l.map λi=>(bI (g i),i))).map Prod.snd))) F1):wp (sSK ma cap me E F) Q:=by refine Ej (i8 q λxs F1 ⟨l,e,h1,h2,h3⟩=>⟨j4 l,l.map λi=>.bool (g i),l.map λi=>bI (g i),e,by rw[J6];exact h1,fD l F1 h2,?_,by rw[iB λi=>bI (g i)];exact h3⟩);have:=nv (l.map g);rw[LQ,LQ]at this;exact this
def zq {a:DE->M (List My)}{E:DE}(q:wp (a E F) λx F1=>oB (U1 x) λds=>ds.length<=1000/\Q (.list ds) F1):wp (lG a E F) Q:=by
 unfold lG;rw[d5];refine i8 q λx F1 ⟨ds,e,h1,q⟩=>?_
 rw[e,LC,Lg h1];exact c9.2 q
def wm {ps:List Pn}{i:Nat}{j:Int}(h:i<ps.length):s2 ixD (s2 ixD (sW 1) (sW 0)) (sC (.int j)) [some (.dat (.int (i:Int))),some (.dat (.tuple (ps.map pnD)))] F=(ixD (pnD (pAt ps i)) (.int j)).bind λz=>some (z,F):=by show(((atI (ps.map pnD) (i:Int)).bind λz=>some (z,F)).bind λp=>(ixD p.1 (.int j)).bind λz=>some (z,p.2))=_;rw[Bm h];rfl
def Dh {ps:List Pn}{i:Nat}(h:i<ps.length):yq (s2 ixD (s2 ixD (sW 1) (sW 0)) (sC (.int 2))) [some (.dat (.int (i:Int))),some (.dat (.tuple (ps.map pnD)))] F=some (.bool (!(pAt ps i).2.2),F):=by unfold yq;rw[wm h];rfl
def yB {r:My}{ps:List Pn}(hr:r∈W8)(hl:ps.length<64)(q:Q (.list (j4 (Z8 (kOf r) ps))) F):wp (GL [.dat r,.dat (.tuple (ps.map pnD))] F) Q:=by
 unfold GL;walk_at "go";refine zq ?_;refine c6.2 (M2.2 (c6.2 (l6.2 (f9.2 ?_))));refine d6 dF (f9.2 ?_);rw[Lf];refine d6 (vU (by omega)) ⟨by rw[bT];omega,?_⟩;rw[rE];have hperm:∀i∈List.range ps.length,i<ps.length:=λi hi=>LR.1 hi
 walk_at "go";refine d6 (sD hr) ?_;unfold Z8 at q;refine d6 rfl (V0 (λh=>?_) λh=>?_)
 .rw[Lg (Mc h)]at q;walk_at "go";rw[vg];exact q
 rw[Lk (MG h)]at q;walk_at "go";refine d6 (nN hr) ?_;refine d6 rfl (V0 (λh=>?_) λh=>?_)
 .rw[Lg (Mc h)]at q;walk_at "go";refine xk (g:=λi=>(pAt ps i).2.1) ?_;walk_at "go";refine⟨_,rfl,by rw[LY];exact hl,λi hi=>?_,?_⟩
  .exact wm (hperm i hi)
  .walk_at "go";exact q
 rw[Lk (MG h)]at q;walk_at "go";refine d6 (nP hr) ?_;refine d6 rfl (V0 (λh=>?_) λh=>?_)
 .rw[Lg (Mc h)]at q;walk_at "go";refine xk (g:=λi=>(pAt ps i).1) ?_;walk_at "go";refine⟨_,rfl,by rw[LY];exact hl,λi hi=>?_,?_⟩
  .exact wm (hperm i hi)
  .walk_at "go";exact q
 rw[Lk (MG h)]at q;walk_at "go";exact q
def iW {α:Type}{l:List α}{h:Nat}:gJ l none (some (h:Int))=l.take h:=by
 unfold gJ;simp only[HT.sIx_none,HT.sIx_nat,List.drop_zero,Nat.sub_zero];by_cases hh:h<=l.length
 .rw[Pf hh]
 .rw[OW (by omega),Mj (by omega),Mj (by omega)]
def uy (l:List Nat)(n:Nat):(j4 l).take n=j4 (l.take n):=by unfold j4;rw[List.map_take]
theorem ia:∀l:List Nat,W0 (j4 l)=some (l.map Int.ofNat)
 | []=>rfl
 | i::l=>by show W0 (.int (i:Int)::j4 l)=_;rw[W0,ia l];rfl
def vS {r pl:My}{ps:List Pn}{h:Nat}(hr:r∈W8)(hl:ps.length<64)(q:Q (.tuple (j4 (r9 h (kOf r) (kb r) ps))) F):wp (Hf [.dat (.tuple [.int h,pl,r]),.dat (.tuple (ps.map pnD))] F) Q:=by
 unfold Hf;walk_at "go";refine yB hr hl ?_;have hlen:(Z8 (kOf r) ps).length=ps.length:=by rw[(Y5 (kOf r) ps).length_eq,LY]
 have hperm:∀i∈Z8 (kOf r) ps,i<ps.length:=λi hi=>LR.1 ((Y5 (kOf r) ps).mem_iff.mp hi)
 have hol:(order (kOf r) (kb r) ps).length=ps.length:=by rw[(B5 (kOf r) (kb r) ps).length_eq,LY]
 have fin:∀E:DE,E=[some (.dat (.tuple [.int h,pl,r])),some (.dat (.tuple (ps.map pnD))),some (.dat (.int h)),some (.dat pl),some (.dat r),some (.dat (.list (j4 (order (kOf r) (kb r) ps))))]->wp (mRt (sN K0 (c7 (sN ee (c7 (pK (sW 5) oNo (oI (sV 2))) i7)) i7)) E F) (uQ Q):=by
  rintro E rfl;refine aw.2 (M2.2 (c6.2 (M2.2 (c6.2 (xN.2 (l6.2 (n9 rfl (xt.2 (BV.2 (v5.2 (v6 rfl (d6 EO (d6 Cs (f9.2 ?_))))))))))))));rw[iW,uy];have e:ee [.list (j4 ((order (kOf r) (kb r) ps).take h))]=some (.list (j4 (r9 h (kOf r) (kb r) ps))):=by simp only[ee,ia];rw[Lg (by rw[Lf,Ms,hol];omega),lM,LQ];rfl
  refine d6 e (f9.2 (d6 wK ?_));exact q
 refine⟨l3 rfl,j5 (k9.2 (U9.2 (qJ.2 (v4.2 ?_))))⟩;walk_at "go";refine rz hr ?_;refine d6 rfl (V0 (λe=>?_) λe=>?_)
 .refine x4.2 (zm (g:=λi=>!(pAt ps i).2.2) ?_);walk_at "go";refine⟨_,rfl,by rw[hlen];exact hl,λi hi=>?_,l3 rfl,?_⟩
  .exact Dh (hperm i hi)
  .refine fin _ ?_;unfold order;rw[Lg e];rfl
 .refine X6.2 (j5 ?_);refine fin _ ?_;unfold order;rw[Lk (by rw[e];simp)];rfl
end
variable [Fam]
def Bc {a b c:Bool}(h:(if true=true then !(My.bool a).eqv (My.bool b) else(My.bool a).eqv (My.bool b))=c):c = !decide (a=b):=by subst h;cases a <;> cases b <;> rfl
section
variable {F:FdS}{Q:My->FdS->Prop}
def jt {l:List Nat}{i:Nat}{d:My}(h:(j4 l)[i]? = some d):∃k,l[i]? = some k/\d = .int (k:Int):=by unfold j4 at h;rw[Lv]at h;obtain⟨k,e,rfl⟩:=LK.1 h;exact⟨k,e,rfl⟩
end
variable [Fam]
def Gh {i:Int}{n:Nat}(h0:-100000<=i)(h1:i<=100000):Gd n 1 0 (.int i):=qj (fx (by omega))
def gZ {l:List Nat}(h:∀i∈l,i<=1000):Gd 0 (1+l.length) 1 (.tuple (j4 l)):=by
 refine Gd.tup (M:=1) (λx hx=>?_) ?_
 .obtain⟨p,hp,rfl⟩:=LN.1 hx;have:=h p hp;exact Gh (by omega) (by omega)
 .have:=eZ (c:=1) (ds:=j4 l) λd hd=>by obtain⟨p,hp,rfl⟩:=LN.1 hd;simp[cnt]
  rw[J6]at this;omega
def oy {h k:Nat}{ps:List Pn}(hp:∀p∈ps,p.2.2=false):r9 h k true ps=r9 h k false ps:=by
 have hb:∀i,(pAt ps i).2.2=false:=λi=>by
  unfold pAt;rw[LG];cases e:ps[i]? with
  | none=>rfl
  | some p=>exact hp p (Md e)
 rw[bA,bA];have e:∀i j,E7 k true ps i j↔E7 k false ps i j:=λi j=>by unfold E7;simp[hb i,hb j]
 refine OP λi _=>?_
 rw[Nj];have:((List.range ps.length).filter λj=>decide (j≠i/\E7 k true ps j i))=(List.range ps.length).filter λj=>decide (j≠i/\E7 k false ps j i):=OP λj _=>by rw[Nj,e]
 rw[this]
end L3
namespace L3
open L2
variable {tn:Bool}
section
def fe (kp:Bool)(p:Pn):Pn:=(p.1,p.2.1-1,kp)
def P1 (P:List Nat)(ps:List Pn)(i:Nat):Bool:=decide (i∈P)&&decide ((pAt ps i).2.1<=1)
def L9 (P:List Nat)(kp:Bool)(ps:List Pn)(i:Nat):Pn:=if i∈P then fe kp (pAt ps i) else pAt ps i
def X8 (P:List Nat)(ps:List Pn):List Nat:=(List.range ps.length).filter λi=>!decide (i∈P)
def N9 (P:List Nat)(ps:List Pn):List Nat:=P.filter λi=>!decide ((pAt ps i).2.1<=1)
def U8 (P:List Nat)(ps:List Pn):List Nat:=P.filter λi=>decide ((pAt ps i).2.1<=1)
def M0 (tn:Bool)(P:List Nat)(ps:List Pn):List Nat:=if tn then X8 P ps++N9 P ps else(List.range ps.length).filter λi=>!P1 P ps i
theorem cu {α:Type}{R:α->α->Prop}(as:∀a b,R a b->R b a->False):∀{l₁ l₂:List α},l₁.Perm l₂->l₁.Pairwise R->l₂.Pairwise R->l₁=l₂
 | [],l₂,p,_,_=>p.nil_eq
 | a::r,[],p,_,_=>by have:=p.length_eq;simp at this
 | a::r,b::t,p,h1,h2=>by
  rw[LO]at h1 h2;have ab:a=b:=by
   rcases Lh.1 (p.mem_iff.1 (Lq (a:=a) (l:=r))) with e | e
   .exact e
   .rcases Lh.1 (p.mem_iff.2 (Lq (a:=b) (l:=t))) with e2 | e2
    .exact e2.symm
    .exact(as _ _ (h2.1 a e) (h1.1 b e2)).elim
  subst ab;rw[cu as (p.cons_inv) h1.2 h2.2]
theorem nW {α:Type}{p:Int × α}:∀{l:List (Int × α)},l.Pairwise (λa b=>a.1<b.1)->(∀q∈l,p.1≠q.1)->(aF p l).Pairwise λa b=>a.1<b.1
 | [],_,_=>by simp[aF]
 | q::r,h,hl=>by
  rw[LO]at h;rw[aF];split
  .rename_i hle;have hq:=hl q Lq;refine LO.2 ⟨λz hz=>?_,LO.2 h⟩;rcases Lh.1 hz with rfl | hz
   .omega
   .have:=h.1 z hz;omega
  .rename_i hgt;refine LO.2 ⟨λz hz=>?_,nW h.2 λz hz=>hl z (Le _ hz)⟩;rcases Lh.1 ((ao p r).mem_iff.mp hz) with rfl | hz
   .omega
   .exact h.1 z hz
theorem ju {α:Type}:∀{l:List (Int × α)},(l.map Prod.fst).Nodup->(C1 l).Pairwise λa b=>a.1<b.1
 | [],_=>.nil
 | p::r,h=>by rw[Lu,MA]at h;exact nW (ju h.2) λq hq e=>h.1 (e▸Nb ((G3 r).mem_iff.mp hq))
def ur {α:Type}{l m:List (Int × α)}(hp:m.Perm l)(hs:m.Pairwise λa b=>a.1<b.1):C1 l=m:=by
 have nd:(l.map Prod.fst).Nodup:=by refine(hp.map Prod.fst).nodup_iff.mp ?_;rw[NO,Nz];exact hs.imp λh=>by omega
 exact cu (R:=λa b:Int × α=>a.1<b.1) (λa b h1 h2=>by omega) ((G3 l).trans hp.symm) (ju nd) hs
def R8 {h k:Nat}{kp:Bool}{ps:List Pn}:∀i∈r9 h k kp ps,i<ps.length:=λi hi=>LR.1 (Ma.1 hi).1
def P4 {h k:Nat}{kp:Bool}{ps:List Pn}:(r9 h k kp ps).Nodup:=(P5 _).sublist Nc
def fg {P:List Nat}{ps:List Pn}(hs:∀i∈P,i<ps.length)(hn:P.Nodup):(X8 P ps++N9 P ps).Perm (M0 false P ps):=by
 unfold M0;rw[Lk (by simp)];refine dw ?_ ((P5 _).sublist Nc) λx=>?_
 .rw[MZ];refine⟨(P5 _).sublist Nc,hn.sublist Nc,λa ha b hb e=>?_⟩;subst e;have h1:=(Ma.1 ha).2;have h2:=(Ma.1 hb).1;simp[h2]at h1
 .unfold X8 N9 P1;simp only[Li,Ma,LR,Bool.not_eq_true',decide_eq_false_iff_not,Bool.and_eq_false_iff];constructor
  .rintro (⟨h1,h2⟩ | ⟨h1,h2⟩)
   .exact⟨h1,.inl h2⟩
   .exact⟨hs x h1,.inr h2⟩
  .rintro ⟨h1,h2⟩;by_cases hx:x∈P
   .exact .inr ⟨hx,h2.resolve_left λz=>z hx⟩
   .exact .inl ⟨h1,hx⟩
def yK (P:List Nat)(ps:List Pn):(M0 false P ps).Pairwise (· < ·):=by unfold M0;rw[Lk (by simp)];exact(W3 _).sublist Nc
def bo {P:List Nat}{ps:List Pn}(hs:∀i∈P,i<ps.length)(hn:P.Nodup):(M0 tn P ps).Perm (M0 false P ps):=by
 cases tn with
 | false=>exact .refl _
 | true =>have:=fg hs hn;unfold M0 at this ⊢;simpa using this
def after (h k:Nat)(kp tn:Bool)(ps:List Pn):List Pn:=(M0 tn (r9 h k kp ps) ps).map (L9 (r9 h k kp ps) kp ps)
def A5 (pl:Option Nat)(n m:Nat):Nat:=match pl with
 | some v=>min m (v-n)
 | none=>m
def z9 (pl:Option Nat)(ps:List Pn)(bt:List (Int×Int)):List Pn:=ps++(bt.take (A5 pl ps.length bt.length)).map λc=>(c.1,c.2,false)
def eJ (pl:Option Nat)(ps:List Pn)(bt:List (Int×Int)):(z9 pl ps bt).length=ps.length+A5 pl ps.length bt.length:=by unfold z9;rw[Mp,Lf,Ms];unfold A5;split <;> omega
end
section
theorem sP (f g:Nat->Int):∀l:List Nat,(l.map λi=>f i-g i).sum=(l.map f).sum-(l.map g).sum
 | []=>rfl
 | i::l=>by simp only[Lu,MT,sP f g l];omega
theorem rB {f:Nat->Int}{g:Nat->Bool}:∀{l:List Nat},(∀i∈l,g i=false->f i=0)->((l.filter g).map f).sum=(l.map f).sum
 | [],_=>rfl
 | i::l,h=>by
  have ih:=rB (l:=l) λj hj=>h j (Le _ hj)
  cases hg:g i with
  | true=>rw[Nm hg];simp only[Lu,MT,ih]
  | false =>have:=h i Lq hg;rw[NC (by simp[hg])];simp only[Lu,MT,ih];omega
theorem lH {g:Nat->Bool}:∀l:List Nat,(l.map λi=>if g i=true then(1:Int) else 0).sum=((l.filter g).length:Nat)
 | []=>rfl
 | i::l=>by
  cases hg:g i with
  | true=>rw[Nm hg];simp only[Lu,MT,lH l,hg,ML,Ly];omega
  | false=>rw[NC (by simp[hg])];simp[lH l,hg]
def xY {l m:List Int}(p:l.Perm m):l.sum=m.sum:=by
 induction p with
 | nil=>rfl
 | cons x _ ih=>simp only[MT,ih]
 | swap x y l=>simp only[MT];omega
 | trans _ _ h1 h2=>exact h1.trans h2
def X5 (ps:List Pn):Int:=(ps.map λp=>p.2.1).sum
def gH (ps:List Pn):Prop:=∀p∈ps,1<=p.2.1
def uq {α β:Type}(d:α)(f:α->β):∀l:List α,(List.range l.length).map (λi=>f (l.getD i d))=l.map f:=λl=>by
 apply List.ext_getElem
 .simp
 .intro i h1 h2;simp only[Lf,LY]at h1;simp[h1]
def qR (ps:List Pn):X5 ps=((List.range ps.length).map λi=>(pAt ps i).2.1).sum:=by unfold X5;rw[<-uq (0,0,false) (λp:Pn=>p.2.1) ps];rfl
def vm {ps:List Pn}(h:gH ps){i:Nat}(hi:i<ps.length):1<=(pAt ps i).2.1:=by
 have e:pAt ps i=ps[i]:=by unfold pAt;simp[hi]
 rw[e];exact h _ (List.getElem_mem hi)
def va {P:List Nat}{ps:List Pn}(hs:∀i∈P,i<ps.length)(hn:P.Nodup){i:Nat}(h:i∈M0 tn P ps):i<ps.length/\P1 P ps i=false:=by have:=(bo (tn:=tn) hs hn).mem_iff.mp h;unfold M0 at this;rw[Lk (by simp)]at this;have h2:=Ma.1 this;exact⟨LR.1 h2.1,by simpa using h2.2⟩
def oo {h k:Nat}{kp:Bool}{ps:List Pn}(hp:gH ps):gH (after h k kp tn ps):=λp hp'=>by
 obtain⟨i,hi,rfl⟩:=LN.1 hp';obtain⟨h1,h2⟩:=va R8 P4 hi;have h3:=vm hp h1;unfold L9;split
 .rename_i hm;unfold P1 at h2;simp only[hm,Oa,Pz,decide_eq_false_iff_not]at h2;show 1<=(pAt ps i).2.1-1;omega
 .exact h3
def jT {h k:Nat}{kp:Bool}{ps:List Pn}(hp:gH ps):X5 (after h k kp tn ps)=X5 ps-(min h ps.length:Nat):=by
 have hsub:=R8 (h:=h) (k:=k) (kp:=kp) (ps:=ps);have hnd:=P4 (h:=h) (k:=k) (kp:=kp) (ps:=ps);rw[<-aE h k kp ps,qR ps];unfold after X5;generalize r9 h k kp ps=P at hsub hnd;rw[LQ];have e1:=xY ((bo (tn:=tn) hsub hnd).map ((λp:Pn=>p.2.1) ∘ L9 P kp ps));rw[e1];unfold M0;rw[Lk (by simp)];have e2:(List.map ((λp:Pn=>p.2.1) ∘ L9 P kp ps) ((List.range ps.length).filter λi=>!P1 P ps i)).sum=(((List.range ps.length).filter λi=>!P1 P ps i).map λi=>(pAt ps i).2.1-(if decide (i∈P)=true then(1:Int) else 0)).sum:=by
  congr 1;refine Me λi hi=>?_
  show(L9 P kp ps i).2.1=_;unfold L9 fe;by_cases hm:i∈P <;> simp[hm]
 rw[e2,rB,sP,lH]
 .have e3:((List.range ps.length).filter λi=>decide (i∈P)).length=P.length:=by refine(dw ((P5 _).sublist Nc) hnd λx=>?_).length_eq;simp only[Ma,LR,MS];exact⟨λz=>z.2,λz=>⟨hsub x z,z⟩⟩
  rw[e3]
 .intro i hi hg;have h1:=vm hp (LR.1 hi);unfold P1 at hg;simp only[Bool.not_eq_false',NG,MS]at hg;simp only[hg.1,Oa,ML];omega
def zh {ps:List Pn}(hp:gH ps):(ps.length:Int)<=X5 ps:=by
 induction ps with
 | nil=>exact Oi _
 | cons p ps ih =>
  have h1:=hp p Lq;have h2:=ih λx hx=>hp x (Le _ hx)
  unfold X5 at h2 ⊢;simp only[Ly,Lu,MT];omega
def fh {h k:Nat}{kp:Bool}{ps:List Pn}:(after h k kp tn ps).length<=ps.length:=by unfold after;rw[Lf,(bo (tn:=tn) (R8 (h:=h) (k:=k) (kp:=kp) (ps:=ps)) P4).length_eq];have h2:=Ng (λi=>!P1 (r9 h k kp ps) ps i) (List.range ps.length);unfold M0;rw[Lk (by simp)];rw[LY]at h2;exact h2
abbrev Bt :=List (Int×Int)
def j3 (h k:Nat)(kp tn:Bool)(pl:Option Nat)(ps:List Pn)(bt:Bt):List Pn:=after h k kp tn (z9 pl ps bt)
def K5 (f:List Pn->Bt->List Pn)(ps:List Pn)(QA:List Bt)(i:Nat):List Pn:=(QA.take i).foldl f ps
def x9 (QA:List Bt)(i:Nat):Bt:=QA.getD i []
def V4 {f:List Pn->Bt->List Pn}{ps:List Pn}{QA:List Bt}:K5 f ps QA 0=ps:=by simp[K5]
def V2 {f:List Pn->Bt->List Pn}{ps:List Pn}{QA:List Bt}{i:Nat}(h:i<QA.length):K5 f ps QA (i+1)=f (K5 f ps QA i) (x9 QA i):=by
 unfold K5 x9;have e:QA.getD i []=QA[i]:=by simp[h]
 rw[OM,Lz h,NQ,e];rfl
def J5 (QA:List Bt):Nat:=(QA.map List.length).sum
def af {QA:List Bt}{i:Nat}(h:i<QA.length):J5 (QA.take (i+1))=J5 (QA.take i)+(x9 QA i).length:=by
 unfold J5 x9;have e:QA.getD i []=QA[i]:=by simp[h]
 rw[OM,Lz h,LD,Oq,e];rfl
def sS (QA:List Bt)(i:Nat):J5 (QA.take i)<=J5 QA:=by
 conv=>rhs;rw[<-List.take_append_drop i QA]
 unfold J5;rw[LD,Oq];omega
theorem jB {h k:Nat}{kp tn:Bool}{pl:Option Nat}{ps:List Pn}{QA:List Bt}:∀{i:Nat},i<=QA.length->(K5 (j3 h k kp tn pl) ps QA i).length<=ps.length+J5 (QA.take i)
 | 0,_=>by rw[V4];omega
 | i+1,hi=>by
  have ih:=jB (h:=h) (k:=k) (kp:=kp) (tn:=tn) (pl:=pl) (ps:=ps) (QA:=QA) (i:=i) (by omega);rw[V2 (by omega),af (by omega)];unfold j3;refine LS fh ?_;rw[eJ];have:A5 pl (K5 (j3 h k kp tn pl) ps QA i).length (x9 QA i).length<=(x9 QA i).length:=by unfold A5;split <;> omega
  unfold j3 at ih this;omega
def oQ {h k:Nat}{kp:Bool}{pl:Option Nat}{ps:List Pn}{QA:List Bt}(hl:ps.length+J5 QA<64){i:Nat}(hi:i<QA.length):(K5 (j3 h k kp tn pl) ps QA i).length+(x9 QA i).length<64:=by have h1:=jB (h:=h) (k:=k) (kp:=kp) (tn:=tn) (pl:=pl) (ps:=ps) (QA:=QA) (i:=i) (by omega);have h2:=af hi;have h3:=sS QA (i+1);omega
def xf (bt:Bt):Int:=(bt.map λc=>c.2).sum
def zu (bt:Bt):Prop:=∀c∈bt,1<=c.2
end
section
def Fo (pl:Option Nat)(x:Nat):Nat:=match pl with
 | some v=>min x v
 | none=>x
def nZ (pl:Option Nat)(n:Nat):Prop:=∀v,pl=some v->n<=v
def vq {pl:Option Nat}{n m:Nat}(h:nZ pl n):n+A5 pl n m=Fo pl (n+m):=by
 cases pl with
 | none=>rfl
 | some v =>have:=h v rfl;show n+min m (v-n)=min (n+m) v;omega
def yI {pl:Option Nat}{x:Nat}:nZ pl (Fo pl x):=λv hv=>by subst hv;exact Nat.min_le_right _ _
def nZ.le {pl:Option Nat}{n m:Nat}(h:nZ pl n)(hm:m<=n):nZ pl m:=λv hv=>LS hm (h v hv)
theorem V6 {h k:Nat}{kp tn:Bool}{pl:Option Nat}{ps:List Pn}{QA:List Bt}(h0:nZ pl ps.length):∀{i:Nat},i<=QA.length->nZ pl (K5 (j3 h k kp tn pl) ps QA i).length
 | 0,_=>by rw[V4];exact h0
 | i+1,hi=>by have ih:=V6 (h:=h) (k:=k) (kp:=kp) (tn:=tn) (QA:=QA) h0 (i:=i) (by omega);rw[V2 (by omega)];unfold j3 at ih ⊢;refine nZ.le ?_ fh;rw[eJ,vq ih];exact yI
end
section
end
section
end
section
section
variable {h c:Nat}{rk L w:Nat->Int}
end
end
end L3
namespace L3
open PySem PySem.Spec PyProof.Rows L2
variable {bt:List (Int×Int)}{QA:List Bt}
section
variable [Fam]
abbrev cmD (c:Int×Int):My:=.tuple [.int c.1,.int c.2]
def plD:Option Nat->My
 | some v=>.int (v:Int)
 | none=>.none
def bG :List DV->M My:=U2 ["house","stand","beat","places","room","entered"] (mSq (C5 3 (s2 ixD (sW 0) (sC (.int 1))))
  (mSq (C5 4 (sIf (uB (s2 (isD false) (sW 3) (sC .none))) (sN X3 (c7 (sW 2) i7)) (s2 fQ (sW 3) (sN X3 (c7 (sW 1) i7)))))
  (mSq (C5 5 (sLC (R5 (pK (sW 2) oNo (oI (sV 4)))) 2 [] (L6 2 (i9 (bN 0) (i9 (bN 1) M1))) Z3 (P2 (c7 (sV 0) (c7 (sV 1) (c7 (sC (.bool false)) i7))))))
  (mRt (P2 (c7 (s2 M5 (sW 1) (sN K0 (c7 (sW 5) i7))) (c7 (s2 fQ (sN X3 (c7 (sW 2) i7)) (sN X3 (c7 (sW 5) i7))) i7)))))))
def ag :List DV->M My:=U2 ["house","stand","rule","hands_on","waiting","served","gone","place","rank","left","begun","staying"] (mSq (C5 2 (s2 ixD (sW 0) (sC (.int 2))))
  (mSq (C5 3 (t8 Hf (vD (sV 0) (vD (sV 1) B9))))
  (mSq (C5 4 (sLC (cN (sW 1)) 2 [3] (L6 2 (i9 (bN 0) (i9 (bN 1) M1))) (uB (s2 (inD true) (sW 0) (sW 2))) (P2 (c7 (sV 0) (c7 (sV 1) i7)))))
  (mSq (jZ 5 6 (cO (cY i7)) (cO (cY i7)))
  (mSq (aS (R5 (sV 3)) (bN 7) (mSq (bQ (L6 3 (i9 (bN 8) (i9 (bN 9) (i9 (bN 10) M1)))) (s2 ixD (sW 1) (sW 7)))
  (mIf (uB (s2 gtD (sW 9) (sC (.int 1)))) (cn 5 (P2 (c7 (sV 7) (c7 (P2 (c7 (sV 8) (c7 (s2 fQ (sW 9) (sC (.int 1))) (c7 (t8 dX (vD (sV 2) B9)) i7)))) i7)))) (cn 6 (sV 7)))))
  (mSq (C5 11 (sIf (uB (s2 (eqD false) (sW 2) (sC (.str "turns")))) (s2 M5 (sW 4) (sW 5)) (sN ee (c7 (s2 M5 (sW 4) (sW 5)) i7))))
  (mRt (P2 (c7 (sV 11) (c7 (sV 3) (c7 (sN K0 (c7 (sW 6) i7)) i7)))))))))))
def jE :List DV->M My:=U2 ["house","stand","beat","filled","lost","staying","hands_on","gone"] (mSq (bQ (L6 2 (i9 (bN 3) (i9 (bN 4) M1))) (t8 bG (vD (sV 0) (vD (sV 1) (vD (sV 2) B9)))))
  (mSq (bQ (L6 3 (i9 (bN 5) (i9 (bN 6) (i9 (bN 7) M1)))) (t8 ag (vD (sV 0) (vD (sV 3) B9))))
  (mRt (P2 (c7 (sN K0 (c7 (sLC (R5 (sW 5)) 2 [] (L6 2 (i9 (bN 0) (i9 (bN 1) M1))) Z3 (sV 1)) i7)) (c7 (sV 4) (c7 (sV 7) i7)))))))
abbrev b2 :My->DE->Option DE:=L6 2 (i9 (bN 0) (i9 (bN 1) M1))
section
variable {F:FdS}
theorem xW {me:DE->M My}{α:Type}{x y:α->My}{f:α->My}{rest:DE}{Q:List My->FdS->Prop}:∀(ds:List α) (o o':Option DV),(∀d∈ds,∀(F:FdS) (Q:My->FdS->Prop),Q (f d) F->wp (me (some (.dat (x d))::some (.dat (y d))::rest) F) Q)->Q (ds.map f) F->wp (bf b2 Z3 me (ds.map λd=>.tuple [x d,y d]) (o::o'::rest) F) Q
 | [],o,o',_,q=>c9.2 q
 | d::ds,o,o',h,q=>by rw[Lu,bf];have e:b2 (.tuple [x d,y d]) (o::o'::rest)=some (some (.dat (x d))::some (.dat (y d))::rest):=rfl;rw[e,LC,d5];refine lN.2 ?_;rw[Lg rfl,d5];refine h d Lq F _ ?_;rw[d5];exact xW ds _ _ (λd hd=>h d (Le _ hd)) (c9.2 q)
def CK {mt:DE->M Bool}{me:DE->M My}{α:Type}{x y:α->My}{g:α->Bool}{f:α->My}{rest:DE}{Q:List My->FdS->Prop}:∀(ds:List α) (o o':Option DV),(∀d∈ds,∀(F:FdS) (Q:Bool->FdS->Prop),Q (g d) F->wp (mt (some (.dat (x d))::some (.dat (y d))::rest) F) Q) ->
  (∀d∈ds,g d=true->∀(F:FdS) (Q:My->FdS->Prop),Q (f d) F->wp (me (some (.dat (x d))::some (.dat (y d))::rest) F) Q)->Q ((ds.filter g).map f) F->wp (bf b2 mt me (ds.map λd=>.tuple [x d,y d]) (o::o'::rest) F) Q
 | [],o,o',_,_,q=>c9.2 q
 | d::ds,o,o',ht,h,q=>by
  rw[Lu,bf];have e:b2 (.tuple [x d,y d]) (o::o'::rest)=some (some (.dat (x d))::some (.dat (y d))::rest):=rfl;rw[e,LC,d5];refine ht d Lq F _ ?_;cases c:g d with
  | false =>rw[NC (by rw[c];simp)]at q;rw[Lk (by simp)];exact CK ds _ _ (λd hd=>ht d (Le _ hd)) (λd hd=>h d (Le _ hd)) q
  | true =>rw[Nm c,Lu]at q;rw[Lg rfl,d5];refine h d Lq c F _ ?_;rw[d5];exact CK ds _ _ (λd hd=>ht d (Le _ hd)) (λd hd=>h d (Le _ hd)) (c9.2 q)
def vy {ps:List Pn}:T7 0 (ps.map pnD)=(List.range ps.length).map λi=>.tuple [.int (i:Int),pnD (pAt ps i)]:=by
 walk_at "ke"
 have hi:=LR.1 hi;rw[Ml,LG,Lv,Lz hi];unfold pAt;rw[LG,Lz hi];rfl
def lF {a b:Int}:(My.int a).eqv (.int b)=decide (a=b):=by simp only[My.eqv];exact Bool.beq_eq_decide_eq ..
def fI {l:List Nat}{i:Nat}(hl:∀j∈l,j<=1000):inD true (.int (i:Int)) (.tuple (j4 l))=some (.bool (!decide (i∈l))):=by
 have hs:SeqAt.shaped (.tuple (j4 l))=true:=(gZ hl).shaped (by decide) (by decide);have hi:SeqAt.shaped (.int (i:Int))=true:=by simp[SeqAt.shaped,My.canLay0,My.depth]
 show(if SeqAt.shaped (.tuple (j4 l))=true/\SeqAt.shaped (.int (i:Int))=true then _ else none)=_;rw[Lg ⟨hs,hi⟩,Lg rfl];refine MF (λb=>some (My.bool (!b))) ?_;unfold j4;rw[List.any_map];have e:(l.any ((λy=>y.eqv (.int (i:Int))) ∘ λj:Nat=>My.int (j:Int)))=l.any λj=>decide (j=i):=by congr 1;funext j;simp only[Function.comp,lF];rw[Nj];omega
 rw[e];induction l with
 | nil=>simp
 | cons a l ih =>
  rw[Pu,ih λj hj=>hl j (Le _ hj)]
  .by_cases h:a=i
   .simp[h]
   .have:¬i=a:=λz=>h z.symm
    simp[h,this]
  .exact(gZ λj hj=>hl j (Le _ hj)).shaped (by decide) (by decide)
  .congr 1;funext j;simp only[Function.comp,lF];rw[Nj];omega
end
section
variable {F:FdS}{Q:My->FdS->Prop}
def dU (pl:Option Nat)(n:Nat):Prop:=∀v,pl=some v->n<=v
def Bp (pl:Option Nat)(n m:Nat):Int:=match pl with
 | some v=>(v:Int)-(n:Int)
 | none=>(m:Int)
def wa {pl:Option Nat}{n:Nat}{bt:List My}(hp:dU pl n):gJ bt none (some (Bp pl n bt.length))=bt.take (A5 pl n bt.length):=by
 cases pl with
 | none =>show gJ bt none (some ((bt.length:Nat):Int))=_;rw[iW];rfl
 | some v =>
  have:=hp v rfl;show gJ bt none (some ((v:Int)-(n:Int)))=bt.take (min bt.length (v-n));have e:(v:Int)-(n:Int)=((v-n:Nat):Int):=by omega
  rw[e,iW];by_cases hh:v-n<=bt.length
  .rw[OW hh]
  .rw[Pf (by omega),Mj (by omega),Mj (by omega)]
def oP {h r:My}{pl:Option Nat}{ps:List Pn}(hp:dU pl ps.length)(hl:ps.length+bt.length<=1000)(q:Q (.tuple [.tuple ((z9 pl ps bt).map pnD),.int ((bt.length-A5 pl ps.length bt.length:Nat):Int)]) F) :
  wp (bG [.dat (.tuple [h,plD pl,r]),.dat (.tuple (ps.map pnD)),.dat (.tuple (bt.map cmD))] F) Q:=by
 have rle:A5 pl ps.length bt.length<=bt.length:=by unfold A5;split <;> omega
 have fin:∀(E:DE) (room:Int) (a5:Option DV),room=Bp pl ps.length bt.length->E=[some (.dat (.tuple [h,plD pl,r])),some (.dat (.tuple (ps.map pnD))),some (.dat (.tuple (bt.map cmD))),some (.dat (plD pl)),some (.dat (.int room)),a5] ->
   wp (mSq (C5 5 (sLC (R5 (pK (sW 2) oNo (oI (sV 4)))) 2 [] (L6 2 (i9 (bN 0) (i9 (bN 1) M1))) Z3 (P2 (c7 (sV 0) (c7 (sV 1) (c7 (sC (.bool false)) i7))))))
    (mRt (P2 (c7 (s2 M5 (sW 1) (sN K0 (c7 (sW 5) i7))) (c7 (s2 fQ (sN X3 (c7 (sW 2) i7)) (sN X3 (c7 (sW 5) i7))) i7)))) E F) (uQ Q):=by
  rintro E room a5 hroom rfl;have ec:gJ (bt.map cmD) none (some room)=(bt.take (A5 pl ps.length bt.length)).map cmD:=by have:=wa (bt:=bt.map cmD) hp;rw[Lf]at this;rw[hroom,this,List.map_take]
  refine k9.2 (x4.2 (gh.2 (P3.2 (xN.2 (l6.2 (n9 rfl (xt.2 (BV.2 (v5.2 (v6 rfl (d6 EO (d6 Ct (d6 cZ ?_)))))))))))));rw[ec];refine⟨sz (by rw[Lf,Ms];omega),?_⟩;refine xW (x:=λc:Int×Int=>.int c.1) (y:=λc=>.int c.2) (f:=λc=>pnD (c.1,c.2,false)) _ _ _ (λc hc F Q q=>?_) ?_
  .walk_at "go";exact q
  .refine⟨l3 rfl,j5 ?_⟩;refine aw.2 (L8.2 (c6.2 (u7.2 (l6.2 (n9 rfl (M2.2 (c6.2 (l6.2 (n9 rfl (f9.2 (d6 wK (d6 (yf ?_) (c6.2 (u7.2 (M2.2 (c6.2 (l6.2 (n9 rfl (f9.2 (d6 dF (M2.2 (c6.2 (l6.2 (n9 rfl (f9.2 (d6 qy (d6 dE (f9.2 ⟨A7 rfl,?_⟩))))))))))))))))))))))))))))
   .rw[Lf,Lf,Ms];omega
   .have e1:ps.map pnD++(bt.take (A5 pl ps.length bt.length)).map (λc=>pnD (c.1,c.2,false))=(z9 pl ps bt).map pnD:=by unfold z9;rw[LD,LQ];rfl
    have e2:((List.map cmD bt).length:Int)-((List.map (λc:Int×Int=>pnD (c.1,c.2,false)) (bt.take (A5 pl ps.length bt.length))).length:Int)=((bt.length-A5 pl ps.length bt.length:Nat):Int):=by rw[Lf,Lf,Ms];omega
    rw[e1,e2];exact q
 unfold bG;refine cQ.2 (k9.2 (x4.2 (u7.2 (l6.2 (n9 rfl (u6.2 (d6 rfl ⟨l3 rfl,j5 (k9.2 (x4.2 (ip.2 (V9.2 (u7.2 (l6.2 (n9 rfl (u6.2 (d6 rfl (d6 rfl ?_))))))))))⟩)))))));cases pl with
 | none =>refine Z7 rfl ?_;refine M2.2 (c6.2 (l6.2 (n9 rfl (f9.2 (d6 dF ⟨l3 rfl,j5 ?_⟩)))));rw[Lf];exact fin _ _ none rfl rfl
 | some v =>refine A9 rfl ?_;refine u7.2 (l6.2 (n9 rfl (M2.2 (c6.2 (l6.2 (n9 rfl (f9.2 (d6 dF (d6 dE ⟨l3 rfl,j5 ?_⟩)))))))));rw[Lf];exact fin _ _ none rfl rfl
end
variable [Fam]
def tnB:My->Bool
 | .str x=>decide (x = "turns")
 | _=>false
abbrev prD (q:Nat×Pn):My:=.tuple [.int (q.1:Int),pnD q.2]
def vi {r:My}(h:r∈W8):eqD false r (.str "turns")=some (.bool (tnB r)):=by obtain⟨x,rfl,hx⟩:=R3 h;show some (My.bool (if false=true then !decide (x = "turns") else decide (x = "turns")))=_;rw[Lk (by decide)];rfl
def wV {c1 c2:DE->M DV}{E:DE}{F:FdS}{i j:Nat}{Q:Out->FdS->Prop}(h:wp (c1 E F) λx F1=>wp (c2 E F1) λy F2=>(i<E.length/\j<E.length)/\Q (.nx ((E.set i (some x)).set j (some y))) F2):wp (jZ i j c1 c2 E F) Q:=by
 unfold jZ;rw[d5];refine i8 h λx F1 h1=>?_
 rw[d5];refine i8 h1 λy F2 h2=>?_
 rw[Lg h2.1];exact c9.2 h2.2
def tK {m:DE->M (List My)}{E:DE}{F:FdS}{Q:DV->FdS->Prop}(h:wp (m E F) λx F1=>Q (.own x) F1):wp (cO m E F) Q:=by unfold cO;rw[d5];exact i8 h λx F1 h1=>c9.2 h1
def FT {m:DE->M My}{E:DE}{F:FdS}{Q:DV->FdS->Prop}(h:wp (m E F) λx F1=>Q (.dat x) F1):wp (cD m E F) Q:=by unfold cD;rw[d5];exact i8 h λx F1 h1=>c9.2 h1
theorem jo:∀l:List (Nat×Pn),(l.map prD).mapM lO=some (l.map λq=>(q.1:Int))
 | []=>rfl
 | q::l=>by rw[Lu,Nv,jo l];rfl
def uC {l:List (Nat×Pn)}(h:l≠[]):W0 (l.map prD)=none:=by
 cases l with
 | nil=>exact absurd rfl h
 | cons q l=>rfl
def zf {l m:List (Nat×Pn)}(hp:m.Perm l)(hs:m.Pairwise λa b=>a.1<b.1)(h64:l.length<64):ee [.list (l.map prD)]=some (.list (m.map prD)):=by
 by_cases hl:l=[]
 .subst hl;have:=hp.symm.nil_eq;subst this;rfl
 .have nd:(l.map λq=>(q.1:Int)).Nodup:=by refine(hp.map λq=>(q.1:Int)).nodup_iff.mp ?_;rw[NO,Nz];exact hs.imp λh=>by omega
  simp only[ee,uC hl,jo,LC];rw[Lg ⟨nd,by rw[Lf];exact h64⟩];have e:(l.map λq=>(q.1:Int)).zip (l.map prD)=l.map λq=>((q.1:Int),prD q):=az _ _ l
  rw[e,ur (l:=l.map λq=>((q.1:Int),prD q)) (m:=m.map λq=>((q.1:Int),prD q)) (hp.map _) (by rw[Nz];exact hs.imp λh=>by show(_:Int)<_;omega),LQ];rfl
section
variable {F:FdS}{Q:My->FdS->Prop}
def oK {r:My}{pl:My}{ps:List Pn}{h:Nat}(hr:r∈W8)(hl:ps.length<64)
  (q:Q (.tuple [.list ((M0 (tnB r) (r9 h (kOf r) (kb r) ps) ps).map λi=>prD (i,L9 (r9 h (kOf r) (kb r) ps) (kb r) ps i)),.tuple (j4 (r9 h (kOf r) (kb r) ps)),.tuple (j4 (U8 (r9 h (kOf r) (kb r) ps) ps))]) F) :
  wp (ag [.dat (.tuple [.int (h:Int),pl,r]),.dat (.tuple (ps.map pnD))] F) Q:=by
 have hsub:=R8 (h:=h) (k:=kOf r) (kp:=kb r) (ps:=ps);have hnd:=P4 (h:=h) (k:=kOf r) (kp:=kb r) (ps:=ps);have hplen:(r9 h (kOf r) (kb r) ps).length<=ps.length:=by rw[aE];omega
 unfold ag;walk_at "go";refine vS hr hl ?_;generalize r9 h (kOf r) (kb r) ps=P at q hsub hnd hplen;refine⟨l3 rfl,j5 (k9.2 (x4.2 (gh.2 (pN (l6.2 (n9 rfl (d6 cZ ?_)))))))⟩;rw[vy];refine⟨sz (by rw[Lf,LY];omega),?_⟩;refine CK (x:=λi:Nat=>.int (i:Int)) (y:=λi=>pnD (pAt ps i)) (g:=λi=>!decide (i∈P)) (f:=λi=>prD (i,pAt ps i)) _ _ _ (λi hi F Q q=>?_) (λi hi _ F Q q=>?_) ?_
 .walk_at "go";refine d6 (fI λj hj=>by have:=hsub j hj;omega) ?_;exact d6 rfl q
 .walk_at "go";exact q
 have ew:((List.range ps.length).filter λi=>!decide (i∈P))=X8 P ps:=rfl;rw[ew];refine⟨l3 rfl,j5 (k9.2 (wV (tK (Z0.2 (f9.2 ⟨sz (by decide),tK (Z0.2 (f9.2 ⟨sz (by decide),⟨l3 rfl,l3 rfl⟩,j5 (k9.2 (W7.2 (P3.2 (v5.2 (v6 rfl (d6 cZ ?_))))))⟩))⟩)))))⟩;refine G7 (λm E F'=>F'=F/\∃o7 o8 o9 o10 o11,E=[some (.dat (.tuple [.int (h:Int),pl,r])),some (.dat (.tuple (ps.map pnD))),some (.dat r),some (.dat (.tuple (j4 P))),some (.dat (.list ((X8 P ps).map λi=>prD (i,pAt ps i)))),some (.own ((N9 (P.take m) ps).map λi=>prD (i,fe (kb r) (pAt ps i)))),some (.own (j4 (U8 (P.take m) ps))),o7,o8,o9,o10,o11]) _ 0 _ F ⟨rfl,none,none,none,none,none,rfl⟩ ?_ ?_
 .rintro m d e E F1 ⟨rfl,o7,o8,o9,o10,o11,rfl⟩;obtain⟨i,ei,rfl⟩:=jt e;have hi:=hsub i (Md ei);have et:P.take (0+m+1)=P.take (0+m)++[i]:=by rw[Ml,OM,ei];rfl
  refine⟨_,rfl,?_⟩;refine k9.2 (aI.2 (u7.2 (l6.2 (n9 rfl (l6.2 (n9 rfl (d6 (Bm hi) (d6 rfl (j5 ?_)))))))));refine U9.2 (V9.2 (u7.2 (l6.2 (n9 rfl (u6.2 (d6 AL (d6 rfl (V0 (λhc=>?_) λhc=>?_))))))))
  .have hc:1<(pAt ps i).2.1:=Mc hc;have e1:N9 (P.take (0+m+1)) ps=N9 (P.take (0+m)) ps++[i]:=by unfold N9;rw[et,Mw,Nm (by simp;omega),NL]
   have e2:U8 (P.take (0+m+1)) ps=U8 (P.take (0+m)) ps:=by unfold U8;rw[et,Mw,NC (by simp;omega),NL,Mh]
   refine cB rfl (by have:=Ng (λi=>!decide ((pAt ps i).2.1<=1)) (P.take (0+m));have h2:=Ms (i:=0+m) (l:=P);rw[Lf];unfold N9;omega) ?_
   refine L8.2 (c6.2 (v5.2 (v6 rfl (c6.2 (L8.2 (c6.2 (v5.2 (v6 rfl (c6.2 (u7.2 (l6.2 (n9 rfl (u6.2 (d6 dE (c6.2 (v4.2 (E3.2 (v5.2 (v6 rfl (A4.2 ?_))))))))))))))))))));refine rz hr (f9.2 ⟨A7 rfl,f9.2 ⟨A7 rfl,?_⟩⟩);exact⟨_,rfl,rfl,_,_,_,_,_,by rw[e1,e2,LD];rfl⟩
  .have hc:¬1<(pAt ps i).2.1:=MG hc;have e1:N9 (P.take (0+m+1)) ps=N9 (P.take (0+m)) ps:=by unfold N9;rw[et,Mw,NC (by simp;omega),NL,Mh]
   have e2:j4 (U8 (P.take (0+m+1)) ps)=j4 (U8 (P.take (0+m)) ps)++[.int (i:Int)]:=by unfold U8;rw[et,Mw,Nm (by simp;omega),NL];simp only[j4,LD,Lu,Mt]
   refine cB rfl (by have:=Ng (λi=>decide ((pAt ps i).2.1<=1)) (P.take (0+m));have h2:=Ms (i:=0+m) (l:=P);rw[J6];unfold U8;omega) (v5.2 (v6 rfl ?_))
   exact⟨_,rfl,rfl,_,_,_,_,_,by rw[e1,e2];rfl⟩
 .rintro E F1 ⟨rfl,o7,o8,o9,o10,o11,rfl⟩;rw[J6,Ml,Oh];have lw:(X8 P ps).length<=ps.length:=by have:=Ng (λi=>!decide (i∈P)) (List.range ps.length);rw[LY]at this;exact this
  have ls:(N9 P ps).length<=ps.length:=by have:=Ng (λi=>!decide ((pAt ps i).2.1<=1)) P;unfold N9;omega
  have eW:(X8 P ps).map (λi=>prD (i,pAt ps i))=(X8 P ps).map λi=>prD (i,L9 P (kb r) ps i):=Me λi hi=>by
   have h2:i ∉ P:=by have:=(Ma.1 hi).2;simpa using this
   unfold L9;rw[Lk h2]
  have eS:(N9 P ps).map (λi=>prD (i,fe (kb r) (pAt ps i)))=(N9 P ps).map λi=>prD (i,L9 P (kb r) ps i):=Me λi hi=>by have h2:i∈P:=(Ma.1 hi).1;unfold L9;rw[Lg h2]
  have eA:(X8 P ps).map (λi=>prD (i,pAt ps i))++(N9 P ps).map (λi=>prD (i,fe (kb r) (pAt ps i)))=((X8 P ps++N9 P ps).map λi=>(i,L9 P (kb r) ps i)).map prD:=by rw[eW,eS,<-LD,LQ];rfl
  have last:∀(E:DE) (st:My),st = .list ((M0 (tnB r) P ps).map λi=>prD (i,L9 P (kb r) ps i))->E=[some (.dat (.tuple [.int (h:Int),pl,r])),some (.dat (.tuple (ps.map pnD))),some (.dat r),some (.dat (.tuple (j4 P))),some (.dat (.list ((X8 P ps).map λi=>prD (i,pAt ps i)))),some (.own ((N9 P ps).map λi=>prD (i,fe (kb r) (pAt ps i)))),some (.own (j4 (U8 P ps))),o7,o8,o9,o10,some (.dat st)] ->
    wp (mRt (P2 (c7 (sV 11) (c7 (sV 3) (c7 (sN K0 (c7 (sW 6) i7)) i7)))) E F1) (uQ Q):=by rintro E st rfl rfl;walk_at "go";exact q
  refine j5 (k9.2 (x4.2 (ip.2 (V9.2 (u7.2 (l6.2 (n9 rfl (u6.2 (d6 (vi hr) (d6 rfl (V0 (λht=>?_) λht=>?_)))))))))))
  .refine u7.2 (l6.2 (n9 rfl (l6.2 (eT rfl (d6 (vb ?_) ⟨l3 rfl,j5 (last _ _ ?_ rfl)⟩)))))
   .rw[Lf,Lf];omega
   .rw[eA,LQ];unfold M0;rw[Lg ht];rfl
  .refine M2.2 (c6.2 (u7.2 (l6.2 (n9 rfl (l6.2 (eT rfl (d6 (vb ?_) (f9.2 ?_))))))))
   .rw[Lf,Lf];omega
   .rw[eA];have hperm:=(fg hsub hnd).symm.map λi=>(i,L9 P (kb r) ps i)
    have hsrt:((M0 false P ps).map λi=>(i,L9 P (kb r) ps i)).Pairwise λa b=>a.1<b.1:=by rw[Nz];exact yK P ps
    have hlen:((X8 P ps++N9 P ps).map λi=>(i,L9 P (kb r) ps i)).length<64:=by rw[Lf,(fg hsub hnd).length_eq];have:=Ng (λi=>!P1 P ps i) (List.range ps.length);unfold M0;rw[Lk (by simp)];rw[LY]at this;omega
    refine d6 (zf hperm hsrt hlen) ⟨l3 rfl,j5 (last _ _ ?_ rfl)⟩;rw[ht,LQ];rfl
def xq {r:My}{pl:Option Nat}{ps:List Pn}{h:Nat}(hr:r∈W8)(hp:dU pl ps.length)(hl:ps.length+bt.length<64)
  (q:Q (.tuple [.tuple ((after h (kOf r) (kb r) (tnB r) (z9 pl ps bt)).map pnD),.int ((bt.length-A5 pl ps.length bt.length:Nat):Int),.tuple (j4 (U8 (r9 h (kOf r) (kb r) (z9 pl ps bt)) (z9 pl ps bt)))]) F) :
  wp (jE [.dat (.tuple [.int (h:Int),plD pl,r]),.dat (.tuple (ps.map pnD)),.dat (.tuple (bt.map cmD))] F) Q:=by
 have hfl:(z9 pl ps bt).length<64:=by rw[eJ];unfold A5;split <;> omega
 unfold jE;walk_at "go";refine oP hp (by omega) ?_;walk_at "go";refine oK hr hfl ?_;refine d6 rfl (j5 ?_);refine aw.2 (L8.2 (c6.2 (M2.2 (c6.2 (gh.2 (P3.2 (l6.2 (n9 rfl (d6 bg ⟨sz ?_,?_⟩)))))))))
 .have h1:=(bo (tn:=tnB r) (R8 (h:=h) (k:=kOf r) (kp:=kb r) (ps:=z9 pl ps bt)) P4).length_eq;have h2:=Ng (λi=>!P1 (r9 h (kOf r) (kb r) (z9 pl ps bt)) (z9 pl ps bt) i) (List.range (z9 pl ps bt).length);rw[Lf,h1];unfold M0;rw[Lk (by simp)];rw[LY]at h2;omega
 .refine xW (x:=λi:Nat=>.int (i:Int)) (y:=λi=>pnD (L9 (r9 h (kOf r) (kb r) (z9 pl ps bt)) (kb r) (z9 pl ps bt) i)) (f:=λi=>pnD (L9 (r9 h (kOf r) (kb r) (z9 pl ps bt)) (kb r) (z9 pl ps bt) i)) _ _ _ (λi hi F Q q=>?_) ?_
  .walk_at "go";exact q
  .walk_at "go";unfold after at q;rw[LQ]at q;exact q
end
variable [Fam]
def nI :List DV->M My:=U2 ["house","way","stand","stands","lost","gone","beat","following","turned_away","places"] (mSq (lC 3 4 5 (cO (cY (c7 (sV 2) i7))) (cO (cY i7)) (cO (cY i7)))
  (mSq (aS (R5 (sV 1)) (bN 6) (mSq (bQ (L6 3 (i9 (bN 7) (i9 (bN 8) (i9 (bN 9) M1)))) (t8 jE (vD (sV 0) (vD (s2 ixD (sW 3) (s1 yU (sC (.int 1)))) (vD (sV 6) B9)))))
  (mSq (cn 3 (sV 7))
  (mSq (cn 4 (sV 8))
  (cn 5 (sN X3 (c7 (sW 9) i7)))))))
  (mRt (P2 (c7 (sN K0 (c7 (sW 3) i7)) (c7 (sN K0 (c7 (sW 4) i7)) (c7 (sN K0 (c7 (sW 5) i7)) i7)))))))
abbrev btD (b:Bt):My:=.tuple (b.map cmD)
abbrev stD (ps:List Pn):My:=.tuple (ps.map pnD)
def Au {c1 c2 c3:DE->M DV}{E:DE}{F:FdS}{i j k:Nat}{Q:Out->FdS->Prop}(h:wp (c1 E F) λx F1=>wp (c2 E F1) λy F2=>wp (c3 E F2) λz F3=>(i<E.length/\j<E.length/\k<E.length)/\Q (.nx (((E.set i (some x)).set j (some y)).set k (some z))) F3):wp (lC i j k c1 c2 c3 E F) Q:=by
 unfold lC;rw[d5];refine i8 h λx F1 h1=>?_
 rw[d5];refine i8 h1 λy F2 h2=>?_
 rw[d5];refine i8 h2 λz F3 h3=>?_
 rw[Lg h3.1];exact c9.2 h3.2
def yh {ds:List My}{x:My}:ixD (.list (ds++[x])) (.int (-1))=some x:=by
 show atI (ds++[x]) (-1)=some x;unfold atI;have e:ixN (ds++[x]).length (-1)=some ds.length:=by unfold ixN;rw[Lk (by decide),Lg (by simp only[Mp,Ly,MH];omega)];congr 1;simp only[Mp,Ly,MH];omega
 rw[e,LC,LL (Ln _),Nat.sub_self];rfl
def ym {i:Nat}{d:My}(h:(QA.map btD)[i]? = some d):i<QA.length/\d=btD (x9 QA i):=by rw[Lv]at h;obtain⟨b,e,rfl⟩:=LK.1 h;obtain⟨hi,rfl⟩:=Lj.1 e;exact⟨hi,by unfold x9;simp[hi]⟩
def yZ :T7 0 (QA.map btD)=(List.range QA.length).map λi=>.tuple [.int (i:Int),btD (x9 QA i)]:=by
 walk_at "ke"
 have hi:=LR.1 hi;rw[Ml,LG,Lv,Lz hi];unfold x9;rw[LG,Lz hi];rfl
def yL {n i:Nat}{d:My}{f:Nat->My}(h:((List.range n).map f)[i]? = some d):i<n/\d=f i:=by rw[Lv]at h;obtain⟨b,e,rfl⟩:=LK.1 h;obtain⟨hi,rfl⟩:=Lj.1 e;simp only[LY]at hi;exact⟨hi,by simp⟩
def X7 (pl:Option Nat)(ps:List Pn)(bt:Bt):Nat:=bt.length-A5 pl ps.length bt.length
def cL (h k:Nat)(kp:Bool)(pl:Option Nat)(ps:List Pn)(bt:Bt):Nat:=(U8 (r9 h k kp (z9 pl ps bt)) (z9 pl ps bt)).length
section
variable {F:FdS}{Q:My->FdS->Prop}
def Bs {r:My}{pl:Option Nat}{ps:List Pn}{h:Nat}(hr:r∈W8)(hp:∀i<QA.length,dU pl (K5 (j3 h (kOf r) (kb r) (tnB r) pl) ps QA i).length)(hl:ps.length+J5 QA<64)(hn:QA.length<=1000)
  (q:Q (.tuple [.tuple ((List.range (QA.length+1)).map λi=>stD (K5 (j3 h (kOf r) (kb r) (tnB r) pl) ps QA i)),.tuple ((List.range QA.length).map λi=>.int (X7 pl (K5 (j3 h (kOf r) (kb r) (tnB r) pl) ps QA i) (x9 QA i):Nat)),.tuple ((List.range QA.length).map λi=>.int (cL h (kOf r) (kb r) pl (K5 (j3 h (kOf r) (kb r) (tnB r) pl) ps QA i) (x9 QA i):Nat))]) F) :
  wp (nI [.dat (.tuple [.int (h:Int),plD pl,r]),.dat (.tuple (QA.map btD)),.dat (stD ps)] F) Q:=by
 have hfit:=λi hi=>oQ (h:=h) (k:=kOf r) (kp:=kb r) (tn:=tnB r) (pl:=pl) (ps:=ps) (QA:=QA) hl (i:=i) hi
 have hsucc:=λi hi=>V2 (f:=j3 h (kOf r) (kb r) (tnB r) pl) (ps:=ps) (QA:=QA) (i:=i) hi
 have hzero:=V4 (f:=j3 h (kOf r) (kb r) (tnB r) pl) (ps:=ps) (QA:=QA);generalize K5 (j3 h (kOf r) (kb r) (tnB r) pl) ps QA=st at q hp hfit hsucc hzero;unfold nI;walk_at "kg";refine k9.2 (Au (tK (Z0.2 (c6.2 (v5.2 (v6 rfl (f9.2 ⟨A7 rfl,tK (Z0.2 (f9.2 ⟨sz (by decide),tK (Z0.2 (f9.2 ⟨sz (by decide),⟨l3 rfl,l3 rfl,l3 rfl⟩,j5 (k9.2 (W7.2 (P3.2 (v5.2 (v6 rfl (d6 cZ ?_))))))⟩))⟩))⟩)))))));refine G7 (λm E F'=>F'=F/\∃o6 o7 o8 o9,E=[some (.dat (.tuple [.int (h:Int),plD pl,r])),some (.dat (.tuple (QA.map btD))),some (.dat (stD ps)),some (.own ((List.range (m+1)).map λi=>stD (st i))),some (.own ((List.range m).map λi=>.int (X7 pl (st i) (x9 QA i):Nat))),some (.own ((List.range m).map λi=>.int (cL h (kOf r) (kb r) pl (st i) (x9 QA i):Nat))),o6,o7,o8,o9]) _ 0 _ F ⟨rfl,none,none,none,none,by rw[<-hzero];rfl⟩ ?_ ?_
 .rintro m d e E F1 ⟨rfl,o6,o7,o8,o9,rfl⟩;rw[Ml];obtain⟨hm,rfl⟩:=ym e;refine⟨_,rfl,?_⟩;have es:(List.range (m+1)).map (λi=>stD (st i))=(List.range m).map (λi=>stD (st i))++[stD (st m)]:=by rw[MM,LD];rfl
  refine k9.2 (aI.2 (v4.2 (E3.2 (v5.2 (v6 rfl (E3.2 (u7.2 (l6.2 (eT rfl (CW.2 (u6.2 (d6 rfl ?_)))))))))))) ;rw[es];refine d6 yh (E3.2 (v5.2 (v6 rfl (A4.2 ?_))));refine xq hr (hp m hm) (hfit m hm) (d6 rfl (j5 ?_));refine k9.2 (cB rfl (by simp;omega) (v5.2 (v6 rfl (j5 ?_))));refine k9.2 (cB rfl (by simp;omega) (v5.2 (v6 rfl (j5 ?_))));refine cB rfl (by simp;omega) (M2.2 (c6.2 (l6.2 (n9 rfl (f9.2 (d6 rfl ?_))))));have e3:(List.range (m+1+1)).map (λi=>stD (st i))=(List.range m).map (λi=>stD (st i))++[stD (st m)]++[stD (st (m+1))]:=by rw[MM,LD,es];rfl
  have e4:(List.range (m+1)).map (λi=>My.int (X7 pl (st i) (x9 QA i):Nat))=(List.range m).map (λi=>My.int (X7 pl (st i) (x9 QA i):Nat))++[.int (X7 pl (st m) (x9 QA m):Nat)]:=by rw[MM,LD];rfl
  have e5:(List.range (m+1)).map (λi=>My.int (cL h (kOf r) (kb r) pl (st i) (x9 QA i):Nat))=(List.range m).map (λi=>My.int (cL h (kOf r) (kb r) pl (st i) (x9 QA i):Nat))++[.int (cL h (kOf r) (kb r) pl (st m) (x9 QA m):Nat)]:=by rw[MM,LD];rfl
  have e6:cL h (kOf r) (kb r) pl (st m) (x9 QA m)=(j4 (U8 (r9 h (kOf r) (kb r) (z9 pl (st m) (x9 QA m))) (z9 pl (st m) (x9 QA m)))).length:=by unfold cL;rw[J6]
  exact⟨_,rfl,rfl,_,_,_,_,by rw[e3,e4,e5,hsucc m hm,e6];rfl⟩
 .rintro E F1 ⟨rfl,o6,o7,o8,o9,rfl⟩;rw[Ml,Lf];refine j5 ?_;walk_at "go";exact q
end
variable [Fam]
section
variable {F:FdS}{Q:My->FdS->Prop}
end
variable [Fam]
def lJ (nm:List Str):List DV->M My:=U2 nm (mSq (gB 3 (cY i7))
  (mSq (C5 4 (sC (.int 0)))
  (mSq (aS (eI (c7 (t8 C6 (vF 0 (vD (s2 M5 (sW 1) (sC (.int 1))) B9))) i7)) (bN 5) (mSq (gB 6 (cY i7))
  (mSq (aS (eI (c7 (s2 ixD (sC (.list [.int 0,.int 0,.int 1,.int 1,.int 2,.int 3])) (t8 C6 (vF 0 (vD (sC (.int 6)) B9)))) i7)) (bN 7) (mIf (uB (s2 ltD (sW 4) (sC (.int 40)))) (mSq (cn 6 (P2 (c7 (t8 C6 (vF 0 (vD (sC (.int 2)) B9))) (c7 (s2 M5 (sC (.int 1)) (t8 C6 (vF 0 (vD (sV 2) B9)))) i7))))
  (C5 4 (s2 M5 (sW 4) (sC (.int 1))))) mNx))
  (cn 3 (sN K0 (c7 (sW 6) i7))))))
  (mRt (sN K0 (c7 (sW 3) i7))))))
def eC (nm:List Str):List DV->M My:=U2 ["_law_feed_here","_law_beats"] (mSq (C5 1 (s2 ixD (sC (.list [.int 5,.int 9,.int 14,.int 24])) (t8 C6 (vF 0 (vD (sC (.int 4)) B9)))))
  (mRt (t8 (lJ nm) (vF 0 (vD (sV 1) (vD (s2 ixD (sC (.list [.int 1,.int 3,.int 6])) (t8 C6 (vF 0 (vD (sC (.int 3)) B9)))) B9))))))
def ue (c:Int×Int):Prop:=0<=c.1/\c.1<=1/\1<=c.2/\c.2<=6
structure WayOk (n:Nat) (QA:List Bt):Prop where
 len:QA.length<=n
 many:J5 QA<=40
 ok:∀b∈QA,∀c∈b,ue c
def nG (QA:List Bt)(b:Bt):J5 (QA++[b])=J5 QA+b.length:=by unfold J5;rw[LD,Oq];rfl
def six {r:Int}(r0:0<=r)(r1:r<6):∃c:Nat,ixD (.list [.int 0,.int 0,.int 1,.int 1,.int 2,.int 3]) (.int r)=some (.int (c:Int))/\c<=3:=by
 have:r=0\/r=1\/r=2\/r=3\/r=4\/r=5:=by omega
 rcases this with rfl | rfl | rfl | rfl | rfl | rfl
 .exact⟨0,rfl,by decide⟩
 .exact⟨0,rfl,by decide⟩
 .exact⟨1,rfl,by decide⟩
 .exact⟨1,rfl,by decide⟩
 .exact⟨2,rfl,by decide⟩
 .exact⟨3,rfl,by decide⟩
def yM {nm:List Str}(hnm:nm.length=8){n w:Nat}(hn:n<=24)(w1:1<=w)(w2:w<=6):Tr (lJ nm) [.feed,.dat (.int (n:Int)),.dat (.int (w:Int))] 170 (λd=>∃QA:List Bt,d = .tuple (QA.map btD)/\WayOk n QA):=Tr.of λF hF=>by
 unfold lJ;refine cQ.2 ?_;have es:K4 nm [.feed,.dat (.int (n:Int)),.dat (.int (w:Int))]=[some .feed,some (.dat (.int (n:Int))),some (.dat (.int (w:Int))),none,none,none,none,none]:=by unfold K4;rw[hnm];rfl
 rw[es];walk_at "go";refine K7 (by omega) (by omega) (by omega) λr F1 r0 r1 t1=>?_
 refine f9.2 (d6 (ig (by omega) (by omega)) ?_);refine G7 (λm E F'=>F'.t<=F.t+1+7*m/\∃QA:List Bt,∃o5 o6 o7,E=[some .feed,some (.dat (.int (n:Int))),some (.dat (.int (w:Int))),some (.own (QA.map btD)),some (.dat (.int (J5 QA:Nat))),o5,o6,o7]/\QA.length=m/\J5 QA<=40/\∀b∈QA,∀c∈b,ue c) _ 0 _ F1 ⟨by omega,[],none,none,none,rfl,rfl,by decide,λb hb=>by cases hb⟩ ?_ ?_
 .rintro m d e E F2 ⟨t2,QA,o5,o6,o7,rfl,hw,hm,ho⟩;have hi:=(Lj.1 e).1;rw[bT]at hi;refine⟨_,rfl,?_⟩;walk_at "go";refine K7 (by decide) (by decide) (by omega) λr2 F3 r20 r21 t3=>?_
  obtain⟨c,ec,hc⟩:=six r20 r21;refine d6 ec (f9.2 (d6 (ig (by omega) (by omega)) ?_));refine G7 (λj E F'=>F'.t<=F2.t+1+2*j/\∃bt:Bt,∃o5 o7,E=[some .feed,some (.dat (.int (n:Int))),some (.dat (.int (w:Int))),some (.own (QA.map btD)),some (.dat (.int (J5 QA+bt.length:Nat))),o5,some (.own (bt.map cmD)),o7]/\bt.length<=j/\J5 QA+bt.length<=40/\∀c∈bt,ue c) _ 0 _ F3 ⟨by omega,[],_,_,rfl,Ln _,hm,λb hb=>by cases hb⟩ ?_ ?_
  .rintro j d2 e2 E F4 ⟨t4,bt,o5,o7,rfl,hbl,hbm,hbo⟩;have hj:=(Lj.1 e2).1;rw[bT]at hj;refine⟨_,rfl,?_⟩;refine U9.2 (V9.2 (u7.2 (l6.2 (n9 rfl (u6.2 (d6 rfl (d6 rfl (V0 (λhc=>?_) λhc=>?_))))))))
   .have hc:((J5 QA+bt.length:Nat):Int)<40:=Mc hc;refine k9.2 (cB rfl (by rw[Lf];omega) ?_);walk_at "go";refine K7 (by decide) (by decide) (by omega) λa F5 a0 a1 t5=>?_
    walk_at "go";refine K7 (by omega) (by omega) (by omega) λb F6 b0 b1 t6=>?_
    walk_at "go";refine⟨_,rfl,by omega,bt++[(a,1+b)],o5,some (.dat d2),?_,by simp;omega,by simp;omega,λc hc=>?_⟩
    .have e1:(J5 QA+(bt++[(a,1+b)]).length:Nat)=(J5 QA+bt.length)+1:=by simp;omega
     rw[e1,LD];rfl
    .rcases Li.1 hc with hc | hc
     .exact hbo c hc
     .simp only[Mv]at hc;subst hc;exact⟨a0,by show a<=1;omega,by show 1<=1+b;omega,by show 1+b<=6;omega⟩
   .exact X6.2 ⟨_,rfl,by omega,bt,_,_,rfl,by omega,hbm,hbo⟩
  .rintro E F4 ⟨t4,bt,o5,o7,rfl,hbl,hbm,hbo⟩;rw[bT]at t4;refine j5 (cB rfl (by rw[Lf];omega) ?_);walk_at "go";refine⟨_,rfl,by omega,QA++[bt],o5,some (.own (bt.map cmD)),o7,?_,by simp[hw],by rw[nG];exact hbm,λb hb=>?_⟩
   .rw[nG,LD];rfl
   .rcases Li.1 hb with hb | hb
    .exact ho b hb
    .simp only[Mv]at hb;subst hb;exact hbo
 .rintro E F2 ⟨t2,QA,o5,o6,o7,rfl,hw,hm,ho⟩;rw[bT]at t2 hw;walk_at "go";exact⟨by omega,QA,rfl,by omega,hm,ho⟩
def wz {nm:List Str}(hnm:nm.length=8):Tr (eC nm) [.feed] 172 (λd=>∃QA:List Bt,d = .tuple (QA.map btD)/\WayOk 24 QA):=Tr.of λF hF=>by
 unfold eC;walk_at "go";refine K7 (by decide) (by decide) (by omega) λr F1 r0 r1 t1=>?_
 obtain⟨n,en,hn⟩:∃n:Nat,ixD (.list [.int 5,.int 9,.int 14,.int 24]) (.int r)=some (.int (n:Int))/\n<=24:=by
  have:r=0\/r=1\/r=2\/r=3:=by omega
  rcases this with rfl | rfl | rfl | rfl
  .exact⟨5,rfl,by decide⟩
  .exact⟨9,rfl,by decide⟩
  .exact⟨14,rfl,by decide⟩
  .exact⟨24,rfl,by decide⟩
 refine d6 en ?_;walk_at "go";refine K7 (by decide) (by decide) (by omega) λr2 F2 r20 r21 t2=>?_
 obtain⟨w,ew,w1,w2⟩:∃w:Nat,ixD (.list [.int 1,.int 3,.int 6]) (.int r2)=some (.int (w:Int))/\1<=w/\w<=6:=by
  have:r2=0\/r2=1\/r2=2:=by omega
  rcases this with rfl | rfl | rfl
  .exact⟨1,rfl,by decide,by decide⟩
  .exact⟨3,rfl,by decide,by decide⟩
  .exact⟨6,rfl,by decide,by decide⟩
 refine d6 ew (A4.2 ?_);refine(yM hnm hn w1 w2).wp (by omega) λd F3 t3 hd=>?_
 walk_at "go";obtain⟨QA,rfl,hw⟩:=hd;exact⟨by omega,QA,rfl,⟨LS hw.len hn,hw.many,hw.ok⟩⟩
variable [Fam]
def eq0 {i:Int}:eqD false (.int i) (.int 0)=some (.bool (decide (i=0))):=by show some (My.bool (if false=true then !(My.int _).eqv (.int 0) else(My.int _).eqv (.int 0)))=_;rw[Lk (by decide),lF]
def Du {ds:List My}{N k:Nat}(h:Gd 0 N k (.list ds))(hk:k<=50):eqD true (.list ds) (.list ds)=some (.bool false):=by have hs:=h.shaped (by decide) hk;show(if SeqAt.shaped (.list ds)=true/\SeqAt.shaped (.list ds)=true then _ else none)=_;rw[Lg (show SeqAt.shaped (.list ds)=true/\SeqAt.shaped (.list ds)=true from⟨hs,hs⟩),Lg rfl];refine MF (λb=>some (My.bool b)) ?_;have:=PySem.SeqAt.eqv_refl (.list ds) (h.nod (by decide)).cl;rw[this];rfl
def Cq {i j:Int}(h0:-(2 ^ 62)<=i)(h1:i<2 ^ 62)(h2:-(2 ^ 62)<=j)(h3:j<2 ^ 62):mv [.int i,.int j]=some (aQ i (j-i).toNat):=Lg ⟨h0,h1,h2,h3⟩
def FG {me:DE->M My}{α:Type}{F:FdS}{x:α->My}{f:α->My}{rest:DE}{Q:List My->FdS->Prop}:∀(ds:List α) (o:Option DV),(∀d∈ds,∀(F:FdS) (Q:My->FdS->Prop),Q (f d) F->wp (me (some (.dat (x d))::rest) F) Q)->Q (ds.map f) F->wp (bf (bN 0) Z3 me (ds.map x) (o::rest) F) Q:=λds o h q=>by
 have key:∀(l:List α) (o:Option DV) (Q:List My->FdS->Prop),(∀d∈l,d∈ds)->Q (l.map f) F->wp (bf (bN 0) Z3 me (l.map x) (o::rest) F) Q:=by
  intro l;induction l with
  | nil=>intro o Q _ q;exact c9.2 q
  | cons d l ih =>intro o Q hs q;rw[Lu,bf];have e:bN 0 (x d) (o::rest)=some (some (.dat (x d))::rest):=rfl;rw[e,LC,d5];refine lN.2 ?_;rw[Lg rfl,d5];refine h d (hs d Lq) F _ ?_;rw[d5];exact ih _ _ (λz hz=>hs z (Le _ hz)) (c9.2 q)
 exact key ds o Q (λd hd=>hd) q
def oD {P:Int×Int->Prop}(h:∀b∈QA,∀c∈b,P c)(i:Nat):∀c∈x9 QA i,P c:=by
 unfold x9;by_cases hi:i<QA.length
 .have:QA.getD i []=QA[i]:=by simp[hi]
  rw[this];exact h _ (List.getElem_mem hi)
 .have:QA.getD i []=[]:=by simp[Nat.not_lt.1 hi]
  rw[this];intro c hc;cases hc
def As {b:Bt}(h:∀c∈b,ue c):0<=xf b/\xf b<=6*b.length:=by
 induction b with
 | nil=>exact⟨Oi _,Oi _⟩
 | cons c b ih =>
  obtain⟨a1,a2,a3,a4⟩:=h c Lq;obtain⟨i1,i2⟩:=ih λx hx=>h x (Le _ hx)
  unfold xf at i1 i2 ⊢;simp only[Lu,MT,Ly];omega
variable [Fam]
def G1 :List DV->M My:=U2 ["course","waited","gone_at","word","beat","waits"] (mSq (bQ (L6 3 (i9 (bN 3) (i9 (bN 4) (i9 (bN 5) M1)))) (sV 0))
  (mSq (oa (λi j=>i+j) 5 (sIf (uT (sW 1)) (sC (.int 1)) (sC (.int 0))))
  (mSq (mIf (uB (s2 (isD false) (sW 2) (sC .none))) (mRt (P2 (c7 (sV 3) (c7 (sV 4) (c7 (sV 5) i7))))) mNx)
  (mRt (P2 (c7 (sC (.str "gone")) (c7 (sV 4) (c7 (sV 2) (c7 (sV 5) i7)))))))))
def bS :List DV->M My:=U2 ["house","way","told","stand","inside","at","beat","filled","lost","entered","staying","hands_on","gone","place","number"] (mSq (gB 2 (cY i7))
  (mSq (jZ 3 4 (cD (sC (.tuple []))) (cO (cY i7)))
  (mSq (aS (cN (sV 1)) (L6 2 (i9 (bN 5) (i9 (bN 6) M1))) (mSq (bQ (L6 2 (i9 (bN 7) (i9 (bN 8) M1))) (t8 bG (vD (sV 0) (vD (sV 3) (vD (sV 6) B9)))))
  (mSq (C5 9 (s2 fQ (sN X3 (c7 (sW 6) i7)) (sW 8)))
  (mSq (tw 4 (mC (c7 (sN X3 (c7 (sW 2) i7)) (c7 (s2 M5 (sN X3 (c7 (sW 2) i7)) (sW 9)) i7))))
  (mSq (tw 2 (s2 M5 (s2 R0 (pU (c7 (P2 (c7 (sC (.str "in")) (c7 (sV 5) (c7 (sC (.int 0)) i7)))) i7)) (sW 9)) (s2 R0 (pU (c7 (P2 (c7 (sC (.str "lost")) (c7 (sV 5) i7))) i7)) (sW 8))))
  (mSq (bQ (L6 3 (i9 (bN 10) (i9 (bN 11) (i9 (bN 12) M1)))) (t8 ag (vD (sV 0) (vD (sV 7) B9))))
  (mSq (nO 4 (aS (cN (sV 4)) (L6 2 (i9 (bN 13) (i9 (bN 14) M1))) (tW 2 (t8 G1 (vD (s2 ixD (sW 2) (sW 14)) (vD (s2 (inD true) (sW 13) (sW 11)) (vD (sIf (uB (s2 (inD false) (sW 13) (sW 12))) (s2 M5 (sW 5) (sC (.int 1))) (sC .none)) B9)))) (sV 14))))
  (mSq (gB 4 (fLC (R5 (sW 10)) 2 [4] (L6 2 (i9 (bN 0) (i9 (bN 1) M1))) Z3 (s2 ixD (sW 2) (sW 0))))
  (C5 3 (sN K0 (c7 (sLC (R5 (sW 10)) 2 [] (L6 2 (i9 (bN 0) (i9 (bN 1) M1))) Z3 (sV 1)) i7)))))))))))
  (mRt (sW 2)))))
def xS {i:Nat}{m:DE->M Out}{E:DE}{F:FdS}{ds:List My}{Q:Out->FdS->Prop}(he:aT E i=some ds)(q:wp (m (E.set i (some (.dat (.list ds)))) F) Q):wp (nO i m E F) Q:=by unfold nO;rw[he,LC];exact q
def qd {f:Int->Int->Int}{i:Nat}{a:DE->M My}{E:DE}{F:FdS}{x:Int}{Q:Out->FdS->Prop}(he:E[i]? = some (some (.dat (.int x))))(q:wp (a E F) λd F1=>∃y:Int,d = .int y/\Q (.nx (E.set i (some (.dat (.int (f x y)))))) F1):wp (oa f i a E F) Q:=by
 unfold oa;rw[he];dsimp only;rw[d5];refine i8 q λd F1 ⟨y,e,q⟩=>?_
 subst e;have hl:i<E.length:=(Lj.1 he).1;have e2:bN i (.int (f x y)) E=some (E.set i (some (.dat (.int (f x y))))):=by unfold bN;rw[Lg hl]
 show wp ((bN i (.int (f x y)) E).bind _) Q;rw[e2];exact c9.2 q
def AB {a:DE->M (List My)}{E:DE}{F:FdS}{Q:My->FdS->Prop}(q:wp (a E F) λx F1=>oB (mv x) λds=>ds.length<=1000/\Q (.list ds) F1):wp (mC a E F) Q:=by
 unfold mC;rw[d5];refine i8 q λx F1 ⟨ds,e,h1,q⟩=>?_
 rw[e,LC,Lg h1];exact c9.2 q
def wY {d:My}{k:Nat}(h:k<=1000):R0 (.list [d]) (.int (k:Int))=some (.list (List.replicate k d)):=by
 have e:(List.replicate ((k:Int)).toNat [d]).flatten=List.replicate k d:=by
  rw[MR];clear h;induction k with
  | zero=>rfl
  | succ k ih=>rw[Mi,MY,ih,Mi];rfl
 rw[<-e];have hz:[d].length*((k:Int)).toNat<=Qg:=sz (by rw[MR];show 1*k<=_;omega);have h1:-(2 ^ 63)<=(k:Int):=by omega
 have h2:(k:Int)<2 ^ 63:=by omega
 generalize (k:Int)=i at hz h1 h2;exact Lg ⟨h1,h2,hz⟩
def lW {l:List Nat}{i:Nat}(hl:∀j∈l,j<=1000):inD false (.int (i:Int)) (.tuple (j4 l))=some (.bool (decide (i∈l))):=by
 have h:=fI (i:=i) hl;have hs:SeqAt.shaped (.tuple (j4 l))=true:=(gZ hl).shaped (by decide) (by decide);have hi:SeqAt.shaped (.int (i:Int))=true:=by simp[SeqAt.shaped,My.canLay0,My.depth]
 have e1:inD true (.int (i:Int)) (.tuple (j4 l))=some (.bool (!((j4 l).any λy=>y.eqv (.int (i:Int))))):=by show(if SeqAt.shaped (.tuple (j4 l))=true/\SeqAt.shaped (.int (i:Int))=true then _ else none)=_;rw[Lg ⟨hs,hi⟩,Lg rfl]
 rw[e1]at h;have e2:inD false (.int (i:Int)) (.tuple (j4 l))=some (.bool ((j4 l).any λy=>y.eqv (.int (i:Int)))):=by show(if SeqAt.shaped (.tuple (j4 l))=true/\SeqAt.shaped (.int (i:Int))=true then _ else none)=_;rw[Lg ⟨hs,hi⟩,Lk (by decide)]
 rw[e2];have h3:(!((j4 l).any λy=>y.eqv (.int (i:Int)))) = !decide (i∈l):=by
  injection h with h
  injection h
 have h4:((j4 l).any λy=>y.eqv (.int (i:Int)))=decide (i∈l):=by generalize ((j4 l).any λy=>y.eqv (.int (i:Int)))=x at h3;generalize decide (i∈l)=y at h3;cases x <;> cases y <;> simp_all
 rw[h4]
abbrev gE (a w:Nat):My:=.tuple [.str "in",.int (a:Int),.int (w:Int)]
abbrev goD (a m w:Nat):My:=.tuple [.str "gone",.int (a:Int),.int (m:Int),.int (w:Int)]
section
variable {F:FdS}{Q:My->FdS->Prop}
def yj {a w:Nat}{b:Bool}(q:Q (gE a (w+if b then 1 else 0)) F):wp (G1 [.dat (gE a w),.dat (.bool b),.dat .none] F) Q:=by
 unfold G1;walk_at "kg";refine k9.2 (aI.2 (v5.2 (v6 rfl (d6 rfl (j5 (k9.2 (qd (x:=(w:Int)) rfl (ip.2 (qJ.2 (l6.2 (n9 rfl (d6 rfl (V0 (λhb=>?_) λhb=>?_)))))))))))))
 .refine u6.2 ⟨1,rfl,j5 (k9.2 (U9.2 (V9.2 (u7.2 (l6.2 (n9 rfl (u6.2 (d6 rfl (d6 rfl (Z7 rfl ?_))))))))))⟩;rw[hb,Lg rfl]at q;exact aw.2 (L8.2 (c6.2 (v5.2 (v6 rfl (c6.2 (v5.2 (v6 rfl (c6.2 (v5.2 (v6 rfl (f9.2 ⟨A7 rfl,wA (bL q)⟩)))))))))))
 .refine u6.2 ⟨0,rfl,j5 (k9.2 (U9.2 (V9.2 (u7.2 (l6.2 (n9 rfl (u6.2 (d6 rfl (d6 rfl (Z7 rfl ?_))))))))))⟩;rw[hb,Lk (by simp)]at q;have e:(w:Int)+0=((w+0:Nat):Int):=by omega
  rw[<-show((w+0:Nat):Int)=(w:Int)+0 from by omega] at *;exact aw.2 (L8.2 (c6.2 (v5.2 (v6 rfl (c6.2 (v5.2 (v6 rfl (c6.2 (v5.2 (v6 rfl (f9.2 ⟨A7 rfl,wA (bL q)⟩)))))))))))
def qt {a w m:Nat}(q:Q (goD a m w) F):wp (G1 [.dat (gE a w),.dat (.bool false),.dat (.int (m:Int))] F) Q:=by unfold G1;refine cQ.2 ?_;dsimp only[K4,Lu,Mt,Ly,MH,List.replicate,MD,Mu,Nat.reduceAdd,Nat.reduceSub];refine k9.2 (aI.2 (v5.2 (v6 rfl (d6 rfl (j5 (k9.2 (qd (x:=(w:Int)) rfl (ip.2 (qJ.2 (l6.2 (n9 rfl (d6 rfl (A9 rfl (u6.2 ⟨0,rfl,j5 (k9.2 (U9.2 (V9.2 (u7.2 (l6.2 (n9 rfl (u6.2 (d6 rfl (d6 rfl (A9 rfl (X6.2 (j5 ?_))))))))))))⟩))))))))))))));exact aw.2 (L8.2 (c6.2 (u6.2 (c6.2 (v5.2 (v6 rfl (c6.2 (v5.2 (v6 rfl (c6.2 (v5.2 (v6 rfl (f9.2 ⟨A7 rfl,bL (by rw[Int.add_zero];exact q)⟩)))))))))))))
end
end
section
section
variable (h:Nat)(QA:List Bt)
end
section
variable {h:Nat}{m:Nat}
end
end
section
variable [Fam]
section
variable {F:FdS}{Q:My->FdS->Prop}
def vv (a b:Nat):aQ (a:Int) b=j4 ((List.range b).map (a + ·)):=by
 unfold aQ j4;rw[LQ];refine Me λi _=>?_
 show My.int ((a:Int)+(i:Int)) = .int ((a+i:Nat):Int);have e2:((a+i:Nat):Int)=(a:Int)+(i:Int):=by omega
 rw[e2]
end
variable [Fam]
def bX :List DV->M My:=U2 ["house","way","stand","voids"] (mSq (C5 2 (s2 ixD (s2 ixD (t8 nI (vD (sV 0) (vD (sV 1) (vD (sC (.tuple [])) B9)))) (sC (.int 0))) (s1 yU (sC (.int 1)))))
  (mSq (C5 3 (sC (.int 0)))
  (mSq (mWh (uB (s2 gtD (sN X3 (c7 (sW 2) i7)) (sC (.int 0)))) (mSq (C5 2 (s2 ixD (t8 jE (vD (sV 0) (vD (sV 2) (vD (sC (.tuple [])) B9)))) (sC (.int 0))))
  (oa (λi j=>i+j) 3 (sC (.int 1)))))
  (mRt (s2 M5 (sW 1) (s2 R0 (sC (.tuple [.tuple []])) (sW 3)))))))
def AM {k:Nat}(h:k<=1000):R0 (.tuple [.tuple []]) (.int (k:Int))=some (.tuple ((List.replicate k ([]:Bt)).map btD)):=by
 have e:(List.replicate ((k:Int)).toNat [My.tuple []]).flatten=(List.replicate k ([]:Bt)).map btD:=by
  rw[MR,Pp];clear h;induction k with
  | zero=>rfl
  | succ k ih=>rw[Mi,MY,ih,Mi];rfl
 rw[<-e];have hz:[My.tuple []].length*((k:Int)).toNat<=Qg:=sz (by rw[MR];show 1*k<=_;omega);have h1:-(2 ^ 63)<=(k:Int):=by omega
 have h2:(k:Int)<2 ^ 63:=by omega
 generalize (k:Int)=i at hz h1 h2;exact Lg ⟨h1,h2,hz⟩
def muV (S:Int)(E:DE):Nat:=match E[3]? with
 | some (some (DV.dat (My.int v)))=>(S-v).toNat
 | _=>0
section
variable {F:FdS}{Q:My->FdS->Prop}
end
end
section
def FI (K:Qf)(x:Str)(st:Qc):Prop:=∃(f:PU) (oc:PR) (od:Option PU) (kV doc pm:PR) (an:Option PU) (QB ct:PR) (osl:Array (Option PR)),
 PySem.W.nsIn K Qn x=some (some (.ref f))/\K.lookup f=some ⟨oc,od,.func (PySem.W.fnOf x x (defArgs st) (defBody st) (defScope st) .none kV doc pm an QB ct),osl⟩/\PySem.W.codeIn K QB x=true/\PySem.W.keepIn K (.ref f)=true
variable {P:PX}{w:PY}{K:Qf}{mg:Str->Option PR}{base h:Qe}{x q:Str}{st:Qc}{f:PU}{fd:Qb}{ps:List Str}{k:Nat}{sp:Sp}
def FI.of {oc:PR}{od:Option PU}{kV doc pm:PR}{an:Option PU}{QB ct:PR}{osl:Array (Option PR)}(a:PySem.W.nsIn K Qn x=some (some (.ref f)))(b:K.lookup f=some ⟨oc,od,.func (PySem.W.fnOf x x (defArgs st) (defBody st) (defScope st) .none kV doc pm an QB ct),osl⟩)
  (c:PySem.W.codeIn K QB x=true) (d:PySem.W.keepIn K (.ref f)=true):FI K x st:=⟨f,oc,od,kV,doc,pm,an,QB,ct,osl,a,b,c,d⟩
def FI.mk (X:K.In h)(G:h.Ns Qn mg)(ps:List Str)(F:FI K x st)
  (hb:∀(kV doc pm:PR) (an:Option PU) (QB ct:PR) (us:List PR),us.length=ps.length->bindArgs (PySem.W.fnOf x x (defArgs st) (defBody st) (defScope st) .none kV doc pm an QB ct) ⟨us,[]⟩=pure (ps.zip us)) :
  ∃f fd,Fun K x x st f fd/\mg x=some (.ref f)/\gc K fd ps []/\(∃oc od osl,K.lookup f=some ⟨oc,od,.func fd,osl⟩)/\PySem.W.nsIn K Qn x=some (some (.ref f)):=by obtain⟨f,oc,od,kV,doc,pm,an,QB,ct,osl,a,b,c,d⟩:=F;have Fn:=fun_mk b c d;exact⟨f,_,Fn,OU X G a,Fn.binds hb,⟨oc,od,osl,b⟩,a⟩
def cal (P:PX)(w:PY)(base:Qe)(F:FnOk P w K mg base CX0 k f fd ps sp)(m:mg x=some (.ref f))(Fn:Fun K x q st f fd)(b:gc K fd ps []):d0 P w K mg base x k ps sp:=⟨f,fd,F,m,Fn.kp,b⟩
end
section
end
section
end
variable {i0:Nat}{iter tg:Qd}{es:List Qd}{rest sts:List Qc}{ta te:TE}{p2 pos pos':Pos}{A' A0 B' B0:List PU}{H' H0:Hp}
section
class Regs where
 S:Type
 Reg:Qf->Hp->Hp->PU->S->List PU->Prop
 keep:∀{K:Qf} {V V' H H':Hp} {d:PU} {μ:S} {A:List PU},Reg K V H d μ A->h8 V V'->(∀a∈A,H' a=H a)->Reg K V' H' d μ A
 has:∀{K:Qf} {V H:Hp} {d:PU} {μ:S} {A:List PU},Reg K V H d μ A->∀a∈A,∃o,H a=some o
 lam:List Str
@[reducible] def K2 [Regs]:Feeds where
 S:=Regs.S
 At:=λ_ _ _ _=>False
 some1:=λh=>h.elim
 some2:=λh=>h.elim
 congr:=λh _ _=>h.elim
 lam:=Regs.lam
def C7 (E:DE)(i:Nat):Option PU:=match E[i]? with
 | some (some (.adr a))=>some a
 | _=>none
section
variable [Regs]
local instance regI:Feeds:=K2
structure SitMB (K:Qf) (i0:Nat) (d:PU) (B0 A0:List PU) (H0:Hp) (B A:List PU) (E:DE) (μ:FS) (O:St) (H:Hp):Prop where
 s:∀b∈B0,b∈B
 sn:∀b∈B,b∈B0\/H0 b=none
 I:SitE K none B E μ O H
 rg:Regs.Reg K (hid H B) H d μ A
 aB:∀a∈A,a∈B/\a ∉ tabP K/\(a∈A0\/(H0 a=none/\a ∉ B0))
 pin:C7 E i0=some d
 tB:∀b∈tabP K,b∈B0
 a0:∀a∈A0,a∈B0
 kp:∀b o,H0 b=some o->b ∉ tabP K->b ∉ A0->H b=some o
 own:∀(i:Nat) (ds:List My) (a:PU),E[i]? = some (some (DV.own ds))->O[i]? = some (some (V.ref a))->(H0 a=none/\a ∉ B0)/\a ∉ A
 inj:∀(i j:Nat) (ds es:List My) (a:PU),E[i]? = some (some (DV.own ds))->E[j]? = some (some (DV.own es))->O[i]? = some (some (V.ref a))->O[j]? = some (some (V.ref a))->i=j
structure EndM (K:Qf) (d:PU) (B0 A0:List PU) (H0:Hp) (μ:FS) (H:Hp) (A:List PU):Prop where
 rg:Regs.Reg K (hid H (A++B0)) H d μ A
 aB:∀a∈A,a ∉ tabP K/\(a∈A0\/(H0 a=none/\a ∉ B0))
 kp:∀b o,H0 b=some o->b ∉ tabP K->b ∉ A0->H b=some o
 tb:G5 (tabsK Feeds.lam K) H
 bk:BOk H B0
def BH (K:Qf)(i0:Nat)(d:PU)(B0 A0:List PU)(H0:Hp)(μ:FS)(D:Ends):Out->Prop
 | .nx E=>∀B A O H,SitMB K i0 d B0 A0 H0 B A E μ O H->D.nx O H
 | .bk E=>∀B A O H,SitMB K i0 d B0 A0 H0 B A E μ O H->D.bk O H
 | .ct E=>∀B A O H,SitMB K i0 d B0 A0 H0 B A E μ O H->D.ct O H
 | .rt r=>∀v H A,EndM K d B0 A0 H0 μ H A->b8 K (hid H (A++B0)) r v->D.rt v H
def TSm (K:Qf)(i0:Nat)(ts:TS)(m:DE->M Out):Prop:=∀(d:PU) (B0 A0:List PU) (H0:Hp) (B A:List PU) (E:DE) (μ:FS) (O:St) (H:Hp) (D:Ends) (r:Out) (μ':FS),SitMB K i0 d B0 A0 H0 B A E μ O H->m E μ=some (r,μ')->BH K i0 d B0 A0 H0 μ' D r->ts D O H
def TEm (K:Qf)(i0:Nat)(te:TE)(m:DE->M My):Prop:=∀(d:PU) (B0 A0:List PU) (H0:Hp) (B A:List PU) (E:DE) (μ:FS) (O:St) (H:Hp) (Q:VK) (r:My) (μ':FS),SitMB K i0 d B0 A0 H0 B A E μ O H->m E μ=some (r,μ') ->
 (∀v H' B' A',SitMB K i0 d B0 A0 H0 B' A' E μ' O H'->h8 (hid H B) (hid H' B')->b8 K (hid H' B') r v->Q v H')->te O H Q
def TTm (K:Qf)(i0:Nat)(tt:TT)(m:DE->M Bool):Prop:=∀(d:PU) (B0 A0:List PU) (H0:Hp) (B A:List PU) (E:DE) (μ:FS) (O:St) (H:Hp) (Q:Bool->Hp->Prop) (r:Bool) (μ':FS),SitMB K i0 d B0 A0 H0 B A E μ O H->m E μ=some (r,μ') ->
 (∀H' B' A',SitMB K i0 d B0 A0 H0 B' A' E μ' O H'->h8 (hid H B) (hid H' B')->Q r H')->tt O H Q
def TAm (K:Qf)(i0:Nat)(ta:TA)(m:DE->M (List My)):Prop:=∀(d:PU) (B0 A0:List PU) (H0:Hp) (B A:List PU) (E:DE) (μ:FS) (O:St) (H:Hp) (Q:List V->Hp->Prop) (r:List My) (μ':FS),SitMB K i0 d B0 A0 H0 B A E μ O H->m E μ=some (r,μ') ->
 (∀vs H' B' A',SitMB K i0 d B0 A0 H0 B' A' E μ' O H'->h8 (hid H B) (hid H' B')->b7 K (hid H' B') r vs->Q vs H')->ta O H Q
structure SmR (K:Qf) (X:Cx) (i0:Nat) (st:Qc) (ts:TS) (m:DE->M Out):Prop where
 ps:PS X st ts
 ok:TSm K i0 ts m
structure SmsR (K:Qf) (X:Cx) (i0:Nat) (sts:List Qc) (ts:TS) (m:DE->M Out):Prop where
 ps:PSs X sts ts
 ok:TSm K i0 ts m
structure Em (K:Qf) (X:Cx) (i0:Nat) (e:Qd) (te:TE) (m:DE->M My):Prop where
 pe:PE X e te
 ok:TEm K i0 te m
structure Etm (K:Qf) (X:Cx) (i0:Nat) (e:Qd) (tt:TT) (m:DE->M Bool):Prop where
 pt:PT X e tt
 ok:TTm K i0 tt m
structure Eam (K:Qf) (X:Cx) (i0:Nat) (es:List Qd) (ta:TA) (m:DE->M (List My)):Prop where
 pa:PA X es ta
 ok:TAm K i0 ta m
variable {K:Qf}{X:Cx}{a b c e:Qd}{st:Qc}{tb:TE}{ma mb m:DE->M My}{t u:TS}{mt mu:DE->M Out}{p:Pos}
section
variable {d:PU}{B A:List PU}{E E':DE}{μ:FS}{O O':St}{H:Hp}
def SitMB.step (S:SitMB K i0 d B0 A0 H0 B A E μ O H)(k:Kp (tabP K) H H')(f:G5 (tabsK Feeds.lam K) H'):SitMB K i0 d B0 A0 H0 B A E μ O H' :=
 have fB:∀b∈tabP K,b∈B:=λb hb=>S.s b (S.tB b hb)
 ⟨S.s,S.sn,S.I.step (G:=none) k ⟨trivial,f⟩,Regs.keep S.rg (k.hid fB) λa ha=>by obtain⟨o,e⟩:=Regs.has S.rg a ha;rw[e];exact k a o e (S.aB a ha).2.1,S.aB,S.pin,S.tB,S.a0,λb o e n1 n2=>k b o (S.kp b o e n1 n2) n1,S.own,S.inj⟩
def SitMB.sm (S:SitMB K i0 d B0 A0 H0 B A E μ O H)(k:Kp (tabP K) H H'):h8 (hid H B) (hid H' B):=k.hid λb hb=>S.s b (S.tB b hb)
def SitMB.bind (S:SitMB K i0 d B0 A0 H0 B A E μ O H)(I:SitE K none B E' μ O' H)(fr:∀i:Nat,(∀y,E'[i]? ≠ some (some (.dat y)))->E'[i]? = E[i]? /\ O'[i]? = O[i]?)(hp:C7 E' i0=C7 E i0):SitMB K i0 d B0 A0 H0 B A E' μ O' H:=by
 refine⟨S.s,S.sn,I,S.rg,S.aB,hp.trans S.pin,S.tB,S.a0,S.kp,λi ds a ei si=>?_,λi j ds es a ei ej si sj=>?_⟩
 .obtain⟨a1,a2⟩:=fr i λy z=>by rw[ei]at z;cases z
  exact S.own i ds a (a1▸ei) (a2▸si)
 .obtain⟨a1,a2⟩:=fr i λy z=>by rw[ei]at z;cases z
  obtain⟨b1,b2⟩:=fr j λy z=>by rw[ej]at z;cases z
  exact S.inj i j ds es a (a1▸ei) (b1▸ej) (a2▸si) (b2▸sj)
def SitMB.fin (S:SitMB K i0 d B0 A0 H0 B A E μ O H):EndM K d B0 A0 H0 μ H A/\h8 (hid H B) (hid H (A++B0)):=by
 have sub:∀b∈A++B0,b∈B:=λb hb=>by
  rcases Li.1 hb with h | h
  .exact(S.aB b h).1
  .exact S.s b h
 exact⟨⟨Regs.keep S.rg (N3 sub) λ_ _=>rfl,λa ha=>(S.aB a ha).2,S.kp,S.I.fd.2,λb hb=>S.I.bk b (S.s b hb)⟩,N3 sub⟩
def SitMB.base (S:SitMB K i0 d B0 A0 H0 B A E μ O H):SitMB K i0 d B0 A0 (O1 H B B0) B A E μ O H:=by
 refine⟨S.s,λb hb=>?_,S.I,S.rg,λa ha=>?_,S.pin,S.tB,S.a0,λb o e _ _=>f8 b o e,λi ds a ei si=>?_,S.inj⟩
 .by_cases h:b∈B0
  .exact .inl h
  .exact .inr (R4 hb h)
 .obtain⟨h1,h2,h3⟩:=S.aB a ha;exact⟨h1,h2,h3.imp id λh=>⟨R4 h1 h.2,h.2⟩⟩
 .obtain⟨v,v1,a',xs,rfl,hB,_⟩:=S.I.loc i _ ei;rw[v1]at si;cases si;obtain⟨h1,h2⟩:=S.own i ds _ ei v1;exact⟨⟨R4 hB h1.2,h1.2⟩,h2⟩
def SitMB.no (S:SitMB K i0 d B0 A0 H0 B A E μ O H)(b:PU)(e:O1 H B B0 b=none):b∈B0\/H0 b=none:=by
 by_cases hb:b∈B
 .exact S.sn b hb
 .rw[J8 (.inl hb)]at e;cases q:H0 b with
  | none=>exact .inr rfl
  | some o =>
   have h0:b ∉ B0:=λz=>hb (S.s b z)
   rw[S.kp b o q (λz=>h0 (S.tB b z)) λz=>h0 (S.a0 b z)]at e;cases e
def SitMB.cutkp (S:SitMB K i0 d B0 A0 H0 B A E μ O H)(k:∀b o,O1 H B B0 b=some o->b ∉ tabP K->b ∉ A0->H' b=some o):∀b o,H0 b=some o->b ∉ tabP K->b ∉ A0->H' b=some o:=λb o e n1 n2=>by
 refine k b o ?_ n1 n2;rw[J8]
 .exact S.kp b o e n1 n2
 .by_cases hb:b∈B
  .rcases S.sn b hb with h | h
   .exact .inr h
   .rw[h]at e;cases e
  .exact .inl hb
def SitMB.unbase {μ':FS}(S:SitMB K i0 d B0 A0 H0 B A E μ O H)(S2:SitMB K i0 d B0 A0 (O1 H B B0) B' A' E' μ' O' H'):SitMB K i0 d B0 A0 H0 B' A' E' μ' O' H':=by
 refine⟨S2.s,λb hb=>(S2.sn b hb).elim .inl λh=>S.no b h,S2.I,S2.rg,λa ha=>?_,S2.pin,S2.tB,S2.a0,S.cutkp S2.kp,λi ds a ei si=>?_,S2.inj⟩
 .obtain⟨h1,h2,h3⟩:=S2.aB a ha;exact⟨h1,h2,h3.imp id λh=>⟨(S.no a h.1).resolve_left h.2,h.2⟩⟩
 .obtain⟨h1,h2⟩:=S2.own i ds a ei si;exact⟨⟨(S.no a h1.1).resolve_left h1.2,h1.2⟩,h2⟩
def SitMB.unend {μ':FS}(S:SitMB K i0 d B0 A0 H0 B A E μ O H)(S2:EndM K d B0 A0 (O1 H B B0) μ' H' A'):EndM K d B0 A0 H0 μ' H' A':=by refine⟨S2.rg,λa ha=>?_,S.cutkp S2.kp,S2.tb,S2.bk⟩;obtain⟨h2,h3⟩:=S2.aB a ha;exact⟨h2,h3.imp id λh=>⟨(S.no a h.1).resolve_left h.2,h.2⟩⟩
def SitMB.stab {μ':FS}(S:SitMB K i0 d B0 A0 H0 B A E μ O H)(S2:SitMB K i0 d B0 A0 (O1 H B B0) B' A' E' μ' O' H'):h8 (hid H B) (hid H' B'):=λb o eb=>by
 by_cases hB:b∈B
 .rw[D2 hB]at eb;cases eb
 .rw[i6 hB]at eb;have h0:b ∉ B0:=λz=>hB (S.s b z)
  have ec:O1 H B B0 b=some o:=by rw[J8 (.inl hB)];exact eb
  rw[i6 λz=>(S2.sn b z).elim h0 λh=>by rw[h]at ec;cases ec];exact S2.kp b o ec (λz=>h0 (S2.tB b z)) λz=>h0 (S2.a0 b z)
end
def mE {α:Type}(m:DE->M α):DE->M α:=λE μ=>(m E μ).bind λp=>some (p.1,μ)
def Ci (h:TEd K te m):TEm K i0 te (mE m):=λd B0 A0 H0 B A E μ O H Q r μ' S e q=>by obtain⟨⟨x,μ1⟩,e1,e⟩:=bS9 e;cases e;exact h none B E μ O H _ x μ1 S.I e1 λv H1 k1 f1 h1=>q v H1 B A (S.step k1 f1.2) (S.sm k1) h1
def Dp {tt:TT}{m:DE->M Bool}(h:TTd K tt m):TTm K i0 tt (mE m):=λd B0 A0 H0 B A E μ O H Q r μ' S e q=>by obtain⟨⟨x,μ1⟩,e1,e⟩:=bS9 e;cases e;exact h none B E μ O H _ x μ1 S.I e1 λH1 k1 f1=>q H1 B A (S.step k1 f1.2) (S.sm k1)
def kh (h:Ev K X e te m):Em K X i0 e te (mE m):=⟨h.pe,Ci h.ok⟩
def Dk {tt:TT}{m:DE->M Bool}(h:Et K X e tt m):Etm K X i0 e tt (mE m):=⟨h.pt,Dp h.ok⟩
def cE (i0:Nat)(E:DE)(μ:FS):Out->Option (Out×FS)
 | .nx E1=>if C7 E1 i0=C7 E i0 then some (.nx E1,μ) else none
 | .bk E1=>if C7 E1 i0=C7 E i0 then some (.bk E1,μ) else none
 | .ct E1=>if C7 E1 i0=C7 E i0 then some (.ct E1,μ) else none
 | .rt d=>some (.rt d,μ)
def mL (i0:Nat)(m:DE->M Out):DE->M Out:=λE μ=>(m E μ).bind λp=>cE i0 E μ p.1
def Dj (h:TSd K t mt):TSm K i0 t (mL i0 mt):=λd B0 A0 H0 B A E μ O H D r μ' S e q=>by
 obtain⟨⟨x,μ1⟩,e1,e⟩:=bS9 e;have sub:∀b∈B0++A,b∈B:=λb hb=>by
  rcases Li.1 hb with h | h
  .exact S.s b h
  .exact(S.aB b h).1
 have St:Sit K none (B0++A) (O1 H B (B0++A)) E μ O H:=by
  refine⟨⟨B,sub,λb hb=>?_,S.I⟩,λb hb=>Li.2 (.inl (S.tB b hb)),Kp.same f8,λi ds a ei si=>?_,S.inj⟩
  .by_cases h:b∈B0++A
   .exact .inl h
   .exact .inr (R4 hb h)
  .obtain⟨v,v1,a',xs,rfl,hB,_⟩:=S.I.loc i _ ei;rw[v1]at si;cases si;obtain⟨h1,h2⟩:=S.own i ds _ ei v1;have:a ∉ B0++A:=λz=>(Li.1 z).elim h1.2 h2
   exact⟨R4 hB this,this⟩
 have kp0:∀{H2:Hp},Kp (tabP K) (O1 H B (B0++A)) H2->∀b o,H0 b=some o->b ∉ tabP K->b ∉ A0->H2 b=some o:=λ{H2} k b o eb n1 n2=>by
  refine k b o ?_ n1;rw[J8]
  .exact S.kp b o eb n1 n2
  .by_cases hb:b∈B
   .rcases S.sn b hb with h | h
    .exact .inr (Li.2 (.inl h))
    .rw[h]at eb;cases eb
   .exact .inl hb
 have atA:∀{H2:Hp},Kp (tabP K) (O1 H B (B0++A)) H2->∀a∈A,H2 a=H a:=λ{H2} k a ha=>by obtain⟨o,ea⟩:=Regs.has S.rg a ha;rw[ea];refine k a o ?_ (S.aB a ha).2.1;rw[J8 (.inr (Li.2 (.inr ha)))];exact ea
 have vis:∀{H2:Hp} {B2:List PU},Kp (tabP K) (O1 H B (B0++A)) H2->(∀b∈B2,b∈B0++A\/O1 H B (B0++A) b=none)->h8 (hid H B) (hid H2 B2):=λ{H2 B2} k sn2 b o eb=>by
  by_cases hB:b∈B
  .rw[D2 hB]at eb;cases eb
  .rw[i6 hB]at eb;have ec:O1 H B (B0++A) b=some o:=by rw[J8 (.inl hB)];exact eb
   rw[i6 λz=>(sn2 b z).elim (λh=>hB (sub b h)) λh=>by rw[h]at ec;cases ec];exact k b o ec λz=>hB (S.s b (S.tB b z))
 have no:∀b,O1 H B (B0++A) b=none->b∈B0\/H0 b=none:=λb eb=>by
  by_cases hb:b∈B
  .exact S.sn b hb
  .rw[J8 (.inl hb)]at eb;cases q:H0 b with
   | none=>exact .inr rfl
   | some o =>
    have h0:b ∉ B0:=λz=>hb (S.s b z)
    rw[S.kp b o q (λz=>h0 (S.tB b z)) λz=>h0 (S.a0 b z)]at eb;cases eb
 have again:∀{E1:DE},C7 E1 i0=C7 E i0->∀σ2 H2,Sit K none (B0++A) (O1 H B (B0++A)) E1 μ1 σ2 H2->∃B2,SitMB K i0 d B0 A0 H0 B2 A E1 μ σ2 H2:=λ{E1} hp σ2 H2 S2=>by
  obtain⟨B2,s2,sn2,I2⟩:=S2.ex;refine⟨B2,λb hb=>s2 b (Li.2 (.inl hb)),λb hb=>?_,⟨⟨trivial,I2.fd.2⟩,I2.fB,I2.bk,I2.ln,I2.loc⟩,Regs.keep S.rg (vis S2.kp sn2) (atA S2.kp),λa ha=>⟨s2 a (Li.2 (.inr ha)),(S.aB a ha).2⟩,hp.trans S.pin,S.tB,S.a0,kp0 S2.kp,λi ds a ei si=>?_,S2.inj⟩
  .rcases sn2 b hb with h | h
   .rcases Li.1 h with h | h
    .exact .inl h
    .exact S.sn b (S.aB b h).1
   .exact no b h
  .obtain⟨h1,h2⟩:=S2.own i ds a ei si;have h3:a ∉ B0:=λz=>h2 (Li.2 (.inl z))
   exact⟨⟨(no a h1).resolve_left h3,h3⟩,λz=>h2 (Li.2 (.inr z))⟩
 refine h none (B0++A) (O1 H B (B0++A)) E μ O H D x μ1 St e1 ?_;cases x with
 | nx E1 =>
  unfold cE at e;dsimp only at e;split at e
  .rename_i hp;cases e;exact λσ2 H2 S2=>by obtain⟨B2,z⟩:=again hp σ2 H2 S2;exact q B2 A σ2 H2 z
  .cases e
 | bk E1 =>
  unfold cE at e;dsimp only at e;split at e
  .rename_i hp;cases e;exact λσ2 H2 S2=>by obtain⟨B2,z⟩:=again hp σ2 H2 S2;exact q B2 A σ2 H2 z
  .cases e
 | ct E1 =>
  unfold cE at e;dsimp only at e;split at e
  .rename_i hp;cases e;exact λσ2 H2 S2=>by obtain⟨B2,z⟩:=again hp σ2 H2 S2;exact q B2 A σ2 H2 z
  .cases e
 | rt y =>
  cases e;intro v H2 k2 f2 h2;have ww:h8 (hid H2 (B0++A)) (hid H2 (A++B0)):=N3 λb hb=>Li.2 ((Li.1 hb).symm)
  refine q v H2 A ⟨Regs.keep S.rg ((vis k2 λb hb=>.inl hb).trans ww) (atA k2),λa ha=>(S.aB a ha).2,kp0 k2,f2.2,λb hb=>?_⟩ (h2.same ww);by_cases hb':b∈tabP K
  .exact f2.bok b hb'
  .obtain⟨o,eo⟩:=S.I.bk b (S.s b hb);refine⟨o,k2 b o ?_ hb'⟩;rw[J8 (.inr (Li.2 (.inl hb)))];exact eo
def oe (h:Ss K X st t mt):SmR K X i0 st t (mL i0 mt):=⟨h.ps,Dj h.ok⟩
end
end
section
def iS (i0:Nat)(bd:My->DE->Option DE):Prop:=∀x E E',bd x E=some E'->C7 E' i0=C7 E i0
def mF (i0:Nat)(bd:List My->DE->Option DE):Prop:=∀x E E',bd x E=some E'->C7 E' i0=C7 E i0
def aD {j:Nat}(h:j≠i0):iS i0 (bN j):=λx E E' e=>by
 unfold bN at e;split at e
 .cases e;unfold C7;rw[Lm h]
 .cases e
def kM :mF i0 M1:=λx E E' e=>by
 unfold M1 at e;split at e
 .cases e;rfl
 .cases e
def W2 {f:My->DE->Option DE}{r:List My->DE->Option DE}(h1:iS i0 f)(h2:mF i0 r):mF i0 (i9 f r):=λx E E' e=>by
 unfold i9 at e;split at e
 .obtain⟨E1,e1,e⟩:=bS9 e;exact(h2 _ _ _ e).trans (h1 _ _ _ e1)
 .cases e
def kx {n:Nat}{r:List My->DE->Option DE}(h:mF i0 r):iS i0 (L6 n r):=λx E E' e=>by
 unfold L6 at e;split at e
 .split at e
  .exact h _ _ _ e
  .cases e
 .cases e
section
variable [Regs]
local instance regI2:Feeds:=K2
variable {K:Qf}{X:Cx}{a b c e:Qd}{st:Qc}{tb:TE}{ma mb m:DE->M My}{t u:TS}{mt mu:DE->M Out}{p:Pos}
def BX :SmsR K X i0 [] wN mNx:=⟨gN,λd B0 A0 H0 B A E μ O H D r μ' S e q=>by cases e;exact q B A O H S⟩
def S7 (h1:SmR K X i0 st t mt)(h2:SmsR K X i0 rest u mu):SmsR K X i0 (st::rest) (U3 t u) (mSq mt mu):=⟨r8 h1.ps h2.ps,λd B0 A0 H0 B A E μ O H D r μ' S e q=>by
 obtain⟨⟨o,μ1⟩,e1,e⟩:=bS9 e;refine h1.ok d B0 A0 H0 B A E μ O H _ o μ1 S e1 ?_;cases o with
 | nx E1=>exact λB1 A1 O' H' S'=>h2.ok d B0 A0 H0 B1 A1 E1 μ1 O' H' D r μ' S' e q
 | rt d=>cases e;exact q
 | bk E1=>cases e;exact q
 | ct E1=>cases e;exact q⟩
def iA (h1:SmR K X i0 st t mt):SmsR K X i0 [st] t mt:=⟨G9 h1.ps,h1.ok⟩
def Bv {g:TG}{bd:My->DE->Option DE}(he:TEm K i0 te m)(hg:TGd K g bd)(hk:iS i0 bd):TSm K i0 (O6 te g) (bQ bd m):=λd B0 A0 H0 B A E μ O H D r μ' S e q=>by
 obtain⟨⟨x,μ1⟩,e1,e⟩:=bS9 e;obtain⟨E1,e2,e⟩:=bS9 e;cases e;refine he d B0 A0 H0 B A E μ O H _ x _ S e1 λv H1 B1 A1 S1 _ h1=>?_
 exact hg none B1 E _ O H1 v x E1 _ S1.I h1 e2 λO' I' fr=>q B1 A1 O' H1 (S1.bind I' fr (hk _ _ _ e2))
def mD (i:Nat){x:Str}(hi0:i≠i0)(hN:X.N.Nodup)(he:Em K X i0 e te m)(hi:X.N[i]? = some x:=by rfl)(hx:Loc X.env.scope x:=by walk_at "v")(hs:Qo e (some (.Name x pos')) pos.line X.env=pure false:=by rfl)(hf:X.fn x=true\/X.env.scope.names.lookup x=some .local:=by walk_at "v") :
  SmR K X i0 (.Assign [.Name x pos'] e pos) (O6 te (M6 i)) (C5 i m):=⟨O8 hN hi hx he.pe hs hf,Bv he.ok (lU i) (aD hi0)⟩
def BU {g:TG}{bd:My->DE->Option DE}(he:Em K X i0 e te m)(hg:Eg K X tg g bd)(hk:iS i0 bd)(hs:swapsWithSole [tg] e pos.line X.env=pure false:=by rfl)(hw:swappedStores [tg] e X.env=pure none:=by rfl)
  (h1:(Qt [tg] X.env).map (·.2)=[assign tg X.env]:=by rfl):SmR K X i0 (.Assign [tg] e pos) (O6 te g) (bQ bd m):=⟨U5 he.pe hg.pg hs hw h1,Bv he.ok hg.ok hk⟩
def Bb (he:Em K X i0 e te m)(hs:Qo e none pos.line X.env=pure false:=by rfl):SmR K X i0 (.Expr e pos) (bc te) (mDo m):=⟨Y0 he.pe hs,λd B0 A0 H0 B A E μ O H D r μ' S e q=>by obtain⟨⟨x,μ1⟩,e1,e⟩:=bS9 e;cases e;exact he.ok d B0 A0 H0 B A E μ O H _ x _ S e1 λv H1 B1 A1 S1 _ h1=>q B1 A1 O H1 S1⟩
def DL {x y:List Qc}{tt:TT}{mc:DE->M Bool}(hc:Etm K X i0 c tt mc)(ha:SmsR K X i0 x t mt)(hb:SmsR K X i0 y u mu):SmR K X i0 (.If c x y pos) (oi tt t u) (mIf mc mt mu):=⟨jI hc.pt ha.ps hb.ps,λd B0 A0 H0 B A E μ O H D r μ' S e q=>by
 obtain⟨⟨x,μ1⟩,e1,e⟩:=bS9 e;refine hc.ok d B0 A0 H0 B A E μ O H _ x μ1 S e1 λH1 B1 A1 S1 _=>?_
 cases x with
 | true=>exact ha.ok d B0 A0 H0 B1 A1 E μ1 O H1 D r μ' S1 e q
 | false=>exact hb.ok d B0 A0 H0 B1 A1 E μ1 O H1 D r μ' S1 e q⟩
def iE (mi:DE->M (List My))(bd:My->DE->Option DE)(body:DE->M Out):DE->M Out:=λE μ=>(mi E μ).bind λp=>O3 bd body p.1 E μ
def Fg {wi:TI}{g:TG}{tb:TS}{mi:DE->M (List My)}{bd:My->DE->Option DE}{mb:DE->M Out}(hi:TId K wi mi)(hg:TGd K g bd)(hk:iS i0 bd)(hb:TSm K i0 tb mb):TSm K i0 (uP wi g tb) (iE mi bd mb):=λd B0 A0 H0 B A E μ O H D r μ' S e q=>by
 obtain⟨⟨items,μ1⟩,e1,e⟩:=bS9 e;refine hi none B E μ O H _ items μ1 S.I e1 λJ H1 k1 f1 ok=>?_
 have S1:=S.step k1 f1.2;refine⟨λi m O H=>m=items.length-i/\i<=items.length/\∃B2 A2 E μ,SitMB K i0 d B0 A0 (O1 H1 B B0) B2 A2 E μ O H/\O3 bd mb (items.drop i) E μ=some (r,μ'),⟨items.length,by simp,Mb _,B,A,E,μ,S1.base,e⟩,?_⟩;rintro i mm σ2 H2 ⟨rfl,hi2,B2,A2,E2,μ2,S2,e2⟩;have st2:=S1.stab S2;by_cases hlt:i<items.length
 .refine .inr ⟨((ok H2 B2 st2).1 i items[i] (by simp[hlt])).1,λO' H'=>i+1<=items.length/\∃B2 A2 E μ,SitMB K i0 d B0 A0 (O1 H1 B B0) B2 A2 E μ O' H'/\O3 bd mb (items.drop (i+1)) E μ=some (r,μ'),λO' H' ⟨h1,h2⟩=>⟨items.length-(i+1),by omega,rfl,h1,h2⟩,λx H3 y=>?_⟩;obtain⟨s3,hx⟩:=((ok H2 B2 st2).1 i items[i] (by simp[hlt])).2 x H3 y;have hx:=hx S2.I.bk;rw[Nd hlt,O3]at e2;obtain⟨E4,e4,e2⟩:=bS9 e2;obtain⟨⟨o,μ5⟩,e5,e2⟩:=bS9 e2;have S3:=S2.step (Kp.same s3) (S2.I.fd.same s3).2;refine hg none B2 E2 μ2 σ2 H3 x items[i] E4 _ S3.I hx e4 λσ4 I4 fr=>?_
  refine hb d B0 A0 (O1 H1 B B0) B2 A2 E4 μ2 σ4 H3 _ o μ5 (S3.bind I4 fr (hk _ _ _ e4)) e5 ?_;cases o with
  | nx E6=>exact λB6 A6 σ6 H6 S6=>⟨hlt,B6,A6,E6,μ5,S6,e2⟩
  | ct E6=>exact λB6 A6 σ6 H6 S6=>⟨hlt,B6,A6,E6,μ5,S6,e2⟩
  | bk E6=>cases e2;exact λB6 A6 σ6 H6 S6=>q B6 A6 σ6 H6 (S1.unbase S6)
  | rt d=>cases e2;exact λv H6 A6 k6 h6=>q v H6 A6 (S1.unend k6) h6
 .have ei:i=items.length:=by omega
  subst ei;rw[NT,O3]at e2;cases e2;exact .inl ⟨(ok H2 B2 st2).2,q B2 A2 σ2 H2 (S1.unbase S2)⟩
def wH {body:List Qc}{wi:TI}{g:TG}{tb:TS}{mi:DE->M (List My)}{bd:My->DE->Option DE}{mb:DE->M Out}(hc:X.calm=true)(hi:Ei K X tg iter wi mi)(hg:Eg K X tg g bd)(hk:iS i0 bd)(hb:SmsR K X i0 body tb mb)(hp:PassesOwn (model X.prog X.w) X.A X.env X.xe:=by exact On)
  (hs:∀x,Qr iter X.env x=pure x:=by intro _;rfl):SmR K X i0 (.For tg iter body [] pos) (uP wi g tb) (iE mi bd mb):=⟨qa hp hc hi.pi hg.pg hb.ps hs,Fg hi.ok hg.ok hk hb.ok⟩
def zp {tt:TT}{tb:TS}{mc:DE->M Bool}{mb:DE->M Out}(hc:TTm K i0 tt mc)(hb:TSm K i0 tb mb):TSm K i0 (jv tt tb) (mWh mc mb):=λd B0 A0 H0 B A E μ O H D r μ' S e q=>by
 obtain⟨n,e⟩:=wW e;refine⟨λm O H=>∃B A E μ,SitMB K i0 d B0 A0 H0 B A E μ O H/\aK mc mb m E μ=some (r,μ'),⟨n,B,A,E,μ,S,e⟩,?_⟩;rintro m σ2 H2 ⟨B2,A2,E2,μ2,S2,e2⟩;cases m with
 | zero=>cases e2
 | succ m =>
  rw[aK]at e2;obtain⟨⟨x,μ3⟩,e3,e2⟩:=bS9 e2;refine hc d B0 A0 H0 B2 A2 E2 μ2 σ2 H2 _ x μ3 S2 e3 λH3 B3 A3 S3 _=>?_
  cases x with
  | false =>rw[Lk LF];cases e2;exact q B3 A3 σ2 H3 S3
  | true =>
   rw[Lg rfl];rw[Lg rfl]at e2;obtain⟨⟨o,μ4⟩,e4,e2⟩:=bS9 e2;refine⟨λO' H'=>∃B A E μ,SitMB K i0 d B0 A0 H0 B A E μ O' H'/\aK mc mb m E μ=some (r,μ'),λO' H' h=>⟨m,MV _,h⟩,?_⟩;refine hb d B0 A0 H0 B3 A3 E2 μ3 σ2 H3 _ o μ4 S3 e4 ?_;cases o with
   | nx E6=>exact λB6 A6 σ6 H6 S6=>⟨B6,A6,E6,μ4,S6,e2⟩
   | ct E6=>exact λB6 A6 σ6 H6 S6=>⟨B6,A6,E6,μ4,S6,e2⟩
   | bk E6=>cases e2;exact λB6 A6 σ6 H6 S6=>q B6 A6 σ6 H6 S6
   | rt d=>cases e2;exact q
def vB {body:List Qc}{tt:TT}{tb:TS}{mc:DE->M Bool}{mb:DE->M Out}(hc:Etm K X i0 c tt mc)(hb:SmsR K X i0 body tb mb)(hp:PassesOwn (model X.prog X.w) X.A X.env X.xe:=by exact On):SmR K X i0 (.While c body [] pos) (jv tt tb) (mWh mc mb) :=
 ⟨ot hp hc.pt hb.ps,zp hc.ok hb.ok⟩
def gM :Eam K X i0 [] K8 i7:=⟨u9,λd B0 A0 H0 B A E μ O H Q r μ' S e q=>by cases e;exact q [] H B A S (h8.refl _) b7.nil⟩
def iZ {t:TA}{ms:DE->M (List My)}(ha:Em K X i0 e te m)(hr:Eam K X i0 es t ms)(hs:Qh (e::es) X.env=(false,eval e X.env)::Qh es X.env:=by rfl):Eam K X i0 (e::es) (B4 te t) (c7 m ms) :=
 ⟨l7 ha.pe hr.pa hs,λd B0 A0 H0 B A E μ O H Q r μ' S e q=>by
  obtain⟨⟨x,μ1⟩,e1,e⟩:=bS9 e;obtain⟨⟨ys,μ2⟩,e2,e⟩:=bS9 e;cases e;walk_at "kp"
  exact hr.ok d B0 A0 H0 B1 A1 E μ1 O H1 _ ys _ S1 e2 λvs H2 B2 A2 S2 s2 h2=>q _ H2 B2 A2 S2 (s1.trans s2) (.cons (h1.same s2) h2)⟩
def CA {op}(h:Em K X i0 a te m):Em K X i0 (.BoolOp op [a] pos) te m:=⟨wg h.pe,h.ok⟩
def Bx {rest:List Qd}(ha:Em K X i0 a ta ma)(hb:Em K X i0 (.BoolOp .And (b::rest) pos) tb mb):Em K X i0 (.BoolOp .And (a::b::rest) pos) (yc ta tb) (pG ma mb):=⟨vJ ha.pe hb.pe,λd B0 A0 H0 B A E μ O H Q r μ' S e q=>by
 obtain⟨⟨x,μ1⟩,e1,e⟩:=bS9 e;obtain⟨c,e2,e⟩:=bS9 e;walk_at "kp"
 have:=M7 e2;simp only at this;subst this;simp only[b8]at h1;refine⟨c,h1,?_⟩;cases c with
 | true=>exact hb.ok d B0 A0 H0 B1 A1 E μ1 O H1 _ r μ' S1 e λw H2 B2 A2 S2 s2 h2=>q w H2 B2 A2 S2 (s1.trans s2) h2
 | false=>cases e;exact q _ H1 B1 A1 S1 s1 b8.bl⟩
def EF {op:CmpOp}{f:My->My->Option My}(ho:OpR X (compareOp op) (rD2 K f))(ha:Em K X i0 a ta ma)(hb:Em K X i0 b tb mb)(hm:behindInMarks op b=false:=by first | exact Z9 _ | rfl):Em K X i0 (.Compare a [op] [b] pos) (tOp (rD2 K f) ta tb) (s2 f ma mb):=⟨gU ho ha.pe hb.pe hm,λd B0 A0 H0 B A E μ O H Q r μ' S e q=>by
 obtain⟨⟨x,μ1⟩,e1,e⟩:=bS9 e;obtain⟨⟨y,μ2⟩,e2,e⟩:=bS9 e;obtain⟨z,e3,e⟩:=bS9 e;cases e;walk_at "kp"
 refine hb.ok d B0 A0 H0 B1 A1 E μ1 O H1 _ y _ S1 e2 λw H2 B2 A2 S2 s2 h2=>⟨tabP K,B2,x,y,_,S2.I.bk,cw (h1.same s2) S2.I.fB,cw h2 S2.I.fB,e3,λu H3 s hu=>?_⟩
 exact q u H3 B2 A2 (S2.step (Kp.same s) (S2.I.fd.same s).2) ((s1.trans s2).trans (S2.sm (Kp.same s))) hu⟩
def Dc (h:TEm K i0 te m):TTm K i0 (bR te) (uB m):=λd B0 A0 H0 B A E μ O H Q r μ' S e q=>by
 obtain⟨⟨x,μ1⟩,e1,e⟩:=bS9 e;obtain⟨c,e2,e⟩:=bS9 e;cases e;refine h d B0 A0 H0 B A E μ O H _ x _ S e1 λv H1 B1 A1 S1 s1 h1=>?_
 have:=M7 e2;simp only at this;subst this;simp only[b8]at h1;exact⟨_,h1,q H1 B1 A1 S1 s1⟩
variable {tA tB:TT}{na nb:DE->M Bool}
end
end
section
def vh:Out->Option My
 | .rt d=>some d
 | .nx _=>some .none
 | _=>none
section
variable [Regs]
local instance regI3:Feeds:=K2
def spM (K:Qf)(n:Nat)(f:List My->FS->Option (My×FS)):Sp:=λvs H Q _=>∃(d:PU) (B A:List PU) (ds:List My) (r:My) (μ μ':FS) (xs:List V),vs = .ref d::xs/\ds.length+1=n/\(∀b∈tabP K,b∈B)/\(∀a∈A,a∈B/\a ∉ tabP K)/\BOk H B/\G5 (tabsK Feeds.lam K) H /\
 Regs.Reg K (hid H B) H d μ A/\b7 K (hid H B) ds xs/\f ds μ=some (r,μ')/\∀v H' A',EndM K d B A H μ' H' A'->b8 K (hid H' (A'++B)) r v->Q v H'
variable {K:Qf}{X:Cx}{a b c e:Qd}{st:Qc}{tb:TE}{ma mb m:DE->M My}{t u:TS}{mt mu:DE->M Out}{p:Pos}
section
variable {d:PU}{B A A2:List PU}{E:DE}{μ μ':FS}{O:St}{H H2:Hp}
def SitMB.called (S:SitMB K i0 d B0 A0 H0 B A E μ O H)(Z:EndM K d B A H μ' H2 A2):SitMB K i0 d B0 A0 H0 (A2++B) A2 E μ' O H2/\h8 (hid H B) (hid H2 (A2++B)):=by
 have nH0:∀a,H a=none->a ∉ B->H0 a=none/\a ∉ B0:=λa e n=>by
  have n0:a ∉ B0:=λz=>n (S.s a z)
  refine⟨?_,n0⟩;cases q:H0 a with
  | none=>rfl
  | some o=>rw[S.kp a o q (λz=>n0 (S.tB a z)) λz=>n0 (S.a0 a z)]at e;cases e
 have sm:h8 (hid H B) (hid H2 (A2++B)):=λb o eb=>by
  by_cases hB:b∈B
  .rw[D2 hB]at eb;cases eb
  .rw[i6 hB]at eb;have k:H2 b=some o:=Z.kp b o eb (λz=>hB (S.s b (S.tB b z))) λz=>hB (S.aB b z).1
   rw[i6 λz=>?_]
   .exact k
   .rcases Li.1 z with z | z
    .rcases(Z.aB b z).2 with h | h
     .exact hB (S.aB b h).1
     .rw[h.1]at eb;cases eb
    .exact hB z
 refine⟨⟨λb hb=>Li.2 (.inr (S.s b hb)),λb hb=>?_,⟨⟨trivial,Z.tb⟩,λb hb=>Li.2 (.inr (S.I.fB b hb)),λb hb=>?_,S.I.ln,λi x ei=>?_⟩,Z.rg,λa ha=>⟨Li.2 (.inl ha),(Z.aB a ha).1,?_⟩,S.pin,S.tB,S.a0,λb o eb n1 n2=>?_,λi ds a ei si=>?_,S.inj⟩,sm⟩
 .rcases Li.1 hb with h | h
  .rcases(Z.aB b h).2 with h | h
   .exact S.sn b (S.aB b h).1
   .exact .inr (nH0 b h.1 h.2).1
  .exact S.sn b h
 .rcases Li.1 hb with h | h
  .exact Regs.has Z.rg b h
  .exact Z.bk b h
 .obtain⟨v,v1,v2⟩:=S.I.loc i x ei;refine⟨v,v1,?_⟩;cases x with
  | dat y=>exact b8.same (show b8 K (hid H B) y v from v2) sm
  | feed=>exact v2
  | fn _=>exact v2
  | adr _=>exact v2
  | own ys =>obtain⟨a',xs,rfl,hB,hf,hx,hd⟩:=v2;exact⟨a',xs,rfl,Li.2 (.inr hB),hf,Z.kp _ _ hx hf (S.own i ys a' ei v1).2,hd.same sm⟩
 .rcases(Z.aB a ha).2 with h | h
  .exact(S.aB a h).2.2
  .exact .inr (nH0 a h.1 h.2)
 .refine Z.kp b o (S.kp b o eb n1 n2) n1 λz=>?_
  rcases(S.aB b z).2.2 with h | h
  .exact n2 h
  .rw[h.1]at eb;cases eb
 .obtain⟨h1,h2⟩:=S.own i ds a ei si;refine⟨h1,λz=>?_⟩;rcases(Z.aB a z).2 with h | h
  .exact h2 h
  .obtain⟨v,v1,a',xs,rfl,hB,_,hx,_⟩:=S.I.loc i _ ei;rw[v1]at si;cases si;rw[h.1]at hx;cases hx
def SitMB.at0 (S:SitMB K i0 d B0 A0 H0 B A E μ O H):O[i0]? = some (some (.ref d)):=by
 have h:=S.pin;unfold C7 at h;split at h
 .rename_i a hx;cases h;obtain⟨v,v1,v2⟩:=S.I.loc i0 _ hx;rw[v1,show v = .ref d from v2]
 .cases h
end
def Z5 (f:List My->FS->Option (My×FS))(ms:DE->M (List My)):DE->M My:=λE μ=>(ms E μ).bind λp=>f p.1 p.2
def zD {n:Nat}{f:List My->FS->Option (My×FS)}{ta:TA}{ms:DE->M (List My)}(h:TAm K i0 ta ms)(hn:∀E F args F',ms E F=some (args,F')->args.length+1=n):TEm K i0 (eY (spM K n f) [] E0 (B4 (z7 i0) ta)) (Z5 f ms):=λd B0 A0 H0 B A E μ O H Q r μ' S e q=>by obtain⟨⟨args,μ1⟩,e1,e⟩:=bS9 e;refine⟨_,S.at0,h d B0 A0 H0 B A E μ O H _ args μ1 S e1 λvs H1 B1 A1 S1 s1 h1=>?_⟩;show spM K n f ((V.ref d::vs)++[]) H1 Q E0;rw[Mh];refine⟨d,B1,A1,args,r,μ1,μ',vs,rfl,hn _ _ _ _ e1,λb hb=>S1.s b (S1.tB b hb),λa ha=>⟨(S1.aB a ha).1,(S1.aB a ha).2.1⟩,S1.I.bk,S1.I.fd.2,S1.rg,h1,e,λv H2 A2 Z h2=>?_⟩;obtain⟨z1,z2⟩:=S1.called Z;exact q v H2 _ _ z1 (s1.trans z2) h2
def gY :∀(E:DE) (F:FS) args F',(i7:DE->M (List My)) E F=some (args,F')->args.length+1=1:=λE F args F' e=>by cases e;rfl
def je {n:Nat}{ms:DE->M (List My)}(h:∀(E:DE) (F:FS) args F',ms E F=some (args,F')->args.length+1=n):∀(E:DE) (F:FS) args F',c7 m ms E F=some (args,F')->args.length+1=n+1:=λE F args F' e=>by obtain⟨⟨x,F1⟩,e1,e⟩:=bS9 e;obtain⟨⟨ys,F2⟩,e2,e⟩:=bS9 e;cases e;rw[Ly,h _ _ _ _ e2]
def gT {x y:Str}{k n:Nat}{ps:List Str}{f:List My->FS->Option (My×FS)}{tl:TA}{ms:DE->M (List My)}(C:d0 X.prog X.w X.K X.mg X.base x k ps (spM K n f))(hr:Room k X.A)(ha:Eam K X i0 es tl ms)(hn:∀E F args F',ms E F=some (args,F')->args.length+1=n)(hN:X.N[i0]? = some y:=by rfl)(hv:Vis X.env.scope y:=by walk_at "v")(hd:(y == ("__debug__":Str))=false:=by decide)
  (hcd:(y == ("__classdict__":Str))=false:=by decide) (hs:Qh (.Name y p2::es) X.env=(false,eval (.Name y p2) X.env)::Qh es X.env:=by rfl) (hg:Gl X x:=by rfl)
  (hdb:(x == ("__debug__":Str))=false:=by decide) (hpl:(Qk pos (Qh es X.env)).any (·.1)=false:=by rfl) :
  Em K X i0 (.Call (.Name x p) (.Name y p2::es) [] pos) (eY (spM K n f) [] E0 (B4 (z7 i0) tl)) (Z5 f ms):=⟨bU C hr hg (l7 (L7 hN hv hd hcd) ha.pa hs) hdb hs hpl,zD ha.ok hn⟩
def W5 (N:List Str)(d:PU)(ds:List My):DE:=some (.adr d)::(ds.map λx=>some (.dat x))++List.replicate (N.length-(ds.length+1)) none
open Classical in
def mI (N:List Str)(m:DE->M Out):List My->FS->Option (My×FS):=λds μ =>
 if h:∃x:My×FS,∀d:PU,∃o,m (W5 N d ds) μ=some (o,x.2)/\vh o=some x.1 then some (Classical.choose h) else none
def Ab {N:List Str}{m:DE->M Out}{ds:List My}{μ μ':FS}{r:My}(h:∀d:PU,∃o,m (W5 N d ds) μ=some (o,μ')/\vh o=some r):mI N m ds μ=some (r,μ'):=by unfold mI;have hx:∃x:My×FS,∀d:PU,∃o,m (W5 N d ds) μ=some (o,x.2)/\vh o=some x.1:=⟨(r,μ'),h⟩;rw[dif_pos hx];obtain⟨o1,a1,a2⟩:=Nf hx 0;obtain⟨o2,b1,b2⟩:=h 0;rw[b1]at a1;obtain⟨rfl,e2⟩:=Prod.mk.inj (Lr a1);rw[b2]at a2;exact MF some (Prod.ext (Lr a2).symm e2.symm)
def zM {N:List Str}{m:DE->M Out}{ds:List My}{μ μ':FS}{r:My}(h:mI N m ds μ=some (r,μ'))(d:PU):∃o,m (W5 N d ds) μ=some (o,μ')/\vh o=some r:=by
 unfold mI at h;split at h
 .rename_i hx;have:=Nf hx d;rw[Lr h]at this;exact this
 .cases h
variable {P:PX}{w:PY}{mg:Str->Option PR}{base:Qe}
def pf {d:PU}{B A:List PU}{H:Hp}{N:List Str}{ds:List My}{xs:List V}{μ:FS}(hN:ds.length+1<=N.length)(tB:∀b∈tabP K,b∈B)(aB:∀a∈A,a∈B/\a ∉ tabP K)(bk:BOk H B)(tb:G5 (tabsK Feeds.lam K) H)(rg:Regs.Reg K (hid H B) H d μ A)(hd:b7 K (hid H B) ds xs) :
  SitMB K 0 d B A H B A (W5 N d ds) μ (L2.O2 N (.ref d::xs)) H:=by
 have noown:∀(i:Nat) (es:List My),(W5 N d ds)[i]? ≠ some (some (DV.own es)):=λi es e=>by
  unfold W5 at e;by_cases hi:i<ds.length+1
  .rw[LU (by simp;omega)]at e;cases i with
   | zero=>simp at e
   | succ i=>simp[Lv]at e
  .rw[LL (by simp;omega),Mg]at e;split at e <;> simp at e
 refine⟨λ_ z=>z,λb hb=>.inl hb,⟨⟨trivial,tb⟩,tB,bk,by simp[W5,L2.O2,hd.length],λi x e=>?_⟩,rg,λa ha=>⟨(aB a ha).1,(aB a ha).2,.inl ha⟩,rfl,tB,λa ha=>(aB a ha).1,λb o e _ _=>e,λi es a e _=>absurd e (noown i es),λi j es fs a e _ _ _=>absurd e (noown i es)⟩;unfold W5 at e;by_cases hi:i<ds.length+1
 .rw[LU (by simp;omega)]at e;unfold L2.O2;rw[LU (by simp[hd.length];omega)];cases i with
  | zero =>simp at e;subst e;exact⟨.ref d,rfl,rfl⟩
  | succ i =>simp[Lv]at e;obtain⟨y,e1,e2⟩:=e;subst e2;obtain⟨v,v1,v2⟩:=b7.item hd e1;exact⟨v,by simp[v1],v2⟩
 .rw[LL (by simp;omega),Mg]at e;split at e <;> simp at e
def kU {x qual:Str}{f:PU}{fd:Qb}{N ps:List Str}{k:Nat}{m:DE->M Out}(Fn:Fun K x qual st f fd)(S:FnScope N ps (defScope st))(hNp:ps.length<=N.length)
  (hbody:∀(QB:PR) (A:PZ) (outer:List Qj) (s:PV) (H:Hp) (E:XK),Room k (A.deeper (envOfC qual (defScope st) s.heap.objs.size f QB)) ->
   ∃ts,SmsR K (W6 CX0 P w K mg base N qual (defScope st) f QB A outer s H E).nox 0 (defBody st) ts m):FnOk P w K mg base CX0 (k+1) f fd ps (spM K ps.length (mI N m)):=by
 refine Fn.ok S (λvs H Q E h=>?_) (λQB A outer s H vs Q E hr h=>?_)
 .obtain⟨d,B,A,ds,r,μ,μ',xs,rfl,hl,_,_,_,_,_,hd,_⟩:=h;rw[Ly,hd.length];exact hl
 .obtain⟨d,B,A1,ds,r,μ,μ',xs,rfl,hl,tB,aB,bk,tb,rg,hd,hm,q⟩:=h;obtain⟨ts,hts⟩:=hbody QB A outer s H E hr;refine⟨ts,hts.ps,?_⟩;obtain⟨o,e1,e2⟩:=zM hm d;refine hts.ok d B A1 H B A1 (W5 N d ds) μ (L2.O2 N (.ref d::xs)) H _ o μ' (pf (by omega) tB aB bk tb rg hd) e1 ?_;cases o with
  | rt d'=>cases e2;exact λv H' A' Z h1=>q v H' A' Z h1
  | nx E'=>cases e2;exact λB' A' O' H' S'=>q _ H' A' S'.fin.1 b8.non
  | bk E'=>cases e2
  | ct E'=>cases e2
end
end
section
def iY:List DV->Option (List My)
 | []=>some []
 | .dat d::r=>(iY r).bind λds=>some (d::ds)
 | _::_=>none
theorem gx:∀{args:List DV} {ds:List My},iY args=some ds->args=ds.map DV.dat
 | [],ds,h=>by cases h;rfl
 | .dat d::r,ds,h=>by
  obtain⟨es,e1,e⟩:=bS9 h;cases e;rw[gx e1];rfl
 | .feed::r,ds,h=>by cases h
 | .own _::r,ds,h=>by cases h
 | .fn _::r,ds,h=>by cases h
 | .adr _::r,ds,h=>by cases h
theorem jA:∀(ds:List My),iY (ds.map DV.dat)=some ds
 | []=>rfl
 | d::ds=>by rw[Lu,iY,jA ds];rfl
def spN [Regs](K:Qf)(mkh:My->Option Regs.S):Sp:=λvs H Q _=>∃(B:List PU) (h:My) (μ:Regs.S) (v:V),vs=[v]/\BOk H B/\b8 K (hid H B) h v/\mkh h=some μ /\
 ∀d A H',h8 H H'->(∀a∈A,H a=none)->Regs.Reg K (hid H' (A++B)) H' d μ A->Q (.ref d) H'
section
variable [Regs]{K:Qf}
local instance regI5:Feeds:=K2
end
section
variable [Fam][Regs]
variable {K:Qf}{P:PX}{w:PY}{mg:Str->Option PR}{base:Qe}{st:Qc}
def mr (hlam:Regs.lam=Fam.lam):@tabP K2 K = @tabP fdI K:=by unfold tabP;show(tabsK Regs.lam K).map _=(tabsK Fam.lam K).map _;rw[hlam]
theorem rV {B:List PU}{H:Hp}:∀{ds:List My} {vs:List V},@jM K2 K none B H (ds.map DV.dat) vs->@jM fdI K none B H (ds.map DV.dat) vs
 | [],vs,h=>h
 | d::ds,vs,⟨v,r,e,n,h1,h2⟩=>⟨v,r,e,n,h1,rV h2⟩
def yH {G:GF}{H:Hp}{F:FdS}(fa:@FAt fdI K G H F)(tb:G5 (tabsK Fam.lam K) H')(k:∀b o,H b=some o->b ∉ @tabP fdI K->H' b=some o):@FAt fdI K G H' F:=by
 refine⟨?_,tb⟩;cases G with
 | none=>trivial
 | some p =>
  obtain⟨d,c⟩:=p;have nt:∀{x:PU} {o:HO},H x=some o->NoT o->x ∉ @tabP fdI K:=λ{x o} e n z=>by obtain⟨t,ht,rfl⟩:=LN.1 z;obtain⟨ps,h1,_⟩:=fa.2 t ht;rw[h1]at e;exact n.1 ps (Lr e.symm)
  obtain⟨o1,e1,n1⟩:=Fam.some1 fa.1;obtain⟨o2,e2,n2⟩:=Fam.some2 fa.1;exact Fam.congr fa.1 ((k _ _ e1 (nt e1 n1)).trans e1.symm) ((k _ _ e2 (nt e2 n2)).trans e2.symm)
def reF (f:List DV->@M fdI My):List DV->@M K2 My:=λargs μ=>(iY args).bind λ_=>(f args (iG [])).bind λp=>some (p.1,μ)
def ub {x:Str}{k n:Nat}{ps:List Str}{f:List DV->@M fdI My}(hlam:Regs.lam=Fam.lam)(C:d0 P w K mg base x k ps (@spD fdI K n f)):d0 P w K mg base x k ps (@spD K2 K n (reF f)):=by
 obtain⟨a,fd,F,h2,h3,h4⟩:=C;refine⟨a,fd,F.imp λvs H Q E h=>?_,h2,h3,h4⟩;obtain⟨G,B,μ,args,d,μ',hl,fB,bk,fa,ha,e,q⟩:=h;obtain⟨ds,e1,e⟩:=bS9 e;obtain⟨⟨y,F'⟩,e2,e⟩:=bS9 e;cases e;have:=gx e1;subst this;have te:=mr (K:=K) hlam;have gn:G=none:=by
  cases G with
  | none=>rfl
  | some p=>exact(show False from fa.1).elim
 subst gn;have fp:@u4 K2 K none = @u4 fdI K none:=te;refine⟨none,B,iG [],ds.map DV.dat,y,F',hl,λb hb=>fB b (fp▸hb),bk,⟨trivial,by have:=fa.2;show G5 (tabsK Fam.lam K) H;rw[<-hlam];exact this⟩,?_,e2,λv H' k1 f1 h1=>q v H' (fp▸k1) ⟨trivial,by show G5 (tabsK Regs.lam K) H';rw[hlam];exact f1.2⟩ h1⟩;exact rV ha
end
end
variable {ha:PU}{p3 p4:Pos}{j2:Option Str}
section
structure Per where
 n:Int
 r:Int
 l:Int
 b:Bool
structure Row where
 w:Str
 t:Int
 m:Option Int
 q:Int
structure Mac where
 h:Int
 c:Option Int
 u:Str
 line:List Per
 book:List Row
 t:Int
def xH:Option Int->V
 | none=>.non
 | some i=>.int i
def ic:Option Int->My
 | none=>.none
 | some i=>.int i
def dO (p:Per):List V:=[.int p.n,.int p.r,.int p.l,.bl p.b]
def qm (r:Row):List V:=[.str r.w,.int r.t,xH r.m,.int r.q]
def di (p:Per):My:=.list [.int p.n,.int p.r,.int p.l,.bool p.b]
def fF (μ:Mac):My:=.tuple [.int μ.h,ic μ.c,.str μ.u]
def G2 (hv:V)(l b:PU)(t:Int):List (Key×V):=[(Sum.inr "house",hv),(Sum.inr "line",.ref l),(Sum.inr "book",.ref b),(Sum.inr "at",.int t)]
def mn1 :¬(("house":Str) = "line"):=by decide +kernel
def mn2 :¬(("house":Str) = "book"):=by decide +kernel
def mn3 :¬(("house":Str) = "at"):=by decide +kernel
def mn4 :¬(("line":Str) = "book"):=by decide +kernel
def mn5 :¬(("line":Str) = "at"):=by decide +kernel
def mn6 :¬(("book":Str) = "at"):=by decide +kernel
def FL :¬(("book":Str) = "line"):=by decide +kernel
def FN :¬(("at":Str) = "line"):=by decide +kernel
section
variable {H:Hp}{d l b:PU}{hv:V}{t:Int}
def xJ :cq (G2 hv l b t) (Sum.inr "house")=some hv:=by unfold G2;exact W1 rfl
def sJ :cq (G2 hv l b t) (Sum.inr "line")=some (.ref l):=by unfold G2;rw[D5 (by rw[Q0];exact mn1)];exact W1 rfl
def zG :cq (G2 hv l b t) (Sum.inr "book")=some (.ref b):=by unfold G2;rw[D5 (by rw[Q0];exact mn2),D5 (by rw[Q0];exact mn4)];exact W1 rfl
def Bg :cq (G2 hv l b t) (Sum.inr "at")=some (.int t):=by unfold G2;rw[D5 (by rw[Q0];exact mn3),D5 (by rw[Q0];exact mn5),D5 (by rw[Q0];exact mn6)];exact W1 rfl
def EV (z:Int):Q3 (G2 hv l b t) (Sum.inr "at") (.int z)=G2 hv l b z:=by unfold Q3;rw[bx,Bg];simp only[Ow,ML,G2,Lu,Mt,Q0,mn3,mn5,mn6,ML,MO]
def yx (z:PU):Q3 (G2 hv l b t) (Sum.inr "line") (.ref z)=G2 hv z b t:=by unfold Q3;rw[bx,sJ];simp only[Ow,ML,G2,Lu,Mt,Q0,mn1,FL,FN,ML,MO]
def hX (hd:H d=some (.dK (G2 hv l b t))):fy H d (.str "house") (some hv):=by have:=fy.k (k:=Sum.inr "house") hd;rwa [xJ]at this
def cg (hd:H d=some (.dK (G2 hv l b t))):fy H d (.str "line") (some (.ref l)):=by have:=fy.k (k:=Sum.inr "line") hd;rwa [sJ]at this
def lr (hd:H d=some (.dK (G2 hv l b t))):fy H d (.str "book") (some (.ref b)):=by have:=fy.k (k:=Sum.inr "book") hd;rwa [zG]at this
def xx (hd:H d=some (.dK (G2 hv l b t))):fy H d (.str "at") (some (.int t)):=by have:=fy.k (k:=Sum.inr "at") hd;rwa [Bg]at this
def nS :(G2 hv l b t).length<Qg:=V3 (by show 4<=1000;decide)
def DP (z:Int)(hd:H d=some (.dK (G2 hv l b t))):oj H d (.str "at") (.int z) (upd H d (.dK (G2 hv l b z))):=by have:=oj.k (k:=Sum.inr "at") (v:=.int z) hd nS;rwa [EV]at this
def yA (z:PU)(hd:H d=some (.dK (G2 hv l b t))):oj H d (.str "line") (.ref z) (upd H d (.dK (G2 hv z b t))):=by have:=oj.k (k:=Sum.inr "line") (v:=.ref z) hd nS;rwa [yx]at this
end
def D6 {α:Type}(f:α->List V)(H:Hp)(ps:List PU)(xs:List α):Prop:=ps.length=xs.length/\∀(i:Nat) a x,ps[i]? = some a->xs[i]? = some x->H a=some (.lst (f x))
def D6.keep {α:Type}{f:α->List V}{H:Hp}{ps:List PU}{xs:List α}(h:D6 f H ps xs)(e:∀a∈ps,H' a=H a):D6 f H' ps xs:=⟨h.1,λi a x h1 h2=>(e a (Md h1)).trans (h.2 i a x h1 h2)⟩
def D6.has {α:Type}{f:α->List V}{H:Hp}{ps:List PU}{xs:List α}(h:D6 f H ps xs):∀a∈ps,∃ys,H a=some (.lst ys):=λa ha=>by obtain⟨i,hi⟩:=NM.1 ha;obtain⟨hj,_⟩:=Lj.1 hi;exact⟨_,h.2 i a (xs[i]'(by rw[<-h.1];exact hj)) hi (by simp)⟩
def D6.snoc {α:Type}{f:α->List V}{H:Hp}{ps:List PU}{xs:List α}{a:PU}{x:α}(h:D6 f H ps xs)(e:H a=some (.lst (f x))):D6 f H (ps++[a]) (xs++[x]):=by
 refine⟨by simp[h.1],λi b y h1 h2=>?_⟩;by_cases hi:i<ps.length
 .rw[LU hi]at h1;rw[LU (by rw[<-h.1];exact hi)]at h2;exact h.2 i b y h1 h2
 .rw[LL (by omega)]at h1;rw[LL (by rw[<-h.1];omega),<-h.1]at h2;cases hk:i-ps.length with
  | zero=>rw[hk]at h1 h2;simp at h1 h2;subst h1 h2;exact e
  | succ k=>rw[hk]at h1;simp at h1
structure MacIn (K:Qf) (W H:Hp) (d:PU) (μ:Mac) (ha l b:PU) (ps rs:List PU):Prop where
 nd:(d::l::b::(ps++rs)).Nodup
 hd:H d=some (.dK (G2 (.ref ha) l b μ.t))
 hh:SqT K W ha [.int μ.h,xH μ.c,.str μ.u]
 hl:H l=some (.lst (ps.map V.ref))
 hb:H b=some (.lst (rs.map V.ref))
 pl:D6 dO H ps μ.line
 pb:D6 qm H rs μ.book
def AJ (K:Qf)(W H:Hp)(d:PU)(μ:Mac)(A:List PU):Prop:=∃ha l b ps rs,A=d::l::b::(ps++rs)/\MacIn K W H d μ ha l b ps rs
def MacIn.keep {K:Qf}{W W' H:Hp}{d:PU}{μ:Mac}{l b:PU}{ps rs:List PU}(h:MacIn K W H d μ ha l b ps rs)(s:h8 W W')(e:∀a∈d::l::b::(ps++rs),H' a=H a):MacIn K W' H' d μ ha l b ps rs :=
 ⟨h.nd,(e d (by simp)).trans h.hd,h.hh.same s,(e l (by simp)).trans h.hl,(e b (by simp)).trans h.hb,h.pl.keep λa ha=>e a (by simp[ha]),h.pb.keep λa ha=>e a (by simp[ha])⟩
def MacIn.has {K:Qf}{W H:Hp}{d:PU}{μ:Mac}{l b:PU}{ps rs:List PU}(h:MacIn K W H d μ ha l b ps rs):∀a∈l::b::(ps++rs),∃ys,H a=some (.lst ys):=λa hm=>by
 simp only[Lh,Li]at hm;rcases hm with rfl | rfl | hm | hm
 .exact⟨_,h.hl⟩
 .exact⟨_,h.hb⟩
 .exact h.pl.has a hm
 .exact h.pb.has a hm
class LamC where
 l:List Str
instance macR [LamC]:Regs where
 S:=Mac
 Reg:=AJ
 keep:=λ⟨ha,l,b,ps,rs,e,h⟩ s k=>⟨ha,l,b,ps,rs,e,h.keep s (e▸k)⟩
 has:=λ⟨ha,l,b,ps,rs,e,h⟩ a hm=>by
  rw[e]at hm;rcases Lh.1 hm with rfl | hm
  .exact⟨_,h.hd⟩
  .obtain⟨ys,z⟩:=h.has a hm;exact⟨_,z⟩
 lam:=LamC.l
section
variable [LamC]
local instance regI6:Feeds:=K2
variable {K:Qf}{X:Cx}{a b c e:Qd}{st:Qc}{tb:TE}{ma mb m:DE->M My}{t u:TS}{mt mu:DE->M Out}{p:Pos}{x:Str}{j:Option Str}
def TEq (K:Qf)(i0:Nat)(te:TE)(m:DE->M My):Prop:=∀(d:PU) (B0 A0:List PU) (H0:Hp) (B A:List PU) (E:DE) (μ:FS) (O:St) (H:Hp) (Q:VK) (r:My) (μ':FS),SitMB K i0 d B0 A0 H0 B A E μ O H->m E μ=some (r,μ') ->
 (∀v H',μ' = μ->SitMB K i0 d B0 A0 H0 B A E μ O H'->(∀a∈A,H' a=H a)->h8 (hid H B) (hid H' B)->b8 K (hid H' B) r v->Q v H')->te O H Q
def TAq (K:Qf)(i0:Nat)(ta:TA)(m:DE->M (List My)):Prop:=∀(d:PU) (B0 A0:List PU) (H0:Hp) (B A:List PU) (E:DE) (μ:FS) (O:St) (H:Hp) (Q:List V->Hp->Prop) (r:List My) (μ':FS),SitMB K i0 d B0 A0 H0 B A E μ O H->m E μ=some (r,μ') ->
 (∀vs H',μ' = μ->SitMB K i0 d B0 A0 H0 B A E μ O H'->(∀a∈A,H' a=H a)->h8 (hid H B) (hid H' B)->b7 K (hid H' B) r vs->Q vs H')->ta O H Q
structure Eq1 (K:Qf) (X:Cx) (i0:Nat) (e:Qd) (te:TE) (m:DE->M My):Prop where
 pe:PE X e te
 ok:TEq K i0 te m
structure Eaq (K:Qf) (X:Cx) (i0:Nat) (es:List Qd) (ta:TA) (m:DE->M (List My)):Prop where
 pa:PA X es ta
 ok:TAq K i0 ta m
def SitMB.kept {d:PU}{B A:List PU}{E:DE}{μ:FS}{O:St}{H:Hp}(S:SitMB K i0 d B0 A0 H0 B A E μ O H)(k:Kp (tabP K) H H'):∀a∈A,H' a=H a:=λa ha=>by obtain⟨o,e⟩:=Regs.has S.rg a ha;rw[e];exact k a o e (S.aB a ha).2.1
def sY (h:Ev K X e te m):Eq1 K X i0 e te (mE m):=⟨h.pe,λd B0 A0 H0 B A E μ O H Q r μ' S e q=>by obtain⟨⟨x,μ1⟩,e1,e⟩:=bS9 e;cases e;exact h.ok none B E μ O H _ x μ1 S.I e1 λv H1 k1 f1 h1=>q v H1 rfl (S.step k1 f1.2) (S.kept k1) (S.sm k1) h1⟩
def q_m (h:TEq K i0 te m):TEm K i0 te m:=λd B0 A0 H0 B A E μ O H Q r μ' S e q=>h d B0 A0 H0 B A E μ O H _ r μ' S e λv H' em S' _ s h'=>q v H' B A (em▸S') s h'
def Am (h:Eq1 K X i0 e te m):Em K X i0 e te m:=⟨h.pe,q_m h.ok⟩
def sI :Eaq K X i0 [] K8 i7:=⟨u9,λd B0 A0 H0 B A E μ O H Q r μ' S e q=>by cases e;exact q [] H rfl S (λ_ _=>rfl) (h8.refl _) b7.nil⟩
def T8 {t:TA}{ms:DE->M (List My)}(ha:Eq1 K X i0 e te m)(hr:Eaq K X i0 es t ms)(hs:Qh (e::es) X.env=(false,eval e X.env)::Qh es X.env:=by rfl):Eaq K X i0 (e::es) (B4 te t) (c7 m ms) :=
 ⟨l7 ha.pe hr.pa hs,λd B0 A0 H0 B A E μ O H Q r μ' S e q=>by
  obtain⟨⟨x,μ1⟩,e1,e⟩:=bS9 e;obtain⟨⟨ys,μ2⟩,e2,e⟩:=bS9 e;cases e;refine ha.ok d B0 A0 H0 B A E μ O H _ x μ1 S e1 λv H1 em1 S1 k1 s1 h1=>?_
  subst em1;exact hr.ok d B0 A0 H0 B A E _ O H1 _ ys _ S1 e2 λvs H2 em2 S2 k2 s2 h2=>q _ H2 em2 S2 (λa ha=>(k2 a ha).trans (k1 a ha)) (s1.trans s2) (.cons (h1.same s2) h2)⟩
def BW (K:Qf):List V->Hp->VK->Prop:=λxs H Q=>∃p ys,xs=[.ref p]/\(SqL K H p ys\/SqT K H p ys)/\Q (.int ys.length) H
def sAt :DE->M My:=λ_ μ=>some (.int (Mac.t μ),μ)
def jb :DE->M My:=λ_ μ=>some (fF μ,μ)
def sg :DE->M My:=λ_ μ=>some (.int (Mac.line μ).length,μ)
def wG :DE->M My:=λ_ μ=>some (.int (Mac.book μ).length,μ)
def wj :DE->M My:=λ_ μ=>some (.bool (!(Mac.line μ).isEmpty),μ)
def Gc :TEq K i0 (M3 (z7 i0) (tC (.str "at"))) sAt:=λd B0 A0 H0 B A E μ O H Q r μ' S e q=>by cases e;obtain⟨ha,l,b,ps,rs,_,h⟩:=S.rg;exact⟨_,S.at0,d,_,rfl,xx h.hd,q _ H rfl S (λ_ _=>rfl) (h8.refl _) b8.int⟩
def Ft {k}(hu:X.A.units+65<Qu)(hN:X.N[i0]? = some x:=by rfl)(hv:Vis X.env.scope x:=by walk_at "v")(hd:(x == ("__debug__":Str))=false:=by decide)(hcd:(x == ("__classdict__":Str))=false:=by decide) :
  Eq1 K X i0 (.Subscript (.Name x p) (.Constant (.str "at") k p2) pos) (M3 (z7 i0) (tC (.str "at"))) sAt:=⟨G8 (by omega) (L7 hN hv hd hcd) C4 (λ_ _=>rfl),Gc⟩
def Ad {H:Hp}{c:Option Int}:b8 K H (ic c) (xH c):=by
 cases c with
 | none=>exact b8.non
 | some i=>exact b8.int
def iK {W:Hp}{μ:Mac}(h:SqT K W ha [.int μ.h,xH μ.c,.str μ.u]):b8 K W (fF μ) (.ref ha):=by unfold fF;simp only[b8];exact⟨ha,_,rfl,h,.cons b8.int (.cons Ad (.cons b8.st b7.nil))⟩
def yw :TEq K i0 (M3 (z7 i0) (tC (.str "house"))) jb:=λd B0 A0 H0 B A E μ O H Q r μ' S e q=>by cases e;obtain⟨ha,l,b,ps,rs,_,h⟩:=S.rg;exact⟨_,S.at0,d,_,rfl,hX h.hd,q _ H rfl S (λ_ _=>rfl) (h8.refl _) (iK h.hh)⟩
def oU {k}(hu:X.A.units+65<Qu)(hN:X.N[i0]? = some x:=by rfl)(hv:Vis X.env.scope x:=by walk_at "v")(hd:(x == ("__debug__":Str))=false:=by decide)(hcd:(x == ("__classdict__":Str))=false:=by decide) :
  Eq1 K X i0 (.Subscript (.Name x p) (.Constant (.str "house") k p2) pos) (M3 (z7 i0) (tC (.str "house"))) jb:=⟨G8 (by omega) (L7 hN hv hd hcd) C4 (λ_ _=>rfl),yw⟩
def EB {f:My->My->Option My}(hr:IxR X (rD2 K f))(ha:Em K X i0 a ta ma)(hb:Em K X i0 b tb mb)(hs:mx b:=by intro _ _;rfl):Em K X i0 (.Subscript a b pos) (tOp (rD2 K f) ta tb) (s2 f ma mb):=⟨P7 hr ha.pe hb.pe hs,λd B0 A0 H0 B A E μ O H Q r μ' S e q=>by
 obtain⟨⟨x,μ1⟩,e1,e⟩:=bS9 e;obtain⟨⟨y,μ2⟩,e2,e⟩:=bS9 e;obtain⟨z,e3,e⟩:=bS9 e;cases e;walk_at "kp"
 refine hb.ok d B0 A0 H0 B1 A1 E μ1 O H1 _ y _ S1 e2 λw H2 B2 A2 S2 s2 h2=>⟨tabP K,B2,x,y,_,S2.I.bk,cw (h1.same s2) S2.I.fB,cw h2 S2.I.fB,e3,λu H3 s hu=>?_⟩
 exact q u H3 B2 A2 (S2.step (Kp.same s) (S2.I.fd.same s).2) ((s1.trans s2).trans (S2.sm (Kp.same s))) hu⟩
def yR {k}(hK:X.K=K)(hu:X.A.units+65<Qu)(hl:X.mg "len" = none)(hN:X.N[i0]? = some x:=by rfl)(hv:Vis X.env.scope x:=by walk_at "v")(hd:(x == ("__debug__":Str))=false:=by decide)(hcd:(x == ("__classdict__":Str))=false:=by decide)(hg:Gl X "len":=by rfl)
  (he:Qh [.Subscript (.Name x p) (.Constant (.str "line") k p2) p3] X.env=(false,eval (.Subscript (.Name x p) (.Constant (.str "line") k p2) p3) X.env)::Qh [] X.env:=by rfl) (hpl:(Qk pos (Qh [] X.env)).any (·.1)=false:=by rfl) :
  Eq1 K X i0 (.Call (.Name "len" p4) [.Subscript (.Name x p) (.Constant (.str "line") k p2) p3] [] pos) (tCB (BW K) (B4 (M3 (z7 i0) (tC (.str "line"))) K8)) sg:=by subst hK;refine⟨ar N2 hg hl OH (l7 (G8 (by omega) (L7 hN hv hd hcd) C4 (λ_ _=>rfl)) u9 he) (by decide) (by decide) he hpl,λd B0 A0 H0 B A E μ O H Q r μ' S e q=>?_⟩;cases e;obtain⟨ha,l,b,ps,rs,_,h⟩:=S.rg;exact⟨_,S.at0,d,_,rfl,cg h.hd,l,_,rfl,.inl (SqL.of h.hl),by rw[Lf,h.pl.1];exact q _ H rfl S (λ_ _=>rfl) (h8.refl _) b8.int⟩
def zd {k}(hK:X.K=K)(hu:X.A.units+65<Qu)(hl:X.mg "len" = none)(hN:X.N[i0]? = some x:=by rfl)(hv:Vis X.env.scope x:=by walk_at "v")(hd:(x == ("__debug__":Str))=false:=by decide)(hcd:(x == ("__classdict__":Str))=false:=by decide)(hg:Gl X "len":=by rfl)
  (he:Qh [.Subscript (.Name x p) (.Constant (.str "book") k p2) p3] X.env=(false,eval (.Subscript (.Name x p) (.Constant (.str "book") k p2) p3) X.env)::Qh [] X.env:=by rfl) (hpl:(Qk pos (Qh [] X.env)).any (·.1)=false:=by rfl) :
  Eq1 K X i0 (.Call (.Name "len" p4) [.Subscript (.Name x p) (.Constant (.str "book") k p2) p3] [] pos) (tCB (BW K) (B4 (M3 (z7 i0) (tC (.str "book"))) K8)) wG:=by subst hK;refine⟨ar N2 hg hl OH (l7 (G8 (by omega) (L7 hN hv hd hcd) C4 (λ_ _=>rfl)) u9 he) (by decide) (by decide) he hpl,λd B0 A0 H0 B A E μ O H Q r μ' S e q=>?_⟩;cases e;obtain⟨ha,l,b,ps,rs,_,h⟩:=S.rg;exact⟨_,S.at0,d,_,rfl,lr h.hd,b,_,rfl,.inl (SqL.of h.hb),by rw[Lf,h.pb.1];exact q _ H rfl S (λ_ _=>rfl) (h8.refl _) b8.int⟩
end
end
variable {vs:List V}
section
section
variable [LamC]
local instance regI7:Feeds:=K2
variable {K:Qf}{X:Cx}{a b c e:Qd}{st:Qc}{tb:TE}{ma mb m:DE->M My}{t u:TS}{mt mu:DE->M Out}{p:Pos}{x:Str}{j:Option Str}
def uD {ps:List PU}{xs:List Per}(h:ps.length=xs.length):(ps.map V.ref).isEmpty=xs.isEmpty:=by cases ps <;> cases xs <;> simp at h ⊢
def Fh {R:R2}{f:Bool->Bool}(hR:∀{l p:PU} {ys:List V} {H:Hp} {Q:VK},SqL K H l ys->SqL K H p []->Q (.bl (f ys.isEmpty)) H->R (.ref l) (.ref p) H Q):TEq K i0 (tOp R (M3 (z7 i0) (tC (.str "line"))) (bF K8)) (λ_ μ=>some (.bool (f (Mac.line μ).isEmpty),μ)):=λd B0 A0 H0 B A E μ O H Q r μ' S e q=>by cases e;obtain⟨ha,l,b,ps,rs,_,h⟩:=S.rg;refine⟨_,S.at0,d,_,rfl,cg h.hd,Mb _,λp hp=>hR (SqL.of (by rw[b9 (i3 h.hl hp)];exact h.hl)) (SqL.of d7) ?_⟩;rw[uD h.pl.1];exact q _ _ rfl (S.step (Kp.upd hp) (S.I.fd.same (h8.upd hp)).2) (S.kept (Kp.upd hp)) (S.sm (Kp.upd hp)) b8.bl
def yS {k}(hK:X.K=K)(hu:X.A.units+65<Qu)(hN:X.N[i0]? = some x:=by rfl)(hv:Vis X.env.scope x:=by walk_at "v")(hd:(x == ("__debug__":Str))=false:=by decide)(hcd:(x == ("__classdict__":Str))=false:=by decide)(hm:behindInMarks .NotEq (.List [] p4)=false:=by first | exact Z9 _ | rfl) :
  Etm K X i0 (.Compare (.Subscript (.Name x p) (.Constant (.str "line") k p2) p3) [.NotEq] [.List [] p4] pos) (bR (tOp (lR K) (M3 (z7 i0) (tC (.str "line"))) (bF K8))) (uB wj):=by subst hK;have hp:PE X (.Compare (.Subscript (.Name x p) (.Constant (.str "line") k p2) p3) [.NotEq] [.List [] p4] pos) (tOp (lR X.K) (M3 (z7 i0) (tC (.str "line"))) (bF K8)):=gU (iz (by omega)) (G8 (by omega) (L7 hN hv hd hcd) C4 (λ_ _=>rfl)) (Q7 u9) hm;have hq:Eq1 X.K X i0 (.Compare (.Subscript (.Name x p) (.Constant (.str "line") k p2) p3) [.NotEq] [.List [] p4] pos) (tOp (lR X.K) (M3 (z7 i0) (tC (.str "line"))) (bF K8)) wj:=⟨hp,Fh (f:=λb=>!b) λh1 h2 q=>⟨_,_,_,rfl,rfl,h1,h2,q⟩⟩;exact⟨T3 (iz (by omega)) (G8 (by omega) (L7 hN hv hd hcd) C4 (λ_ _=>rfl)) (Q7 u9) hm,Dc (Am hq).ok⟩
section
variable {d:PU}{B A:List PU}{E:DE}{μ μ':Mac}{O:St}{H:Hp}
def SitMB.remake (S:SitMB K i0 d B0 A0 H0 B A E μ O H)(kp:∀b o,H b=some o->b ∉ A->H' b=some o)(hA:∀a∈A',a∈A\/H a=none)(al:∀a∈A,∃o,H' a=some o)(rg:∀{W:Hp},h8 (hid H B) W->AJ K W H' d μ' A'):SitMB K i0 d B0 A0 H0 (A'++B) A' E μ' O H'/\h8 (hid H B) (hid H' (A'++B)):=by
 have tn:∀b∈A,b ∉ tabP K:=λb hb=>(S.aB b hb).2.1
 have nB:∀a,H a=none->a ∉ B:=λa e=>S.I.bk.nin e
 refine S.called ⟨?_,λa ha=>?_,λb o e _ n=>kp b o e n,?_,λb hb=>?_⟩
 .refine rg λb o eb=>?_
  by_cases hB:b∈B
  .rw[D2 hB]at eb;cases eb
  .rw[i6 hB]at eb;rw[i6 λz=>(Li.1 z).elim (λz=>(hA b z).elim (λz=>hB (S.aB b z).1) λz=>by rw[z]at eb;cases eb) hB];exact kp b o eb λz=>hB (S.aB b z).1
 .rcases hA a ha with h | h
  .exact⟨tn a h,.inl h⟩
  .exact⟨λz=>nB a h (S.s a (S.tB a z)),.inr ⟨h,nB a h⟩⟩
 .refine S.I.fd.2.congr λb hb=>?_
  obtain⟨o,e,n⟩:∃o,H b=some o/\b ∉ A:=by
   rcases hb with hb | ⟨φ,e⟩
   .obtain⟨t,ht,rfl⟩:=LN.1 hb;obtain⟨ps,e,_⟩:=S.I.fd.2 t ht;exact⟨_,e,λz=>tn _ z (Nb ht)⟩
   .refine⟨_,e,λz=>?_⟩;obtain⟨ha,l,bb,ps,rs,ea,h⟩:=S.rg;rw[ea]at z;rcases Lh.1 z with rfl | z
    .rw[h.hd]at e;cases e
    .obtain⟨ys,ey⟩:=h.has b z;rw[ey]at e;cases e
  rw[e];exact kp b o e n
 .by_cases hb':b∈A
  .exact al b hb'
  .obtain⟨o,e⟩:=S.I.bk b hb;exact⟨o,kp b o e hb'⟩
end
def kn:List My->Option Per
 | [.int n,.int r,.int l,.bool b]=>some ⟨n,r,l,b⟩
 | _=>none
def kz:List My->Option Row
 | [.str w,.int t,.none,.int q]=>some ⟨w,t,none,q⟩
 | _=>none
def An {H:Hp}{ds:List My}{y:Per}(h:kn ds=some y)(hd:b7 K H ds vs):vs=dO y:=by
 unfold kn at h;split at h
 .cases h;simp only[b7,b8]at hd;obtain⟨_,_,rfl,rfl,_,_,rfl,rfl,_,_,rfl,rfl,_,_,rfl,rfl,rfl⟩:=hd;rfl
 .cases h
def zO {H:Hp}{ds:List My}{y:Row}(h:kz ds=some y)(hd:b7 K H ds vs):vs=qm y:=by
 unfold kz at h;split at h
 .cases h;simp only[b7,b8]at hd;obtain⟨_,_,rfl,rfl,_,_,rfl,rfl,_,_,rfl,rfl,_,_,rfl,rfl,rfl⟩:=hd;rfl
 .cases h
def nK (ms:DE->M (List My)):DE->M Out:=λE μ=>(ms E μ).bind λp=>(kn p.1).bind λy=>if (Mac.line p.2).length<Qg/\p.1.length<=Qg then some (.nx E,{ (p.2:Mac) with line:=Mac.line p.2++[y] }) else none
def oM (ms:DE->M (List My)):DE->M Out:=λE μ=>(ms E μ).bind λp=>(kz p.1).bind λy=>if (Mac.book p.2).length<Qg/\p.1.length<=Qg then some (.nx E,{ (p.2:Mac) with book:=Mac.book p.2++[y] }) else none
def CG {ta:TA}{ms:DE->M (List My)}(h:TAq K i0 ta ms):TSm K i0 (bc (tBM K "list" Y4 (M3 (z7 i0) (tC (.str "line"))) (B4 (bF ta) K8))) (nK ms):=λd B0 A0 H0 B A E μ O H D r μ' S e q=>by
 obtain⟨⟨ds,μ1⟩,e1,e⟩:=bS9 e;obtain⟨y,e2,e⟩:=bS9 e;split at e
 .rename_i hsz;cases e;obtain⟨ha,l,b,ps,rs,ea,hm⟩:=S.rg;refine⟨_,S.at0,d,_,rfl,cg hm.hd,.inl ⟨rfl,_,SqL.of hm.hl⟩,h d B0 A0 H0 B A E μ O H _ ds μ1 S e1 λvs H1 em S1 k1 s1 h1=>⟨by rw[h1.length];exact hsz.2,λz hz=>?_⟩⟩;subst em;have ev:=An e2 h1;subst ev;have hm1:MacIn K (hid H1 B) H1 d _ ha l b ps rs:=hm.keep s1 (ea▸k1);have nz:z ∉ A:=λzz=>by obtain⟨o,eo⟩:=Regs.has S1.rg z zz;rw[hz]at eo;cases eo
  have nd:=hm1.nd;have hlz:l≠z:=λzz=>nz (by rw[ea,<-zz];simp)
  refine⟨l,ps.map V.ref,.ref z,rfl,rfl,by rw[b9 hlz];exact hm1.hl,by rw[Lf,hm1.pl.1];exact hsz.1,?_⟩;have hH:∀a,a≠z->a≠l->(upd (upd H1 z (.lst (dO y))) l (.lst (ps.map V.ref++[.ref z]))) a=H1 a:=λa n1 n2=>by rw[b9 n2,b9 n1]
  obtain⟨Z,_⟩:=S1.remake (A':=d::l::b::((ps++[z])++rs)) (H':=upd (upd H1 z (.lst (dO y))) l (.lst (ps.map V.ref++[.ref z]))) (μ':={ (μ1:Mac) with line:=Mac.line μ1++[y] })
   (λb' o eo n=>by rw[hH b' (λzz=>by rw[zz,hz]at eo;cases eo) (λzz=>n (by rw[ea,zz];simp))];exact eo)
   (λa ha=>by
    simp only[Lh,Li,Mv,Mn,Nt]at ha;rw[ea];simp only[Lh,Li];rcases ha with h | h | h | (h | h) | h
    .exact .inl (.inl h)
    .exact .inl (.inr (.inl h))
    .exact .inl (.inr (.inr (.inl h)))
    .exact .inl (.inr (.inr (.inr (.inl h))))
    .exact .inr (h▸hz)
    .exact .inl (.inr (.inr (.inr (.inr h)))))
   (λa ha=>by
    by_cases h1:a=l
    .subst h1;exact⟨_,d7⟩
    .obtain⟨o,eo⟩:=Regs.has S1.rg a ha;rw[hH a (λzz=>nz (zz▸ha)) h1];exact⟨o,eo⟩)
   (λ{W} sW=>by
    have nl:l ∉ d::b::(ps++rs):=by simp at nd ⊢;grind
    have nzz:z ∉ d::l::b::(ps++rs):=ea▸nz;refine⟨ha,l,b,ps++[z],rs,rfl,?_,?_,hm1.hh.same sW,?_,?_,?_,?_⟩
    .simp at nd nzz ⊢;grind
    .rw[hH d (by simp at nzz;grind) (by simp at nl;grind)];exact hm1.hd
    .rw[d7,LD];rfl
    .rw[hH b (by simp at nzz;grind) (by simp at nl;grind)];exact hm1.hb
    .refine D6.snoc (hm1.pl.keep λa ha=>hH a (by simp at nzz;grind) (by simp at nl;grind)) ?_;rw[b9 (LZ hlz)];exact d7
    .exact hm1.pb.keep λa ha=>hH a (by simp at nzz;grind) (by simp at nl;grind))
  exact q _ _ O _ Z
 .cases e
def Cd {ta:TA}{ms:DE->M (List My)}(h:TAq K i0 ta ms):TSm K i0 (bc (tBM K "list" Y4 (M3 (z7 i0) (tC (.str "book"))) (B4 (bF ta) K8))) (oM ms):=λd B0 A0 H0 B A E μ O H D r μ' S e q=>by
 obtain⟨⟨ds,μ1⟩,e1,e⟩:=bS9 e;obtain⟨y,e2,e⟩:=bS9 e;split at e
 .rename_i hsz;cases e;obtain⟨ha,l,b,ps,rs,ea,hm⟩:=S.rg;refine⟨_,S.at0,d,_,rfl,lr hm.hd,.inl ⟨rfl,_,SqL.of hm.hb⟩,h d B0 A0 H0 B A E μ O H _ ds μ1 S e1 λvs H1 em S1 k1 s1 h1=>⟨by rw[h1.length];exact hsz.2,λz hz=>?_⟩⟩;subst em;have ev:=zO e2 h1;subst ev;have hm1:MacIn K (hid H1 B) H1 d _ ha l b ps rs:=hm.keep s1 (ea▸k1);have nz:z ∉ A:=λzz=>by obtain⟨o,eo⟩:=Regs.has S1.rg z zz;rw[hz]at eo;cases eo
  have nd:=hm1.nd;have hlz:b≠z:=λzz=>nz (by rw[ea,<-zz];simp)
  refine⟨b,rs.map V.ref,.ref z,rfl,rfl,by rw[b9 hlz];exact hm1.hb,by rw[Lf,hm1.pb.1];exact hsz.1,?_⟩;have hH:∀a,a≠z->a≠b->(upd (upd H1 z (.lst (qm y))) b (.lst (rs.map V.ref++[.ref z]))) a=H1 a:=λa n1 n2=>by rw[b9 n2,b9 n1]
  obtain⟨Z,_⟩:=S1.remake (A':=d::l::b::(ps++(rs++[z]))) (H':=upd (upd H1 z (.lst (qm y))) b (.lst (rs.map V.ref++[.ref z]))) (μ':={ (μ1:Mac) with book:=Mac.book μ1++[y] })
   (λb' o eo n=>by rw[hH b' (λzz=>by rw[zz,hz]at eo;cases eo) (λzz=>n (by rw[ea,zz];simp))];exact eo)
   (λa ha=>by
    simp only[Lh,Li,Mv,Mn,Nt]at ha;rw[ea];simp only[Lh,Li];rcases ha with h | h | h | h | (h | h)
    .exact .inl (.inl h)
    .exact .inl (.inr (.inl h))
    .exact .inl (.inr (.inr (.inl h)))
    .exact .inl (.inr (.inr (.inr (.inl h))))
    .exact .inl (.inr (.inr (.inr (.inr h))))
    .exact .inr (h▸hz))
   (λa ha=>by
    by_cases h1:a=b
    .subst h1;exact⟨_,d7⟩
    .obtain⟨o,eo⟩:=Regs.has S1.rg a ha;rw[hH a (λzz=>nz (zz▸ha)) h1];exact⟨o,eo⟩)
   (λ{W} sW=>by
    have nl:b ∉ d::l::(ps++rs):=by simp at nd ⊢;grind
    have nzz:z ∉ d::l::b::(ps++rs):=ea▸nz;refine⟨ha,l,b,ps,rs++[z],rfl,?_,?_,hm1.hh.same sW,?_,?_,?_,?_⟩
    .simp at nd nzz ⊢;grind
    .rw[hH d (by simp at nzz;grind) (by simp at nl;grind)];exact hm1.hd
    .rw[hH l (by simp at nzz;grind) (by simp at nl;grind)];exact hm1.hl
    .rw[d7,LD];rfl
    .exact hm1.pl.keep λa ha=>hH a (by simp at nzz;grind) (by simp at nl;grind)
    .refine D6.snoc (hm1.pb.keep λa ha=>hH a (by simp at nzz;grind) (by simp at nl;grind)) ?_;rw[b9 (LZ hlz)];exact d7)
  exact q _ _ O _ Z
 .cases e
end
end
section
def isInt:My->Bool
 | .int _=>true
 | _=>false
def noOwn:DE->Bool
 | []=>true
 | some (.own _)::_=>false
 | _::r=>noOwn r
theorem R6:∀{E:DE} {i:Nat} {ds:List My},noOwn E=true->E[i]? ≠ some (some (DV.own ds))
 | [],i,ds,_=>by simp
 | x::r,0,ds,h=>by
  intro z;simp at z;subst z;simp[noOwn]at h
 | x::r,i+1,ds,h=>by
  have:noOwn r=true:=by
   cases x with
   | none=>simpa [noOwn] using h
   | some y=>cases y <;> simp[noOwn]at h <;> exact h
  simpa using R6 (i:=i) (ds:=ds) this
theorem oY {K:Qf}{H H':Hp}:∀{ds:List My} {ws:List V},ds.all isInt=true->b7 K H ds ws->b7 K H' ds ws
 | [],ws,_,h=>by simpa only[b7] using h
 | d::ds,ws,hi,h=>by simp only[List.all_cons,NG]at hi;simp only[b7]at h ⊢;obtain⟨x,r,e,h1,h2⟩:=h;refine⟨x,r,e,?_,oY hi.2 h2⟩;cases d <;> simp[isInt]at hi;simpa only[b8] using h1
section
variable [LamC]
local instance regI8:Feeds:=K2
variable {K:Qf}{X:Cx}{a b c e:Qd}{st:Qc}{tb:TE}{ma mb m:DE->M My}{t u:TS}{mt mu:DE->M Out}{p px py:Pos}{x y:Str}
def BF {H:Hp}{a:PU}{q:Per}(h:H a=some (.lst (dO q))):b8 K H (di q) (.ref a):=by unfold di;exact b8.lst h (.cons b8.int (.cons b8.int (.cons b8.int (.cons b8.bl b7.nil))))
theorem mR {α:Type}{f:α->List V}{g:α->My}{H:Hp}{B:List PU}(hg:∀{a:PU} {q:α},hid H B a=some (.lst (f q))->b8 K (hid H B) (g q) (.ref a)):∀{ps:List PU} {xs:List α},D6 f H ps xs->(∀a∈ps,a ∉ B)->b7 K (hid H B) (xs.map g) (ps.map V.ref)
 | [],[],_,_=>by simp[b7]
 | [],x::xs,h,_=>by have:=h.1;simp at this
 | a::ps,[],h,_=>by have:=h.1;simp at this
 | a::ps,x::xs,h,hn=>by refine .cons (hg ?_) (mR hg ⟨by have:=h.1;simpa using this,λi b y h1 h2=>h.2 (i+1) b y (by simpa using h1) (by simpa using h2)⟩ λb hb=>hn b (Le _ hb));rw[i6 (hn a Lq)];exact h.2 0 a x rfl rfl
def oO (μ:Mac):My:=.list (μ.line.map di)
section
variable {d:PU}{B A:List PU}{E:DE}{μ μ':Mac}{O:St}{H:Hp}{l bb:PU}{ps rs:List PU}
def MacIn.lineIs (h:MacIn K (hid H B) H d μ ha l bb ps rs)(n:∀a∈l::bb::(ps++rs),a ∉ B'):b8 K (hid H B') (oO μ) (.ref l):=by refine b8.lst ?_ (mR (λz=>BF z) h.pl λa ha=>n a (by simp[ha]));rw[i6 (n l (by simp))];exact h.hl
def SitMB.reveal (S:SitMB K i0 d B0 A0 H0 B A E μ O H)(ea:A=d::l::bb::(ps++rs)):SitE K none (wo B (l::bb::(ps++rs))) E μ O H:=by
 have mA:∀a∈l::bb::(ps++rs),a∈A:=λa h=>ea▸Le _ h
 refine⟨S.I.fd,λb hb=>iO.2 ⟨S.s b (S.tB b hb),λz=>(S.aB b (mA b z)).2.1 hb⟩,λb hb=>S.I.bk b (iO.1 hb).1,S.I.ln,λi x ei=>?_⟩;obtain⟨v,v1,v2⟩:=S.I.loc i x ei;refine⟨v,v1,?_⟩;have sub:∀b∈wo B (l::bb::(ps++rs)),b∈B:=λb hb=>(iO.1 hb).1
 cases x with
 | dat y=>exact b8.same (show b8 K (hid H B) y v from v2) (N3 sub)
 | feed=>exact v2
 | fn _=>exact v2
 | adr _=>exact v2
 | own ys =>obtain⟨a',xs,rfl,hB,hf,hx,hd⟩:=v2;exact⟨a',xs,rfl,iO.2 ⟨hB,λz=>(S.own i ys a' ei v1).2 (mA _ z)⟩,hf,hx,hd.same (N3 sub)⟩
end
def cj (j:Nat)(mu:DE->M (List My)):DE->M Out:=λE μ=>if j<E.length/\noOwn E=true then(mu (E.set j (some (.dat (oO μ)))) μ).bind λp=>if p.1.all isInt=true then some (.rt (.list p.1),μ) else none else none
def kG {E:DE}{j:Nat}{d:My}(h:noOwn E=true):∀(i:Nat) (ds:List My),(E.set j (some (.dat d)))[i]? ≠ some (some (DV.own ds)):=λi ds e=>by
 by_cases hj:j=i
 .subst hj;by_cases hl:j<E.length
  .rw[Lp hl]at e;cases e
  .rw[Mr (by simpa using hl)]at e;cases e
 .rw[Lm hj]at e;exact R6 h e
def wQ {j:Nat}{u:TS}{mu:DE->M (List My)}(h:∀(G:GF) (B0:List PU) (H0:Hp) (E:DE) (F:FS) (O:St) (H:Hp) (D:Ends) (ds:List My) (F':FS),Sit K G B0 H0 E F O H->mu E F=some (ds,F') ->
  (∀a ws H',H0 a=none->H' a=some (.lst ws)->Kp (u4 K G) H0 H'->FAt K G H' F'->b7 K (hid H' (a::B0)) ds ws->D.rt (.ref a) H')->u D O H):TSm K i0 (U3 (O6 (M3 (z7 i0) (tC (.str "line"))) (M6 j)) u) (cj j mu):=λd B0 A0 H0 B A E μ O H D r μ' S e q=>by
 unfold cj at e;split at e
 .rename_i hc;obtain⟨⟨ds,μ1⟩,e1,e⟩:=bS9 e;split at e
  .rename_i hi;cases e;obtain⟨ha,l,bb,ps,rs,ea,hm⟩:=S.rg;have nn:∀a∈l::bb::(ps++rs),a ∉ wo B (l::bb::(ps++rs)):=λa h z=>(iO.1 z).2 h
   have I0:=S.reveal ea;refine⟨_,S.at0,d,_,rfl,cg hm.hd,?_⟩;refine h none (wo B (l::bb::(ps++rs))) H _ μ _ H D ds μ1 ⟨⟨_,λ_ z=>z,λb hb=>.inl hb,I0.set (hm.lineIs nn) hc.1⟩,I0.fB,Kp.refl,λi es a ei _=>absurd ei (kG hc.2 i es),λi k es fs a ei _ _ _=>absurd ei (kG hc.2 i es)⟩ e1 λa ws H' hn hw k f hd=>?_
   have S':=S.step k f.2;refine q _ H' A S'.fin.1 (b8.lst ?_ (oY hi hd));rw[i6 λz=>?_]
   .exact hw
   .refine S.I.bk.nin hn ?_;rcases Li.1 z with z | z
    .exact(S.aB a z).1
    .exact S.s a z
  .cases e
 .cases e
def uE (j:Nat){k}{u:TS}{mu:DE->M (List My)}(hu:X.A.units+65<Qu)(hN:X.N.Nodup)(h:SsG K X rest u mu)(h0:X.N[i0]? = some x:=by rfl)(hv:Vis X.env.scope x:=by walk_at "v")(hd:(x == ("__debug__":Str))=false:=by decide)(hcd:(x == ("__classdict__":Str))=false:=by decide)
  (hi:X.N[j]? = some y:=by rfl) (hx:Loc X.env.scope y:=by walk_at "v") (hs:Qo (.Subscript (.Name x px) (.Constant (.str "line") k p2) p3) (some (.Name y py)) pos.line X.env=pure false:=by rfl) (hf:X.fn y=true\/X.env.scope.names.lookup y=some .local:=by walk_at "v") :
  SmsR K X i0 (.Assign [.Name y py] (.Subscript (.Name x px) (.Constant (.str "line") k p2) p3) pos::rest) (U3 (O6 (M3 (z7 i0) (tC (.str "line"))) (M6 j)) u) (cj j mu) :=
 ⟨r8 (O8 hN hi hx (G8 (by omega) (L7 h0 hv hd hcd) C4 (λ_ _=>rfl)) hs hf) h.ps,wQ h.ok⟩
def zC {k}{ap cp pl:Pos}{ta:TA}{ms:DE->M (List My)}(hK:X.K=K)(hu:X.A.units+65<Qu)(h:Eaq K X i0 es ta ms)(h0:X.N[i0]? = some x:=by rfl)(hv:Vis X.env.scope x:=by walk_at "v")(hd:(x == ("__debug__":Str))=false:=by decide)(hcd:(x == ("__classdict__":Str))=false:=by decide)
  (hbase:Qp (.Subscript (.Name x px) (.Constant (.str "line") k p2) p3) "append" X.env (eval (.Subscript (.Name x px) (.Constant (.str "line") k p2) p3) X.env)=eval (.Subscript (.Name x px) (.Constant (.str "line") k p2) p3) X.env:=by rfl)
  (hfew:((Qk cp (Qh [.List es pl] X.env)).all (λx=>!x.1)&&(Qx cp (Qy [] X.env)).all (λx=>x.1.isSome)
   && decide ([Qd.List es pl].length+([]:List Ql).length+(if ([]:List Ql).isEmpty then 0 else 1)<30))=true:=by rfl)
  (hline:(ap.endLine == cp.line)=true:=by rfl) (hst:Qh [.List es pl] X.env=(false,eval (.List es pl) X.env)::Qh [] X.env:=by rfl) (hplain:(Qk cp (Qh [] X.env)).any (·.1)=false:=by rfl)
  (hs:Qo (.Call (.Attribute (.Subscript (.Name x px) (.Constant (.str "line") k p2) p3) "append" ap) [.List es pl] [] cp) none pos.line X.env=pure false:=by rfl) :
  SmR K X i0 (.Expr (.Call (.Attribute (.Subscript (.Name x px) (.Constant (.str "line") k p2) p3) "append" ap) [.List es pl] [] cp) pos) (bc (tBM K "list" Y4 (M3 (z7 i0) (tC (.str "line"))) (B4 (bF ta) K8))) (nK ms):=by subst hK;exact⟨Y0 (ke Nl Nh Ni M9 (G8 (by omega) (L7 h0 hv hd hcd) C4 (λ_ _=>rfl)) (l7 (Q7 h.pa) u9 hst) hbase hfew hline hst hplain) hs,CG h.ok⟩
def zZ {k}{ap cp pl:Pos}{ta:TA}{ms:DE->M (List My)}(hK:X.K=K)(hu:X.A.units+65<Qu)(h:Eaq K X i0 es ta ms)(h0:X.N[i0]? = some x:=by rfl)(hv:Vis X.env.scope x:=by walk_at "v")(hd:(x == ("__debug__":Str))=false:=by decide)(hcd:(x == ("__classdict__":Str))=false:=by decide)
  (hbase:Qp (.Subscript (.Name x px) (.Constant (.str "book") k p2) p3) "append" X.env (eval (.Subscript (.Name x px) (.Constant (.str "book") k p2) p3) X.env)=eval (.Subscript (.Name x px) (.Constant (.str "book") k p2) p3) X.env:=by rfl)
  (hfew:((Qk cp (Qh [.List es pl] X.env)).all (λx=>!x.1)&&(Qx cp (Qy [] X.env)).all (λx=>x.1.isSome)
   && decide ([Qd.List es pl].length+([]:List Ql).length+(if ([]:List Ql).isEmpty then 0 else 1)<30))=true:=by rfl)
  (hline:(ap.endLine == cp.line)=true:=by rfl) (hst:Qh [.List es pl] X.env=(false,eval (.List es pl) X.env)::Qh [] X.env:=by rfl) (hplain:(Qk cp (Qh [] X.env)).any (·.1)=false:=by rfl)
  (hs:Qo (.Call (.Attribute (.Subscript (.Name x px) (.Constant (.str "book") k p2) p3) "append" ap) [.List es pl] [] cp) none pos.line X.env=pure false:=by rfl) :
  SmR K X i0 (.Expr (.Call (.Attribute (.Subscript (.Name x px) (.Constant (.str "book") k p2) p3) "append" ap) [.List es pl] [] cp) pos) (bc (tBM K "list" Y4 (M3 (z7 i0) (tC (.str "book"))) (B4 (bF ta) K8))) (oM ms):=by subst hK;exact⟨Y0 (ke Nl Nh Ni M9 (G8 (by omega) (L7 h0 hv hd hcd) C4 (λ_ _=>rfl)) (l7 (Q7 h.pa) u9 hst) hbase hfew hline hst hplain) hs,Cd h.ok⟩
end
end
section
section
variable [LamC]
local instance regI9:Feeds:=K2
variable {K:Qf}{X:Cx}{a b c e:Qd}{st:Qc}{tb:TE}{ma mb m:DE->M My}{t u:TS}{mt mu:DE->M Out}{p px py:Pos}{x y:Str}
def Bi:My->Option (Option Int)
 | .none=>some none
 | .int i=>some (some i)
 | _=>none
def G6:My->Option Mac
 | .tuple [.int h,c,.str u]=>(Bi c).bind λc=>some ⟨h,c,u,[],[],0⟩
 | _=>none
def um (hv:V)(l b:PU):fo [] (G2 hv l b 0)=G2 hv l b 0:=by
 have e1:Q3 ([]:List (Key×V)) (Sum.inr "house") hv=([(Sum.inr "house",hv)]:List (Key×V)):=eO _ rfl;have e2:Q3 ([(Sum.inr "house",hv)]:List (Key×V)) (Sum.inr "line") (V.ref l)=([(Sum.inr "house",hv),(Sum.inr "line",V.ref l)]:List (Key×V)):=eO _ (by rw[D5 (by rw[Q0];exact mn1)];rfl);have e3:Q3 ([(Sum.inr "house",hv),(Sum.inr "line",V.ref l)]:List (Key×V)) (Sum.inr "book") (V.ref b)=([(Sum.inr "house",hv),(Sum.inr "line",V.ref l),(Sum.inr "book",V.ref b)]:List (Key×V)) :=
  eO _ (by rw[D5 (by rw[Q0];exact mn2),D5 (by rw[Q0];exact mn4)];rfl)
 have e4:Q3 ([(Sum.inr "house",hv),(Sum.inr "line",V.ref l),(Sum.inr "book",V.ref b)]:List (Key×V)) (Sum.inr "at") (V.int 0)=G2 hv l b 0 :=
  eO _ (by rw[D5 (by rw[Q0];exact mn3),D5 (by rw[Q0];exact mn5),D5 (by rw[Q0];exact mn6)];rfl)
 show Q3 (Q3 (Q3 (Q3 ([]:List (Key×V)) (Sum.inr "house") hv) (Sum.inr "line") (V.ref l)) (Sum.inr "book") (V.ref b)) (Sum.inr "at") (V.int 0)=_;rw[e1,e2,e3,e4]
def El :TE:=Be [(tC (.str "house"),z7 0),(tC (.str "line"),bF K8),(tC (.str "book"),bF K8),(tC (.str "at"),tC (.int 0))]
def Fe {H:Hp}{Q:VK}{E:XK}{D:Ends}{N:List Str}(h:spN K G6 vs H Q E)(hD:D.rt=Q):uu El D (L2.O2 N vs) H:=by
 obtain⟨B,hh,μ,v,rfl,bk,hd,hm,q⟩:=h;obtain⟨hn,c,u,ec,rfl,rfl⟩:∃hn c u,True/\hh = .tuple [.int hn,ic c,.str u] /\ μ=⟨hn,c,u,[],[],0⟩:=by
  unfold G6 at hm;split at hm
  .rename_i h1 c1 u1;obtain⟨c2,e1,e2⟩:=bS9 hm;cases e2;refine⟨_,c2,_,trivial,?_,rfl⟩;unfold Bi at e1;split at e1
   .cases e1;rfl
   .cases e1;rfl
   .cases e1
  .cases hm
 simp only[b8]at hd;obtain⟨ha,xs,rfl,hq,hx⟩:=hd;have hx:xs=[.int hn,xH c,.str u]:=by
  simp only[b7,b8]at hx;obtain⟨_,_,rfl,rfl,y,_,rfl,h2,_,_,rfl,rfl,rfl⟩:=hx;cases c with
  | none =>
   have:y = .non:=by simpa only[ic,b8] using h2
   subst this;rfl
  | some i =>
   have:y = .int i:=by simpa only[ic,b8] using h2
   subst this;rfl
 subst hx;show El (L2.O2 N [.ref ha]) H D.rt;rw[hD];intro p hp;refine⟨_,rfl,Mb _,λl hl=>⟨Mb _,λb hb=>?_⟩⟩;have pl:p≠l:=i3 d7 hl;have lb:l≠b:=i3 d7 hb;have hb1:=hb;rw[b9 (LZ lb)]at hb1;have pb:p≠b:=i3 d7 hb1;have hl0:H l=none:=by rw[b9 (LZ pl)]at hl;exact hl
 have hb0:H b=none:=by rw[b9 (LZ pb)]at hb1;exact hb1
 refine⟨by rw[b9 pb,b9 pl];exact d7,G2 (.ref ha) l b 0,rfl,by show 4<=15;decide,?_⟩;rw[um];have sm:h8 H (upd (upd (upd (upd H p (.dK [])) l (.lst [])) b (.lst [])) p (.dK (G2 (.ref ha) l b 0))):=λx o e=>by rw[b9 (i3 e hp),b9 (i3 e hb0),b9 (i3 e hl0),b9 (i3 e hp)];exact e
 refine q p [p,l,b] _ sm (λa hm=>?_) ⟨ha,l,b,[],[],rfl,?_,d7,hq.same λx o e=>?_,?_,?_,⟨rfl,λi x y h1 _=>by simp at h1⟩,⟨rfl,λi x y h1 _=>by simp at h1⟩⟩
 .simp at hm;rcases hm with rfl | rfl | rfl
  .exact hp
  .exact hl0
  .exact hb0
 .simp[pl,pb,lb]
 .by_cases hB:x∈B
  .rw[D2 hB]at e;cases e
  .rw[i6 hB]at e;rw[i6 λz=>?_]
   .exact sm x o e
   .simp at z;rcases z with z | z | z | z
    .rw[z,hp]at e;cases e
    .rw[z,hl0]at e;cases e
    .rw[z,hb0]at e;cases e
    .exact hB z
 .rw[b9 (LZ pl),b9 lb];exact d7
 .rw[b9 (LZ pb)];exact d7
end
end
section
structure BS where
 line:List Per
 book:List Row
 stay:List Per
 turned:List Per
 gone:List Int
def fU:Option My->Option Bool
 | some (.bool b)=>some b
 | _=>none
def iI {o:Option My}{b:Bool}(h:fU o=some b):o=some (.bool b):=by
 unfold fU at h;split at h
 .cases h;rfl
 .cases h
def nT :My:=.tuple [.str "first",.str "last",.str "short",.str "front"]
def iC (u:Str):Option Bool:=fU (inD false (.str u) nT)
def inB (some:My)(k:Nat):Option Bool:=fU (inD false (.int k) some)
def dN (kp tn:Bool)(t:Int)(k:Nat)(pk:Bool)(s:BS):Option BS :=
 (s.line[k]?).bind λp=>(ixN s.book.length p.n).bind λj=>(s.book[j]?).bind λrow =>
  let p1:Per:=if pk=true then⟨p.n,p.r,p.l-1,kp⟩ else p
  let row1:Row:=if pk=true then row else⟨row.w,row.t,row.m,row.q+1⟩
  some (if p1.l=0 then⟨s.line.set k p1,s.book.set j ⟨"gone",row1.t,some t,row1.q⟩,s.stay,s.turned,s.gone++[p.n]⟩
   else if pk=true/\tn=true then⟨s.line.set k p1,s.book.set j row1,s.stay,s.turned++[p1],s.gone⟩
   else⟨s.line.set k p1,s.book.set j row1,s.stay++[p1],s.turned,s.gone⟩)
def aH (kp tn:Bool)(t:Int)(some:My):Nat->Nat->BS->Option BS
 | 0,_,s=>Option.some s
 | n+1,k,s=>(inB some k).bind λpk=>(dN kp tn t k pk s).bind λs'=>aH kp tn t some n (k+1) s'
def om (some:My)(μ:Mac):Option (List Int×Mac):=if μ.line.length<Qg/\(μ.line.length:Int)<2 ^ 62 then
 (iC μ.u).bind λkp=>(aH kp (decide (μ.u = "turns")) (μ.t+1) some μ.line.length 0 ⟨μ.line,μ.book,[],[],[]⟩).bind λs=>Option.some (s.gone,{ μ with line:=s.stay++s.turned,book:=s.book,t:=μ.t+1 }) else none
section
variable (K:Qf)
def tML :TE:=M3 (z7 0) (tC (.str "line"))
def tMB :TE:=M3 (z7 0) (tC (.str "book"))
def CV :TE:=tOp (Cp K) (M3 (z7 0) (tC (.str "house"))) (tC (.int 2))
def tP (i:Int):TE:=tOp (uI K) (z7 8) (tC (.int i))
def tR (i:Int):TE:=tOp (uI K) (z7 9) (tC (.int i))
def tIn :TT:=bR (tOp (rD2 K (inD false)) (z7 7) (z7 3))
def mW (i:Nat)(te:TE):TS:=bc (tBM K "list" Y4 (z7 i) (B4 te K8))
def Bn :TS :=
 U3 (O6 (tOp (uI K) tML (z7 7)) (M6 8))
 (U3 (O6 (tOp (uI K) tMB (tP K 0)) (M6 9))
 (U3 (oi (tIn K)
   (U3 (O6 (tOp (rI0 λi j=>.int (i-j)) (tP K 2) (tC (.int 1))) (my (z7 8) (tC (.int 2)) eF))
    (O6 (tOp (rD2 K (inD false)) (CV K) (S4 nT)) (my (z7 8) (tC (.int 3)) eF)))
   (O6 (tOp (rI0 λi j=>.int (i+j)) (tR K 3) (tC (.int 1))) (my (z7 9) (tC (.int 3)) eF)))
  (oi (bR (tOp rEq (tP K 2) (tC (.int 0))))
   (U3 (O6 (tC (.str "gone")) (my (z7 9) (tC (.int 0)) eF))
   (U3 (O6 (M3 (z7 0) (tC (.str "at"))) (my (z7 9) (tC (.int 2)) eF))
    (mW K 6 (tP K 0))))
   (oi (zE (tIn K) (bR (tOp rEq (CV K) (tC (.str "turns")))))
    (mW K 5 (z7 8)) (mW K 4 (z7 8))))))
def FB :TS :=
 U3 (xT (z7 0) (tC (.str "at")) (tOp (rI0 λi j=>.int (i+j)) (M3 (z7 0) (tC (.str "at"))) (tC (.int 1))))
 (U3 (O6 (bF K8) (M6 4)) (U3 (O6 (bF K8) (M6 5)) (U3 (O6 (bF K8) (M6 6))
 (U3 (uP (vQ (B4 (tCB (BW K) (B4 tML K8)) K8)) (M6 7) (Bn K))
 (U3 (xT (z7 0) (tC (.str "line")) (tOp FF (z7 4) (z7 5)))
  (uu (xy (B4 (z7 2) (B4 (z7 6) K8)))))))))
end
structure LP (K:Qf) (B A:List PU) (Hs:Hp) (d ha l b:PU) (ps rs:List PU) (st tu go:PU) (h:Int) (c:Option Int) (u:Str) (t:Int) (sa ta:List PU) (s:BS) (H:Hp):Prop where
 mi:MacIn K (hid H B) H d ⟨h,c,u,s.line,s.book,t⟩ ha l b ps rs
 hst:H st=some (.lst (sa.map V.ref))
 htu:H tu=some (.lst (ta.map V.ref))
 hgo:H go=some (.lst (s.gone.map V.int))
 so:D6 dO H sa s.stay
 to:D6 dO H ta s.turned
 kp:∀x o,Hs x=some o->x ∉ A->H x=some o
 bk:BOk H B
section
variable {K:Qf}{B A:List PU}{Hs:Hp}{d l b:PU}{ps rs:List PU}{st tu go:PU}{h:Int}{c:Option Int}{u:Str}{t:Int}{sa ta:List PU}{s:BS}{H:Hp}
def LP.same (L:LP K B A Hs d ha l b ps rs st tu go h c u t sa ta s H)(sm:h8 H H'):LP K B A Hs d ha l b ps rs st tu go h c u t sa ta s H':=by
 have ob:∀{α:Type} {f:α->List V} {qs:List PU} {xs:List α},D6 f H qs xs->D6 f H' qs xs:=λo=>⟨o.1,λi a x h1 h2=>sm _ _ (o.2 i a x h1 h2)⟩
 exact⟨⟨L.mi.nd,sm _ _ L.mi.hd,L.mi.hh.same ((Kp.same (fp:=[]) sm).hid (by simp)),sm _ _ L.mi.hl,sm _ _ L.mi.hb,ob L.mi.pl,ob L.mi.pb⟩,sm _ _ L.hst,sm _ _ L.htu,sm _ _ L.hgo,ob L.so,ob L.to,λx o e n=>sm _ _ (L.kp x o e n),λx hx=>by obtain⟨o,e⟩:=L.bk x hx;exact⟨o,sm _ _ e⟩⟩
end
def lQ {xs:List PU}(nd:xs.Nodup){i j:Nat}{a:PU}(h1:xs[i]? = some a)(h2:xs[j]? = some a):i=j:=by
 obtain⟨hi,ei⟩:=Lj.1 h1;obtain⟨hj,ej⟩:=Lj.1 h2;rcases Nat.lt_trichotomy i j with h | h | h
 .exact absurd (ei.trans ej.symm) (MQ.1 nd i j hi hj h)
 .exact h
 .exact absurd (ej.trans ei.symm) (MQ.1 nd j i hj hi h)
def D6.set {α:Type}{f:α->List V}{H:Hp}{ps:List PU}{xs:List α}{k:Nat}{a:PU}{x:α}(o:D6 f H ps xs)(ha:ps[k]? = some a)(nd:ps.Nodup):D6 f (upd H a (.lst (f x))) ps (xs.set k x):=by
 refine⟨by simp[o.1],λi b y h1 h2=>?_⟩;obtain⟨hk,ek⟩:=Lj.1 ha;obtain⟨hi,ei⟩:=Lj.1 h1;by_cases hik:k=i
 .subst hik;rw[ha]at h1;cases h1;rw[Lp (by rw[<-o.1];exact hk)]at h2;cases h2;exact d7
 .rw[Lm hik]at h2;have hne:b≠a:=λz=>hik (lQ nd ha (z▸h1))
  rw[b9 hne];exact o.2 i b y h1 h2
def D6.other {α:Type}{f:α->List V}{H:Hp}{ps:List PU}{xs:List α}{a:PU}{v:HO}(o:D6 f H ps xs)(n:a ∉ ps):D6 f (upd H a v) ps xs:=o.keep λb hb=>b9 λz=>n (z▸hb)
end
section
section
variable {K:Qf}{B A:List PU}{Hs:Hp}{d l b:PU}{ps rs:List PU}{st tu go:PU}{h:Int}{c:Option Int}{u:Str}{t:Int}{sa ta:List PU}{s:BS}{H:Hp}{a r:PU}{k j:Nat}
structure Apart (B A:List PU) (Hs:Hp) (d l b:PU) (ps rs:List PU) (st tu go:PU):Prop where
 nd:(st::tu::go::d::l::b::(ps++rs)).Nodup
 hid:∀x∈st::tu::go::d::l::b::(ps++rs),x∈B
 eA:A=d::l::b::(ps++rs)
 new:Hs st=none/\Hs tu=none/\Hs go=none
def Apart.per (P:Apart B A Hs d l b ps rs st tu go)(ha:ps[k]? = some a):a ∉ rs/\a≠st/\a≠tu/\a≠go/\a≠d/\a≠l/\a≠b/\a∈A/\a∈B:=by have hm:=Md ha;have:=P.nd;have hb:=P.hid a (by simp[hm]);rw[P.eA];simp[MZ]at this;refine⟨?_,?_,?_,?_,?_,?_,?_,by simp[hm],hb⟩ <;> grind
def Apart.row (P:Apart B A Hs d l b ps rs st tu go)(hr:rs[j]? = some r):r ∉ ps/\r≠st/\r≠tu/\r≠go/\r≠d/\r≠l/\r≠b/\r∈A/\r∈B:=by have hm:=Md hr;have:=P.nd;have hb:=P.hid r (by simp[hm]);rw[P.eA];simp[MZ]at this;refine⟨?_,?_,?_,?_,?_,?_,?_,by simp[hm],hb⟩ <;> grind
def Apart.nps (P:Apart B A Hs d l b ps rs st tu go):ps.Nodup/\rs.Nodup:=by have:=P.nd;simp[MZ]at this;grind
def Apart.lists (P:Apart B A Hs d l b ps rs st tu go):(∀x∈[st,tu,go],x ∉ A/\x∈B)/\st≠tu/\st≠go/\tu≠go:=by
 have h1:=P.nd;have h2:=P.hid;rw[P.eA];refine⟨λx hx=>⟨?_,h2 x ?_⟩,?_,?_,?_⟩
 .simp at hx h1 ⊢;grind
 .simp at hx ⊢;grind
 all_goals (simp at h1;grind)
def lE {x:PU}{o:HO}(h:BOk H B):BOk (upd H x o) B:=λy hy=>by
 by_cases z:y=x
 .subst z;exact⟨_,d7⟩
 .rw[b9 z];exact h y hy
def LP.setP {q:Per}(L:LP K B A Hs d ha l b ps rs st tu go h c u t sa ta s H)(P:Apart B A Hs d l b ps rs st tu go)(hp:ps[k]? = some a)(n1:a ∉ sa)(n2:a ∉ ta):LP K B A Hs d ha l b ps rs st tu go h c u t sa ta ⟨s.line.set k q,s.book,s.stay,s.turned,s.gone⟩ (upd H a (.lst (dO q))):=by
 obtain⟨m1,m2,m3,m4,m5,m6,m7,m8,m9⟩:=P.per hp;refine⟨⟨L.mi.nd,by rw[b9 (LZ m5)];exact L.mi.hd,by rw[X9 m9];exact L.mi.hh,by rw[b9 (LZ m6)];exact L.mi.hl,by rw[b9 (LZ m7)];exact L.mi.hb,D6.set L.mi.pl hp P.nps.1,D6.other L.mi.pb m1⟩,
  by rw[b9 (LZ m2)];exact L.hst,by rw[b9 (LZ m3)];exact L.htu,by rw[b9 (LZ m4)];exact L.hgo,L.so.other n1,L.to.other n2,λx o e n=>(b9 (λz=>n (by rw[z];exact m8))).trans (L.kp x o e n),lE L.bk⟩
def LP.setR {q:Row}(L:LP K B A Hs d ha l b ps rs st tu go h c u t sa ta s H)(P:Apart B A Hs d l b ps rs st tu go)(hr:rs[j]? = some r)(n1:r ∉ sa)(n2:r ∉ ta):LP K B A Hs d ha l b ps rs st tu go h c u t sa ta ⟨s.line,s.book.set j q,s.stay,s.turned,s.gone⟩ (upd H r (.lst (qm q))):=by
 obtain⟨m1,m2,m3,m4,m5,m6,m7,m8,m9⟩:=P.row hr;refine⟨⟨L.mi.nd,by rw[b9 (LZ m5)];exact L.mi.hd,by rw[X9 m9];exact L.mi.hh,by rw[b9 (LZ m6)];exact L.mi.hl,by rw[b9 (LZ m7)];exact L.mi.hb,D6.other L.mi.pl m1,D6.set L.mi.pb hr P.nps.2⟩,
  by rw[b9 (LZ m2)];exact L.hst,by rw[b9 (LZ m3)];exact L.htu,by rw[b9 (LZ m4)];exact L.hgo,L.so.other n1,L.to.other n2,λx o e n=>(b9 (λz=>n (by rw[z];exact m8))).trans (L.kp x o e n),lE L.bk⟩
def LP.other {x:PU}{o:HO}(L:LP K B A Hs d ha l b ps rs st tu go h c u t sa ta s H)(nA:x ∉ A)(eA:A=d::l::b::(ps++rs))(hx:Hs x=none)(xB:x∈B)(sub:∀y∈sa++ta,y∈ps):MacIn K (hid (upd H x o) B) (upd H x o) d ⟨h,c,u,s.line,s.book,t⟩ ha l b ps rs/\D6 dO (upd H x o) sa s.stay/\D6 dO (upd H x o) ta s.turned/\(∀y o',Hs y=some o'->y ∉ A->(upd H x o) y=some o')/\BOk (upd H x o) B:=by
 have ne:∀y∈A,y≠x:=λy hy z=>nA (z▸hy)
 have inA:∀y∈ps,y∈A:=λy hy=>by rw[eA];simp[hy]
 refine⟨?_,L.so.other λz=>nA (inA _ (sub _ (Li.2 (.inl z)))),L.to.other λz=>nA (inA _ (sub _ (Li.2 (.inr z)))),λy o' e n=>by rw[b9 λz=>by rw[z,hx]at e;cases e];exact L.kp y o' e n,lE L.bk⟩;rw[X9 xB];exact L.mi.keep (h8.refl _) λy hy=>b9 (ne y (eA▸hy))
def CO {D:Ends}{O:St}{v3:V}{sm:My}{kb pk:Bool}{s':BS}(L:LP K B A Hs d ha l b ps rs st tu go h c u t sa ta s H)(P:Apart B A Hs d l b ps rs st tu go)
  (hnd:(sa++ta).Nodup) (htk:∀x∈sa++ta,x∈ps.take k) (hk:k<ps.length) (h0:O[0]? = some (some (.ref d))) (h3:O[3]? = some (some v3)) (h4:O[4]? = some (some (.ref st))) (h5:O[5]? = some (some (.ref tu))) (h6:O[6]? = some (some (.ref go))) (h7:O[7]? = some (some (.int k))) (hl10:O.length=10)
  (hv3:∀H',(∀x o,Hs x=some o->x ∉ A->H' x=some o)->b8 K (hid H' B) sm v3) (hkp:iC u=some kb) (hpk:inB sm k=some pk) (hst:dN kb (decide (u = "turns")) t k pk s=some s') (hlen:s.stay.length+s.turned.length+s.gone.length<Qg)
  (fin:∀O' H' sa' ta',LP K B A Hs d ha l b ps rs st tu go h c u t sa' ta' s' H'->(sa'++ta').Nodup->(∀x∈sa'++ta',x∈ps.take (k+1))->s'.line.length=s.line.length->s'.stay.length+s'.turned.length+s'.gone.length=s.stay.length+s.turned.length+s.gone.length+1->(∀i,i<7->O'[i]? = O[i]?)->O'.length=10->D.nx O' H'):Bn K D O H:=by
 obtain⟨p,hp,hst⟩:=bS9 hst;obtain⟨j,hj,hst⟩:=bS9 hst;obtain⟨row,hrow,hst⟩:=bS9 hst;obtain⟨a,hpa⟩:∃a,ps[k]? = some a:=⟨ps[k],by simp[hk]⟩;have hjl:=(Lj.1 hrow).1;obtain⟨r,hrj⟩:∃r,rs[j]? = some r:=⟨rs[j]'(by rw[L.mi.pb.1];exact hjl),by simp[L.mi.pb.1]⟩;have nat:∀x∈sa++ta,x≠a:=λx hx z=>by
  subst z;have:=htk x hx;obtain⟨i,hi⟩:=NM.1 this;rw[OC]at hi;split at hi
  .rename_i hik;exact absurd (lQ P.nps.1 hi hpa) (by omega)
  .cases hi
 have sub:∀x∈sa++ta,x∈ps:=λx hx=>Nx (htk x hx)
 have n1:a ∉ sa:=λz=>nat a (Li.2 (.inl z)) rfl
 have n2:a ∉ ta:=λz=>nat a (Li.2 (.inr z)) rfl
 obtain⟨rp,_⟩:=P.row hrj;have n3:r ∉ sa:=λz=>rp (sub r (Li.2 (.inl z)))
 have n4:r ∉ ta:=λz=>rp (sub r (Li.2 (.inr z)))
 obtain⟨lb,ne1,ne2,ne3⟩:=P.lists;have hHa:=L.mi.pl.2 k a p hpa hp;have at1:atI (ps.map V.ref) (k:Int)=some (.ref a):=gR (by rw[Lv,hpa];rfl);have at2:atI (rs.map V.ref) p.n=some (.ref r):=by unfold atI;rw[Lf,L.mi.pb.1,show ixN s.book.length p.n=some j from hj,LC,Lv,hrj];rfl
 refine⟨_,h0,d,_,rfl,cg L.mi.hd,_,h7,l,_,k,_,rfl,rfl,SqL.of L.mi.hl,at1,?_⟩;have g8:((O.set 8 (some (.ref a))))[8]? = some (some (.ref a)):=Lp (by omega);refine⟨_,(Lm (by decide)).trans h0,d,_,rfl,lr L.mi.hd,_,g8,a,_,0,_,rfl,rfl,SqL.of hHa,rfl,b,_,p.n,_,rfl,rfl,SqL.of L.mi.hb,at2,?_⟩;have q9:(((O.set 8 (some (.ref a))).set 9 (some (.ref r))))[9]? = some (some (.ref r)):=Lp (by simp;omega);have q8:(((O.set 8 (some (.ref a))).set 9 (some (.ref r))))[8]? = some (some (.ref a)):=(Lm (by decide)).trans g8;have qi:∀i,i<8->(((O.set 8 (some (.ref a))).set 9 (some (.ref r))))[i]? = O[i]?:=λi hi=>by rw[Lm (by omega),Lm (by omega)]
 have ql:((O.set 8 (some (.ref a))).set 9 (some (.ref r))).length=10:=by simp[hl10]
 show U3 _ _ D ((O.set 8 (some (V.ref a))).set 9 (some (V.ref r))) H;generalize (O.set 8 (some (V.ref a))).set 9 (some (V.ref r)) = τ at q9 q8 qi ql ⊢;have t0:=(qi 0 (by decide)).trans h0;have t3:=(qi 3 (by decide)).trans h3;have t4:=(qi 4 (by decide)).trans h4;have t5:=(qi 5 (by decide)).trans h5;have t6:=(qi 6 (by decide)).trans h6;have t7:=(qi 7 (by decide)).trans h7;have isin:∀{s0:BS} {H1:Hp} {Q:Bool->Hp->Prop},LP K B A Hs d ha l b ps rs st tu go h c u t sa ta s0 H1->(∀H2,LP K B A Hs d ha l b ps rs st tu go h c u t sa ta s0 H2->Q pk H2)->tIn K τ H1 Q:=λ{s0 H1 Q} L1 q =>
  ⟨_,t7,_,t3,[],B,.int k,sm,.bool pk,L1.bk,cw b8.int (by simp),cw (hv3 H1 L1.kp) (by simp),iI hpk,λv H2 s2 hv=>⟨pk,by simpa only[b8] using hv,q H2 (L1.same s2)⟩⟩
 have rest:∀{s1:BS} {H1:Hp} {p1:Per} {row1:Row},LP K B A Hs d ha l b ps rs st tu go h c u t sa ta s1 H1->s1.line[k]? = some p1->s1.book[j]? = some row1->p1.n=p.n->s1.stay=s.stay->s1.turned=s.turned->s1.gone=s.gone->s1.line.length=s.line.length ->
   s'=(if p1.l=0 then⟨s1.line,s1.book.set j ⟨"gone",row1.t,some t,row1.q⟩,s1.stay,s1.turned,s1.gone++[p.n]⟩
    else if pk=true/\decide (u = "turns")=true then⟨s1.line,s1.book,s1.stay,s1.turned++[p1],s1.gone⟩ else⟨s1.line,s1.book,s1.stay++[p1],s1.turned,s1.gone⟩) ->
   oi (bR (tOp rEq (tP K 2) (tC (.int 0))))
   (U3 (O6 (tC (.str "gone")) (my (z7 9) (tC (.int 0)) eF))
   (U3 (O6 (M3 (z7 0) (tC (.str "at"))) (my (z7 9) (tC (.int 2)) eF))
    (mW K 6 (tP K 0))))
   (oi (zE (tIn K) (bR (tOp rEq (CV K) (tC (.str "turns")))))
    (mW K 5 (z7 8)) (mW K 4 (z7 8))) D τ H1:=λ{s1 H1 p1 row1} L1 e1 e2 en es et eg el es'=>by
  have hHa1:=L1.mi.pl.2 k a p1 hpa e1;have hHr1:=L1.mi.pb.2 j r row1 hrj e2;have tk1:∀x∈sa++ta,x∈ps.take (k+1):=λx hx=>List.take_subset_take_left ps (NS k) (htk x hx)
  have atk:a∈ps.take (k+1):=by refine NM.2 ⟨k,?_⟩;rw[OC,Lg (MV k)];exact hpa
  refine⟨_,q8,a,_,2,_,rfl,rfl,SqL.of hHa1,rfl,rfl,_,rfl,ni (λhz=>?_) (λhz=>?_)⟩
  .have hz:p1.l=0:=by simpa using hz
   rw[Lg hz]at es';refine⟨_,q9,r,_,0,0,rfl,rfl,hHr1,rfl,?_⟩;have L2:=L1.setR (q:=⟨"gone",row1.t,row1.m,row1.q⟩) P hrj n3 n4;have hHr2:(upd H1 r (.lst ((qm row1).set 0 (.str "gone")))) r=some (.lst (qm ⟨"gone",row1.t,row1.m,row1.q⟩)):=d7;refine⟨_,t0,d,_,rfl,xx L2.mi.hd,_,q9,r,_,2,2,rfl,rfl,hHr2,rfl,?_⟩;have L3:=L2.setR (q:=⟨"gone",row1.t,some t,row1.q⟩) P hrj n3 n4;have hHa3:=L3.mi.pl.2 k a p1 hpa e1;refine⟨_,t6,.inl ⟨rfl,_,SqL.of L3.hgo⟩,_,q8,a,_,0,_,rfl,rfl,SqL.of hHa3,rfl,go,_,_,rfl,rfl,L3.hgo,by rw[Lf,eg];omega,?_⟩;obtain⟨z1,z2,z3,z4,z5⟩:=L3.other (o:=.lst (s1.gone.map V.int++[.int p1.n])) (lb go (by simp)).1 P.eA P.new.2.2 (lb go (by simp)).2 sub;refine fin τ _ sa ta ?_ hnd tk1 (by rw[es'];exact el) (by rw[es'];simp[es,et,eg];omega) (λi hi=>qi i (by omega)) ql;rw[es'];refine⟨by have z:=z1;simp only[List.set_set]at z;exact z,by rw[b9 ne2];exact L3.hst,by rw[b9 ne3];exact L3.htu,?_,z2,z3,z4,z5⟩;show upd _ go _ go=_;rw[d7,LD,<-en];rfl
  .have hz:¬p1.l=0:=by simpa using hz
   rw[Lk hz]at es';have toS:∀{H2:Hp},LP K B A Hs d ha l b ps rs st tu go h c u t sa ta s1 H2->¬(pk=true/\decide (u = "turns")=true)->mW K 4 (z7 8) D τ H2:=λ{H2} L2 hn=>by
    rw[Lk hn]at es';refine⟨_,t4,.inl ⟨rfl,_,SqL.of L2.hst⟩,_,q8,st,_,_,rfl,rfl,L2.hst,by rw[Lf,L2.so.1,es];omega,?_⟩;obtain⟨z1,z2,z3,z4,z5⟩:=L2.other (o:=.lst (sa.map V.ref++[.ref a])) (lb st (by simp)).1 P.eA P.new.1 (lb st (by simp)).2 sub;refine fin τ _ (sa++[a]) ta ?_ (by simp[MZ]at hnd ⊢;grind) (λx hx=>by
     simp only[Li,Mv]at hx;rcases hx with (hx | hx) | hx
     .exact tk1 x (Li.2 (.inl hx))
     .exact hx▸atk
     .exact tk1 x (Li.2 (.inr hx))) (by rw[es'];exact el) (by rw[es'];simp[es,et,eg];omega) (λi hi=>qi i (by omega)) ql
    rw[es'];refine⟨z1,by rw[d7,LD];rfl,by rw[b9 (LZ ne1)];exact L2.htu,by rw[b9 (LZ ne2)];exact L2.hgo,z2.snoc ?_,z3,z4,z5⟩;rw[b9 (P.per hpa).2.1];exact L2.mi.pl.2 k a p1 hpa e1
   have toT:∀{H2:Hp},LP K B A Hs d ha l b ps rs st tu go h c u t sa ta s1 H2->(pk=true/\decide (u = "turns")=true)->mW K 5 (z7 8) D τ H2:=λ{H2} L2 hn=>by
    rw[Lg hn]at es';refine⟨_,t5,.inl ⟨rfl,_,SqL.of L2.htu⟩,_,q8,tu,_,_,rfl,rfl,L2.htu,by rw[Lf,L2.to.1,et];omega,?_⟩;obtain⟨z1,z2,z3,z4,z5⟩:=L2.other (o:=.lst (ta.map V.ref++[.ref a])) (lb tu (by simp)).1 P.eA P.new.2.1 (lb tu (by simp)).2 sub;refine fin τ _ sa (ta++[a]) ?_ (by simp[MZ]at hnd ⊢;grind) (λx hx=>by
     simp only[Li,Mv]at hx;rcases hx with hx | hx | hx
     .exact tk1 x (Li.2 (.inl hx))
     .exact tk1 x (Li.2 (.inr hx))
     .exact hx▸atk) (by rw[es'];exact el) (by rw[es'];simp[es,et,eg];omega) (λi hi=>qi i (by omega)) ql
    rw[es'];refine⟨z1,by rw[b9 ne1];exact L2.hst,by rw[d7,LD];rfl,by rw[b9 (LZ ne3)];exact L2.hgo,z2,z3.snoc ?_,z4,z5⟩;rw[b9 (P.per hpa).2.2.1];exact L2.mi.pl.2 k a p1 hpa e1
   refine isin L1 λH2 L2=>?_
   cases pk with
   | false=>exact wM (wM (toS L2 (by simp)))
   | true =>
    refine FE ⟨_,t0,d,_,rfl,hX L2.mi.hd,ha,_,2,_,rfl,rfl,L2.mi.hh.same f8,rfl,rfl,_,rfl,?_⟩;refine ni (λhc=>toT L2 ⟨rfl,?_⟩) (λhc=>toS L2 λhc2=>hc ?_)
    .simpa using hc
    .simpa using hc2.2
 refine isin L λH1 L1=>?_
 cases pk with
 | false =>
  refine wM ?_;have hHr1:=L1.mi.pb.2 j r row hrj hrow;refine⟨_,q9,r,_,3,_,rfl,rfl,SqL.of hHr1,rfl,row.q,1,rfl,rfl,_,q9,r,_,3,3,rfl,rfl,hHr1,rfl,?_⟩;have L2:=L1.setR (q:=⟨row.w,row.t,row.m,row.q+1⟩) P hrj n3 n4;have hpl:k<s.line.length:=(Lj.1 hp).1;refine rest (p1:=p) (row1:=⟨row.w,row.t,row.m,row.q+1⟩) L2 hp (by rw[Lp hjl]) rfl rfl rfl rfl rfl ?_;have hst:=Lr hst;rw[<-hst];have e0:s.line.set k p=s.line:=by have:=(Lj.1 hp).2;rw[<-this,List.set_getElem_self]
  simp[e0]
 | true =>
  refine FE ?_;have hHa1:=L1.mi.pl.2 k a p hpa hp;have hpl:k<s.line.length:=(Lj.1 hp).1;refine⟨_,q8,a,_,2,_,rfl,rfl,SqL.of hHa1,rfl,p.l,1,rfl,rfl,_,q8,a,_,2,2,rfl,rfl,hHa1,rfl,?_⟩;have L2:=L1.setP (q:=⟨p.n,p.r,p.l-1,p.b⟩) P hpa n1 n2;have hHa2:(upd H1 a (.lst ((dO p).set 2 (.int (p.l-1))))) a=some (.lst (dO ⟨p.n,p.r,p.l-1,p.b⟩)):=d7;refine⟨_,t0,d,_,rfl,hX L2.mi.hd,ha,_,2,_,rfl,rfl,L2.mi.hh.same f8,rfl,V3 (by show 4<=1000;decide) |> MI,λq hq=>⟨[],B,.str u,nT,.bool kb,(L2.same (h8.upd hq)).bk,cw b8.st (by simp),cw (V1 L2.bk hq (.cons b8.st (.cons b8.st (.cons b8.st (.cons b8.st b7.nil))))) (by simp),iI hkp,λv H4 s4 hv=>?_⟩⟩;have hv:v = .bl kb:=by simpa only[b8] using hv
  subst hv;have L4:=(L2.same (h8.upd hq)).same s4;have hHa4:=L4.mi.pl.2 k a ⟨p.n,p.r,p.l-1,p.b⟩ hpa (Lp hpl);refine⟨_,q8,a,_,3,3,rfl,rfl,hHa4,rfl,?_⟩;have L5:=L4.setP (q:=⟨p.n,p.r,p.l-1,kb⟩) P hpa n1 n2;refine rest (p1:=⟨p.n,p.r,p.l-1,kb⟩) (row1:=row) L5 (Lp (by simpa using hpl)) hrow rfl rfl rfl rfl (by simp) ?_;have hst:=Lr hst;rw[<-hst];have e0:s.book.set j row=s.book:=by have:=(Lj.1 hrow).2;rw[<-this,List.set_getElem_self]
  simp[e0]
end
end
section
def rP (E:DE)(i:Nat):Option My:=match E[i]? with
 | some (some (.dat d))=>some d
 | _=>none
def jd {E:DE}{i:Nat}{d:My}(h:rP E i=some d):E[i]? = some (some (.dat d)):=by
 unfold rP at h;split at h
 .rename_i hx;cases h;exact hx
 .cases h
section
variable [LamC]
local instance regI10:Feeds:=K2
variable {K:Qf}
def rj :DE->M Out:=λE μ=>(rP E 2).bind λlost=>(rP E 3).bind λsm=>if E.length=10 then(om sm μ).bind λz=>some (.rt (.tuple [lost,.list (z.1.map My.int)]),z.2) else none
theorem iQ {H:Hp}:∀(ns:List Int),b7 K H (ns.map My.int) (ns.map V.int)
 | []=>b7.nil
 | n::ns=>.cons b8.int (iQ ns)
def BY :TSm K 0 (FB K) rj:=λd B0 A0 H0 B A E μ O H D r μ' S e q=>by
 obtain⟨lost,e2,e⟩:=bS9 e;obtain⟨sm,e3,e⟩:=bS9 e;have e2:=jd e2;have e3:=jd e3
 .split at e
  .rename_i hE;obtain⟨⟨gn,μ1⟩,eb,e⟩:=bS9 e;cases e;unfold om at eb;split at eb
   .rename_i hsz;obtain⟨kb,ekb,eb⟩:=bS9 eb;obtain⟨sE,ego,eb⟩:=bS9 eb;cases eb;obtain⟨ha,l,b,ps,rs,ea,hm⟩:=S.rg;obtain⟨v2,w2,dv2⟩:=S.I.loc 2 _ e2;obtain⟨v3,w3,dv3⟩:=S.I.loc 3 _ e3;have dv2:b8 K (hid H B) lost v2:=dv2;have dv3:b8 K (hid H B) sm v3:=dv3;have h0:=S.at0;have hl10:O.length=10:=by rw[<-S.I.ln];exact hE
    have inA:∀x∈d::l::b::(ps++rs),x∈A:=λx hx=>ea▸hx
    refine⟨_,h0,d,_,rfl,xx hm.hd,μ.t,1,rfl,rfl,_,h0,d,_,rfl,DP (μ.t+1) hm.hd,?_⟩;refine⟨Mb _,λst hst=>⟨Mb _,λtu htu=>⟨Mb _,λgo hgo=>?_⟩⟩⟩;have nd:=hm.nd;have pres:∀x∈A,∃o,(upd H d (.dK (G2 (.ref ha) l b (μ.t+1)))) x=some o:=λx hx=>by
     by_cases z:x=d
     .subst z;exact⟨_,d7⟩
     .rw[b9 z];exact Regs.has S.rg x hx
    have nst:st ∉ A:=λz=>by obtain⟨o,eo⟩:=pres st z;rw[hst]at eo;cases eo
    have sdn:st≠d:=λz=>nst (z▸inA d (by simp))
    have Hst:H st=none:=by rw[b9 sdn]at hst;exact hst
    have tus:tu≠st:=(i3 d7 htu).symm;have htu1:=htu;rw[b9 tus]at htu1;have ntu:tu ∉ A:=λz=>by obtain⟨o,eo⟩:=pres tu z;rw[htu1]at eo;cases eo
    have tdn:tu≠d:=λz=>ntu (z▸inA d (by simp))
    have Htu:H tu=none:=by rw[b9 tdn]at htu1;exact htu1
    have gtn:go≠tu:=(i3 d7 hgo).symm;have hgo1:=hgo;rw[b9 gtn]at hgo1;have gsn:go≠st:=(i3 d7 hgo1).symm;rw[b9 gsn]at hgo1;have ngo:go ∉ A:=λz=>by obtain⟨o,eo⟩:=pres go z;rw[hgo1]at eo;cases eo
    have gdn:go≠d:=λz=>ngo (z▸inA d (by simp))
    have Hgo:H go=none:=by rw[b9 gdn]at hgo1;exact hgo1
    have Ap:Apart (st::tu::go::B) A H d l b ps rs st tu go:=by
     refine⟨?_,λx hx=>?_,ea,Hst,Htu,Hgo⟩
     .rw[ea]at nst ntu ngo;refine MA.2 ⟨?_,MA.2 ⟨?_,MA.2 ⟨ngo,nd⟩⟩⟩
      .intro z;rcases Lh.1 z with z | z
       .exact tus z.symm
       .rcases Lh.1 z with z | z
        .exact gsn z.symm
        .exact nst z
      .intro z;rcases Lh.1 z with z | z
       .exact gtn z.symm
       .exact ntu z
     .rcases Lh.1 hx with z | z
      .simp[z]
      .rcases Lh.1 z with z | z
       .simp[z]
       .rcases Lh.1 z with z | z
        .simp[z]
        .exact Le _ (Le _ (Le _ (S.aB x (inA x z)).1))
    have Hx:∀x,x≠d->x≠st->x≠tu->x≠go->(upd (upd (upd (upd H d (.dK (G2 (.ref ha) l b (μ.t+1)))) st (.lst [])) tu (.lst [])) go (.lst [])) x=H x:=λx n1 n2 n3 n4=>by rw[b9 n4,b9 n3,b9 n2,b9 n1]
    have g4:(upd (upd (upd (upd H d (.dK (G2 (.ref ha) l b (μ.t+1)))) st (.lst [])) tu (.lst [])) go (.lst [])) st=some (.lst []):=by rw[b9 (LZ gsn),b9 (LZ tus)];exact d7
    have g5:(upd (upd (upd (upd H d (.dK (G2 (.ref ha) l b (μ.t+1)))) st (.lst [])) tu (.lst [])) go (.lst [])) tu=some (.lst []):=by rw[b9 (LZ gtn)];exact d7
    have g6:(upd (upd (upd (upd H d (.dK (G2 (.ref ha) l b (μ.t+1)))) st (.lst [])) tu (.lst [])) go (.lst [])) go=some (.lst []):=d7;have gd:(upd (upd (upd (upd H d (.dK (G2 (.ref ha) l b (μ.t+1)))) st (.lst [])) tu (.lst [])) go (.lst [])) d=some (.dK (G2 (.ref ha) l b (μ.t+1))):=by rw[b9 (LZ gdn),b9 (LZ tdn),b9 (LZ sdn)];exact d7
    generalize (upd (upd (upd (upd H d (.dK (G2 (.ref ha) l b (μ.t+1)))) st (.lst [])) tu (.lst [])) go (.lst []))=H4 at Hx g4 g5 g6 gd;have nef:∀x∈A,x≠st/\x≠tu/\x≠go:=λx hx=>⟨λz=>nst (z▸hx),λz=>ntu (z▸hx),λz=>ngo (z▸hx)⟩
    have kp4:∀x o,H x=some o->x ∉ A->H4 x=some o:=λx o eo n=>by rw[Hx x (λz=>n (z▸inA d (by simp))) (λz=>by rw[z,Hst]at eo;cases eo) (λz=>by rw[z,Htu]at eo;cases eo) (λz=>by rw[z,Hgo]at eo;cases eo)];exact eo
    have sm4:h8 (hid H B) (hid H4 (st::tu::go::B)):=λx o eo=>by
     by_cases hB:x∈B
     .rw[D2 hB]at eo;cases eo
     .rw[i6 hB]at eo;rw[i6 λz=>?_]
      .exact kp4 x o eo λz=>hB (S.aB x z).1
      .rcases Lh.1 z with z | z
       .rw[z,Hst]at eo;cases eo
       .rcases Lh.1 z with z | z
        .rw[z,Htu]at eo;cases eo
        .rcases Lh.1 z with z | z
         .rw[z,Hgo]at eo;cases eo
         .exact hB z
    have Lb:LP K (st::tu::go::B) A H d ha l b ps rs st tu go μ.h μ.c μ.u (μ.t+1) [] [] ⟨μ.line,μ.book,[],[],[]⟩ H4:=by
     have ne:∀x∈l::b::(ps++rs),x≠d:=λx hx z=>by subst z;exact(MA.1 nd).1 hx
     have eqA:∀x∈l::b::(ps++rs),H4 x=H x:=λx hx=>by obtain⟨n1,n2,n3⟩:=nef x (inA x (Le _ hx));exact Hx x (ne x hx) n1 n2 n3
     refine⟨⟨nd,gd,hm.hh.same sm4,(eqA l (by simp)).trans hm.hl,(eqA b (by simp)).trans hm.hb,hm.pl.keep λx hx=>eqA x (by simp[hx]),hm.pb.keep λx hx=>eqA x (by simp[hx])⟩,g4,g5,g6,⟨rfl,λi x y h1 _=>by simp at h1⟩,⟨rfl,λi x y h1 _=>by simp at h1⟩,kp4,λx hx=>?_⟩;rcases Lh.1 hx with z | z
     .exact⟨_,z▸g4⟩
     .rcases Lh.1 z with z | z
      .exact⟨_,z▸g5⟩
      .rcases Lh.1 z with z | z
       .exact⟨_,z▸g6⟩
       .by_cases hxA:x∈A
        .rw[ea]at hxA;rcases Lh.1 hxA with zz | zz
         .exact⟨_,zz▸gd⟩
         .obtain⟨ys,ey⟩:=hm.has x zz;exact⟨_,(eqA x zz).trans ey⟩
        .obtain⟨o,eo⟩:=S.I.bk x z;exact⟨o,kp4 x o eo hxA⟩
    have hv3:∀H',(∀x o,H x=some o->x ∉ A->H' x=some o)->b8 K (hid H' (st::tu::go::B)) sm v3:=λH' k=>dv3.same λx o eo=>by
     by_cases hB:x∈B
     .rw[D2 hB]at eo;cases eo
     .rw[i6 hB]at eo;rw[i6 λz=>?_]
      .exact k x o eo λz=>hB (S.aB x z).1
      .rcases Lh.1 z with z | z
       .rw[z,Hst]at eo;cases eo
       .rcases Lh.1 z with z | z
        .rw[z,Htu]at eo;cases eo
        .rcases Lh.1 z with z | z
         .rw[z,Hgo]at eo;cases eo
         .exact hB z
    have y0:(((O.set 4 (some (.ref st))).set 5 (some (.ref tu))).set 6 (some (.ref go)))[0]? = some (some (.ref d)):=by simpa using h0
    have y2:(((O.set 4 (some (.ref st))).set 5 (some (.ref tu))).set 6 (some (.ref go)))[2]? = some (some v2):=by simpa using w2
    have y3:(((O.set 4 (some (.ref st))).set 5 (some (.ref tu))).set 6 (some (.ref go)))[3]? = some (some v3):=by simpa using w3
    have y4:(((O.set 4 (some (.ref st))).set 5 (some (.ref tu))).set 6 (some (.ref go)))[4]? = some (some (.ref st)):=by simp[PH,hl10]
    have y5:(((O.set 4 (some (.ref st))).set 5 (some (.ref tu))).set 6 (some (.ref go)))[5]? = some (some (.ref tu)):=by simp[PH,hl10]
    have y6:(((O.set 4 (some (.ref st))).set 5 (some (.ref tu))).set 6 (some (.ref go)))[6]? = some (some (.ref go)):=by simp[PH,hl10]
    have yl:(((O.set 4 (some (.ref st))).set 5 (some (.ref tu))).set 6 (some (.ref go))).length=10:=by simp[hl10]
    show U3 _ _ D (((O.set 4 (some (.ref st))).set 5 (some (.ref tu))).set 6 (some (.ref go))) H4;generalize ((O.set 4 (some (V.ref st))).set 5 (some (V.ref tu))).set 6 (some (V.ref go)) = τ at y0 y2 y3 y4 y5 y6 yl ⊢;have epl:(ps.map V.ref).length=ps.length:=Lf ..;have en:ps.length = μ.line.length:=hm.pl.1;refine⟨_,y0,d,_,rfl,cg gd,l,_,rfl,.inl (SqL.of Lb.mi.hl),((ps.map V.ref).length:Int),rfl,by omega,by rw[epl,en];exact hsz.2,?_⟩;refine⟨λi m τ' H'=>m=ps.length-i/\i<=ps.length/\∃sa ta s,LP K (st::tu::go::B) A H d ha l b ps rs st tu go μ.h μ.c μ.u (μ.t+1) sa ta s H'/\(sa++ta).Nodup/\(∀x∈sa++ta,x∈ps.take i)/\s.line.length=ps.length/\s.stay.length+s.turned.length+s.gone.length=i/\(∀i,i<7->τ'[i]? = τ[i]?) /\ τ'.length=10/\aH kb (decide (μ.u = "turns")) (μ.t+1) sm (ps.length-i) i s=some sE,
     ⟨ps.length,by simp,Mb _,[],[],_,Lb,by simp,by simp,en.symm,rfl,λ_ _=>rfl,yl,by rw[en];exact ego⟩,?_⟩
    rintro i mm τ' H' ⟨rfl,hi,sa,ta,s,L,hnd,htk,hsl,hcnt,hτ,hτl,hgo'⟩;have z0:=(hτ 0 (by decide)).trans y0;have z2:=(hτ 2 (by decide)).trans y2;have z3:=(hτ 3 (by decide)).trans y3;have z4:=(hτ 4 (by decide)).trans y4;have z5:=(hτ 5 (by decide)).trans y5;have z6:=(hτ 6 (by decide)).trans y6;by_cases hlt:i<ps.length
    .refine .inr ⟨by show i<(((ps.map V.ref).length:Int)).toNat;rw[epl];simpa using hlt,λτ'' H''=>i+1<=ps.length/\∃sa ta s,LP K (st::tu::go::B) A H d ha l b ps rs st tu go μ.h μ.c μ.u (μ.t+1) sa ta s H''/\(sa++ta).Nodup/\(∀x∈sa++ta,x∈ps.take (i+1))/\s.line.length=ps.length/\s.stay.length+s.turned.length+s.gone.length=i+1/\(∀i,i<7->τ''[i]? = τ[i]?) /\ τ''.length=10/\aH kb (decide (μ.u = "turns")) (μ.t+1) sm (ps.length-(i+1)) (i+1) s=some sE,λτ'' H'' ⟨a1,a2⟩=>⟨ps.length-(i+1),by omega,rfl,a1,a2⟩,λx H2 hy=>?_⟩;obtain⟨rfl,rfl⟩:=hy;obtain⟨n',hn'⟩:∃n',ps.length-i=n'+1:=⟨ps.length-(i+1),by omega⟩;rw[hn',aH]at hgo';obtain⟨pk,hpk,hgo'⟩:=bS9 hgo';obtain⟨s',hs',hgo'⟩:=bS9 hgo';have en':n'=ps.length-(i+1):=by omega
     subst en';refine CO (k:=i) (pk:=pk) (s':=s') L Ap hnd htk hlt ((Lm (by decide)).trans z0) ((Lm (by decide)).trans z3) ((Lm (by decide)).trans z4) ((Lm (by decide)).trans z5) ((Lm (by decide)).trans z6) (by rw[Lp (by omega)];simp) (by simp[hτl]) hv3 ekb hpk hs' (by rw[hcnt];have:=hsz.1;omega) λO' H'' sa' ta' L' nd' tk' hl' hc' hσ' hσl'=>?_
     exact⟨hlt,sa',ta',s',L',nd',tk',hl'.trans hsl,by omega,λi hi=>(hσ' i hi).trans ((Lm (by omega)).trans (hτ i hi)),hσl',hgo'⟩
    .have ei:i=ps.length:=by omega
     subst ei;rw[Nat.sub_self,aH]at hgo';cases hgo';refine .inl ⟨by show(((ps.map V.ref).length:Int)).toNat<=ps.length;rw[epl];simp,?_⟩;have hsz1:=hsz.1;refine⟨_,z4,_,z5,st,tu,_,_,rfl,rfl,L.hst,L.htu,by rw[Lf,Lf,L.so.1,L.to.1];omega,λl' hl'=>⟨_,z0,d,_,rfl,yA l' (by rw[b9 (i3 L.mi.hd hl')];exact L.mi.hd),?_⟩⟩;refine⟨_,z2,_,z6,V3 (by show 2<=1000;decide) |> MI,λz hz=>?_⟩;obtain⟨lb,ne1,ne2,ne3⟩:=Ap.lists;have nl'B:l' ∉ st::tu::go::B:=L.bk.nin hl';have nl'A:l' ∉ A:=λzz=>nl'B (Le _ (Le _ (Le _ (S.aB l' zz).1)))
     have ldn:l'≠d:=λzz=>nl'A (zz▸inA d (by simp))
     have hz1:=hz;have zdn:z≠d:=(i3 d7 hz1).symm;rw[b9 zdn]at hz1;have zln:z≠l':=(i3 d7 hz1).symm;rw[b9 zln]at hz1;have nzB:z ∉ st::tu::go::B:=L.bk.nin hz1;have HF:∀x,x≠d->x≠l'->x≠z->(upd (upd (upd H' l' (.lst (sa.map V.ref++ta.map V.ref))) d (.dK (G2 (.ref ha) l' b (μ.t+1)))) z (.tup [v2,.ref go])) x=H' x:=λx a1 a2 a3=>by rw[b9 a3,b9 a1,b9 a2]
     have fd:(upd (upd (upd H' l' (.lst (sa.map V.ref++ta.map V.ref))) d (.dK (G2 (.ref ha) l' b (μ.t+1)))) z (.tup [v2,.ref go])) d=some (.dK (G2 (.ref ha) l' b (μ.t+1))):=by rw[b9 (LZ zdn)];exact d7
     have fl:(upd (upd (upd H' l' (.lst (sa.map V.ref++ta.map V.ref))) d (.dK (G2 (.ref ha) l' b (μ.t+1)))) z (.tup [v2,.ref go])) l'=some (.lst (sa.map V.ref++ta.map V.ref)):=by rw[b9 (LZ zln),b9 ldn];exact d7
     have fz:(upd (upd (upd H' l' (.lst (sa.map V.ref++ta.map V.ref))) d (.dK (G2 (.ref ha) l' b (μ.t+1)))) z (.tup [v2,.ref go])) z=some (.tup [v2,.ref go]):=d7;show D.rt (.ref z) (upd (upd (upd H' l' (.lst (sa.map V.ref++ta.map V.ref))) d (.dK (G2 (.ref ha) l' b (μ.t+1)))) z (.tup [v2,.ref go]));generalize (upd (upd (upd H' l' (.lst (sa.map V.ref++ta.map V.ref))) d (.dK (G2 (.ref ha) l' b (μ.t+1)))) z (.tup [v2,.ref go]))=HE at HF fd fl fz ⊢;have sub:∀x∈sa++ta,x∈ps:=λx hx=>Nx (htk x hx)
     have zA:∀x∈A,x≠z:=λx hx zz=>nzB (zz▸Le _ (Le _ (Le _ (S.aB x hx).1)))
     have lA:∀x∈A,x≠l':=λx hx zz=>nl'A (zz▸hx)
     have Hl':H l'=none:=by
      cases qq:H l' with
      | none=>rfl
      | some o=>rw[L.kp l' o qq nl'A]at hl';cases hl'
     have eqA:∀x∈A,x≠d->HE x=H' x:=λx hx n=>HF x n (lA x hx) (zA x hx)
     have dn:∀x∈l::b::(ps++rs),x≠d:=λx hx zz=>(MA.1 nd).1 (zz▸hx)
     obtain⟨Z,sZ⟩:=S.remake (A':=d::l'::b::((sa++ta)++rs)) (H':=HE) (μ':={ μ with line:=sE.stay++sE.turned,book:=sE.book,t:=μ.t+1 })
      (λx o eo n=>by rw[HF x (λzz=>n (zz▸inA d (by simp))) (λzz=>by rw[zz,Hl']at eo;cases eo) (λzz=>by have:=L.kp x o eo n;rw[zz,hz1]at this;cases this)];exact L.kp x o eo n)
      (λx hx=>by
       simp only[Lh,Li]at hx;rcases hx with hx | hx | hx | hx | hx
       .exact .inl (inA x (by simp[hx]))
       .exact .inr (hx▸Hl')
       .exact .inl (inA x (by simp[hx]))
       .exact .inl (inA x (by simp[sub x (Li.2 hx)]))
       .exact .inl (inA x (by simp[hx])))
      (λx hx=>by
       by_cases zz:x=d
       .exact⟨_,zz▸fd⟩
       .rw[eqA x hx zz];exact L.bk x (Le _ (Le _ (Le _ (S.aB x hx).1))))
      (λ{W} sW=>by
       refine⟨ha,l',b,sa++ta,rs,rfl,?_,fd,hm.hh.same sW,by rw[fl,LD],(eqA b (inA b (by simp)) (dn b (by simp))).trans L.mi.hb,?_,?_⟩
       .have d1:∀x∈sa++ta,x ∉ rs/\x≠d/\x≠b:=λx hx=>by have:=sub x hx;simp[MZ]at nd;grind
        have d2:rs.Nodup:=Ap.nps.2;have d3:b ∉ rs/\d≠b/\d ∉ rs:=by simp[MZ]at nd;grind
        have d4:l' ∉ sa++ta/\l' ∉ rs/\l'≠b:=⟨λzz=>nl'A (inA _ (by simp[sub _ zz])),λzz=>nl'A (inA _ (by simp[zz])),λzz=>nl'A (inA _ (by simp[zz]))⟩;refine MA.2 ⟨?_,MA.2 ⟨?_,MA.2 ⟨?_,MZ.2 ⟨hnd,d2,λx hx y hy zz=>(d1 x hx).1 (zz▸hy)⟩⟩⟩⟩
        .simp only[Lh,Li];grind
        .simp only[Lh,Li];grind
        .simp only[Li];grind
       .have ob:∀{qs:List PU} {xs:List Per},D6 dO H' qs xs->(∀x∈qs,x∈ps)->D6 dO HE qs xs:=λo hq=>o.keep λx hx=>eqA x (inA x (by simp[hq x hx])) (dn x (by simp[hq x hx]))
        have o1:=ob L.so λx hx=>sub x (Li.2 (.inl hx))
        have o2:=ob L.to λx hx=>sub x (Li.2 (.inr hx))
        refine⟨by simp[o1.1,o2.1],λi x y h1 h2=>?_⟩;by_cases hi':i<sa.length
        .rw[LU hi']at h1;rw[LU (by rw[<-o1.1];exact hi')]at h2;exact o1.2 i x y h1 h2
        .rw[LL (by omega)]at h1;rw[LL (by rw[<-o1.1];omega),<-o1.1]at h2;exact o2.2 _ x y h1 h2
       .exact L.mi.pb.keep λx hx=>eqA x (inA x (by simp[hx])) (dn x (by simp[hx])))
     obtain⟨F1,F2⟩:=Z.fin;have nB':∀x,x ∉ st::tu::go::B->x ∉ B:=λx n zz=>n (Le _ (Le _ (Le _ zz)))
     have nAA:∀x,x ∉ A->x≠l'->x ∉ d::l'::b::((sa++ta)++rs):=λx n1 n2 zz=>by
      simp only[Lh,Li]at zz;rcases zz with zz | zz | zz | zz | zz
      .exact n1 (inA x (by simp[zz]))
      .exact n2 zz
      .exact n1 (inA x (by simp[zz]))
      .exact n1 (inA x (by simp[sub x (Li.2 zz)]))
      .exact n1 (inA x (by simp[zz]))
     refine q _ HE _ F1 (b8.same (b8.tup (xs:=[v2,.ref go]) ?_ (.cons (dv2.same sZ) (.cons (b8.lst (xs:=sE.gone.map V.int) ?_ (iQ _)) b7.nil))) F2)
     .rw[i6 λzz=>(Li.1 zz).elim (nAA z (λa1=>zA z a1 rfl) zln) (nB' z nzB)];exact fz
     .have ngl:go≠l':=λzz=>nl'B (zz▸by simp)
      have ngz:go≠z:=λzz=>nzB (zz▸by simp)
      rw[i6 λzz=>(Li.1 zz).elim (nAA go ngo ngl) (S.I.bk.nin Hgo),HF go gdn ngl ngz];exact L.hgo
   .cases eb
  .cases e
end
end
section
section
variable [Regs]
local instance regI66:Feeds:=K2
def pSq (a b:DE->M Out):DE->M Out:=λE μ=>(a E μ).bind λp=>match p.1 with
 | .nx E1=>b E1 p.2
 | _=>none
variable {K:Qf}{X:Cx}{e:Qd}{st:Qc}{m:DE->M My}{t u:TS}{mt mu:DE->M Out}{p:Pos}{x:Str}
end
section
variable [Fam][Regs]
variable {K:Qf}{P:PX}{w:PY}{mg:Str->Option PR}{base:Qe}{st:Qc}
end
section
variable [Fam]{K:Qf}{X:Cx}{e:Qd}{pos2 p:Pos}
end
end
section
section
variable [Regs]
local instance regI67:Feeds:=K2
variable {K:Qf}{X:Cx}{e:Qd}{st:Qc}{m:DE->M My}{t u:TS}{mt mu:DE->M Out}{p:Pos}{x:Str}
end
section
variable [LamC]
local instance regI68:Feeds:=K2
variable {K:Qf}{X:Cx}{i1 i2:Nat}{p p1 p5:Pos}{x y z:Str}
end
section
variable [Fam][Regs]
variable {K:Qf}{P:PX}{w:PY}{mg:Str->Option PR}{base:Qe}{st:Qc}
end
end
variable {A1:List PU}
section
section
variable [Regs]
local instance regI69:Feeds:=K2
structure SmsU (K:Qf) (X:Cx) (i0:Nat) (sts rest:List Qc) (ts u:TS) (m:DE->M Out):Prop where
 ps:PSs X rest u->PSs X sts ts
 ok:∀(d:PU) (B0 A0:List PU) (H0:Hp) (B A:List PU) (E:DE) (μ:FS) (O:St) (H:Hp) (D:Ends) (E1:DE) (μ':FS),SitMB K i0 d B0 A0 H0 B A E μ O H->m E μ=some (.nx E1,μ') ->
  (∀B' A' O' H',SitMB K i0 d B0 A0 H0 B' A' E1 μ' O' H'->u D O' H')->ts D O H
variable {K:Qf}{X:Cx}{st:Qc}{t ts u:TS}{mt m:DE->M Out}
def BB :SmsU K X i0 rest rest u u mNx:=⟨id,λd B0 A0 H0 B A E μ O H D E1 μ' S e q=>by cases e;exact q B A O H S⟩
def mn (h1:SmR K X i0 st t mt)(h2:SmsU K X i0 sts rest ts u m):SmsU K X i0 (st::sts) rest (U3 t ts) u (pSq mt m):=⟨λz=>r8 h1.ps (h2.ps z),λd B0 A0 H0 B A E μ O H D E1 μ' S e q=>by
 obtain⟨⟨o,μ1⟩,e1,e⟩:=bS9 e;refine h1.ok d B0 A0 H0 B A E μ O H _ o μ1 S e1 ?_;cases o with
 | nx E2=>exact λB1 A1 O' H' S'=>h2.ok d B0 A0 H0 B1 A1 E2 μ1 O' H' D E1 μ' S' e q
 | rt d=>cases e
 | bk E1=>cases e
 | ct E1=>cases e⟩
def FC {d:PU}{B:List PU}{H1:Hp}{E:DE}{μ0:FS}{O:St}(ln:E.length = O.length)(tb:G5 (tabsK Regs.lam K) H1)(tB:∀b∈tabP K,b∈B)(bk:BOk H1 (A1++B))(loc:∀(i:Nat) (x:DV),E[i]? = some (some x)->∃v,O[i]? = some (some v)/\DVr K none (A1++B) H1 x v)
  (rg:Regs.Reg K (hid H1 (A1++B)) H1 d μ0 A1) (nB:∀a∈A1,a ∉ B) (pin:C7 E i0=some d) (noO:∀(i:Nat) (es:List My),E[i]? ≠ some (some (DV.own es))):SitMB K i0 d (A1++B) A1 H1 (A1++B) A1 E μ0 O H1 :=
 ⟨λ_ z=>z,λb hb=>.inl hb,⟨⟨trivial,tb⟩,λb hb=>Li.2 (.inr (tB b hb)),bk,ln,loc⟩,rg,λa ha=>⟨Li.2 (.inl ha),λz=>nB a ha (tB a z),.inl ha⟩,pin,λb hb=>Li.2 (.inr (tB b hb)),λa ha=>Li.2 (.inl ha),λb o e _ _=>e,λi es a ei _=>absurd ei (noO i es),λi k es fs a ei _ _ _=>absurd ei (noO i es)⟩
def EJ {d:PU}{B A:List PU}{H:Hp}{E:DE}{μ:FS}{O:St}(Z:SitMB K i0 d B0 A0 H0 B A E μ O H):E.length = O.length/\G5 (tabsK Regs.lam K) H/\BOk H B/\∀(i:Nat) (x:DV),E[i]? = some (some x)->∃v,O[i]? = some (some v)/\DVr K none B H x v:=⟨Z.I.ln,Z.I.fd.2,Z.I.bk,Z.I.loc⟩
end
def U7 (fd:PU):Option DV->Option DV
 | some .feed=>some (.adr fd)
 | x=>x
def N6 (fd:PU)(E:DE):DE:=E.map (U7 fd)
def aU:Option DV->Option DV->Option DV
 | some .feed,_=>some .feed
 | _,x=>x
def gf (i0:Nat)(E E1:DE):DE:=(List.zipWith aU E E1).set i0 none
section
variable [Fam][Regs]
def rD (i0:Nat)(m:DE->@M K2 Out)(μ0:Regs.S)(E E2:DE):Prop:=noOwn E2=true/\∀fd d:PU,∃μ',m ((N6 fd E).set i0 (some (.adr d))) μ0=some (.nx ((N6 fd E2).set i0 (some (.adr d))),μ')
open Classical in
def vK (i0:Nat)(m:DE->@M K2 Out)(μ0:Regs.S)(E:DE):Option DE:=match m ((N6 0 E).set i0 (some (.adr 0))) μ0 with
 | some (.nx E1,_)=>if rD i0 m μ0 E (gf i0 E E1) then some (gf i0 E E1) else none
 | _=>none
def zJ {m:DE->@M K2 Out}{μ0:Regs.S}{E E2:DE}(h:rD i0 m μ0 E E2)(hr:gf i0 E ((N6 0 E2).set i0 (some (.adr 0)))=E2):vK i0 m μ0 E=some E2:=by unfold vK;obtain⟨μ',e⟩:=h.2 0 0;rw[e];dsimp only;rw[hr,Lg h]
def zI {m:DE->@M K2 Out}{μ0:Regs.S}{E E2:DE}(h:vK i0 m μ0 E=some E2):rD i0 m μ0 E E2/\(∀i:Nat,E2[i]? = some (some DV.feed)->E[i]? = some (some DV.feed))/\∀x:DV,E2[i0]? ≠ some (some x):=by
 unfold vK at h;split at h
 .rename_i E1 μ1 hm;split at h
  .rename_i hp;cases h;have no:∀x:DV,(gf i0 E E1)[i0]? ≠ some (some x):=λx z=>by
    unfold gf at z;by_cases hl:i0<(List.zipWith aU E E1).length
    .rw[Lp hl]at z;cases z
    .rw[Mr (by simpa using hl)]at z;cases z
   refine⟨hp,λi z=>?_,no⟩;have hne:i0≠i:=λy=>by subst y;exact no _ z
   obtain⟨μ',e⟩:=hp.2 0 0;rw[hm]at e;have e1:E1=(N6 0 (gf i0 E E1)).set i0 (some (.adr 0)):=Out.nx.inj (Prod.mk.inj (Lr e)).1;have e2:E1[i]? = some (some (.adr 0)):=by rw[e1,Lm hne];unfold N6;rw[Lv,z];rfl
   unfold gf at z;rw[Lm hne,List.getElem?_zipWith,e2]at z;cases hE:E[i]? with
   | none=>rw[hE]at z;cases z
   | some o =>
    rw[hE]at z;cases o with
    | none=>cases z
    | some o=>cases o <;> first | rfl | cases z
  .cases h
 .cases h
def nH (i0 j:Nat)(mkh:My->Option Regs.S)(m:DE->@M K2 Out):DE->@M fdI Out:=λE F=>if noOwn E=true/\i0<E.length then match E[j]? with
 | some (some (.dat h))=>(mkh h).bind λμ0=>(vK i0 m μ0 E).bind λE2=>some (.nx E2,F)
 | _=>none
 else none
variable {K:Qf}{X:Cx}{j:Nat}{st0:Qc}{ts u:TS}{mkh:My->Option Regs.S}{m:DE->@M K2 Out}{mu:DE->@M fdI Out}
def vx {G:GF}{Bz B:List PU}{Hz H H1:Hp}{E:DE}{F:FdS}{O:St}{d fd:PU}{μ0:Regs.S}(hlam:Regs.lam=Fam.lam)(I:@SitE fdI K G B E F O H)(no:noOwn E=true)(hi:i0<E.length)(hfd:∀a c,G=some (a,c)->a=fd)(sm:h8 H H1)(fr:∀a∈A1,H a=none)(rg:Regs.Reg K (hid H1 (A1++B)) H1 d μ0 A1) :
  SitMB K i0 d (A1++B) A1 H1 (A1++B) A1 ((N6 fd E).set i0 (some (.adr d))) μ0 (O.set i0 (some (.ref d))) H1:=by
 have te:=mr (K:=K) hlam;have tB:∀b ∈ @tabP K2 K,b∈B:=λb hb=>I.fB b (lL (te▸hb))
 have nB:∀a∈A1,a ∉ B:=λa ha=>I.bk.nin (fr a ha)
 have sv:h8 (hid H B) (hid H1 (A1++B)):=λb o eb=>by
  by_cases hb:b∈B
  .rw[D2 hb]at eb;cases eb
  .rw[i6 hb]at eb;rw[i6 λz=>(Li.1 z).elim (λz=>by rw[fr b z]at eb;cases eb) hb];exact sm b o eb
 have tb1:G5 (tabsK Regs.lam K) H1:=by rw[hlam];exact(I.fd.same sm).2
 have hE:∀i x,((N6 fd E).set i0 (some (.adr d)))[i]? = some (some x)->(i=i0/\x = .adr d)\/(i≠i0/\∃y,E[i]? = some y/\U7 fd y=some x):=λi x e=>by
  by_cases h:i0=i
  .subst h;rw[Lp (by unfold N6;rw[Lf];exact hi)]at e;cases e;exact .inl ⟨rfl,rfl⟩
  .rw[Lm h]at e;unfold N6 at e;rw[Lv]at e;obtain⟨y,y1,y2⟩:=LK.1 e;exact .inr ⟨LZ h,y,y1,y2⟩
 have noO:∀i es,((N6 fd E).set i0 (some (.adr d)))[i]? ≠ some (some (DV.own es)):=λi es e=>by
  rcases hE i _ e with ⟨_,z⟩ | ⟨_,y,y1,y2⟩
  .cases z
  .cases y with
   | none=>cases y2
   | some y=>cases y <;> cases y2;exact R6 no y1
 refine FC (by simp[N6,I.ln]) tb1 tB (λb hb=>?_) (λi x ei=>?_) rg nB ?_ noO
 .rcases Li.1 hb with h | h
  .exact Regs.has rg b h
  .obtain⟨o,e⟩:=I.bk b h;exact⟨o,sm b o e⟩
 .rcases hE i x ei with ⟨rfl,rfl⟩ | ⟨hne,y,y1,y2⟩
  .exact⟨.ref d,by rw[Lp (by rw[<-I.ln];exact hi)],rfl⟩
  .cases y with
   | none=>cases y2
   | some y =>
    obtain⟨v,v1,v2⟩:=I.loc i y y1
    refine⟨v,by rw[Lm (LZ hne)];exact v1,?_⟩
    cases y with
    | dat z=>cases y2;exact b8.same (show b8 K (hid H B) z v from v2) sv
    | feed =>
     cases y2
     obtain⟨a,c,g,rfl⟩:=v2
     show V.ref a=V.ref fd
     rw[hfd a c g]
    | fn z=>cases y2;exact v2
    | adr z=>cases y2;exact v2
    | own z=>exact absurd y1 (R6 no)
 .unfold C7;rw[Lp (by unfold N6;rw[Lf];exact hi)]
def xn {G:GF}{Bz B:List PU}{Hz H H1:Hp}{E E2:DE}{F:FdS}{O:St}{d fd:PU}(hlam:Regs.lam=Fam.lam)(S:@Sit fdI K G Bz Hz E F O H)(s:∀b∈Bz,b∈B)(sn:∀b∈B,b∈Bz\/Hz b=none)(I:@SitE fdI K G B E F O H)(sm:h8 H H1)(fr:∀a∈A1,H a=none)
  (no:noOwn E2=true) (hx:∀x:DV,E2[i0]? ≠ some (some x)) (hG:∀i:Nat,E2[i]? = some (some DV.feed)->∃c,G=some (fd,c)) {B' A':List PU} {μ':Regs.S} {O':St} {H':Hp} (Z:SitMB K i0 d (A1++B) A1 H1 B' A' ((N6 fd E2).set i0 (some (.adr d))) μ' O' H'):@Sit fdI K G Bz Hz E2 F O' H':=by
 have te:=mr (K:=K) hlam;have kk:∀b o,H b=some o->b ∉ @tabP fdI K->H' b=some o:=λb o e n=>Z.kp b o (sm b o e) (λz=>n (te▸z)) λz=>by rw[fr b z]at e;cases e
 have hn0:∀b,H b=none->b∈Bz\/Hz b=none:=λb e=>by
  cases q:Hz b with
  | none=>exact .inr rfl
  | some o =>
   by_cases hb:b ∈ @u4 fdI K G
   .exact .inl (S.fB b hb)
   .rw[S.kp b o q hb]at e;cases e
 obtain⟨zl,zt,zb,zo⟩:=EJ Z;have hln:E2.length = O'.length:=by rw[<-zl];simp[N6]
 have sub:∀b∈B,b∈B':=λb hb=>Z.s b (Li.2 (.inr hb))
 refine⟨⟨B',λb hb=>sub b (s b hb),λb hb=>?_,⟨yH I.fd (by rw[<-hlam];exact zt) kk,λb hb=>sub b (I.fB b hb),zb,hln,λi x ei=>?_⟩⟩,S.fB,λb o e n=>kk b o (S.kp b o e n) λz=>n (lL z),λi ds a ei _=>absurd ei (R6 no),λi k ds es a ei _ _ _=>absurd ei (R6 no)⟩
 .rcases Z.sn b hb with h | h
  .rcases Li.1 h with h | h
   .exact hn0 b (fr b h)
   .exact sn b h
  .refine hn0 b ?_;cases q:H b with
   | none=>rfl
   | some o=>rw[sm b o q]at h;cases h
 .have hne:i0≠i:=λz=>hx x (z▸ei)
  have e':((N6 fd E2).set i0 (some (.adr d)))[i]? = some (U7 fd (some x)):=by rw[Lm hne];unfold N6;rw[Lv,ei];rfl
  cases x with
  | feed =>obtain⟨v,v1,v2⟩:=zo i (.adr fd) e';obtain⟨c,g⟩:=hG i ei;exact⟨v,v1,fd,c,g,v2⟩
  | dat y=>exact zo i _ e'
  | fn y=>exact zo i _ e'
  | adr y=>exact zo i _ e'
  | own y=>exact absurd ei (R6 no)
def Ar (hlam:Regs.lam=Fam.lam)(hps:PS X st0 (O6 (eY (spN K mkh) [] E0 (B4 (z7 j) K8)) (M6 i0)))(hU:SmsU K X i0 sts rest ts u m)(h2:Sss K X rest u mu):Sss K X (st0::sts) (U3 (O6 (eY (spN K mkh) [] E0 (B4 (z7 j) K8)) (M6 i0)) ts) (mSq (nH i0 j mkh m) mu):=⟨r8 hps (hU.ps h2.ps),λG Bz Hz E F O H D r F' S e q=>by
 obtain⟨⟨o,F1⟩,e1,e⟩:=bS9 e;unfold nH at e1;split at e1
 .rename_i hc;obtain⟨no,hi⟩:=hc;split at e1
  .rename_i h ej;obtain⟨μ0,e3,e1⟩:=bS9 e1;obtain⟨E2,e4,e1⟩:=bS9 e1;cases e1;obtain⟨⟨no2,hm⟩,hf,hx⟩:=zI e4;obtain⟨B,s,sn,I⟩:=S.ex;obtain⟨v,v1,v2⟩:=I.loc j _ ej;refine⟨v,v1,?_⟩;simp only[K8,Mh];refine⟨B,h,μ0,v,rfl,I.bk,v2,e3,λd A1 H1 sm fr rg=>?_⟩;obtain⟨fd,hfd⟩:∃fd:PU,∀a c,G=some (a,c)->a=fd:=by
    cases G with
    | none=>exact⟨0,λa c z=>by cases z⟩
    | some p=>exact⟨p.1,λa c z=>by cases z;rfl⟩
   obtain⟨μ',e5⟩:=hm fd d;refine hU.ok d (A1++B) A1 H1 (A1++B) A1 _ μ0 _ H1 D _ μ' (vx (Bz:=Bz) (Hz:=Hz) hlam I no hi hfd sm fr rg) e5 λB' A' O' H' Z=>?_
   refine h2.ok G Bz Hz E2 F O' H' D r F' (xn hlam S s sn I sm fr no2 hx (λi z=>?_) Z) e q;obtain⟨w,_,a,c,g,_⟩:=I.loc i _ (hf i z);exact⟨c,by rw[g,hfd a c g]⟩
  .cases e1
 .cases e1⟩
end
end
end L3
namespace LM
open PySem PySem.Spec PyProof.Rows L2 L3
variable [Fam][LamC]
local instance regW:Feeds:=K2
section
variable {E:DE}{F:Mac}
end
section
variable {E:DE}{F:Mac}{i:Nat}{ds:List My}{Q:Out->Mac->Prop}
def cB {v:DE->M My}(he:L3.aT E i=some ds)(hl:ds.length<=100000)(q:wp (v E F) λx F1=>Q (.nx (E.set i (some (.own (ds++[x]))))) F1):wp (cn i v E F) Q:=by
 unfold cn;rw[d5];refine i8 q λx F1 h=>?_
 rw[he,LC,Lg (NZ hl (by rw[LV];decide))];exact c9.2 h
end
def G7 {bd:My->DE->Option DE}{body:DE->M Out}{Q:Out->Mac->Prop}(I:Nat->DE->Mac->Prop):∀(items:List My) (n:Nat) (E:DE) (F:Mac),I n E F ->
  (∀i d,items[i]? = some d->∀E F,I (n+i) E F->∃E1,bd d E=some E1/\wp (body E1 F) λo F'=>∃E2,o = .nx E2/\I (n+i+1) E2 F')->(∀E F,I (n+items.length) E F->Q (.nx E) F)->wp (O3 bd body items E F) Q
 | [],n,E,F,h,_,hq=>c9.2 (hq E F h)
 | d::r,n,E,F,h,st,hq=>by
  walk_at "ki"
variable {i0:Nat}
section
variable {E:DE}{μ:Mac}
def aW {α:Type}{m:DE->M α}{Q:α->Mac->Prop}:wp (mE m E μ) Q↔wp (m E μ) λx _=>Q x μ:=by unfold mE;rw[d5];simp only[c9]
def lK (i0:Nat)(E:DE)(μ:Mac)(Q:Out->Mac->Prop):Out->Prop
 | .nx E1=>C7 E1 i0=C7 E i0/\Q (.nx E1) μ
 | .bk E1=>C7 E1 i0=C7 E i0/\Q (.bk E1) μ
 | .ct E1=>C7 E1 i0=C7 E i0/\Q (.ct E1) μ
 | .rt d=>Q (.rt d) μ
def xi {Q:Out->Mac->Prop}{E1:DE}(h:C7 E1 i0=C7 E i0)(q:Q (.nx E1) μ):lK i0 E μ Q (.nx E1):=⟨h,q⟩
def Gj {Q:Out->Mac->Prop}{d:My}(q:Q (.rt d) μ):lK i0 E μ Q (.rt d):=q
def uH {m:DE->M Out}{Q:Out->Mac->Prop}:wp (mL i0 m E μ) Q↔wp (m E μ) λo _=>lK i0 E μ Q o:=by
 unfold mL;rw[d5];refine J7 λo F=>?_
 cases o with
 | rt d=>exact c9
 | nx E1=>show wp (cE i0 E μ (.nx E1)) Q↔(C7 E1 i0=C7 E i0/\Q (.nx E1) μ);unfold cE;dsimp only;split <;> rename_i h <;> simp[c9,D1,h]
 | bk E1=>show wp (cE i0 E μ (.bk E1)) Q↔(C7 E1 i0=C7 E i0/\Q (.bk E1) μ);unfold cE;dsimp only;split <;> rename_i h <;> simp[c9,D1,h]
 | ct E1=>show wp (cE i0 E μ (.ct E1)) Q↔(C7 E1 i0=C7 E i0/\Q (.ct E1) μ);unfold cE;dsimp only;split <;> rename_i h <;> simp[c9,D1,h]
def rS {mi:DE->M (List My)}{bd:My->DE->Option DE}{body:DE->M Out}{Q:Out->Mac->Prop}:wp (iE mi bd body E μ) Q↔wp (mi E μ) λds _=>wp (O3 bd body ds E μ) Q:=by unfold iE;rw[d5]
def eK {f:List My->Mac->Option (My×Mac)}{ms:DE->M (List My)}{Q:My->Mac->Prop}:wp (Z5 f ms E μ) Q↔wp (ms E μ) λxs μ1=>wp (f xs μ1) Q:=by unfold Z5;rw[d5]
def AH {Q:My->Mac->Prop}:wp (sAt E μ) Q↔Q (.int μ.t) μ:=c9
def oq {Q:My->Mac->Prop}:wp (jb E μ) Q↔Q (fF μ) μ:=c9
def Ay {Q:My->Mac->Prop}:wp (sg E μ) Q↔Q (.int μ.line.length) μ:=c9
def zN {Q:My->Mac->Prop}:wp (wG E μ) Q↔Q (.int μ.book.length) μ:=c9
def Cj {Q:My->Mac->Prop}:wp (wj E μ) Q↔Q (.bool (!μ.line.isEmpty)) μ:=c9
def Bl {a:DE->M My}{Q:Out->Mac->Prop}:wp (mDo a E μ) Q↔wp (a E μ) λ_ F1=>Q (.nx E) F1:=by unfold mDo;rw[d5];simp only[c9]
def CD {ms:DE->M (List My)}{Q:Out->Mac->Prop}(h:wp (ms E μ) λxs μ1=>∃y,kn xs=some y /\ μ1.line.length<=10000/\Q (.nx E) { μ1 with line:=μ1.line++[y] }):wp (nK ms E μ) Q:=by
 unfold nK;rw[d5];refine i8 h λxs μ1 ⟨y,e1,e2,q⟩=>?_
 have hl:xs.length=4:=by
  unfold kn at e1;split at e1
  .rfl
  .cases e1
 have z:(10000:Nat)<Qg:=by rw[LV];decide
 show wp ((kn xs).bind _) Q;rw[e1,LC,Lg ⟨by show μ1.line.length<Qg;omega,by show xs.length<=Qg;omega⟩];exact c9.2 q
def xG {ms:DE->M (List My)}{Q:Out->Mac->Prop}(h:wp (ms E μ) λxs μ1=>∃y,kz xs=some y /\ μ1.book.length<=10000/\Q (.nx E) { μ1 with book:=μ1.book++[y] }):wp (oM ms E μ) Q:=by
 unfold oM;rw[d5];refine i8 h λxs μ1 ⟨y,e1,e2,q⟩=>?_
 have hl:xs.length=4:=by
  unfold kz at e1;split at e1
  .rfl
  .cases e1
 have z:(10000:Nat)<Qg:=by rw[LV];decide
 show wp ((kz xs).bind _) Q;rw[e1,LC,Lg ⟨by show μ1.book.length<Qg;omega,by show xs.length<=Qg;omega⟩];exact c9.2 q
def DI {f:List DV->@M fdI My}{ds:List My}{Q:My->Mac->Prop}(h:wp (f (ds.map DV.dat) (iG [])) λd _=>Q d μ):wp (reF f (ds.map DV.dat) μ) Q:=by unfold reF;rw[jA,LC,d5];refine i8 h λd F q=>c9.2 q
def lu {N:List Str}{m:DE->M Out}{ds:List My}{r:My}{μ':Mac}(h:∀d:PU,wp (m (W5 N d ds) μ) λo μ1=>μ1 = μ'/\vh o=some r):mI N m ds μ=some (r,μ'):=Ab λd=>by obtain⟨o,F,e,rfl,e2⟩:=h d;exact⟨o,e,e2⟩
end
end LM
namespace L3
open PySem PySem.Spec PyProof.Rows L2
variable [Fam]
def dQ:List DV->M My:=U2 ["_law_rule_here","_law_one","_law_other"] (mSq (mIf (uB (s2 (eqD true) (s2 ixD (sW 1) (sC (.int 3))) (s2 ixD (sW 2) (sC (.int 3))))) (mRt (s2 ixD (sW 1) (sC (.int 3)))) mNx)
  (mSq (mIf (uB (s2 (inD false) (sW 0) (sC (.tuple [.str "last",.str "lastoff"])))) (mRt (sC (.bool true))) mNx)
  (mSq (mIf (uB (s2 (inD false) (sW 0) (sC (.tuple [.str "short",.str "shortoff"])))) (mRt (s2 ltD (s2 ixD (sW 1) (sC (.int 2))) (s2 ixD (sW 2) (sC (.int 2))))) mNx)
  (mRt (pG (s2 (inD false) (sW 0) (sC (.tuple [.str "front",.str "frontoff"]))) (s2 ltD (s2 ixD (sW 1) (sC (.int 1))) (s2 ixD (sW 2) (sC (.int 1)))))))))
def jn (p:Per):Pn:=(p.r,p.l,p.b)
def v7 (line:List Per)(i:Nat):Per:=line.getD i ⟨0,0,0,false⟩
def pnL (line:List Per):List Pn:=line.map jn
def gK {line:List Per}{i:Nat}(h:i<line.length):pAt (pnL line) i=jn (v7 line i):=by unfold pAt pnL v7;simp[h]
def D9 (line:List Per):(pnL line).length=line.length:=by simp[pnL]
def mM (k:Nat)(p q:Per):Bool:=if p.b≠q.b then p.b else if k=1 then true else if k=2 then decide (p.l<q.l) else if k=3 then decide (p.r<q.r) else false
def vt {r:My}{p q:Per}{F:FdS}{Q:My->FdS->Prop}(hr:r∈W8)(hq:Q (.bool (mM (kOf r) p q)) F):wp (dQ [.dat r,.dat (di p),.dat (di q)] F) Q:=by
 unfold dQ di;unfold mM at hq;walk_at "go";refine V0 (λh=>?_) λh=>?_
 .have hne:p.b≠q.b:=by have:=Bc h;simpa using this.symm
  rw[Lg hne]at hq;walk_at "go";exact hq
 have heq:p.b=q.b:=by have:=Bc h;simpa using this.symm
 rw[Lk (by simp[heq])]at hq;walk_at "go";refine d6 (sD hr) (d6 rfl (V0 (λh=>?_) λh=>?_))
 .rw[Lg (Mc h)]at hq;walk_at "go";exact hq
 rw[Lk (MG h)]at hq;walk_at "go";refine d6 (nN hr) (d6 rfl (V0 (λh=>?_) λh=>?_))
 .rw[Lg (Mc h)]at hq;walk_at "go";exact hq
 rw[Lk (MG h)]at hq;walk_at "go";refine d6 (nP hr) (d6 rfl (V0 (λh=>?_) λh=>?_))
 .rw[Lg (Mc h)]at hq;walk_at "go";exact hq
 rw[Lk (MG h)]at hq;walk_at "go";exact hq
def lX {k:Nat}{line:List Per}{i j:Nat}(hj:j<line.length)(hij:i<j):mM k (v7 line j) (v7 line i)=decide (E7 k true (pnL line) j i):=by
 have hi:i<line.length:=by omega
 rw[NX,MS];unfold mM E7 W4;rw[gK hi,gK hj];generalize v7 line j=p;generalize v7 line i=q;obtain⟨pn,pr,pl,pb⟩:=p;obtain⟨qn,qr,ql,qb⟩:=q;have h1:¬j<i:=by omega
 by_cases k1:k=1
 .cases pb <;> cases qb <;> simp[jn,bI,k1,hij]
 .by_cases k2:k=2
  .cases pb <;> cases qb <;> simp[jn,bI,k2,h1]
  .by_cases k3:k=3
   .cases pb <;> cases qb <;> simp[jn,bI,k3,h1]
   .cases pb <;> cases qb <;> simp[jn,bI,k1,k2,k3,h1]
def Q4 (S:Nat->Nat->Bool)(found:List Nat):Nat->Option Nat
 | 0=>none
 | j+1=>if j∈found then Q4 S found j else match Q4 S found j with
  | none=>some j
  | some b=>if S j b=true then some j else some b
theorem eV {S:Nat->Nat->Bool}{found:List Nat}:∀{j b:Nat},Q4 S found j=some b->b<j/\b ∉ found
 | 0,b,h=>by cases h
 | j+1,b,h=>by
  unfold Q4 at h;split at h
  .obtain⟨h1,h2⟩:=eV h;exact⟨by omega,h2⟩
  .rename_i hn;split at h
   .cases h;exact⟨by omega,hn⟩
   .rename_i c hc;obtain⟨h1,h2⟩:=eV hc;split at h <;> cases h
    .exact⟨by omega,hn⟩
    .exact⟨by omega,h2⟩
def eG {L:List Nat}{i:Nat}(h:i∈L):L[L.idxOf i]? = some i:=by have:=OD.2 h;rw[Lz this,Pq this]
def Ak {L:List Nat}(nd:L.Nodup){t i:Nat}(h:L[t]? = some i):L.idxOf i=t:=by have h2:=eG (Md h);exact lQ nd h2 h
theorem eu {S:Nat->Nat->Bool}{L found:List Nat}{n:Nat}(hS:∀i j,i<n->j<n->i<j->(S j i=true↔L.idxOf j<L.idxOf i)):∀{j:Nat},j<=n->(∀i<j,i ∉ found->∃b,Q4 S found j=some b/\L.idxOf b<=L.idxOf i)
 | 0,_,i,hi,_=>absurd hi (by omega)
 | j+1,hj,i,hi,hf=>by
  unfold Q4;by_cases hjf:j∈found
  .rw[Lg hjf];have:i≠j:=λz=>hf (z▸hjf)
   exact eu hS (by omega) i (by omega) hf
  .rw[Lk hjf];cases hb:Q4 S found j with
   | none =>
    by_cases hij:i=j
    .exact⟨j,rfl,by rw[hij];exact Ln _⟩
    .obtain⟨b,e,_⟩:=eu hS (show j<=n by omega) i (by omega) hf;rw[hb]at e;cases e
   | some b =>
    obtain⟨hbl,_⟩:=eV hb;have hs:=hS b j (by omega) (by omega) hbl;dsimp only;by_cases hij:i=j
    .subst hij;split
     .exact⟨_,rfl,Ln _⟩
     .rename_i hns;refine⟨b,rfl,?_⟩;have hge:¬(L.idxOf i<L.idxOf b):=λz=>hns (hs.2 z)
      omega
    .obtain⟨b',e,hle⟩:=eu hS (show j<=n by omega) i (by omega) hf;rw[hb]at e;cases e;split
     .rename_i hss;exact⟨j,rfl,by have:=hs.1 hss;omega⟩
     .exact⟨b,rfl,hle⟩
def uj {k:Nat}{kp:Bool}{ps:List Pn}{i j:Nat}(hi:i<ps.length)(hj:j<ps.length)(hij:i≠j):E7 k kp ps i j↔(order k kp ps).idxOf i<(order k kp ps).idxOf j:=by
 have mi:i∈order k kp ps:=(B5 k kp ps).mem_iff.mpr (LR.2 hi);have mj:j∈order k kp ps:=(B5 k kp ps).mem_iff.mpr (LR.2 hj);have li:=OD.2 mi;have lj:=OD.2 mj;have P:=MQ.1 (dY k kp ps);have ei:(order k kp ps)[(order k kp ps).idxOf i]=i:=Pq li;have ej:(order k kp ps)[(order k kp ps).idxOf j]=j:=Pq lj;constructor
 .intro h;rcases Nat.lt_trichotomy ((order k kp ps).idxOf i) ((order k kp ps).idxOf j) with z | z | z
  .exact z
  .have h1:=eG mi;have h2:=eG mj;rw[z,h2]at h1;exact absurd (Lr h1).symm hij
  .have:=P _ _ lj li z;rw[ei,ej]at this;exact(eX _ _ h this).elim
 .intro z;have:=P _ _ li lj z;rw[ei,ej]at this;exact this
def tj {k:Nat}{ps:List Pn}{t b:Nat}(ht:(order k true ps)[t]? = some b):Q4 (λi j=>decide (E7 k true ps i j)) ((order k true ps).take t) ps.length=some b:=by
 have nd:=bz k true ps;have mb:b∈order k true ps:=Md ht;have hb:b<ps.length:=LR.1 ((B5 k true ps).mem_iff.mp mb);have ib:=Ak nd ht;have hnf:b ∉ (order k true ps).take t:=λz=>by
  obtain⟨i,hi⟩:=NM.1 z;rw[OC]at hi;split at hi
  .exact absurd (lQ nd hi ht) (by omega)
  .cases hi
 obtain⟨c,e,hle⟩:=eu (S:=λi j=>decide (E7 k true ps i j)) (L:=order k true ps) (found:=(order k true ps).take t) (n:=ps.length) (λi j hi hj hij=>by simp only[MS];exact uj hj hi (by omega)) (Ln _) b hb hnf;obtain⟨hc,hcf⟩:=eV e;have mc:c∈order k true ps:=(B5 k true ps).mem_iff.mpr (LR.2 hc);have hge:t<=(order k true ps).idxOf c:=by
  rcases Nat.lt_or_ge ((order k true ps).idxOf c) t with z | z
  .refine absurd (NM.2 ⟨(order k true ps).idxOf c,?_⟩) hcf;rw[OC,Lg z];exact eG mc
  .exact z
 have:(order k true ps).idxOf c=t:=by omega
 have h2:=eG mc;rw[this,ht]at h2;rw[e,h2]
end L3
namespace LM
open PySem PySem.Spec PyProof.Rows L2 L3
variable [Fam][LamC]
local instance regN:Feeds:=K2
def nC {bd:My->DE->Option DE}{body:DE->M Out}{Q:Out->Mac->Prop}(I:Nat->DE->Mac->Prop):∀(items:List My) (n:Nat) (E:DE) (F:Mac),I n E F ->
  (∀i d,items[i]? = some d->∀E F,I (n+i) E F->∃E1,bd d E=some E1/\wp (body E1 F) λo F'=>∃E2,(o = .nx E2\/o = .ct E2)/\I (n+i+1) E2 F')->(∀E F,I (n+items.length) E F->Q (.nx E) F)->wp (O3 bd body items E F) Q
 | [],n,E,F,h,_,hq=>c9.2 (hq E F h)
 | d::r,n,E,F,h,st,hq=>by
  obtain⟨E1,e1,h1⟩:=st 0 d rfl E F h;rw[O3,e1,LC,d5];refine i8 h1 λo F1 ⟨E2,e2,h2⟩=>?_
  have go:wp (O3 bd body r E2 F1) Q:=by refine nC I r (n+1) E2 F1 h2 (λi d e E F hI=>?_) (λE F hI=>hq E F (by rw[Ly];rw[show n+(r.length+1)=n+1+r.length by omega];exact hI));have:=st (i+1) d (by simpa using e) E F (by rw[show n+(i+1)=n+1+i by omega];exact hI);rw[show n+(i+1)+1=n+1+i+1 by omega]at this;exact this
  rcases e2 with e2 | e2 <;> subst e2 <;> exact go
def lW {l:List Nat}{i:Nat}(hl:∀j∈l,j<=1000):inD false (.int (i:Int)) (.list (j4 l))=some (.bool (decide (i∈l))):=by
 have hs:SeqAt.shaped (.list (j4 l))=true:=by have:=(gZ hl).shaped (by decide) (by decide);simpa [SeqAt.shaped,My.canLay0,My.depth] using this
 have hi:SeqAt.shaped (.int (i:Int))=true:=by simp[SeqAt.shaped,My.canLay0,My.depth]
 show(if SeqAt.shaped (.list (j4 l))=true/\SeqAt.shaped (.int (i:Int))=true then _ else none)=_;rw[Lg ⟨hs,hi⟩,Lk (by simp)];refine MF (λb=>some (My.bool b)) ?_;unfold j4;rw[List.any_map];have e:(l.any ((λy=>y.eqv (.int (i:Int))) ∘ λj:Nat=>My.int (j:Int)))=l.any λj=>decide (j=i):=by congr 1;funext j;simp only[Function.comp,lF];rw[Nj];omega
 rw[e];rw[NX];simp
def ig {j:Int}(h0:-(2 ^ 62)<=j)(h1:j<2 ^ 62):U1 [.int j]=some (aQ 0 j.toNat):=Lg ⟨h0,h1⟩
def ye {n:Nat}(h:n<=100000):U1 [.int (n:Int)]=some (j4 (List.range n)):=by rw[ig (by omega) (by omega),MR,rE]
def DR:Option Nat->My
 | none=>.none
 | some b=>.int (b:Int)
def gX:DE->M (List My):=gSq (gB 5 (cY i7))
  (gSq (aS (eI (c7 (sN DD (c7 (sW 1) (c7 (sN X3 (c7 (sW 4) i7)) i7))) i7)) (bN 6) (mSq (C5 7 (sC .none))
  (mSq (aS (eI (c7 (sN X3 (c7 (sW 4) i7)) i7)) (bN 8) (mSq (mIf (uB (s2 (inD false) (sW 8) (sW 5))) (λE F=>some (.ct E,F)) mNx)
  (mIf (uOr (uB (s2 (isD false) (sW 7) (sC .none))) (uT (t8 (reF dQ) (vD (sV 3) (vD (s2 ixD (sW 4) (sW 8)) (vD (s2 ixD (sW 4) (sW 7)) B9)))))) (C5 7 (sV 8)) mNx)))
  (cn 5 (sV 7)))))
  (CY 5))
def HU:List My->Mac->Option (My×Mac):=mI ["_law_m","_law_hands","_law_places","_law_rule_here","_law_line","_law_found","_law_hand","_law_best","_law_place"] (mSq (bQ (L6 3 (i9 (bN 1) (i9 (bN 2) (i9 (bN 3) M1)))) jb) (cj 4 gX))
def rN {line:List Per}{i:Nat}(h:i<line.length):atI (line.map di) (i:Int)=some (di (v7 line i)):=by refine gR ?_;unfold v7;simp[h]
def AN {a:DE->M Out}{b:DE->M (List My)}{E:DE}{μ:Mac}{Q:List My->Mac->Prop}(h:wp (a E μ) λo μ1=>∃E1,o = .nx E1/\wp (b E1 μ1) Q):wp (gSq a b E μ) Q:=by
 unfold gSq;rw[d5];refine i8 h λo μ1 ⟨E1,e,q⟩=>?_
 subst e;exact q
def pA {μ:Mac}{d:PU}{h:Nat}{r:My}{c8:My}(hr:r∈W8)(hl:μ.line.length<64) :
  wp (gX [some (.adr d),some (.dat (.int (h:Int))),some (.dat c8),some (.dat r),some (.dat (oO μ)),none,none,none,none] μ) λds μ1=>μ1 = μ/\ds=j4 ((order (kOf r) true (pnL μ.line)).take h):=by
 have hol:(order (kOf r) true (pnL μ.line)).length = μ.line.length:=by rw[(B5 _ _ _).length_eq,LY,D9]
 have hsm:∀t,∀j∈(order (kOf r) true (pnL μ.line)).take t,j<=1000:=λt j hj=>by have:=LR.1 ((B5 (kOf r) true (pnL μ.line)).mem_iff.mp (Nx hj));rw[D9]at this;omega
 unfold gX;refine AN (fw.2 (Z0.2 (f9.2 ⟨A7 rfl,l3 rfl,_,rfl,?_⟩)));refine AN (W7.2 (eP.2 (c6.2 (M2.2 (c6.2 (l6.2 (n9 rfl (c6.2 (M2.2 (c6.2 (l6.2 (n9 rfl (f9.2 (d6 rfl (f9.2 (d6 rfl (f9.2 ?_)))))))))))))))));have emin:(if ((μ.line.map di).length:Int)<(h:Int) then((μ.line.map di).length:Int) else(h:Int))=((min h μ.line.length:Nat):Int):=by rw[Lf];split <;> omega
 show oB (U1 [.int (if ((μ.line.map di).length:Int)<(h:Int) then((μ.line.map di).length:Int) else(h:Int))]) _;rw[emin];refine d6 (z:=j4 (List.range (min h μ.line.length))) (ye (by omega)) ?_;refine G7 (λt E F=>F = μ/\∃o6 o7 o8,E=[some (.adr d),some (.dat (.int (h:Int))),some (.dat c8),some (.dat r),some (.dat (oO μ)),some (.own (j4 ((order (kOf r) true (pnL μ.line)).take t))),o6,o7,o8]) _ 0 _ μ ⟨rfl,none,none,none,rfl⟩ ?_ ?_
 .rintro t dd e E F ⟨rfl,o6,o7,o8,rfl⟩;rw[Ml];obtain⟨tt,e2,rfl⟩:=jt e;have ht:t<min h F.line.length/\tt=t:=by obtain⟨h1,h2⟩:=Lj.1 e2;simp at h1 h2;exact⟨by omega,h2.symm⟩
  obtain⟨ht,rfl⟩:=ht;obtain⟨b,hb⟩:∃b,(order (kOf r) true (pnL F.line))[tt]? = some b:=⟨_,Lz (by omega)⟩;refine⟨_,rfl,?_⟩;refine k9.2 (x4.2 (u6.2 ⟨l3 rfl,j5 ?_⟩));refine k9.2 (W7.2 (eP.2 (c6.2 (M2.2 (c6.2 (l6.2 (n9 rfl (f9.2 (d6 rfl (f9.2 ?_))))))))));show oB (U1 [.int ((F.line.map di).length:Int)]) _;rw[Lf];refine d6 (z:=j4 (List.range F.line.length)) (ye (by omega)) ?_;refine nC (λj E F'=>F'=F/\∃o8,E=[some (.adr d),some (.dat (.int (h:Int))),some (.dat c8),some (.dat r),some (.dat (oO F)),some (.own (j4 ((order (kOf r) true (pnL F.line)).take tt))),some (.dat (.int (tt:Int))),some (.dat (DR (Q4 (λi j=>decide (E7 (kOf r) true (pnL F.line) i j)) ((order (kOf r) true (pnL F.line)).take tt) j))),o8]) _ 0 _ F ⟨rfl,o8,rfl⟩ ?_ ?_
  .rintro j dj ej E F' ⟨rfl,o8',rfl⟩;rw[Ml];obtain⟨jj,ej2,rfl⟩:=jt ej;have hj:j<F'.line.length/\jj=j:=by obtain⟨h1,h2⟩:=Lj.1 ej2;simp at h1 h2;exact⟨by omega,h2.symm⟩
   obtain⟨hj,rfl⟩:=hj;refine⟨_,rfl,?_⟩;refine k9.2 (U9.2 (V9.2 (u7.2 (l6.2 (n9 rfl (l6.2 (eT rfl (d6 (lW (hsm tt)) (d6 rfl (V0 (λhin=>?_) λhin=>?_))))))))))
   .have hin:=Mc hin;exact c9.2 (Fx ⟨_,.inr rfl,rfl,_,by rw[Q4,Lg hin];rfl⟩)
   .have hin:=MG hin;refine X6.2 (j5 ?_);cases hb0:Q4 (λi j=>decide (E7 (kOf r) true (pnL F'.line) i j)) ((order (kOf r) true (pnL F'.line)).take tt) jj with
    | none =>refine U9.2 (jY.2 (V9.2 (u7.2 (l6.2 (n9 rfl (u6.2 (d6 rfl (d6 rfl (cz.2 (cz.2 ?_))))))))));exact x4.2 (v5.2 (v6 rfl ⟨l3 rfl,_,.inl rfl,rfl,_,by rw[Q4,Lk hin,hb0];rfl⟩))
    | some bb =>
     obtain⟨hbb,_⟩:=eV hb0;refine U9.2 (jY.2 (V9.2 (u7.2 (l6.2 (n9 rfl (u6.2 (d6 rfl (d6 rfl (T5.2 ?_)))))))));refine qJ.2 (v4.2 (E3.2 (v5.2 (v6 rfl (E3.2 (u7.2 (l6.2 (n9 rfl (l6.2 (n9 rfl (d6 (rN hj) ?_)))))))))));refine E3.2 (u7.2 (l6.2 (n9 rfl (l6.2 (n9 rfl (d6 (rN (show bb<F'.line.length by omega)) (A4.2 ?_)))))));refine DI (ds:=[r,di (v7 F'.line jj),di (v7 F'.line bb)]) (vt hr (d6 rfl ?_));rw[lX hj hbb];refine V0 (λhs=>?_) λhs=>?_
     .exact x4.2 (v5.2 (v6 rfl ⟨l3 rfl,_,.inl rfl,rfl,_,by rw[Q4,Lk hin,hb0];dsimp only;rw[Lg hs];rfl⟩))
     .exact X6.2 ⟨_,.inl rfl,rfl,_,by rw[Q4,Lk hin,hb0];dsimp only;rw[Lk (by rw[hs];simp)];rfl⟩
  .rintro E F' ⟨rfl,o8',rfl⟩;rw[Ml,J6,LY];have hbest:=tj hb;rw[D9]at hbest;rw[hbest];have e3:(order (kOf r) true (pnL F'.line)).take (tt+1)=(order (kOf r) true (pnL F'.line)).take tt++[b]:=by rw[List.take_succ,hb];rfl
   exact j5 (cB rfl (by rw[J6,Ms];omega) (v5.2 (v6 rfl ⟨_,rfl,rfl,_,_,_,by rw[e3];simp only[j4,LD,Lu,Mt];rfl⟩)))
 .rintro E F ⟨rfl,o6,o7,o8,rfl⟩;refine⟨_,rfl,⟨_,_,rfl,rfl,?_⟩⟩;rw[Ml,J6,LY];rcases Nat.le_total h F.line.length with z | z
  .rw[Pf z]
  .rw[OW z,Mj (by omega),Mj (by omega)]
end LM
namespace L3
open PySem PySem.Spec PyProof.Rows L2
variable [Fam]
def cR (book:List Row)(j:Nat):Row:=book.getD j ⟨"",0,none,0⟩
def thP (P:Nat->Bool)(kp:Bool)(line:List Per)(i:Nat):Per:=if P i=true then⟨(v7 line i).n,(v7 line i).r,(v7 line i).l-1,kp⟩ else v7 line i
def gnP (P:Nat->Bool)(line:List Per)(i:Nat):Bool:=P i&&decide ((v7 line i).l<=1)
def row1 (P:Nat->Bool)(i:Nat)(row:Row):Row:=if P i=true then row else⟨row.w,row.t,row.m,row.q+1⟩
def qK (P:Nat->Bool)(t:Int)(line:List Per)(i:Nat)(row:Row):Row:=if gnP P line i=true then⟨"gone",(row1 P i row).t,some t,(row1 P i row).q⟩ else row1 P i row
def sX (P:Nat->Bool)(t:Int)(line:List Per)(book:List Row)(i:Nat):List Row:=book.set (v7 line i).n.toNat (qK P t line i (cR book (v7 line i).n.toNat))
def Z2 (P:Nat->Bool)(t:Int)(line:List Per)(book:List Row)(k:Nat):List Row:=(List.range k).foldl (sX P t line) book
variable {line:List Per}
def jW {P:Nat->Bool}{t:Int}{book:List Row}{k:Nat}:Z2 P t line book (k+1)=sX P t line (Z2 P t line book k) k:=by unfold Z2;rw[MM,NQ];rfl
theorem aY {P:Nat->Bool}{t:Int}{line:List Per}{book:List Row}:∀{k:Nat},(Z2 P t line book k).length=book.length
 | 0=>rfl
 | k+1=>by rw[jW];unfold sX;rw[MB,aY]
def gA (P:Nat->Bool)(kp:Bool)(line:List Per)(k:Nat):List Per:=(List.range line.length).map λi=>if i<k then thP P kp line i else v7 line i
def dy (P:Nat->Bool)(kp tn:Bool)(line:List Per)(k:Nat):List Per:=((List.range k).filter λi=>!gnP P line i && !(P i&&tn)).map (thP P kp line)
def df (P:Nat->Bool)(kp tn:Bool)(line:List Per)(k:Nat):List Per:=((List.range k).filter λi=>!gnP P line i&&(P i&&tn)).map (thP P kp line)
def fC (P:Nat->Bool)(line:List Per)(k:Nat):List Int:=((List.range k).filter λi=>gnP P line i).map λi=>(v7 line i).n
def bsG (P:Nat->Bool)(kp tn:Bool)(t:Int)(line:List Per)(book:List Row)(k:Nat):BS:=⟨gA P kp line k,Z2 P t line book k,dy P kp tn line k,df P kp tn line k,fC P line k⟩
def rn (line:List Per)(book:List Row):Prop:=∀i<line.length,0<=(v7 line i).n/\(v7 line i).n<book.length/\1<=(v7 line i).l
def tL (P:Nat->Bool)(kp:Bool)(line:List Per):gA P kp line 0=line:=by
 unfold gA v7;refine List.ext_getElem (by simp) λi h1 h2=>?_
 simp[h2]
def ik {P:Nat->Bool}{kp:Bool}{k i:Nat}(h:i<line.length):(gA P kp line k)[i]? = some (if i<k then thP P kp line i else v7 line i):=by unfold gA;simp[h]
def tJ {P:Nat->Bool}{kp:Bool}{k:Nat}(h:k<line.length):(gA P kp line k).set k (thP P kp line k)=gA P kp line (k+1):=by
 refine Oc λi=>?_
 by_cases hi:i<line.length
 .rw[ik hi];by_cases hk:k=i
  .subst hk;rw[Lp (by simp[gA,hi]),Lg (MV k)]
  .rw[Lm hk,ik hi];congr 1;by_cases h1:i<k
   .rw[Lg h1,Lg (by omega)]
   .rw[Lk h1,Lk (by omega)]
 .rw[Mr (by simp[gA];omega),Mr (by simp[gA];omega)]
def Ca {P:Nat->Bool}{kp tn:Bool}{t:Int}{book:List Row}{k:Nat}(hk:k<line.length)(hn:rn line book):dN kp tn t k (P k) (bsG P kp tn t line book k)=some (bsG P kp tn t line book (k+1)):=by
 obtain⟨n1,n2,n3⟩:=hn k hk;unfold dN bsG;dsimp only;rw[ik hk,Lk (MK k),LC];have hj:ixN (Z2 P t line book k).length (v7 line k).n=some (v7 line k).n.toNat:=by unfold ixN;rw[Lg n1,aY,Lg n2]
 rw[hj,LC];have hjl:(v7 line k).n.toNat<(Z2 P t line book k).length:=by rw[aY];omega
 have hrow:(Z2 P t line book k)[(v7 line k).n.toNat]? = some (cR (Z2 P t line book k) (v7 line k).n.toNat):=by unfold cR;simp[hjl]
 rw[hrow,LC];have e1:(if P k=true then(⟨(v7 line k).n,(v7 line k).r,(v7 line k).l-1,kp⟩:Per) else v7 line k)=thP P kp line k:=rfl;have hl0:(thP P kp line k).l=0↔gnP P line k=true:=by
  unfold thP gnP;cases hp:P k with
  | false=>simp;omega
  | true=>simp;omega
 have e2:∀row:Row,(if P k=true then row else(⟨row.w,row.t,row.m,row.q+1⟩:Row))=row1 P k row:=λ_=>rfl
 have eb:∀z,sX P t line (Z2 P t line book k) k=z↔(Z2 P t line book k).set (v7 line k).n.toNat (qK P t line k (cR (Z2 P t line book k) (v7 line k).n.toNat))=z:=λz=>Iff.rfl
 congr 1;rw[e1,e2];have eL:gA P kp line (k+1)=(gA P kp line k).set k (thP P kp line k):=(tJ hk).symm;have eB:Z2 P t line book (k+1)=(Z2 P t line book k).set (v7 line k).n.toNat (qK P t line k (cR (Z2 P t line book k) (v7 line k).n.toNat)):=jW;rw[eL,eB];by_cases hg:gnP P line k=true
 .rw[Lg (hl0.2 hg)];have r2:qK P t line k (cR (Z2 P t line book k) (v7 line k).n.toNat)=⟨"gone",(row1 P k (cR (Z2 P t line book k) (v7 line k).n.toNat)).t,some t,(row1 P k (cR (Z2 P t line book k) (v7 line k).n.toNat)).q⟩:=by unfold qK;rw[Lg hg]
  rw[r2];unfold dy df fC;rw[MM,Mw,Mw,Mw];simp only[PN,NL,hg,Bool.not_false,Pw,Pz,Pi,OG,Bool.and_true,ML,MO,Mq,ite_true,ite_false,LD,Lu,Mt,Mh,Bool.and_self]
 .rw[Lk λz=>hg (hl0.1 z)];have hgf:gnP P line k=false:=by simpa using hg
  have r2:qK P t line k (cR (Z2 P t line book k) (v7 line k).n.toNat)=row1 P k (cR (Z2 P t line book k) (v7 line k).n.toNat):=by unfold qK;rw[Lk hg]
  rw[r2];by_cases ht:P k=true/\tn=true
  .rw[Lg ht];unfold dy df fC;rw[MM,Mw,Mw,Mw];simp only[PN,NL,hgf,ht.1,ht.2,Bool.not_false,Pw,Pz,Pi,OG,Bool.and_true,ML,MO,Mq,ite_true,ite_false,LD,Lu,Mt,Mh,Bool.and_self]
  .rw[Lk ht];have ht':(P k&&tn)=false:=Bool.eq_false_iff.2 λz=>ht (by simpa using z)
   unfold dy df fC;rw[MM,Mw,Mw,Mw];simp only[PN,NL,hgf,ht',Bool.not_false,Pw,Pz,Pi,OG,Bool.and_true,ML,MO,Mq,ite_true,ite_false,LD,Lu,Mt,Mh,Bool.and_self]
theorem Ey {P:Nat->Bool}{kp tn:Bool}{t:Int}{line:List Per}{book:List Row}{sm:My}(hn:rn line book)(hin:∀i<line.length,inB sm i=some (P i)):∀{m k:Nat},m+k=line.length->aH kp tn t sm m k (bsG P kp tn t line book k)=some (bsG P kp tn t line book line.length)
 | 0,k,h=>by rw[aH,show k=line.length by omega]
 | m+1,k,h=>by rw[aH,hin k (by omega),LC,Ca (by omega) hn,LC];exact Ey hn hin (by omega)
def iT (P:Nat->Bool)(kp tn:Bool)(μ:Mac):Mac:={ μ with line:=dy P kp tn μ.line μ.line.length++df P kp tn μ.line μ.line.length,book:=Z2 P (μ.t+1) μ.line μ.book μ.line.length,t:=μ.t+1 }
def yO {P:Nat->Bool}{kp:Bool}{sm:My}{μ:Mac}(hl:μ.line.length<=1000)(hk:iC μ.u=some kp)(hn:rn μ.line μ.book)(hin:∀i < μ.line.length,inB sm i=some (P i)) :
  om sm μ=some (fC P μ.line μ.line.length,iT P kp (decide (μ.u = "turns")) μ):=by
 unfold om;have z:(1000:Nat)<Qg:=by rw[LV];decide
 rw[Lg ⟨by omega,by omega⟩,hk,LC];have e0:(⟨μ.line,μ.book,[],[],[]⟩:BS)=bsG P kp (decide (μ.u = "turns")) (μ.t+1) μ.line μ.book 0:=by unfold bsG;rw[tL];rfl
 rw[e0,Ey hn hin rfl];rfl
def cK (pl:Option Nat)(n:Nat):Bool:=match pl with
 | none=>false
 | some v=>decide (v<=n)
def G0 (pl:Option Nat)(s:Mac×Nat)(c:Int×Int):Mac×Nat :=
 if cK pl s.1.line.length=true then({ s.1 with book:=s.1.book++[⟨"lost",s.1.t,none,0⟩] },s.2+1)
 else({ s.1 with line:=s.1.line++[⟨(s.1.book.length:Int),c.1,c.2,false⟩],book:=s.1.book++[⟨"in",s.1.t,none,0⟩] },s.2)
def l8 (pl:Option Nat)(bt:Bt)(s:Mac×Nat):Mac×Nat:=bt.foldl (G0 pl) s
theorem mO {pl:Option Nat}:∀{bt:Bt} {s:Mac×Nat},pnL (l8 pl bt s).1.line=z9 pl (pnL s.1.line) bt/\(l8 pl bt s).2=s.2+(bt.length-A5 pl s.1.line.length bt.length)
 | [],s=>by
  constructor
  .unfold l8 z9;simp
  .unfold l8 A5;simp
 | c::bt,s=>by
  obtain⟨h1,h2⟩:=mO (pl:=pl) (bt:=bt) (s:=G0 pl s c);have e:l8 pl (c::bt) s=l8 pl bt (G0 pl s c):=rfl;rw[e,h1,h2];unfold G0;cases hf:cK pl s.1.line.length with
  | true =>
   rw[Lg rfl];obtain⟨v,rfl,hv⟩:∃v,pl=some v/\v<=s.1.line.length:=by
    unfold cK at hf;split at hf
    .cases hf
    .exact⟨_,rfl,Mc hf⟩
   constructor
   .unfold z9 A5;rw[D9];have:v-s.1.line.length=0:=by omega
    simp[this]
   .unfold A5;simp only[Ly];omega
  | false =>
   rw[Lk (by simp)];constructor
   .unfold z9;have er:A5 pl (pnL s.1.line).length (c::bt).length=A5 pl (pnL (s.1.line++[⟨(s.1.book.length:Int),c.1,c.2,false⟩])).length bt.length+1:=by
     unfold cK at hf;unfold A5;rw[D9,D9];split
     .rename_i v;have:¬v<=s.1.line.length:=MG hf;simp only[Ly,Mp,MH];omega
     .simp
    rw[er,Ol];simp[pnL,jn]
   .unfold cK at hf;unfold A5;split
    .rename_i v;have:¬v<=s.1.line.length:=MG hf;simp only[Ly,Mp,MH];omega
    .simp
theorem cb {pl:Option Nat}:∀{bt:Bt} {s:Mac×Nat},(l8 pl bt s).1.h=s.1.h/\(l8 pl bt s).1.c=s.1.c/\(l8 pl bt s).1.u=s.1.u/\(l8 pl bt s).1.t=s.1.t/\(l8 pl bt s).1.book.length=s.1.book.length+bt.length
 | [],s=>⟨rfl,rfl,rfl,rfl,rfl⟩
 | c::bt,s=>by obtain⟨h1,h2,h3,h4,h5⟩:=cb (pl:=pl) (bt:=bt) (s:=G0 pl s c);have e:l8 pl (c::bt) s=l8 pl bt (G0 pl s c):=rfl;rw[e,h1,h2,h3,h4,h5];unfold G0;split <;> (refine⟨rfl,rfl,rfl,rfl,?_⟩;simp;omega)
end L3
namespace LM
open PySem PySem.Spec PyProof.Rows L2 L3
variable [Fam][LamC]
local instance regO:Feeds:=K2
structure HouseOk (μ:Mac) (h:Nat) (pl:Option Nat) (r:My):Prop where
 hh:μ.h=(h:Int)
 hc:ic μ.c=plD pl
 hr:r = .str μ.u
 w8:r∈W8
def tO (l:List Nat):(j4 l).all isInt=true:=by unfold j4;rw[List.all_map,OV];intro x _;rfl
def tT {μ:Mac}{h:Nat}{pl:Option Nat}{r:My}(H:HouseOk μ h pl r)(hl:μ.line.length<64):HU [] μ=some (.list (j4 ((order (kOf r) true (pnL μ.line)).take h)),μ):=by
 refine lu λd=>?_
 refine k9.2 (aI.2 (oq.2 ?_));unfold fF;rw[H.hh,<-H.hr];refine d6 rfl (j5 ?_);show wp (cj 4 gX [some (.adr d),some (.dat (.int (h:Int))),some (.dat (ic μ.c)),some (.dat r),none,none,none,none,none] μ) _;unfold cj;rw[Lg ⟨l3 rfl,rfl⟩,d5];refine i8 (pA (μ:=μ) (d:=d) (h:=h) (c8:=ic μ.c) H.w8 hl) λds μ1 ⟨e1,e2⟩=>?_
 subst e1 e2;rw[Lg (tO _)];exact c9.2 ⟨rfl,rfl⟩
def IU:List My->Mac->Option (My×Mac):=mI ["_law_m","_law_comers","_law_places","_law_lost","_law_rank","_law_work","_law_is_lost"] (mSq (C5 2 (s2 ixD jb (mE (sC (.int 1)))))
  (mSq (mL 0 (C5 3 (sC (.int 0))))
  (mSq (iE (R5 (sV 1)) (L6 2 (i9 (bN 4) (i9 (bN 5) M1))) (mSq (C5 6 (pG (mE (s2 (isD true) (sW 2) (sC .none))) (s2 geD sg (mE (sV 2)))))
  (mSq (mIf (mE (uU (uT (sW 6)))) (nK (c7 wG (c7 (mE (sV 4)) (c7 (mE (sV 5)) (c7 (mE (sC (.bool false))) i7))))) mNx)
  (mSq (oM (c7 (mE (s2 ixD (sC (.list [.str "in",.str "lost"])) (sN nX (c7 (sW 6) i7)))) (c7 sAt (c7 (mE (sC .none)) (c7 (mE (sC (.int 0))) i7)))))
  (mL 0 (C5 3 (s2 M5 (sW 3) (sN nX (c7 (sW 6) i7)))))))))
  (mL 0 (mRt (sV 3))))))
theorem bO (pl:Option Nat):∀(bt:Bt) (s:Mac×Nat),(l8 pl bt s).1.line.length<=s.1.line.length+bt.length
 | [],s=>Ln _
 | c::bt,s=>by
  have:=bO pl bt (G0 pl s c);have e:l8 pl (c::bt) s=l8 pl bt (G0 pl s c):=rfl;rw[e];refine LS this ?_;unfold G0;split
  .simp
  .simp;omega
def zP {μ:Mac}{h:Nat}{pl:Option Nat}{r:My}{bt:Bt}(H:HouseOk μ h pl r)(hl:μ.line.length+bt.length<=1000)(hb:μ.book.length+bt.length<=5000) :
  IU [.tuple (bt.map cmD)] μ=some (.int ((l8 pl bt (μ,0)).2:Nat),(l8 pl bt (μ,0)).1):=by
 refine lu λd=>?_
 refine k9.2 (x4.2 (u7.2 (oq.2 (aW.2 (u6.2 (d6 (z:=plD pl) ?_ ?_))))))
 .unfold fF;rw[H.hc];rfl
 refine⟨l3 rfl,j5 (k9.2 (uH.2 (x4.2 (u6.2 ⟨l3 rfl,xi rfl (j5 ?_)⟩))))⟩;refine k9.2 (rS.2 (P3.2 (v5.2 (v6 rfl (d6 rfl ?_)))));refine G7 (λm E F=>F=(l8 pl (bt.take m) (μ,0)).1/\∃o4 o5 o6,E=[some (.adr d),some (.dat (.tuple (bt.map cmD))),some (.dat (plD pl)),some (.dat (.int ((l8 pl (bt.take m) (μ,0)).2:Nat))),o4,o5,o6]) _ 0 _ μ ⟨rfl,none,none,none,rfl⟩ ?_ ?_
 .rintro m dd e E F ⟨rfl,o4,o5,o6,rfl⟩;rw[Ml];rw[Lv]at e;obtain⟨c,ec,rfl⟩:=LK.1 e;obtain⟨hm,hc⟩:=Lj.1 ec;have es:l8 pl (bt.take (m+1)) (μ,0)=G0 pl (l8 pl (bt.take m) (μ,0)) c:=by unfold l8;rw[List.take_succ,ec,NQ];rfl
  have hll:(l8 pl (bt.take m) (μ,0)).1.line.length<=1000:=by have:=bO pl (bt.take m) (μ,0);rw[Ms]at this;have h2:((μ,0):Mac×Nat).1.line.length = μ.line.length:=rfl;omega
  have hbl:(l8 pl (bt.take m) (μ,0)).1.book.length<=5000:=by have:=(cb (pl:=pl) (bt:=bt.take m) (s:=(μ,0))).2.2.2.2;rw[Ms]at this;have h2:((μ,0):Mac×Nat).1.book.length = μ.book.length:=rfl;omega
  rw[es];generalize l8 pl (bt.take m) (μ,0)=s at hll hbl;refine⟨_,rfl,?_⟩;have hplaces:wp (pG (mE (s2 (isD true) (sW 2) (sC .none))) (s2 geD sg (mE (sV 2))) [some (.adr d),some (.dat (.tuple (bt.map cmD))),some (.dat (plD pl)),some (.dat (.int (s.2:Nat))),some (.dat (.int c.1)),some (.dat (.int c.2)),o6] s.1) λx μ1=>x = .bool (cK pl s.1.line.length) /\ μ1=s.1:=by
   cases pl with
   | none=>exact qe.2 (aW.2 (u7.2 (l6.2 (n9 rfl (u6.2 (d6 rfl (d6 rfl (T5.2 ⟨rfl,rfl⟩))))))))
   | some v =>refine qe.2 (aW.2 (u7.2 (l6.2 (n9 rfl (u6.2 (d6 rfl (d6 rfl (cz.2 ?_))))))));refine u7.2 (Ay.2 (aW.2 (v5.2 (v6 rfl (d6 rfl ⟨?_,rfl⟩)))));show My.bool _=My.bool _;unfold cK;congr 1;dsimp only;rw[Nj];omega
  refine k9.2 (x4.2 (i8 hplaces λx μ1 ⟨e1,e2⟩=>?_));subst e1 e2;refine⟨l3 rfl,j5 (k9.2 (U9.2 (aW.2 (qZ.2 (qJ.2 (l6.2 (n9 rfl (d6 rfl ?_))))))))⟩;cases hf:cK pl s.1.line.length with
  | true =>refine T5.2 (X6.2 (j5 ?_));refine k9.2 (xG (c6.2 (aW.2 (u7.2 (u6.2 (M2.2 (c6.2 (l6.2 (n9 rfl (f9.2 (d6 rfl (d6 rfl ?_))))))))))));refine c6.2 (AH.2 (c6.2 (aW.2 (u6.2 (c6.2 (aW.2 (u6.2 (f9.2 ⟨_,rfl,by omega,j5 ?_⟩))))))));refine uH.2 (x4.2 (u7.2 (l6.2 (n9 rfl (M2.2 (c6.2 (l6.2 (n9 rfl (f9.2 (d6 rfl (d6 rfl ⟨l3 rfl,xi rfl ⟨_,rfl,by unfold G0;rw[Lg hf],_,_,_,by unfold G0;rw[Lg hf];rfl⟩⟩)))))))))))
  | false =>refine cz.2 (CD (c6.2 (zN.2 (c6.2 (aW.2 (v5.2 (v6 rfl (c6.2 (aW.2 (v5.2 (v6 rfl (c6.2 (aW.2 (u6.2 (f9.2 ⟨_,rfl,by omega,j5 ?_⟩)))))))))))))));refine k9.2 (xG (c6.2 (aW.2 (u7.2 (u6.2 (M2.2 (c6.2 (l6.2 (n9 rfl (f9.2 (d6 rfl (d6 rfl ?_))))))))))));refine c6.2 (AH.2 (c6.2 (aW.2 (u6.2 (c6.2 (aW.2 (u6.2 (f9.2 ⟨_,rfl,by show s.1.book.length<=10000;omega,j5 ?_⟩))))))));refine uH.2 (x4.2 (u7.2 (l6.2 (n9 rfl (M2.2 (c6.2 (l6.2 (n9 rfl (f9.2 (d6 rfl (d6 rfl ⟨l3 rfl,xi rfl ⟨_,rfl,by unfold G0;rw[Lk (show ¬cK pl s.1.line.length=true by rw[hf];simp)],_,_,_,by unfold G0;rw[Lk (show ¬cK pl s.1.line.length=true by rw[hf];simp)];rfl⟩⟩)))))))))))
 .rintro E F ⟨rfl,o4,o5,o6,rfl⟩;rw[Ml,Lf,Oh];refine j5 (uH.2 (aw.2 (v5.2 (v6 rfl (Gj ⟨rfl,rfl⟩)))))
end LM
namespace L3
open PySem PySem.Spec PyProof.Rows L2
variable [Fam]
def R1 (h k:Nat)(ps:List Pn)(i:Nat):Bool:=decide (i∈(order k true ps).take h)
def ky {h k:Nat}{kp:Bool}{ps:List Pn}{i:Nat}(hi:i<ps.length)(hb:kp=false->∀p∈ps,p.2.2=false):R1 h k ps i=decide (i∈r9 h k kp ps):=by
 have e:r9 h k kp ps=r9 h k true ps:=by
  cases kp with
  | true=>rfl
  | false=>exact(oy (hb rfl)).symm
 rw[e];unfold R1 r9;rw[Nj,Ma,MS];exact⟨λz=>⟨LR.2 hi,z⟩,λz=>z.2⟩
def S5 {l:List Nat}{p q:Nat->Bool}(h:∀i∈l,p i=q i):l.filter p=l.filter q:=OP h
variable {tn:Bool}{line:List Per}
def uS {h k:Nat}{kp:Bool}(hb:kp=false->∀p∈line,p.b=false) :
  (List.filter (λi=>!gnP (R1 h k (pnL line)) line i && !(R1 h k (pnL line) i&&tn)) (List.range line.length)++List.filter (λi=>!gnP (R1 h k (pnL line)) line i&&(R1 h k (pnL line) i&&tn)) (List.range line.length))=M0 tn (r9 h k kp (pnL line)) (pnL line):=by
 have hb':kp=false->∀p∈pnL line,p.2.2=false:=λz p hp=>by obtain⟨q,hq,rfl⟩:=LN.1 hp;exact hb z q hq
 have pk:∀i∈List.range line.length,R1 h k (pnL line) i=decide (i∈r9 h k kp (pnL line)):=λi hi=>ky (by rw[D9];exact LR.1 hi) hb'
 have gn:∀i∈List.range line.length,gnP (R1 h k (pnL line)) line i=P1 (r9 h k kp (pnL line)) (pnL line) i:=λi hi=>by unfold gnP P1;rw[pk i hi,gK (LR.1 hi)];rfl
 unfold M0;cases tn with
 | false =>
  rw[Lk (by simp)];have e2:List.filter (λi=>!gnP (R1 h k (pnL line)) line i&&(R1 h k (pnL line) i&&false)) (List.range line.length)=[]:=by rw[List.filter_eq_nil_iff];intro i _;simp
  rw[e2,Mh,D9];exact S5 λi hi=>by rw[gn i hi];simp
 | true =>
  rw[Lg rfl];unfold X8 N9;congr 1
  .rw[D9];refine S5 λi hi=>?_
   rw[gn i hi,pk i hi];unfold P1;cases decide (i∈r9 h k kp (pnL line)) <;> simp
  .have ep:r9 h k kp (pnL line)=(List.range line.length).filter λi=>decide (i∈r9 h k kp (pnL line)):=by
    conv=>lhs;unfold r9
    rw[D9];refine S5 λi hi=>?_
    unfold r9;rw[Nj,Ma,MS,D9];exact⟨λz=>⟨hi,z⟩,λz=>z.2⟩
   have e3:List.filter (λi=>!decide ((pAt (pnL line) i).2.1<=1)) (r9 h k kp (pnL line))=List.filter (λi=>!decide ((pAt (pnL line) i).2.1<=1)) ((List.range line.length).filter λi=>decide (i∈r9 h k kp (pnL line))):=by rw[<-ep]
   rw[e3,List.filter_filter];refine S5 λi hi=>?_
   rw[gn i hi,pk i hi];unfold P1;cases decide (i∈r9 h k kp (pnL line)) <;> simp
def yy {h k:Nat}{kp:Bool}(hb:kp=false->∀p∈line,p.b=false) :
  pnL (dy (R1 h k (pnL line)) kp tn line line.length++df (R1 h k (pnL line)) kp tn line line.length)=after h k kp tn (pnL line):=by
 have hb':kp=false->∀p∈pnL line,p.2.2=false:=λz p hp=>by obtain⟨q,hq,rfl⟩:=LN.1 hp;exact hb z q hq
 have pk:∀i∈List.range line.length,R1 h k (pnL line) i=decide (i∈r9 h k kp (pnL line)):=λi hi=>ky (by rw[D9];exact LR.1 hi) hb'
 have th:∀i∈List.range line.length,jn (thP (R1 h k (pnL line)) kp line i)=L9 (r9 h k kp (pnL line)) kp (pnL line) i:=λi hi=>by
  unfold thP L9 fe;rw[pk i hi,gK (LR.1 hi)];by_cases z:i∈r9 h k kp (pnL line)
  .simp[z,jn]
  .simp[z]
 unfold dy df after;rw[<-LD];show List.map jn _=_;rw[LQ];show List.map (jn ∘ thP (R1 h k (pnL line)) kp line) _=List.map (L9 (r9 h k kp (pnL line)) kp (pnL line)) (M0 tn (r9 h k kp (pnL line)) (pnL line));rw[uS hb];refine Me λi hi=>th i ?_
 have:=(bo (tn:=tn) (P:=r9 h k kp (pnL line)) (ps:=pnL line) R8 P4).mem_iff.mp hi;unfold M0 at this;rw[Lk (by simp),D9]at this;exact(Ma.1 this).1
def Y7 (h:Nat)(pl:Option Nat)(r:My)(μ:Mac)(bt:Bt):Mac:=iT (R1 h (kOf r) (pnL (l8 pl bt (μ,0)).1.line)) (kb r) (tnB r) (l8 pl bt (μ,0)).1
def du (kp:Bool)(line:List Per)(n:Nat):Prop:=∀p∈line,0<=p.n/\p.n<(n:Int)/\1<=p.l/\(kp=false->p.b=false)
def du.num {kp:Bool}{book:List Row}(h:du kp line book.length):rn line book:=λi hi=>by
 have:v7 line i∈line:=by unfold v7;simp[hi]
 obtain⟨a,b,c,_⟩:=h _ this;exact⟨a,b,c⟩
theorem gO {kp:Bool}{pl:Option Nat}:∀{bt:Bt} {s:Mac×Nat},du kp s.1.line s.1.book.length->(∀c∈bt,1<=c.2)->du kp (l8 pl bt s).1.line (l8 pl bt s).1.book.length
 | [],s,h,_=>h
 | c::bt,s,h,hc=>by
  refine gO (bt:=bt) (s:=G0 pl s c) ?_ λx hx=>hc x (Le _ hx)
  unfold G0;split
  .intro p hp;obtain⟨a,b,c,d⟩:=h p hp;exact⟨a,by simp;omega,c,d⟩
  .intro p hp;rcases Li.1 hp with hp | hp
   .obtain⟨a,b,c,d⟩:=h p hp;exact⟨a,by simp;omega,c,d⟩
   .simp at hp;subst hp;exact⟨by simp,by simp;omega,hc c Lq,λ_=>rfl⟩
def uA {i:Nat}(h:i<line.length):v7 line i∈line:=by unfold v7;simp[h]
variable {μ:Mac}
def yT {P:Nat->Bool}{kp:Bool}(h:du kp μ.line μ.book.length):du kp (iT P kp tn μ).line (iT P kp tn μ).book.length:=by
 unfold iT;dsimp only;rw[aY];have key:∀i,i < μ.line.length->gnP P μ.line i=false->(0<=(thP P kp μ.line i).n/\(thP P kp μ.line i).n<(μ.book.length:Int)/\1<=(thP P kp μ.line i).l/\(kp=false->(thP P kp μ.line i).b=false)):=λi hi hg=>by
  obtain⟨a,b,c,d⟩:=h _ (uA hi);unfold thP;unfold gnP at hg;cases hp:P i with
  | false=>rw[Lk (by simp)];exact⟨a,b,c,d⟩
  | true =>
   rw[Lg rfl];rw[hp]at hg;have:¬(v7 μ.line i).l<=1:=by simpa using hg
   exact⟨a,b,by show 1<=(v7 μ.line i).l-1;omega,λz=>z⟩
 intro p hp;rcases Li.1 hp with hp | hp
 .obtain⟨i,hi,rfl⟩:=LN.1 hp;obtain⟨h1,h2⟩:=Ma.1 hi;exact key i (LR.1 h1) (by simp at h2;simpa using h2.1)
 .obtain⟨i,hi,rfl⟩:=LN.1 hp;obtain⟨h1,h2⟩:=Ma.1 hi;exact key i (LR.1 h1) (by simp at h2;simpa using h2.1)
def zY {h:Nat}{pl:Option Nat}{r:My}{bt:Bt}(hk:du (kb r) μ.line μ.book.length)(hc:∀c∈bt,1<=c.2):pnL (Y7 h pl r μ bt).line=j3 h (kOf r) (kb r) (tnB r) pl (pnL μ.line) bt:=by have ok:=gO (kp:=kb r) (pl:=pl) (s:=(μ,0)) hk hc;unfold Y7 iT j3;dsimp only;rw[yy λz p hp=>(ok p hp).2.2.2 z,(mO (pl:=pl) (bt:=bt) (s:=(μ,0))).1]
def yE {h:Nat}{pl:Option Nat}{r:My}{bt:Bt}(hk:du (kb r) μ.line μ.book.length)(hc:∀c∈bt,1<=c.2):du (kb r) (Y7 h pl r μ bt).line (Y7 h pl r μ bt).book.length:=yT (gO (s:=(μ,0)) hk hc)
def kK {h:Nat}{pl:Option Nat}{r:My}{bt:Bt}:(Y7 h pl r μ bt).book.length = μ.book.length+bt.length/\(Y7 h pl r μ bt).t = μ.t+1/\(Y7 h pl r μ bt).h = μ.h/\(Y7 h pl r μ bt).c = μ.c/\(Y7 h pl r μ bt).u = μ.u:=by obtain⟨h1,h2,h3,h4,h5⟩:=cb (pl:=pl) (bt:=bt) (s:=(μ,0));unfold Y7 iT;dsimp only;rw[aY];exact⟨h5,by rw[h4],h1,h2,h3⟩
end L3
namespace LM
open PySem PySem.Spec PyProof.Rows L2 L3
variable [Fam][LamC]
local instance regQ:Feeds:=K2
def Ht :List My->Mac->Option (My×Mac):=mI ["_law_m","_law_comers","_law_lost","_law_some","_law_stay","_law_turned","_law_gone","_law_place","_law_person","_law_row"] (mSq (C5 2 (Z5 IU (c7 (mE (sV 1)) i7))) (mSq (C5 3 (Z5 HU i7)) rj))
def qY (h:Nat)(pl:Option Nat)(r:My)(μ:Mac)(bt:Bt):List Int:=fC (R1 h (kOf r) (pnL (l8 pl bt (μ,0)).1.line)) (l8 pl bt (μ,0)).1.line (l8 pl bt (μ,0)).1.line.length
variable {μ:Mac}
def HouseOk.come {h:Nat}{pl:Option Nat}{r:My}(H:HouseOk μ h pl r){bt:Bt}:HouseOk (l8 pl bt (μ,0)).1 h pl r:=by obtain⟨h1,h2,h3,h4,h5⟩:=cb (pl:=pl) (bt:=bt) (s:=(μ,0));exact⟨h1.trans H.hh,(MF ic h2).trans H.hc,H.hr.trans (by rw[h3]),H.w8⟩
def HouseOk.beat {h:Nat}{pl:Option Nat}{r:My}(H:HouseOk μ h pl r){bt:Bt}:HouseOk (Y7 h pl r μ bt) h pl r:=by obtain⟨_,_,h1,h2,h3⟩:=kK (h:=h) (pl:=pl) (r:=r) (μ:=μ) (bt:=bt);exact⟨h1.trans H.hh,(MF ic h2).trans H.hc,H.hr.trans (by rw[h3]),H.w8⟩
def yV {h:Nat}{pl:Option Nat}{r:My}{bt:Bt}(H:HouseOk μ h pl r)(hl:μ.line.length+bt.length<64)(hb:μ.book.length+bt.length<=5000)(hk:du (kb r) μ.line μ.book.length)(hc:∀c∈bt,1<=c.2) :
  Ht [.tuple (bt.map cmD)] μ=some (.tuple [.int (X7 pl (pnL μ.line) bt:Nat),.list ((qY h pl r μ bt).map My.int)],Y7 h pl r μ bt):=by
 refine lu λd=>?_
 have hlen:=bO pl bt (μ,0);have h2:((μ,0):Mac×Nat).1.line.length = μ.line.length:=rfl;have H1:=H.come (bt:=bt);have ok:=gO (kp:=kb r) (pl:=pl) (s:=(μ,0)) hk hc;have hlost:(l8 pl bt (μ,0)).2=X7 pl (pnL μ.line) bt:=by rw[(mO (pl:=pl) (bt:=bt) (s:=(μ,0))).2];unfold X7;rw[D9];simp
 refine k9.2 (x4.2 (eK.2 (c6.2 (aW.2 (v5.2 (v6 rfl (f9.2 ?_)))))));rw[zP H (by omega) hb];refine c9.2 ⟨l3 rfl,j5 ?_⟩;refine k9.2 (x4.2 (eK.2 (f9.2 ?_)));rw[tT H1 (by omega)];refine c9.2 ⟨l3 rfl,j5 ?_⟩;show wp (rj [some (.adr d),some (.dat (.tuple (bt.map cmD))),some (.dat (.int ((l8 pl bt (μ,0)).2:Nat))),some (.dat (.list (j4 ((order (kOf r) true (pnL (l8 pl bt (μ,0)).1.line)).take h)))),none,none,none,none,none,none] (l8 pl bt (μ,0)).1) _;unfold rj;show wp (if (10:Nat)=10 then(om (.list (j4 ((order (kOf r) true (pnL (l8 pl bt (μ,0)).1.line)).take h))) (l8 pl bt (μ,0)).1).bind _ else none) _;rw[Lg rfl];have hkd:iC (l8 pl bt (μ,0)).1.u=some (kb r):=by unfold iC nT;rw[<-H1.hr];obtain⟨x,e,hx⟩:=R3 H1.w8;rw[e,in4 hx];rfl
 have htn:decide ((l8 pl bt (μ,0)).1.u = "turns")=tnB r:=by rw[H1.hr];rfl
 have hin:∀i<(l8 pl bt (μ,0)).1.line.length,inB (.list (j4 ((order (kOf r) true (pnL (l8 pl bt (μ,0)).1.line)).take h))) i=some (R1 h (kOf r) (pnL (l8 pl bt (μ,0)).1.line) i):=λi hi=>by
  unfold inB;rw[lW λj hj=>?_]
  .rfl
  .have:=LR.1 ((B5 _ _ _).mem_iff.mp (Nx hj));rw[D9]at this;omega
 rw[yO (by omega) hkd ok.num hin,htn];refine c9.2 ⟨rfl,?_⟩;show some (My.tuple [.int ((l8 pl bt (μ,0)).2:Nat),_])=_;rw[hlost];rfl
end LM
namespace L3
open PySem PySem.Spec PyProof.Rows L2
variable [Fam]
def N4 (h:Nat)(pl:Option Nat)(r:My)(μ:Mac)(QA:List Bt)(i:Nat):Mac:=(QA.take i).foldl (Y7 h pl r) μ
def X2 {h:Nat}{pl:Option Nat}{r:My}{μ:Mac}{QA:List Bt}{i:Nat}(hi:i<QA.length):N4 h pl r μ QA (i+1)=Y7 h pl r (N4 h pl r μ QA i) (x9 QA i):=by unfold N4 x9;rw[List.take_succ,Lz hi,NQ];simp[hi]
def jw {QA:List Bt}(hw:∀b∈QA,∀c∈b,1<=c.2){i:Nat}(hi:i<QA.length):∀c∈x9 QA i,1<=c.2:=by
 have:x9 QA i∈QA:=by unfold x9;simp[hi]
 exact hw _ this
theorem jf {h:Nat}{pl:Option Nat}{r:My}{μ:Mac}{QA:List Bt}(hw:∀b∈QA,∀c∈b,1<=c.2)(hk:du (kb r) μ.line μ.book.length):∀{i:Nat},i<=QA.length->du (kb r) (N4 h pl r μ QA i).line (N4 h pl r μ QA i).book.length
 | 0,_=>hk
 | i+1,hi=>by rw[X2 (by omega)];exact yE (jf hw hk (by omega)) (jw hw (by omega))
theorem js {h:Nat}{pl:Option Nat}{r:My}{μ:Mac}{QA:List Bt}(hw:∀b∈QA,∀c∈b,1<=c.2)(hk:du (kb r) μ.line μ.book.length):∀{i:Nat},i<=QA.length->pnL (N4 h pl r μ QA i).line=K5 (j3 h (kOf r) (kb r) (tnB r) pl) (pnL μ.line) QA i
 | 0,_=>by rw[V4];rfl
 | i+1,hi=>by rw[X2 (by omega),zY (jf hw hk (by omega)) (jw hw (by omega)),js hw hk (by omega),V2 (by omega)]
theorem iU {h:Nat}{pl:Option Nat}{r:My}{μ:Mac}{QA:List Bt}:∀{i:Nat},i<=QA.length->(N4 h pl r μ QA i).book.length = μ.book.length+J5 (QA.take i)/\(N4 h pl r μ QA i).t = μ.t+i
 | 0,_=>by constructor <;> simp[N4,J5]
 | i+1,hi=>by
  obtain⟨h1,h2⟩:=iU (h:=h) (pl:=pl) (r:=r) (μ:=μ) (QA:=QA) (i:=i) (by omega);obtain⟨b1,b2,_⟩:=kK (h:=h) (pl:=pl) (r:=r) (μ:=N4 h pl r μ QA i) (bt:=x9 QA i);rw[X2 (by omega),b1,b2,h1,h2,af (by omega)];constructor
  .omega
  .push_cast;omega
end L3
namespace LM
open PySem PySem.Spec PyProof.Rows L2 L3
section
variable [Fam][LamC]
local instance regR:Feeds:=K2
theorem gy {h:Nat}{pl:Option Nat}{r:My}{μ:Mac}{QA:List Bt}(H:HouseOk μ h pl r):∀{i:Nat},i<=QA.length->HouseOk (N4 h pl r μ QA i) h pl r
 | 0,_=>H
 | i+1,hi=>by rw[X2 (by omega)];exact(gy H (by omega)).beat
def Ah {h:Nat}{pl:Option Nat}{r:My}{μ:Mac}{QA:List Bt}{i:Nat}(H:HouseOk μ h pl r)(hw:∀b∈QA,∀c∈b,1<=c.2)(hk:du (kb r) μ.line μ.book.length)(hl:μ.line.length+J5 QA<64)(hb:μ.book.length<=4000)(hi:i<QA.length) :
  Ht [btD (x9 QA i)] (N4 h pl r μ QA i)=some (.tuple [.int (X7 pl (K5 (j3 h (kOf r) (kb r) (tnB r) pl) (pnL μ.line) QA i) (x9 QA i):Nat),.list ((qY h pl r (N4 h pl r μ QA i) (x9 QA i)).map My.int)],N4 h pl r μ QA (i+1)):=by
 have ep:=js (h:=h) (pl:=pl) hw hk (MI hi);have hfit:=oQ (h:=h) (k:=kOf r) (kp:=kb r) (tn:=tnB r) (pl:=pl) (ps:=pnL μ.line) (QA:=QA) (by rw[D9];exact hl) (i:=i) hi;have elen:(N4 h pl r μ QA i).line.length=(K5 (j3 h (kOf r) (kb r) (tnB r) pl) (pnL μ.line) QA i).length:=by rw[<-ep,D9]
 obtain⟨hbk,_⟩:=iU (h:=h) (pl:=pl) (r:=r) (μ:=μ) (QA:=QA) (MI hi);have hle:J5 (QA.take i)+(x9 QA i).length<=J5 QA:=by rw[<-af hi];exact sS QA (i+1)
 rw[X2 hi,<-ep];exact yV (gy H (MI hi)) (by rw[elen];exact hfit) (by omega) (jf hw hk (MI hi)) (jw hw hi)
end
section
variable [Fam][LamC]
local instance regS:Feeds:=K2
def cI (pl:Option Nat):Option Int:=pl.map λv=>(v:Int)
def Av (pl:Option Nat):ic (cI pl)=plD pl:=by cases pl <;> rfl
def mk_house {h:Nat}{pl:Option Nat}{x:Str}:G6 (.tuple [.int (h:Int),plD pl,.str x])=some ⟨(h:Int),cI pl,x,[],[],0⟩:=by cases pl <;> rfl
end
end LM
namespace L3
open PySem PySem.Spec PyProof.Rows L2
variable [Fam]
abbrev AV (h:Nat)(pl:Option Nat)(r:My)(QA:List Bt):Nat->Bool:=λi=>decide ((K5 (j3 h (kOf r) (kb r) (tnB r) pl) [] QA i).length=0)
end L3
namespace LM
open PySem PySem.Spec PyProof.Rows L2 L3
variable [Fam][LamC]
local instance regT:Feeds:=K2
abbrev mac0 (h:Nat)(pl:Option Nat)(x:Str):Mac:=⟨(h:Int),cI pl,x,[],[],0⟩
def sT {h:Nat}{pl:Option Nat}{x:Str}{kp:Bool}:du kp (mac0 h pl x).line (mac0 h pl x).book.length:=λp hp=>by cases hp
def qc {h:Nat}{pl:Option Nat}{x:Str}(hr:My.str x∈W8):HouseOk (mac0 h pl x) h pl (.str x):=⟨rfl,Av pl,rfl,hr⟩
def vZ {h:Nat}{pl:Option Nat}{x:Str}{QA:List Bt}{i:Nat}(hw:∀b∈QA,∀c∈b,1<=c.2)(hi:i<=QA.length):(N4 h pl (.str x) (mac0 h pl x) QA i).line.isEmpty=AV h pl (.str x) QA i:=by have e:=js (h:=h) (pl:=pl) (r:=.str x) (μ:=mac0 h pl x) hw sT hi;have e2:=MF List.length e;rw[D9]at e2;have e3:(pnL (mac0 h pl x).line)=[]:=rfl;rw[e3]at e2;show _=decide ((K5 (j3 h (kOf (.str x)) (kb (.str x)) (tnB (.str x)) pl) [] QA i).length=0);rw[<-e2];cases(N4 h pl (.str x) (mac0 h pl x) QA i).line <;> simp
def AF {h:Nat}{pl:Option Nat}{x:Str}{QA:List Bt}{i:Nat}(hr:My.str x∈W8)(hw:∀b∈QA,∀c∈b,1<=c.2)(hl:J5 QA<64)(hi:i<QA.length) :
  Ht [btD (x9 QA i)] (N4 h pl (.str x) (mac0 h pl x) QA i)=some (.tuple [.int (X7 pl (K5 (j3 h (kOf (.str x)) (kb (.str x)) (tnB (.str x)) pl) [] QA i) (x9 QA i):Nat),.list ((qY h pl (.str x) (N4 h pl (.str x) (mac0 h pl x) QA i) (x9 QA i)).map My.int)],N4 h pl (.str x) (mac0 h pl x) QA (i+1)) :=
 Ah (μ:=mac0 h pl x) (qc hr) hw sT (by show 0+J5 QA<64;omega) (by show 0<=4000;omega) hi
end LM
namespace L3
open PySem PySem.Spec PyProof.Rows L2
section
variable (h k:Nat)(kp tn:Bool)(pl:Option Nat)
end
section
variable {h k:Nat}{kp tn:Bool}{pl:Option Nat}{t:Nat}{bt:Bt}{s:CS}
def yP (pl:Option Nat)(n m:Nat):A5 pl n m<=m:=by unfold A5;split <;> omega
end
end L3
namespace LM
open PySem PySem.Spec PyProof.Rows L2 L3
variable [Fam]
end LM
namespace L3
open PySem PySem.Spec PyProof.Rows L2
section
variable [Fam]
end
section
variable [Fam]
end
end L3
namespace LM
open PySem PySem.Spec PyProof.Rows L2 L3
variable [Fam][LamC]
local instance regV:Feeds:=K2
def qf {a b:DE->M Out}{E:DE}{μ:Mac}{Q:Out->Mac->Prop}(h:wp (a E μ) λo μ1=>∃E1,o = .nx E1/\wp (b E1 μ1) Q):wp (pSq a b E μ) Q:=by
 unfold pSq;rw[d5];refine i8 h λo μ1 ⟨E1,e,q⟩=>?_
 subst e;exact q
end LM
namespace L3
open PySem PySem.Spec PyProof.Rows L2
variable {QA:List Bt}
section
variable [Fam]
section
variable {F:FdS}{Q:My->FdS->Prop}
end
variable [Fam]
def xF (QA:List Bt)(v i:Nat):x9 (QA++List.replicate v []) (QA.length+i)=[]:=by unfold x9;rw[LG,LL (by omega),Mg];split <;> rfl
def stV (f:List Pn->Bt->List Pn)(QA:List Bt):Nat->List Pn
 | 0=>K5 f [] QA QA.length
 | v+1=>f (stV f QA v) []
def qB {f:List Pn->Bt->List Pn}(v:Nat):K5 f [] (QA++List.replicate v []) (QA.length+v)=stV f QA v:=by
 unfold K5;rw[Mj (by simp),NQ];have e:QA.foldl f []=stV f QA 0:=by show _=(QA.take QA.length).foldl f [];rw[Oh]
 rw[e];induction v with
 | zero=>rfl
 | succ v ih=>rw[List.replicate_succ',NQ,ih];rfl
theorem vW {h k:Nat}{kp tn:Bool}{pl:Option Nat}{QA:List Bt}(h0:gH (stV (j3 h k kp tn pl) QA 0)):∀v,gH (stV (j3 h k kp tn pl) QA v)
 | 0=>h0
 | v+1=>by
  show gH (after h k kp tn (z9 pl _ []));refine oo λp hp=>?_
  unfold z9 at hp;simp at hp;exact vW h0 v p hp
section
variable {F:FdS}{Q:My->FdS->Prop}
end
end
section
variable [Fam]
mutual
def sml:My->Prop
 | .none=>True
 | .bool _=>True
 | .int i=>i.natAbs<2 ^ 40
 | .str x=>x.length<=20/\asc x
 | .tuple ds=>ug ds
 | .list ds=>ug ds
 | .dict _=>False
def ug:List My->Prop
 | []=>True
 | d::ds=>sml d/\ug ds
end
theorem V8:∀{ds:List My},ug ds↔∀d∈ds,sml d
 | []=>by simp[ug]
 | d::ds=>by simp[ug,V8 (ds:=ds)]
structure Sml (N k:Nat) (d:My):Prop where
 sc:sml d
 dp:d.depth<=k
 ct:cnt d<=N
structure Nos (d:My):Prop where
 sh:d.showable=true
 nd:d.hasDict=false
 cl:d.canLay0=true
 ln:d.shown.length+2<=300*cnt d
def Eu {ds:List My}:(∀d∈ds,Nos d)->My.showableAll ds=true/\My.hasDictAll ds=false/\My.canLayAll0 ds=true/\((My.shownAll ds).map (·.length)).sum+2*ds.length<=300*Z1 ds:=by
 walk_at "kh"
def Cc :∀m:Nat,∀d:My,sizeOf d<m->sml d->Nos d:=by
 intro m;induction m with
 | zero=>intro d h;exact absurd h (Oo _)
 | succ m ih =>
  intro d hm hs;cases d with
  | none=>exact⟨rfl,rfl,rfl,by decide⟩
  | bool b=>exact⟨rfl,rfl,rfl,by cases b <;> decide⟩
  | int i =>simp only[sml]at hs;have:=Shw.int hs (by decide) (by decide);exact⟨this.sh,this.nd,rfl,by have:=this.ln;simp only[cnt];omega⟩
  | str x =>
   simp only[sml]at hs;refine⟨rfl,rfl,?_,?_⟩
   .simp only[My.canLay0,My.strOk];rw[Array.all_eq_true'];intro c hc;have:=hs.2 c (by simpa using hc);exact MX (by omega)
   .have h1:=Py x λc hc=>LJ (hs.2 c hc) (by decide)
    simp only[My.shown,cnt];omega
  | tuple ds =>
   simp only[sml]at hs;rw[V8]at hs;obtain⟨a,b,c,e⟩:=Eu λd hd=>ih d (by have:=Od hd;simp at hm;omega) (hs d hd)
   refine⟨by simpa only[My.showable] using a,by simpa only[My.hasDict] using b,by simpa only[My.canLay0] using c,?_⟩;have h5:=tupleText_len_le (My.shownAll ds);have h6:=Ob ds;simp only[My.shown,cnt];omega
  | list ds =>
   simp only[sml]at hs;rw[V8]at hs;obtain⟨a,b,c,e⟩:=Eu λd hd=>ih d (by have:=Od hd;simp at hm;omega) (hs d hd)
   refine⟨by simpa only[My.showable] using a,by simpa only[My.hasDict] using b,by simpa only[My.canLay0] using c,?_⟩;have h5:=listText_len_le (My.shownAll ds);have h6:=Ob ds;simp only[My.shown,cnt];omega
  | dict QC=>simp only[sml]at hs
section
variable {N k:Nat}{d:My}
def Sml.repr (h:Sml N k d)(hN:N<=50000)(hk:k<=50):U4 d=true:=by have hd:=Cc _ d (MV _) h.sc;unfold U4;rw[hd.sh,hd.nd];have h1:=hd.ln;have h2:=h.ct;have h3:=h.dp;simp;constructor <;> omega
def Sml.mono {N' k':Nat}(h:Sml N k d)(h2:N<=N')(h3:k<=k'):Sml N' k' d:=⟨h.sc,LS h.dp h3,LS h.ct h2⟩
end
def oV {k:Nat}{ds:List My}(h:∀d∈ds,d.depth<=k):My.depthAll ds<=k:=P6.2 h
def Sml.tup {c k:Nat}{ds:List My}(h:∀d∈ds,Sml c k d):Sml (1+c*ds.length) (k+1) (.tuple ds):=by
 refine⟨?_,?_,?_⟩
 .simp only[sml];rw[V8];exact λd hd=>(h d hd).sc
 .have:=oV λd hd=>(h d hd).dp
  simp only[My.depth];omega
 .have:=eZ (c:=c) λd hd=>(h d hd).ct
  simp only[cnt];omega
def Sml.lst {c k:Nat}{ds:List My}(h:∀d∈ds,Sml c k d):Sml (1+c*ds.length) (k+1) (.list ds):=by
 refine⟨?_,?_,?_⟩
 .simp only[sml];rw[V8];exact λd hd=>(h d hd).sc
 .have:=oV λd hd=>(h d hd).dp
  simp only[My.depth];omega
 .have:=eZ (c:=c) λd hd=>(h d hd).ct
  simp only[cnt];omega
def qH {i:Int}(h0:-100000000<=i)(h1:i<=100000000):Sml 1 0 (.int i):=⟨by simp only[sml];omega,by simp[My.depth],by simp[cnt]⟩
def Gb {x:Str}(h1:x.length<=20)(h2:asc x):Sml 1 0 (.str x):=⟨⟨h1,h2⟩,by simp[My.depth],by simp[cnt]⟩
end
section
variable [Fam]
section
abbrev hsD (h:Nat)(pl:Option Nat)(r:My):My:=.tuple [.int (h:Int),plD pl,r]
abbrev wyD (QA:List Bt):My:=.tuple (QA.map btD)
def sBt {b:Bt}(h:∀c∈b,ue c):Sml (1+3*b.length) 2 (btD b):=by
 have:=Sml.tup (c:=3) (k:=1) (ds:=b.map cmD) λd hd=>by
  obtain⟨c,hc,rfl⟩:=LN.1 hd;obtain⟨h1,h2,h3,h4⟩:=h c hc;walk_at "kr";rcases hd with rfl | rfl
  .exact qH (by omega) (by omega)
  .exact qH (by omega) (by omega)
 rwa [Lf]at this
def zx {b:Bt}(hb:b∈QA):b.length<=J5 QA:=by
 unfold J5;induction QA with
 | nil=>cases hb
 | cons c QA ih =>
  rw[Lu,MT];rcases Lh.1 hb with rfl | hb
  .omega
  .have:=ih hb;omega
def Gf (hw:WayOk 24 QA):Sml 3000 3 (wyD QA):=by have h1:=hw.len;have h2:=hw.many;refine(Sml.tup (c:=121) (k:=2) λd hd=>?_).mono (by rw[Lf];omega) (by decide);obtain⟨b,hb,rfl⟩:=LN.1 hd;have:=zx hb;exact(sBt (hw.ok b hb)).mono (by omega) (by decide)
def Gm {x y:Str}:eqD true (.str x) (.str y)=some (.bool (!decide (x=y))):=by show some (My.bool (if true=true then !decide (x=y) else decide (x=y)))=_;rw[Lg rfl]
def jF {x:Str}:eqD true (.str x) (.str x)=some (.bool false):=by rw[Gm];simp
end
end
section
variable [Fam]
def bM :List DV->M My:=U2 ["_law_feed_here"] (mRt (s2 ixD (sC (.list [.str "first",.str "last",.str "short",.str "front",.str "lastoff",.str "shortoff",.str "frontoff",.str "turns"])) (t8 C6 (vF 0 (vD (sC (.int 8)) B9)))))
def cf :List DV->M My:=U2 ["_law_feed_here","_law_places"] (mSq (C5 1 (s2 ixD (sC (.list [.none,.none,.none,.int 0,.int 1,.int 2,.int 3,.int 4,.int 5,.int 6])) (t8 C6 (vF 0 (vD (sC (.int 10)) B9)))))
  (mRt (P2 (c7 (s2 M5 (sC (.int 1)) (t8 C6 (vF 0 (vD (sC (.int 3)) B9)))) (c7 (sV 1) (c7 (t8 bM (vF 0 B9)) i7))))))
def nr :Tr bM [.feed] 1 (λd=>d∈W8):=Tr.of λF hF=>by
 unfold bM;walk_at "go";refine K7 (by decide) (by decide) (by omega) λr F1 r0 r1 t1=>?_
 obtain⟨d,e,hd⟩:∃d,ixD (.list W8) (.int r)=some d/\d∈W8:=by
  have:r=0\/r=1\/r=2\/r=3\/r=4\/r=5\/r=6\/r=7:=by omega
  rcases this with rfl | rfl | rfl | rfl | rfl | rfl | rfl | rfl
  all_goals exact⟨_,rfl,by simp[W8]⟩
 refine d6 e ?_;walk_at "go";exact⟨by omega,hd⟩
def tq :Tr cf [.feed] 3 (λd=>∃(h:Nat) (pl:Option Nat) (r:My),d = .tuple [.int (h:Int),plD pl,r]/\1<=h/\h<=3/\r∈W8/\∀v,pl=some v->v<=6):=Tr.of λF hF=>by
 unfold cf;walk_at "go";refine K7 (by decide) (by decide) (by omega) λu F1 u0 u1 t1=>?_
 obtain⟨pl,e,hpl⟩:∃pl:Option Nat,ixD (.list [.none,.none,.none,.int 0,.int 1,.int 2,.int 3,.int 4,.int 5,.int 6]) (.int u)=some (plD pl)/\∀v,pl=some v->v<=6:=by
  have:u=0\/u=1\/u=2\/u=3\/u=4\/u=5\/u=6\/u=7\/u=8\/u=9:=by omega
  rcases this with rfl | rfl | rfl | rfl | rfl | rfl | rfl | rfl | rfl | rfl
  .exact⟨none,rfl,λv hv=>by cases hv⟩
  .exact⟨none,rfl,λv hv=>by cases hv⟩
  .exact⟨none,rfl,λv hv=>by cases hv⟩
  .exact⟨some 0,rfl,λv hv=>by injection hv;omega⟩
  .exact⟨some 1,rfl,λv hv=>by injection hv;omega⟩
  .exact⟨some 2,rfl,λv hv=>by injection hv;omega⟩
  .exact⟨some 3,rfl,λv hv=>by injection hv;omega⟩
  .exact⟨some 4,rfl,λv hv=>by injection hv;omega⟩
  .exact⟨some 5,rfl,λv hv=>by injection hv;omega⟩
  .exact⟨some 6,rfl,λv hv=>by injection hv;omega⟩
 refine d6 e ?_;walk_at "go";refine K7 (by decide) (by decide) (by omega) λhv F2 v0 v1 t2=>?_
 walk_at "go";refine nr.wp (by omega) λr F3 t3 hr=>?_
 walk_at "go";obtain⟨h,eh,g1,g2⟩:∃h:Nat,1+hv=(h:Int)/\1<=h/\h<=3:=⟨(1+hv).toNat,by omega,by omega,by omega⟩;rw[eh];exact⟨by omega,h,pl,r,rfl,g1,g2,hr,hpl⟩
end
section
variable [Fam]
def dD {h k:Nat}{kp:Bool}{p:Pn}(hh:1<=h):r9 h k kp [p]=[0]:=by
 have h1:=aE h k kp [p];have h2:=R8 (h:=h) (k:=k) (kp:=kp) (ps:=[p]);rw[show([p]:List Pn).length=1 from rfl,OW hh]at h1;generalize r9 h k kp [p]=l at h1 h2;match l,h1,h2 with
 | [x],_,h2 =>
  have:=h2 x Lq
  simp at this
  rw[this]
variable {tn:Bool}
def kR {p:Pn}:M0 tn [0] [p]=if p.2.1<=1 then[] else[0]:=by
 unfold M0 X8 N9 P1;by_cases h:p.2.1<=1
 .rw[Lg h];cases tn <;> simp[pAt,h,MM]
 .rw[Lk h];cases tn <;> simp[pAt,h,MM]
def hZ {p:Pn}:U8 [0] [p]=if p.2.1<=1 then[0] else[]:=by
 unfold U8;by_cases h:p.2.1<=1
 .rw[Lg h];simp[pAt,h]
 .rw[Lk h];simp[pAt,h]
def dh {h k:Nat}{kp:Bool}{p:Pn}(hh:1<=h):after h k kp tn [p]=if p.2.1<=1 then[] else[(p.1,p.2.1-1,kp)]:=by
 unfold after;rw[dD hh,kR];by_cases h:p.2.1<=1
 .rw[Lg h,Lg h];rfl
 .rw[Lk h,Lk h];rfl
def qX {h k:Nat}{kp:Bool}:after h k kp tn []=[]:=by unfold after;have:r9 h k kp []=[]:=rfl;rw[this];cases tn <;> rfl
def K1 (r:Int)(W:Nat)(kp:Bool)(i:Nat):List Pn:=if i=0\/W<=i then[] else[(r,(W:Int)-i,kp)]
abbrev X4 (r:Int)(W v:Nat):List Bt:=[[(r,(W:Int))]]++List.replicate v []
def eE {r:Int}{W v:Nat}:x9 (X4 r W v) 0=[(r,(W:Int))]:=rfl
def eD {r:Int}{W v i:Nat}:x9 (X4 r W v) (i+1)=[]:=by have:=xF [[(r,(W:Int))]] v i;rw[show([[(r,(W:Int))]]:List Bt).length+i=i+1 from by simp;omega]at this;exact this
def ly {r:Int}{W v:Nat}:(X4 r W v).length=v+1:=by simp
def dg {pl:Option Nat}{ps:List Pn}:z9 pl ps []=ps:=by unfold z9;simp
section
variable {h k:Nat}{kp:Bool}{pl:Option Nat}{r:Int}{W:Nat}
def fm (hpl:A5 pl 0 1=1):z9 pl [] [(r,(W:Int))]=[(r,(W:Int),false)]:=by unfold z9;rw[show([]:List Pn).length=0 from rfl,show([(r,(W:Int))]:Bt).length=1 from rfl,hpl];rfl
def kP (hh:1<=h)(hW:1<=W)(hpl:A5 pl 0 1=1){v i:Nat}:j3 h k kp tn pl (K1 r W kp i) (x9 (X4 r W v) i)=K1 r W kp (i+1):=by
 unfold j3;cases i with
 | zero =>
  rw[eE,show K1 r W kp 0=[] from by unfold K1;rw[Lg (.inl rfl)],fm hpl,dh hh];unfold K1;by_cases h1:(W:Int)<=1
  .rw[Lg h1,Lg (.inr (by omega))]
  .rw[Lk h1,Lk (by omega)];rfl
 | succ i =>
  rw[eD,dg];unfold K1;by_cases h1:W<=i+1
  .rw[Lg (.inr h1),Lg (.inr (by omega)),qX]
  .rw[Lk (by omega),dh hh];by_cases h2:(W:Int)-((i+1:Nat):Int)<=1
   .rw[Lg h2,Lg (.inr (by omega))]
   .rw[Lk h2,Lk (by omega)];show[(r,(W:Int)-((i+1:Nat):Int)-1,kp)]=[(r,(W:Int)-((i+1+1:Nat):Int),kp)];congr 3;omega
theorem lg (hh:1<=h)(hW:1<=W)(hpl:A5 pl 0 1=1){v:Nat}:∀{i:Nat},i<=v+1->K5 (j3 h k kp tn pl) [] (X4 r W v) i=K1 r W kp i
 | 0,_=>by rw[V4];unfold K1;rw[Lg (.inl rfl)]
 | i+1,hi=>by rw[V2 (by rw[ly];omega),lg hh hW hpl (by omega),kP hh hW hpl]
def kg (hpl:A5 pl 0 1=1){v i:Nat}:X7 pl (K1 r W kp i) (x9 (X4 r W v) i)=0:=by
 unfold X7;cases i with
 | zero =>rw[eE,show K1 r W kp 0=[] from by unfold K1;rw[Lg (.inl rfl)]];show 1-A5 pl 0 1=0;rw[hpl]
 | succ i=>rw[eD];simp
def tE (hh:1<=h)(hW:1<=W)(hpl:A5 pl 0 1=1){v i:Nat}(hi:i<W):cL h k kp pl (K1 r W kp i) (x9 (X4 r W v) i)=if i+1=W then 1 else 0:=by
 unfold cL;have key:∀p:Pn,p.2.1=(W:Int)-i->(U8 (r9 h k kp [p]) [p]).length=if i+1=W then 1 else 0:=λp hp=>by
  rw[dD hh,hZ,hp];by_cases h1:i+1=W
  .rw[Lg h1,Lg (by omega)];rfl
  .rw[Lk h1,Lk (by omega)];rfl
 cases i with
 | zero =>rw[eE,show K1 r W kp 0=[] from by unfold K1;rw[Lg (.inl rfl)],fm hpl];exact key _ (by show(W:Int)=(W:Int)-((0:Nat):Int);omega)
 | succ i =>rw[eD,dg,show K1 r W kp (i+1)=[(r,(W:Int)-((i+1:Nat):Int),kp)] from by unfold K1;rw[Lk (by omega)]];exact key _ rfl
end
end
section
variable [Fam]
section
variable {F:FdS}{Q:My->FdS->Prop}
def dG {r:My}{pl:Option Nat}{h:Nat}(hr:r∈W8)(hh:1<=h)(hp:∀i<QA.length,dU pl (K5 (j3 h (kOf r) (kb r) (tnB r) pl) [] QA i).length)(hpv:∀v,dU pl (stV (j3 h (kOf r) (kb r) (tnB r) pl) QA v).length)(hl:J5 QA<64)(hn:QA.length<=900)
  (h0:gH (stV (j3 h (kOf r) (kb r) (tnB r) pl) QA 0)) (hS:X5 (stV (j3 h (kOf r) (kb r) (tnB r) pl) QA 0)<=500)
  (q:∀v:Nat,v<=500->stV (j3 h (kOf r) (kb r) (tnB r) pl) QA v=[]->(∀u<v,stV (j3 h (kOf r) (kb r) (tnB r) pl) QA u≠[])->Q (.tuple ((QA++List.replicate v []).map btD)) F) :
  wp (bX [.dat (.tuple [.int (h:Int),plD pl,r]),.dat (.tuple (QA.map btD))] F) Q:=by
 have hok:=vW h0;have hlen0:∀v,(stV (j3 h (kOf r) (kb r) (tnB r) pl) QA v).length<64:=λv=>by
  have key:∀v,(stV (j3 h (kOf r) (kb r) (tnB r) pl) QA v).length<=(stV (j3 h (kOf r) (kb r) (tnB r) pl) QA 0).length:=λv=>by
   induction v with
   | zero=>exact Ln _
   | succ v ih =>
    show(after h (kOf r) (kb r) (tnB r) (z9 pl _ [])).length<=_;refine LS fh ?_;rw[eJ];have:A5 pl (stV (j3 h (kOf r) (kb r) (tnB r) pl) QA v).length ([]:Bt).length=0:=by have:=yP pl (stV (j3 h (kOf r) (kb r) (tnB r) pl) QA v).length ([]:Bt).length;simpa using this
    rw[this];exact ih
  have h1:=key v;have h2:=jB (h:=h) (k:=kOf r) (kp:=kb r) (tn:=tnB r) (pl:=pl) (ps:=[]) (QA:=QA) (i:=QA.length) (Ln _);rw[Oh]at h2;have h3:(stV (j3 h (kOf r) (kb r) (tnB r) pl) QA 0).length<=J5 QA:=by show(K5 _ [] QA QA.length).length<=_;simpa using h2
  omega
 have hsum:∀v,X5 (stV (j3 h (kOf r) (kb r) (tnB r) pl) QA (v+1))=X5 (stV (j3 h (kOf r) (kb r) (tnB r) pl) QA v)-(min h (stV (j3 h (kOf r) (kb r) (tnB r) pl) QA v).length:Nat):=λv=>by
  have e:z9 pl (stV (j3 h (kOf r) (kb r) (tnB r) pl) QA v) []=stV (j3 h (kOf r) (kb r) (tnB r) pl) QA v:=by unfold z9;simp
  show X5 (after h (kOf r) (kb r) (tnB r) (z9 pl _ []))=_;rw[e,jT (hok v)]
 unfold bX;walk_at "kg";refine k9.2 (x4.2 (u7.2 (u7.2 (v4.2 (E3.2 (v5.2 (v6 rfl (E3.2 (v5.2 (v6 rfl (E3.2 (u6.2 (A4.2 ?_)))))))))))));refine Bs (h:=h) (pl:=pl) (ps:=[]) (QA:=QA) hr hp (by simpa using hl) (by omega) (u6.2 (d6 rfl (CW.2 (u6.2 (d6 rfl ?_)))));have elast:ixD (.tuple ((List.range (QA.length+1)).map λi=>stD (K5 (j3 h (kOf r) (kb r) (tnB r) pl) [] QA i))) (.int (-1))=some (stD (stV (j3 h (kOf r) (kb r) (tnB r) pl) QA 0)):=by rw[MM,LD];exact yh
 have hst:∀v,after h (kOf r) (kb r) (tnB r) (z9 pl (stV (j3 h (kOf r) (kb r) (tnB r) pl) QA v) [])=stV (j3 h (kOf r) (kb r) (tnB r) pl) QA (v+1):=λv=>rfl
 generalize stV (j3 h (kOf r) (kb r) (tnB r) pl) QA=st at *;refine d6 elast ⟨l3 rfl,j5 (k9.2 (x4.2 (u6.2 ⟨l3 rfl,j5 (k9.2 ?_)⟩)))⟩;refine Gk (λE F'=>F'=F/\∃v:Nat,E=[some (.dat (.tuple [.int (h:Int),plD pl,r])),some (.dat (.tuple (QA.map btD))),some (.dat (stD (st v))),some (.dat (.int (v:Int)))]/\X5 (st v)+v<=X5 (st 0)/\∀u<v,st u≠[]) (muV (X5 (st 0))) ⟨rfl,0,rfl,by simp,λu hu=>by omega⟩ ?_;rintro E F1 ⟨rfl,v,rfl,hv,hne⟩;have hlen:=zh (hok v);have hplen:=hlen0 v;have hsv:=hsum v;refine V9.2 (u7.2 (M2.2 (c6.2 (l6.2 (n9 rfl (f9.2 (d6 dF (u6.2 (d6 AL (d6 rfl (V0 (λhc=>?_) λhc=>?_)))))))))))
 .rw[Lf]at hc;have hc:(0:Int)<((st v).length:Nat):=Mc hc;refine k9.2 (x4.2 (u7.2 (v4.2 (E3.2 (v5.2 (v6 rfl (E3.2 (v5.2 (v6 rfl (E3.2 (u6.2 (A4.2 ?_))))))))))));refine xq (h:=h) (pl:=pl) (bt:=[]) hr (hpv v) (by simpa using hplen) (u6.2 (d6 rfl ⟨l3 rfl,j5 ?_⟩));rw[hst v];refine qd (x:=(v:Int)) rfl (u6.2 ⟨1,rfl,?_⟩);have e1:(v:Int)+1=((v+1:Nat):Int):=by omega
  refine⟨_,rfl,⟨rfl,v+1,by rw[e1];rfl,by omega,λu hu=>?_⟩,?_⟩
  .by_cases hu2:u=v
   .rw[hu2];intro z;rw[z]at hc;simp at hc
   .exact hne u (by omega)
  show(X5 (st 0)-((v:Int)+1)).toNat<(X5 (st 0)-(v:Int)).toNat;omega
 .rw[Lf]at hc;have hc:¬(0:Int)<((st v).length:Nat):=MG hc;have hnil:st v=[]:=MU.1 (by omega);refine j5 (aw.2 (u7.2 (l6.2 (n9 rfl (u7.2 (u6.2 (l6.2 (n9 rfl (d6 (AM (k:=v) (by omega)) (d6 (yf (by simp;omega)) (bL ?_)))))))))));rw[<-LD];exact q v (by omega) hnil hne
end
end
section
variable [Fam]
def vR {f:List Pn->Bt->List Pn}{T v:Nat}(hv:v<=T):K5 f [] (QA++List.replicate T []) (QA.length+v)=stV f QA v:=by rw[<-qB];unfold K5;congr 1;rw[List.take_append,List.take_append,Mj (by omega),Nat.add_sub_cancel_left,List.take_replicate,List.take_replicate,Pf hv,Nat.min_self]
def CN {T m:Nat}(hm:m<QA.length):x9 (QA++List.replicate T []) m=x9 QA m:=by unfold x9;rw[LG,LU hm,LG]
def vV {T:Nat}:J5 (QA++List.replicate T [])=J5 QA:=by
 unfold J5;rw[LD,Oq];have:∀T:Nat,((List.replicate T ([]:Bt)).map List.length).sum=0:=λT=>by
  induction T with
  | zero=>rfl
  | succ T ih=>rw[Mi,Lu,MT,ih];rfl
 rw[this];omega
def bP (QA:List Bt)(o:Option DV):Nat->Option DV
 | 0=>o
 | m+1=>some (.dat (btD (x9 QA m)))
end
end L3
namespace LM
open PySem PySem.Spec PyProof.Rows L2 L3
variable [Fam][LamC]
local instance regZ:Feeds:=K2
theorem xA {c:DE->M Bool}{b:DE->M Out}{Q:Out->Mac->Prop}(I:Nat->DE->Mac->Prop)(T:Nat)(st:∀v E F,v<=T->I v E F->wp (c E F) λt F1=>cIf t (v<T/\wp (b E F1) λo F2=>∃E2,o = .nx E2/\I (v+1) E2 F2) (Q (.nx E) F1)):∀(n v:Nat) (E:DE) (F:Mac),v+n=T->I v E F->wp (aK c b (n+1) E F) Q
 | n,v,E,F,hn,hI=>by
  rw[aK,d5];refine i8 (st v E F (by omega) hI) λt F1 h1=>?_
  cases t with
  | false=>rw[T5]at h1;rw[Lk (by simp)];exact c9.2 h1
  | true =>
   rw[cz]at h1;rw[Lg rfl,d5];obtain⟨hlt,h1⟩:=h1;cases n with
   | zero=>omega
   | succ n =>
    refine i8 h1 λo F2 ⟨E2,e,hI2⟩=>?_
    subst e;exact xA I T st n (v+1) E2 F2 (by omega) hI2
def ED {c:DE->M Bool}{b:DE->M Out}{Q:Out->Mac->Prop}(I:Nat->DE->Mac->Prop)(T:Nat){E:DE}{F:Mac}(h0:I 0 E F)(st:∀v E F,v<=T->I v E F->wp (c E F) λt F1=>cIf t (v<T/\wp (b E F1) λo F2=>∃E2,o = .nx E2/\I (v+1) E2 F2) (Q (.nx E) F1)):wp (mWh c b E F) Q:=by obtain⟨o,F',e,q⟩:=xA I T st T 0 E F (by omega) h0;exact⟨o,F',uZ e,q⟩
def IV:DE->M Out:=(pSq (iE (R5 (sV 4)) (bN 6) (mDo (Z5 Ht (c7 (mE (sV 6)) i7))))
  (pSq (mL 5 (C5 7 (sV 4)))
  (pSq (mWh (uB wj) (mSq (mDo (Z5 Ht (c7 (mE (sC (.tuple []))) i7)))
  (mL 5 (C5 7 (s2 M5 (sW 7) (sC (.tuple [.tuple []])))))))
  mNx)))
def blk21_w {x:Str}{pl:Option Nat}{h:Nat}{QA:List Bt}{V:Nat}{d:PU}{a1 t2 o6 o7 o8 o9:Option DV}(hr:My.str x∈W8)(hw:∀b∈QA,∀c∈b,1<=c.2)(hl:J5 QA<64)(hn:QA.length<=1000)(hV:V<=1000)
  (hV0:stV (j3 h (kOf (.str x)) (kb (.str x)) (tnB (.str x)) pl) QA V=[]) (hVn:∀u<V,stV (j3 h (kOf (.str x)) (kb (.str x)) (tnB (.str x)) pl) QA u≠[]) :
  wp (IV [none,a1,t2,some (.dat (.tuple [.int (h:Int),plD pl,.str x])),some (.dat (.tuple (QA.map btD))),some (.adr d),o6,o7,o8,o9] (mac0 h pl x)) λo _=>o = .nx [none,a1,t2,some (.dat (.tuple [.int (h:Int),plD pl,.str x])),some (.dat (.tuple (QA.map btD))),some (.adr d),bP QA o6 QA.length,some (.dat (.tuple ((QA++List.replicate V []).map btD))),o8,o9]:=by
 have hw':∀b∈QA++List.replicate V [],∀c∈b,1<=c.2:=λb hb c hc=>by
  rcases Li.1 hb with hb | hb
  .exact hw b hb c hc
  .rw[Nk hb]at hc;cases hc
 have hl':J5 (QA++List.replicate V [])<64:=by rw[vV];exact hl
 have hlen:(QA++List.replicate V ([]:Bt)).length=QA.length+V:=by simp
 unfold IV;refine qf (rS.2 (P3.2 (v5.2 (v6 rfl (d6 rfl ?_)))));refine G7 (λm E F=>m<=QA.length/\F=N4 h pl (.str x) (mac0 h pl x) (QA++List.replicate V []) m/\E=[none,a1,t2,some (.dat (.tuple [.int (h:Int),plD pl,.str x])),some (.dat (.tuple (QA.map btD))),some (.adr d),bP QA o6 m,o7,o8,o9]) _ 0 _ _ ⟨Mb _,rfl,rfl⟩ ?_ ?_
 .rintro m dd e E F1 ⟨_,rfl,rfl⟩;rw[Ml];obtain⟨hm,rfl⟩:=ym e;refine⟨_,rfl,?_⟩;have hbeat:=AF (h:=h) (pl:=pl) hr hw' hl' (show m<(QA++List.replicate V ([]:Bt)).length by rw[hlen];omega);rw[CN hm]at hbeat;refine Bl.2 (eK.2 (c6.2 (aW.2 (v5.2 (v6 rfl (f9.2 ?_))))));rw[hbeat];exact c9.2 ⟨_,rfl,hm,rfl,rfl⟩
 .rintro E F1 ⟨_,rfl,rfl⟩;rw[Ml,Lf];refine⟨_,rfl,?_⟩;refine qf (uH.2 (x4.2 (v5.2 (v6 rfl ⟨l3 rfl,xi rfl ⟨_,rfl,?_⟩⟩))));refine qf (ED (λv E F=>F=N4 h pl (.str x) (mac0 h pl x) (QA++List.replicate V []) (QA.length+v)/\E=[none,a1,t2,some (.dat (.tuple [.int (h:Int),plD pl,.str x])),some (.dat (.tuple (QA.map btD))),some (.adr d),bP QA o6 QA.length,some (.dat (.tuple ((QA++List.replicate v []).map btD))),o8,o9]) V ⟨rfl,by rw[List.replicate_zero,Mh];rfl⟩ ?_);rintro v E F hv ⟨rfl,rfl⟩;have hvoid:=vZ (h:=h) (pl:=pl) (x:=x) hw' (show QA.length+v<=(QA++List.replicate V ([]:Bt)).length by rw[hlen];omega);have e1:AV h pl (.str x) (QA++List.replicate V []) (QA.length+v)=decide ((stV (j3 h (kOf (.str x)) (kb (.str x)) (tnB (.str x)) pl) QA v).length=0):=by show decide ((K5 _ [] _ _).length=0)=_;rw[vR hv]
  refine V9.2 (Cj.2 (d6 rfl ?_));rw[hvoid,e1];by_cases hz:stV (j3 h (kOf (.str x)) (kb (.str x)) (tnB (.str x)) pl) QA v=[]
  .have hvV:v=V:=by
    by_cases hlt:v<V
    .exact absurd hz (hVn v hlt)
    .omega
   rw[hz];subst hvV;exact T5.2 ⟨_,rfl,X6.2 rfl⟩
  .have hlt:v<V:=by
    by_cases hlt:v<V
    .exact hlt
    .exact absurd (show stV _ QA v=[] from by rw[show v=V by omega];exact hV0) hz
   have e2:decide ((stV (j3 h (kOf (.str x)) (kb (.str x)) (tnB (.str x)) pl) QA v).length=0)=false:=Mz λz=>hz (MU.1 z)
   rw[e2];refine cz.2 ⟨hlt,?_⟩;have hbeat:=AF (h:=h) (pl:=pl) hr hw' hl' (show QA.length+v<(QA++List.replicate V ([]:Bt)).length by rw[hlen];omega);rw[xF]at hbeat;refine k9.2 (Bl.2 (eK.2 (c6.2 (aW.2 (u6.2 (f9.2 ?_))))));rw[show(My.tuple [])=btD [] from rfl,hbeat];refine c9.2 (j5 (uH.2 (x4.2 (u7.2 (l6.2 (n9 rfl (u6.2 (d6 (yf (by simp;omega)) ⟨l3 rfl,xi rfl ⟨_,rfl,rfl,?_⟩⟩))))))));have e3:(QA++List.replicate v ([]:Bt)).map btD++[btD []]=(QA++List.replicate (v+1) ([]:Bt)).map btD:=by rw[List.replicate_succ',<-PB];simp only[LD];rfl
   rw[<-e3];rfl
end LM
namespace L3
open PySem PySem.Spec PyProof.Rows L2
variable [Fam]{F:FdS}{Q:My->FdS->Prop}
def tl1 (a b:My):Nat->List My
 | 0=>[a]
 | _+1=>[b]
variable {a10 a6 a8 a9 o13 o14 o3:Option DV}
def Cm {m:Nat}{p:Pn}{a0 a1 a7:Option DV}{G:List Nat}(hG:G=if p.2.1<=1 then[0] else[]){Q:Out->FdS->Prop}
  (q:∀o13 o14,Q (.nx [a0,a1,some (.own [if p.2.1<=1 then goD 0 (m+1) 0 else gE 0 0]),o3,some (.dat (.list [.int 0])),some (.dat (.int (m:Int))),a6,a7,a8,a9,a10,some (.dat (.tuple (j4 [0]))),some (.dat (.tuple (j4 G))),o13,o14]) F) :
  wp (nO 4 (aS (cN (sV 4)) (L6 2 (i9 (bN 13) (i9 (bN 14) M1))) (tW 2 (t8 G1 (vD (s2 ixD (sW 2) (sW 14)) (vD (s2 (inD true) (sW 13) (sW 11)) (vD (sIf (uB (s2 (inD false) (sW 13) (sW 12))) (s2 M5 (sW 5) (sC (.int 1))) (sC .none)) B9)))) (sV 14))) [a0,a1,some (.own [gE 0 0]),o3,some (.own [.int 0]),some (.dat (.int (m:Int))),a6,a7,a8,a9,a10,some (.dat (.tuple (j4 [0]))),some (.dat (.tuple (j4 G))),o13,o14] F) Q:=by
 refine xS (ds:=[.int 0]) rfl (W7.2 (pN (v5.2 (v6 rfl (d6 bg ?_)))));refine G7 (λn E F'=>F'=F/\n<=1/\∃o13 o14,E=[a0,a1,some (.own (tl1 (gE 0 0) (if p.2.1<=1 then goD 0 (m+1) 0 else gE 0 0) n)),o3,some (.dat (.list [.int 0])),some (.dat (.int (m:Int))),a6,a7,a8,a9,a10,some (.dat (.tuple (j4 [0]))),some (.dat (.tuple (j4 G))),o13,o14]) _ 0 _ F ⟨rfl,by omega,o13,o14,rfl⟩ ?_ ?_
 .rintro n d e E F1 ⟨rfl,_,o13,o14,rfl⟩;have hn:n=0:=by have:=(Lj.1 e).1;simp[T7]at this;omega
  subst hn;cases e;refine⟨_,rfl,(Dy rfl).2 ?_⟩;have h1:∀j∈[0],j<=1000:=λj hj=>by simp at hj;omega
  have h2:∀j∈G,j<=1000:=λj hj=>by rw[hG]at hj;split at hj <;> simp at hj;omega
  refine v4.2 (E3.2 (u7.2 (l6.2 (eT rfl (l6.2 (n9 rfl (d6 rfl (E3.2 (u7.2 (l6.2 (n9 rfl (l6.2 (n9 rfl (d6 (fI (i:=0) h1) (E3.2 (ip.2 (V9.2 (u7.2 (l6.2 (n9 rfl (l6.2 (n9 rfl (d6 (lW (i:=0) h2) (d6 rfl ?_))))))))))))))))))))))));by_cases hp:p.2.1<=1
  .rw[Lg hp]at hG q;rw[hG];refine Z7 (by simp) (u7.2 (l6.2 (n9 rfl (u6.2 (d6 rfl (A4.2 ?_))))));refine qt (m:=m+1) (v5.2 (v6 rfl (d6 rfl (d6 (z:=0) rfl ⟨_,rfl,rfl,by omega,_,_,by rw[Lg hp];rfl⟩))))
  .rw[Lk hp]at hG q;rw[hG];refine A9 (by simp) (u6.2 (A4.2 (yj (v5.2 (v6 rfl (d6 rfl (d6 (z:=0) rfl ⟨_,rfl,rfl,by omega,_,_,by rw[Lk hp];rfl⟩)))))))
 .rintro E F1 ⟨rfl,_,o13,o14,rfl⟩;exact q o13 o14
def yr {m h:Nat}{p:Pn}{r:My}{pl:Option Nat}{a1 a11 a12:Option DV}(hr:r∈W8)(hh:1<=h){Q:Out->FdS->Prop}
  (q:∀a7 a8 a9 a10 a11 a12 o13 o14,Q (.nx [some (.dat (.tuple [.int (h:Int),plD pl,r])),a1,some (.own [if p.2.1<=1 then goD 0 (m+1) 0 else gE 0 0]),some (.dat (stD (after h (kOf r) (kb r) (tnB r) [p]))),some (.own (j4 (if p.2.1<=1 then[] else[0]))),some (.dat (.int (m:Int))),a6,a7,a8,a9,a10,a11,a12,o13,o14]) F) :
  wp ((mSq (bQ (L6 3 (i9 (bN 10) (i9 (bN 11) (i9 (bN 12) M1)))) (t8 ag (vD (sV 0) (vD (sV 7) B9))))
  (mSq (nO 4 (aS (cN (sV 4)) (L6 2 (i9 (bN 13) (i9 (bN 14) M1))) (tW 2 (t8 G1 (vD (s2 ixD (sW 2) (sW 14)) (vD (s2 (inD true) (sW 13) (sW 11)) (vD (sIf (uB (s2 (inD false) (sW 13) (sW 12))) (s2 M5 (sW 5) (sC (.int 1))) (sC .none)) B9)))) (sV 14))))
  (mSq (gB 4 (fLC (R5 (sW 10)) 2 [4] (L6 2 (i9 (bN 0) (i9 (bN 1) M1))) Z3 (s2 ixD (sW 2) (sW 0))))
  (C5 3 (sN K0 (c7 (sLC (R5 (sW 10)) 2 [] (L6 2 (i9 (bN 0) (i9 (bN 1) M1))) Z3 (sV 1)) i7)))))) [some (.dat (.tuple [.int (h:Int),plD pl,r])),a1,some (.own [gE 0 0]),o3,some (.own [.int 0]),some (.dat (.int (m:Int))),a6,some (.dat (.tuple ([p].map pnD))),a8,a9,a10,a11,a12,o13,o14] F) Q:=by
 refine k9.2 (aI.2 (v4.2 (E3.2 (v5.2 (v6 rfl (E3.2 (v5.2 (v6 rfl (A4.2 ?_)))))))));refine oK (h:=h) (pl:=plD pl) (ps:=[p]) hr (by simp) (d6 rfl (j5 (k9.2 ?_)));have ea:=dh (h:=h) (k:=kOf r) (kp:=kb r) (tn:=tnB r) (p:=p) hh;rw[dD hh,kR];refine Cm (p:=p) hZ λo13 o14=>j5 ?_
 by_cases hp:p.2.1<=1
 .rw[Lg hp]at ea;rw[ea]at q;simp only[Lg hp]at q ⊢;refine k9.2 (fw.2 (AG (P3.2 (l6.2 (n9 rfl (d6 bg ⟨sz (by simp),c9.2 ⟨l3 rfl,j5 ?_⟩⟩))))));exact x4.2 (M2.2 (c6.2 (gh.2 (P3.2 (l6.2 (n9 rfl (d6 bg ⟨sz (by simp),c9.2 (f9.2 (d6 rfl ⟨l3 rfl,q _ _ _ _ _ _ _ _⟩))⟩)))))))
 .rw[Lk hp]at ea;rw[ea]at q;simp only[Lk hp]at q ⊢;refine k9.2 (fw.2 (AG (P3.2 (l6.2 (n9 rfl (d6 bg ⟨sz (by simp),?_⟩))))));refine xW (x:=λi:Nat=>.int (i:Int)) (y:=λi=>pnD (L9 [0] (kb r) [p] i)) (f:=λi=>.int ((0:Nat):Int)) [0] _ _ (λi hi F Q q=>?_) ⟨l3 rfl,j5 ?_⟩
  .simp only[Lh,Mn,Nt]at hi;subst hi;exact u7.2 (l6.2 (n9 rfl (l6.2 (n9 rfl (d6 rfl q)))))
  .refine x4.2 (M2.2 (c6.2 (gh.2 (P3.2 (l6.2 (n9 rfl (d6 bg ⟨sz (by simp),?_⟩)))))));exact xW (x:=λi:Nat=>.int (i:Int)) (y:=λi=>pnD (L9 [0] (kb r) [p] i)) (f:=λi=>pnD (L9 [0] (kb r) [p] i)) [0] _ _ (λi hi F Q q=>v5.2 (v6 rfl q)) (f9.2 (d6 rfl ⟨l3 rfl,q _ _ _ _ _ _ _ _⟩))
def Y3 (W m:Nat):List My:=if m=0 then[] else if W<=m then[goD 0 W 0] else[gE 0 0]
def pQ (W m:Nat):List Nat:=if m=0\/W<=m then[] else[0]
def qg {r:My}{pl:Option Nat}{h W:Nat}{rk:Int}(hr:r∈W8)(hh:1<=h)(hW:1<=W)(hW2:W<=900)(hpl:A5 pl 0 1=1)(q:Q (.list [goD 0 W 0]) F):wp (bS [.dat (.tuple [.int (h:Int),plD pl,r]),.dat (.tuple ((X4 rk W (W-1)).map btD))] F) Q:=by
 have hln:(X4 rk W (W-1)).length=W:=by rw[ly];omega
 have hfit:∀m,dU pl (K1 rk W (kb r) m).length:=λm v hv=>by
  subst hv;have:1<=v:=by unfold A5 at hpl;dsimp only at hpl;omega
  unfold K1;split
  .simp
  .simpa using this
 have hb0:x9 (X4 rk W (W-1)) 0=[(rk,(W:Int))]:=eE;have hb1:∀i,x9 (X4 rk W (W-1)) (i+1)=[]:=λi=>eD
 have hstA:=λi=>kP (h:=h) (k:=kOf r) (kp:=kb r) (tn:=tnB r) (r:=rk) (v:=W-1) (i:=i) hh hW hpl
 have hloA:=λi=>kg (kp:=kb r) (r:=rk) (W:=W) hpl (v:=W-1) (i:=i)
 generalize X4 rk W (W-1)=QA at *;unfold bS;walk_at "kg";refine k9.2 (fw.2 (Z0.2 (f9.2 ⟨sz (by decide),l3 rfl,j5 (k9.2 (wV (FT (u6.2 (tK (Z0.2 (f9.2 ⟨sz (by decide),⟨l3 rfl,l3 rfl⟩,j5 (k9.2 (W7.2 (pN (v5.2 (v6 rfl (d6 cZ ?_))))))⟩)))))))⟩)));rw[yZ,hln];refine G7 (λm E F'=>F'=F/\∃o5 o6 o7 o8 o9 o10 o11 o12 o13 o14,E=[some (.dat (.tuple [.int (h:Int),plD pl,r])),some (.dat (.tuple ((QA).map btD))),some (.own (Y3 W m)),some (.dat (stD (K1 rk W (kb r) m))),some (.own (j4 (pQ W m))),o5,o6,o7,o8,o9,o10,o11,o12,o13,o14]) _ 0 _ F ⟨rfl,none,none,none,none,none,none,none,none,none,none,rfl⟩ ?_ ?_
 .rintro m d e E F1 ⟨rfl,o5,o6,o7,o8,o9,o10,o11,o12,o13,o14,rfl⟩;rw[Ml];obtain⟨hm,rfl⟩:=yL e;refine⟨_,rfl,?_⟩;obtain⟨p,hp1,hp2⟩:∃p:Pn,z9 pl (K1 rk W (kb r) m) (x9 (QA) m)=[p]/\p.2.1=(W:Int)-m:=by
   cases m with
   | zero=>exact⟨(rk,(W:Int),false),by rw[hb0];exact fm hpl,by show(W:Int)=(W:Int)-((0:Nat):Int);omega⟩
   | succ m=>exact⟨(rk,(W:Int)-((m+1:Nat):Int),kb r),by rw[hb1,dg];unfold K1;rw[Lk (by omega)],rfl⟩
  have hst:=hstA m;unfold j3 at hst;rw[hp1]at hst;have hlost:=hloA m;unfold X7 at hlost;have hlen:(K1 rk W (kb r) m).length+(x9 (QA) m).length<=1000:=by
   have h1:(K1 rk W (kb r) m).length<=1:=by unfold K1;split <;> simp
   have h2:(x9 (QA) m).length<=1:=by
    cases m with
    | zero=>rw[hb0];simp
    | succ m=>rw[hb1];simp
   omega
  refine k9.2 (aI.2 (v4.2 (E3.2 (v5.2 (v6 rfl (E3.2 (v5.2 (v6 rfl (E3.2 (v5.2 (v6 rfl (A4.2 ?_))))))))))));refine oP (pl:=pl) (ps:=K1 rk W (kb r) m) (bt:=x9 (QA) m) (hfit m) hlen (d6 rfl (j5 ?_));rw[hp1,hlost];have etl:Y3 W (m+1)=[if p.2.1<=1 then goD 0 (m+1) 0 else gE 0 0]:=by
   unfold Y3;rw[Lk (by omega),hp2];by_cases h1:W<=m+1
   .rw[Lg h1,Lg (by omega),show W=m+1 by omega]
   .rw[Lk h1,Lk (by omega)]
  have ein:pQ W (m+1)=if p.2.1<=1 then[] else[0]:=by
   unfold pQ;rw[hp2];by_cases h1:W<=m+1
   .rw[Lg (.inr h1),Lg (by omega)]
   .rw[Lk (by omega),Lk (by omega)]
  refine k9.2 (x4.2 (u7.2 (M2.2 (c6.2 (l6.2 (n9 rfl (f9.2 (d6 dF (l6.2 (n9 rfl (d6 dE ⟨l3 rfl,j5 ?_⟩)))))))))));refine k9.2 (Bh rfl (AB (c6.2 (M2.2 (c6.2 (l6.2 (eT rfl (f9.2 (d6 qy (c6.2 (u7.2 (M2.2 (c6.2 (l6.2 (eT rfl (f9.2 (d6 qy (l6.2 (n9 rfl (d6 ja (f9.2 ?_)))))))))))))))))))));have hbl:(x9 QA m).length<=1:=by
   cases m with
   | zero=>rw[hb0];simp
   | succ m=>rw[hb1];simp
  have htl:(Y3 W m).length<=1:=by
   unfold Y3;split
   .simp
   .split <;> simp
  have hil:(pQ W m).length<=1:=by unfold pQ;split <;> simp
  have eb1:(((x9 QA m).length:Nat):Int)-((0:Nat):Int)=((x9 QA m).length:Nat):=by omega
  rw[Lf,eb1];refine d6 (Cq (by omega) (by omega) (by omega) (by omega)) ?_;have er:((((Y3 W m).length:Nat):Int)+((x9 QA m).length:Nat)-(((Y3 W m).length:Nat):Int)).toNat=(x9 QA m).length:=by omega
  rw[er,vv];refine⟨by rw[J6];simp;omega,_,rfl,by rw[J6,J6];simp;omega,j5 ?_⟩;have eA:j4 (pQ W m)++j4 ((List.range (x9 QA m).length).map ((Y3 W m).length + ·))=[.int 0]:=by
   cases m with
   | zero=>rw[hb0];rfl
   | succ m=>rw[hb1];unfold pQ;rw[Lk (by omega)];rfl
  rw[eA];refine k9.2 (Bh rfl (u7.2 (u7.2 (lT.2 (c6.2 (L8.2 (c6.2 (u6.2 (c6.2 (v5.2 (v6 rfl (c6.2 (u6.2 (f9.2 ⟨A7 rfl,f9.2 ⟨A7 rfl,l6.2 (n9 rfl (d6 (wY (by omega)) ?_))⟩⟩))))))))))))));refine u7.2 (lT.2 (c6.2 (L8.2 (c6.2 (u6.2 (c6.2 (v5.2 (v6 rfl (f9.2 ⟨A7 rfl,f9.2 ⟨A7 rfl,l6.2 (n9 rfl (d6 (wY (by omega)) ?_))⟩⟩)))))))));refine d6 (vb (by simp;omega)) ⟨_,rfl,by simp;omega,j5 ?_⟩;have eB:Y3 W m++(List.replicate (x9 QA m).length (My.tuple [.str "in",.int (m:Int),.int 0])++List.replicate 0 (My.tuple [.str "lost",.int (m:Int)]))=[gE 0 0]:=by
   cases m with
   | zero=>rw[hb0];rfl
   | succ m=>rw[hb1];unfold Y3;rw[Lk (by omega),Lk (by omega)];rfl
  rw[eB];refine yr (p:=p) hr hh λa7 a8 a9 a10 a11 a12 o13 o14=>?_
  rw[hst,<-etl,<-ein];exact⟨_,rfl,rfl,_,_,_,_,_,_,_,_,_,_,rfl⟩
 .rintro E F1 ⟨rfl,o5,o6,o7,o8,o9,o10,o11,o12,o13,o14,rfl⟩;rw[Ml,Lf,LY];have:Y3 W W=[goD 0 W 0]:=by unfold Y3;rw[Lk (by omega),Lg (Ln _)]
  rw[this];exact j5 (aw.2 (l6.2 (eT rfl (bL q))))
end L3
namespace K21
open PySem L2 L3
section
def top (i:Nat):Qc:=PySem.Challenge.pw_hatchwaits_k21_ways_drained.main.body.getD i (.Pass ⟨0,0,0,0⟩)
instance famI:Fam:=FQ ["lined_up","picked"]
instance lamI:LamC:=⟨["lined_up","picked"]⟩
abbrev Iu:Qc:=top 2
abbrev HM:Qc:=top 4
abbrev GB:Qc:=top 5
abbrev HN:Qc:=top 6
abbrev Hg:Qc:=top 7
abbrev IW:Qc:=top 8
abbrev Kl:Qc:=top 10
abbrev GV:Qc:=top 11
abbrev GK:Qc:=top 12
abbrev HV:Qc:=top 13
abbrev Hu:Qc:=top 15
abbrev GW:Qc:=top 20
abbrev GM:Qc:=top 21
abbrev GP:Qc:=top 22
abbrev HP:Qc:=top 23
abbrev Hh:Qc:=top 25
abbrev Hi:Qc:=top 26
abbrev Hj:Qc:=top 27
abbrev GX:Qc:=top 28
abbrev Hw:Qc:=top 29
abbrev GC:Qc:=top 30
abbrev GJ:Qc:=top 31
abbrev GG:Qc:=top 32
abbrev GN:Qc:=top 33
abbrev GO:Qc:=top 34
abbrev Hy:Qc:=top 35
abbrev Gy:Qc:=top 36
abbrev Gv:Qc:=top 37
structure Txt (K:PySem.W.Frag) (mg:Str->Option PR):Prop where
 enumerate:mg "enumerate" = none
 int:mg "int" = none
 len:mg "len" = none
 list:mg "list" = none
 min:mg "min" = none
 range:mg "range" = none
 repr:mg "repr" = none
 sorted:mg "sorted" = none
 sum:mg "sum" = none
 tuple:mg "tuple" = none
 g_KEEPING:GD K mg "KEEPING" (.tuple [.str "first",.str "last",.str "short",.str "front"])
section
variable {P:PX}{w:PY}{K:PySem.W.Frag}{mg:Str->Option PR}{base:Qe}
def vX:FnScope ["rule"] ["rule"] (defScope Iu):={}
abbrev lI:=dX
def Km {f:PU}{fd:Qb}(Fn:Fun K "keeps" "keeps" Iu f fd)(T:Txt K mg) :FnOk P w K mg base CX0 1 f fd ["rule"] (spD K 1 lI):=by
 refine K3 Fn vX λQB A outer s H E hr=>?_
 have hu5:(A.deeper (PyProof.Rows.envOfC "keeps" (defScope Iu) s.heap.objs.size f QB)).units+65<Qu:=by have:=hr.un;omega
 exact⟨_,(j9 (z8 (dz (aV rfl hu5) (i5 0) (Ev.bw (FW T.g_KEEPING)))))⟩
def bY:FnScope ["house","stand","beat","places","room","entered"] ["house","stand","beat"] (defScope HM):={}
abbrev jx:=bG
def JT {f:PU}{fd:Qb}(Fn:Fun K "let_in" "let_in" HM f fd)(T:Txt K mg) :FnOk P w K mg base CX0 1 f fd ["house","stand","beat"] (spD K 3 jx):=by
 refine K3 Fn bY λQB A outer s H E hr=>?_
 exact⟨_,(d8 (x6 3 bY.nd (C2 (B8 rfl) (i5 0) (Ev.bw i4)))
   (d8 (x6 4 bY.nd (mZ (C3 vP (i5 3) (Ev.bw bj)) (n6 (O7 rfl) T.len O9 (j6 (i5 2) l9)) (B7 cX (i5 3) (Ev.bw (n6 (O7 rfl) T.len O9 (j6 (i5 1) l9))))))
   (d8 (mX 5 (hN:=bY.nd) (osc:=(defScope HM)) (N:=["rank","work"]) (k:=2) (cap:=[]) (hc:=rfl) (hosc:=rfl) (hcap:=⟨rfl,by decide +kernel,by decide +kernel,by decide +kernel,rfl,rfl,by decide +kernel⟩) (T1 (Ev.bw (vL (i5 2) AW (DZ (l4 4))))) (λcl C ex Qz s H=>(D7 (n:=2) rfl (f7 (v9 (i:=0) (show List.Nodup (["rank","work"]:List Str) by decide +kernel)) (f7 (v9 (i:=1) (show List.Nodup (["rank","work"]:List Str) by decide +kernel)) A8)))) (λcl C ex Qz s H=>O4) (λcl C ex Qz s H=>(C9 (d9 (l4 0) (d9 (l4 1) (d9 cy l0))))))
   (j9 (z8 (C9 (d9 (B7 (E8 rfl) (i5 1) (Ev.bw (D4 (J4 rfl) T.tuple J9 (j6 (i5 5) l9)))) (d9 (B7 cX (Ev.bw (n6 (O7 rfl) T.len O9 (j6 (i5 2) l9))) (Ev.bw (n6 (O7 rfl) T.len O9 (j6 (i5 5) l9)))) l0))))))))⟩
def fY:FnScope ["rule","stand","places"] ["rule","stand"] (defScope GB):={}
abbrev iq:=GL
def Jl {f c P0:PU}{fd:Qb}(Fn:Fun K "lined_up" "lined_up" GB f fd)(T:Txt K mg)(LB:LamB K mg base "lined_up" fd c P0) :FnOk P w K mg base CX0 1 f fd ["rule","stand"] (spD K 2 iq):=by
 refine rH Fn fY λQB A outer s H E hcd hr=>?_
 obtain rfl:QB = .ref c:=hcd.symm.trans LB.code;have hu5:(A.deeper (PyProof.Rows.envOfC "lined_up" (defScope GB) s.heap.objs.size f (.ref c))).units+65<Qu:=by have:=hr.un;omega
 exact⟨_,(d8 (x6 2 fY.nd (xM (d9 (n6 (O7 rfl) T.len O9 (j6 (i5 1) l9)) l0) rfl T.range T.list kY))
   (d8 (Q8 (C3 (aV rfl hu5) (i5 0) (Ev.bw (P8 (.tuple [.str "last",.str "lastoff"]) rfl))) (j9 (z8 (BN (i5 2)))) M4)
   (d8 (Q8 (C3 (aV rfl hu5) (i5 0) (Ev.bw (P8 (.tuple [.str "short",.str "shortoff"]) rfl))) (j9 (z8 (xc (osc:=(defScope GB)) (N:=["place","stand"]) (cap:=[1]) (y:="place") LB rfl T.sorted hr rfl (d9 (l4 2) l0) rfl ⟨rfl,rfl,rfl,by decide +kernel,rfl,rfl,by decide +kernel,rfl,rfl,by decide +kernel⟩ rfl rfl (λcl f c' Y s H=>(C2 (B8 rfl) (Ev.bw (C2 (B8 rfl) (i5 1) (i5 0))) (Ev.bw i4)))))) M4)
   (d8 (Q8 (C3 (aV rfl hu5) (i5 0) (Ev.bw (P8 (.tuple [.str "front",.str "frontoff"]) rfl))) (j9 (z8 (xc (osc:=(defScope GB)) (N:=["place","stand"]) (cap:=[1]) (y:="place") LB rfl T.sorted hr rfl (d9 (l4 2) l0) rfl ⟨rfl,rfl,rfl,by decide +kernel,rfl,rfl,by decide +kernel,rfl,rfl,by decide +kernel⟩ rfl rfl (λcl f c' Y s H=>(C2 (B8 rfl) (Ev.bw (C2 (B8 rfl) (i5 1) (i5 0))) (Ev.bw i4)))))) M4)
   (j9 (z8 (l4 2)))))))⟩
def V7:FnScope ["house","stand","hands","places","rule","order"] ["house","stand"] (defScope HN):={}
abbrev oS:=Hf
def JU {f c P0:PU}{fd:Qb}(Fn:Fun K "picked" "picked" HN f fd)(T:Txt K mg)(LB:LamB K mg base "picked" fd c P0)(HA:d0 P w K mg base "lined_up" 1 ["rule","stand"] (spD K 2 iq))(Hv:d0 P w K mg base "keeps" 1 ["rule"] (spD K 1 lI)):FnOk P w K mg base CX0 2 f fd ["house","stand"] (spD K 2 oS):=by
 refine rH Fn V7 λQB A outer s H E hcd hr=>?_
 obtain rfl:QB = .ref c:=hcd.symm.trans LB.code;exact⟨_,(d8 (aJ (l4 0) (D7 (n:=3) rfl (f7 (v9 (i:=2) V7.nd) (f7 (v9 (i:=3) V7.nd) (f7 (v9 (i:=4) V7.nd) A8)))))
   (d8 (x6 5 V7.nd (j7 HA (hr.mono (by decide)) (x5 (l4 4) (x5 (l4 1) n8)) (w6 (w6 n5))))
   (d8 (Q8 (iu (Ev.bw (j7 Hv (hr.mono (by decide)) (x5 (l4 4) n8) (w6 n5)))) (j9 (x6 5 V7.nd (xc (osc:=(defScope HN)) (N:=["place","stand"]) (cap:=[1]) (y:="place") LB rfl T.sorted hr rfl (d9 (l4 5) l0) rfl ⟨rfl,rfl,rfl,by decide +kernel,rfl,rfl,by decide +kernel,rfl,rfl,by decide +kernel⟩ rfl rfl (λcl f c' Y s H=>(Dz (C2 (B8 rfl) (Ev.bw (C2 (B8 rfl) (i5 1) (i5 0))) (Ev.bw i4))))))) M4)
   (j9 (z8 (D4 (J4 rfl) T.tuple J9 (j6 (Ev.bw (n6 (ko rfl) T.sorted jX (j6 (Ev.bw (vL (i5 5) AW (DZ (l4 2)))) l9))) l9)))))))⟩
def L0:FnScope ["house","stand","rule","hands_on","waiting","served","gone","place","rank","left","begun","staying"] ["house","stand"] (defScope Hg):={}
abbrev iL:=ag
def JV {f:PU}{fd:Qb}(Fn:Fun K "worked" "worked" Hg f fd)(T:Txt K mg)(Iv:d0 P w K mg base "picked" 2 ["house","stand"] (spD K 2 oS))(Hv:d0 P w K mg base "keeps" 1 ["rule"] (spD K 1 lI)):FnOk P w K mg base CX0 3 f fd ["house","stand"] (spD K 2 iL):=by
 refine K3 Fn L0 λQB A outer s H E hr=>?_
 have hu5:(A.deeper (PyProof.Rows.envOfC "worked" (defScope Hg) s.heap.objs.size f QB)).units+65<Qu:=by have:=hr.un;omega
 exact⟨_,(d8 (x6 2 L0.nd (C2 (B8 rfl) (i5 0) (Ev.bw i4)))
   (d8 (x6 3 L0.nd (j7 Iv (hr.mono (by decide)) (x5 (l4 0) (x5 (l4 1) n8)) (w6 (w6 n5))))
   (d8 (mX 4 (hN:=L0.nd) (osc:=(defScope Hg)) (N:=["place","person","hands_on"]) (k:=2) (cap:=[3]) (hc:=rfl) (hosc:=rfl) (hcap:=⟨rfl,by decide +kernel,by decide +kernel,by decide +kernel,rfl,rfl,by decide +kernel⟩) (nD (i5 1) T.enumerate) (λcl C ex Qz s H=>(D7 (n:=2) rfl (f7 (v9 (i:=0) (show List.Nodup (["place","person","hands_on"]:List Str) by decide +kernel)) (f7 (v9 (i:=1) (show List.Nodup (["place","person","hands_on"]:List Str) by decide +kernel)) A8)))) (λcl C ex Qz s H=>(ze (C3 (nQ rfl hu5) (i5 0) (i5 2)))) (λcl C ex Qz s H=>(C9 (d9 (l4 0) (d9 (l4 1) l0)))))
   (d8 (zR 5 6 rfl L0.nd (uY (U6 l0)) (uY (U6 l0)))
   (d8 (R7 rfl (bE (l4 3)) (v9 (i:=7) L0.nd) (d8 (aJ (C2 (B8 rfl) (i5 1) (i5 7)) (D7 (n:=3) rfl (f7 (v9 (i:=8) L0.nd) (f7 (v9 (i:=9) L0.nd) (f7 (v9 (i:=10) L0.nd) A8)))))
   (j9 (Q8 (C3 Bf (i5 9) (Ev.bw i4)) (j9 (Y8 5 rfl (C9 (d9 (l4 7) (d9 (C9 (d9 (l4 8) (d9 (B7 cX (i5 9) (Ev.bw i4)) (d9 (j7 Hv (hr.mono (by decide)) (x5 (l4 2) n8) (w6 n5)) l0)))) l0))))) (j9 (Y8 6 rfl (l4 7)))))))
   (d8 (x6 11 L0.nd (mZ (C3 (sq rfl hr.units) (i5 2) (Ev.bw fK)) (B7 (E8 rfl) (i5 4) (i5 5)) (n6 (ko rfl) T.sorted jX (j6 (Ev.bw (B7 (E8 rfl) (i5 4) (i5 5))) l9))))
   (j9 (z8 (C9 (d9 (l4 11) (d9 (l4 3) (d9 (D4 (J4 rfl) T.tuple J9 (j6 (i5 6) l9)) l0))))))))))))⟩
def bW:FnScope ["house","stand","beat","filled","lost","staying","hands_on","gone"] ["house","stand","beat"] (defScope IW):={}
abbrev qh:=jE
def Ky {f:PU}{fd:Qb}(Fn:Fun K "step" "step" IW f fd)(T:Txt K mg)(GS:d0 P w K mg base "let_in" 1 ["house","stand","beat"] (spD K 3 jx))(GT:d0 P w K mg base "worked" 3 ["house","stand"] (spD K 2 iL)):FnOk P w K mg base CX0 4 f fd ["house","stand","beat"] (spD K 3 qh):=by
 refine K3 Fn bW λQB A outer s H E hr=>?_
 exact⟨_,(d8 (aJ (j7 GS (hr.mono (by decide)) (x5 (l4 0) (x5 (l4 1) (x5 (l4 2) n8))) (w6 (w6 (w6 n5)))) (D7 (n:=2) rfl (f7 (v9 (i:=3) bW.nd) (f7 (v9 (i:=4) bW.nd) A8))))
   (d8 (aJ (j7 GT (hr.mono (by decide)) (x5 (l4 0) (x5 (l4 3) n8)) (w6 (w6 n5))) (D7 (n:=3) rfl (f7 (v9 (i:=5) bW.nd) (f7 (v9 (i:=6) bW.nd) (f7 (v9 (i:=7) bW.nd) A8)))))
   (j9 (z8 (C9 (d9 (D4 (J4 rfl) T.tuple J9 (j6 (Ev.bw (fZ (osc:=(defScope IW)) (N:=["place","person"]) (k:=2) (cap:=[]) rfl rfl ⟨rfl,by decide +kernel,by decide +kernel,by decide +kernel,rfl,rfl,by decide +kernel⟩ (T1 (i5 5)) (λcl C ex Qz s H=>(D7 (n:=2) rfl (f7 (v9 (i:=0) (show List.Nodup (["place","person"]:List Str) by decide +kernel)) (f7 (v9 (i:=1) (show List.Nodup (["place","person"]:List Str) by decide +kernel)) A8)))) (λcl C ex Qz s H=>O4) (λcl C ex Qz s H=>(l4 1)))) l9)) (d9 (l4 4) (d9 (l4 7) l0))))))))⟩
def fP:FnScope ["house","way","stand","stands","lost","gone","beat","following","turned_away","places"] ["house","way","stand"] (defScope Kl):={}
abbrev jU:=nI
def KM {f:PU}{fd:Qb}(Fn:Fun K "run" "run" Kl f fd)(T:Txt K mg)(HW:d0 P w K mg base "step" 4 ["house","stand","beat"] (spD K 3 qh)):FnOk P w K mg base CX0 5 f fd ["house","way","stand"] (spD K 3 jU):=by
 refine K3 Fn fP λQB A outer s H E hr=>?_
 exact⟨_,(d8 (xC 3 4 5 rfl fP.nd (uY (U6 (d9 (l4 2) l0))) (uY (U6 l0)) (uY (U6 l0)))
   (d8 (R7 rfl (bE (l4 1)) (v9 (i:=6) fP.nd) (d8 (aJ (j7 HW (hr.mono (by decide)) (x5 (l4 0) (x5 (C2 (B8 rfl) (i5 3) (Ev.bw (Bq xK (Ev.bw i4)))) (x5 (l4 6) n8))) (w6 (w6 (w6 n5)))) (D7 (n:=3) rfl (f7 (v9 (i:=7) fP.nd) (f7 (v9 (i:=8) fP.nd) (f7 (v9 (i:=9) fP.nd) A8)))))
   (d8 (Y8 3 rfl (l4 7))
   (d8 (Y8 4 rfl (l4 8))
   (j9 (Y8 5 rfl (n6 (O7 rfl) T.len O9 (j6 (i5 9) l9))))))))
   (j9 (z8 (C9 (d9 (D4 (J4 rfl) T.tuple J9 (j6 (i5 3) l9)) (d9 (D4 (J4 rfl) T.tuple J9 (j6 (i5 4) l9)) (d9 (D4 (J4 rfl) T.tuple J9 (j6 (i5 5) l9)) l0))))))))⟩
def O0:FnScope ["course","waited","gone_at","word","beat","waits"] ["course","waited","gone_at"] (defScope GV):={}
abbrev eU:=G1
def IJ {f:PU}{fd:Qb}(Fn:Fun K "after_beat" "after_beat" GV f fd)(T:Txt K mg) :FnOk P w K mg base CX0 1 f fd ["course","waited","gone_at"] (spD K 3 eU):=by
 refine K3 Fn O0 λQB A outer s H E hr=>?_
 exact⟨_,(d8 (aJ (l4 0) (D7 (n:=3) rfl (f7 (v9 (i:=3) O0.nd) (f7 (v9 (i:=4) O0.nd) (f7 (v9 (i:=5) O0.nd) A8)))))
   (d8 (lh 5 O0.nd (mZ (iu (i5 1)) i4 i4))
   (d8 (Q8 (C3 vP (i5 2) (Ev.bw bj)) (j9 (z8 (C9 (d9 (l4 3) (d9 (l4 4) (d9 (l4 5) l0)))))) M4)
   (j9 (z8 (C9 (d9 fK (d9 (l4 4) (d9 (l4 2) (d9 (l4 5) l0))))))))))⟩
def v8:FnScope ["house","way","told","stand","inside","at","beat","filled","lost","entered","staying","hands_on","gone","place","number"] ["house","way"] (defScope GK):={}
abbrev ae:=bS
def JB {f:PU}{fd:Qb}(Fn:Fun K "courses" "courses" GK f fd)(T:Txt K mg)(GS:d0 P w K mg base "let_in" 1 ["house","stand","beat"] (spD K 3 jx))(GT:d0 P w K mg base "worked" 3 ["house","stand"] (spD K 2 iL))(GY:d0 P w K mg base "after_beat" 1 ["course","waited","gone_at"] (spD K 3 eU)):FnOk P w K mg base CX0 4 f fd ["house","way"] (spD K 2 ae):=by
 refine K3 Fn v8 λQB A outer s H E hr=>?_
 have hu5:(A.deeper (PyProof.Rows.envOfC "courses" (defScope GK) s.heap.objs.size f QB)).units+65<Qu:=by have:=hr.un;omega
 exact⟨_,(d8 (da 2 v8.nd (U6 l0))
   (d8 (wU 3 4 rfl rfl v8.nd (FY (P8 (.tuple []) rfl)) (uY (U6 l0)))
   (d8 (R7 rfl (sr (l4 1) T.enumerate) (D7 (n:=2) rfl (f7 (v9 (i:=5) v8.nd) (f7 (v9 (i:=6) v8.nd) A8))) (d8 (aJ (j7 GS (hr.mono (by decide)) (x5 (l4 0) (x5 (l4 3) (x5 (l4 6) n8))) (w6 (w6 (w6 n5)))) (D7 (n:=2) rfl (f7 (v9 (i:=7) v8.nd) (f7 (v9 (i:=8) v8.nd) A8))))
   (d8 (x6 9 v8.nd (B7 cX (Ev.bw (n6 (O7 rfl) T.len O9 (j6 (i5 6) l9))) (i5 8)))
   (d8 (sH 4 v8.nd (Ev.bw (vY (d9 (n6 (O7 rfl) T.len O9 (j6 (i5 2) l9)) (d9 (B7 (E8 rfl) (Ev.bw (n6 (O7 rfl) T.len O9 (j6 (i5 2) l9))) (i5 9)) l0)) rfl T.range T.list kY)))
   (d8 (sH 2 v8.nd (Ev.bw (B7 (E8 rfl) (Ev.bw (B7 (aA rfl) (Ev.bw (pD (d9 (C9 (d9 fK (d9 (l4 5) (d9 i4 l0)))) l0))) (i5 9))) (Ev.bw (B7 (aA rfl) (Ev.bw (pD (d9 (C9 (d9 fK (d9 (l4 5) l0))) l0))) (i5 8))))))
   (d8 (aJ (j7 GT (hr.mono (by decide)) (x5 (l4 0) (x5 (l4 7) n8)) (w6 (w6 n5))) (D7 (n:=3) rfl (f7 (v9 (i:=10) v8.nd) (f7 (v9 (i:=11) v8.nd) (f7 (v9 (i:=12) v8.nd) A8)))))
   (d8 (yi 4 (R7 rfl (sr (l4 4) T.enumerate) (D7 (n:=2) rfl (f7 (v9 (i:=13) v8.nd) (f7 (v9 (i:=14) v8.nd) A8))) (j9 (BP 2 (j7 GY (hr.mono (by decide)) (x5 (C2 (B8 rfl) (i5 2) (i5 14)) (x5 (dz (nQ rfl hu5) (i5 13) (i5 11)) (x5 (mZ (C3 (aV rfl hu5) (i5 13) (i5 12)) (B7 (E8 rfl) (i5 5) (Ev.bw i4)) bj) n8))) (w6 (w6 (w6 n5)))) (l4 14)))))
   (d8 (da 4 v8.nd (Eh (osc:=(defScope GK)) (N:=["place","person","inside"]) (k:=2) (cap:=[4]) rfl rfl ⟨rfl,by decide +kernel,by decide +kernel,by decide +kernel,rfl,rfl,by decide +kernel⟩ (T1 (i5 10)) (λcl C ex Qz s H=>(D7 (n:=2) rfl (f7 (v9 (i:=0) (show List.Nodup (["place","person","inside"]:List Str) by decide +kernel)) (f7 (v9 (i:=1) (show List.Nodup (["place","person","inside"]:List Str) by decide +kernel)) A8)))) (λcl C ex Qz s H=>O4) (λcl C ex Qz s H=>(C2 (B8 rfl) (i5 2) (i5 0)))))
   (j9 (x6 3 v8.nd (D4 (J4 rfl) T.tuple J9 (j6 (Ev.bw (fZ (osc:=(defScope GK)) (N:=["place","person"]) (k:=2) (cap:=[]) rfl rfl ⟨rfl,by decide +kernel,by decide +kernel,by decide +kernel,rfl,rfl,by decide +kernel⟩ (T1 (i5 10)) (λcl C ex Qz s H=>(D7 (n:=2) rfl (f7 (v9 (i:=0) (show List.Nodup (["place","person"]:List Str) by decide +kernel)) (f7 (v9 (i:=1) (show List.Nodup (["place","person"]:List Str) by decide +kernel)) A8)))) (λcl C ex Qz s H=>O4) (λcl C ex Qz s H=>(l4 1)))) l9))))))))))))
   (j9 (sO 2)))))⟩
def X1:FnScope ["house","way","stand","voids"] ["house","way"] (defScope HV):={}
abbrev u8:=bX
def JC {f:PU}{fd:Qb}(Fn:Fun K "drained" "drained" HV f fd)(T:Txt K mg)(IM:d0 P w K mg base "run" 5 ["house","way","stand"] (spD K 3 jU))(HW:d0 P w K mg base "step" 4 ["house","stand","beat"] (spD K 3 qh)):FnOk P w K mg base CX0 6 f fd ["house","way"] (spD K 2 u8):=by
 refine K3 Fn X1 λQB A outer s H E hr=>?_
 exact⟨_,(d8 (x6 2 X1.nd (C2 (B8 rfl) (Ev.bw (C2 (B8 rfl) (Ev.bw (j7 IM (hr.mono (by decide)) (x5 (l4 0) (x5 (l4 1) (x5 (P8 (.tuple []) rfl) n8))) (w6 (w6 (w6 n5))))) (Ev.bw i4))) (Ev.bw (Bq xK (Ev.bw i4)))))
   (d8 (x6 3 X1.nd i4)
   (d8 (xb (C3 Bf (Ev.bw (n6 (O7 rfl) T.len O9 (j6 (i5 2) l9))) (Ev.bw i4)) (d8 (x6 2 X1.nd (C2 (B8 rfl) (Ev.bw (j7 HW (hr.mono (by decide)) (x5 (l4 0) (x5 (l4 2) (x5 (P8 (.tuple []) rfl) n8))) (w6 (w6 (w6 n5))))) (Ev.bw i4)))
   (j9 (lh 3 X1.nd i4))))
   (j9 (z8 (B7 (E8 rfl) (i5 1) (Ev.bw (B7 (aA rfl) (Ev.bw (P8 (.tuple [.tuple []]) rfl)) (i5 3)))))))))⟩
def qA:FnScope ["way"] ["way"] (defScope Hu):={}
def fH:List DV->M My:=U2 ["way"] (mRt (sN xZ (c7 (sLC (R5 (sW 0)) 1 [] (bN 0) Z3 (sN X3 (c7 (sW 0) i7))) i7)))
def JD {f:PU}{fd:Qb}(Fn:Fun K "many_in" "many_in" Hu f fd)(T:Txt K mg) :FnOk P w K mg base CX0 1 f fd ["way"] (spD K 1 fH):=by
 refine K3 Fn qA λQB A outer s H E hr=>?_
 exact⟨_,(j9 (z8 (n6 (za rfl rfl) T.sum Dm (j6 (Ev.bw (fZ (osc:=(defScope Hu)) (N:=["beat"]) (k:=1) (cap:=[]) rfl rfl ⟨rfl,by decide +kernel,by decide +kernel,by decide +kernel,rfl,rfl,by decide +kernel⟩ (T1 (i5 0)) (λcl C ex Qz s H=>(v9 (i:=0) (show List.Nodup (["beat"]:List Str) by decide +kernel))) (λcl C ex Qz s H=>O4) (λcl C ex Qz s H=>(n6 (O7 rfl) T.len O9 (j6 (i5 0) l9))))) l9))))⟩
def T9:FnScope ["way","rows","number","beat"] ["way"] (defScope GW):={}
def aO:List DV->M My:=U2 ["way","rows","number","beat"] (mSq (gB 1 (cY i7))
  (mSq (C5 2 (sC (.int 0)))
  (mSq (aS (R5 (sV 0)) (bN 3) (mSq (cn 1 (sLC (cN (sW 3)) 2 [2] (L6 2 (i9 (bN 0) (i9 (bN 1) M1))) Z3 (P2 (c7 (sV 1) (c7 (s2 M5 (sW 2) (sW 0)) i7)))))
  (oa (λi j=>i+j) 2 (sN X3 (c7 (sW 3) i7)))))
  (mRt (sW 1)))))
def Jm {f:PU}{fd:Qb}(Fn:Fun K "numbered" "numbered" GW f fd)(T:Txt K mg) :FnOk P w K mg base CX0 1 f fd ["way"] (spD K 1 aO):=by
 refine K3 Fn T9 λQB A outer s H E hr=>?_
 exact⟨_,(d8 (da 1 T9.nd (U6 l0))
   (d8 (x6 2 T9.nd i4)
   (d8 (R7 rfl (bE (l4 0)) (v9 (i:=3) T9.nd) (d8 (Y8 1 rfl (fZ (osc:=(defScope GW)) (N:=["place","comer","number"]) (k:=2) (cap:=[2]) rfl rfl ⟨rfl,by decide +kernel,by decide +kernel,by decide +kernel,rfl,rfl,by decide +kernel⟩ (nD (i5 3) T.enumerate) (λcl C ex Qz s H=>(D7 (n:=2) rfl (f7 (v9 (i:=0) (show List.Nodup (["place","comer","number"]:List Str) by decide +kernel)) (f7 (v9 (i:=1) (show List.Nodup (["place","comer","number"]:List Str) by decide +kernel)) A8)))) (λcl C ex Qz s H=>O4) (λcl C ex Qz s H=>(C9 (d9 (l4 1) (d9 (B7 (E8 rfl) (i5 2) (i5 0)) l0))))))
   (j9 (lh 2 T9.nd (n6 (O7 rfl) T.len O9 (j6 (i5 3) l9))))))
   (j9 (sO 1)))))⟩
def gu:FnScope ["rows","way"] ["rows"] (defScope GM):={}
def aM:List DV->M My:=U2 ["rows","way"] (mSq (C5 1 (sN K0 (c7 (sLC (R5 (sW 0)) 1 [] (bN 0) Z3 (sN K0 (c7 (sLC (R5 (sW 0)) 2 [] (L6 2 (i9 (bN 0) (i9 (bN 1) M1))) Z3 (sV 0)) i7))) i7)))
  (mRt (P2 (c7 (sV 1) (c7 (sN K0 (c7 (BE (R5 (sW 0)) 3 [] (bN 0) Z3 (R5 (sV 0)) (L6 2 (i9 (bN 1) (i9 (bN 2) M1))) Z3 (sV 2)) i7)) i7)))))
def Jn {f:PU}{fd:Qb}(Fn:Fun K "told_way" "told_way" GM f fd)(T:Txt K mg) :FnOk P w K mg base CX0 1 f fd ["rows"] (spD K 1 aM):=by
 refine K3 Fn gu λQB A outer s H E hr=>?_
 exact⟨_,(d8 (x6 1 gu.nd (D4 (J4 rfl) T.tuple J9 (j6 (Ev.bw (fZ (osc:=(defScope GM)) (N:=["row"]) (k:=1) (cap:=[]) rfl rfl ⟨rfl,by decide +kernel,by decide +kernel,by decide +kernel,rfl,rfl,by decide +kernel⟩ (T1 (i5 0)) (λcl C ex Qz s H=>(v9 (i:=0) (show List.Nodup (["row"]:List Str) by decide +kernel))) (λcl C ex Qz s H=>O4) (λcl C ex Qz s H=>(D4 (J4 rfl) T.tuple J9 (j6 (Ev.bw (CL (N:=["comer","number"]) (k:=2) (cap:=[]) rfl ⟨rfl,by decide +kernel,by decide +kernel,by decide +kernel,rfl,rfl,by decide +kernel⟩ (T1 (i5 0)) (λcl C ex Qz s H=>(D7 (n:=2) rfl (f7 (v9 (i:=0) (show List.Nodup (["comer","number"]:List Str) by decide +kernel)) (f7 (v9 (i:=1) (show List.Nodup (["comer","number"]:List Str) by decide +kernel)) A8)))) (λcl C ex Qz s H=>O4) (λcl C ex Qz s H=>(l4 0)))) l9))))) l9)))
   (j9 (z8 (C9 (d9 (l4 1) (d9 (D4 (J4 rfl) T.tuple J9 (j6 (Ev.bw (CZ (osc:=(defScope GM)) (N:=["row","comer","number"]) (k:=3) (cap:=[]) rfl rfl ⟨rfl,by decide +kernel,by decide +kernel,by decide +kernel,rfl,rfl,by decide +kernel⟩ (T1 (i5 0)) (λcl C ex Qz s H=>(v9 (i:=0) (show List.Nodup (["row","comer","number"]:List Str) by decide +kernel))) (λcl C ex Qz s H=>O4) (λcl C ex Qz s H=>(bE (l4 0))) (λcl C ex Qz s H=>(D7 (n:=2) rfl (f7 (v9 (i:=1) (show List.Nodup (["row","comer","number"]:List Str) by decide +kernel)) (f7 (v9 (i:=2) (show List.Nodup (["row","comer","number"]:List Str) by decide +kernel)) A8)))) (λcl C ex Qz s H=>O4) (λcl C ex Qz s H=>(l4 2)))) l9)) l0))))))⟩
def jH:FnScope ["way","number"] ["way","number"] (defScope GP):={}
def S9:List DV->M My:=U2 ["way","number"] (mIf (uU (uB (sCh leD ltD (sC (.int 0)) (sW 1) (t8 fH (vD (sV 0) B9))))) Bj mNx)
def Iw {f:PU}{fd:Qb}(Fn:Fun K "check_comer" "check_comer" GP f fd)(T:Txt K mg)(HX:d0 P w K mg base "many_in" 1 ["way"] (spD K 1 fH)):FnOk P w K mg base CX0 2 f fd ["way","number"] (spD K 2 S9):=by
 refine K3 Fn jH λQB A outer s H E hr=>?_
 exact⟨_,(j9 (Q8 (qp (we EN rl (Ev.bw i4) (i5 1) (Ev.bw (j7 HX (hr.mono (by decide)) (x5 (l4 0) n8) (w6 n5))))) (j9 zr) M4))⟩
def fG:FnScope ["way","number","more","rows","row"] ["way","number","more"] (defScope HP):={}
def bH:List DV->M My:=U2 ["way","number","more","rows","row"] (mSq (mDo (t8 S9 (vD (sV 0) (vD (sV 1) B9))))
  (mSq (gB 3 (cY i7))
  (mSq (aS (R5 (t8 aO (vD (sV 0) B9))) (bN 4) (cn 3 (sLC (R5 (sW 4)) 3 [1,2] (L6 2 (i9 (L6 2 (i9 (bN 0) (i9 (bN 1) M1))) (i9 (bN 2) M1))) Z3 (P2 (c7 (P2 (c7 (sV 0) (c7 (sIf (uB (s2 (eqD false) (sW 2) (sW 3))) (s2 M5 (sW 1) (sW 4)) (sV 1)) i7))) (c7 (sV 2) i7))))))
  (nO 3 (mRt (t8 aM (vD (sV 3) B9)))))))
def JW {f:PU}{fd:Qb}(Fn:Fun K "longer" "longer" HP f fd)(T:Txt K mg)(GQ:d0 P w K mg base "check_comer" 2 ["way","number"] (spD K 2 S9))(HB:d0 P w K mg base "numbered" 1 ["way"] (spD K 1 aO))(HC:d0 P w K mg base "told_way" 1 ["rows"] (spD K 1 aM)):FnOk P w K mg base CX0 3 f fd ["way","number","more"] (spD K 3 bH):=by
 refine K3 Fn fG λQB A outer s H E hr=>?_
 exact⟨_,(d8 (DO (j7 GQ (hr.mono (by decide)) (x5 (l4 0) (x5 (l4 1) n8)) (w6 (w6 n5))))
   (d8 (da 3 fG.nd (U6 l0))
   (d8 (R7 rfl (bE (j7 HB (hr.mono (by decide)) (x5 (l4 0) n8) (w6 n5))) (v9 (i:=4) fG.nd) (j9 (Y8 3 rfl (fZ (osc:=(defScope HP)) (N:=["rank","work","each","number","more"]) (k:=3) (cap:=[1,2]) rfl rfl ⟨rfl,by decide +kernel,by decide +kernel,by decide +kernel,rfl,rfl,by decide +kernel⟩ (T1 (i5 4)) (λcl C ex Qz s H=>(D7 (n:=2) rfl (f7 (D7 (n:=2) rfl (f7 (v9 (i:=0) (show List.Nodup (["rank","work","each","number","more"]:List Str) by decide +kernel)) (f7 (v9 (i:=1) (show List.Nodup (["rank","work","each","number","more"]:List Str) by decide +kernel)) A8))) (f7 (v9 (i:=2) (show List.Nodup (["rank","work","each","number","more"]:List Str) by decide +kernel)) A8)))) (λcl C ex Qz s H=>O4) (λcl C ex Qz s H=>(C9 (d9 (C9 (d9 (l4 0) (d9 (mZ (C3 (sq rfl hr.units) (i5 2) (i5 3)) (B7 (E8 rfl) (i5 1) (i5 4)) (l4 1)) l0))) (d9 (l4 2) l0))))))))
   (j9 (yi 3 (z8 (j7 HC (hr.mono (by decide)) (x5 (l4 3) n8) (w6 n5))))))))⟩
def mB (K:PySem.W.Frag):Sp:=λvs H Q _=>∃(a:PU) (ns:List Int),vs=[.ref a]/\SqL K H a (ns.map V.int)/\ns.length<=63 /\
 ∀(d c:PU) (H':Hp),Feeds.At d c H' (iG ns)->h8 H H'->Q (.ref d) H'
def Er {ns:List Int}(h:ns.length<=63):fS (ns.map V.int) none (some 63)=ns.map V.int:=by unfold fS;have e:HT.sIx (ns.map V.int).length (ns.map V.int).length (some 63)=min 63 (ns.map V.int).length:=HT.sIx_nat _ _ 63;rw[e,HT.sIx_none,List.drop_zero,Nat.sub_zero,Mj (by rw[Lf];omega)]
def mz:FnScope ["_law_script"] ["_law_script"] (defScope Hh):={}
def IX {f:PU}{fd:Qb}(F:Fun K "_law_feed" "_law_feed" Hh f fd)(T:Txt K mg):FnOk P w K mg base CX0 1 f fd ["_law_script"] (mB K):=by
 refine F.ok mz (λvs H Q E h=>?_) (λQB A outer s H vs Q E hr h=>?_)
 .obtain⟨a,ns,rfl,_⟩:=h;rfl
 .obtain⟨a,ns,rfl,hS,hl,k⟩:=h;refine⟨_,G9 (aR (Q7 (l7 (cc mG rfl T.list kY (l7 (oW sx (pv 0) rX (mN k8)) u9)) (l7 k8 (l7 k8 u9))))),?_⟩;refine⟨_,rfl,63,rfl,a,_,rfl,hS,λq0 hq0=>?_⟩;rw[Er hl];refine⟨q0,_,rfl,.inl (SqL.of d7),λq hq=>⟨MI (V3 (by show 3<=1000;decide)),λp hp=>?_⟩⟩;have s0:h8 H (upd H q0 (.lst (ns.map V.int))):=h8.upd hq0;have nqp:q≠p:=i3 d7 hp;refine k p q _ ⟨d7,by rw[b9 nqp];exact d7,hl,(by show(0:Int)<=0;decide),(by show(0:Int)<=0;decide),LZ nqp⟩ λb o e=>?_
  have e1:upd (upd H q0 (.lst (ns.map V.int))) q (.lst (ns.map V.int)) b=some o:=by rw[b9 (i3 (s0 b o e) hq)];exact s0 b o e
  rw[b9 (i3 e1 hp)];exact e1
def Q6:FnScope ["_law_feed_here","_law_many","_law_digit","_law_at","_law_cell","_law_first"] ["_law_feed_here","_law_many"] (defScope Hi):={}
def IZ {f:PU}{fd:Qb}(Fn:Fun K "_law_next" "_law_next" Hi f fd)(T:Txt K mg):FnOk P w K mg base CX0 1 f fd ["_law_feed_here","_law_many"] (spD K 2 C6):=by
 refine Fn.ok Q6 (λvs H Q E h=>?_) (λQB A outer s H vs Q E hr h=>?_)
 .obtain⟨G,B,F,args,d,F',hl,_⟩:=h;exact hl
 .obtain⟨G,B,F,args,dd,F',hl,fB,bk,fa,ha,hm0,q⟩:=h;obtain⟨m,rfl⟩:∃m,args=[.feed,.dat (.int m)]:=by
   unfold C6 at hm0;split at hm0
   .exact⟨_,rfl⟩
   .cases hm0
  obtain⟨v,r,rfl,_,⟨d,c,rfl,rfl⟩,v2,r2,rfl,_,hv2,rfl⟩:=ha;have hv2:v2 = .int m:=by simpa only[DVr,b8] using hv2
  subst hv2;obtain⟨⟨r0,F1⟩,e1,e2⟩:=bS9 hm0;cases e2;replace e1:gm m F=some (r0,F1):=e1;have hcond:0<m/\m<1073741824/\F.t<199999:=by
   unfold gm at e1;split at e1
   .assumption
   .cases e1
  obtain⟨hm,hm2,htl⟩:=hcond;obtain⟨ns,a,l,t⟩:=F;obtain⟨⟨hd,hc,hl63,ha0,ht0,ndc⟩,tbo⟩:=fa;simp only at hd hc hl63 ha0 ht0 htl;have k:∀(r:Int) (H':Hp) (F2:FdS),gm m ⟨ns,a,l,t⟩=some (r,F2)->Feeds.At d c H' F2->(∀b o,H b=some o->b≠d->H' b=some o)->Q (.int r) H':=λr H' F2 er fa' kp=>by rw[er]at e1;cases e1;exact q _ H' (λb o e nb=>kp b o e λz=>nb (by simp[u4,z])) ⟨fa',tbo.but hd ⟨λ_ z=>(by cases z),λ_ z=>(by cases z)⟩ kp⟩ b8.int
  have hdr:gm m ⟨ns,a,l,t⟩=some (if 0<l then(l % m,⟨ns,a,l / m,t+1⟩) else if 10 ^ 18<=(FdS.cellL ⟨ns,a,l,t⟩)/\a<ns.length then((FdS.cellL ⟨ns,a,l,t⟩) % m,⟨ns,a+1,(FdS.cellL ⟨ns,a,l,t⟩) / m,t+1⟩) else((FdS.mixN ⟨ns,a,l,t⟩) % m,⟨ns,a+1,l,t+1⟩)):=by unfold gm;rw[Lg ⟨hm,hm2,htl⟩]
  have ncd:c≠d:=LZ ndc;refine⟨_,r8 (jI (T3 AZ (P7 F0 (pv 0) k8 (λ_ _=>rfl)) k8 (Z9 _))
    (r8 (O8 (i:=2) Q6.nd rfl (Or.inl rfl) (D8 bJ (P7 F0 (pv 0) k8 (λ_ _=>rfl)) (pv 1)))
     (r8 (U5 (D8 md (P7 F0 (pv 0) k8 (λ_ _=>rfl)) (pv 1)) (aN (pv 0) k8 Q1 (λ_=>rfl))) (G9 (aR (pv 2))))) gN)
   (r8 (O8 (i:=3) Q6.nd rfl (Or.inl rfl) (P7 F0 (pv 0) k8 (λ_ _=>rfl)))
   (r8 (U5 (D8 aC (pv 3) k8) (aN (pv 0) k8 Q1 (λ_=>rfl)))
   (r8 (O8 (i:=4) Q6.nd rfl (Or.inl rfl) (nj (T3 (iz (NZ (Nat.le_add_right _ 64) hr.units)) (P7 F0 (pv 0) k8 (λ_ _=>rfl)) (Q7 u9) (Z9 _))
    (P7 F0 (P7 F0 (pv 0) k8 (λ_ _=>rfl)) (D8 bJ (pv 3) (ar N2 (by rfl) T.len OH (l7 (P7 F0 (pv 0) k8 (λ_ _=>rfl)) u9))) (λ_ _=>rfl)) k8))
   (r8 (jI (PW.pt (qV (T3 Bw (pv 4) (D8 wX k8 k8) (Z9 _)) (kW (T3 Ba (pv 3) (ar N2 (by rfl) T.len OH (l7 (P7 F0 (pv 0) k8 (λ_ _=>rfl)) u9)) (Z9 _)))))
    (r8 (U5 (D8 md (pv 4) (pv 1)) (aN (pv 0) k8 Q1 (λ_=>rfl))) (G9 (aR (D8 bJ (pv 4) (pv 1))))) gN)
   (r8 (O8 (i:=5) Q6.nd rfl (Or.inl rfl) (D8 bJ (D8 dI (D8 aC (D8 aC (D8 aC (D8 bJ (pv 4) k8) (D8 dI (D8 dI k8 (pv 3)) (pv 3))) (D8 dI k8 (pv 3))) k8) k8) k8))
   (G9 (aR (D8 bJ (D8 md (D8 bJ (D8 dI (D8 bJ (D8 aC (D8 aC (D8 dI (pv 5) (pv 5)) (D8 dI k8 (pv 3))) k8) k8) k8) k8) k8) (pv 1))))))))),?_⟩
  refine⟨_,rfl,d,_,_,_,rfl,rfl,SqL.of hd,rfl,_,_,rfl,rfl,_,rfl,?_⟩;refine ni (λhleft=>?_) (λhleft=>?_)
  .have hleft:0<l:=Mc hleft;refine⟨_,rfl,d,_,_,_,rfl,rfl,SqL.of hd,rfl,_,rfl,_,_,rfl,rfl,hm,?_⟩;refine⟨_,rfl,d,_,_,_,rfl,rfl,SqL.of hd,rfl,_,rfl,_,_,rfl,rfl,⟨hm,hm2⟩,_,rfl,d,_,_,2,rfl,rfl,hd,rfl,_,rfl,?_⟩;exact k _ _ ⟨ns,a,l / m,t+1⟩ (by rw[hdr,Lg hleft]) ⟨d7,by rw[b9 ncd];exact hc,hl63,ha0,by simp only;omega,ndc⟩ (λb o e hb=>by rw[b9 hb];exact e)
  .have hleft:¬0<l:=λz=>hleft (MX z)
   refine⟨_,rfl,d,_,_,_,rfl,rfl,SqL.of hd,rfl,?_⟩;refine⟨_,rfl,_,_,rfl,rfl,_,rfl,d,_,_,1,rfl,rfl,hd,rfl,?_⟩;have hd1:(upd H d (.lst [.ref c,.int (a+1),.int l])) d=some (.lst [.ref c,.int (a+1),.int l]):=d7;have hc1:(upd H d (.lst [.ref c,.int (a+1),.int l])) c=some (.lst (ns.map V.int)):=by rw[b9 ncd];exact hc
   have kp1:∀b o,H b=some o->b≠d->(upd H d (.lst [.ref c,.int (a+1),.int l])) b=some o:=λb o e hb=>by rw[b9 hb];exact e
   show U3 _ _ _ _ (upd H d (.lst [.ref c,.int (a+1),.int l]));generalize upd H d (.lst [.ref c,.int (a+1),.int l])=H1 at hd1 hc1 kp1;refine⟨_,rfl,d,_,_,_,rfl,rfl,SqL.of hd1,rfl,?_⟩;refine⟨MI (V3 (by show 0<=1000;decide)),λp hp=>?_⟩;replace kp1:∀b o,H b=some o->b≠d->(upd H1 p (.lst [])) b=some o:=λb o e hb=>by rw[b9 (i3 (kp1 b o e hb) hp)];exact kp1 b o e hb
   replace hd1:(upd H1 p (.lst [])) d=some (.lst [.ref c,.int (a+1),.int l]):=by rw[b9 (i3 hd1 hp)];exact hd1
   replace hc1:(upd H1 p (.lst [])) c=some (.lst (ns.map V.int)):=by rw[b9 (i3 hc1 hp)];exact hc1
   have hpp:(upd H1 p (.lst [])) p=some (.lst []):=d7;generalize upd H1 p (.lst [])=H1 at hd1 hc1 kp1 hpp;refine⟨c,p,_,rfl,rfl,SqL.of hc1,SqL.of hpp,_,rfl,?_⟩;have big:10 ^ 18<=(FdS.cellL ⟨ns,a,l,t⟩)/\a<ns.length->Q (.int (FdS.cellL ⟨ns,a,l,t⟩ % m)) (upd H1 d (.lst [.ref c,.int (a+1),.int (FdS.cellL ⟨ns,a,l,t⟩ / m)])):=λhb =>
    k _ _ ⟨ns,a+1,FdS.cellL ⟨ns,a,l,t⟩ / m,t+1⟩ (by rw[hdr,Lk hleft,Lg hb]) ⟨d7,by rw[b9 ncd];exact hc1,hl63,by simp only;omega,by simp only;omega,ndc⟩ (λb o e hb=>by rw[b9 hb];exact kp1 b o e hb)
   have small:¬(10 ^ 18<=(FdS.cellL ⟨ns,a,l,t⟩)/\a<ns.length)->Q (.int (FdS.mixN ⟨ns,a,l,t⟩ % m)) H1:=λhb =>
    k _ _ ⟨ns,a+1,l,t+1⟩ (by rw[hdr,Lk hleft,Lk hb]) ⟨hd1,hc1,hl63,by simp only;omega,by simp only;omega,ndc⟩ kp1
   unfold FdS.mixN FdS.fstN at small;simp only at small;refine ni (λhne=>?_) (λhe=>?_)
   .have h0:¬ns=[]:=by intro e;rw[e]at hne;simp at hne
    have hne:(0:Int)<ns.length:=by have:=Ph.2 h0;omega
    refine⟨_,rfl,d,_,_,_,rfl,rfl,SqL.of hd1,rfl,_,rfl,_,rfl,d,_,_,_,rfl,rfl,SqL.of hd1,rfl,c,_,rfl,.inl (SqL.of hc1),_,_,rfl,rfl,(by rw[Lf];exact hne),c,_,_,_,rfl,rfl,SqL.of hc1,xX (F:=⟨ns,a,l,t⟩) h0,?_⟩;generalize FdS.cellL ⟨ns,a,l,t⟩=z at big small;obtain⟨q1,q2⟩:=qP (x:=(z % 1000003+37*a*a+13*a+5)*48271) (m:=999983) (by decide);have tl:¬(10 ^ 18<=(z:Int)/\a<ns.length)->Q (.int (((z % 1000003+37*a*a+13*a+5)*48271 % 999983*((z % 1000003+37*a*a+13*a+5)*48271 % 999983)+7919*a+11) % 2097143*69621 % 2147483629 / 7 % m)) H1:=small;refine⟨_,rfl,_,_,rfl,rfl,⟨by decide,by decide,by decide⟩,_,_,rfl,rfl,_,rfl,?_⟩;refine ni (λhb1=>⟨_,rfl,_,rfl,d,_,_,_,rfl,rfl,SqL.of hd1,rfl,c,_,rfl,.inl (SqL.of hc1),_,_,rfl,rfl,_,rfl,ni (λhb2=>?_) (λhb2=>?_)⟩) (λhb1=>wM ?_)
    .have hb1:=Mc hb1;have hb2:=Mc hb2;rw[Lf]at hb2;exact⟨_,rfl,_,rfl,_,_,rfl,rfl,⟨hm,hm2⟩,_,rfl,d,_,_,2,rfl,rfl,hd1,rfl,_,rfl,_,rfl,_,_,rfl,rfl,hm,big ⟨hb1,hb2⟩⟩
    walk_at "kc"
   .have h0:ns=[]:=by
     cases ns with
     | nil=>rfl
     | cons x y=>exact absurd rfl he
    have hcell:FdS.cellL ⟨ns,a,l,t⟩=0:=by unfold FdS.cellL;rw[Lg h0]
    rw[hcell]at big small;obtain⟨q1,q2⟩:=qP (x:=((0:Int) % 1000003+37*a*a+13*a+5)*48271) (m:=999983) (by decide);have tl:¬(10 ^ 18<=((0:Int):Int)/\a<ns.length)->Q (.int ((((0:Int) % 1000003+37*a*a+13*a+5)*48271 % 999983*(((0:Int) % 1000003+37*a*a+13*a+5)*48271 % 999983)+7919*a+11) % 2097143*69621 % 2147483629 / 7 % m)) H1:=small;refine⟨_,rfl,_,_,rfl,rfl,⟨by decide,by decide,by decide⟩,_,_,rfl,rfl,_,rfl,?_⟩;refine ni (λhb1=>⟨_,rfl,_,rfl,d,_,_,_,rfl,rfl,SqL.of hd1,rfl,c,_,rfl,.inl (SqL.of hc1),_,_,rfl,rfl,_,rfl,ni (λhb2=>?_) (λhb2=>?_)⟩) (λhb1=>wM ?_)
    .have hb1:=Mc hb1;have hb2:=Mc hb2;rw[Lf]at hb2;exact⟨_,rfl,_,rfl,_,_,rfl,rfl,⟨hm,hm2⟩,_,rfl,d,_,_,2,rfl,rfl,hd1,rfl,_,rfl,_,rfl,_,_,rfl,rfl,hm,big ⟨hb1,hb2⟩⟩
    walk_at "kc"
def la:FnScope ["_law_feed_here"] ["_law_feed_here"] (defScope Hj):={}
abbrev T6:=bM
def Ja {f:PU}{fd:Qb}(Fn:Fun K "_law_rule" "_law_rule" Hj f fd)(T:Txt K mg)(Gp:d0 P w K mg base "_law_next" 1 ["_law_feed_here","_law_many"] (spD K 2 C6)):FnOk P w K mg base CX0 2 f fd ["_law_feed_here"] (spD K 1 T6):=by
 refine K3 Fn la λQB A outer s H E hr=>?_
 exact⟨_,(j9 (z8 (C2 (B8 rfl) (Ev.bw (P8 (.list [.str "first",.str "last",.str "short",.str "front",.str "lastoff",.str "shortoff",.str "frontoff",.str "turns"]) rfl)) (Ev.bw (j7 Gp (hr.mono (by decide)) (Z4 0 (x5 i4 n8)) (Y9 (w6 n5)))))))⟩
def cx:FnScope ["_law_feed_here","_law_places"] ["_law_feed_here"] (defScope GX):={}
abbrev w4:=cf
def IK {f:PU}{fd:Qb}(Fn:Fun K "_law_house" "_law_house" GX f fd)(T:Txt K mg)(Gp:d0 P w K mg base "_law_next" 1 ["_law_feed_here","_law_many"] (spD K 2 C6))(Gz:d0 P w K mg base "_law_rule" 2 ["_law_feed_here"] (spD K 1 T6)):FnOk P w K mg base CX0 3 f fd ["_law_feed_here"] (spD K 1 w4):=by
 refine K3 Fn cx λQB A outer s H E hr=>?_
 exact⟨_,(d8 (x6 1 cx.nd (C2 (B8 rfl) (Ev.bw (P8 (.list [.none,.none,.none,.int 0,.int 1,.int 2,.int 3,.int 4,.int 5,.int 6]) rfl)) (Ev.bw (j7 Gp (hr.mono (by decide)) (Z4 0 (x5 i4 n8)) (Y9 (w6 n5))))))
   (j9 (z8 (C9 (d9 (B7 (E8 rfl) (Ev.bw i4) (Ev.bw (j7 Gp (hr.mono (by decide)) (Z4 0 (x5 i4 n8)) (Y9 (w6 n5))))) (d9 (l4 1) (d9 (j7 Gz (hr.mono (by decide)) (Z4 0 n8) (Y9 n5)) l0)))))))⟩
def M8:FnScope ["_law_feed_here","_law_beats","_law_works","_law_way_here","_law_many","_law_k","_law_beat_here","_law_j"] ["_law_feed_here","_law_beats","_law_works"] (defScope Hw):={}
abbrev jm:=lJ ["_law_feed_here","_law_beats","_law_works","_law_way_here","_law_many","_law_k","_law_beat_here","_law_j"]
def Jo {f:PU}{fd:Qb}(Fn:Fun K "_law_way" "_law_way" Hw f fd)(T:Txt K mg)(Gp:d0 P w K mg base "_law_next" 1 ["_law_feed_here","_law_many"] (spD K 2 C6)):FnOk P w K mg base CX0 2 f fd ["_law_feed_here","_law_beats","_law_works"] (spD K 3 jm):=by
 refine K3 Fn M8 λQB A outer s H E hr=>?_
 exact⟨_,(d8 (da 3 M8.nd (U6 l0))
   (d8 (x6 4 M8.nd i4)
   (d8 (R7 rfl (bV (d9 (j7 Gp (hr.mono (by decide)) (Z4 0 (x5 (B7 (E8 rfl) (i5 1) (Ev.bw i4)) n8)) (Y9 (w6 n5))) l0) T.range) (v9 (i:=5) M8.nd) (d8 (da 6 M8.nd (U6 l0))
   (d8 (R7 rfl (bV (d9 (C2 (B8 rfl) (Ev.bw (P8 (.list [.int 0,.int 0,.int 1,.int 1,.int 2,.int 3]) rfl)) (Ev.bw (j7 Gp (hr.mono (by decide)) (Z4 0 (x5 i4 n8)) (Y9 (w6 n5))))) l0) T.range) (v9 (i:=7) M8.nd) (j9 (Q8 (C3 rl (i5 4) (Ev.bw i4)) (d8 (Y8 6 rfl (C9 (d9 (j7 Gp (hr.mono (by decide)) (Z4 0 (x5 i4 n8)) (Y9 (w6 n5))) (d9 (B7 (E8 rfl) (Ev.bw i4) (Ev.bw (j7 Gp (hr.mono (by decide)) (Z4 0 (x5 (l4 2) n8)) (Y9 (w6 n5))))) l0))))
   (j9 (x6 4 M8.nd (B7 (E8 rfl) (i5 4) (Ev.bw i4))))) M4)))
   (j9 (Y8 3 rfl (D4 (J4 rfl) T.tuple J9 (j6 (i5 6) l9)))))))
   (j9 (z8 (D4 (J4 rfl) T.tuple J9 (j6 (i5 3) l9)))))))⟩
def Y1:FnScope ["_law_feed_here","_law_beats"] ["_law_feed_here"] (defScope GC):={}
abbrev l5:=eC ["_law_feed_here","_law_beats","_law_works","_law_way_here","_law_many","_law_k","_law_beat_here","_law_j"]
def HQ {f:PU}{fd:Qb}(Fn:Fun K "_law_sized_way" "_law_sized_way" GC f fd)(T:Txt K mg)(Gp:d0 P w K mg base "_law_next" 1 ["_law_feed_here","_law_many"] (spD K 2 C6))(HD:d0 P w K mg base "_law_way" 2 ["_law_feed_here","_law_beats","_law_works"] (spD K 3 jm)):FnOk P w K mg base CX0 3 f fd ["_law_feed_here"] (spD K 1 l5):=by
 refine K3 Fn Y1 λQB A outer s H E hr=>?_
 exact⟨_,(d8 (x6 1 Y1.nd (C2 (B8 rfl) (Ev.bw (P8 (.list [.int 5,.int 9,.int 14,.int 24]) rfl)) (Ev.bw (j7 Gp (hr.mono (by decide)) (Z4 0 (x5 i4 n8)) (Y9 (w6 n5))))))
   (j9 (z8 (j7 HD (hr.mono (by decide)) (Z4 0 (x5 (l4 1) (x5 (C2 (B8 rfl) (Ev.bw (P8 (.list [.int 1,.int 3,.int 6]) rfl)) (Ev.bw (j7 Gp (hr.mono (by decide)) (Z4 0 (x5 i4 n8)) (Y9 (w6 n5))))) n8))) (Y9 (w6 (w6 n5)))))))⟩
def jK:FnScope ["_law_rule_here","_law_one","_law_other"] ["_law_rule_here","_law_one","_law_other"] (defScope GJ):={}
abbrev eQ:=dQ
def IL {f:PU}{fd:Qb}(Fn:Fun K "_law_ahead" "_law_ahead" GJ f fd)(T:Txt K mg) :FnOk P w K mg base CX0 1 f fd ["_law_rule_here","_law_one","_law_other"] (spD K 3 eQ):=by
 refine K3 Fn jK λQB A outer s H E hr=>?_
 have hu5:(A.deeper (PyProof.Rows.envOfC "_law_ahead" (defScope GJ) s.heap.objs.size f QB)).units+65<Qu:=by have:=hr.un;omega
 exact⟨_,(d8 (Q8 (C3 (gj rfl hr.units) (Ev.bw (C2 (B8 rfl) (i5 1) (Ev.bw i4))) (Ev.bw (C2 (B8 rfl) (i5 2) (Ev.bw i4)))) (j9 (z8 (C2 (B8 rfl) (i5 1) (Ev.bw i4)))) M4)
   (d8 (Q8 (C3 (aV rfl hu5) (i5 0) (Ev.bw (P8 (.tuple [.str "last",.str "lastoff"]) rfl))) (j9 (z8 cy)) M4)
   (d8 (Q8 (C3 (aV rfl hu5) (i5 0) (Ev.bw (P8 (.tuple [.str "short",.str "shortoff"]) rfl))) (j9 (z8 (dz rl (Ev.bw (C2 (B8 rfl) (i5 1) (Ev.bw i4))) (Ev.bw (C2 (B8 rfl) (i5 2) (Ev.bw i4)))))) M4)
   (j9 (z8 (BI (dz (aV rfl hu5) (i5 0) (Ev.bw (P8 (.tuple [.str "front",.str "frontoff"]) rfl))) (Dv (dz rl (Ev.bw (C2 (B8 rfl) (i5 1) (Ev.bw i4))) (Ev.bw (C2 (B8 rfl) (i5 2) (Ev.bw i4)))))))))))⟩
section
local instance Kk:Feeds:=K2
def y8:FnScope ["_law_m","_law_hands","_law_places","_law_rule_here","_law_line","_law_found","_law_hand","_law_best","_law_place"] ["_law_m"] (defScope GG):={}
abbrev cH:=LM.HU
def Iy {f:PU}{fd:Qb}(Fn:Fun K "_law_picked" "_law_picked" GG f fd)(T:Txt K mg)(GA:d0 P w K mg base "_law_ahead" 1 ["_law_rule_here","_law_one","_law_other"] (@spD fdI K 3 eQ)):FnOk P w K mg base CX0 2 f fd ["_law_m"] (spM K 1 cH):=by
 refine kU Fn y8 (by decide) λQB A outer s H E hr=>?_
 have hu5:(A.deeper (PyProof.Rows.envOfC "_law_picked" (defScope GG) s.heap.objs.size f QB)).units+65<Qu:=by have:=hr.un;omega
 have GA:=ub (show Regs.lam=Fam.lam from rfl) GA;exact⟨_,(S7 (BU (Am (oU hu5)) (D7 (n:=3) rfl (f7 (v9 (i:=1) y8.nd) (f7 (v9 (i:=2) y8.nd) (f7 (v9 (i:=3) y8.nd) A8)))) (kx (W2 (aD (by decide)) (W2 (aD (by decide)) (W2 (aD (by decide)) kM))))) (uE 4 hu5 y8.nd (rY (da 5 y8.nd (U6 l0))
   (rY (R7 rfl (bV (d9 (n6 (Cw rfl rfl) T.min Dn (j6 (i5 1) (j6 (Ev.bw (n6 (O7 rfl) T.len O9 (j6 (i5 4) l9))) l9))) l0) T.range) (v9 (i:=6) y8.nd) (d8 (x6 7 y8.nd bj)
   (d8 (R7 rfl (bV (d9 (n6 (O7 rfl) T.len O9 (j6 (i5 4) l9)) l0) T.range) (v9 (i:=8) y8.nd) (d8 (Q8 (C3 (aV rfl hu5) (i5 8) (i5 5)) (j9 yz) M4)
   (j9 (Q8 (Ew.t (sL (C3 vP (i5 7) (Ev.bw bj)) (lz (iu (Ev.bw (j7 GA (hr.mono (by decide)) (x5 (l4 3) (x5 (C2 (B8 rfl) (i5 4) (i5 8)) (x5 (C2 (B8 rfl) (i5 4) (i5 7)) n8))) (w6 (w6 (w6 n5))))))))) (j9 (x6 7 y8.nd (l4 8))) M4))))
   (j9 (Y8 5 rfl (l4 7))))))
   (DA 5)))))⟩
end
section
local instance Kw:Feeds:=K2
def K6:FnScope ["_law_m","_law_comers","_law_places","_law_lost","_law_rank","_law_work","_law_is_lost"] ["_law_m","_law_comers"] (defScope GN):={}
abbrev gq:=LM.IU
def Jb {f:PU}{fd:Qb}(Fn:Fun K "_law_come" "_law_come" GN f fd)(T:Txt K mg) :FnOk P w K mg base CX0 1 f fd ["_law_m","_law_comers"] (spM K 2 gq):=by
 refine kU Fn K6 (by decide) λQB A outer s H E hr=>?_
 have hu5:(A.deeper (PyProof.Rows.envOfC "_law_come" (defScope GN) s.heap.objs.size f QB)).units+65<Qu:=by have:=hr.un;omega
 exact⟨_,(S7 (mD 2 (by decide) K6.nd (EB (B8 rfl) (Am (oU hu5)) (kh i4)))
   (S7 (oe (x6 3 K6.nd i4))
   (S7 (wH rfl (bE (l4 1)) (D7 (n:=2) rfl (f7 (v9 (i:=4) K6.nd) (f7 (v9 (i:=5) K6.nd) A8))) (kx (W2 (aD (by decide)) (W2 (aD (by decide)) kM))) (S7 (mD 6 (by decide) K6.nd (Bx (kh (dz xw (i5 2) (Ev.bw bj))) (CA (EF EE (Am (yR rfl hu5 T.len)) (kh (l4 2))))))
   (S7 (DL (Dk (qp (iu (i5 6)))) (iA (zC rfl hu5 (T8 (zd rfl hu5 T.len) (T8 (sY (l4 4)) (T8 (sY (l4 5)) (T8 (sY cy) sI)))))) BX)
   (S7 (zZ rfl hu5 (T8 (sY (C2 (B8 rfl) (Ev.bw (P8 (.list [.str "in",.str "lost"]) rfl)) (Ev.bw (D4 (wq) T.int xR (j6 (i5 6) l9))))) (T8 (Ft hu5) (T8 (sY bj) (T8 (sY i4) sI)))))
   (iA (oe (x6 3 K6.nd (B7 (E8 rfl) (i5 3) (Ev.bw (D4 (wq) T.int xR (j6 (i5 6) l9)))))))))))
   (iA (oe (z8 (l4 3)))))))⟩
end
section
local instance Kx:Feeds:=K2
def D3:FnScope ["_law_m","_law_comers","_law_lost","_law_some","_law_stay","_law_turned","_law_gone","_law_place","_law_person","_law_row"] ["_law_m","_law_comers"] (defScope GO):={}
abbrev x8:=LM.Ht
def Jc {f:PU}{fd:Qb}(Fn:Fun K "_law_beat" "_law_beat" GO f fd)(T:Txt K mg)(Hl:d0 P w K mg base "_law_come" 1 ["_law_m","_law_comers"] (spM K 2 gq))(GR:d0 P w K mg base "_law_picked" 2 ["_law_m"] (spM K 1 cH)):FnOk P w K mg base CX0 3 f fd ["_law_m","_law_comers"] (spM K 2 x8):=by
 refine kU Fn D3 (by decide) λQB A outer s H E hr=>?_
 have hu5:(A.deeper (PyProof.Rows.envOfC "_law_beat" (defScope GO) s.heap.objs.size f QB)).units+65<Qu:=by have:=hr.un;omega
 exact⟨_,(have hu:=EH hr;S7 (mD 2 (by decide) D3.nd (gT Hl (hr.mono (by decide)) (iZ (kh (l4 1)) gM) (je gY)))
   (S7 (mD 3 (by decide) D3.nd (gT GR (hr.mono (by decide)) gM gY))
   ⟨(r8 (sM hu (pv 0) C4 (D8 aC (G8 hu (pv 0) C4 (λ_ _=>rfl)) k8) rfl)
   (r8 (O8 (i:=4) D3.nd rfl (Or.inl rfl) (Q7 u9)) (r8 (O8 (i:=5) D3.nd rfl (Or.inl rfl) (Q7 u9)) (r8 (O8 (i:=6) D3.nd rfl (Or.inl rfl) (Q7 u9))
   (r8 (qa On rfl (kD rfl T.range (l7 (ar N2 rfl T.len OH (l7 (G8 hu (pv 0) C4 (λ_ _=>rfl)) u9)) u9)) (gQ (i:=7) D3.nd rfl (Or.inl rfl))
    (r8 (O8 (i:=8) D3.nd rfl (Or.inl rfl) (P7 F0 (G8 hu (pv 0) C4 (λ_ _=>rfl)) (pv 7) (λ_ _=>rfl)))
    (r8 (O8 (i:=9) D3.nd rfl (Or.inl rfl) (P7 F0 (G8 hu (pv 0) C4 (λ_ _=>rfl)) (P7 F0 (pv 8) k8 (λ_ _=>rfl)) (λ_ _=>rfl)))
    (r8 (jI (T3 (aV rfl hu5) (pv 7) (pv 3) rfl)
      (r8 (U5 (D8 vo (P7 F0 (pv 8) k8 (λ_ _=>rfl)) k8) (aN (pv 8) k8 Q1 (λ_=>rfl))) (G9 (U5 (gU (aV rfl hu5) (P7 pW (G8 hu (pv 0) C4 (λ_ _=>rfl)) k8 (λ_ _=>rfl)) (P8 (K:=K) nT rfl).pe rfl) (aN (pv 8) k8 Q1 (λ_=>rfl)))))
      (G9 (U5 (D8 aC (P7 F0 (pv 9) k8 (λ_ _=>rfl)) k8) (aN (pv 9) k8 Q1 (λ_=>rfl)))))
    (G9 (jI (T3 xu (P7 F0 (pv 8) k8 (λ_ _=>rfl)) k8 (Z9 _))
      (r8 (U5 C4 (aN (pv 9) k8 Q1 (λ_=>rfl))) (r8 (U5 (G8 hu (pv 0) C4 (λ_ _=>rfl)) (aN (pv 9) k8 Q1 (λ_=>rfl))) (G9 (Y0 (ke Nl Nh Ni M9 (pv 6) (l7 (P7 F0 (pv 8) k8 (λ_ _=>rfl)) u9))))))
      (G9 (jI (PW.pt (qV (T3 (aV rfl hu5) (pv 7) (pv 3) rfl) (kW (T3 xu (P7 pW (G8 hu (pv 0) C4 (λ_ _=>rfl)) k8 (λ_ _=>rfl)) C4 (Z9 _))))) (G9 (Y0 (ke Nl Nh Ni M9 (pv 5) (l7 (pv 8) u9)))) (G9 (Y0 (ke Nl Nh Ni M9 (pv 4) (l7 (pv 8) u9))))))))))))
   (r8 (sM hu (pv 0) C4 (D8 wZ (pv 4) (pv 5)) rfl) (G9 (aR (lY (l7 (pv 2) (l7 (pv 6) u9))))))))))),BY⟩))⟩
end
section
local instance Kz:Feeds:=K2
def nJ:FnScope ["_law_house_here"] ["_law_house_here"] (defScope Hy):={}
def Jp {f:PU}{fd:Qb}(Fn:Fun K "_law_new" "_law_new" Hy f fd)(T:Txt K mg):FnOk P w K mg base CX0 1 f fd ["_law_house_here"] (spN K G6):=by
 refine Fn.ok nJ (λvs H Q E h=>?_) (λQB A outer s H vs Q E hr h=>?_)
 .obtain⟨B,hh,μ,v,rfl,_⟩:=h;rfl
 .exact⟨_,G9 (aR (zw (dZ C4 (pv 0) (dZ C4 (Q7 u9) (dZ C4 (Q7 u9) (dZ C4 k8 yD)))) rfl rfl (by simp) (by decide))),Fe h rfl⟩
end
def p0:FnScope ["_law_feed_here","_law_way_here","_law_turn","_law_house_here","_law_work","_law_whole","_law_stands","_law_lost","_law_gone"] ["_law_feed_here"] (defScope Gy):={}
def j8:List DV->M My:=U2 ["_law_feed_here","_law_way_here","_law_turn","_law_house_here","_law_work","_law_whole","_law_stands","_law_lost","_law_gone"] (mSq (C5 1 (P2 (c7 (P2 (c7 (P2 (c7 (t8 C6 (vF 0 (vD (sC (.int 2)) B9))) (c7 (s2 M5 (sC (.int 1)) (t8 C6 (vF 0 (vD (sC (.int 6)) B9)))) i7))) i7)) i7)))
  (mSq (aS (eI (c7 (s2 M5 (sC (.int 45)) (t8 C6 (vF 0 (vD (sC (.int 35)) B9)))) i7)) (bN 2) (C5 1 (s2 ixD (t8 bH (vD (sV 1) (vD (sC (.int 0)) (vD (sC (.int 6)) B9)))) (sC (.int 0)))))
  (mSq (C5 3 (P2 (c7 (s2 M5 (sC (.int 1)) (t8 C6 (vF 0 (vD (sC (.int 3)) B9)))) (c7 (s2 ixD (sC (.list [.none,.int 1,.int 6])) (t8 C6 (vF 0 (vD (sC (.int 3)) B9)))) (c7 (t8 T6 (vF 0 B9)) i7)))))
  (mSq (C5 4 (s2 ixD (s2 ixD (s2 ixD (sW 1) (sC (.int 0))) (sC (.int 0))) (sC (.int 1))))
  (mSq (C5 5 (t8 u8 (vD (sV 3) (vD (sV 1) B9))))
  (mSq (mIf (uOr (uB (s2 (eqD true) (sN U0 (c7 (sW 5) i7)) (sN U0 (c7 (s2 M5 (sW 1) (s2 R0 (sC (.tuple [.tuple []])) (s2 fQ (sW 4) (sC (.int 1))))) i7)))) (uB (s2 (eqD true) (sN U0 (c7 (t8 ae (vD (sV 3) (vD (sV 5) B9))) i7)) (sN U0 (c7 (pU (c7 (P2 (c7 (sC (.str "gone")) (c7 (sC (.int 0)) (c7 (sV 4) (c7 (sC (.int 0)) i7))))) i7)) i7))))) (mRt (sC (.bool false))) mNx)
  (mSq (bQ (L6 3 (i9 (bN 6) (i9 (bN 7) (i9 (bN 8) M1)))) (t8 jU (vD (sV 3) (vD (sV 5) (vD (sC (.tuple [])) B9)))))
  (mSq (mIf (uOr (uB (s2 (eqD true) (sLC (R5 (sW 6)) 1 [] (bN 0) Z3 (sN X3 (c7 (sW 0) i7))) (s2 M5 (s2 M5 (sC (.list [.int 0])) (s2 R0 (sC (.list [.int 1])) (s2 fQ (sW 4) (sC (.int 1))))) (sC (.list [.int 0]))))) (uB (s2 (eqD true) (sW 7) (s2 R0 (sC (.tuple [.int 0])) (sW 4))))) (mRt (sC (.bool false))) mNx)
  (mRt (s2 (eqD false) (sW 8) (s2 M5 (s2 R0 (sC (.tuple [.int 0])) (s2 fQ (sW 4) (sC (.int 1)))) (sC (.tuple [.int 1])))))))))))))
def HG {f:PU}{fd:Qb}(Fn:Fun K "_law_long_right" "_law_long_right" Gy f fd)(T:Txt K mg)(Gp:d0 P w K mg base "_law_next" 1 ["_law_feed_here","_law_many"] (spD K 2 C6))(Iz:d0 P w K mg base "longer" 3 ["way","number","more"] (spD K 3 bH))(Gz:d0 P w K mg base "_law_rule" 2 ["_law_feed_here"] (spD K 1 T6))(Gx:d0 P w K mg base "drained" 6 ["house","way"] (spD K 2 u8))(HY:d0 P w K mg base "courses" 4 ["house","way"] (spD K 2 ae))(IM:d0 P w K mg base "run" 5 ["house","way","stand"] (spD K 3 jU)):FnOk P w K mg base CX0 7 f fd ["_law_feed_here"] (spD K 1 j8):=by
 refine K3 Fn p0 λQB A outer s H E hr=>?_
 exact⟨_,(d8 (x6 1 p0.nd (C9 (d9 (C9 (d9 (C9 (d9 (j7 Gp (hr.mono (by decide)) (Z4 0 (x5 i4 n8)) (Y9 (w6 n5))) (d9 (B7 (E8 rfl) (Ev.bw i4) (Ev.bw (j7 Gp (hr.mono (by decide)) (Z4 0 (x5 i4 n8)) (Y9 (w6 n5))))) l0))) l0)) l0)))
   (d8 (R7 rfl (bV (d9 (B7 (E8 rfl) (Ev.bw i4) (Ev.bw (j7 Gp (hr.mono (by decide)) (Z4 0 (x5 i4 n8)) (Y9 (w6 n5))))) l0) T.range) (v9 (i:=2) p0.nd) (j9 (x6 1 p0.nd (C2 (B8 rfl) (Ev.bw (j7 Iz (hr.mono (by decide)) (x5 (l4 1) (x5 i4 (x5 i4 n8))) (w6 (w6 (w6 n5))))) (Ev.bw i4)))))
   (d8 (x6 3 p0.nd (C9 (d9 (B7 (E8 rfl) (Ev.bw i4) (Ev.bw (j7 Gp (hr.mono (by decide)) (Z4 0 (x5 i4 n8)) (Y9 (w6 n5))))) (d9 (C2 (B8 rfl) (Ev.bw (P8 (.list [.none,.int 1,.int 6]) rfl)) (Ev.bw (j7 Gp (hr.mono (by decide)) (Z4 0 (x5 i4 n8)) (Y9 (w6 n5))))) (d9 (j7 Gz (hr.mono (by decide)) (Z4 0 n8) (Y9 n5)) l0)))))
   (d8 (x6 4 p0.nd (C2 (B8 rfl) (Ev.bw (C2 (B8 rfl) (Ev.bw (C2 (B8 rfl) (i5 1) (Ev.bw i4))) (Ev.bw i4))) (Ev.bw i4)))
   (d8 (x6 5 p0.nd (j7 Gx (hr.mono (by decide)) (x5 (l4 3) (x5 (l4 1) n8)) (w6 (w6 n5))))
   (d8 (Q8 (Ew.t (sL (C3 (gj rfl hr.units) (Ev.bw (n6 (T2 rfl hr.gd hr.units) T.repr S8 (j6 (i5 5) l9))) (Ev.bw (n6 (T2 rfl hr.gd hr.units) T.repr S8 (j6 (Ev.bw (B7 (E8 rfl) (i5 1) (Ev.bw (B7 (aA rfl) (Ev.bw (P8 (.tuple [.tuple []]) rfl)) (Ev.bw (B7 cX (i5 4) (Ev.bw i4))))))) l9)))) (lz (C3 (gj rfl hr.units) (Ev.bw (n6 (T2 rfl hr.gd hr.units) T.repr S8 (j6 (Ev.bw (j7 HY (hr.mono (by decide)) (x5 (l4 3) (x5 (l4 5) n8)) (w6 (w6 n5)))) l9))) (Ev.bw (n6 (T2 rfl hr.gd hr.units) T.repr S8 (j6 (Ev.bw (pD (d9 (C9 (d9 fK (d9 i4 (d9 (l4 4) (d9 i4 l0))))) l0))) l9))))))) (j9 (z8 cy)) M4)
   (d8 (aJ (j7 IM (hr.mono (by decide)) (x5 (l4 3) (x5 (l4 5) (x5 (P8 (.tuple []) rfl) n8))) (w6 (w6 (w6 n5)))) (D7 (n:=3) rfl (f7 (v9 (i:=6) p0.nd) (f7 (v9 (i:=7) p0.nd) (f7 (v9 (i:=8) p0.nd) A8)))))
   (d8 (Q8 (Ew.t (sL (C3 (gj rfl hr.units) (Ev.bw (fZ (osc:=(defScope Gy)) (N:=["_law_stand"]) (k:=1) (cap:=[]) rfl rfl ⟨rfl,by decide +kernel,by decide +kernel,by decide +kernel,rfl,rfl,by decide +kernel⟩ (T1 (i5 6)) (λcl C ex Qz s H=>(v9 (i:=0) (show List.Nodup (["_law_stand"]:List Str) by decide +kernel))) (λcl C ex Qz s H=>O4) (λcl C ex Qz s H=>(n6 (O7 rfl) T.len O9 (j6 (i5 0) l9))))) (Ev.bw (B7 (E8 rfl) (Ev.bw (B7 (E8 rfl) (Ev.bw (P8 (.list [.int 0]) rfl)) (Ev.bw (B7 (aA rfl) (Ev.bw (P8 (.list [.int 1]) rfl)) (Ev.bw (B7 cX (i5 4) (Ev.bw i4))))))) (Ev.bw (P8 (.list [.int 0]) rfl))))) (lz (C3 (gj rfl hr.units) (i5 7) (Ev.bw (B7 (aA rfl) (Ev.bw (P8 (.tuple [.int 0]) rfl)) (i5 4))))))) (j9 (z8 cy)) M4)
   (j9 (z8 (dz (sq rfl hr.units) (i5 8) (Ev.bw (B7 (E8 rfl) (Ev.bw (B7 (aA rfl) (Ev.bw (P8 (.tuple [.int 0]) rfl)) (Ev.bw (B7 cX (i5 4) (Ev.bw i4))))) (Ev.bw (P8 (.tuple [.int 1]) rfl)))))))))))))))⟩
end
end
section
section
variable {P:PX}{w:PY}{K:PySem.W.Frag}{mg:Str->Option PR}{base:Qe}
def W9:FnScope ["_law_script","_law_feed_here","_law_turn","_law_house_here","_law_way_here","_law_m","_law_beat_here","_law_due","_law_kept","_law_handed"] ["_law_script"] (defScope Gv):={}
def O5:Qc->List Qc
 | .For _ _ b _ _=>b
 | _=>[]
def gS:DE->M Out:=(mIf (zT (uB (s2 (eqD false) (t8 C6 (vF 1 (vD (sC (.int 4)) B9))) (sC (.int 0)))) (uU (uT (t8 j8 (vF 1 B9))))) (mRt (sC (.bool false))) mNx)
def xr {f:PU}{QB:PR}{A:PZ}{outer:List Qj}{s:PV}{H:Hp}{E:XK}(T:Txt K mg)(hr:Room 7 (A.deeper (PyProof.Rows.envOfC "law" (defScope Gv) s.heap.objs.size f QB)))(hu5:(A.deeper (PyProof.Rows.envOfC "law" (defScope Gv) s.heap.objs.size f QB)).units+65<Qu)(Gp:d0 P w K mg base "_law_next" 1 ["_law_feed_here","_law_many"] (spD K 2 C6))(Gq:d0 P w K mg base "_law_long_right" 7 ["_law_feed_here"] (spD K 1 j8))(Gu:d0 P w K mg base "_law_house" 3 ["_law_feed_here"] (spD K 1 w4))(Gr:d0 P w K mg base "_law_sized_way" 3 ["_law_feed_here"] (spD K 1 l5))(Gs:d0 P w K mg base "_law_beat" 3 ["_law_m","_law_comers"] (spM K 2 x8))(Gw:d0 P w K mg base "_law_new" 1 ["_law_house_here"] (spN K G6))(Gx:d0 P w K mg base "drained" 6 ["house","way"] (spD K 2 u8)):∃ts,Ss K (W6 CX0 P w K mg base ["_law_script","_law_feed_here","_law_turn","_law_house_here","_law_way_here","_law_m","_law_beat_here","_law_due","_law_kept","_law_handed"] "law" (defScope Gv) f QB A outer s H E).nox ((defBody Gv).getD 1 (.Pass ⟨0,0,0,0⟩)) ts gS:=by unfold gS;exact⟨_,(Q8 (Ew.t (Cb (C3 (sq rfl hr.units) (Ev.bw (j7 Gp (hr.mono (by decide)) (Z4 1 (x5 i4 n8)) (Y9 (w6 n5)))) (Ev.bw i4)) (zS (qp (iu (Ev.bw (j7 Gq (hr.mono (by decide)) (Z4 1 n8) (Y9 n5)))))))) (j9 (z8 cy)) M4)⟩
def aj:DE->M Out:=(C5 3 (t8 w4 (vF 1 B9)))
def pY {f:PU}{QB:PR}{A:PZ}{outer:List Qj}{s:PV}{H:Hp}{E:XK}(T:Txt K mg)(hr:Room 7 (A.deeper (PyProof.Rows.envOfC "law" (defScope Gv) s.heap.objs.size f QB)))(hu5:(A.deeper (PyProof.Rows.envOfC "law" (defScope Gv) s.heap.objs.size f QB)).units+65<Qu)(Gp:d0 P w K mg base "_law_next" 1 ["_law_feed_here","_law_many"] (spD K 2 C6))(Gq:d0 P w K mg base "_law_long_right" 7 ["_law_feed_here"] (spD K 1 j8))(Gu:d0 P w K mg base "_law_house" 3 ["_law_feed_here"] (spD K 1 w4))(Gr:d0 P w K mg base "_law_sized_way" 3 ["_law_feed_here"] (spD K 1 l5))(Gs:d0 P w K mg base "_law_beat" 3 ["_law_m","_law_comers"] (spM K 2 x8))(Gw:d0 P w K mg base "_law_new" 1 ["_law_house_here"] (spN K G6))(Gx:d0 P w K mg base "drained" 6 ["house","way"] (spD K 2 u8)):∃ts,Ss K (W6 CX0 P w K mg base ["_law_script","_law_feed_here","_law_turn","_law_house_here","_law_way_here","_law_m","_law_beat_here","_law_due","_law_kept","_law_handed"] "law" (defScope Gv) f QB A outer s H E).nox ((O5 ((defBody Gv).getD 2 (.Pass ⟨0,0,0,0⟩))).getD 0 (.Pass ⟨0,0,0,0⟩)) ts aj:=by unfold aj;exact⟨_,(x6 3 W9.nd (j7 Gu (hr.mono (by decide)) (Z4 1 n8) (Y9 n5)))⟩
def av:DE->M Out:=(C5 4 (t8 l5 (vF 1 B9)))
def qo {f:PU}{QB:PR}{A:PZ}{outer:List Qj}{s:PV}{H:Hp}{E:XK}(T:Txt K mg)(hr:Room 7 (A.deeper (PyProof.Rows.envOfC "law" (defScope Gv) s.heap.objs.size f QB)))(hu5:(A.deeper (PyProof.Rows.envOfC "law" (defScope Gv) s.heap.objs.size f QB)).units+65<Qu)(Gp:d0 P w K mg base "_law_next" 1 ["_law_feed_here","_law_many"] (spD K 2 C6))(Gq:d0 P w K mg base "_law_long_right" 7 ["_law_feed_here"] (spD K 1 j8))(Gu:d0 P w K mg base "_law_house" 3 ["_law_feed_here"] (spD K 1 w4))(Gr:d0 P w K mg base "_law_sized_way" 3 ["_law_feed_here"] (spD K 1 l5))(Gs:d0 P w K mg base "_law_beat" 3 ["_law_m","_law_comers"] (spM K 2 x8))(Gw:d0 P w K mg base "_law_new" 1 ["_law_house_here"] (spN K G6))(Gx:d0 P w K mg base "drained" 6 ["house","way"] (spD K 2 u8)):∃ts,Ss K (W6 CX0 P w K mg base ["_law_script","_law_feed_here","_law_turn","_law_house_here","_law_way_here","_law_m","_law_beat_here","_law_due","_law_kept","_law_handed"] "law" (defScope Gv) f QB A outer s H E).nox ((O5 ((defBody Gv).getD 2 (.Pass ⟨0,0,0,0⟩))).getD 1 (.Pass ⟨0,0,0,0⟩)) ts av:=by unfold av;exact⟨_,(x6 4 W9.nd (j7 Gr (hr.mono (by decide)) (Z4 1 n8) (Y9 n5)))⟩
section
local instance regL_law_2_2:Feeds:=K2
def aL:DE->M Out:=(pSq (iE (R5 (sV 4)) (bN 6) (mDo (Z5 x8 (c7 (mE (sV 6)) i7))))
  (pSq (mL 5 (C5 7 (sV 4)))
  (pSq (mWh (uB wj) (mSq (mDo (Z5 x8 (c7 (mE (sC (.tuple []))) i7)))
  (mL 5 (C5 7 (s2 M5 (sW 7) (sC (.tuple [.tuple []])))))))
  mNx)))
def oN {f:PU}{QB:PR}{A:PZ}{outer:List Qj}{s:PV}{H:Hp}{E:XK}(T:Txt K mg)(hr:Room 7 (A.deeper (PyProof.Rows.envOfC "law" (defScope Gv) s.heap.objs.size f QB)))(hu5:(A.deeper (PyProof.Rows.envOfC "law" (defScope Gv) s.heap.objs.size f QB)).units+65<Qu)(Gs:d0 P w K mg base "_law_beat" 3 ["_law_m","_law_comers"] (spM K 2 x8))(Gw:d0 P w K mg base "_law_new" 1 ["_law_house_here"] (spN K G6)){rest:List Qc}{u:TS}:∃ts,SmsU K (W6 CX0 P w K mg base ["_law_script","_law_feed_here","_law_turn","_law_house_here","_law_way_here","_law_m","_law_beat_here","_law_due","_law_kept","_law_handed"] "law" (defScope Gv) f QB A outer s H E).nox 5 (((O5 ((defBody Gv).getD 2 (.Pass ⟨0,0,0,0⟩))).getD 3 (.Pass ⟨0,0,0,0⟩))::((O5 ((defBody Gv).getD 2 (.Pass ⟨0,0,0,0⟩))).getD 4 (.Pass ⟨0,0,0,0⟩))::((O5 ((defBody Gv).getD 2 (.Pass ⟨0,0,0,0⟩))).getD 5 (.Pass ⟨0,0,0,0⟩))::rest) rest ts u aL:=by
 unfold aL;exact⟨_,(mn (wH rfl (bE (l4 4)) (v9 (i:=6) W9.nd) (aD (by decide)) (iA (Bb (gT Gs (hr.mono (by decide)) (iZ (kh (l4 6)) gM) (je gY)))))
   (mn (oe (x6 7 W9.nd (l4 4)))
   (mn (vB (yS rfl hu5) (S7 (Bb (gT Gs (hr.mono (by decide)) (iZ (kh (P8 (.tuple []) rfl)) gM) (je gY)))
   (iA (oe (x6 7 W9.nd (B7 (E8 rfl) (i5 7) (Ev.bw (P8 (.tuple [.tuple []]) rfl))))))))
   BB)))⟩
end
def ay:DE->M Out:=nH 5 3 G6 aL
def qM {f:PU}{QB:PR}{A:PZ}{outer:List Qj}{s:PV}{H:Hp}{E:XK}(T:Txt K mg)(hr:Room 7 (A.deeper (PyProof.Rows.envOfC "law" (defScope Gv) s.heap.objs.size f QB)))(hu5:(A.deeper (PyProof.Rows.envOfC "law" (defScope Gv) s.heap.objs.size f QB)).units+65<Qu)(Gp:d0 P w K mg base "_law_next" 1 ["_law_feed_here","_law_many"] (spD K 2 C6))(Gq:d0 P w K mg base "_law_long_right" 7 ["_law_feed_here"] (spD K 1 j8))(Gu:d0 P w K mg base "_law_house" 3 ["_law_feed_here"] (spD K 1 w4))(Gr:d0 P w K mg base "_law_sized_way" 3 ["_law_feed_here"] (spD K 1 l5))(Gs:d0 P w K mg base "_law_beat" 3 ["_law_m","_law_comers"] (spM K 2 x8))(Gw:d0 P w K mg base "_law_new" 1 ["_law_house_here"] (spN K G6))(Gx:d0 P w K mg base "drained" 6 ["house","way"] (spD K 2 u8)){rest:List Qc}{u:TS}{mu:DE->M Out}(hq:Sss K (W6 CX0 P w K mg base ["_law_script","_law_feed_here","_law_turn","_law_house_here","_law_way_here","_law_m","_law_beat_here","_law_due","_law_kept","_law_handed"] "law" (defScope Gv) f QB A outer s H E).nox rest u mu):∃ts,Sss K (W6 CX0 P w K mg base ["_law_script","_law_feed_here","_law_turn","_law_house_here","_law_way_here","_law_m","_law_beat_here","_law_due","_law_kept","_law_handed"] "law" (defScope Gv) f QB A outer s H E).nox (((O5 ((defBody Gv).getD 2 (.Pass ⟨0,0,0,0⟩))).getD 2 (.Pass ⟨0,0,0,0⟩))::((O5 ((defBody Gv).getD 2 (.Pass ⟨0,0,0,0⟩))).getD 3 (.Pass ⟨0,0,0,0⟩))::((O5 ((defBody Gv).getD 2 (.Pass ⟨0,0,0,0⟩))).getD 4 (.Pass ⟨0,0,0,0⟩))::((O5 ((defBody Gv).getD 2 (.Pass ⟨0,0,0,0⟩))).getD 5 (.Pass ⟨0,0,0,0⟩))::rest) ts (mSq ay mu):=by obtain⟨t9,h9⟩:=oN (f:=f) (QB:=QB) (A:=A) (outer:=outer) (s:=s) (H:=H) (E:=E) (rest:=rest) (u:=u) T hr hu5 Gs Gw;exact⟨_,Ar (show Regs.lam=Fam.lam from rfl) (O8 (i:=5) W9.nd rfl (Or.inl rfl) (bU Gw (hr.mono (by decide)) rfl (l7 (pv 3) u9))) h9 hq⟩
def ax:DE->M Out:=(C5 8 (sN U0 (c7 (sW 4) i7)))
def pT {f:PU}{QB:PR}{A:PZ}{outer:List Qj}{s:PV}{H:Hp}{E:XK}(T:Txt K mg)(hr:Room 7 (A.deeper (PyProof.Rows.envOfC "law" (defScope Gv) s.heap.objs.size f QB)))(hu5:(A.deeper (PyProof.Rows.envOfC "law" (defScope Gv) s.heap.objs.size f QB)).units+65<Qu)(Gp:d0 P w K mg base "_law_next" 1 ["_law_feed_here","_law_many"] (spD K 2 C6))(Gq:d0 P w K mg base "_law_long_right" 7 ["_law_feed_here"] (spD K 1 j8))(Gu:d0 P w K mg base "_law_house" 3 ["_law_feed_here"] (spD K 1 w4))(Gr:d0 P w K mg base "_law_sized_way" 3 ["_law_feed_here"] (spD K 1 l5))(Gs:d0 P w K mg base "_law_beat" 3 ["_law_m","_law_comers"] (spM K 2 x8))(Gw:d0 P w K mg base "_law_new" 1 ["_law_house_here"] (spN K G6))(Gx:d0 P w K mg base "drained" 6 ["house","way"] (spD K 2 u8)):∃ts,Ss K (W6 CX0 P w K mg base ["_law_script","_law_feed_here","_law_turn","_law_house_here","_law_way_here","_law_m","_law_beat_here","_law_due","_law_kept","_law_handed"] "law" (defScope Gv) f QB A outer s H E).nox ((O5 ((defBody Gv).getD 2 (.Pass ⟨0,0,0,0⟩))).getD 6 (.Pass ⟨0,0,0,0⟩)) ts ax:=by unfold ax;exact⟨_,(x6 8 W9.nd (n6 (T2 rfl hr.gd hr.units) T.repr S8 (j6 (i5 4) l9)))⟩
def ah:DE->M Out:=(aS (R5 (P2 (c7 (sV 4) (c7 (sV 7) i7)))) (bN 9) (mIf (uB (s2 (eqD true) (sN U0 (c7 (t8 u8 (vD (sV 3) (vD (sV 9) B9))) i7)) (sN U0 (c7 (sW 7) i7)))) (mRt (sC (.bool false))) mNx))
def pF {f:PU}{QB:PR}{A:PZ}{outer:List Qj}{s:PV}{H:Hp}{E:XK}(T:Txt K mg)(hr:Room 7 (A.deeper (PyProof.Rows.envOfC "law" (defScope Gv) s.heap.objs.size f QB)))(hu5:(A.deeper (PyProof.Rows.envOfC "law" (defScope Gv) s.heap.objs.size f QB)).units+65<Qu)(Gp:d0 P w K mg base "_law_next" 1 ["_law_feed_here","_law_many"] (spD K 2 C6))(Gq:d0 P w K mg base "_law_long_right" 7 ["_law_feed_here"] (spD K 1 j8))(Gu:d0 P w K mg base "_law_house" 3 ["_law_feed_here"] (spD K 1 w4))(Gr:d0 P w K mg base "_law_sized_way" 3 ["_law_feed_here"] (spD K 1 l5))(Gs:d0 P w K mg base "_law_beat" 3 ["_law_m","_law_comers"] (spM K 2 x8))(Gw:d0 P w K mg base "_law_new" 1 ["_law_house_here"] (spN K G6))(Gx:d0 P w K mg base "drained" 6 ["house","way"] (spD K 2 u8)):∃ts,Ss K (W6 CX0 P w K mg base ["_law_script","_law_feed_here","_law_turn","_law_house_here","_law_way_here","_law_m","_law_beat_here","_law_due","_law_kept","_law_handed"] "law" (defScope Gv) f QB A outer s H E).nox ((O5 ((defBody Gv).getD 2 (.Pass ⟨0,0,0,0⟩))).getD 7 (.Pass ⟨0,0,0,0⟩)) ts ah:=by unfold ah;exact⟨_,(R7 rfl (bE (C9 (d9 (l4 4) (d9 (l4 7) l0)))) (v9 (i:=9) W9.nd) (j9 (Q8 (C3 (gj rfl hr.units) (Ev.bw (n6 (T2 rfl hr.gd hr.units) T.repr S8 (j6 (Ev.bw (j7 Gx (hr.mono (by decide)) (x5 (l4 3) (x5 (l4 9) n8)) (w6 (w6 n5)))) l9))) (Ev.bw (n6 (T2 rfl hr.gd hr.units) T.repr S8 (j6 (i5 7) l9)))) (j9 (z8 cy)) M4)))⟩
def aq:DE->M Out:=(mIf (uOr (uB (s2 (eqD true) (sN U0 (c7 (sW 4) i7)) (sW 8))) (uB (s2 (eqD true) (sN U0 (c7 (t8 u8 (vD (sV 3) (vD (sC (.tuple [])) B9))) i7)) (sN U0 (c7 (sC (.tuple [])) i7))))) (mRt (sC (.bool false))) mNx)
def pL {f:PU}{QB:PR}{A:PZ}{outer:List Qj}{s:PV}{H:Hp}{E:XK}(T:Txt K mg)(hr:Room 7 (A.deeper (PyProof.Rows.envOfC "law" (defScope Gv) s.heap.objs.size f QB)))(hu5:(A.deeper (PyProof.Rows.envOfC "law" (defScope Gv) s.heap.objs.size f QB)).units+65<Qu)(Gp:d0 P w K mg base "_law_next" 1 ["_law_feed_here","_law_many"] (spD K 2 C6))(Gq:d0 P w K mg base "_law_long_right" 7 ["_law_feed_here"] (spD K 1 j8))(Gu:d0 P w K mg base "_law_house" 3 ["_law_feed_here"] (spD K 1 w4))(Gr:d0 P w K mg base "_law_sized_way" 3 ["_law_feed_here"] (spD K 1 l5))(Gs:d0 P w K mg base "_law_beat" 3 ["_law_m","_law_comers"] (spM K 2 x8))(Gw:d0 P w K mg base "_law_new" 1 ["_law_house_here"] (spN K G6))(Gx:d0 P w K mg base "drained" 6 ["house","way"] (spD K 2 u8)):∃ts,Ss K (W6 CX0 P w K mg base ["_law_script","_law_feed_here","_law_turn","_law_house_here","_law_way_here","_law_m","_law_beat_here","_law_due","_law_kept","_law_handed"] "law" (defScope Gv) f QB A outer s H E).nox ((O5 ((defBody Gv).getD 2 (.Pass ⟨0,0,0,0⟩))).getD 8 (.Pass ⟨0,0,0,0⟩)) ts aq:=by unfold aq;exact⟨_,(Q8 (Ew.t (sL (C3 (gj rfl hr.units) (Ev.bw (n6 (T2 rfl hr.gd hr.units) T.repr S8 (j6 (i5 4) l9))) (i5 8)) (lz (C3 (gj rfl hr.units) (Ev.bw (n6 (T2 rfl hr.gd hr.units) T.repr S8 (j6 (Ev.bw (j7 Gx (hr.mono (by decide)) (x5 (l4 3) (x5 (P8 (.tuple []) rfl) n8)) (w6 (w6 n5)))) l9))) (Ev.bw (n6 (T2 rfl hr.gd hr.units) T.repr S8 (j6 (Ev.bw (P8 (.tuple []) rfl)) l9))))))) (j9 (z8 cy)) M4)⟩
def gP:DE->M Out:=(aS (eI (c7 (sC (.int 2)) i7)) (bN 2) (mSq aj (mSq av (mSq ay (mSq ax (mSq ah aq))))))
def vT {f:PU}{QB:PR}{A:PZ}{outer:List Qj}{s:PV}{H:Hp}{E:XK}(T:Txt K mg)(hr:Room 7 (A.deeper (PyProof.Rows.envOfC "law" (defScope Gv) s.heap.objs.size f QB)))(hu5:(A.deeper (PyProof.Rows.envOfC "law" (defScope Gv) s.heap.objs.size f QB)).units+65<Qu)(Gp:d0 P w K mg base "_law_next" 1 ["_law_feed_here","_law_many"] (spD K 2 C6))(Gq:d0 P w K mg base "_law_long_right" 7 ["_law_feed_here"] (spD K 1 j8))(Gu:d0 P w K mg base "_law_house" 3 ["_law_feed_here"] (spD K 1 w4))(Gr:d0 P w K mg base "_law_sized_way" 3 ["_law_feed_here"] (spD K 1 l5))(Gs:d0 P w K mg base "_law_beat" 3 ["_law_m","_law_comers"] (spM K 2 x8))(Gw:d0 P w K mg base "_law_new" 1 ["_law_house_here"] (spN K G6))(Gx:d0 P w K mg base "drained" 6 ["house","way"] (spD K 2 u8)):∃ts,Ss K (W6 CX0 P w K mg base ["_law_script","_law_feed_here","_law_turn","_law_house_here","_law_way_here","_law_m","_law_beat_here","_law_due","_law_kept","_law_handed"] "law" (defScope Gv) f QB A outer s H E).nox ((defBody Gv).getD 2 (.Pass ⟨0,0,0,0⟩)) ts gP:=by obtain⟨t_law_2_8,h_law_2_8⟩:=pL (f:=f) (QB:=QB) (A:=A) (outer:=outer) (s:=s) (H:=H) (E:=E) T hr hu5 Gp Gq Gu Gr Gs Gw Gx;obtain⟨t_law_2_7,h_law_2_7⟩:=pF (f:=f) (QB:=QB) (A:=A) (outer:=outer) (s:=s) (H:=H) (E:=E) T hr hu5 Gp Gq Gu Gr Gs Gw Gx;obtain⟨t_law_2_6,h_law_2_6⟩:=pT (f:=f) (QB:=QB) (A:=A) (outer:=outer) (s:=s) (H:=H) (E:=E) T hr hu5 Gp Gq Gu Gr Gs Gw Gx;obtain⟨t_law_2_2,h_law_2_2⟩:=qM (f:=f) (QB:=QB) (A:=A) (outer:=outer) (s:=s) (H:=H) (E:=E) T hr hu5 Gp Gq Gu Gr Gs Gw Gx (d8 h_law_2_6 (d8 h_law_2_7 (j9 h_law_2_8)));obtain⟨t_law_2_1,h_law_2_1⟩:=qo (f:=f) (QB:=QB) (A:=A) (outer:=outer) (s:=s) (H:=H) (E:=E) T hr hu5 Gp Gq Gu Gr Gs Gw Gx;obtain⟨t_law_2_0,h_law_2_0⟩:=pY (f:=f) (QB:=QB) (A:=A) (outer:=outer) (s:=s) (H:=H) (E:=E) T hr hu5 Gp Gq Gu Gr Gs Gw Gx;exact⟨_,R7 rfl (bV (d9 i4 l0) T.range) (v9 (i:=2) W9.nd) (d8 h_law_2_0 (d8 h_law_2_1 h_law_2_2))⟩
def eR:DE->M Out:=(mRt (sC (.bool true)))
def xm {f:PU}{QB:PR}{A:PZ}{outer:List Qj}{s:PV}{H:Hp}{E:XK}(T:Txt K mg)(hr:Room 7 (A.deeper (PyProof.Rows.envOfC "law" (defScope Gv) s.heap.objs.size f QB)))(hu5:(A.deeper (PyProof.Rows.envOfC "law" (defScope Gv) s.heap.objs.size f QB)).units+65<Qu)(Gp:d0 P w K mg base "_law_next" 1 ["_law_feed_here","_law_many"] (spD K 2 C6))(Gq:d0 P w K mg base "_law_long_right" 7 ["_law_feed_here"] (spD K 1 j8))(Gu:d0 P w K mg base "_law_house" 3 ["_law_feed_here"] (spD K 1 w4))(Gr:d0 P w K mg base "_law_sized_way" 3 ["_law_feed_here"] (spD K 1 l5))(Gs:d0 P w K mg base "_law_beat" 3 ["_law_m","_law_comers"] (spM K 2 x8))(Gw:d0 P w K mg base "_law_new" 1 ["_law_house_here"] (spN K G6))(Gx:d0 P w K mg base "drained" 6 ["house","way"] (spD K 2 u8)):∃ts,Ss K (W6 CX0 P w K mg base ["_law_script","_law_feed_here","_law_turn","_law_house_here","_law_way_here","_law_m","_law_beat_here","_law_due","_law_kept","_law_handed"] "law" (defScope Gv) f QB A outer s H E).nox ((defBody Gv).getD 3 (.Pass ⟨0,0,0,0⟩)) ts eR:=by unfold eR;exact⟨_,(z8 cy)⟩
def oG:DE->M Out:=(mSq gS (mSq gP eR))
def CH {α:Type}(l:List α)(d:α)(h:0<l.length):l=l.getD 0 d::l.drop 1:=by
 cases l with
 | nil=>simp at h
 | cons a r=>rfl
def spLaw (K:PySem.W.Frag):Sp:=λvs H Q _=>∃(a:PU) (ns:List Int),vs=[.ref a]/\SqL K H a (ns.map V.int)/\ns.length<=63/\G5 (tabsK Feeds.lam K) H/\∀H',Q (.bl true) H'
def xD {f:PU}{QB:PR}{A:PZ}{outer:List Qj}{s:PV}{H:Hp}{E:XK}(hr:Room 7 (A.deeper (PyProof.Rows.envOfC "law" (defScope Gv) s.heap.objs.size f QB)))(CF:d0 P w K mg base "_law_feed" 1 ["_law_script"] (mB K)) :
  PS (W6 CX0 P w K mg base ["_law_script","_law_feed_here","_law_turn","_law_house_here","_law_way_here","_law_m","_law_beat_here","_law_due","_law_kept","_law_handed"] "law" (defScope Gv) f QB A outer s H E).nox ((defBody Gv).getD 0 (.Pass ⟨0,0,0,0⟩)) (O6 (eY (mB K) [] E0 (B4 (z7 0) K8)) (M6 1)) :=
 O8 (i:=1) W9.nd rfl (by walk_at "v") (bU CF (hr.mono (by decide)) rfl (l7 (pv 0) u9))
def KN {f:PU}{fd:Qb}(Fn:Fun K "law" "law" Gv f fd)(T:Txt K mg)(CF:d0 P w K mg base "_law_feed" 1 ["_law_script"] (mB K))(Gp:d0 P w K mg base "_law_next" 1 ["_law_feed_here","_law_many"] (spD K 2 C6))(Gq:d0 P w K mg base "_law_long_right" 7 ["_law_feed_here"] (spD K 1 j8))(Gu:d0 P w K mg base "_law_house" 3 ["_law_feed_here"] (spD K 1 w4))(Gr:d0 P w K mg base "_law_sized_way" 3 ["_law_feed_here"] (spD K 1 l5))(Gs:d0 P w K mg base "_law_beat" 3 ["_law_m","_law_comers"] (spM K 2 x8))(Gw:d0 P w K mg base "_law_new" 1 ["_law_house_here"] (spN K G6))(Gx:d0 P w K mg base "drained" 6 ["house","way"] (spD K 2 u8))
  (fin:∀ns:List Int,ns.length<=63->∃F',oG ([none,some .feed]++List.replicate (["_law_script","_law_feed_here","_law_turn","_law_house_here","_law_way_here","_law_m","_law_beat_here","_law_due","_law_kept","_law_handed"].length-2) none) (iG ns)=some (.rt (.bool true),F')):FnOk P w K mg base CX0 8 f fd ["_law_script"] (spLaw K):=by
 refine Fn.ok W9 (λvs H Q E h=>?_) (λQB A outer s H vs Q E hr h=>?_)
 .obtain⟨a,ns,rfl,_⟩:=h;rfl
 .obtain⟨a,ns,rfl,hS,hl,tbo,k⟩:=h;have hu5:(A.deeper (PyProof.Rows.envOfC "law" (defScope Gv) s.heap.objs.size f QB)).units+65<Qu:=by have:=hr.un;omega
  obtain⟨t_law_1,h_law_1⟩:=xr (f:=f) (QB:=QB) (A:=A) (outer:=outer) (s:=s) (H:=H) (E:=E) T hr hu5 Gp Gq Gu Gr Gs Gw Gx;obtain⟨t_law_2,h_law_2⟩:=vT (f:=f) (QB:=QB) (A:=A) (outer:=outer) (s:=s) (H:=H) (E:=E) T hr hu5 Gp Gq Gu Gr Gs Gw Gx;obtain⟨t_law_3,h_law_3⟩:=xm (f:=f) (QB:=QB) (A:=A) (outer:=outer) (s:=s) (H:=H) (E:=E) T hr hu5 Gp Gq Gu Gr Gs Gw Gx;obtain⟨ts,hq,hk⟩:∃ts,Sss K (W6 CX0 P w K mg base ["_law_script","_law_feed_here","_law_turn","_law_house_here","_law_way_here","_law_m","_law_beat_here","_law_due","_law_kept","_law_handed"] "law" (defScope Gv) f QB A outer s H E).nox ((defBody Gv).drop 1) ts oG:=⟨_,(d8 h_law_1 (d8 h_law_2 (j9 h_law_3)))⟩;have h0:=xD (P:=P) (w:=w) (K:=K) (mg:=mg) (base:=base) (f:=f) (QB:=QB) (A:=A) (outer:=outer) (s:=s) (H:=H) (E:=E) hr CF;have hsp:=CH (defBody Gv) (.Pass ⟨0,0,0,0⟩) (by decide +kernel);generalize List.drop 1 (defBody Gv)=R at hq hsp;generalize (defBody Gv).getD 0 (Qc.Pass { line:=0,col:=0,endLine:=0,endCol:=0 })=S0 at h0 hsp;have hp:=r8 h0 hq;rw[<-hsp]at hp;refine⟨_,hp,?_⟩;refine⟨_,rfl,a,ns,rfl,hS,hl,λd c H1 f1 s1=>?_⟩;obtain⟨F',e⟩:=fin ns hl;have fat:FAt K (some (d,c)) H1 (iG ns):=⟨f1,tbo.congr λb hb=>by
   obtain⟨o,e⟩:∃o,H b=some o:=by
    rcases hb with hb | ⟨φ,e⟩
    .obtain⟨t,ht,rfl⟩:=LN.1 hb;obtain⟨ps,e,_⟩:=tbo t ht;exact⟨_,e⟩
    .exact⟨_,e⟩
   rw[e];exact s1 b o e⟩
  refine hk (some (d,c)) (u4 K (some (d,c))) H1 _ (iG ns) _ H1 _ _ F' ⟨⟨u4 K (some (d,c)),λ_ z=>z,λb hb=>.inl hb,⟨fat,λ_ z=>z,fat.bok,by simp[L2.O2],λi x ei=>?_⟩⟩,λ_ z=>z,Kp.refl,λi ds b ei=>?_,λi j ds es b ei=>?_⟩ e (λv H' _ _ hv=>?_)
  .match i,ei with
   | 0,ei=>cases ei
   | 1,ei=>cases ei;exact⟨.ref d,rfl,d,c,rfl,rfl⟩
   | i+2,ei=>simp only[MD,Mu,NV,Mg]at ei;split at ei <;> cases ei
  .match i,ei with
   | 0,ei=>cases ei
   | 1,ei=>cases ei
   | i+2,ei=>simp only[MD,Mu,NV,Mg]at ei;split at ei <;> cases ei
  .match i,ei with
   | 0,ei=>cases ei
   | 1,ei=>cases ei
   | i+2,ei=>simp only[MD,Mu,NV,Mg]at ei;split at ei <;> cases ei
  .simp only[b8]at hv;subst hv;exact k H'
end
end
section
def iK:w4=cf:=rfl
def wd:l5=eC ["_law_feed_here","_law_beats","_law_works","_law_way_here","_law_many","_law_k","_law_beat_here","_law_j"]:=rfl
def Dt:jU=nI:=rfl
def cV:u8=bX:=rfl
def pZ:ae=bS:=rfl
abbrev qI (r w:Int):My:=.tuple [.tuple [.tuple [.int r,.int w]]]
def Fw {r w:Int}{F:FdS}:S9 [.dat (qI r w),.dat (.int 0)] F=some (.none,F):=rfl
def EW {r w:Int}{F:FdS}:aO [.dat (qI r w)] F=some (.list [.list [.tuple [.tuple [.int r,.int w],.int 0]]],F):=rfl
def Y3 {r w:Int}{F:FdS}:aM [.dat (.list [.list [.tuple [.tuple [.int r,.int w],.int 0]]])] F=some (.tuple [qI r w,.tuple [.int 0]],F):=rfl
def Ga:eqD false (.int 0) (.int 0)=some (.bool true):=rfl
def ER {a:DE->M My}{E:DE}{F:FdS}{Q:Out->FdS->Prop}(h:wp (a E F) λ_ F1=>Q (.nx E) F1):wp (mDo a E F) Q:=by unfold mDo;rw[d5];exact i8 h λ_ _ q=>c9.2 q
def AA {r w:Int}{F:FdS}{Q:My->FdS->Prop}(q:Q (.tuple [qI r (w+6),.tuple [.int 0]]) F):wp (bH [.dat (qI r w),.dat (.int 0),.dat (.int 6)] F) Q:=by
 unfold bH;walk_at "kg";refine k9.2 (ER (v4.2 (E3.2 (v5.2 (v6 rfl (E3.2 (v5.2 (v6 rfl (A4.2 ?_)))))))));rw[Fw];refine c9.2 (j5 (k9.2 (fw.2 (Z0.2 (f9.2 ⟨A7 rfl,l3 rfl,j5 (k9.2 ?_)⟩)))));refine W7.2 (P3.2 (v4.2 (E3.2 (v5.2 (v6 rfl (A4.2 ?_))))));rw[EW];refine c9.2 (d6 bg ?_);refine G7 (λm E F'=>F'=F/\∃o4,E=[some (.dat (qI r w)),some (.dat (.int 0)),some (.dat (.int 6)),some (.own (List.replicate m (.list [.tuple [.tuple [.int r,.int (w+6)],.int 0]]))),o4]) _ 0 _ F ⟨rfl,_,rfl⟩ ?_ ?_
 .rintro m d e E F1 ⟨rfl,o4,rfl⟩;rw[Ml];have hm:m=0:=by have:=(Lj.1 e).1;simp at this;omega
  subst hm;cases e;refine⟨_,rfl,?_⟩;refine cB (ds:=[]) rfl (by simp) (gh.2 (P3.2 (l6.2 (n9 rfl (d6 bg ⟨sz (by simp),?_⟩)))));rw[bf,show L6 2 (i9 (L6 2 (i9 (bN 0) (i9 (bN 1) M1))) (i9 (bN 2) M1)) (My.tuple [.tuple [.int r,.int w],.int 0]) (iM 3 [1,2] _)=some [some (.dat (.int r)),some (.dat (.int w)),some (.dat (.int 0)),some (.dat (.int 0)),some (.dat (.int 6))] from rfl,LC,d5];refine lN.2 ?_;rw[Lg rfl,d5];refine L8.2 (c6.2 (L8.2 (c6.2 (v5.2 (v6 rfl (c6.2 (ip.2 (V9.2 (u7.2 (l6.2 (n9 rfl (l6.2 (n9 rfl (d6 Ga (d6 rfl (cz.2 ?_))))))))))))))));refine u7.2 (l6.2 (n9 rfl (l6.2 (n9 rfl (d6 ja (f9.2 ⟨A7 rfl,c6.2 (v5.2 (v6 rfl (f9.2 ⟨A7 rfl,?_⟩)))⟩))))));rw[d5];exact c9.2 (c9.2 ⟨_,rfl,rfl,_,rfl⟩)
 .rintro E F1 ⟨rfl,o4,rfl⟩;refine j5 ?_;exact xS (ds:=[.list [.tuple [.tuple [.int r,.int (w+6)],.int 0]]]) rfl (aw.2 (v4.2 (E3.2 (v5.2 (v6 rfl (A4.2 (by rw[Y3];exact c9.2 (bL q))))))))
def zg:T6=bM:=rfl
def ES {ds:List Nat}(h:∀x∈ds,x<=1000):SeqAt.shaped (.tuple (j4 ds))=true/\Nod (.tuple (j4 ds)):=by
 have g:Gd 0 (1+Z1 (j4 ds)) 1 (.tuple (j4 ds)):=Gd.tup (M:=1) (k:=0) (λd hd=>by unfold j4 at hd;obtain⟨x,hx,rfl⟩:=LN.1 hd;have:=h x hx;exact qj (fx (by show(Int.ofNat x).natAbs<=_;simp;omega))) (Ln _)
 exact⟨g.shaped (by decide) (by decide),g.nod (by decide)⟩
def eqT {ds:List Nat}(h:∀x∈ds,x<=1000)(ng:Bool):eqD ng (.tuple (j4 ds)) (.tuple (j4 ds))=some (.bool (!ng)):=by obtain⟨hs,hn⟩:=ES h;show(if SeqAt.shaped (.tuple (j4 ds))=true/\SeqAt.shaped (.tuple (j4 ds))=true then _ else none)=_;rw[Lg ⟨hs,hs⟩];have:=PySem.SeqAt.eqv_refl (.tuple (j4 ds)) hn.cl;rw[this];cases ng <;> rfl
def neL {ds:List Nat}(h:∀x∈ds,x<=1000):eqD true (.list (j4 ds)) (.list (j4 ds))=some (.bool false) :=
 Du (N:=1+Z1 (j4 ds)) (k:=1) (Gd.lst (M:=1) (k:=0) (λd hd=>by unfold j4 at hd;obtain⟨x,hx,rfl⟩:=LN.1 hd;have:=h x hx;exact qj (fx (by show(Int.ofNat x).natAbs<=_;simp;omega))) (Ln _)) (by decide)
def DS {d k:Nat}(h:k<=1000):R0 (.tuple [.int (d:Int)]) (.int (k:Int))=some (.tuple (j4 (List.replicate k d))):=by
 rw[FZ (by simp;omega) (by omega) (by omega)];congr 2;rw[show((k:Int)).toNat=k from by omega];unfold j4;induction k with
 | zero=>rfl
 | succ k ih=>rw[Mi,MY,ih (by omega),Mi,Lu];rfl
def zU {r:Int}{W:Nat}{kp:Bool}(hW:1<=W):(List.range (W+1)).map (λi=>(K1 r W kp i).length)=[0]++List.replicate (W-1) 1++[0]:=by
 refine Oc λi=>?_
 rw[Lv];by_cases hi:i<W+1
 .rw[ND hi];show some (K1 r W kp i).length=_;by_cases h0:i=0
  .subst h0;unfold K1;rw[Lg (.inl rfl)];rfl
  .by_cases h1:W<=i
   .unfold K1;rw[Lg (.inr h1),LL (by simp;omega)];have:i-([0]++List.replicate (W-1) 1).length=0:=by simp;omega
    rw[this];rfl
   .unfold K1;rw[Lk (by omega),LU (by simp;omega),LL (by simp;omega),Mg,Lg (by simp;omega)];rfl
 .rw[Mr (by simp;omega),Mr (by simp;omega)];rfl
def tQ {W:Nat}(hW:1<=W):(List.range W).map (λi=>if i+1=W then 1 else 0)=List.replicate (W-1) 0++[1]:=by
 refine Oc λi=>?_
 rw[Lv];by_cases hi:i<W
 .rw[ND hi];show some (if i+1=W then 1 else 0)=_;by_cases h1:i+1=W
  .rw[Lg h1,LL (by simp;omega)];have:i-(List.replicate (W-1) 0).length=0:=by simp;omega
   rw[this];rfl
  .rw[Lk h1,LU (by simp;omega),Mg,Lg (by omega)]
 .rw[Mr (by simp;omega),Mr (by simp;omega)];rfl
def yt {QA:List Bt}(hn:QA.length<=900)(hb:∀b∈QA,b.length<=3/\∀c∈b,0<=c.1/\c.1<=1/\1<=c.2/\c.2<=1000):U4 (.tuple (QA.map btD))=true:=by
 refine((Sml.tup (c:=16) (k:=2) λd hd=>?_).mono (N':=20000) (k':=3) (by rw[Lf];omega) (by decide)).repr (by decide) (by decide);obtain⟨b,hbm,rfl⟩:=LN.1 hd;obtain⟨h1,h2⟩:=hb b hbm;refine(Sml.tup (c:=5) (k:=1) λd hd=>?_).mono (by rw[Lf];omega) (by decide);obtain⟨c,hc,rfl⟩:=LN.1 hd;obtain⟨g1,g2,g3,g4⟩:=h2 c hc;walk_at "kr";rcases hd with rfl | rfl
 .exact qH (by omega) (by omega)
 .exact qH (by omega) (by omega)
def Aj {h k:Nat}{kp tn:Bool}{pl:Option Nat}{r:Int}{W:Nat}(hh:1<=h)(hW:1<=W)(hpl:A5 pl 0 1=1)(v:Nat):stV (j3 h k kp tn pl) [[(r,(W:Int))]] v=K1 r W kp (v+1):=by have:=qB (f:=j3 h k kp tn pl) (QA:=[[(r,(W:Int))]]) v;rw[<-this,show([[(r,(W:Int))]]:List Bt).length+v=v+1 from by simp;omega];exact lg hh hW hpl (Ln _)
def CB {h k:Nat}{kp tn:Bool}{pl:Option Nat}{QA:List Bt}:∀v,dU pl (stV (j3 h k kp tn pl) QA v).length:=λv=>by have e:=qB (f:=j3 h k kp tn pl) (QA:=QA) v;rw[<-e];exact V6 (ps:=[]) (λv _=>Mb v) (by simp)
def yW {r:My}{pl:Option Nat}{h W:Nat}{rk:Int}{F:FdS}{o2:Option DV}(hr:r∈W8)(hh:1<=h)(hpl:A5 pl 0 1=1)(hW:1<=W)(hW2:W<=490)(k0:0<=rk)(k1:rk<=1) :
  wp ((mSq (C5 4 (s2 ixD (s2 ixD (s2 ixD (sW 1) (sC (.int 0))) (sC (.int 0))) (sC (.int 1))))
  (mSq (C5 5 (t8 u8 (vD (sV 3) (vD (sV 1) B9))))
  (mSq (mIf (uOr (uB (s2 (eqD true) (sN U0 (c7 (sW 5) i7)) (sN U0 (c7 (s2 M5 (sW 1) (s2 R0 (sC (.tuple [.tuple []])) (s2 fQ (sW 4) (sC (.int 1))))) i7)))) (uB (s2 (eqD true) (sN U0 (c7 (t8 ae (vD (sV 3) (vD (sV 5) B9))) i7)) (sN U0 (c7 (pU (c7 (P2 (c7 (sC (.str "gone")) (c7 (sC (.int 0)) (c7 (sV 4) (c7 (sC (.int 0)) i7))))) i7)) i7))))) (mRt (sC (.bool false))) mNx)
  (mSq (bQ (L6 3 (i9 (bN 6) (i9 (bN 7) (i9 (bN 8) M1)))) (t8 jU (vD (sV 3) (vD (sV 5) (vD (sC (.tuple [])) B9)))))
  (mSq (mIf (uOr (uB (s2 (eqD true) (sLC (R5 (sW 6)) 1 [] (bN 0) Z3 (sN X3 (c7 (sW 0) i7))) (s2 M5 (s2 M5 (sC (.list [.int 0])) (s2 R0 (sC (.list [.int 1])) (s2 fQ (sW 4) (sC (.int 1))))) (sC (.list [.int 0]))))) (uB (s2 (eqD true) (sW 7) (s2 R0 (sC (.tuple [.int 0])) (sW 4))))) (mRt (sC (.bool false))) mNx)
  (mRt (s2 (eqD false) (sW 8) (s2 M5 (s2 R0 (sC (.tuple [.int 0])) (s2 fQ (sW 4) (sC (.int 1)))) (sC (.tuple [.int 1])))))))))) [some .feed,some (.dat (.tuple ([[(rk,(W:Int))]].map btD))),o2,some (.dat (hsD h pl r)),none,none,none,none,none] F) (uQ λd F'=>d = .bool true/\F'=F):=by
 have eW:((W:Int)-1)=((W-1:Nat):Int):=by omega
 have hone:=λi hi=>lg (h:=h) (k:=kOf r) (kp:=kb r) (tn:=tnB r) (pl:=pl) (r:=rk) (W:=W) (v:=W-1) hh hW hpl (i:=i) hi
 have hln:(X4 rk W (W-1)).length=W:=by rw[ly];omega
 have hlens:J5 (X4 rk W (W-1))=1:=by rw[vV];rfl
 have hfitA:∀i<(X4 rk W (W-1)).length,dU pl (K5 (j3 h (kOf r) (kb r) (tnB r) pl) [] (X4 rk W (W-1)) i).length:=λi hi=>V6 (ps:=[]) (λv _=>Mb v) (MI hi)
 have wrep:U4 (.tuple ((X4 rk W (W-1)).map btD))=true:=yt (by omega) λb hb=>by
  rcases Li.1 hb with hb | hb
  .simp only[Lh,Mn,Nt]at hb;subst hb;refine⟨by simp,λc hc=>?_⟩;simp only[Lh,Mn,Nt]at hc;subst hc;exact⟨k0,k1,by show(1:Int)<=(W:Int);omega,by show(W:Int)<=1000;omega⟩
  .rw[Nk hb];exact⟨by simp,λc hc=>by cases hc⟩
 have crep:U4 (.list [.tuple [.str "gone",.int 0,.int (W:Int),.int 0]])=true:=by
  have g:asc "gone":=by unfold asc;decide +kernel
  refine((Sml.lst (c:=5) (k:=1) λd hd=>?_).mono (N':=100) (k':=2) (by simp) (by decide)).repr (by decide) (by decide);simp only[Lh,Mn,Nt]at hd;subst hd;walk_at "kr";rcases hd with rfl | rfl | rfl | rfl
  .exact Gb (by decide +kernel) g
  .exact qH (by omega) (by omega)
  .exact qH (by omega) (by omega)
  .exact qH (by omega) (by omega)
 refine k9.2 (x4.2 (u7.2 (u7.2 (u7.2 (l6.2 (n9 rfl (u6.2 (d6 rfl (u6.2 (d6 rfl (u6.2 (d6 rfl ⟨l3 rfl,j5 ?_⟩))))))))))));refine k9.2 (x4.2 (v4.2 (E3.2 (v5.2 (v6 rfl (E3.2 (v5.2 (v6 rfl (A4.2 ?_)))))))));rw[cV];have hst:=Aj (h:=h) (k:=kOf r) (kp:=kb r) (tn:=tnB r) (pl:=pl) (r:=rk) (W:=W) hh hW hpl;refine dG hr hh (λi hi=>V6 (ps:=[]) (λv _=>Mb v) (MI hi)) CB (by show J5 [[(rk,(W:Int))]]<64;unfold J5;simp) (by simp) ?_ ?_ λv hv h0 hne=>?_
 .rw[hst];unfold K1;split
  .exact λp hp=>by cases hp
  .intro p hp;simp only[Lh,Mn,Nt]at hp;subst hp;show(1:Int)<=(W:Int)-((0+1:Nat):Int);omega
 .rw[hst];unfold K1 X5;split
  .simp
  .simp;omega
 have ev:v=W-1:=by
  rw[hst]at h0;have h1:W<=v+1:=by
   unfold K1 at h0;split at h0
   .omega
   .cases h0
  by_cases hlt:W-1<v
  .have:=hne (W-1) hlt;rw[hst]at this;exact absurd (show K1 rk W (kb r) (W-1+1)=[] from by unfold K1;rw[Lg (.inr (by omega))]) this
  .omega
 subst ev;refine⟨l3 rfl,j5 (k9.2 ?_)⟩;refine U9.2 (jY.2 (V9.2 (u7.2 (M2.2 (c6.2 (l6.2 (n9 rfl (f9.2 (d6 (cM wrep) (M2.2 (c6.2 (u7.2 (l6.2 (n9 rfl (u7.2 (u6.2 (u7.2 (l6.2 (n9 rfl (u6.2 (d6 dE ?_)))))))))))))))))))));rw[eW];refine d6 (AM (by omega)) (d6 (yf (by simp;omega)) (f9.2 ?_));rw[<-LD];refine d6 (cM wrep) (d6 jF (d6 rfl (T5.2 ?_)));refine V9.2 (u7.2 (M2.2 (c6.2 (v4.2 (E3.2 (v5.2 (v6 rfl (E3.2 (v5.2 (v6 rfl (A4.2 ?_)))))))))));rw[pZ];refine qg hr hh hW (by omega) hpl (f9.2 ?_);rw[show goD 0 W 0=My.tuple [.str "gone",.int 0,.int (W:Int),.int 0] from rfl];refine d6 (cM crep) (M2.2 (c6.2 (lT.2 (c6.2 (L8.2 (c6.2 (u6.2 (c6.2 (u6.2 (c6.2 (v5.2 (v6 rfl (c6.2 (u6.2 (f9.2 ⟨A7 rfl,f9.2 ⟨A7 rfl,f9.2 (d6 (cM crep) (d6 jF (d6 rfl (T5.2 (X6.2 (j5 (k9.2 ?_)))))))⟩⟩)))))))))))))));refine aI.2 (v4.2 (E3.2 (v5.2 (v6 rfl (E3.2 (v5.2 (v6 rfl (E3.2 (u6.2 (A4.2 ?_))))))))));rw[Dt];refine Bs (ps:=[]) hr hfitA (by rw[hlens];simp) (by rw[hln];omega) (d6 rfl (j5 (k9.2 ?_)));rw[hln];have es:(List.range (W+1)).map (λi=>stD (K5 (j3 h (kOf r) (kb r) (tnB r) pl) [] (X4 rk W (W-1)) i))=(List.range (W+1)).map λi=>stD (K1 rk W (kb r) i):=Me λi hi=>by have:=LR.1 hi;rw[hone i (by omega)]
 have el:(List.range W).map (λi=>My.int (X7 pl (K5 (j3 h (kOf r) (kb r) (tnB r) pl) [] (X4 rk W (W-1)) i) (x9 (X4 rk W (W-1)) i):Nat))=j4 (List.replicate W 0):=by unfold j4;rw[Pp,List.eq_replicate_iff];refine⟨by simp,λb hb=>?_⟩;obtain⟨i,hi,rfl⟩:=LN.1 hb;have hi:=LR.1 hi;rw[hone i (by omega),kg hpl]
 have eg:(List.range W).map (λi=>My.int (cL h (kOf r) (kb r) pl (K5 (j3 h (kOf r) (kb r) (tnB r) pl) [] (X4 rk W (W-1)) i) (x9 (X4 rk W (W-1)) i):Nat))=j4 (List.replicate (W-1) 0++[1]):=by
  rw[<-tQ hW];unfold j4;rw[LQ];refine Me λi hi=>?_
  have hi:=LR.1 hi;rw[hone i (by omega),tE hh hW hpl hi];rfl
 rw[es,el,eg];refine U9.2 (jY.2 (V9.2 (u7.2 (gh.2 (P3.2 (l6.2 (n9 rfl (d6 cZ ⟨sz (by simp;omega),?_⟩))))))));refine FG (x:=λi=>stD (K1 rk W (kb r) i)) (f:=λi=>My.int ((K1 rk W (kb r) i).length:Nat)) (List.range (W+1)) _ (λi hi F Q q=>?_) ?_
 .refine M2.2 (c6.2 (l6.2 (n9 rfl (f9.2 (d6 dF ?_)))));rw[Lf];exact q
 have e1:(List.range (W+1)).map (λi=>My.int ((K1 rk W (kb r) i).length:Nat))=j4 ([0]++List.replicate (W-1) 1++[0]):=by rw[<-zU (r:=rk) (kp:=kb r) hW];unfold j4;rw[LQ];rfl
 rw[e1];have hsm:∀x∈([0]++List.replicate (W-1) 1++[0]:List Nat),x<=1000:=λx hx=>by
  simp only[Li,Lh,Mn,Nt]at hx;rcases hx with (rfl | hx) | rfl
  .omega
  .rw[Nk hx];omega
  .omega
 have hs0:∀x∈(List.replicate W 0:List Nat),x<=1000:=λx hx=>by rw[Nk hx];omega
 have hs1:∀x∈(List.replicate (W-1) 0++[1]:List Nat),x<=1000:=λx hx=>by
  rcases Li.1 hx with hx | hx
  .rw[Nk hx];omega
  .simp only[Lh,Mn,Nt]at hx;omega
 refine u7.2 (u7.2 (u6.2 (u7.2 (u6.2 (u7.2 (l6.2 (n9 rfl (u6.2 (d6 dE ?_)))))))));rw[eW];refine d6 (wY (by omega)) (d6 (vb (by simp;omega)) (u6.2 (d6 (vb (by simp;omega)) ?_)));have e2:[My.int 0]++List.replicate (W-1) (My.int 1)++[My.int 0]=j4 ([0]++List.replicate (W-1) 1++[0]):=by unfold j4;rw[LD,LD,Pp];rfl
 rw[e2];refine d6 (neL hsm) (d6 rfl (T5.2 (V9.2 (u7.2 (l6.2 (n9 rfl (u7.2 (u6.2 (l6.2 (n9 rfl (d6 (DS (d:=0) (by omega)) (d6 (eqT hs0 true) (d6 rfl (T5.2 (X6.2 (j5 ?_))))))))))))))));refine aw.2 (u7.2 (l6.2 (n9 rfl (u7.2 (u7.2 (u6.2 (u7.2 (l6.2 (n9 rfl (u6.2 (d6 dE ?_)))))))))));rw[eW];refine d6 (DS (d:=0) (by omega)) (u6.2 (d6 (yf (by rw[J6];simp;omega)) ?_));have e3:j4 (List.replicate (W-1) 0)++[My.int 1]=j4 (List.replicate (W-1) 0++[1]):=by unfold j4;rw[LD];rfl
 rw[e3];exact d6 (eqT hs1 false) (bL ⟨rfl,rfl⟩)
def Ck {F:FdS}(hF:F.t+10<=199999):wp (j8 [.feed] F) λd F'=>d = .bool true/\F'.t<=F.t+10:=by
 unfold j8;walk_at "kg";refine k9.2 (x4.2 (L8.2 (c6.2 (L8.2 (c6.2 (L8.2 (c6.2 (v4.2 (ji.2 (ij rfl (E3.2 (u6.2 (A4.2 ?_)))))))))))));refine K7 (by decide) (by decide) (by omega) λrk F1 k0 k1 t1=>?_
 refine c6.2 (u7.2 (u6.2 (v4.2 (ji.2 (ij rfl (E3.2 (u6.2 (A4.2 ?_))))))));refine K7 (by decide) (by decide) (by omega) λw F2 w0 w1 t2=>?_
 refine d6 ja (f9.2 ⟨A7 rfl,f9.2 ⟨A7 rfl,f9.2 ⟨A7 rfl,l3 rfl,j5 ?_⟩⟩⟩);refine k9.2 (W7.2 (eP.2 (c6.2 (u7.2 (u6.2 (v4.2 (ji.2 (ij rfl (E3.2 (u6.2 (A4.2 ?_)))))))))));refine K7 (by decide) (by decide) (by omega) λy F3 y0 y1 t3=>?_
 obtain⟨n,en⟩:∃n:Nat,45+y=(n:Int):=⟨(45+y).toNat,by omega⟩;refine d6 ja (f9.2 ?_);rw[en];refine d6 (vU (by omega)) ?_;refine G7 (λm E F=>F=F3/\∃o2,E=[some .feed,some (.dat (qI rk (1+w+6*m))),o2,none,none,none,none,none,none]) _ 0 _ _ ⟨rfl,none,by simp⟩ ?_ ?_
 .rintro m dm em E F4 ⟨rfl,o2,rfl⟩;refine⟨_,rfl,?_⟩;refine x4.2 (u7.2 (v4.2 (E3.2 (v5.2 (v6 rfl (E3.2 (u6.2 (E3.2 (u6.2 (A4.2 ?_))))))))));refine AA (u6.2 (d6 rfl ⟨l3 rfl,_,rfl,rfl,some (.dat dm),?_⟩));have e1:1+w+6*((0+m:Nat):Int)+6=1+w+6*((0+m+1:Nat):Int):=by omega
  rw[e1];rfl
 .rintro E F4 ⟨rfl,o2,rfl⟩;refine j5 ?_;rw[bT];obtain⟨W,eW,hW,hW2⟩:∃W:Nat,1+w+6*((0+n:Nat):Int)=(W:Int)/\1<=W/\W<=490:=⟨(1+w+6*((0+n:Nat):Int)).toNat,by omega,by omega,by omega⟩;rw[eW];refine k9.2 (x4.2 (L8.2 (c6.2 (u7.2 (u6.2 (v4.2 (ji.2 (ij rfl (E3.2 (u6.2 (A4.2 ?_)))))))))));refine K7 (by decide) (by decide) (by omega) λhv F5 v0 v1 t5=>?_
  refine d6 ja (c6.2 (u7.2 (u6.2 (v4.2 (ji.2 (ij rfl (E3.2 (u6.2 (A4.2 ?_)))))))));refine K7 (by decide) (by decide) (by omega) λu F6 u0 u1 t6=>?_
  obtain⟨pl,e,hpl⟩:∃pl:Option Nat,ixD (.list [.none,.int 1,.int 6]) (.int u)=some (plD pl)/\A5 pl 0 1=1:=by
   have:u=0\/u=1\/u=2:=by omega
   rcases this with rfl | rfl | rfl
   .exact⟨none,rfl,rfl⟩
   .exact⟨some 1,rfl,rfl⟩
   .exact⟨some 6,rfl,rfl⟩
  refine d6 e (c6.2 (v4.2 (ji.2 (ij rfl (A4.2 ?_)))));rw[zg];refine nr.wp (by omega) λr F7 t7 hr=>?_
  obtain⟨h,eh,g1⟩:∃h:Nat,1+hv=(h:Int)/\1<=h:=⟨(1+hv).toNat,by omega,by omega⟩;rw[eh];refine f9.2 ⟨A7 rfl,l3 rfl,j5 ?_⟩;refine i8 (yW (F:=F7) (o2:=o2) hr g1 hpl hW hW2 k0 (by omega)) λo F8 hq=>?_
  cases o with
  | rt d =>obtain⟨rfl,rfl⟩:=hq;exact⟨rfl,by omega⟩
  | nx E=>obtain⟨h1,h2⟩:=hq;cases h1
  | bk E=>cases hq
  | ct E=>cases hq
def Dx:aL=LM.IV:=rfl
def PD (o:Option DV):Prop:=o=none\/∃d,o=some (.dat d)
def PD.dat {d:My}:PD (some (.dat d)):=.inr ⟨d,rfl⟩
def PD.no:PD none:=.inl rfl
def PD.hid {o:Option DV}(h:PD o)(fd:PU):U7 fd o=o:=by rcases h with rfl | ⟨d,rfl⟩ <;> rfl
def PD.back {o:Option DV}(h:PD o)(x:Option DV):aU o x=x:=by rcases h with rfl | ⟨d,rfl⟩ <;> rfl
def PD.noOwn {o:Option DV}{E:DE}(h:PD o)(hE:noOwn E=true):noOwn (o::E)=true:=by rcases h with rfl | ⟨d,rfl⟩ <;> exact hE
theorem rW {QA:List Bt}{o:Option DV}(h:PD o):∀m,PD (bP QA o m)
 | 0=>h
 | m+1=>PD.dat
def BJ {i0 j:Nat}{mkh:My->Option Regs.S}{m:DE->@M K2 Out}{E E2:DE}{h:My}{μ0:Regs.S}{F:FdS}{Q:Out->FdS->Prop}(hj:E[j]? = some (some (.dat h)))(hm:mkh h=some μ0)(no:noOwn E=true)(hi:i0<E.length)(no2:noOwn E2=true)(hr:gf i0 E ((N6 0 E2).set i0 (some (.adr 0)))=E2)
  (KZ:∀fd d:PU,wp (m ((N6 fd E).set i0 (some (.adr d))) μ0) λo _=>o = .nx ((N6 fd E2).set i0 (some (.adr d)))) (q:Q (.nx E2) F):wp (nH i0 j mkh m E F) Q:=by
 have hp:rD i0 m μ0 E E2:=⟨no2,λfd d=>by obtain⟨o,μ',e,rfl⟩:=KZ fd d;exact⟨μ',e⟩⟩
 refine⟨_,_,?_,q⟩;unfold nH;rw[Lg ⟨no,hi⟩,hj];dsimp only;rw[hm,LC,zJ hp hr,LC]
def DF {h:Nat}{pl:Option Nat}{r:My}{QA:List Bt}{V:Nat}{F:FdS}{Q:Out->FdS->Prop}{t2:My}{o5 o6 o7 o8 o9:Option DV}(p5:PD o5)(p6:PD o6)(p7:PD o7)(p8:PD o8)(p9:PD o9)(hr:r∈W8)(hw:WayOk 24 QA)(hV:V<=500)
  (hV0:stV (j3 h (kOf r) (kb r) (tnB r) pl) QA V=[]) (hVn:∀u<V,stV (j3 h (kOf r) (kb r) (tnB r) pl) QA u≠[])
  (q:Q (.nx [none,some .feed,some (.dat t2),some (.dat (hsD h pl r)),some (.dat (wyD QA)),none,bP QA o6 QA.length,some (.dat (.tuple ((QA++List.replicate V []).map btD))),o8,o9]) F) :
  wp (ay [none,some .feed,some (.dat t2),some (.dat (hsD h pl r)),some (.dat (wyD QA)),o5,o6,o7,o8,o9] F) Q:=by
 obtain⟨x,rfl,_⟩:=R3 hr;have h1:=hw.len;have h2:=hw.many;have ps:=rW (QA:=QA) p6 QA.length;unfold ay;refine BJ (E2:=[none,some .feed,some (.dat t2),some (.dat (hsD h pl (.str x))),some (.dat (wyD QA)),none,bP QA o6 QA.length,some (.dat (.tuple ((QA++List.replicate V []).map btD))),o8,o9]) (h:=hsD h pl (.str x)) (μ0:=LM.mac0 h pl x) rfl LM.mk_house (p5.noOwn (p6.noOwn (p7.noOwn (p8.noOwn (p9.noOwn rfl))))) (l3 rfl) (ps.noOwn (p8.noOwn (p9.noOwn rfl))) ?_ (λfd d=>?_) q
 .show[aU none (U7 0 none),aU (some .feed) _,aU (some (.dat t2)) _,aU (some (.dat (hsD h pl (.str x)))) _,aU (some (.dat (wyD QA))) _,none,aU o6 (U7 0 (bP QA o6 QA.length)),aU o7 (U7 0 _),aU o8 (U7 0 o8),aU o9 (U7 0 o9)]=_;rw[p6.back,p7.back,p8.back,p9.back,ps.hid,p8.hid,p9.hid];rfl
 .rw[Dx];have e1:(N6 fd [none,some .feed,some (.dat t2),some (.dat (hsD h pl (.str x))),some (.dat (wyD QA)),o5,o6,o7,o8,o9]).set 5 (some (.adr d))=[none,some (.adr fd),some (.dat t2),some (.dat (hsD h pl (.str x))),some (.dat (wyD QA)),some (.adr d),o6,o7,o8,o9]:=by show[none,some (.adr fd),some (.dat t2),some (.dat (hsD h pl (.str x))),some (.dat (wyD QA)),some (.adr d),U7 fd o6,U7 fd o7,U7 fd o8,U7 fd o9]=_;rw[p6.hid,p7.hid,p8.hid,p9.hid]
  have e2:(N6 fd [none,some .feed,some (.dat t2),some (.dat (hsD h pl (.str x))),some (.dat (wyD QA)),none,bP QA o6 QA.length,some (.dat (.tuple ((QA++List.replicate V []).map btD))),o8,o9]).set 5 (some (.adr d))=[none,some (.adr fd),some (.dat t2),some (.dat (hsD h pl (.str x))),some (.dat (wyD QA)),some (.adr d),bP QA o6 QA.length,some (.dat (.tuple ((QA++List.replicate V []).map btD))),o8,o9]:=by show[none,some (.adr fd),some (.dat t2),some (.dat (hsD h pl (.str x))),some (.dat (wyD QA)),some (.adr d),U7 fd (bP QA o6 QA.length),some (.dat (.tuple ((QA++List.replicate V []).map btD))),U7 fd o8,U7 fd o9]=_;rw[ps.hid,p8.hid,p9.hid]
  rw[e1,e2];exact LM.blk21_w hr (λb hb c hc=>(hw.ok b hb c hc).2.2.1) (by omega) (by omega) (by omega) hV0 hVn
def wb {pl:Option Nat}{ps:List Pn}{bt:Bt}(h1:gH ps)(h2:zu bt):gH (z9 pl ps bt):=λp hp=>by
 unfold z9 at hp;rcases Li.1 hp with hp | hp
 .exact h1 p hp
 .obtain⟨c,hc,rfl⟩:=LN.1 hp;exact h2 c (Nx hc)
def uW {pl:Option Nat}{ps:List Pn}{bt:Bt}(h2:zu bt):X5 (z9 pl ps bt)<=X5 ps+xf bt:=by
 unfold z9 X5 xf;rw[LD,Oq,LQ];have:∀(l:Bt) (n:Nat),zu l->((l.take n).map ((λp:Pn=>p.2.1) ∘ λc=>(c.1,c.2,false))).sum<=(l.map λc=>c.2).sum:=λl=>by
  induction l with
  | nil=>intro n _;simp
  | cons c l ih =>
   intro n hl;have hc:=hl c Lq;have h3:=ih 0 λx hx=>hl x (Le _ hx)
   cases n with
   | zero =>simp at h3 ⊢;omega
   | succ n =>
    have h4:=ih n λx hx=>hl x (Le _ hx)
    simp only[Ol,Lu,MT,Function.comp]at h4 ⊢;omega
 have:=this bt (A5 pl ps.length bt.length) h2;omega
theorem kl {h k:Nat}{kp tn:Bool}{pl:Option Nat}{QA:List Bt}(hw:∀b∈QA,∀c∈b,ue c):∀{i:Nat},i<=QA.length->gH (K5 (j3 h k kp tn pl) [] QA i)/\X5 (K5 (j3 h k kp tn pl) [] QA i)<=6*J5 (QA.take i)
 | 0,_=>by rw[V4];exact⟨λp hp=>(by cases hp),by show(0:Int)<=_;omega⟩
 | i+1,hi=>by
  obtain⟨a1,a2⟩:=kl hw (h:=h) (k:=k) (kp:=kp) (tn:=tn) (pl:=pl) (i:=i) (by omega);have hb:zu (x9 QA i):=λc hc=>(oD hw i c hc).2.2.1
  have hs:=As (oD hw i);have f1:=wb (pl:=pl) a1 hb;have f2:=uW (pl:=pl) (ps:=K5 (j3 h k kp tn pl) [] QA i) hb;rw[V2 (by omega),af (by omega)];unfold j3 at f1 f2 a2 ⊢;refine⟨oo f1,?_⟩;rw[jT f1];omega
def EM {h:Nat}{pl:Option Nat}{r:My}{QA:List Bt}{F:FdS}{Q:My->FdS->Prop}(hr:r∈W8)(hh:1<=h)(hw:WayOk 24 QA)(q:∀v:Nat,v<=500->stV (j3 h (kOf r) (kb r) (tnB r) pl) QA v=[]->(∀u<v,stV (j3 h (kOf r) (kb r) (tnB r) pl) QA u≠[])->Q (.tuple ((QA++List.replicate v []).map btD)) F):wp (u8 [.dat (hsD h pl r),.dat (wyD QA)] F) Q:=by rw[cV];have hsum:=kl (h:=h) (k:=kOf r) (kp:=kb r) (tn:=tnB r) (pl:=pl) hw.ok (i:=QA.length) (Ln _);have hlen:=hw.len;have hmany:=hw.many;refine dG hr hh (λi hi=>V6 (ps:=[]) (λv _=>Mb v) (MI hi)) CB (by omega) (by omega) hsum.1 ?_ q;have h2:=hsum.2;show X5 (K5 _ [] QA QA.length)<=500;rw[Oh]at h2;omega
def FO {h:Nat}{pl:Option Nat}{r:My}{QA:List Bt}(hr:r∈W8)(hh:1<=h)(hw:WayOk 24 QA):∃v:Nat,v<=500/\stV (j3 h (kOf r) (kb r) (tnB r) pl) QA v=[]/\∀u<v,stV (j3 h (kOf r) (kb r) (tnB r) pl) QA u≠[]:=by
 obtain⟨_,_,_,e⟩:=EM (h:=h) (pl:=pl) (F:=iG []) (Q:=λ_ _=>∃v:Nat,v<=500/\stV (j3 h (kOf r) (kb r) (tnB r) pl) QA v=[]/\∀u<v,stV (j3 h (kOf r) (kb r) (tnB r) pl) QA u≠[]) hr hh hw λv h1 h2 h3=>⟨v,h1,h2,h3⟩
 exact e
def EI {st:Nat->List Pn}{v V:Nat}(h0:st v=[])(hn:∀u<v,st u≠[])(H0:st V=[])(Hn:∀u<V,st u≠[]):v=V:=by
 by_cases h1:v<V
 .exact absurd h0 (Hn v h1)
 .by_cases h2:V<v
  .exact absurd H0 (hn V h2)
  .omega
def Bo {h:Nat}{pl:Option Nat}{r:My}{QA:List Bt}{V:Nat}{F:FdS}{Q:My->FdS->Prop}(hr:r∈W8)(hh:1<=h)(hw:WayOk 24 QA)(hV:V<=500)(hV0:stV (j3 h (kOf r) (kb r) (tnB r) pl) QA V=[])(q:Q (.tuple ((QA++List.replicate V []).map btD)) F):wp (u8 [.dat (hsD h pl r),.dat (.tuple ((QA++List.replicate V []).map btD))] F) Q:=by
 rw[cV];have hlen:=hw.len;have hmany:=hw.many;have e0:stV (j3 h (kOf r) (kb r) (tnB r) pl) (QA++List.replicate V []) 0=[]:=by show K5 _ [] (QA++List.replicate V []) (QA++List.replicate V []).length=[];rw[show(QA++List.replicate V ([]:Bt)).length=QA.length+V from by simp,vR (Ln _)];exact hV0
 refine dG hr hh (λi hi=>V6 (ps:=[]) (λv _=>Mb v) (MI hi)) CB (by rw[vV];omega) (by simp;omega) (by rw[e0];exact λp hp=>by cases hp) (by rw[e0];decide) λv hv h0 hne=>?_
 have:v=0:=by
  by_cases hz:0<v
  .exact absurd e0 (hne 0 hz)
  .omega
 subst this;rw[List.replicate_zero,Mh];exact q
def Fq {h:Nat}{pl:Option Nat}{r:My}{F:FdS}{Q:My->FdS->Prop}(hr:r∈W8)(hh:1<=h)(q:Q (.tuple []) F):wp (u8 [.dat (hsD h pl r),.dat (.tuple [])] F) Q :=
 Bo (QA:=[]) (V:=0) hr hh ⟨by simp,by simp[J5],λb hb=>by cases hb⟩ (by omega) rfl q
def sU:U4 (.tuple [])=true:=((Sml.tup (c:=1) (k:=0) (ds:=[]) λd hd=>by cases hd).mono (N':=100) (k':=2) (by simp) (by decide)).repr (by decide) (by decide)
abbrev nxt (o:Out):Prop:=∃o2 o3 o4 o5 o6 o7 o8 o9,PD o5/\PD o6/\PD o7/\PD o8/\PD o9/\o = .nx [none,some .feed,o2,o3,o4,o5,o6,o7,o8,o9]
def CM {F:FdS}(hF:F.t+300<=199999)(d2:My)(o3 o4 o5 o6 o7 o8 o9:Option DV)(p5:PD o5)(p6:PD o6)(p7:PD o7)(p8:PD o8)(p9:PD o9):wp ((mSq aj (mSq av (mSq ay (mSq ax (mSq ah aq))))) [none,some .feed,some (.dat d2),o3,o4,o5,o6,o7,o8,o9] F) λo F'=>F'.t<=F.t+250/\nxt o:=by
 refine k9.2 ?_;unfold aj;rw[iK];refine x4.2 (v4.2 (ji.2 (ij rfl (A4.2 ?_))));refine tq.wp (by omega) λd1 F1 t1 hd1=>?_
 obtain⟨h,pl,r,rfl,hh1,hh3,hr,hpl⟩:=hd1;refine⟨l3 rfl,j5 (k9.2 ?_)⟩;unfold av;rw[wd];refine x4.2 (v4.2 (ji.2 (ij rfl (A4.2 ?_))));refine(wz rfl).wp (by omega) λd2' F2 t2 hd2=>?_
 obtain⟨QA,rfl,hw⟩:=hd2;refine⟨l3 rfl,j5 (k9.2 ?_)⟩;have hlen:=hw.len;have hmany:=hw.many;obtain⟨V,hV,hV0,hVn⟩:=FO (h:=h) (pl:=pl) hr hh1 hw;refine DF (V:=V) p5 p6 p7 p8 p9 hr hw hV hV0 hVn (j5 ?_);have ps:=rW (QA:=QA) p6 QA.length;have hsw:=Gf hw;have wrep:U4 (wyD QA)=true:=hsw.repr (by decide) (by decide);have drep:U4 (.tuple ((QA++List.replicate V []).map btD))=true:=by
  have hv:Sml (1+1*((List.replicate V ([]:Bt)).map btD).length) 3 (.tuple ((List.replicate V ([]:Bt)).map btD)):=(Sml.tup (c:=1) (k:=2) λd hd=>by obtain⟨b,hb,rfl⟩:=LN.1 hd;rw[Nk hb];exact(sBt (b:=[]) λc hc=>by cases hc).mono (by simp) (Ln _))
  have key:Sml 4000 3 (.tuple ((QA++List.replicate V []).map btD)):=by
   rw[LD];have a1:=hsw.sc;have a2:=hsw.dp;have a3:=hsw.ct;have b1:=hv.sc;have b2:=hv.dp;have b3:=hv.ct;rw[Lf,Nu]at b3;simp only[sml,V8,My.depth,cnt]at a1 a2 a3 b1 b2 b3;refine⟨?_,?_,?_⟩
   .simp only[sml,V8];intro d hd;rcases Li.1 hd with hd | hd
    .exact a1 d hd
    .exact b1 d hd
   .simp only[My.depth];have:My.depthAll (QA.map btD++(List.replicate V ([]:Bt)).map btD)<=2:=P6.2 λd hd=>by
     rcases Li.1 hd with hd | hd
     .exact P6.1 (show My.depthAll (QA.map btD)<=2 by omega) d hd
     .exact P6.1 (show My.depthAll ((List.replicate V ([]:Bt)).map btD)<=2 by omega) d hd
    omega
   .simp only[cnt,gv];omega
  exact key.repr (by decide) (by decide)
 refine k9.2 ?_;unfold ax;refine x4.2 (M2.2 (c6.2 (l6.2 (n9 rfl (f9.2 (d6 (cM wrep) ⟨l3 rfl,j5 (k9.2 ?_)⟩))))));unfold ah;refine W7.2 (P3.2 (L8.2 (c6.2 (v5.2 (v6 rfl (c6.2 (v5.2 (v6 rfl (f9.2 ⟨A7 rfl,d6 cZ ?_⟩)))))))));refine G7 (λm E F'=>F'=F2/\∃o9,PD o9/\E=[none,some .feed,some (.dat d2),some (.dat (hsD h pl r)),some (.dat (wyD QA)),none,bP QA o6 QA.length,some (.dat (.tuple ((QA++List.replicate V []).map btD))),some (.dat (.str (wyD QA).shown)),o9]) _ 0 _ _ ⟨rfl,o9,p9,rfl⟩ ?_ ?_
 .rintro m dm em E F3 ⟨rfl,o9',p9',rfl⟩;refine⟨_,rfl,?_⟩;refine U9.2 (V9.2 (u7.2 (M2.2 (c6.2 (v4.2 (E3.2 (v5.2 (v6 rfl (E3.2 (v5.2 (v6 rfl (A4.2 ?_))))))))))));have go:∀(Q:My->FdS->Prop),Q (.tuple ((QA++List.replicate V []).map btD)) F3->wp (u8 [.dat (hsD h pl r),.dat dm] F3) Q:=λQ q=>by
   have hm:m<2:=(Lj.1 em).1;by_cases h0:m=0
   .subst h0;cases em;exact EM hr hh1 hw λv hv hv0 hvn=>by rw[EI hv0 hvn hV0 hVn];exact q
   .have h1:m=1:=by omega
    subst h1;cases em;exact Bo hr hh1 hw hV hV0 q
  exact go _ (f9.2 (d6 (cM drep) (M2.2 (c6.2 (l6.2 (n9 rfl (f9.2 (d6 (cM drep) (d6 jF (d6 rfl (T5.2 (X6.2 ⟨_,rfl,rfl,_,PD.dat,rfl⟩))))))))))))
 .rintro E F3 ⟨rfl,o9',p9',rfl⟩;refine j5 ?_;unfold aq;refine U9.2 (jY.2 (V9.2 (u7.2 (M2.2 (c6.2 (l6.2 (n9 rfl (f9.2 (d6 (cM wrep) (l6.2 (n9 rfl (d6 jF (d6 rfl (T5.2 ?_))))))))))))));refine V9.2 (u7.2 (M2.2 (c6.2 (v4.2 (E3.2 (v5.2 (v6 rfl (E3.2 (u6.2 (A4.2 ?_))))))))));exact Fq hr hh1 (f9.2 (d6 (cM sU) (M2.2 (c6.2 (u6.2 (f9.2 (d6 (cM sU) (d6 jF (d6 rfl (T5.2 (X6.2 ⟨by omega,_,_,_,_,_,_,_,_,PD.no,ps,PD.dat,PD.dat,p9',rfl⟩)))))))))))
def fin (ns:List Int):∃F',oG ([none,some .feed]++List.replicate 8 none) (iG ns)=some (.rt (.bool true),F'):=by
 have key:wp (oG ([none,some .feed]++List.replicate 8 none) (iG ns)) λo _=>o = .rt (.bool true):=by
  have h0:(iG ns).t=0:=rfl;unfold oG;refine k9.2 ?_;have last:∀F1:FdS,F1.t<=20->wp ((mSq gP eR) [none,some .feed,none,none,none,none,none,none,none,none] F1) λo _=>o = .rt (.bool true):=λF1 t1=>by
   refine k9.2 ?_;unfold gP;refine W7.2 (eP.2 (c6.2 (u6.2 (f9.2 (d6 rfl ?_)))));refine G7 (λj E F=>F.t<=20+250*j/\∃o2 o3 o4 o5 o6 o7 o8 o9,PD o5/\PD o6/\PD o7/\PD o8/\PD o9/\E=[none,some .feed,o2,o3,o4,o5,o6,o7,o8,o9]) _ 0 _ F1 ⟨by omega,none,none,none,none,none,none,none,none,PD.no,PD.no,PD.no,PD.no,PD.no,rfl⟩ ?_ ?_
   .rintro j dj ej E F ⟨hF,o2,o3,o4,o5,o6,o7,o8,o9,p5,p6,p7,p8,p9,rfl⟩;have hj:j<2:=(Lj.1 ej).1;refine⟨_,rfl,?_⟩;refine i8 (CM (F:=F) (by omega) dj o3 o4 o5 o6 o7 o8 o9 p5 p6 p7 p8 p9) λo F' ⟨t',n⟩=>?_
    obtain⟨q2,q3,q4,q5,q6,q7,q8,q9,g5,g6,g7,g8,g9,e⟩:=n;exact⟨_,e,by omega,_,_,_,_,_,_,_,_,g5,g6,g7,g8,g9,rfl⟩
   .rintro E F ⟨_,o2,o3,o4,o5,o6,o7,o8,o9,_,_,_,_,_,rfl⟩;refine j5 ?_;unfold eR;exact aw.2 (u6.2 rfl)
  unfold gS;refine U9.2 (wF.2 (V9.2 (u7.2 (v4.2 (ji.2 (ij rfl (E3.2 (u6.2 (A4.2 ?_)))))))));refine K7 (by decide) (by decide) (by omega) λy F3 y0 y1 t3=>u6.2 (d6 eq0 (d6 rfl (V0 (λhy=>?_) λhy=>?_)))
  .refine qZ.2 (qJ.2 (v4.2 (ji.2 (ij rfl (A4.2 ?_)))));refine i8 (Ck (F:=F3) (by omega)) λd F4 ⟨e,t4⟩=>?_
   subst e;exact d6 rfl (T5.2 (X6.2 (j5 (last F4 (by omega)))))
  .exact T5.2 (X6.2 (j5 (last F3 (by omega))))
 obtain⟨o,F',e,rfl⟩:=key;exact⟨F',e⟩
end
section
def all_mk {l:PySem.W.OpenLaw}{w:PY}{K:PySem.W.Frag}{h:Qe}{mg:Str->Option PR}{fa flaw:PU}(X:K.In h)(G:h.Ns Qn mg)(hfa:mg "law" = some (.ref fa))
    {odlaw anlaw:Option PU} {sllaw:Array (Option PR)} {oclaw kVlaw dclaw pmlaw cdlaw ctlaw:PR}
    (alaw:PySem.W.nsIn K Qn "law" = some (some (.ref flaw))) (llaw:K.lookup flaw=some ⟨oclaw,odlaw,.func (PySem.W.fnOf "law" "law" (defArgs Gv) (defBody Gv) (defScope Gv) .none kVlaw dclaw pmlaw anlaw cdlaw ctlaw),sllaw⟩) (claw:PySem.W.codeIn K cdlaw "law" = true) (klaw:PySem.W.keepIn K (.ref flaw)=true)
    (JJ:L3.FI K "keeps" Iu)
    (Je:L3.FI K "let_in" HM)
    (Ie:L3.FI K "lined_up" GB)
    (Jf:L3.FI K "picked" HN)
    (Jg:L3.FI K "worked" Hg)
    (Kn:L3.FI K "step" IW)
    (KO:L3.FI K "run" Kl)
    (Hm:L3.FI K "after_beat" GV)
    (IA:L3.FI K "courses" GK)
    (IB:L3.FI K "drained" HV)
    (ID:L3.FI K "many_in" Hu)
    (Ig:L3.FI K "numbered" GW)
    (Ih:L3.FI K "told_way" GM)
    (GZ:L3.FI K "check_comer" GP)
    (Jh:L3.FI K "longer" HP)
    (HH:L3.FI K "_law_feed" Hh)
    (HI:L3.FI K "_law_next" Hi)
    (HJ:L3.FI K "_law_rule" Hj)
    (Ho:L3.FI K "_law_house" GX)
    (Ii:L3.FI K "_law_way" Hw)
    (GH:L3.FI K "_law_sized_way" GC)
    (Hq:L3.FI K "_law_ahead" GJ)
    (Hd:L3.FI K "_law_picked" GG)
    (HK:L3.FI K "_law_come" GN)
    (HL:L3.FI K "_law_beat" GO)
    (Ij:L3.FI K "_law_new" Hy)
    (GE:L3.FI K "_law_long_right" Gy)
    (zenumerate:PySem.W.nsIn K Qn "enumerate" = some none)
    (zint:PySem.W.nsIn K Qn "int" = some none)
    (zlen:PySem.W.nsIn K Qn "len" = some none)
    (zlist:PySem.W.nsIn K Qn "list" = some none)
    (zmin:PySem.W.nsIn K Qn "min" = some none)
    (zrange:PySem.W.nsIn K Qn "range" = some none)
    (zrepr:PySem.W.nsIn K Qn "repr" = some none)
    (zsorted:PySem.W.nsIn K Qn "sorted" = some none)
    (zsum:PySem.W.nsIn K Qn "sum" = some none)
    (ztuple:PySem.W.nsIn K Qn "tuple" = some none)
    {t_KEEPING:PU} {it_KEEPING:Array PR} {n_KEEPING:Nat} {dd_KEEPING:Option PU} {sl_KEEPING:Array (Option PR)} (ga_KEEPING:PySem.W.nsIn K Qn "KEEPING" = some (some (.ref t_KEEPING))) (gl_KEEPING:K.lookup t_KEEPING=some ⟨.type "tuple",dd_KEEPING,.seq it_KEEPING n_KEEPING,sl_KEEPING⟩) (gq_KEEPING:L3.strsOf it_KEEPING.toList=some (["first","last","short","front"]:List Str))
    (Hr:(PySem.W.tabIn K "lined_up").isSome=true)
    (Ik:(PySem.W.tabIn K "picked").isSome=true)
    (hnd0:decide (((L3.tabsK (["lined_up","picked"]:List Str) K).map (·.2.2)).Nodup)=true)
   :∃fd:Qb,(∀(s:PV) (v:PR),BindsTo s fd ⟨[v],[]⟩ [("_law_script",v)])/\∀base:Qe,K.In base->base.Ns Qn mg->BMd base mg->(∀t∈L3.tabsK (["lined_up","picked"]:List Str) K,PySem.W.CodeHd base t.2.1 t.2.2)->FnOk l.prog w K mg base CX0 8 fa fd ["_law_script"] (spLaw K):=by
  have hnd:(L3.tabP K).Nodup:=Mc hnd0;have e:=hfa.symm.trans (OU X G alaw);cases e;have T:Txt K mg:=⟨MN X G zenumerate,MN X G zint,MN X G zlen,MN X G zlist,MN X G zmin,MN X G zrange,MN X G zrepr,MN X G zsorted,MN X G zsum,MN X G ztuple,L3.gd_mk X G ga_KEEPING gl_KEEPING gq_KEEPING (by decide)⟩;obtain⟨_,_,Ko,KP,KQ,_⟩:=JJ.mk X G ["rule"] λ_ _ _ _ _ _ us hl=>by obtain⟨z0,rfl⟩:=L3.len_1 hl;rfl
  obtain⟨_,_,JP,KA,KB,_⟩:=Je.mk X G ["house","stand","beat"] λ_ _ _ _ _ _ us hl=>by obtain⟨z0,z1,z2,rfl⟩:=L3.len_3 hl;rfl
  obtain⟨_,_,IP,JZ,Ka,⟨_,_,_,Kb⟩,Kc⟩:=Ie.mk X G ["rule","stand"] λ_ _ _ _ _ _ us hl=>by obtain⟨z0,z1,rfl⟩:=L3.len_2 hl;rfl
  obtain⟨_,_,JQ,KC,KD,⟨_,_,_,KE⟩,KF⟩:=Jf.mk X G ["house","stand"] λ_ _ _ _ _ _ us hl=>by obtain⟨z0,z1,rfl⟩:=L3.len_2 hl;rfl
  obtain⟨_,_,JR,KG,KH,_⟩:=Jg.mk X G ["house","stand"] λ_ _ _ _ _ _ us hl=>by obtain⟨z0,z1,rfl⟩:=L3.len_2 hl;rfl
  obtain⟨_,_,KL,KS,KU,_⟩:=Kn.mk X G ["house","stand","beat"] λ_ _ _ _ _ _ us hl=>by obtain⟨z0,z1,z2,rfl⟩:=L3.len_3 hl;rfl
  obtain⟨_,_,KW,La,Lc,_⟩:=KO.mk X G ["house","way","stand"] λ_ _ _ _ _ _ us hl=>by obtain⟨z0,z1,z2,rfl⟩:=L3.len_3 hl;rfl
  obtain⟨_,_,Im,Jt,Ju,_⟩:=Hm.mk X G ["course","waited","gone_at"] λ_ _ _ _ _ _ us hl=>by obtain⟨z0,z1,z2,rfl⟩:=L3.len_3 hl;rfl
  obtain⟨_,_,Jv,Kq,Kr,_⟩:=IA.mk X G ["house","way"] λ_ _ _ _ _ _ us hl=>by obtain⟨z0,z1,rfl⟩:=L3.len_2 hl;rfl
  obtain⟨_,_,Jw,Ks,Kt,_⟩:=IB.mk X G ["house","way"] λ_ _ _ _ _ _ us hl=>by obtain⟨z0,z1,rfl⟩:=L3.len_2 hl;rfl
  obtain⟨_,_,Jx,Ku,Kv,_⟩:=ID.mk X G ["way"] λ_ _ _ _ _ _ us hl=>by obtain⟨z0,rfl⟩:=L3.len_1 hl;rfl
  obtain⟨_,_,IQ,Kd,Ke,_⟩:=Ig.mk X G ["way"] λ_ _ _ _ _ _ us hl=>by obtain⟨z0,rfl⟩:=L3.len_1 hl;rfl
  obtain⟨_,_,IR,Kf,Kg,_⟩:=Ih.mk X G ["rows"] λ_ _ _ _ _ _ us hl=>by obtain⟨z0,rfl⟩:=L3.len_1 hl;rfl
  obtain⟨_,_,HR,Ji,Jj,_⟩:=GZ.mk X G ["way","number"] λ_ _ _ _ _ _ us hl=>by obtain⟨z0,z1,rfl⟩:=L3.len_2 hl;rfl
  obtain⟨_,_,JS,KI,KJ,_⟩:=Jh.mk X G ["way","number","more"] λ_ _ _ _ _ _ us hl=>by obtain⟨z0,z1,z2,rfl⟩:=L3.len_3 hl;rfl
  obtain⟨_,_,IE,JE,JK,_⟩:=HH.mk X G ["_law_script"] λ_ _ _ _ _ _ us hl=>by obtain⟨z0,rfl⟩:=L3.len_1 hl;rfl
  obtain⟨_,_,IF,JF,JL,_⟩:=HI.mk X G ["_law_feed_here","_law_many"] λ_ _ _ _ _ _ us hl=>by obtain⟨z0,z1,rfl⟩:=L3.len_2 hl;rfl
  obtain⟨_,_,IG,JG,JM,_⟩:=HJ.mk X G ["_law_feed_here"] λ_ _ _ _ _ _ us hl=>by obtain⟨z0,rfl⟩:=L3.len_1 hl;rfl
  obtain⟨_,_,Io,Jq,Jy,_⟩:=Ho.mk X G ["_law_feed_here"] λ_ _ _ _ _ _ us hl=>by obtain⟨z0,rfl⟩:=L3.len_1 hl;rfl
  obtain⟨_,_,IS,JX,Kh,_⟩:=Ii.mk X G ["_law_feed_here","_law_beats","_law_works"] λ_ _ _ _ _ _ us hl=>by obtain⟨z0,z1,z2,rfl⟩:=L3.len_3 hl;rfl
  obtain⟨_,_,He,Iq,Ir,_⟩:=GH.mk X G ["_law_feed_here"] λ_ _ _ _ _ _ us hl=>by obtain⟨z0,rfl⟩:=L3.len_1 hl;rfl
  obtain⟨_,_,Ip,Jr,Jz,_⟩:=Hq.mk X G ["_law_rule_here","_law_one","_law_other"] λ_ _ _ _ _ _ us hl=>by obtain⟨z0,z1,z2,rfl⟩:=L3.len_3 hl;rfl
  obtain⟨_,_,HS,Jd,Jk,_⟩:=Hd.mk X G ["_law_m"] λ_ _ _ _ _ _ us hl=>by obtain⟨z0,rfl⟩:=L3.len_1 hl;rfl
  obtain⟨_,_,IH,JH,JN,_⟩:=HK.mk X G ["_law_m","_law_comers"] λ_ _ _ _ _ _ us hl=>by obtain⟨z0,z1,rfl⟩:=L3.len_2 hl;rfl
  obtain⟨_,_,II,JI,JO,_⟩:=HL.mk X G ["_law_m","_law_comers"] λ_ _ _ _ _ _ us hl=>by obtain⟨z0,z1,rfl⟩:=L3.len_2 hl;rfl
  obtain⟨_,_,IT,JY,Ki,_⟩:=Ij.mk X G ["_law_house_here"] λ_ _ _ _ _ _ us hl=>by obtain⟨z0,rfl⟩:=L3.len_1 hl;rfl
  obtain⟨_,_,GU,HZ,Il,_⟩:=GE.mk X G ["_law_feed_here"] λ_ _ _ _ _ _ us hl=>by obtain⟨z0,rfl⟩:=L3.len_1 hl;rfl
  have Flaw:=fun_mk (st:=Gv) llaw claw klaw;have blaw:=Flaw.binds (ps:=["_law_script"]) λ_ _ _ _ _ _ us hl=>by obtain⟨z0,rfl⟩:=L3.len_1 hl;rfl
  have mlaw:=OU X G alaw;refine⟨PySem.W.fnOf "law" "law" (defArgs Gv) (defBody Gv) (defScope Gv) .none kVlaw dclaw pmlaw anlaw cdlaw ctlaw,λs v=>.of_eq rfl,λbase _ _ BM hC=>?_⟩;have Hv:=L3.cal l.prog w base (Km Ko T ) KP Ko KQ;have GS:=L3.cal l.prog w base (JT JP T ) KA JP KB;obtain⟨GL,KR,JA⟩:=L3.lamB_mk (mg:=mg) (base:=base) Kc Kb (by decide) Hr hnd BM hC;have HA:=L3.cal l.prog w base (Jl IP T JA ) JZ IP Ka;obtain⟨Hf,KY,Kj⟩:=L3.lamB_mk (mg:=mg) (base:=base) KF KE (by decide) Ik hnd BM hC;have Iv:=L3.cal l.prog w base (JU JQ T Kj HA Hv) KC JQ KD;have GT:=L3.cal l.prog w base (JV JR T Iv Hv) KG JR KH;have HW:=L3.cal l.prog w base (Ky KL T GS GT) KS KL KU;have IM:=L3.cal l.prog w base (KM KW T HW) La KW Lc;have GY:=L3.cal l.prog w base (IJ Im T ) Jt Im Ju;have HY:=L3.cal l.prog w base (JB Jv T GS GT GY) Kq Jv Kr;have Gx:=L3.cal l.prog w base (JC Jw T IM HW) Ks Jw Kt;have HX:=L3.cal l.prog w base (JD Jx T ) Ku Jx Kv;have HB:=L3.cal l.prog w base (Jm IQ T ) Kd IQ Ke;have HC:=L3.cal l.prog w base (Jn IR T ) Kf IR Kg;have GQ:=L3.cal l.prog w base (Iw HR T HX) Ji HR Jj;have Iz:=L3.cal l.prog w base (JW JS T GQ HB HC) KI JS KJ;have Js:=L3.cal l.prog w base (IX IE T) JE IE JK;have Gp:=L3.cal l.prog w base (IZ IF T ) JF IF JL;have Gz:=L3.cal l.prog w base (Ja IG T Gp) JG IG JM;have Gu:=L3.cal l.prog w base (IK Io T Gp Gz) Jq Io Jy;have HD:=L3.cal l.prog w base (Jo IS T Gp) JX IS Kh;have Gr:=L3.cal l.prog w base (HQ He T Gp HD) Iq He Ir;have GA:=L3.cal l.prog w base (IL Ip T ) Jr Ip Jz;have GR:=L3.cal l.prog w base (Iy HS T GA) Jd HS Jk;have Hl:=L3.cal l.prog w base (Jb IH T ) JH IH JN;have Gs:=L3.cal l.prog w base (Jc II T Hl GR) JI II JO;have Gw:=L3.cal l.prog w base (Jp IT T ) JY IT Ki;have Gq:=L3.cal l.prog w base (HG GU T Gp Iz Gz Gx HY IM) HZ GU Il;exact KN Flaw T Js Gp Gq Gu Gr Gs Gw Gx (λns _=>fin ns)
def walk {l:PySem.W.OpenLaw}{q:PX}{loose:List Str}{XP:(Str->Option PR)->Qe->Prop}{YP:PY->Qe->Prop}{d:DefRec}{K:Params->PySem.W.Frag}(hn:l.most=some 63)(hdf:d.params.defaults=[])
  (hrec:((["lined_up","picked"]:List Str).all λx=>((PyProof.Rows.recsOf q).find? λe=>e.name == x).isSome)=true) (hnt:∀w:PY,PySem.W.noTabs (K w.params)=true)
  (hY:∀(w:PY) (h:Qe),YP w h->(K w.params).In h)
  (F:∀(w:PY) (mg:Str->Option PR) (fa:PU) (h:Qe),(K w.params).In h->h.Ns Qn mg->mg d.name=some (.ref fa) ->
   ∃fd:Qb,(∀(s:PV) (u:PR),BindsTo s fd ⟨[u],[]⟩ [("_law_script",u)])/\∀base:Qe,(K w.params).In base->base.Ns Qn mg->BMd base mg->(∀t∈L3.tabsK (["lined_up","picked"]:List Str) (K w.params),PySem.W.CodeHd base t.2.1 t.2.2)->FnOk l.prog w (K w.params) mg base CX0 8 fa fd ["_law_script"] (spLaw (K w.params))) :
  PySem.W.WalkO q loose XP YP l.row.toRowW d [] (λf vs=>PySem.call f vs) :=
 L3.walk_ofT (["lined_up","picked"]:List Str) (n:=63) (k:=8) (x:="_law_script") (CX:=λ_=>CX0) (sp:=λw=>spLaw (K w.params)) hn (by decide) hdf ⟨rfl,by decide,by decide,rfl⟩ hrec hnt hY F (λ_ _ a ns hl hS hT=>⟨a,ns,rfl,hS,hl,hT,λ_=>rfl⟩) λ_ _ _ _ _ z=>z
end
end K21
open PySem PySem.W PyProof.Rows
set_option maxRecDepth 100000 in
set_option maxHeartbeats 0 in
theorem PySem.Challenge.cw_hatchwaits_k21_ways_drained_holds : PySem.Challenge.rw_hatchwaits_k21_ways_drained.Holds := by
 w_on;o_law;k_head;(case hw=>w_witness2);k_fill;refine K21.walk (l:=PySem.Challenge.rw_hatchwaits_k21_ways_drained) rfl rfl (by first | rfl | kernel_rfl) (by intro w;first | kernel_rfl | with_unfolding_all rfl) (λw h Y=>PySem.W.km_in_of Y) ?F;case F =>
  intro w mg fa h KX G hmg
  refine' K21.all_mk KX G hmg ?alaw ?llaw ?claw ?klaw ?JJ ?Je ?Ie ?Jf ?Jg ?Kn ?KO ?Hm ?IA ?IB ?ID ?Ig ?Ih ?GZ ?Jh ?HH ?HI ?HJ ?Ho ?Ii ?GH ?Hq ?Hd ?HK ?HL ?Ij ?GE ?zenumerate ?zint ?zlen ?zlist ?zmin ?zrange ?zrepr ?zsorted ?zsum ?ztuple ?ga_KEEPING ?gl_KEEPING ?gq_KEEPING ?Hr ?Ik ?hnd0
  (case alaw=>k_is)
  (case llaw=>k_is)
  (case claw=>k_is)
  (case klaw=>k_is)
  (case JJ=>exact .of (by k_is) (by k_is) (by k_is) (by k_is))
  (case Je=>exact .of (by k_is) (by k_is) (by k_is) (by k_is))
  (case Ie=>exact .of (by k_is) (by k_is) (by k_is) (by k_is))
  (case Jf=>exact .of (by k_is) (by k_is) (by k_is) (by k_is))
  (case Jg=>exact .of (by k_is) (by k_is) (by k_is) (by k_is))
  (case Kn=>exact .of (by k_is) (by k_is) (by k_is) (by k_is))
  (case KO=>exact .of (by k_is) (by k_is) (by k_is) (by k_is))
  (case Hm=>exact .of (by k_is) (by k_is) (by k_is) (by k_is))
  (case IA=>exact .of (by k_is) (by k_is) (by k_is) (by k_is))
  (case IB=>exact .of (by k_is) (by k_is) (by k_is) (by k_is))
  (case ID=>exact .of (by k_is) (by k_is) (by k_is) (by k_is))
  (case Ig=>exact .of (by k_is) (by k_is) (by k_is) (by k_is))
  (case Ih=>exact .of (by k_is) (by k_is) (by k_is) (by k_is))
  (case GZ=>exact .of (by k_is) (by k_is) (by k_is) (by k_is))
  (case Jh=>exact .of (by k_is) (by k_is) (by k_is) (by k_is))
  (case HH=>exact .of (by k_is) (by k_is) (by k_is) (by k_is))
  (case HI=>exact .of (by k_is) (by k_is) (by k_is) (by k_is))
  (case HJ=>exact .of (by k_is) (by k_is) (by k_is) (by k_is))
  (case Ho=>exact .of (by k_is) (by k_is) (by k_is) (by k_is))
  (case Ii=>exact .of (by k_is) (by k_is) (by k_is) (by k_is))
  (case GH=>exact .of (by k_is) (by k_is) (by k_is) (by k_is))
  (case Hq=>exact .of (by k_is) (by k_is) (by k_is) (by k_is))
  (case Hd=>exact .of (by k_is) (by k_is) (by k_is) (by k_is))
  (case HK=>exact .of (by k_is) (by k_is) (by k_is) (by k_is))
  (case HL=>exact .of (by k_is) (by k_is) (by k_is) (by k_is))
  (case Ij=>exact .of (by k_is) (by k_is) (by k_is) (by k_is))
  (case GE=>exact .of (by k_is) (by k_is) (by k_is) (by k_is))
  (case zenumerate=>k_is)
  (case zint=>k_is)
  (case zlen=>k_is)
  (case zlist=>k_is)
  (case zmin=>k_is)
  (case zrange=>k_is)
  (case zrepr=>k_is)
  (case zsorted=>k_is)
  (case zsum=>k_is)
  (case ztuple=>k_is)
  (case ga_KEEPING=>k_is)
  (case gl_KEEPING=>k_is)
  (case gq_KEEPING=>first | rfl | k_is | with_unfolding_all rfl)
  (case Hr=>first | kernel_rfl | with_unfolding_all rfl)
  (case Ik=>first | kernel_rfl | with_unfolding_all rfl)
  (case hnd0=>first | kernel_rfl | with_unfolding_all rfl)
